import PyProof.Rows.All
import Wide.All
import OpenK.AllK
import Wide.FinOn
import Lean
import PyProof.EqAt
import PyProof.EqKinds
import PyProof.TupleCall
import PySem.Builtin.Str.Common
import PySem.Syntax
import PyProof.Rows.StrMadeLen
import PyProof.StrWalks
import PyProof.CompFree
import PyProof.ConsumeWalk
import PySem.Challenge.RW_trustways_k01_names_amounts_lines
set_option Elab.async false
set_option linter.all false
set_option maxRecDepth 100000
/-! THE HAND LAYER, for ints, bools, texts, own classes, DICTS (int and text keys), calls, loops. Paste it whole ahead of your own text; what your proof does not reach may be deleted. -/
namespace L2
open PySem PySem.Spec PyProof.Rows

/-- a key: an int or a str -/
abbrev Key := Sum Int Str
def keyIs : Key → Value → Bool
  | .inl k, v => Value.isInt k v
  | .inr x, v => Value.isStrOf x v
def keyH (w : World) : Key → Int
  | .inl k => hashInt k
  | .inr x => hashStr w x
theorem keyIs_shape : ∀ {k : Key} {v : Value}, keyIs k v = true → (∃ i t, k = Sum.inl i ∧ v = Value.int i t) ∨ (∃ x t, k = Sum.inr x ∧ v = Value.str x t)
  | .inl i, v, h => by
    obtain ⟨t, e⟩ := Value.isInt_shape (k := i) (v := v) h
    exact .inl ⟨i, t, rfl, e⟩
  | .inr x, v, h => by
    obtain ⟨t, e⟩ := Value.isStrOf_shape (x := x) (v := v) h
    exact .inr ⟨x, t, rfl, e⟩
theorem keyIs_int (i : Int) (t : Tok) : keyIs (.inl i) (.int i t) = true := by simp [keyIs, Value.isInt]
theorem keyIs_str (x : Str) (t : Tok) : keyIs (.inr x) (.str x t) = true := by simp [keyIs, Value.isStrOf]
theorem key_ll (a b : Int) : decide ((Sum.inl a : Key) = Sum.inl b) = (a == b) := by
  by_cases e : a = b
  · subst e; simp
  · have h : ¬ (Sum.inl a : Key) = Sum.inl b := fun q => e (Sum.inl.inj q)
    rw [decide_eq_false h]
    exact (beq_eq_false_iff_ne.mpr e).symm
theorem key_rr (a b : Str) : decide ((Sum.inr a : Key) = Sum.inr b) = decide (a = b) := by
  by_cases e : a = b
  · subst e; simp
  · have h : ¬ (Sum.inr a : Key) = Sum.inr b := fun q => e (Sum.inr.inj q)
    rw [decide_eq_false h, decide_eq_false e]
theorem key_lr (a : Int) (b : Str) : decide ((Sum.inl a : Key) = Sum.inr b) = false := decide_eq_false (fun q => nomatch q)
theorem key_rl (a : Str) (b : Int) : decide ((Sum.inr a : Key) = Sum.inl b) = false := decide_eq_false (fun q => nomatch q)

def mixKind (prog : Program) (w : World) : PySem.KeyKind prog w Key where
  is := keyIs
  hash := keyH w
  inj := fun v a b ha hb => by
    rcases keyIs_shape ha with ⟨i, t, rfl, rfl⟩ | ⟨x, t, rfl, rfl⟩
    · rcases keyIs_shape hb with ⟨j, u, rfl, e⟩ | ⟨y, u, rfl, e⟩
      · injection e with e1 _; rw [e1]
      · exact nomatch e
    · rcases keyIs_shape hb with ⟨j, u, rfl, e⟩ | ⟨y, u, rfl, e⟩
      · exact nomatch e
      · injection e with e1 _; rw [e1]
  byValue := fun k v h => by
    rcases keyIs_shape h with ⟨i, t, rfl, rfl⟩ | ⟨x, t, rfl, rfl⟩ <;> rfl
  pyHash := fun hv h => by
    rcases keyIs_shape hv with ⟨i, t, rfl, rfl⟩ | ⟨x, t, rfl, rfl⟩
    · exact wpAny_pyHash_int h
    · exact wpAny_pyHash_str h
  eqBool := fun hu hv h => by
    rcases keyIs_shape hu with ⟨i, t, rfl, rfl⟩ | ⟨x, t, rfl, rfl⟩
    · rcases keyIs_shape hv with ⟨j, u, rfl, rfl⟩ | ⟨y, u, rfl, rfl⟩
      · rw [key_ll] at h; exact wpAny_eqBool_int h
      · rw [key_lr] at h; exact SeqAt.EqAt.int_str i t y u _ _ _ _ h
    · rcases keyIs_shape hv with ⟨j, u, rfl, rfl⟩ | ⟨y, u, rfl, rfl⟩
      · rw [key_rl] at h; exact SeqAt.EqAt.str_int x t j u _ _ _ _ h
      · rw [key_rr] at h; exact wpAny_eqBool_str h
  «strs» := fun k x t v h => by
    rcases keyIs_shape h with ⟨i, u, rfl, e⟩ | ⟨y, u, rfl, e⟩
    · exact nomatch e
    · injection e with e1 _
      subst e1
      cases v <;> rfl

theorem mixKind_is (prog : Program) (w : World) (k : Key) (v : Value) : (mixKind prog w).is k v = keyIs k v := rfl
theorem mixKind_int (prog : Program) (w : World) (i : Int) (t : Tok) : (mixKind prog w).is (.inl i) (.int i t) = true := keyIs_int i t
theorem mixKind_str (prog : Program) (w : World) (x : Str) (t : Tok) : (mixKind prog w).is (.inr x) (.str x t) = true := keyIs_str x t
end L2

namespace L2
open PySem PySem.Spec PyProof.Rows

/-- a value, without the heap -/
inductive V where
  | non | bl (b : Bool) | int (i : Int) | str (x : Str) | byt (b : Array UInt8) | flt (b : UInt64) | ref (a : Addr) | ty (n : String)
  deriving DecidableEq

def RelV : V → Value → Prop
  | .non, u => u = Value.none
  | .bl b, u => u = Value.bool b
  | .int i, u => ∃ t, u = Value.int i t
  | .str x, u => ∃ t, u = Value.str x t
  | .byt b, u => ∃ t, u = Value.bytes b t
  | .flt b, u => ∃ t, u = Value.float b t
  | .ref a, u => u = Value.ref a
  | .ty n, u => u = Value.type n

abbrev Vals : List V → List Value → Prop := Paired RelV
theorem Vals.length {xs : List V} {us : List Value} (r : Vals xs us) : xs.length = us.length := Paired.length r
theorem Vals.get : ∀ {xs : List V} {us : List Value} {i : Nat} {x : V}, Vals xs us → xs[i]? = some x → ∃ u, us[i]? = some u ∧ RelV x u
  | _, _, _, _, .nil, e => by simp at e
  | _, _, 0, _, .cons r _, e => by simp at e; subst e; exact ⟨_, rfl, r⟩
  | _, _, i + 1, x, .cons _ t, e => by
    obtain ⟨u, h1, h2⟩ := Vals.get (i := i) (x := x) t (by simpa using e)
    exact ⟨u, by simpa using h1, h2⟩
theorem Vals.set {x : V} {u : Value} (r : RelV x u) : ∀ {xs : List V} {us : List Value} (i : Nat), Vals xs us → Vals (xs.set i x) (us.set i u)
  | _, _, _, .nil => .nil
  | _, _, 0, .cons _ t => .cons r t
  | _, _, i + 1, .cons q t => .cons q (Vals.set r i t)
theorem Vals.append : ∀ {xs ys : List V} {us ws : List Value}, Vals xs us → Vals ys ws → Vals (xs ++ ys) (us ++ ws)
  | _, _, _, _, .nil, s => s
  | _, _, _, _, .cons r t, s => .cons r (Vals.append t s)
theorem Vals.take : ∀ {xs : List V} {us : List Value} (n : Nat), Vals xs us → Vals (xs.take n) (us.take n)
  | _, _, 0, _ => .nil
  | _, _, _ + 1, .nil => .nil
  | _, _, n + 1, .cons r t => .cons r (Vals.take n t)
theorem Vals.drop : ∀ {xs : List V} {us : List Value} (n : Nat), Vals xs us → Vals (xs.drop n) (us.drop n)
  | _, _, 0, r => r
  | _, _, _ + 1, .nil => .nil
  | _, _, n + 1, .cons _ t => Vals.drop n t
theorem Vals.none_of : ∀ {xs : List V} {us : List Value} {i : Nat}, Vals xs us → xs[i]? = none → us[i]? = none := fun {xs us i} r e => by
  have h1 := r.length
  have h2 : xs.length ≤ i := List.getElem?_eq_none_iff.mp e
  exact List.getElem?_eq_none_iff.mpr (by omega)

def RelO : Option V → Option Value → Prop
  | some v, some u => RelV v u
  | none, none => True
  | _, _ => False
def KV {κ : Type} : List (κ × V) → List (κ × Value) → Prop := Paired fun (p : κ × V) (q : κ × Value) => p.1 = q.1 ∧ RelV p.2 q.2

/-- a key of a dict (00_mix): an int or a text -/
def kV : Key → V
  | .inl i => .int i
  | .inr x => .str x

/-- what stands at a tracked address -/
inductive HO where
  /-- a list -/
  | lst (xs : List V)
  /-- a tuple (never changes) -/
  | tup (xs : List V)
  /-- a dict whose keys are ints and texts; one whose keys are tuples of ints and texts (the empty one is both) -/
  | dK (kvs : List (Key × V)) | dT (kvs : List (List Key × V))
  /-- a set of ints: its members, its size -/
  | set (S : Int → Bool) (n : Nat)
  /-- an instance of the class at C, its dict at dx, its attributes -/
  | ins (C dx : Addr) (fs : List (Str × V))
  /-- the dict of the instance at x -/
  | own (x : Addr)
  /-- the dict of an exception -/
  | xd (fs : List (Str × V))
  /-- a bound method, f of x -/
  | met (f x : Addr)
  /-- a range object lo, lo + 1, .. below hi -/
  | rng (lo hi : Int)
  /-- a thing that is known to the object (the script; a dict while a loop walks it): read, never written while it is so -/
  | frz (o : Obj) (u : HO)
  /-- a code object's table -/
  | tbl (ps : Array Value)
  /-- any other thing, by what is true of its one object (a def of one's own: SetO a S n := HO.ext fun h => ..) -/
  | ext (φ : Heap → Prop)

abbrev Hp := Addr → Option HO
def upd (H : Hp) (a : Addr) (o : HO) : Hp := fun b => if b = a then some o else H b
theorem upd_same {H : Hp} {a : Addr} {o : HO} : upd H a o a = some o := by unfold upd; rw [if_pos rfl]
theorem upd_ne {H : Hp} {a b : Addr} {o : HO} (h : b ≠ a) : upd H a o b = H b := by unfold upd; rw [if_neg h]
theorem upd_upd {H : Hp} {a : Addr} {o u : HO} : upd (upd H a o) a u = upd H a u := by
  funext b; unfold upd; split <;> rfl
/-- two objects of different content stand apart -/
theorem ne_of {H : Hp} {a b : Addr} {o u : HO} (h : H a = some o) (h' : H b = some u) (d : o ≠ u) : a ≠ b := by
  intro e; subst e; rw [h] at h'; exact d (Option.some.inj h')
theorem ne_of_none {H : Hp} {a b : Addr} {o : HO} (h : H a = some o) (h' : H b = none) : a ≠ b := by
  intro e; subst e; rw [h] at h'; cases h'

section
variable (P : Program) (w : World)
def ObjOk (H : Hp) (h : Heap) (a : Addr) : HO → Prop
  | .lst xs => xs.length ≤ sizeLine ∧ ∃ (its : List Value) (n : Nat), Vals xs its ∧ h.get? a = some { cls := .type "list", data := .seq its.toArray n }
  | .tup xs => xs.length ≤ sizeLine ∧ ∃ its : List Value, Vals xs its ∧ IsTup h a its.toArray
  | .dK kvs => kvs.length ≤ sizeLine ∧ (a == sysModules) = false ∧ ∃ vs, KV kvs vs ∧ h.DictOf (mixKind P w) a vs
  | .dT kvs => kvs.length ≤ sizeLine ∧ (a == sysModules) = false ∧ ∃ xs : List (List Key × Addr × Value),
      Paired (fun (p : List Key × V) (q : List Key × Addr × Value) => p.1 = q.1 ∧ H q.2.1 = some (.tup (p.1.map kV)) ∧ RelV p.2 q.2.2) kvs xs ∧
      ∃ o es ep, h.get? a = some o ∧ o.ExactDict ∧ o.data = .dict es ep ∧ es.toList = xs.map (entryOfKey (tupleKind (mixKind P w))) ∧ (xs.map (·.1)).Nodup
  | .set S n => h.SetOf (intKind P w) a S n
  | .ins C dx fs => H dx = some (.own a) ∧ fs.length ≤ 1000 ∧ dx ≠ a ∧ h.get? a = some (PySem.W.instObj C dx) ∧
      ∃ mA, h.Ns1 dx mA ∧ (∀ f, RelO (fs.lookup f) (mA f)) ∧ PySem.Within mA (fs.map (·.1))
  | .own _ => ∃ o, h.get? a = some o
  | .xd fs => ∃ mA, h.Ns1 a mA ∧ ∀ f, RelO (fs.lookup f) (mA f)
  | .rng lo hi => ∃ t u v, h.get? a = some { cls := .type "range", data := .fields #[.int lo t, .int hi u, .int 1 v] }
  | .frz o u => h.get? a = some o ∧ ObjOk H h a u
  | .tbl ps => h.get? a = some { cls := .none, data := .fields ps }
  | .met f x => h.get? a = some (PySem.W.methodObj (.ref f) (.ref x))
  | .ext φ => φ h ∧ (∃ o, h.get? a = some o) ∧ ∀ h1 h2 : Heap, φ h1 → (∀ o, h1.get? a = some o → h2.get? a = some o) → φ h2
/-- the abstract heap is held -/
def HOk (H : Hp) (h : Heap) : Prop := ∀ a o, H a = some o → ObjOk P w H h a o
end

section
variable {P : Program} {w : World} {H H' : Hp} {h h' : Heap} {a : Addr} {o : HO}
theorem ObjOk.lt (x : ObjOk P w H h a o) : a < h.objs.size := by
  cases o with
  | lst xs => obtain ⟨_, _, _, _, e⟩ := x; exact Heap.lt_size e
  | tup xs => obtain ⟨_, _, _, p⟩ := x; exact p.lt
  | dK kvs => obtain ⟨_, _, _, _, o, _, _, e, _⟩ := x; exact Heap.lt_size e
  | dT kvs => obtain ⟨_, _, _, _, o, _, _, e, _⟩ := x; exact Heap.lt_size e
  | set S n => obtain ⟨o, _, _, _, e, _⟩ := x; exact Heap.lt_size e
  | ins C dx fs => obtain ⟨_, _, _, e, _⟩ := x; exact Heap.lt_size e
  | own y => obtain ⟨_, e⟩ := x; exact Heap.lt_size e
  | xd fs => obtain ⟨_, ⟨_, _, _, e, _⟩, _⟩ := x; exact Heap.lt_size e
  | rng lo hi => obtain ⟨_, _, _, e⟩ := x; exact Heap.lt_size e
  | frz ob u => obtain ⟨e, _⟩ := x; exact Heap.lt_size e
  | tbl ps => exact Heap.lt_size (show h.get? a = some _ from x)
  | met f y => exact Heap.lt_size (show h.get? a = some _ from x)
  | ext φ => obtain ⟨_, ⟨_, e⟩, _⟩ := x; exact Heap.lt_size e
theorem Paired.mapP {α β : Type} {F G : α → β → Prop} : ∀ {l₁ : List α} {l₂ : List β}, Paired F l₁ l₂ → (∀ a b, F a b → G a b) → Paired G l₁ l₂
  | _, _, .nil, _ => .nil
  | _, _, .cons r t, f => .cons (f _ _ r) (Paired.mapP t f)
theorem Paired.imp' {α β : Type} {F G : α → β → Prop} (f : ∀ a b, F a b → G a b) {l₁ : List α} {l₂ : List β} (r : Paired F l₁ l₂) : Paired G l₁ l₂ := Paired.mapP r f
/-- what an object's description leans on: its own object, its own dict, the tuples -/
theorem ObjOk.stay (x : ObjOk P w H h a o) (k : ∀ b u, (b = a ∨ H b = some (.own a)) → h.get? b = some u → h'.get? b = some u)
    (ho : ∀ b, H b = some (.own a) → H' b = some (.own a)) (ht : ∀ b xs, H b = some (.tup xs) → H' b = some (.tup xs)) : ObjOk P w H' h' a o := by
  induction o with
  | lst xs => obtain ⟨z, its, n, r, e⟩ := x; exact ⟨z, its, n, r, k _ _ (.inl rfl) e⟩
  | tup xs => obtain ⟨z, its, r, ob, e, c⟩ := x; exact ⟨z, its, r, ob, k _ _ (.inl rfl) e, c⟩
  | dK kvs => obtain ⟨z, y, vs, r, ob, es, ep, e, c⟩ := x; exact ⟨z, y, vs, r, ob, es, ep, k _ _ (.inl rfl) e, c⟩
  | dT kvs =>
    obtain ⟨z, y, xs, r, ob, es, ep, e, c⟩ := x
    exact ⟨z, y, xs, Paired.mapP r fun p q z => ⟨z.1, ht _ _ z.2.1, z.2.2⟩, ob, es, ep, k _ _ (.inl rfl) e, c⟩
  | set S n => obtain ⟨ob, es, ep, t, e, c⟩ := x; exact ⟨ob, es, ep, t, k _ _ (.inl rfl) e, c⟩
  | ins C dx fs =>
    obtain ⟨d, z, ne, e, mA, ⟨od, es, ep, e2, c⟩, r⟩ := x
    exact ⟨ho _ d, z, ne, k _ _ (.inl rfl) e, mA, ⟨od, es, ep, k _ _ (.inr d) e2, c⟩, r⟩
  | own y => obtain ⟨ob, e⟩ := x; exact ⟨ob, k _ _ (.inl rfl) e⟩
  | xd fs => obtain ⟨mA, ⟨od, es, ep, e, c⟩, r⟩ := x; exact ⟨mA, ⟨od, es, ep, k _ _ (.inl rfl) e, c⟩, r⟩
  | rng lo hi => obtain ⟨t, u, v, e⟩ := x; exact ⟨t, u, v, k _ _ (.inl rfl) e⟩
  | frz ob u ih => obtain ⟨e, q⟩ := x; exact ⟨k _ _ (.inl rfl) e, ih q⟩
  | tbl ps =>
    have e : h.get? a = some { cls := .none, data := .fields ps } := x
    show h'.get? a = some { cls := .none, data := .fields ps }
    exact k a _ (.inl rfl) e
  | met f y =>
    have e : h.get? a = some (PySem.W.methodObj (.ref f) (.ref y)) := x
    show h'.get? a = some (PySem.W.methodObj (.ref f) (.ref y))
    exact k a _ (.inl rfl) e
  | ext φ => obtain ⟨p, ⟨o, e⟩, st⟩ := x; exact ⟨st _ _ p fun o q => k _ _ (.inl rfl) q, ⟨o, k _ _ (.inl rfl) e⟩, st⟩
theorem HOk.lt (x : HOk P w H h) (e : H a = some o) : a < h.objs.size := (x a o e).lt
theorem HOk.fresh (x : HOk P w H h) (e : h.objs.size ≤ a) : H a = none := by
  cases q : H a with
  | none => rfl
  | some u => exact absurd (Nat.lt_of_lt_of_le (x.lt q) e) (Nat.lt_irrefl _)
/-- every object of the heap is kept -/
theorem HOk.kept (x : HOk P w H h) (k : ∀ b u, h.get? b = some u → h'.get? b = some u) : HOk P w H h' := fun a o e =>
  (x a o e).stay (fun b u _ q => k b u q) (fun _ q => q) fun _ _ q => q
/-- a new object is laid and tracked -/
theorem HOk.laid (x : HOk P w H h) (k : ∀ b u, h.get? b = some u → h'.get? b = some u) (hp : h.objs.size ≤ a) (new : ObjOk P w (upd H a o) h' a o) : HOk P w (upd H a o) h' := fun b u e => by
  have hn := x.fresh hp
  by_cases hb : b = a
  · subst hb; rw [upd_same] at e; cases e; exact new
  · rw [upd_ne hb] at e
    exact (x b u e).stay (fun c v _ q => k c v q) (fun c q => by rw [upd_ne (ne_of_none q hn)]; exact q) fun c xs q => by rw [upd_ne (ne_of_none q hn)]; exact q
end

/-- what may be read as u: it is u, or a known u -/
def Rd (H : Hp) (a : Addr) (u : HO) : Prop := H a = some u ∨ ∃ o, H a = some (.frz o u)
theorem Rd.of {H : Hp} {a : Addr} {u : HO} (h : H a = some u) : Rd H a u := .inl h
theorem Rd.ok {P : Program} {w : World} {H : Hp} {h : Heap} {a : Addr} {u : HO} (r : Rd H a u) (x : HOk P w H h) : ObjOk P w H h a u := by
  rcases r with r | ⟨o, r⟩
  · exact x a u r
  · obtain ⟨_, q⟩ := x a _ r
    exact q
/-- what may be written -/
def Mut : Option HO → Prop
  | some (.lst _) => True
  | some (.dK _) => True
  | some (.dT _) => True
  | some (.set _ _) => True
  | some (.ins _ _ _) => True
  | some (.ext _) => True
  | _ => False
section
variable {P : Program} {w : World} {H : Hp} {h h' : Heap} {x e : Addr} {o' : HO}
/-- the object at e is changed: x itself, or the dict of the instance x -/
theorem HOk.write (ok : HOk P w H h) (mu : Mut (H x)) (he : e = x ∨ H e = some (.own x)) (k : ∀ b u, b ≠ e → h.get? b = some u → h'.get? b = some u) (heo : ∃ u, h'.get? e = some u)
    (new : ObjOk P w (upd H x o') h' x o') : HOk P w (upd H x o') h' := fun b u q => by
  have nown : ∀ c y, H c = some (.own y) → c ≠ x := fun c y r z => by subst z; rw [r] at mu; exact mu
  have ntup : ∀ c xs, H c = some (.tup xs) → c ≠ x := fun c xs r z => by subst z; rw [r] at mu; exact mu
  by_cases hb : b = x
  · subst hb; rw [upd_same] at q; cases q; exact new
  · rw [upd_ne hb] at q
    by_cases hbe : b = e
    · have q' : H b = some (.own x) := by
        rcases he with z | z
        · exact absurd (hbe.trans z) hb
        · rw [hbe]; exact z
      rw [q] at q'; cases q'
      obtain ⟨v, hv⟩ := heo
      exact ⟨v, by rw [hbe]; exact hv⟩
    · refine (ok b u q).stay (fun c v hc r => k c v ?_ r) (fun c r => by rw [upd_ne (nown c b r)]; exact r) fun c xs r => by rw [upd_ne (ntup c xs r)]; exact r
      rcases hc with rfl | hc
      · exact hbe
      · rintro rfl
        rcases he with z | z
        · exact nown c b hc z
        · rw [hc] at z; cases z; exact hb rfl
end

/-! ### kept unless tracked; of the frames at fs (the callers') the slots may change (an exception that passes writes there); of the records at ex (iterators) nothing is said -/
structure Un (fs ex : List Addr) (H H' : Hp) (h h' : Heap) : Prop where
  keep : ∀ b o, h.get? b = some o → H b = none → b ∉ fs → b ∉ ex → h'.get? b = some o
  slot : ∀ b o, h.get? b = some o → H b = none → b ∈ fs → b ∉ ex → ∃ sl, h'.get? b = some { o with slots := sl }
  free : ∀ b o, h.get? b = some o → H b = none → b ∉ ex → H' b = none
  there : ∀ b o, h.get? b = some o → b ∉ ex → ∃ o', h'.get? b = some o'
  tups : ∀ b xs, H b = some (.tup xs) → H' b = some (.tup xs)
  frzs : ∀ b o u, H b = some (.frz o u) → H' b = some (.frz o u)
  tbls : ∀ b ps, H b = some (.tbl ps) → ∃ more, H' b = some (.tbl (ps ++ more))
section
variable {fs fs' ex ex' : List Addr} {H H1 H2 : Hp} {h h1 h2 h' : Heap} {a x e : Addr} {o : HO}
theorem Un.any (u : Un fs ex H H1 h h1) {b : Addr} {ob : Obj} (q : h.get? b = some ob) (n : H b = none) (hx : b ∉ ex) : ∃ sl, h1.get? b = some { ob with slots := sl } := by
  by_cases hb : b ∈ fs
  · exact u.slot b ob q n hb hx
  · exact ⟨ob.slots, u.keep b ob q n hb hx⟩
theorem Un.trans (a : Un fs ex H H1 h h1) (b : Un fs ex H1 H2 h1 h2) : Un fs ex H H2 h h2 where
  keep := fun c ob q n hc hx => b.keep c ob (a.keep c ob q n hc hx) (a.free c ob q n hx) hc hx
  slot := fun c ob q n hc hx => by
    obtain ⟨sl, e1⟩ := a.slot c ob q n hc hx
    obtain ⟨sl', e2⟩ := b.slot c _ e1 (a.free c ob q n hx) hc hx
    exact ⟨sl', e2⟩
  free := fun c ob q n hx => by
    obtain ⟨o', e1⟩ := a.there c ob q hx
    exact b.free c o' e1 (a.free c ob q n hx) hx
  there := fun c ob q hx => by
    obtain ⟨o', e1⟩ := a.there c ob q hx
    exact b.there c o' e1 hx
  tups := fun c xs q => b.tups c xs (a.tups c xs q)
  frzs := fun c ob xs q => b.frzs c ob xs (a.frzs c ob xs q)
  tbls := fun c ps q => by
    obtain ⟨m1, e1⟩ := a.tbls c ps q
    obtain ⟨m2, e2⟩ := b.tbls c _ e1
    exact ⟨m1 ++ m2, by rw [e2, Array.append_assoc]⟩
theorem Un.kept (k : ∀ b u, h.get? b = some u → h'.get? b = some u) : Un fs ex H H h h' :=
  ⟨fun b ob q _ _ _ => k b ob q, fun b ob q _ _ _ => ⟨ob.slots, k b ob q⟩, fun _ _ _ n _ => n, fun b ob q _ => ⟨ob, k b ob q⟩, fun _ _ q => q, fun _ _ _ q => q, fun _ ps q => ⟨#[], by rw [q]; simp⟩⟩
theorem Un.refl : Un fs ex H H h h := Un.kept fun _ _ q => q
theorem Un.laid (k : ∀ b u, h.get? b = some u → h'.get? b = some u) (hp : h.objs.size ≤ a) (hn : H a = none) : Un fs ex H (upd H a o) h h' where
  keep := fun b u q _ _ _ => k b u q
  slot := fun b u q _ _ _ => ⟨u.slots, k b u q⟩
  free := fun b u q n _ => by rw [upd_ne (Nat.ne_of_lt (Nat.lt_of_lt_of_le (Heap.lt_size q) hp))]; exact n
  there := fun b u q _ => ⟨u, k b u q⟩
  tups := fun b xs q => by rw [upd_ne (ne_of_none q hn)]; exact q
  frzs := fun b u xs q => by rw [upd_ne (ne_of_none q hn)]; exact q
  tbls := fun b ps q => ⟨#[], by rw [upd_ne (ne_of_none q hn), q]; simp⟩
theorem Un.write (mu : Mut (H x)) (he : e = x ∨ H e = some (.own x)) (k : ∀ b u, b ≠ e → h.get? b = some u → h'.get? b = some u) (heo : ∃ u, h'.get? e = some u) : Un fs ex H (upd H x o) h h' := by
  have hx : ∀ b, H b = none → b ≠ x := fun b n z => by subst z; rw [n] at mu; exact mu
  have hb : ∀ b, H b = none → b ≠ e := fun b n z => by
    subst z
    rcases he with r | r
    · exact hx b n r
    · rw [n] at r; cases r
  have hm : ∀ b u, H b = some u → ¬ Mut (some u) → b ≠ x := fun b u q nm z => by subst z; rw [q] at mu; exact nm mu
  refine ⟨fun b u q n _ _ => k b u (hb b n) q, fun b u q n _ _ => ⟨u.slots, k b u (hb b n) q⟩, fun b u q n _ => by rw [upd_ne (hx b n)]; exact n, fun b u q _ => ?_,
    fun b xs q => by rw [upd_ne (hm b _ q fun z => z)]; exact q, fun b u xs q => by rw [upd_ne (hm b _ q fun z => z)]; exact q, fun b ps q => ⟨#[], by rw [upd_ne (hm b _ q fun z => z), q]; simp⟩⟩
  by_cases hbe : b = e
  · subst hbe; exact heo
  · exact ⟨u, k b u hbe q⟩
theorem Un.mono (u : Un fs ex H H1 h h1) (hs : ∀ b ∈ fs, b ∈ fs') (hx : ∀ b ∈ ex, b ∈ ex') : Un fs' ex' H H1 h h1 :=
  ⟨fun b ob q n hb he => u.keep b ob q n (fun z => hb (hs b z)) fun z => he (hx b z), fun _ _ q n _ he => u.any q n fun z => he (hx _ z), fun b ob q n he => u.free b ob q n fun z => he (hx b z), fun b ob q he => u.there b ob q fun z => he (hx b z), u.tups, u.frzs, u.tbls⟩
end

/-! ### the heap without what is tracked -/
def trk (h : Heap) (H : Hp) : List Addr := (List.range h.objs.size).filter fun a => (H a).isSome
def hidT (h : Heap) (H : Hp) : Heap := PySem.W.hideAll h (trk h H)
theorem hidT_size (h : Heap) (H : Hp) : (hidT h H).objs.size = h.objs.size := PySem.W.hideAll_size _ _
theorem hidT_get {h : Heap} {H : Hp} {b : Addr} {o : Obj} (e : h.get? b = some o) (n : H b = none) : (hidT h H).get? b = some o :=
  PySem.W.hideAll_get _ e fun hm => by
    have q : (H b).isSome = true := (List.mem_filter.mp hm).2
    rw [n] at q; simp at q
theorem of_hidT {h : Heap} {H : Hp} {b : Addr} {o : Obj} (e : (hidT h H).get? b = some o) : h.get? b = some o ∧ H b = none := by
  have e' : h.get? b = some o := PySem.W.of_hideAll (trk h H) e
  refine ⟨e', ?_⟩
  cases q : H b with
  | none => rfl
  | some x =>
    have hm : b ∈ trk h H := List.mem_filter.mpr ⟨List.mem_range.mpr (Heap.lt_size e'), by simp [q]⟩
    have z : (hidT h H).get? b = none := PySem.W.hideAll_none (trk h H) hm
    rw [z] at e; cases e

/-! ### OpenK's ledger, filled with every new object but one -/
def allNews (g h : Heap) (L : Addr) : List (Addr × Obj) := (List.range h.objs.size).filterMap fun a => if a = L ∨ (g.get? a).isSome = true then none else (h.get? a).map fun o => (a, o)
theorem mem_allNews {g h : Heap} {L a : Addr} {o : Obj} (h1 : a ≠ L) (h2 : g.get? a = none) (h3 : h.get? a = some o) : (a, o) ∈ allNews g h L :=
  List.mem_filterMap.mpr ⟨a, List.mem_range.mpr (Heap.lt_size h3), by simp [h1, h2, h3]⟩
theorem of_mem_allNews {g h : Heap} {L : Addr} {p : Addr × Obj} (hp : p ∈ allNews g h L) : p.1 ≠ L ∧ g.get? p.1 = none ∧ h.get? p.1 = some p.2 := by
  obtain ⟨b, _, e⟩ := List.mem_filterMap.mp hp
  split at e
  · cases e
  · rename_i hn
    cases q : h.get? b with
    | none => rw [q] at e; simp at e
    | some u =>
      rw [q] at e
      simp only [Option.map_some, Option.some.injEq] at e
      subst e
      refine ⟨fun z => hn (.inl z), ?_, q⟩
      show g.get? b = none
      cases r : g.get? b with
      | none => rfl
      | some v => exact (hn (.inr (by simp [r]))).elim
def rest (g h : Heap) (L d : Addr) : List (Addr × Obj) := (allNews g h L).filter fun p => decide (p.1 ≠ d)
theorem rest_ne {g h : Heap} {L d : Addr} : ∀ p ∈ rest g h L d, p.1 ≠ d := fun p hp => of_decide_eq_true (List.mem_filter.mp hp).2
theorem mem_rest {g h : Heap} {L d a : Addr} {o : Obj} (h1 : a ≠ L) (h2 : g.get? a = none) (h3 : h.get? a = some o) (h4 : a ≠ d) : (a, o) ∈ rest g h L d :=
  List.mem_filter.mpr ⟨mem_allNews h1 h2 h3, decide_eq_true h4⟩
theorem news_all {g h : Heap} {L : Addr} : News g L h (allNews g h L) := fun p hp => let ⟨a, b, c⟩ := of_mem_allNews hp; ⟨c, a, b⟩
theorem news_at {g h : Heap} {L d : Addr} {o : Obj} (h1 : d ≠ L) (h2 : g.get? d = none) (h3 : h.get? d = some o) : News g L h ((d, o) :: rest g h L d) := fun p hp => by
  rcases List.mem_cons.mp hp with rfl | hp
  · exact ⟨h3, h1, h2⟩
  · exact news_all p (List.mem_filter.mp hp).1
/-- behind a rule that changed d alone: all else but the frame is kept -/
theorem kept_of_news {g h h' : Heap} {L d : Addr} {m : Str → Option Value} (k : ∀ b o, g.get? b = some o → h.get? b = some o) (F : Fr g L h' m) (N : News g L h' (rest g h L d)) :
    ∀ b o, b ≠ L → b ≠ d → h.get? b = some o → h'.get? b = some o := fun b o h1 h2 e => by
  cases q : g.get? b with
  | some u =>
    have := k b u q
    rw [e] at this; cases this
    exact F.keep b _ q
  | none => exact (N (b, o) (mem_rest h1 q e h2)).1
end L2

namespace L2
open PySem PySem.Spec PyProof.Rows

/-- the module's facts, over the base: the heap at the law's entry without what is tracked there -/
structure Mod (K : PySem.W.Frag) (mg : Str → Option Value) (base : Heap) : Prop where
  kin : K.In base
  glob : base.Ns mainGlobals mg
  blt : ∃ mb, base.Ns builtinsNs mb ∧ ∀ x : Str, x ≠ "__name__" → mb x = bootBuiltins x
  nolimit : base.NoLimit

/-- the context: a def's body (or a comprehension's block) running. base: fixed through the whole law; s₀, H₀: the entry; outer: the frames whose slots others may change (a def's callers); stack: all frames that run;
   ex: iterators that were made ahead of the entry and are walked here (a comprehension's); fn: the names whose cells were made at the entry (a def: all; a comprehension's block: its own); calm: not within an except suite; pn: pins that every state bears; xe: what is wanted of an exception that leaves the code -/
structure Cx where
  prog : Program
  w : World
  K : PySem.W.Frag
  mg : Str → Option Value
  base : Heap
  A : Around
  N : List Str
  s₀ : Shared
  H₀ : Hp
  env : Env
  outer : List Env
  stack : List Env
  ex : List Addr
  fn : Str → Bool
  calm : Bool
  pn : List (Addr × Obj)
  xe : Value → Shared → Prop
/-- the callers' frames -/
def frs (l : List Env) : List Addr := l.filterMap (·.frame)
abbrev Cx.fs (X : Cx) : List Addr := frs X.outer

def Vis (sc : Scope) (x : Str) : Prop := sc.names.lookup x = some .local ∨ sc.names.lookup x = some .cell ∨ sc.names.lookup x = some .free
def Loc (sc : Scope) (x : Str) : Prop := sc.names.lookup x = some .local ∨ sc.names.lookup x = some .cell
def Look (env : Env) (h : Heap) (m : Str → Option Value) (x : Str) (u : Value) : Prop :=
  (env.kindOf x = some .local ∧ m x = some u) ∨ ((env.kindOf x = some .cell ∨ env.kindOf x = some .free) ∧ ∃ c, env.cells.lookup x = some c ∧ h.IsCell c (some u))

structure Cx.Ok (X : Cx) : Prop where
  mod : Mod X.K X.mg X.base
  kind : X.env.scope.kind = .function
  glob : X.env.globals = mainGlobals
  blt : X.env.builtins = builtinsNs
  above : X.s₀.heap.objs.size ≤ X.env.locals
  inj : ∀ x y c, X.env.cells.lookup x = some c → X.env.cells.lookup y = some c → x = y
  has : ∀ x, (X.env.kindOf x = some .cell ∨ X.env.kindOf x = some .free) → ∃ c, X.env.cells.lookup x = some c
  cab : ∀ x c, X.fn x = true → X.env.cells.lookup x = some c → X.s₀.heap.objs.size ≤ c
  hd : X.calm = true → X.A.handled = none
  frames : X.A.frames = some X.stack
  stk : X.stack = X.outer ∨ (X.stack = X.env :: X.outer ∧ X.env.frame = some X.env.locals)
  exf : ∀ b ∈ X.ex, b ≠ X.env.locals ∧ ∀ x c, X.env.cells.lookup x = some c → c ≠ b
  bs : ∀ b o, X.base.get? b = some o → X.s₀.heap.get? b = some o ∧ X.H₀ b = none
  bsz : X.base.objs.size ≤ X.s₀.heap.objs.size
  noex : ∀ b o, X.base.get? b = some o → b ∉ X.ex
  exfs : ∀ b ∈ X.ex, b ∉ X.fs
  funs : X.s₀.heap.FunFrames X.base X.outer
  frf : ∀ b ∈ X.fs, X.H₀ b = none

structure Inv (X : Cx) (pins : List (Addr × Obj)) (σ : List (Option V)) (H : Hp) (s : Shared) : Prop where
  ok : X.Ok
  os : s.os = X.s₀.os
  bare : AllBare s.gens
  base : Un X.fs X.ex X.H₀ H X.s₀.heap s.heap
  loc : ∃ m, s.heap.Ns X.env.locals m ∧ ∀ (i : Nat) (x : Str) (v : V), X.N[i]? = some x → σ[i]? = some (some v) → Vis X.env.scope x → ∃ u, RelV v u ∧ Look X.env s.heap m x u
  cell : ∀ x c, X.env.cells.lookup x = some c → ∃ v, s.heap.IsCell c v
  free : H X.env.locals = none
  freeC : ∀ x c, X.env.cells.lookup x = some c → H c = none
  pin : ∀ p ∈ X.pn ++ pins, s.heap.get? p.1 = some p.2 ∧ H p.1 = none ∧ p.1 ≠ X.env.locals ∧ p.1 ∉ X.fs ∧ ∀ v, p.2.data ≠ .cell v
  hok : HOk X.prog X.w H s.heap
  len : σ.length = X.N.length

section
variable {X : Cx} {pins : List (Addr × Obj)} {σ : List (Option V)} {H H' : Hp} {s : Shared} {h' : Heap}

theorem Cx.Ok.nofr (ok : X.Ok) {b : Addr} {o : Obj} (e : X.base.get? b = some o) : b ∉ X.fs := fun hb => by
  have := (ok.funs.mem hb).1
  rw [e] at this; cases this
theorem Inv.bs (I : Inv X pins σ H s) : ∀ b o, X.base.get? b = some o → s.heap.get? b = some o ∧ H b = none := fun b o e =>
  ⟨I.base.keep b o (I.ok.bs b o e).1 (I.ok.bs b o e).2 (I.ok.nofr e) (I.ok.noex b o e), I.base.free b o (I.ok.bs b o e).1 (I.ok.bs b o e).2 (I.ok.noex b o e)⟩
theorem Inv.bk (I : Inv X pins σ H s) : ∀ b o, X.base.get? b = some o → s.heap.get? b = some o := fun b o e => (I.bs b o e).1
theorem Inv.mod (I : Inv X pins σ H s) : Mod X.K X.mg X.base := I.ok.mod
theorem Inv.kIn (I : Inv X pins σ H s) : X.K.In s.heap := I.ok.mod.kin.keeps I.bk
theorem Inv.nolimit (I : Inv X pins σ H s) : s.heap.NoLimit := I.ok.mod.nolimit.keeps I.bk
/-- the frame over the base: for OpenK's rules (K.In X.base is I.mod.kin) -/
theorem Inv.fr (I : Inv X pins σ H s) : ∃ m, Fr X.base X.env.locals s.heap m :=
  let ⟨m, hn, _⟩ := I.loc
  ⟨m, hn, I.bk, Nat.le_trans I.ok.bsz I.ok.above⟩
theorem Inv.lt (I : Inv X pins σ H s) : X.env.locals < s.heap.objs.size := let ⟨_, hn, _⟩ := I.loc; hn.lt
theorem Inv.sz (I : Inv X pins σ H s) : X.s₀.heap.objs.size ≤ s.heap.objs.size := Nat.le_trans I.ok.above (Nat.le_of_lt I.lt)
theorem Inv.nofs (I : Inv X pins σ H s) {a : Addr} (h : s.heap.objs.size ≤ a) : a ∉ X.fs := fun hb => by
  obtain ⟨_, o, ho, _⟩ := I.ok.funs.mem hb
  exact absurd (Nat.lt_of_lt_of_le (Heap.lt_size ho) (Nat.le_trans I.sz h)) (Nat.lt_irrefl _)
theorem Inv.cne (I : Inv X pins σ H s) : ∀ x c, X.env.cells.lookup x = some c → c ≠ X.env.locals := fun x c e z => by
  obtain ⟨v, o, ho, hd⟩ := I.cell x c e
  obtain ⟨m, ⟨o', es, ep, ho', hd', _⟩, _⟩ := I.loc
  rw [z, ho'] at ho; cases ho; rw [hd'] at hd; cases hd
theorem Inv.funs (I : Inv X pins σ H s) : s.heap.FunFrames X.base X.outer := by
  have all : ∀ (l : List Env), (∀ b ∈ frs l, b ∈ X.fs) → X.s₀.heap.FunFrames X.base l → s.heap.FunFrames X.base l := by
    intro l
    induction l with
    | nil => intro _ _; trivial
    | cons env r ih =>
      intro hs hl
      obtain ⟨hk, ⟨L, o, hf, hn, ho, hd⟩, hr⟩ := hl
      have hL : L ∈ X.fs := hs L (by unfold frs; rw [List.filterMap_cons, hf]; exact List.mem_cons_self)
      obtain ⟨sl, e⟩ := I.base.slot L o ho (I.ok.frf L hL) hL fun z => I.ok.exfs L z hL
      exact ⟨hk, ⟨L, _, hf, hn, e, hd⟩, ih (fun b hb => hs b (by unfold frs; rw [List.filterMap_cons, hf]; exact List.mem_cons_of_mem _ hb)) hr⟩
  exact all X.outer (fun _ hb => hb) I.ok.funs

/-- the frames that run, for a call -/
theorem Inv.stack (I : Inv X pins σ H s) : s.heap.FunFrames X.base X.stack := by
  rcases I.ok.stk with e | ⟨e, hf⟩
  · rw [e]; exact I.funs
  · rw [e]
    obtain ⟨m, hn, _⟩ := I.loc
    refine .cons (by rw [I.ok.kind]; decide) hf hn ?_ I.funs
    exact Heap.get?_none_of_le (Nat.le_trans I.ok.bsz I.ok.above)
theorem Inv.stkSub (I : Inv X pins σ H s) : ∀ b ∈ frs X.stack, b ∈ X.env.locals :: X.fs := fun b hb => by
  rcases I.ok.stk with e | ⟨e, hf⟩
  · rw [e] at hb; exact List.mem_cons_of_mem _ hb
  · rw [e] at hb
    unfold frs at hb
    rw [List.filterMap_cons, hf] at hb
    exact hb
theorem Inv.stkFree (I : Inv X pins σ H s) : ∀ b ∈ frs X.stack, H b = none := fun b hb => by
  rcases List.mem_cons.mp (I.stkSub b hb) with e | hb
  · rw [e]; exact I.free
  · obtain ⟨_, o, ho, _⟩ := I.ok.funs.mem hb
    exact I.base.free b o ho (I.ok.frf b hb) fun z => I.ok.exfs b z hb

/-- THE STEP: the untracked objects but the frame and the records at ch are kept (the callers' frames up to slots), the frame's map is kept, the new abstract heap is held -/
theorem Inv.step {g' : Array GenState} {t' : Nat} {d' : Drawn} {ch : List Addr} (I : Inv X pins σ H s)
    (hch : ∀ b ∈ ch, (b ∈ X.ex ∨ X.s₀.heap.objs.size ≤ b) ∧ b ≠ X.env.locals ∧ (∀ x c, X.env.cells.lookup x = some c → c ≠ b) ∧ ∀ p ∈ X.pn ++ pins, p.1 ≠ b)
    (keep : ∀ b o, b ≠ X.env.locals → b ∉ X.fs → b ∉ ch → s.heap.get? b = some o → H b = none → h'.get? b = some o)
    (slot : ∀ b o, b ≠ X.env.locals → b ∈ X.fs → b ∉ ch → s.heap.get? b = some o → H b = none → ∃ sl, h'.get? b = some { o with slots := sl }) (free : ∀ b o, b ∉ ch → s.heap.get? b = some o → H b = none → H' b = none)
    (there : ∀ b o, b ∉ ch → s.heap.get? b = some o → ∃ o', h'.get? b = some o')
    (tups : ∀ b xs, H b = some (.tup xs) → H' b = some (.tup xs)) (frzs : ∀ b o u, H b = some (.frz o u) → H' b = some (.frz o u)) (tbls : ∀ b ps, H b = some (.tbl ps) → ∃ more, H' b = some (.tbl (ps ++ more)))
    (ns : ∀ m, s.heap.Ns X.env.locals m → h'.Ns X.env.locals m) (hok : HOk X.prog X.w H' h') (hg : AllBare g') :
    Inv X pins σ H' { s with heap := h', gens := g', drawn := d', toks := t' } := by
  have neL : ∀ b o, X.s₀.heap.get? b = some o → b ≠ X.env.locals := fun b o e => Nat.ne_of_lt (Nat.lt_of_lt_of_le (Heap.lt_size e) I.ok.above)
  have neC : ∀ b o, X.s₀.heap.get? b = some o → b ∉ X.ex → b ∉ ch := fun b o e hx hb => by
    rcases (hch b hb).1 with z | z
    · exact hx z
    · exact absurd (Nat.lt_of_lt_of_le (Heap.lt_size e) z) (Nat.lt_irrefl _)
  have cellK : ∀ x c, X.env.cells.lookup x = some c → ∀ v, s.heap.IsCell c v → h'.IsCell c v := fun x c e v ⟨o, ho, hd⟩ => by
    have nch : c ∉ ch := fun z => (hch c z).2.2.1 x c e rfl
    by_cases hc : c ∈ X.fs
    · obtain ⟨sl, q⟩ := slot c o (I.cne x c e) hc nch ho (I.freeC x c e)
      exact ⟨_, q, hd⟩
    · exact ⟨o, keep c o (I.cne x c e) hc nch ho (I.freeC x c e), hd⟩
  refine ⟨I.ok, I.os, hg, ⟨fun b o e n hb hx => ?_, fun b o e n hb hx => ?_, fun b o e n hx => ?_, fun b o e hx => ?_, fun b xs e => tups b xs (I.base.tups b xs e), fun b o xs e => frzs b o xs (I.base.frzs b o xs e), fun b ps e => ?_⟩, ?_, fun x c e => ?_, ?_, fun x c e => ?_, fun p hp => ?_, hok, I.len⟩
  · exact keep b o (neL b o e) hb (neC b o e hx) (I.base.keep b o e n hb hx) (I.base.free b o e n hx)
  · obtain ⟨sl, e1⟩ := I.base.slot b o e n hb hx
    obtain ⟨sl', e2⟩ := slot b _ (neL b o e) hb (neC b o e hx) e1 (I.base.free b o e n hx)
    exact ⟨sl', e2⟩
  · obtain ⟨o', e1⟩ := I.base.there b o e hx
    exact free b o' (neC b o e hx) e1 (I.base.free b o e n hx)
  · obtain ⟨o', e1⟩ := I.base.there b o e hx
    exact there b o' (neC b o e hx) e1
  · obtain ⟨m1, e1⟩ := I.base.tbls b ps e
    obtain ⟨m2, e2⟩ := tbls b _ e1
    exact ⟨m1 ++ m2, by rw [e2, Array.append_assoc]⟩
  · obtain ⟨m, hn, hl⟩ := I.loc
    refine ⟨m, ns m hn, fun i x v e1 e2 e3 => ?_⟩
    obtain ⟨u, r, l⟩ := hl i x v e1 e2 e3
    refine ⟨u, r, ?_⟩
    rcases l with l | ⟨k, c, e, z⟩
    · exact .inl l
    · exact .inr ⟨k, c, e, cellK x c e _ z⟩
  · obtain ⟨v, z⟩ := I.cell x c e
    exact ⟨v, cellK x c e v z⟩
  · obtain ⟨m, ⟨o, _, _, ho, _⟩, _⟩ := I.loc
    exact free _ o (fun z => (hch _ z).2.1 rfl) ho I.free
  · obtain ⟨v, o, ho, hd⟩ := I.cell x c e
    exact free c o (fun z => (hch c z).2.2.1 x c e rfl) ho (I.freeC x c e)
  · obtain ⟨e, n, ne, nf, d⟩ := I.pin p hp
    have nch : p.1 ∉ ch := fun z => (hch p.1 z).2.2.2 p hp rfl
    exact ⟨keep p.1 p.2 ne nf nch e n, free p.1 p.2 nch e n, ne, nf, d⟩
/-- .. where the frame's own object is kept too -/
theorem Inv.un {t' : Nat} (I : Inv X pins σ H s) (u : Un X.fs [] H H' s.heap h') (hok : HOk X.prog X.w H' h') : Inv X pins σ H' { s with heap := h', toks := t' } := by
  obtain ⟨m, ⟨o, es, ep, ho, r⟩, _⟩ := id I.loc
  obtain ⟨sl, hL⟩ := u.any ho I.free (by simp)
  exact I.step (g' := s.gens) (d' := s.drawn) (ch := []) (fun _ z => nomatch z) (fun b o _ hb _ e n => u.keep b o e n hb (by simp)) (fun b o _ hb _ e n => u.slot b o e n hb (by simp)) (fun b o _ e n => u.free b o e n (by simp)) (fun b o _ e => u.there b o e (by simp)) u.tups u.frzs u.tbls (fun m' hm => by
    obtain ⟨o', es', ep', ho', r'⟩ := hm
    rw [ho] at ho'; cases ho'
    exact ⟨_, es', ep', hL, r'⟩) hok I.bare
/-- behind a call (or a comprehension's block): the slots of this frame may have changed too, the records at ch may have turned -/
theorem Inv.call {g' : Array GenState} {t' : Nat} {d' : Drawn} {ch : List Addr} (I : Inv X pins σ H s) (u : Un (frs X.stack) ch H H' s.heap h') (hok : HOk X.prog X.w H' h') (hg : AllBare g')
    (hch : ∀ b ∈ ch, (b ∈ X.ex ∨ X.s₀.heap.objs.size ≤ b) ∧ b ≠ X.env.locals ∧ (∀ x c, X.env.cells.lookup x = some c → c ≠ b) ∧ ∀ p ∈ X.pn ++ pins, p.1 ≠ b) :
    Inv X pins σ H' { s with heap := h', gens := g', drawn := d', toks := t' } := by
  obtain ⟨m, ⟨o, es, ep, ho, r⟩, _⟩ := id I.loc
  obtain ⟨sl, hL⟩ := u.any ho I.free fun z => (hch _ z).2.1 rfl
  exact I.step (ch := ch) hch (fun b o hL hb hc e n => u.keep b o e n (fun z => (List.mem_cons.mp (I.stkSub b z)).elim hL hb) hc) (fun b o _ _ hc e n => u.any e n hc) (fun b o hc e n => u.free b o e n hc) (fun b o hc e => u.there b o e hc) u.tups u.frzs u.tbls (fun m' hm => by
    obtain ⟨o', es', ep', ho', r'⟩ := hm
    rw [ho] at ho'; cases ho'
    exact ⟨_, es', ep', hL, r'⟩) hok hg
/-- an untracked record of ours (an iterator) has turned -/
theorem Inv.turned {t' : Nat} {it : Addr} (I : Inv X pins σ H s) (k : ∀ b o, b ≠ it → s.heap.get? b = some o → h'.get? b = some o) (hn : H it = none) (hL : it ≠ X.env.locals)
    (h1 : it ∈ X.ex ∨ X.s₀.heap.objs.size ≤ it) (h2 : ∀ x c, X.env.cells.lookup x = some c → c ≠ it) (h3 : ∀ p ∈ X.pn ++ pins, p.1 ≠ it) : Inv X pins σ H { s with heap := h', toks := t' } := by
  have nit : ∀ b u, H b = some u → b ≠ it := fun b u e z => by rw [z, hn] at e; cases e
  refine I.step (g' := s.gens) (d' := s.drawn) (ch := [it]) (fun b hb => ?_) (fun b o _ _ hc e _ => k b o (fun z => hc (by simp [z])) e) (fun b o _ _ hc e _ => ⟨o.slots, k b o (fun z => hc (by simp [z])) e⟩) (fun _ _ _ _ n => n)
    (fun b o hc e => ⟨o, k b o (fun z => hc (by simp [z])) e⟩) (fun _ _ e => e) (fun _ _ _ e => e) (fun b ps e => ⟨#[], by rw [e]; simp⟩) (fun m hm => ?_) (fun b u e => ?_) I.bare
  · have e : b = it := by simpa using hb
    subst e
    exact ⟨h1, hL, h2, h3⟩
  · obtain ⟨o, es, ep, ho, r⟩ := hm
    exact ⟨o, es, ep, k _ o (Ne.symm hL) ho, r⟩
  · refine (I.hok b u e).stay (fun c v hc q => k c v ?_ q) (fun _ q => q) fun _ _ q => q
    rcases hc with z | z
    · rw [z]; exact nit b u e
    · exact nit c _ z
theorem Inv.tok (I : Inv X pins σ H s) (t : Nat) : Inv X pins σ H { s with toks := t } := I.un (h' := s.heap) (t' := t) Un.refl I.hok
/-- all objects kept -/
theorem Inv.kept {t' : Nat} (I : Inv X pins σ H s) (k : ∀ b u, s.heap.get? b = some u → h'.get? b = some u) : Inv X pins σ H { s with heap := h', toks := t' } := I.un (Un.kept k) (I.hok.kept k)
/-- a new object laid and tracked -/
theorem Inv.laid {a : Addr} {o : HO} {t' : Nat} (I : Inv X pins σ H s) (k : ∀ b u, s.heap.get? b = some u → h'.get? b = some u) (hp : s.heap.objs.size ≤ a) (new : ObjOk X.prog X.w (upd H a o) h' a o) :
    Inv X pins σ (upd H a o) { s with heap := h', toks := t' } := I.un (Un.laid k hp (I.hok.fresh hp)) (I.hok.laid k hp new)
/-- an object written -/
theorem Inv.write {x e : Addr} {o : HO} {t' : Nat} (I : Inv X pins σ H s) (mu : Mut (H x)) (he : e = x ∨ H e = some (.own x)) (k : ∀ b u, b ≠ e → s.heap.get? b = some u → h'.get? b = some u) (heo : ∃ u, h'.get? e = some u)
    (new : ObjOk X.prog X.w (upd H x o) h' x o) : Inv X pins σ (upd H x o) { s with heap := h', toks := t' } := I.un (Un.write mu he k heo) (I.hok.write mu he k heo new)
/-- forgetting slots, pins -/
theorem Inv.weak {σ' : List (Option V)} (I : Inv X pins σ H s) (hl : σ'.length = σ.length) (w : ∀ (i : Nat) v, σ'[i]? = some (some v) → σ[i]? = some (some v)) : Inv X pins σ' H s :=
  ⟨I.ok, I.os, I.bare, I.base, let ⟨m, hn, hl'⟩ := I.loc; ⟨m, hn, fun i x v e1 e2 e3 => hl' i x v e1 (w i v e2) e3⟩, I.cell, I.free, I.freeC, I.pin, I.hok, hl.trans I.len⟩
theorem Inv.pins_of {pins' : List (Addr × Obj)} (I : Inv X pins σ H s) (h : ∀ p ∈ pins', s.heap.get? p.1 = some p.2 ∧ H p.1 = none ∧ p.1 ≠ X.env.locals ∧ p.1 ∉ X.fs ∧ ∀ v, p.2.data ≠ .cell v) : Inv X pins' σ H s :=
  ⟨I.ok, I.os, I.bare, I.base, I.loc, I.cell, I.free, I.freeC, fun p hp => (List.mem_append.mp hp).elim (fun z => I.pin p (List.mem_append_left _ z)) (h p), I.hok, I.len⟩

theorem nodup_ix {N : List Str} (hN : N.Nodup) {i j : Nat} {x : Str} (a : N[i]? = some x) (b : N[j]? = some x) : i = j := by
  obtain ⟨h1, e1⟩ := List.getElem?_eq_some_iff.mp a
  obtain ⟨h2, e2⟩ := List.getElem?_eq_some_iff.mp b
  exact (List.getElem_inj hN).mp (e1.trans e2.symm)

/-- a name is stored; what changed -/
theorem store_ok2 {M : Model} {A : Around} {E : Value → Shared → Prop} {i : Nat} {x : Str} {v : V} {u : Value} {Q : Unit → Shared → Prop} (I : Inv X pins σ H s) (hN : X.N.Nodup) (hi : X.N[i]? = some x) (hx : Loc X.env.scope x) (r : RelV v u)
    (h : ∀ s', Inv X pins (σ.set i (some v)) H s' → (∃ a, Heap.SameBut a s.heap s'.heap ∧ (a = X.env.locals ∨ X.env.cells.lookup x = some a)) → Q () s') (hf : X.fn x = true ∨ X.env.scope.names.lookup x = some .local := by first | exact .inl rfl | exact .inr rfl | assumption) : wpAny M A (storeName X.env x u) Q E s := by
  obtain ⟨m, hn, hl⟩ := id I.loc
  have hcls : (X.env.scope.kind == .class || (X.env.scope.kind == .module && X.env.locals != X.env.globals)) = false := by rw [I.ok.kind]; rfl
  have hiσ : i < σ.length := by rw [I.len]; exact (List.getElem?_eq_some_iff.mp hi).1
  have cne := I.cne
  have tracked : ∀ {a : Addr} {h' : Heap}, (∃ o, s.heap.get? a = some o ∧ H a = none) → Heap.SameBut a s.heap h' → HOk X.prog X.w H h' := fun {a h'} ha hs b ob e => by
    obtain ⟨_, _, hfree⟩ := ha
    refine (I.hok b ob e).stay (fun c w' hc q => (hs.2 c ?_).trans q) (fun _ q => q) fun _ _ q => q
    rintro rfl
    rcases hc with rfl | hc
    · rw [hfree] at e; cases e
    · rw [hfree] at hc; cases hc
  rcases hx with hk | hk
  · refine wpAny_storeName_local hk hn (fun h' hn' hs => ?_) hcls
    obtain ⟨oL, _, _, hoL, _⟩ := id hn
    refine h _ ⟨I.ok, I.os, I.bare, ⟨fun b o e n hb hx => ?_, fun b o e n hb hx => ?_, I.base.free, fun b o e hx => ?_, I.base.tups, I.base.frzs, I.base.tbls⟩, ⟨_, hn', fun j y v' e1 e2 e3 => ?_⟩, fun y c e => ?_, I.free, I.freeC, fun p hp => ?_, tracked ⟨oL, hoL, I.free⟩ hs, by simpa using I.len⟩ ⟨_, hs, .inl rfl⟩
    · exact (hs.2 b (Nat.ne_of_lt (Nat.lt_of_lt_of_le (Heap.lt_size e) I.ok.above))).trans (I.base.keep b o e n hb hx)
    · obtain ⟨sl, e1⟩ := I.base.slot b o e n hb hx
      exact ⟨sl, (hs.2 b (Nat.ne_of_lt (Nat.lt_of_lt_of_le (Heap.lt_size e) I.ok.above))).trans e1⟩
    · obtain ⟨o', e1⟩ := I.base.there b o e hx
      exact ⟨o', (hs.2 b (Nat.ne_of_lt (Nat.lt_of_lt_of_le (Heap.lt_size e) I.ok.above))).trans e1⟩
    · by_cases hj : j = i
      · subst hj
        rw [hi] at e1; cases e1
        rw [List.getElem?_set_self hiσ] at e2
        cases e2
        exact ⟨u, r, .inl ⟨hk, by simp⟩⟩
      · rw [List.getElem?_set_ne (Ne.symm hj)] at e2
        obtain ⟨u', r', q⟩ := hl j y v' e1 e2 e3
        refine ⟨u', r', ?_⟩
        rcases q with ⟨k, e⟩ | ⟨k, c, e, z⟩
        · refine .inl ⟨k, ?_⟩
          have : y ≠ x := fun e => hj (nodup_ix hN e1 (e ▸ hi))
          simp [this, e]
        · exact .inr ⟨k, c, e, z.sameBut hs (cne y c e)⟩
    · obtain ⟨w', z⟩ := I.cell y c e
      exact ⟨w', z.sameBut hs (cne y c e)⟩
    · obtain ⟨e, n, ne, nf, d⟩ := I.pin p hp
      exact ⟨(hs.2 p.1 ne).trans e, n, ne, nf, d⟩
  · have hfn : X.fn x = true := by
      rcases hf with z | z
      · exact z
      · rw [z] at hk; cases hk
    obtain ⟨c, hc⟩ := I.ok.has x (.inl hk)
    obtain ⟨w', z⟩ := I.cell x c hc
    refine wpAny_storeName_cell I.ok.kind hk hc z (fun h' hc' hs => ?_)
    obtain ⟨oc, hoc, hocd⟩ := id z
    refine h { s with heap := h' } ⟨I.ok, I.os, I.bare, ⟨fun b o e n hb hx => ?_, fun b o e n hb hx => ?_, I.base.free, fun b o e hx => ?_, I.base.tups, I.base.frzs, I.base.tbls⟩, ⟨m, hn.sameBut hs (Ne.symm (cne x c hc)), fun j y v' e1 e2 e3 => ?_⟩, fun y c' e => ?_, I.free, I.freeC, fun p hp => ?_, tracked ⟨oc, hoc, I.freeC x c hc⟩ hs, by simpa using I.len⟩ ⟨c, hs, .inr hc⟩
    · exact (hs.2 b (Nat.ne_of_lt (Nat.lt_of_lt_of_le (Heap.lt_size e) (I.ok.cab x c hfn hc)))).trans (I.base.keep b o e n hb hx)
    · obtain ⟨sl, e1⟩ := I.base.slot b o e n hb hx
      exact ⟨sl, (hs.2 b (Nat.ne_of_lt (Nat.lt_of_lt_of_le (Heap.lt_size e) (I.ok.cab x c hfn hc)))).trans e1⟩
    · obtain ⟨o', e1⟩ := I.base.there b o e hx
      exact ⟨o', (hs.2 b (Nat.ne_of_lt (Nat.lt_of_lt_of_le (Heap.lt_size e) (I.ok.cab x c hfn hc)))).trans e1⟩
    · by_cases hj : j = i
      · subst hj
        rw [hi] at e1; cases e1
        rw [List.getElem?_set_self hiσ] at e2
        cases e2
        exact ⟨u, r, .inr ⟨.inl hk, c, hc, hc'⟩⟩
      · rw [List.getElem?_set_ne (Ne.symm hj)] at e2
        obtain ⟨u', r', q⟩ := hl j y v' e1 e2 e3
        refine ⟨u', r', ?_⟩
        rcases q with q | ⟨k, c', e, z'⟩
        · exact .inl q
        · refine .inr ⟨k, c', e, z'.sameBut hs ?_⟩
          rintro rfl
          exact hj (nodup_ix hN e1 (I.ok.inj _ _ _ e hc ▸ hi))
    · by_cases hcc : c' = c
      · subst hcc; exact ⟨_, hc'⟩
      · obtain ⟨w2, z2⟩ := I.cell y c' e
        exact ⟨w2, z2.sameBut hs hcc⟩
    · obtain ⟨e, n, ne, nf, d⟩ := I.pin p hp
      refine ⟨(hs.2 p.1 ?_).trans e, n, ne, nf, d⟩
      intro q
      rw [q, hoc] at e
      have q' : oc = p.2 := Option.some.inj e
      exact d w' (by rw [← q']; exact hocd)
theorem store_ok {M : Model} {A : Around} {E : Value → Shared → Prop} {i : Nat} {x : Str} {v : V} {u : Value} {Q : Unit → Shared → Prop} (I : Inv X pins σ H s) (hN : X.N.Nodup) (hi : X.N[i]? = some x) (hx : Loc X.env.scope x) (r : RelV v u)
    (h : ∀ s', Inv X pins (σ.set i (some v)) H s' → Q () s') (hf : X.fn x = true ∨ X.env.scope.names.lookup x = some .local := by first | exact .inl rfl | exact .inr rfl | assumption) : wpAny M A (storeName X.env x u) Q E s :=
  store_ok2 I hN hi hx r (fun s' I' _ => h s' I') hf
/-- behind a call or a block, the state as it is -/
theorem Inv.call' {s' : Shared} {ch : List Addr} (I : Inv X pins σ H s) (ho : s'.os = s.os) (u : Un (frs X.stack) ch H H' s.heap s'.heap) (hok : HOk X.prog X.w H' s'.heap) (hg : AllBare s'.gens)
    (hch : ∀ b ∈ ch, (b ∈ X.ex ∨ X.s₀.heap.objs.size ≤ b) ∧ b ≠ X.env.locals ∧ (∀ x c, X.env.cells.lookup x = some c → c ≠ b) ∧ ∀ p ∈ X.pn ++ pins, p.1 ≠ b) : Inv X pins σ H' s' := by
  obtain ⟨h', g', d', t', o'⟩ := s'
  have e : o' = s.os := ho
  subst e
  exact I.call (g' := g') (t' := t') (d' := d') u hok hg hch
end

/-! ### the judgements -/
/-- an exception: its class, its own dict's address (where it has one), the abstract heap behind it -/
abbrev XK := Value → Option Addr → Hp → Prop
abbrev St := List (Option V)
abbrev VK := V → Hp → Prop
/-- an expression's reading; a test's; an argument list's -/
abbrev TE := St → Hp → VK → Prop
abbrev TT := St → Hp → (Bool → Hp → Prop) → Prop
abbrev TA := St → Hp → (List V → Hp → Prop) → Prop
/-- what is wanted behind a statement -/
structure Ends where
  nx : St → Hp → Prop
  rt : VK
  bk : St → Hp → Prop := fun _ _ => False
  ct : St → Hp → Prop := fun _ _ => False
abbrev TS := Ends → St → Hp → Prop

def EP (X : Cx) (pins : List (Addr × Obj)) (σ : St) (Q : VK) (u : Value) (s' : Shared) : Prop := ∃ v H', Inv X pins σ H' s' ∧ RelV v u ∧ Q v H'
def TP (X : Cx) (pins : List (Addr × Obj)) (σ : St) (Q : Bool → Hp → Prop) (b : Bool) (s' : Shared) : Prop := ∃ H', Inv X pins σ H' s' ∧ Q b H'
def AP (X : Cx) (pins : List (Addr × Obj)) (σ : St) (Q : List V → Hp → Prop) (us : List Value) (s' : Shared) : Prop := ∃ vs H', Inv X pins σ H' s' ∧ Vals vs us ∧ Q vs H'
def SP (X : Cx) (pins : List (Addr × Obj)) (D : Ends) (f : Flow) (s' : Shared) : Prop :=
  match f with
  | .next => ∃ σ' H', Inv X pins σ' H' s' ∧ D.nx σ' H'
  | .brk => ∃ σ' H', Inv X pins σ' H' s' ∧ D.bk σ' H'
  | .cont => ∃ σ' H', Inv X pins σ' H' s' ∧ D.ct σ' H'
  | .ret u => ∃ v σ' H', Inv X pins σ' H' s' ∧ RelV v u ∧ D.rt v H'

def PE (X : Cx) (e : Expr) (t : TE) : Prop :=
  ∀ (pins : List (Addr × Obj)) (s : Shared) (σ : St) (H : Hp) (Q : VK), Inv X pins σ H s → t σ H Q → wpAny (model X.prog X.w) X.A (eval e X.env) (EP X pins σ Q) X.xe s
def PT (X : Cx) (e : Expr) (t : TT) : Prop :=
  ∀ (pins : List (Addr × Obj)) (s : Shared) (σ : St) (H : Hp) (Q : Bool → Hp → Prop), Inv X pins σ H s → t σ H Q → wpAny (model X.prog X.w) X.A (isTrue e X.env (eval e X.env)) (TP X pins σ Q) X.xe s
/-- a test whatever its 'whole' is (and, or) -/
def PW (X : Cx) (e : Expr) (t : TT) : Prop :=
  ∀ (whole : Sem Value) (pins : List (Addr × Obj)) (s : Shared) (σ : St) (H : Hp) (Q : Bool → Hp → Prop), Inv X pins σ H s → t σ H Q → wpAny (model X.prog X.w) X.A (isTrue e X.env whole) (TP X pins σ Q) X.xe s
theorem PW.pt {X : Cx} {e : Expr} {t : TT} (h : PW X e t) : PT X e t := h _
/-- an argument list (no star), from the left -/
def PA (X : Cx) (es : List Expr) (t : TA) : Prop :=
  ∀ (pos : Pos) (pins : List (Addr × Obj)) (s : Shared) (σ : St) (H : Hp) (Q : List V → Hp → Prop), Inv X pins σ H s → t σ H Q → wpAny (model X.prog X.w) X.A (spliced (backTo pos (starEach es X.env))) (AP X pins σ Q) X.xe s
def PS (X : Cx) (st : Stmt) (t : TS) : Prop :=
  ∀ (pins : List (Addr × Obj)) (s : Shared) (σ : St) (H : Hp) (D : Ends), Inv X pins σ H s → t D σ H → wpAny (model X.prog X.w) X.A (exec st X.env) (SP X pins D) X.xe s
def PSs (X : Cx) (st : List Stmt) (t : TS) : Prop :=
  ∀ (pins : List (Addr × Obj)) (s : Shared) (σ : St) (H : Hp) (D : Ends), Inv X pins σ H s → t D σ H → wpAny (model X.prog X.w) X.A (execs st X.env) (SP X pins D) X.xe s
/-- weaken the end -/
theorem thn {α : Type} {t : Sem α} {Q Q' : α → Shared → Prop} {M : Model} {A : Around} {E : Value → Shared → Prop} {s : Shared} (h : wpAny M A t Q E s) (hQ : ∀ a s, Q a s → Q' a s) : wpAny M A t Q' E s := wpAny_mono h hQ fun _ _ x => x
end L2

namespace L2
open PySem PySem.Spec PyProof.Rows
section
variable {X : Cx}

/-- two expressions in a row -/
theorem bin {a b : Expr} {ta tb : TE} (ha : PE X a ta) (hb : PE X b tb) {pins : List (Addr × Obj)} {s : Shared} {σ : St} {H : Hp} {R : V → V → Hp → Prop} (I : Inv X pins σ H s) (h : ta σ H fun x H1 => tb σ H1 fun y H2 => R x y H2)
    {α : Type} {Q : α → Shared → Prop} {f : Value → Value → Sem α}
    (hf : ∀ v u s2 x y H2, Inv X pins σ H2 s2 → RelV x v → RelV y u → R x y H2 → wpAny (model X.prog X.w) X.A (f v u) Q X.xe s2) :
    wpAny (model X.prog X.w) X.A (eval a X.env) (fun v s₁ => wpAny (model X.prog X.w) X.A (eval b X.env) (fun u s₂ => wpAny (model X.prog X.w) X.A (f v u) Q X.xe s₂) X.xe s₁) X.xe s := by
  refine thn (ha pins s σ H _ I h) fun v s1 ⟨x, H1, I1, r1, q1⟩ => ?_
  refine thn (hb pins s1 σ H1 _ I1 q1) fun u s2 ⟨y, H2, I2, r2, q2⟩ => ?_
  exact hf v u s2 x y H2 I2 r1 r2 q2

/-! ### names and constants -/
def tVar (i : Nat) : TE := fun σ H Q => ∃ v, σ[i]? = some (some v) ∧ Q v H
def tC (v : V) : TE := fun _ H Q => Q v H
theorem pe_var {i : Nat} {x : Str} {pos : Pos} (hN : X.N[i]? = some x) (hv : Vis X.env.scope x) (hd : (x == ("__debug__" : Str)) = false := by decide) (hcd : (x == ("__classdict__" : Str)) = false := by decide) : PE X (.Name x pos) (tVar i) := by
  intro pins s σ H Q I h
  obtain ⟨v, e, h⟩ := h
  obtain ⟨m, hn, hl⟩ := I.loc
  obtain ⟨u, r, l⟩ := hl i x v hN e hv
  have fin : EP X pins σ Q u s := ⟨v, H, I, r, h⟩
  rcases l with ⟨hk, hm⟩ | ⟨hk, c, hc, hcell⟩
  · exact wpAny_Name (wpAny_loadName_local I.ok.kind hk hn hm fin) hd
  · rcases hk with hk | hk
    · exact wpAny_Name (wpAny_loadName_cell I.ok.kind hk hc hcell fin) hd
    · exact wpAny_Name (wpAny_loadName_free I.ok.kind hk hc hcell fin hcd) hd
theorem pe_int {i j pos} : PE X (.Constant (.int i) j pos) (tC (.int i)) := fun _ _ _ H _ I h => wpAny_Constant_int ⟨.int i, H, I.tok _, ⟨_, rfl⟩, h⟩
theorem pe_bl {b j pos} : PE X (.Constant (.bool b) j pos) (tC (.bl b)) := fun _ _ _ H _ I h => Constant_bool ⟨.bl b, H, I, rfl, h⟩
theorem pe_non {j pos} : PE X (.Constant .none j pos) (tC .non) := fun _ _ _ H _ I h => Constant_none ⟨.non, H, I, rfl, h⟩
theorem pe_str {x j pos} : PE X (.Constant (.str x) j pos) (tC (.str x)) := fun _ _ _ H _ I h => Calls.Constant_str ⟨.str x, H, I.tok _, ⟨_, rfl⟩, h⟩

/-- a global name of the def -/
def Gl (X : Cx) (x : Str) : Prop := X.env.kindOf x = some .globalImplicit
theorem ld_glob {E : Value → Shared → Prop} {pins : List (Addr × Obj)} {s : Shared} {σ : St} {H : Hp} {x : Str} {u : Value} {pos : Pos} {Q : Value → Shared → Prop} (I : Inv X pins σ H s) (hg : Gl X x) (hm : X.mg x = some u) (h : Q u s)
    (hd : (x == ("__debug__" : Str)) = false := by decide) : wpAny (model X.prog X.w) X.A (eval (.Name x pos) X.env) Q E s :=
  Calls.Name_function_global I.ok.kind hg (Calls.loadGlobal_global (by rw [I.ok.glob]; exact I.mod.glob.keeps I.bk) hm h) hd
theorem ld_blt {E : Value → Shared → Prop} {pins : List (Addr × Obj)} {s : Shared} {σ : St} {H : Hp} {x : Str} {u : Value} {pos : Pos} {Q : Value → Shared → Prop} (I : Inv X pins σ H s) (hg : Gl X x) (hm : X.mg x = none) (hv : bootBuiltins x = some u) (h : Q u s)
    (hn : x ≠ "__name__" := by decide) (hd : (x == ("__debug__" : Str)) = false := by decide) : wpAny (model X.prog X.w) X.A (eval (.Name x pos) X.env) Q E s := by
  obtain ⟨mb, h1, h2⟩ := I.mod.blt
  exact Calls.Name_function_global I.ok.kind hg (Calls.loadGlobal_builtin (by rw [I.ok.glob]; exact I.mod.glob.keeps I.bk) hm (by rw [I.ok.blt]; exact h1.keeps I.bk) ((h2 x hn).trans hv) h) hd
/-- a module's constant, a class, a function, as a value -/
theorem pe_glob {x : Str} {v : V} {u : Value} {pos : Pos} (hg : Gl X x) (hm : X.mg x = some u) (r : RelV v u) (hd : (x == ("__debug__" : Str)) = false := by decide) : PE X (.Name x pos) (tC v) :=
  fun _ _ _ H _ I h => ld_glob I hg hm ⟨v, H, I, r, h⟩ hd
theorem pe_bltn {x : Str} {v : V} {u : Value} {pos : Pos} (hg : Gl X x) (hm : X.mg x = none) (hv : bootBuiltins x = some u) (r : RelV v u) (hn : x ≠ "__name__" := by decide) (hd : (x == ("__debug__" : Str)) = false := by decide) : PE X (.Name x pos) (tC v) :=
  fun _ _ _ H _ I h => ld_blt I hg hm hv ⟨v, H, I, r, h⟩ hn hd

/-! ### arithmetic -/
/-- two ints -/
def t2I (ta tb : TE) (k : Int → Int → Hp → Prop) : St → Hp → Prop := fun σ H => ta σ H fun x H1 => tb σ H1 fun y H2 => ∃ i j, x = .int i ∧ y = .int j ∧ k i j H2
def tAdd (ta tb : TE) : TE := fun σ H Q => t2I ta tb (fun i j H2 => Q (.int (i + j)) H2) σ H
def tSub (ta tb : TE) : TE := fun σ H Q => t2I ta tb (fun i j H2 => Q (.int (i - j)) H2) σ H
/-- the left factor below 2^64 -/
def tMul (ta tb : TE) : TE := fun σ H Q => t2I ta tb (fun i j H2 => (-(2 ^ 64) < i ∧ i < 2 ^ 64) ∧ Q (.int (i * j)) H2) σ H
variable {a b : Expr} {ta tb : TE} {pos : Pos}
theorem pe_add (ha : PE X a ta) (hb : PE X b tb) : PE X (.BinOp a .Add b pos) (tAdd ta tb) := by
  intro pins s σ H Q I h
  refine wpAny_BinOp (bin ha hb I h fun v u s2 x y H2 I2 rx ry q => ?_)
  obtain ⟨i, j, rfl, rfl, q⟩ := q
  obtain ⟨t, rfl⟩ := rx
  obtain ⟨t', rfl⟩ := ry
  exact add_int ⟨.int _, H2, I2.tok _, ⟨_, rfl⟩, q⟩
theorem pe_sub (ha : PE X a ta) (hb : PE X b tb) : PE X (.BinOp a .Sub b pos) (tSub ta tb) := by
  intro pins s σ H Q I h
  refine wpAny_BinOp (bin ha hb I h fun v u s2 x y H2 I2 rx ry q => ?_)
  obtain ⟨i, j, rfl, rfl, q⟩ := q
  obtain ⟨t, rfl⟩ := rx
  obtain ⟨t', rfl⟩ := ry
  exact sub_int ⟨.int _, H2, I2.tok _, ⟨_, rfl⟩, q⟩
theorem pe_mul (ha : PE X a ta) (hb : PE X b tb) : PE X (.BinOp a .Mult b pos) (tMul ta tb) := by
  intro pins s σ H Q I h
  refine wpAny_BinOp (bin ha hb I h fun v u s2 x y H2 I2 rx ry q => ?_)
  obtain ⟨i, j, rfl, rfl, ⟨q1, q2⟩, q⟩ := q
  obtain ⟨t, rfl⟩ := rx
  obtain ⟨t', rfl⟩ := ry
  exact mul_int ⟨.int _, H2, I2.tok _, ⟨_, rfl⟩, q⟩ (.of_left (intBits_le_64 q1 q2))

/-! ### comparisons -/
def PC (X : Cx) (op : CmpOp) (a b : Expr) (t : TE) : Prop :=
  ∀ (pins : List (Addr × Obj)) (s : Shared) (σ : St) (H : Hp) (Q : VK), Inv X pins σ H s → t σ H Q →
    wpAny (model X.prog X.w) X.A (eval a X.env) (fun v s₁ => wpAny (model X.prog X.w) X.A (eval b X.env) (fun u s₂ => wpAny (model X.prog X.w) X.A (compareOp op v u) (EP X pins σ Q) X.xe s₂) X.xe s₁) X.xe s
theorem nobehind (b : Expr) {op : CmpOp} (h : op ≠ .In) (h2 : op ≠ .NotIn) : behindInMarks op b = false := by
  have e1 : (op == CmpOp.In) = false := by cases op <;> first | rfl | exact absurd rfl h
  have e2 : (op == CmpOp.NotIn) = false := by cases op <;> first | rfl | exact absurd rfl h2
  cases b <;> simp [behindInMarks, e1, e2]
def tCmp (p : Int → Int → Bool) (ta tb : TE) : TE := fun σ H Q => t2I ta tb (fun i j H2 => Q (.bl (p i j)) H2) σ H
abbrev tLt : TE → TE → TE := tCmp fun i j => decide (i < j)
abbrev tLe : TE → TE → TE := tCmp fun i j => decide (i ≤ j)
abbrev tGt : TE → TE → TE := tCmp fun i j => decide (j < i)
abbrev tGe : TE → TE → TE := tCmp fun i j => decide (j ≤ i)
abbrev tEqI : TE → TE → TE := tCmp fun i j => decide (i = j)
abbrev tNeI : TE → TE → TE := tCmp fun i j => !decide (i = j)
/-- a comparison of two ints, by its rule -/
theorem pc_int {op : CmpOp} {p : Int → Int → Bool} (ha : PE X a ta) (hb : PE X b tb)
    (rule : ∀ (i j : Int) (t u : Tok) (Q : Value → Shared → Prop) (s : Shared), Q (.bool (p i j)) s → wpAny (model X.prog X.w) X.A (compareOp op (.int i t) (.int j u)) Q X.xe s) : PC X op a b (tCmp p ta tb) := by
  intro pins s σ H Q I h
  refine bin ha hb I h fun v u s2 x y H2 I2 rx ry q => ?_
  obtain ⟨i, j, rfl, rfl, q⟩ := q
  obtain ⟨t, rfl⟩ := rx
  obtain ⟨t', rfl⟩ := ry
  exact rule i j t t' _ s2 ⟨.bl _, H2, I2, rfl, q⟩
theorem pc_lt (ha : PE X a ta) (hb : PE X b tb) : PC X .Lt a b (tLt ta tb) := pc_int ha hb fun _ _ _ _ _ _ h => lt_int h
theorem pc_le (ha : PE X a ta) (hb : PE X b tb) : PC X .LtE a b (tLe ta tb) := pc_int ha hb fun _ _ _ _ _ _ h => le_int h
theorem pc_gt (ha : PE X a ta) (hb : PE X b tb) : PC X .Gt a b (tGt ta tb) := pc_int ha hb fun _ _ _ _ _ _ h => gt_int h
theorem pc_ge (ha : PE X a ta) (hb : PE X b tb) : PC X .GtE a b (tGe ta tb) := pc_int ha hb fun _ _ _ _ _ _ h => ge_int h
theorem pc_eqI (ha : PE X a ta) (hb : PE X b tb) : PC X .Eq a b (tEqI ta tb) := pc_int ha hb fun _ _ _ _ _ _ h => eq_int (by rw [Bool.beq_eq_decide_eq]; exact h)
theorem pc_neI (ha : PE X a ta) (hb : PE X b tb) : PC X .NotEq a b (tNeI ta tb) := pc_int ha hb fun _ _ _ _ _ _ h => ne_int (by rw [bne, Bool.beq_eq_decide_eq]; exact h)
/-- is None -/
def tIsN (ta : TE) : TE := fun σ H Q => ta σ H fun x H1 => Q (.bl (decide (x = .non))) H1
def tNotN (ta : TE) : TE := fun σ H Q => ta σ H fun x H1 => Q (.bl (!decide (x = .non))) H1
theorem RelV.none_iff {x : V} {v : Value} (r : RelV x v) : (v == Value.none) = decide (x = .non) := by
  cases x with
  | non => cases r; rfl
  | bl _ => cases r; rfl
  | int _ => obtain ⟨t, rfl⟩ := r; rfl
  | str _ => obtain ⟨t, rfl⟩ := r; rfl
  | byt _ => obtain ⟨t, rfl⟩ := r; rfl
  | flt _ => obtain ⟨t, rfl⟩ := r; rfl
  | ref _ => cases r; rfl
  | ty _ => cases r; rfl
theorem pc_isN {j pos'} (ha : PE X a ta) : PC X .Is a (.Constant .none j pos') (tIsN ta) := by
  intro pins s σ H Q I h
  refine thn (ha pins s σ H _ I h) fun v s1 ⟨x, H1, I1, r1, q1⟩ => ?_
  exact Constant_none (is_none_gen ⟨.bl _, H1, I1, by rw [r1.none_iff]; rfl, q1⟩)
theorem pc_notN {j pos'} (ha : PE X a ta) : PC X .IsNot a (.Constant .none j pos') (tNotN ta) := by
  intro pins s σ H Q I h
  refine thn (ha pins s σ H _ I h) fun v s1 ⟨x, H1, I1, r1, q1⟩ => ?_
  exact Constant_none (isnot_none_gen ⟨.bl _, H1, I1, by rw [r1.none_iff]; rfl, q1⟩)
/-- a comparison as a value, as a test -/
def tB (t : TE) : TT := fun σ H Q => t σ H fun x H1 => ∃ c, x = .bl c ∧ Q c H1
theorem pe_cmp {op : CmpOp} {t : TE} (h : PC X op a b t) (h1 : behindInMarks op b = false := by first | exact nobehind _ (by decide) (by decide) | rfl) : PE X (.Compare a [op] [b] pos) t := fun pins s σ H Q I hw => wpAny_Compare1 (h pins s σ H Q I hw) h1
theorem pt_cmp {op : CmpOp} {t : TE} (h : PC X op a b t) (h1 : behindInMarks op b = false := by first | exact nobehind _ (by decide) (by decide) | rfl) : PT X (.Compare a [op] [b] pos) (tB t) := by
  intro pins s σ H Q I hw
  refine wpAny_isTrue_Compare1 (thn (h pins s σ H _ I hw) fun v s1 h1 => thn h1 fun u s2 h2 => thn h2 fun c s3 ⟨x, H1, I1, r1, q1⟩ => ?_) h1
  obtain ⟨d, rfl, q⟩ := q1
  cases r1
  exact wpAny_truthy_bool ⟨H1, I1, q⟩
/-- an expression whose value is a bool, as a test -/
theorem pt_val {e : Expr} {t : TE} (h : PE X e t) (he : ∀ whole, isTrue e X.env whole = (do let v ← whole; standAt e.pos; holding [v] (truthy v)) := by intro _; rfl) : PT X e (tB t) := by
  intro pins s σ H Q I hw
  refine isTrue_plain (thn (h pins s σ H _ I hw) fun v s1 ⟨x, H1, I1, r1, q1⟩ => ?_) (he _)
  obtain ⟨d, rfl, q⟩ := q1
  cases r1
  exact wpAny_truthy_bool ⟨H1, I1, q⟩

/-! ### and, or, not -/
variable {tA tB' : TT} {rest : List Expr}
def tAnd (t u : TT) : TT := fun σ H Q => t σ H fun c H1 => if c = true then u σ H1 Q else Q false H1
def tOr (t u : TT) : TT := fun σ H Q => t σ H fun c H1 => if c = true then Q true H1 else u σ H1 Q
def tNot (t : TT) : TT := fun σ H Q => t σ H fun c H1 => Q (!c) H1
theorem pw_and1 (ha : PT X a tA) : PW X (.BoolOp .And [a] pos) tA := by
  intro wh pins s σ H Q I h
  refine isTrue_and (thn (ha pins s σ H Q I h) fun c s1 e => ?_)
  cases c with
  | true => exact isTrue_and_nil e
  | false => exact e
theorem pw_or1 (ha : PT X a tA) : PW X (.BoolOp .Or [a] pos) tA := by
  intro wh pins s σ H Q I h
  refine isTrue_or (thn (ha pins s σ H Q I h) fun c s1 e => ?_)
  cases c with
  | false => exact isTrue_or_nil e
  | true => exact e
theorem pw_and (ha : PT X a tA) (hb : PW X (.BoolOp .And (b :: rest) pos) tB') : PW X (.BoolOp .And (a :: b :: rest) pos) (tAnd tA tB') := by
  intro wh pins s σ H Q I h
  refine isTrue_and (thn (ha pins s σ H _ I h) fun c s1 ⟨H1, I1, q1⟩ => ?_)
  cases c with
  | true => exact hb wh pins s1 σ H1 Q I1 q1
  | false => exact ⟨H1, I1, q1⟩
theorem pw_or (ha : PT X a tA) (hb : PW X (.BoolOp .Or (b :: rest) pos) tB') : PW X (.BoolOp .Or (a :: b :: rest) pos) (tOr tA tB') := by
  intro wh pins s σ H Q I h
  refine isTrue_or (thn (ha pins s σ H _ I h) fun c s1 ⟨H1, I1, q1⟩ => ?_)
  cases c with
  | true => exact ⟨H1, I1, q1⟩
  | false => exact hb wh pins s1 σ H1 Q I1 q1
theorem pt_not (ha : PT X a tA) : PT X (.UnaryOp .Not a pos) (tNot tA) := by
  intro pins s σ H Q I h
  exact isTrue_not (ha pins s σ H (fun c H1 => Q (!c) H1) I h)
/-- .. as values (bools) -/
def tAndV (ta tb : TE) : TE := fun σ H Q => ta σ H fun x H1 => ∃ c, x = .bl c ∧ if c = true then tb σ H1 Q else Q (.bl false) H1
def tOrV (ta tb : TE) : TE := fun σ H Q => ta σ H fun x H1 => ∃ c, x = .bl c ∧ if c = true then Q (.bl true) H1 else tb σ H1 Q
def tNotV (ta : TE) : TE := fun σ H Q => ta σ H fun x H1 => ∃ c, x = .bl c ∧ Q (.bl (!c)) H1
theorem pe_one {op} {t : TE} (h : PE X a t) : PE X (.BoolOp op [a] pos) t := fun pins s σ H Q I hw => BoolOp_one (h pins s σ H Q I hw)
theorem pe_and (ha : PE X a ta) (hb : PE X (.BoolOp .And (b :: rest) pos) tb) : PE X (.BoolOp .And (a :: b :: rest) pos) (tAndV ta tb) := by
  intro pins s σ H Q I h
  refine BoolOp_and (thn (ha pins s σ H _ I h) fun v s1 ⟨x, H1, I1, r1, q1⟩ => ?_)
  obtain ⟨c, rfl, q1⟩ := q1
  cases r1
  refine wpAny_truthy_bool ?_
  cases c with
  | true => exact hb pins s1 σ H1 Q I1 q1
  | false => exact ⟨.bl false, H1, I1, rfl, q1⟩
theorem pe_or (ha : PE X a ta) (hb : PE X (.BoolOp .Or (b :: rest) pos) tb) : PE X (.BoolOp .Or (a :: b :: rest) pos) (tOrV ta tb) := by
  intro pins s σ H Q I h
  refine BoolOp_or (thn (ha pins s σ H _ I h) fun v s1 ⟨x, H1, I1, r1, q1⟩ => ?_)
  obtain ⟨c, rfl, q1⟩ := q1
  cases r1
  refine wpAny_truthy_bool ?_
  cases c with
  | false => exact hb pins s1 σ H1 Q I1 q1
  | true => exact ⟨.bl true, H1, I1, rfl, q1⟩
theorem pe_not (ha : PE X a ta) : PE X (.UnaryOp .Not a pos) (tNotV ta) := by
  intro pins s σ H Q I h
  refine UnaryOp_ (thn (ha pins s σ H _ I h) fun v s1 ⟨x, H1, I1, r1, q1⟩ => ?_)
  obtain ⟨c, rfl, q1⟩ := q1
  cases r1
  exact not_of (wpAny_truthy_bool ⟨.bl (!c), H1, I1, rfl, q1⟩)
/-- a if t else b -/
def tIf (t : TT) (ta tb : TE) : TE := fun σ H Q => t σ H fun c H1 => if c = true then ta σ H1 Q else tb σ H1 Q
theorem pe_ifExp {c : Expr} (hc : PT X c tA) (ha : PE X a ta) (hb : PE X b tb) : PE X (.IfExp c a b pos) (tIf tA ta tb) := by
  intro pins s σ H Q I h
  refine wpAny_IfExp (thn (hc pins s σ H _ I h) fun d s1 ⟨H1, I1, q1⟩ => ?_)
  cases d with
  | true => exact ha pins s1 σ H1 Q I1 q1
  | false => exact hb pins s1 σ H1 Q I1 q1
end
end L2

namespace L2
open PySem PySem.Spec PyProof.Rows

/-! ### a list, a tuple that is read: tracked, frozen, or an object of the module -/
def SqL (K : PySem.W.Frag) (H : Hp) (a : Addr) (xs : List V) : Prop :=
  Rd H a (.lst xs) ∨
    ∃ (o : Obj) (its : Array Value) (n : Nat), K.lookup a = some o ∧ o.cls = .type "list" ∧ o.dict = none ∧ o.data = .seq its n ∧ its.size ≤ sizeLine ∧ Vals xs its.toList
def SqT (K : PySem.W.Frag) (H : Hp) (a : Addr) (xs : List V) : Prop :=
  Rd H a (.tup xs) ∨
    ∃ (o : Obj) (its : Array Value) (n : Nat), K.lookup a = some o ∧ o.cls = .type "tuple" ∧ o.data = .seq its n ∧ its.size ≤ sizeLine ∧ Vals xs its.toList
def absV : Value → Option V
  | .none => some .non
  | .bool b => some (.bl b)
  | .int i _ => some (.int i)
  | .str x _ => some (.str x)
  | .bytes b _ => some (.byt b)
  | .float b _ => some (.flt b)
  | .ref a => some (.ref a)
  | .type n => some (.ty n)
  | _ => none
theorem RelV.abs {x : V} {u : Value} (r : RelV x u) : absV u = some x := by
  cases x with
  | non => cases r; rfl
  | bl _ => cases r; rfl
  | int _ => obtain ⟨t, rfl⟩ := r; rfl
  | str _ => obtain ⟨t, rfl⟩ := r; rfl
  | byt _ => obtain ⟨t, rfl⟩ := r; rfl
  | flt _ => obtain ⟨t, rfl⟩ := r; rfl
  | ref _ => cases r; rfl
  | ty _ => cases r; rfl
theorem RelV.inj {x y : V} {u : Value} (r : RelV x u) (q : RelV y u) : x = y := Option.some.inj (r.abs.symm.trans q.abs)
theorem Vals.inj : ∀ {xs ys : List V} {us : List Value}, Vals xs us → Vals ys us → xs = ys
  | _, _, _, .nil, .nil => rfl
  | _, _, _, .cons r t, .cons r' t' => by rw [r.inj r', Vals.inj t t']
section
variable {X : Cx} {pins : List (Addr × Obj)} {σ : St} {H : Hp} {s : Shared} {a : Addr} {xs ys : List V}
theorem SqL.of {K : PySem.W.Frag} (h : H a = some (.lst xs)) : SqL K H a xs := .inl (.inl h)
theorem SqT.of {K : PySem.W.Frag} (h : H a = some (.tup xs)) : SqT K H a xs := .inl (.inl h)
theorem Inv.list (I : Inv X pins σ H s) (h : SqL X.K H a xs) : ∃ its : List Value, Vals xs its ∧ PlainL s.heap a its.toArray ∧ xs.length ≤ sizeLine := by
  rcases h with h | ⟨o, its, n, hk, hc, hd, hs, hz, r⟩
  · obtain ⟨z, its, n, r, e⟩ := h.ok I.hok
    exact ⟨its, r, ⟨_, n, e, rfl, rfl, rfl⟩, z⟩
  · refine ⟨its.toList, r, ⟨o, n, I.kIn a o hk, hc, hd, by simpa using hs⟩, ?_⟩
    have e := r.length
    simp only [Array.length_toList] at e
    omega
theorem Inv.tuple (I : Inv X pins σ H s) (h : SqT X.K H a xs) : ∃ its : List Value, Vals xs its ∧ IsTup s.heap a its.toArray ∧ xs.length ≤ sizeLine := by
  rcases h with h | ⟨o, its, n, hk, hc, hs, hz, r⟩
  · obtain ⟨z, its, r, p⟩ := h.ok I.hok
    exact ⟨its, r, p, z⟩
  · refine ⟨its.toList, r, ⟨o, I.kIn a o hk, hc, n, by simpa using hs⟩, ?_⟩
    have e := r.length
    simp only [Array.length_toList] at e
    omega
theorem Inv.list_inj (I : Inv X pins σ H s) (h : SqL X.K H a xs) (h' : SqL X.K H a ys) : xs = ys := by
  obtain ⟨its, r, ⟨o, n, e, _, _, d⟩, _⟩ := I.list h
  obtain ⟨its', r', ⟨o', n', e', _, _, d'⟩, _⟩ := I.list h'
  rw [e] at e'; cases e'
  rw [d] at d'
  injection d' with d1 _
  have : its = its' := by simpa using congrArg Array.toList d1
  subst this
  exact r.inj r'
theorem Inv.tuple_inj (I : Inv X pins σ H s) (h : SqT X.K H a xs) (h' : SqT X.K H a ys) : xs = ys := by
  obtain ⟨its, r, ⟨o, e, _, n, d⟩, _⟩ := I.tuple h
  obtain ⟨its', r', ⟨o', e', _, n', d'⟩, _⟩ := I.tuple h'
  rw [e] at e'; cases e'
  rw [d] at d'
  injection d' with d1 _
  have : its = its' := by simpa using congrArg Array.toList d1
  subst this
  exact r.inj r'
end

/-! ### another wish about exceptions -/
abbrev Cx.wish (X : Cx) (E : Value → Shared → Prop) : Cx := { X with xe := E }
/-- no exception leaves -/
abbrev Cx.nox (X : Cx) : Cx := X.wish fun _ _ => False
theorem Cx.Ok.wish {X : Cx} (ok : X.Ok) (E : Value → Shared → Prop) : (X.wish E).Ok :=
  ⟨ok.mod, ok.kind, ok.glob, ok.blt, ok.above, ok.inj, ok.has, ok.cab, ok.hd, ok.frames, ok.stk, ok.exf, ok.bs, ok.bsz, ok.noex, ok.exfs, ok.funs, ok.frf⟩
theorem Cx.Ok.unwish {X : Cx} {E : Value → Shared → Prop} (ok : (X.wish E).Ok) : X.Ok :=
  ⟨ok.mod, ok.kind, ok.glob, ok.blt, ok.above, ok.inj, ok.has, ok.cab, ok.hd, ok.frames, ok.stk, ok.exf, ok.bs, ok.bsz, ok.noex, ok.exfs, ok.funs, ok.frf⟩
section
variable {X : Cx} {pins : List (Addr × Obj)} {σ : St} {H : Hp} {s : Shared} {E : Value → Shared → Prop}
theorem Inv.wish (I : Inv X pins σ H s) (E : Value → Shared → Prop) : Inv (X.wish E) pins σ H s := ⟨I.ok.wish E, I.os, I.bare, I.base, I.loc, I.cell, I.free, I.freeC, I.pin, I.hok, I.len⟩
theorem Inv.unwish (I : Inv (X.wish E) pins σ H s) : Inv X pins σ H s := ⟨I.ok.unwish, I.os, I.bare, I.base, I.loc, I.cell, I.free, I.freeC, I.pin, I.hok, I.len⟩
theorem SP.unwish {D : Ends} {f : Flow} {s' : Shared} (h : SP (X.wish E) pins D f s') : SP X pins D f s' := by
  cases f with
  | next => obtain ⟨σ', H', I, q⟩ := h; exact ⟨σ', H', I.unwish, q⟩
  | brk => obtain ⟨σ', H', I, q⟩ := h; exact ⟨σ', H', I.unwish, q⟩
  | cont => obtain ⟨σ', H', I, q⟩ := h; exact ⟨σ', H', I.unwish, q⟩
  | ret u => obtain ⟨v, σ', H', I, r, q⟩ := h; exact ⟨v, σ', H', I.unwish, r, q⟩
theorem PE.nox {e : Expr} {t : TE} (h : PE X.nox e t) : PE X e t := fun pins s σ H Q I hw =>
  wpAny_mono (h pins s σ H Q (I.wish _) hw) (fun _ _ ⟨v, H', I', r, q⟩ => ⟨v, H', I'.unwish, r, q⟩) fun _ _ z => False.elim z
theorem PT.nox {e : Expr} {t : TT} (h : PT X.nox e t) : PT X e t := fun pins s σ H Q I hw =>
  wpAny_mono (h pins s σ H Q (I.wish _) hw) (fun _ _ ⟨H', I', q⟩ => ⟨H', I'.unwish, q⟩) fun _ _ z => False.elim z
theorem PSs.nox {st : List Stmt} {t : TS} (h : PSs X.nox st t) : PSs X st t := fun pins s σ H D I hw =>
  wpAny_mono (h pins s σ H D (I.wish _) hw) (fun _ _ q => q.unwish) fun _ _ z => False.elim z
end

/-! ### blocks and small statements -/
section
variable {X : Cx} {st : Stmt} {rest : List Stmt} {t u : TS} {e : Expr} {te : TE} {pos : Pos}
def tNext : TS := fun D σ H => D.nx σ H
def tSeq (t u : TS) : TS := fun D σ H => t { D with nx := u D } σ H
theorem pss_nil : PSs X [] tNext := fun _ _ σ H _ I h => wpAny_execs_nil ⟨σ, H, I, h⟩
theorem pss_cons (h1 : PS X st t) (h2 : PSs X rest u) : PSs X (st :: rest) (tSeq t u) := by
  intro pins s σ H D I h
  refine wpAny_execs_cons (thn (h1 pins s σ H { D with nx := u D } I h) fun f s1 q => ?_)
  cases f with
  | next =>
    obtain ⟨σ', H', I', q⟩ := q
    exact h2 pins s1 σ' H' D I' q
  | ret v => exact q
  | brk => exact q
  | cont => exact q
theorem pss_one (h1 : PS X st t) : PSs X [st] t := by
  intro pins s σ H D I h
  refine wpAny_execs_cons (thn (h1 pins s σ H D I h) fun f s1 q => ?_)
  cases f with
  | next => exact wpAny_execs_nil q
  | ret v => exact q
  | brk => exact q
  | cont => exact q
def tBreak : TS := fun D σ H => D.bk σ H
def tCont : TS := fun D σ H => D.ct σ H
theorem ps_pass : PS X (.Pass pos) tNext := fun _ _ σ H _ I h => wpAny_Pass ⟨σ, H, I, h⟩
theorem ps_break : PS X (.Break pos) tBreak := fun _ _ σ H _ I h => wpAny_Break ⟨σ, H, I, h⟩
theorem ps_continue : PS X (.Continue pos) tCont := fun _ _ σ H _ I h => wpAny_Continue ⟨σ, H, I, h⟩
/-- in a def's body nothing is shown -/
theorem Inv.quiet {pins : List (Addr × Obj)} {σ : St} {H : Hp} {s : Shared} (I : Inv X pins σ H s) : interactive X.env = false := by simp [interactive, I.ok.kind]
/-- a docstring -/
theorem ps_doc {x j pos pos'} : PS X (.Expr (.Constant (.str x) j pos) pos') tNext := fun _ s σ H _ I h => wpAny_Expr (Calls.Constant_str (show SP X _ _ .next { s with toks := s.toks + 1 } from ⟨σ, H, I.tok _, h⟩)) I.quiet
/-- an expression whose value is dropped -/
def tDrop (te : TE) : TS := fun D σ H => te σ H fun _ H1 => D.nx σ H1
theorem ps_expr (he : PE X e te) (hs : swapsWith e none pos.line X.env = pure false := by rfl) : PS X (.Expr e pos) (tDrop te) := by
  intro pins s σ H D I h
  exact wpAny_Expr_any (thn (he pins s σ H _ I h) fun v s1 ⟨x, H1, I1, r1, q1⟩ => ⟨σ, H1, I1, q1⟩) I.quiet hs
def tRet (te : TE) : TS := fun D σ H => te σ H D.rt
theorem ps_ret (he : PE X e te) : PS X (.Return (some e) pos) (tRet te) := by
  intro pins s σ H D I h
  exact wpAny_Return_some (thn (he pins s σ H _ I h) fun v s1 ⟨x, H1, I1, r1, q1⟩ => ⟨x, σ, H1, I1, r1, q1⟩)
def tRetN : TS := fun D _ H => D.rt .non H
theorem ps_retN : PS X (.Return none pos) tRetN := fun _ _ σ H _ I h => wpAny_Return_none ⟨.non, σ, H, I, rfl, h⟩
def tIfS (c : TT) (t u : TS) : TS := fun D σ H => c σ H fun b H1 => if b = true then t D σ H1 else u D σ H1
theorem ps_if {c : Expr} {a b : List Stmt} {tc : TT} (hc : PT X c tc) (ha : PSs X a t) (hb : PSs X b u) : PS X (.If c a b pos) (tIfS tc t u) := by
  intro pins s σ H D I h
  refine wpAny_If (thn (hc pins s σ H _ I h) fun d s1 ⟨H1, I1, q1⟩ => ?_)
  cases d with
  | true => exact ha pins s1 σ H1 D I1 q1
  | false => exact hb pins s1 σ H1 D I1 q1
/-- code that the proof never comes to -/
def tNever : TS := fun _ _ _ => False
theorem ps_never : PS X st tNever := fun _ _ _ _ _ _ h => h.elim
theorem pss_never {sts : List Stmt} : PSs X sts tNever := fun _ _ _ _ _ _ h => h.elim
end

/-! ### targets -/
abbrev TG := V → St → Hp → (St → Hp → Prop) → Prop
abbrev TGs := List V → St → Hp → (St → Hp → Prop) → Prop
def PG (X : Cx) (target : Expr) (t : TG) : Prop :=
  ∀ (pins : List (Addr × Obj)) (s : Shared) (σ : St) (H : Hp) (v : V) (u : Value) (Q : St → Hp → Prop), Inv X pins σ H s → RelV v u → t v σ H Q →
    wpAny (model X.prog X.w) X.A (assign target X.env u) (fun _ s' => ∃ σ' H', Inv X pins σ' H' s' ∧ Q σ' H') X.xe s
/-- several targets, one after another -/
def PGs (X : Cx) (ts : List Expr) (t : TGs) : Prop :=
  ∀ (pins : List (Addr × Obj)) (s : Shared) (σ : St) (H : Hp) (vs : List V) (us : List Value) (Q : St → Hp → Prop), Inv X pins σ H s → Vals vs us → t vs σ H Q →
    wpAny (model X.prog X.w) X.A (assignInOrder ((assignEach ts X.env).map (·.2)) us) (fun _ s' => ∃ σ' H', Inv X pins σ' H' s' ∧ Q σ' H') X.xe s
/-- o[i] = v, by values -/
abbrev TSet := V → V → V → Hp → (Hp → Prop) → Prop
def PSet (X : Cx) (t : TSet) : Prop :=
  ∀ (pins : List (Addr × Obj)) (s : Shared) (σ : St) (H : Hp) (o i v : V) (ov iv u : Value) (Q : Hp → Prop), Inv X pins σ H s → RelV o ov → RelV i iv → RelV v u → t o i v H Q →
    wpAny (model X.prog X.w) X.A (setItem ov iv u) (fun _ s' => ∃ H', Inv X pins σ H' s' ∧ Q H') X.xe s
/-- a op= b, by values -/
abbrev TIp := V → V → Hp → VK → Prop
def PIp (X : Cx) (op : Operator) (t : TIp) : Prop :=
  ∀ (pins : List (Addr × Obj)) (s : Shared) (σ : St) (H : Hp) (x y : V) (v u : Value) (Q : VK), Inv X pins σ H s → RelV x v → RelV y u → t x y H Q →
    wpAny (model X.prog X.w) X.A (inplaceOp op v u) (EP X pins σ Q) X.xe s
section
variable {X : Cx} {pos : Pos}
def gName (i : Nat) : TG := fun v σ H Q => Q (σ.set i (some v)) H
theorem pg_name {i : Nat} {x : Str} (hN : X.N.Nodup) (hi : X.N[i]? = some x) (hx : Loc X.env.scope x) (hf : X.fn x = true ∨ X.env.scope.names.lookup x = some .local := by first | exact .inl rfl | exact .inr rfl | assumption) : PG X (.Name x pos) (gName i) := by
  intro pins s σ H v u Q I r h
  exact wpAny_assign_Name (store_ok I hN hi hx r (fun s' I' => ⟨_, H, I', h⟩) hf)
def gNil : TGs := fun vs σ H Q => vs = [] ∧ Q σ H
def gCons (t : TG) (u : TGs) : TGs := fun vs σ H Q => ∃ v r, vs = v :: r ∧ t v σ H fun σ' H' => u r σ' H' Q
theorem pgs_nil : PGs X [] gNil := by
  intro pins s σ H vs us Q I r h
  obtain ⟨e, h⟩ := h
  subst e
  cases r
  exact assignInOrder_nil ⟨σ, H, I, h⟩
theorem pgs_cons {e : Expr} {es : List Expr} {t : TG} {u : TGs} (h1 : PG X e t) (h2 : PGs X es u)
    (hs : (assignEach (e :: es) X.env).map (·.2) = assign e X.env :: (assignEach es X.env).map (·.2) := by rfl) : PGs X (e :: es) (gCons t u) := by
  intro pins s σ H vs us Q I r h
  obtain ⟨v, vr, e1, h⟩ := h
  subst e1
  cases r with
  | cons r rr =>
    rw [hs]
    refine assignInOrder_cons (thn (h1 pins s σ H _ _ _ I r h) fun _ s1 ⟨σ1, H1, I1, q1⟩ => ?_)
    exact h2 pins s1 σ1 H1 _ _ Q I1 rr q1
/-- (a, b, ..) = a tuple of that length -/
def gTup (K : PySem.W.Frag) (n : Nat) (t : TGs) : TG := fun v σ H Q => ∃ a xs, v = .ref a ∧ SqT K H a xs ∧ xs.length = n ∧ t xs σ H Q
theorem pg_tup {es : List Expr} {k : Nat} {t : TGs} {n : Nat} (hc : X.calm = true) (h : PGs X es t)
    (hn : (assignEach es X.env).length = n := by rfl) (hst : (assignEach es X.env).findIdx? (·.1) = none := by rfl) : PG X (.Tuple es k pos) (gTup X.K n t) := by
  intro pins s σ H v u Q I r hw
  obtain ⟨a, xs, e1, hq, hl, hw⟩ := hw
  subst e1
  cases r
  obtain ⟨its, rv, ht, hz⟩ := I.tuple hq
  refine assign_Tuple_tuple (I.ok.hd hc) ht (by simp [hn, ← hl, rv.length]) hst fun h' hx => ?_
  have I1 : Inv X pins σ H { s with heap := h' } := I.kept (t' := s.toks) fun b o e => hx b o (Nat.ne_of_lt (Heap.lt_size e)) e
  exact h pins _ σ H xs _ Q I1 (by simpa using rv) hw
/-- o[i] = .. -/
def gSub (to ti : TE) (t : TSet) : TG := fun v σ H Q => to σ H fun o H1 => ti σ H1 fun i H2 => t o i v H2 fun H3 => Q σ H3
theorem pg_sub {o i : Expr} {to ti : TE} {t : TSet} (ho : PE X o to) (hi : PE X i ti) (hs : PSet X t)
    (ha : ∀ v, assign (.Subscript o i pos) X.env v = (do
      let ov ← holding [v] (eval o X.env)
      let iv ← holding [v, ov] (eval i X.env)
      standAt pos
      holding [v, ov, iv] (setItem ov iv v)
      release [v, ov, iv] []) := by intro _; rfl) : PG X (.Subscript o i pos) (gSub to ti t) := by
  intro pins s σ H v u Q I r h
  rw [ha]
  refine wpAny_bind (wpAny_holding (thn (ho pins s σ H _ I h) fun ov s1 ⟨x, H1, I1, r1, q1⟩ => ?_))
  refine wpAny_bind (wpAny_holding (thn (hi pins s1 σ H1 _ I1 q1) fun iv s2 ⟨y, H2, I2, r2, q2⟩ => ?_))
  refine wpAny_bind (wpAny_standAt (wpAny_bind (wpAny_holding (thn (hs pins s2 σ H2 x y v ov iv u _ I2 r1 r2 r q2) fun _ s3 ⟨H3, I3, q3⟩ => ?_))))
  exact wpAny_release ⟨σ, H3, I3, q3⟩
/-- target = value -/
def tAsg (te : TE) (g : TG) : TS := fun D σ H => te σ H fun x H1 => g x σ H1 D.nx
theorem ps_asg {tg e : Expr} {te : TE} {g : TG} (he : PE X e te) (hg : PG X tg g) (hs : swapsWithSole [tg] e pos.line X.env = pure false := by rfl) (hw : swappedStores [tg] e X.env = pure none := by rfl)
    (h1 : (assignEach [tg] X.env).map (·.2) = [assign tg X.env] := by rfl) : PS X (.Assign [tg] e pos) (tAsg te g) := by
  intro pins s σ H D I h
  refine wpAny_Assign_stores (thn (he pins s σ H _ I h) fun v s1 ⟨x, H1, I1, r1, q1⟩ => ?_) hs hw
  rw [h1]
  exact thn (hg pins s1 σ H1 x v _ I1 r1 q1) fun _ s2 q => q
/-- name = value -/
theorem ps_set {i : Nat} {x : Str} {e : Expr} {te : TE} {pos' : Pos} (hN : X.N.Nodup) (hi : X.N[i]? = some x) (hx : Loc X.env.scope x) (he : PE X e te) (hs : swapsWith e (some (.Name x pos')) pos.line X.env = pure false := by rfl) (hf : X.fn x = true ∨ X.env.scope.names.lookup x = some .local := by first | exact .inl rfl | exact .inr rfl | assumption) :
    PS X (.Assign [.Name x pos'] e pos) (tAsg te (gName i)) := by
  intro pins s σ H D I h
  refine wpAny_Assign_Name (thn (he pins s σ H _ I h) fun v s1 ⟨y, H1, I1, r1, q1⟩ => ?_) hs
  exact store_ok I1 hN hi hx r1 (fun s2 I2 => ⟨_, H1, I2, q1⟩) hf
/-- a, b = x, y with plain local names: stored from the right; the pair itself is not tracked (the opening rows as in PyProof/Rows/TupAssign.lean:23) -/
def tPar (i j : Nat) (ta : TA) : TS := fun D σ H => ta σ H fun vs H1 => ∃ v w, vs = [v, w] ∧ D.nx ((σ.set i (some v)).set j (some w)) H1
theorem ps_par {i j : Nat} {x y : Str} {a b : Expr} {ta : TA} {px py pt : Pos} {kt k2 pt2} (hc : X.calm = true) (hN : X.N.Nodup) (hi : X.N[i]? = some x) (hj : X.N[j]? = some y) (hij : i ≠ j)
    (hx : X.env.scope.names.lookup x = some .local) (hy : X.env.scope.names.lookup y = some .local) (ha : PA X [a, b] ta)
    (hw : swappedStores [.Tuple [.Name x px, .Name y py] kt pt] (.Tuple [a, b] k2 pt2) X.env = pure (some [x, y]))
    (hs : swapsWithSole [.Tuple [.Name x px, .Name y py] kt pt] (.Tuple [a, b] k2 pt2) pos.line X.env = pure false := by rfl) :
    PS X (.Assign [.Tuple [.Name x px, .Name y py] kt pt] (.Tuple [a, b] k2 pt2) pos) (tPar i j ta) := by
  intro pins s σ H D I h
  rw [exec_Assign_arm]
  refine wpAny_bind (wpAny_standAt ?_)
  rw [hs]
  refine wpAny_bind (wpAny_pure ?_)
  rw [if_neg (by decide)]
  refine wpAny_bind (Tuple_ (thn (ha _ pins s σ H _ I h) fun us s1 ⟨vs, H1, I1, r1, q1⟩ => ?_))
  obtain ⟨v, w, e1, q1⟩ := q1
  subst e1
  obtain ⟨u1, u2, rfl, rv, rw'⟩ : ∃ u1 u2, us = [u1, u2] ∧ RelV v u1 ∧ RelV w u2 := by
    cases r1 with
    | cons p q =>
      cases q with
      | cons p' q' =>
        cases q'
        exact ⟨_, _, rfl, p, p'⟩
  refine wpAny_newObj_type ?_ (by show 2 ≤ sizeLine; decide)
  have I2 : Inv X pins σ H1 { s1 with heap := s1.heap.push { cls := .type "tuple", data := .seq [u1, u2].toArray } } := I1.kept (t' := s1.toks) fun b o e => Heap.get?_push_of_some _ e
  rw [hw]
  refine wpAny_bind (wpAny_pure ?_)
  show wpAny (model X.prog X.w) X.A (do rule "assign.swapped-stores"; let items ← unpackItems (.ref s1.heap.objs.size) 2 none; assignInOrder [fun v => bindName X.env y v, fun v => bindName X.env x v] items.reverse; pure Flow.next) _ _ _
  refine wpAny_bind (wpAny_rule (wpAny_bind (unpackItems_tuple (items := #[u1, u2]) (I.ok.hd hc) (IsTup.new s1.heap _) fun h' hx' => ?_)))
  have I3 := I2.kept (h' := h') (t' := s1.toks) fun b o e => hx' b o (Nat.ne_of_lt (Heap.lt_size e)) e
  show wpAny _ _ (assignInOrder [fun v => bindName X.env y v, fun v => bindName X.env x v] [u2, u1] >>= fun _ => pure Flow.next) _ _ _
  refine wpAny_bind (assignInOrder_cons (wpAny_bindName (store_ok I3 hN hj (.inl hy) rw' (fun s2 I4 => ?_) (.inr hy))))
  refine assignInOrder_cons (wpAny_bindName (store_ok I4 hN hi (.inl hx) rv (fun s3 I5 => assignInOrder_nil (wpAny_pure ?_)) (.inr hx)))
  rw [List.set_comm _ _ (Ne.symm hij)] at I5
  exact ⟨_, H1, I5, q1⟩
/-- name op= e -/
def tAug (i : Nat) (te : TE) (ti : TIp) : TS := fun D σ H => ∃ x, σ[i]? = some (some x) ∧ te σ H fun y H1 => ti x y H1 fun z H2 => D.nx (σ.set i (some z)) H2
theorem ps_aug {i : Nat} {x : Str} {e : Expr} {te : TE} {op : Operator} {ti : TIp} {pos' : Pos} (hN : X.N.Nodup) (hi : X.N[i]? = some x) (hx : Loc X.env.scope x) (he : PE X e te) (ho : PIp X op ti) (hf : X.fn x = true ∨ X.env.scope.names.lookup x = some .local := by first | exact .inl rfl | exact .inr rfl | assumption) :
    PS X (.AugAssign (.Name x pos') op e pos) (tAug i te ti) := by
  intro pins s σ H D I h
  obtain ⟨v, e1, h⟩ := h
  obtain ⟨m, hn, hl⟩ := I.loc
  have vis : Vis X.env.scope x := by rcases hx with k | k; exact .inl k; exact .inr (.inl k)
  obtain ⟨u, r, l⟩ := hl i x v hi e1 vis
  refine wpAny_AugAssign_Name ?_
  have go : wpAny (model X.prog X.w) X.A (eval e X.env) (fun w s₂ => wpAny (model X.prog X.w) X.A (inplaceOp op u w) (fun r s₃ => wpAny (model X.prog X.w) X.A (storeName X.env x r) (fun _ => SP X pins D .next) X.xe s₃) X.xe s₂) X.xe s := by
    refine thn (he pins s σ H _ I h) fun w s1 ⟨y, H1, I1, r1, q1⟩ => ?_
    refine thn (ho pins s1 σ H1 v y u w _ I1 r r1 q1) fun z s2 ⟨zv, H2, I2, r2, q2⟩ => ?_
    exact store_ok I2 hN hi hx r2 (fun s3 I3 => ⟨_, H2, I3, q2⟩) hf
  rcases l with ⟨hk, hm⟩ | ⟨hk, c, hc, hcell⟩
  · exact wpAny_loadName_local I.ok.kind hk hn hm go
  · rcases hk with hk | hk
    · exact wpAny_loadName_cell I.ok.kind hk hc hcell go
    · rcases hx with k | k
      · have : X.env.scope.names.lookup x = some .free := hk
        rw [k] at this; cases this
      · have : X.env.scope.names.lookup x = some .free := hk
        rw [k] at this; cases this
/-- o[i] op= e -/
def tAugS (to ti te : TE) (tget : V → V → Hp → VK → Prop) (tip : TIp) (tset : TSet) : TS := fun D σ H => to σ H fun o H1 => ti σ H1 fun i H2 => tget o i H2 fun x H3 => te σ H3 fun y H4 => tip x y H4 fun z H5 => tset o i z H5 fun H6 => D.nx σ H6
/-- o[i], by values -/
def PGet (X : Cx) (t : V → V → Hp → VK → Prop) : Prop :=
  ∀ (pins : List (Addr × Obj)) (s : Shared) (σ : St) (H : Hp) (o i : V) (ov iv : Value) (Q : VK), Inv X pins σ H s → RelV o ov → RelV i iv → t o i H Q →
    wpAny (model X.prog X.w) X.A (getItem ov iv) (EP X pins σ Q) X.xe s
theorem ps_augS {o i e : Expr} {to ti te : TE} {tget : V → V → Hp → VK → Prop} {tip : TIp} {tset : TSet} {op : Operator} {tpos : Pos} (ho : PE X o to) (hi : PE X i ti) (hg : PGet X tget) (he : PE X e te) (hp : PIp X op tip) (hs : PSet X tset)
    (ha : ∀ ov iv new, augStore i ov iv new = (do holding [new, ov, iv] (setItem ov iv new); release [new, ov, iv] []; pure .next) := by intros; rfl) : PS X (.AugAssign (.Subscript o i tpos) op e pos) (tAugS to ti te tget tip tset) := by
  intro pins s σ H D I h
  refine wpAny_AugAssign_SubscriptAny (thn (ho pins s σ H _ I h) fun ov s1 ⟨x1, H1, I1, r1, q1⟩ => ?_) ha
  refine thn (hi pins s1 σ H1 _ I1 q1) fun iv s2 ⟨x2, H2, I2, r2, q2⟩ => ?_
  refine thn (hg pins s2 σ H2 x1 x2 ov iv _ I2 r1 r2 q2) fun old s3 ⟨x3, H3, I3, r3, q3⟩ => ?_
  refine thn (he pins s3 σ H3 _ I3 q3) fun v s4 ⟨x4, H4, I4, r4, q4⟩ => ?_
  refine thn (hp pins s4 σ H4 x3 x4 old v _ I4 r3 r4 q4) fun new s5 ⟨x5, H5, I5, r5, q5⟩ => ?_
  exact thn (hs pins s5 σ H5 x1 x2 x5 ov iv new _ I5 r1 r2 r5 q5) fun _ s6 ⟨H6, I6, q6⟩ => ⟨σ, H6, I6, q6⟩
/-- ints -/
def ipI (f : Int → Int → Int) : TIp := fun x y H Q => ∃ i j, x = .int i ∧ y = .int j ∧ Q (.int (f i j)) H
theorem ip_add : PIp X .Add (ipI fun i j => i + j) := by
  intro pins s σ H x y v u Q I r1 r2 h
  obtain ⟨i, j, e1, e2, q⟩ := h
  subst e1; subst e2
  obtain ⟨t, rfl⟩ := r1
  obtain ⟨t', rfl⟩ := r2
  exact iadd_int ⟨.int _, H, I.tok _, ⟨_, rfl⟩, q⟩
theorem ip_sub : PIp X .Sub (ipI fun i j => i - j) := by
  intro pins s σ H x y v u Q I r1 r2 h
  obtain ⟨i, j, e1, e2, q⟩ := h
  subst e1; subst e2
  obtain ⟨t, rfl⟩ := r1
  obtain ⟨t', rfl⟩ := r2
  exact isub_int ⟨.int _, H, I.tok _, ⟨_, rfl⟩, q⟩
end

/-! ### while -/
section
variable {X : Cx} {pos : Pos}
/-- the invariant W with its measure -/
def tWhile (c : TT) (tb : TS) : TS := fun D σ H => ∃ W : Nat → St → Hp → Prop, (∃ m, W m σ H) ∧ ∀ m σ H, W m σ H →
  c σ H fun b H1 => if b = true then ∃ N : St → Hp → Prop, (∀ σ' H', N σ' H' → ∃ m', m' < m ∧ W m' σ' H') ∧ tb { D with nx := N, ct := N, bk := D.nx } σ H1 else D.nx σ H1
theorem ps_while {c : Expr} {body : List Stmt} {tc : TT} {tb : TS} (hp : PassesOwn (model X.prog X.w) X.A X.env X.xe) (hc : PT X c tc) (hb : PSs X body tb) : PS X (.While c body [] pos) (tWhile tc tb) := by
  intro pins s σ H D I h
  obtain ⟨W, ⟨m0, w0⟩, turn⟩ := h
  refine wpAny_While (codeAny_whileLoop (fun n s' => ∃ σ' H', Inv X pins σ' H' s' ∧ W n σ' H') ?_ m0 ⟨σ, H, I, w0⟩)
  rintro n s1 ⟨σ1, H1, I1, w1⟩
  refine wpAny_passesOwn hp (thn (hc pins s1 σ1 H1 _ I1 (turn n σ1 H1 w1)) fun b s2 ⟨H2, I2, q2⟩ => ?_)
  cases b with
  | true =>
    obtain ⟨N, hN, q2⟩ := q2
    rw [if_pos rfl]
    refine wpAny_passesOwn hp (thn (hb pins s2 σ1 H2 _ I2 q2) fun f s3 q3 => ?_)
    cases f with
    | next =>
      obtain ⟨σ3, H3, I3, n3⟩ := q3
      obtain ⟨m', hm, w3⟩ := hN σ3 H3 n3
      exact ⟨m', hm, σ3, H3, I3, w3⟩
    | cont =>
      obtain ⟨σ3, H3, I3, n3⟩ := q3
      obtain ⟨m', hm, w3⟩ := hN σ3 H3 n3
      exact ⟨m', hm, σ3, H3, I3, w3⟩
    | brk => exact q3
    | ret v => exact q3
  | false =>
    rw [if_neg Bool.false_ne_true]
    exact wpAny_execs_nil ⟨σ1, H2, I2, q2⟩
end

/-! ### what a loop or a comprehension walks -/
/-- at turn i: it yields x (the heap may grow), or it stops -/
structure It where
  go : Nat → Hp → Prop
  yld : Nat → Hp → V → Hp → Prop
  stop : Nat → Hp → Prop
/-- the iterator's own objects may turn: they are not the frame's, not pinned, younger than the entry (or a comprehension's own) -/
def FpOk (X : Cx) (pins : List (Addr × Obj)) (H : Hp) (b : Addr) : Prop :=
  H b = none ∧ b ≠ X.env.locals ∧ b ∉ X.fs ∧ (b ∈ X.ex ∨ X.s₀.heap.objs.size ≤ b) ∧ (∀ x c, X.env.cells.lookup x = some c → c ≠ b) ∧ ∀ p ∈ X.pn ++ pins, p.1 ≠ b
theorem Inv.fpOk {X : Cx} {pins : List (Addr × Obj)} {σ : St} {H H' : Hp} {s : Shared} {b : Addr} (I : Inv X pins σ H s) (hb : s.heap.objs.size ≤ b) (hn : H' b = none) : FpOk X pins H' b := by
  refine ⟨hn, Nat.ne_of_gt (Nat.lt_of_lt_of_le I.lt hb), I.nofs hb, .inr (Nat.le_trans I.sz hb), fun x c e z => ?_, fun p hp z => ?_⟩
  · obtain ⟨v, q⟩ := I.cell x c e
    exact absurd (Nat.lt_of_lt_of_le q.lt (by rw [z]; exact hb)) (Nat.lt_irrefl _)
  · exact absurd (Nat.lt_of_lt_of_le (Heap.lt_size (I.pin p hp).1) (by rw [z]; exact hb)) (Nat.lt_irrefl _)
structure Turn (P : Program) (w : World) (K : PySem.W.Frag) (tg : Expr) (J : It) (fp : List Addr) (it : Addr) (tn : Nat → Heap → Prop) : Prop where
  mem : it ∈ fp
  obj : ∀ i h, tn i h → ∀ b ∈ fp, ∃ o, h.get? b = some o ∧ ∀ v, o.data ≠ .cell v
  keep : ∀ i h h', tn i h → (∀ b ∈ fp, ∀ o, h.get? b = some o → h'.get? b = some o) → tn i h'
  item : ∀ (X : Cx), X.prog = P → X.w = w → X.K = K → X.calm = true → ∀ (i : Nat) (pins : List (Addr × Obj)) (s : Shared) (σ : St) (H : Hp) (E : Value → Shared → Prop), Inv X pins σ H s → (∀ b ∈ fp, FpOk X pins H b) → tn i s.heap → J.go i H →
    wpAny (model P w) X.A (pyNext (.ref it)) (fun r s1 => ∃ u, r = some u ∧
      wpAny (model P w) X.A (letOwnedTupleGo tg (.ref it) u) (fun _ s2 => ∃ x H', Inv X pins σ H' s2 ∧ RelV x u ∧ J.yld i H x H' ∧ tn (i + 1) s2.heap ∧ ∀ b ∈ fp, H' b = none) E s1) E s
  done : ∀ (X : Cx), X.prog = P → X.w = w → X.K = K → X.calm = true → ∀ (i : Nat) (pins : List (Addr × Obj)) (s : Shared) (σ : St) (H : Hp) (E : Value → Shared → Prop), Inv X pins σ H s → (∀ b ∈ fp, FpOk X pins H b) → tn i s.heap → J.stop i H →
    wpAny (model P w) X.A (pyNext (.ref it)) (fun r s1 => r = none ∧ Inv X pins σ H s1) E s
  self : ∀ (A : Around) (i : Nat) (s : Shared) (Q : Value → Shared → Prop) (E : Value → Shared → Prop), tn i s.heap → Q (.ref it) s → wpAny (model P w) A (pyIter (.ref it)) Q E s
abbrev TI := St → Hp → (It → Hp → Prop) → Prop
/-- an iterator has come -/
def PIE (X : Cx) (pins : List (Addr × Obj)) (σ : St) (tg : Expr) (R : It → Hp → Prop) (itv : Value) (s2 : Shared) : Prop :=
  ∃ (it : Addr) (fp : List Addr) (tn : Nat → Heap → Prop) (J : It) (H' : Hp), itv = .ref it ∧ Inv X pins σ H' s2 ∧ Turn X.prog X.w X.K tg J fp it tn ∧ tn 0 s2.heap ∧ (∀ b ∈ fp, FpOk X pins H' b) ∧ R J H'
def PI (X : Cx) (tg iter : Expr) (wi : TI) : Prop :=
  ∀ (pins : List (Addr × Obj)) (s : Shared) (σ : St) (H : Hp) (R : It → Hp → Prop), Inv X pins σ H s → wi σ H R →
    wpAny (model X.prog X.w) X.A (eval iter X.env) (fun v s1 => wpAny (model X.prog X.w) X.A (pyIter v) (PIE X pins σ tg R) X.xe s1) X.xe s

/-- the step ahead of the store is nothing for an iterator that keeps no tuple -/
theorem go_of {M : Model} {A : Around} {E : Value → Shared → Prop} {s : Shared} {tg : Expr} {it : Addr} {u : Value} {o : Obj} {n : String} {vs : Array Value} {Q : Unit → Shared → Prop} (ho : s.heap.get? it = some o) (hc : o.cls = .type n) (hd : o.data = .fields vs)
    (hn : ["enumerate", "zip", "dict_itemiterator", "dict_reverseitemiterator", "odict_iterator", "itertools.zip_longest", "itertools.pairwise"].contains n = false) (hQ : Q () s) : wpAny M A (letOwnedTupleGo tg (.ref it) u) Q E s := by
  unfold letOwnedTupleGo
  cases tg <;> first
    | exact wpAny_pure hQ
    | (cases u <;> first
        | exact wpAny_pure hQ
        | (refine wpAny_bind (wpAny_load ho ?_)
           rw [hc, hd]
           show wpAny M A (if (["enumerate", "zip", "dict_itemiterator", "dict_reverseitemiterator", "odict_iterator", "itertools.zip_longest", "itertools.pairwise"].contains n && vs[0]? == some (rawInt _)) = true then _ else _) Q E s
           rw [if_neg (by intro h; rw [hn, Bool.false_and] at h; cases h)]
           exact wpAny_pure hQ))

/-- the list at a, as it stands at each turn (a loop may append to it) -/
def Itl (K : PySem.W.Frag) (a : Addr) : It :=
  ⟨fun i H => ∃ xs x, SqL K H a xs ∧ xs[i]? = some x, fun i H x H' => H' = H ∧ ∀ xs, SqL K H a xs → xs[i]? = some x, fun i H => ∃ xs, SqL K H a xs ∧ xs.length ≤ i⟩
def Itt (K : PySem.W.Frag) (a : Addr) : It :=
  ⟨fun i H => ∃ xs x, SqT K H a xs ∧ xs[i]? = some x, fun i H x H' => H' = H ∧ ∀ xs, SqT K H a xs → xs[i]? = some x, fun i H => ∃ xs, SqT K H a xs ∧ xs.length ≤ i⟩
/-- lo, lo + 1, .. (n of them) -/
def Itr (lo : Int) (n : Nat) : It := ⟨fun i _ => i < n, fun i H x H' => H' = H ∧ x = .int (lo + i), fun i _ => n ≤ i⟩
theorem turn_list {P : Program} {w : World} {K : PySem.W.Frag} {tg : Expr} (a it : Addr) : Turn P w K tg (Itl K a) [it] it (fun i h => h.IsListIter it a i) where
  mem := by simp
  obj := fun i h st b hb => by
    have e : b = it := by simpa using hb
    subst e
    obtain ⟨o, e, c, d⟩ := st
    exact ⟨o, e, fun v z => by rw [d] at z; cases z⟩
  keep := fun i h h' st k => st.at fun o e => k it (by simp) o e
  item := by
    intro X hP hw hK hc i pins s σ H E I hf st hg
    subst hP hw hK
    obtain ⟨xs, x, hq, hx⟩ := hg
    obtain ⟨its, rv, p, hz⟩ := I.list hq
    obtain ⟨u, hu, ru⟩ := rv.get hx
    obtain ⟨f0, f1, f2, f3, f4, f5⟩ := hf it (by simp)
    refine wpAny_pyNext_list_item st p.isList (x := u) (by simpa using hu) fun h' st' sb => ?_
    have I1 : Inv X pins σ H { s with heap := h' } := I.turned (t' := s.toks) (fun b o hb e => (sb.2 b hb).trans e) f0 f1 f3 f4 f5
    obtain ⟨o, e, c, d⟩ := id st'
    exact ⟨u, rfl, go_of (s := { s with heap := h' }) e c d (by decide) ⟨x, H, I1, ru, ⟨rfl, fun ys hy => by rw [I.list_inj hy hq]; exact hx⟩, st', fun b hb => (hf b hb).1⟩⟩
  done := by
    intro X hP hw hK hc i pins s σ H E I hf st hg
    subst hP hw hK
    obtain ⟨xs, hq, hx⟩ := hg
    obtain ⟨its, rv, p, hz⟩ := I.list hq
    obtain ⟨f0, f1, f2, f3, f4, f5⟩ := hf it (by simp)
    have hl := rv.length
    exact wpAny_pyNext_list_end (I.ok.hd hc) st p.isList (by simp; omega) fun h' eb => ⟨rfl, I.turned (t' := s.toks) (fun b o hb e => eb b o hb e) f0 f1 f3 f4 f5⟩
  self := fun _ _ _ _ _ st h => wpAny_pyIter_listiter st h
theorem turn_tuple {P : Program} {w : World} {K : PySem.W.Frag} {tg : Expr} (a it : Addr) : Turn P w K tg (Itt K a) [it] it (fun i h => h.IsTupleIter it a i) where
  mem := by simp
  obj := fun i h st b hb => by
    have e : b = it := by simpa using hb
    subst e
    obtain ⟨o, e, c, d⟩ := st
    exact ⟨o, e, fun v z => by rw [d] at z; cases z⟩
  keep := fun i h h' st k => st.at fun o e => k it (by simp) o e
  item := by
    intro X hP hw hK hc i pins s σ H E I hf st hg
    subst hP hw hK
    obtain ⟨xs, x, hq, hx⟩ := hg
    obtain ⟨its, rv, p, hz⟩ := I.tuple hq
    obtain ⟨u, hu, ru⟩ := rv.get hx
    obtain ⟨f0, f1, f2, f3, f4, f5⟩ := hf it (by simp)
    refine wpAny_pyNext_tuple_item st (show s.heap.IsTuple a its.toArray from p) (x := u) (by simpa using hu) fun h' st' sb => ?_
    have I1 : Inv X pins σ H { s with heap := h' } := I.turned (t' := s.toks) (fun b o hb e => (sb.2 b hb).trans e) f0 f1 f3 f4 f5
    obtain ⟨o, e, c, d⟩ := id st'
    exact ⟨u, rfl, go_of (s := { s with heap := h' }) e c d (by decide) ⟨x, H, I1, ru, ⟨rfl, fun ys hy => by rw [I.tuple_inj hy hq]; exact hx⟩, st', fun b hb => (hf b hb).1⟩⟩
  done := by
    intro X hP hw hK hc i pins s σ H E I hf st hg
    subst hP hw hK
    obtain ⟨xs, hq, hx⟩ := hg
    obtain ⟨its, rv, p, hz⟩ := I.tuple hq
    obtain ⟨f0, f1, f2, f3, f4, f5⟩ := hf it (by simp)
    have hl := rv.length
    exact wpAny_pyNext_tuple_end (I.ok.hd hc) st (show s.heap.IsTuple a its.toArray from p) (by simp; omega) fun h' eb => ⟨rfl, I.turned (t' := s.toks) (fun b o hb e => eb b o hb e) f0 f1 f3 f4 f5⟩
  self := fun _ _ _ _ _ st h => wpAny_pyIter_tupleiter st h
theorem turn_range {P : Program} {w : World} {K : PySem.W.Frag} {tg : Expr} (it : Addr) (lo : Int) (n : Nat) : Turn P w K tg (Itr lo n) [it] it (fun i h => IsRangeIter h it (lo + (i : Nat) * 1) ((n : Int) - (i : Nat)) 1) where
  mem := by simp
  obj := fun i h st b hb => by
    have e : b = it := by simpa using hb
    subst e
    exact ⟨_, st, fun v z => by
      have z' : Data.fields _ = Data.cell v := z
      cases z'⟩
  keep := fun i h h' st k => k it (by simp) _ st
  item := by
    intro X hP hw hK hc i pins s σ H E I hf st hg
    subst hP hw hK
    obtain ⟨f0, f1, f2, f3, f4, f5⟩ := hf it (by simp)
    have W := Walks.range (prog := X.prog) (w := X.w) (I.ok.hd hc) it lo 1 n
    refine W.item i s _ _ hg st fun v h' tk hv st' kk => ?_
    obtain ⟨t, rfl⟩ := hv
    have I1 : Inv X pins σ H { s with heap := h', toks := tk } := I.turned (fun b o hb e => kk b o (by simpa using hb) e) f0 f1 f3 f4 f5
    refine ⟨_, rfl, go_of (s := { s with heap := h', toks := tk }) (n := "range_iterator") st' rfl rfl (by decide) ⟨.int (lo + i), H, I1, ⟨t, ?_⟩, ⟨rfl, rfl⟩, st', fun b hb => (hf b hb).1⟩⟩
    rw [Int.mul_one]
  done := by
    intro X hP hw hK hc i pins s σ H E I hf st hg
    subst hP hw hK
    obtain ⟨f0, f1, f2, f3, f4, f5⟩ := hf it (by simp)
    exact wpAny_pyNext_range_end (I.ok.hd hc) st (by have : n ≤ i := hg; omega) fun h' eb => ⟨rfl, I.turned (t' := s.toks) (fun b o hb e => eb b o hb e) f0 f1 f3 f4 f5⟩
  self := fun _ _ _ _ _ st h => wpAny_pyIter_rangeiter st h
end L2

namespace L2
open PySem PySem.Spec PyProof.Rows
section
variable {X : Cx} {tg : Expr}
def iList (K : PySem.W.Frag) (tl : TE) : TI := fun σ H R => tl σ H fun x H1 => ∃ a, x = .ref a ∧ (∃ xs, SqL K H1 a xs) ∧ R (Itl K a) H1
def iTup (K : PySem.W.Frag) (tl : TE) : TI := fun σ H R => tl σ H fun x H1 => ∃ a, x = .ref a ∧ (∃ xs, SqT K H1 a xs) ∧ R (Itt K a) H1
theorem pi_list {l : Expr} {tl : TE} (hl : PE X l tl) : PI X tg l (iList X.K tl) := by
  intro pins s σ H R I h
  refine thn (hl pins s σ H _ I h) fun v s1 ⟨x, H1, I1, r1, q1⟩ => ?_
  obtain ⟨a, e, ⟨xs, hq⟩, q⟩ := q1
  subst e
  cases r1
  obtain ⟨its, rv, p, hz⟩ := I1.list hq
  refine wpAny_pyIter_list p.isList ?_
  refine ⟨s1.heap.objs.size, [s1.heap.objs.size], _, _, H1, rfl, I1.kept (t' := s1.toks) fun b o e => Heap.get?_push_of_some _ e, turn_list a _, ⟨_, Heap.get?_push_size _ rfl, rfl, rfl⟩, fun b hb => ?_, q⟩
  have e : b = s1.heap.objs.size := by simpa using hb
  subst e
  exact I1.fpOk (Nat.le_refl _) (I1.hok.fresh (Nat.le_refl _))
theorem pi_tup {l : Expr} {tl : TE} (hl : PE X l tl) : PI X tg l (iTup X.K tl) := by
  intro pins s σ H R I h
  refine thn (hl pins s σ H _ I h) fun v s1 ⟨x, H1, I1, r1, q1⟩ => ?_
  obtain ⟨a, e, ⟨xs, hq⟩, q⟩ := q1
  subst e
  cases r1
  obtain ⟨its, rv, p, hz⟩ := I1.tuple hq
  refine wpAny_pyIter_tuple (show s1.heap.IsTuple a its.toArray from p) ?_
  refine ⟨s1.heap.objs.size, [s1.heap.objs.size], _, _, H1, rfl, I1.kept (t' := s1.toks) fun b o e => Heap.get?_push_of_some _ e, turn_tuple a _, ⟨_, Heap.get?_push_size _ rfl, rfl, rfl⟩, fun b hb => ?_, q⟩
  have e : b = s1.heap.objs.size := by simpa using hb
  subst e
  exact I1.fpOk (Nat.le_refl _) (I1.hok.fresh (Nat.le_refl _))
/-- a range object just made, walked -/
theorem range_it {pins : List (Addr × Obj)} {σ : St} {H : Hp} {s : Shared} {R : It → Hp → Prop} {E : Value → Shared → Prop} {lo hi : Int} {t u v : Tok} {tk : Nat} (I : Inv X pins σ H s) (h1 : -(2 ^ 62) ≤ lo) (h2 : lo < 2 ^ 62) (h3 : -(2 ^ 62) ≤ hi) (h4 : hi < 2 ^ 62)
    (q : R (Itr lo (hi - lo).toNat) H) : wpAny (model X.prog X.w) X.A (pyIter (.ref s.heap.objs.size)) (PIE X pins σ tg R) E { s with heap := s.heap.push { cls := .type "range", data := .fields #[.int lo t, .int hi u, .int 1 v] }, toks := tk } := by
  refine wpAny_pyIter_range (IsRange.new ..) (small_one h1 h2 h3 h4) ?_
  have I1 : Inv X pins σ H { s with heap := s.heap.push { cls := .type "range", data := .fields #[.int lo t, .int hi u, .int 1 v] }, toks := tk } := I.kept fun b o e => Heap.get?_push_of_some _ e
  refine ⟨(s.heap.push { cls := .type "range", data := .fields #[.int lo t, .int hi u, .int 1 v] }).objs.size, [(s.heap.push { cls := .type "range", data := .fields #[.int lo t, .int hi u, .int 1 v] }).objs.size], _, _, H, rfl,
    I1.kept (t' := tk) fun b o e => Heap.get?_push_of_some _ e, turn_range _ lo (hi - lo).toNat, ?_, fun b hb => ?_, q⟩
  · have e1 : lo + ((0 : Nat) : Int) * 1 = lo := by simp
    have e2 : (((hi - lo).toNat : Nat) : Int) - ((0 : Nat) : Int) = Builtin.Range.rangeSize lo hi 1 := by rw [rangeSize_one]; split <;> omega
    show IsRangeIter _ _ (lo + ((0 : Nat) : Int) * 1) ((((hi - lo).toNat : Nat) : Int) - ((0 : Nat) : Int)) 1
    rw [e1, e2]
    exact Heap.get?_push_size _ rfl
  · have e : b = (s.heap.push { cls := .type "range", data := .fields #[.int lo t, .int hi u, .int 1 v] }).objs.size := by simpa using hb
    subst e
    exact I1.fpOk (Nat.le_refl _) (I1.hok.fresh (Nat.le_refl _))
def iRng1 (ta : TA) : TI := fun σ H R => ta σ H fun vs H1 => ∃ j : Int, vs = [.int j] ∧ -(2 ^ 62) ≤ j ∧ j < 2 ^ 62 ∧ R (Itr 0 j.toNat) H1
def iRng2 (ta : TA) : TI := fun σ H R => ta σ H fun vs H1 => ∃ i j : Int, vs = [.int i, .int j] ∧ (-(2 ^ 62) ≤ i ∧ i < 2 ^ 62 ∧ -(2 ^ 62) ≤ j ∧ j < 2 ^ 62) ∧ R (Itr i (j - i).toNat) H1
theorem pi_range1 {a : Expr} {ta : TA} {p pos : Pos} (hg : Gl X "range") (hm : X.mg "range" = none) (ha : PA X [a] ta) (hs : starEach [a] X.env = [(false, eval a X.env)] := by rfl) : PI X tg (.Call (.Name "range" p) [a] [] pos) (iRng1 ta) := by
  intro pins s σ H R I h
  refine Call_ (ld_blt I hg hm boot_range (PyProof.Rows.callWith_type1 (thn (ha pos pins s σ H _ I h) fun us s1 ⟨vs, H1, I1, r1, q1⟩ => ?_) hs rfl))
  obtain ⟨j, e, q1, q2, q⟩ := q1
  subst e
  cases r1 with
  | cons r rr =>
    cases rr
    obtain ⟨t, rfl⟩ := r
    exact call_range_1 (range_it I1 (by omega) (by omega) q1 q2 (by simpa using q))
theorem pi_range2 {a b : Expr} {ta : TA} {p pos : Pos} (hg : Gl X "range") (hm : X.mg "range" = none) (ha : PA X [a, b] ta) (hs : starEach [a, b] X.env = [(false, eval a X.env), (false, eval b X.env)] := by rfl) (hs2 : starEach [b] X.env = [(false, eval b X.env)] := by rfl) :
    PI X tg (.Call (.Name "range" p) [a, b] [] pos) (iRng2 ta) := by
  intro pins s σ H R I h
  refine Call_ (ld_blt I hg hm boot_range (PyProof.Rows.callWith_type1 (thn (ha pos pins s σ H _ I h) fun us s1 ⟨vs, H1, I1, r1, q1⟩ => ?_) (by rw [hs, hs2]) (by rw [hs2]; rfl)))
  obtain ⟨i, j, e, ⟨q1, q2, q3, q4⟩, q⟩ := q1
  subst e
  cases r1 with
  | cons r rr =>
    cases rr with
    | cons r' rr =>
      cases rr
      obtain ⟨t, rfl⟩ := r
      obtain ⟨t', rfl⟩ := r'
      exact call_range_2 (range_it I1 q1 q2 q3 q4 q)

/-! ### for -/
/-- W: the invariant by the turn and a measure; N: what the body is to reach -/
def tFor (wi : TI) (g : TG) (tb : TS) : TS := fun D σ H => wi σ H fun J H1 => ∃ W : Nat → Nat → St → Hp → Prop, (∃ m, W 0 m σ H1) ∧ ∀ i m σ H, W i m σ H →
  (J.stop i H ∧ D.nx σ H) ∨ (J.go i H ∧ ∃ N : St → Hp → Prop, (∀ σ' H', N σ' H' → ∃ m', m' < m ∧ W (i + 1) m' σ' H') ∧ ∀ x H', J.yld i H x H' → g x σ H' fun σ2 H2 => tb { D with nx := N, ct := N, bk := D.nx } σ2 H2)
/-- the records at fp as they stand -/
def pinsAt (fp : List Addr) (h : Heap) : List (Addr × Obj) := fp.filterMap fun b => (h.get? b).map fun o => (b, o)
theorem mem_pinsAt {fp : List Addr} {h : Heap} {b : Addr} {o : Obj} (hb : b ∈ fp) (e : h.get? b = some o) : (b, o) ∈ pinsAt fp h := List.mem_filterMap.mpr ⟨b, hb, by rw [e]; rfl⟩
theorem of_pinsAt {fp : List Addr} {h : Heap} {p : Addr × Obj} (hp : p ∈ pinsAt fp h) : p.1 ∈ fp ∧ h.get? p.1 = some p.2 := by
  obtain ⟨b, hb, e⟩ := List.mem_filterMap.mp hp
  cases q : h.get? b with
  | none => rw [q] at e; cases e
  | some o =>
    rw [q] at e
    have e' : (b, o) = p := Option.some.inj e
    subst e'
    exact ⟨hb, q⟩
theorem Inv.pinned {pins : List (Addr × Obj)} {σ : St} {H : Hp} {s : Shared} {fp : List Addr} (I : Inv X pins σ H s) (hf : ∀ b ∈ fp, FpOk X pins H b) (ho : ∀ b ∈ fp, ∃ o, s.heap.get? b = some o ∧ ∀ v, o.data ≠ .cell v) : Inv X (pins ++ pinsAt fp s.heap) σ H s :=
  I.pins_of fun p hp => (List.mem_append.mp hp).elim (fun z => I.pin p (List.mem_append_right _ z)) fun z => by
    obtain ⟨hb, e⟩ := of_pinsAt z
    obtain ⟨f0, f1, f2, _⟩ := hf p.1 hb
    obtain ⟨o, e', d⟩ := ho p.1 hb
    rw [e] at e'; cases e'
    exact ⟨e, f0, f1, f2, d⟩
theorem Inv.unpinned {pins pl : List (Addr × Obj)} {σ : St} {H : Hp} {s : Shared} (I : Inv X (pins ++ pl) σ H s) : Inv X pins σ H s := I.pins_of fun p hp => I.pin p (List.mem_append_right _ (List.mem_append_left _ hp))
theorem ps_for {iter : Expr} {body : List Stmt} {wi : TI} {g : TG} {tb : TS} {pos : Pos} (hp : PassesOwn (model X.prog X.w) X.A X.env X.xe) (hc : X.calm = true) (hi : PI X tg iter wi) (hg : PG X tg g) (hb : PSs X body tb)
    (hs : ∀ x, foldedSetIterable iter X.env x = pure x := by intro _; rfl) : PS X (.For tg iter body [] pos) (tFor wi g tb) := by
  intro pins s σ H D I h
  refine wpAny_For (thn (hi pins s σ H _ I h) fun v s1 h1 => thn h1 fun itv s2 h2 => ?_) hs
  obtain ⟨it, fp, tn, J, H2, e, I2, T, st2, f2, W, ⟨m0, w0⟩, turn⟩ := h2
  subst e
  -- what stays true of the iterator's objects through the loop
  have stat : ∀ {H' : Hp}, (∀ b ∈ fp, H' b = none) → ∀ b ∈ fp, FpOk X pins H' b := fun hn b hb => ⟨hn b hb, (f2 b hb).2⟩
  refine codeAny_forLoop_any (fun n s' => ∃ i σ' H', Inv X pins σ' H' s' ∧ tn i s'.heap ∧ (∀ b ∈ fp, H' b = none) ∧ W i n σ' H') ?_ m0 ⟨0, σ, H2, I2, st2, fun b hb => (f2 b hb).1, w0⟩
  rintro n s3 ⟨i, σ3, H3, I3, st3, fr3, w3⟩
  rcases turn i n σ3 H3 w3 with ⟨stop, qn⟩ | ⟨go, N, hN, step⟩
  · refine wpAny_passesOwn hp (thn (T.done X rfl rfl rfl hc i pins s3 σ3 H3 X.xe I3 (stat fr3) st3 stop) fun r s4 ⟨hr, I4⟩ => ?_)
    subst hr
    exact wpAny_execs_nil ⟨σ3, H3, I4, qn⟩
  · refine wpAny_passesOwn hp (thn (T.item X rfl rfl rfl hc i pins s3 σ3 H3 X.xe I3 (stat fr3) st3 go) fun r s4 ⟨u, hr, h4⟩ => ?_)
    subst hr
    refine wpAny_passesOwn hp (thn h4 fun _ s5 ⟨x, H5, I5, r5, y5, st5, fr5⟩ => ?_)
    have I5' := I5.pinned (stat fr5) (T.obj _ _ st5)
    refine wpAny_passesOwn hp (thn (hg _ s5 σ3 H5 x u _ I5' r5 (step x H5 y5)) fun _ s6 ⟨σ6, H6, I6, q6⟩ => ?_)
    refine wpAny_passesOwn hp (thn (hb _ s6 σ6 H6 _ I6 q6) fun f s7 q7 => ?_)
    have again : ∀ {σ7 : St} {H7 : Hp}, Inv X (pins ++ pinsAt fp s5.heap) σ7 H7 s7 → N σ7 H7 → ∃ m, m < n ∧ ∃ i σ' H', Inv X pins σ' H' s7 ∧ tn i s7.heap ∧ (∀ b ∈ fp, H' b = none) ∧ W i m σ' H' := fun {σ7 H7} I7 n7 => by
      obtain ⟨m', hm, w7⟩ := hN σ7 H7 n7
      refine ⟨m', hm, i + 1, σ7, H7, I7.unpinned, T.keep _ _ _ st5 fun b hb o e => (I7.pin (b, o) (List.mem_append_right _ (List.mem_append_right _ (mem_pinsAt hb e)))).1, fun b hb => ?_, w7⟩
      obtain ⟨o, e, d⟩ := T.obj _ _ st5 b hb
      exact (I7.pin (b, o) (List.mem_append_right _ (List.mem_append_right _ (mem_pinsAt hb e)))).2.1
    cases f with
    | next => obtain ⟨σ7, H7, I7, n7⟩ := q7; exact again I7 n7
    | cont => obtain ⟨σ7, H7, I7, n7⟩ := q7; exact again I7 n7
    | brk => obtain ⟨σ7, H7, I7, q7⟩ := q7; exact ⟨σ7, H7, I7.unpinned, q7⟩
    | ret v => obtain ⟨x7, σ7, H7, I7, r7, q7⟩ := q7; exact ⟨x7, σ7, H7, I7.unpinned, r7, q7⟩
end

/-! ### the forms one uses -/
/-- over a list that the body leaves as it is -/
theorem for_list {K : PySem.W.Frag} {a : Addr} {xs : List V} {g : TG} {tb : TS} {D : Ends} {σ : St} {H : Hp} (Pv : Nat → St → Hp → Prop) (h0 : Pv 0 σ H) (hl : ∀ i σ H, i ≤ xs.length → Pv i σ H → SqL K H a xs)
    (hs : ∀ i x σ H, xs[i]? = some x → Pv i σ H → g x σ H fun σ2 H2 => tb { D with nx := Pv (i + 1), ct := Pv (i + 1), bk := D.nx } σ2 H2) (hd : ∀ σ H, Pv xs.length σ H → D.nx σ H) :
    ∃ W : Nat → Nat → St → Hp → Prop, (∃ m, W 0 m σ H) ∧ ∀ i m σ H, W i m σ H →
      ((Itl K a).stop i H ∧ D.nx σ H) ∨ ((Itl K a).go i H ∧ ∃ N : St → Hp → Prop, (∀ σ' H', N σ' H' → ∃ m', m' < m ∧ W (i + 1) m' σ' H') ∧ ∀ x H', (Itl K a).yld i H x H' → g x σ H' fun σ2 H2 => tb { D with nx := N, ct := N, bk := D.nx } σ2 H2) := by
  refine ⟨fun i m σ H => m = xs.length - i ∧ i ≤ xs.length ∧ Pv i σ H, ⟨xs.length, by simp, Nat.zero_le _, h0⟩, ?_⟩
  rintro i m σ H ⟨rfl, hi, p⟩
  have q := hl i σ H hi p
  by_cases hlt : i < xs.length
  · refine .inr ⟨⟨xs, xs[i], q, by simp [hlt]⟩, Pv (i + 1), fun σ' H' p' => ⟨xs.length - (i + 1), by omega, rfl, hlt, p'⟩, fun x H' y => ?_⟩
    obtain ⟨e, y⟩ := y
    subst e
    exact hs i x σ _ (y xs q) p
  · have e : i = xs.length := by omega
    subst e
    exact .inl ⟨⟨xs, q, Nat.le_refl _⟩, hd σ H p⟩
theorem for_tup {K : PySem.W.Frag} {a : Addr} {xs : List V} {g : TG} {tb : TS} {D : Ends} {σ : St} {H : Hp} (Pv : Nat → St → Hp → Prop) (h0 : Pv 0 σ H) (hl : ∀ i σ H, i ≤ xs.length → Pv i σ H → SqT K H a xs)
    (hs : ∀ i x σ H, xs[i]? = some x → Pv i σ H → g x σ H fun σ2 H2 => tb { D with nx := Pv (i + 1), ct := Pv (i + 1), bk := D.nx } σ2 H2) (hd : ∀ σ H, Pv xs.length σ H → D.nx σ H) :
    ∃ W : Nat → Nat → St → Hp → Prop, (∃ m, W 0 m σ H) ∧ ∀ i m σ H, W i m σ H →
      ((Itt K a).stop i H ∧ D.nx σ H) ∨ ((Itt K a).go i H ∧ ∃ N : St → Hp → Prop, (∀ σ' H', N σ' H' → ∃ m', m' < m ∧ W (i + 1) m' σ' H') ∧ ∀ x H', (Itt K a).yld i H x H' → g x σ H' fun σ2 H2 => tb { D with nx := N, ct := N, bk := D.nx } σ2 H2) := by
  refine ⟨fun i m σ H => m = xs.length - i ∧ i ≤ xs.length ∧ Pv i σ H, ⟨xs.length, by simp, Nat.zero_le _, h0⟩, ?_⟩
  rintro i m σ H ⟨rfl, hi, p⟩
  have q := hl i σ H hi p
  by_cases hlt : i < xs.length
  · refine .inr ⟨⟨xs, xs[i], q, by simp [hlt]⟩, Pv (i + 1), fun σ' H' p' => ⟨xs.length - (i + 1), by omega, rfl, hlt, p'⟩, fun x H' y => ?_⟩
    obtain ⟨e, y⟩ := y
    subst e
    exact hs i x σ _ (y xs q) p
  · have e : i = xs.length := by omega
    subst e
    exact .inl ⟨⟨xs, q, Nat.le_refl _⟩, hd σ H p⟩
theorem for_range {lo : Int} {n : Nat} {g : TG} {tb : TS} {D : Ends} {σ : St} {H : Hp} (Pv : Nat → St → Hp → Prop) (h0 : Pv 0 σ H)
    (hs : ∀ i σ H, i < n → Pv i σ H → g (.int (lo + i)) σ H fun σ2 H2 => tb { D with nx := Pv (i + 1), ct := Pv (i + 1), bk := D.nx } σ2 H2) (hd : ∀ σ H, Pv n σ H → D.nx σ H) :
    ∃ W : Nat → Nat → St → Hp → Prop, (∃ m, W 0 m σ H) ∧ ∀ i m σ H, W i m σ H →
      ((Itr lo n).stop i H ∧ D.nx σ H) ∨ ((Itr lo n).go i H ∧ ∃ N : St → Hp → Prop, (∀ σ' H', N σ' H' → ∃ m', m' < m ∧ W (i + 1) m' σ' H') ∧ ∀ x H', (Itr lo n).yld i H x H' → g x σ H' fun σ2 H2 => tb { D with nx := N, ct := N, bk := D.nx } σ2 H2) := by
  refine ⟨fun i m σ H => m = n - i ∧ i ≤ n ∧ Pv i σ H, ⟨n, by simp, Nat.zero_le _, h0⟩, ?_⟩
  rintro i m σ H ⟨rfl, hi, p⟩
  by_cases hlt : i < n
  · refine .inr ⟨hlt, Pv (i + 1), fun σ' H' p' => ⟨n - (i + 1), by omega, rfl, hlt, p'⟩, fun x H' y => ?_⟩
    obtain ⟨e, y⟩ := y
    subst e y
    exact hs i σ _ hlt p
  · have e : i = n := by omega
    subst e
    exact .inl ⟨Nat.le_refl _, hd σ H p⟩
/-- while, by a word and a measure of the state -/
theorem while_by {c : TT} {tb : TS} {D : Ends} {σ : St} {H : Hp} (Pv : St → Hp → Prop) (μ : St → Hp → Nat) (h0 : Pv σ H)
    (hs : ∀ σ H, Pv σ H → c σ H fun b H1 => if b = true then tb { D with nx := fun σ' H' => Pv σ' H' ∧ μ σ' H' < μ σ H, ct := fun σ' H' => Pv σ' H' ∧ μ σ' H' < μ σ H, bk := D.nx } σ H1 else D.nx σ H1)
    (mono : ∀ σ H Q Q', (∀ b H1, Q b H1 → Q' b H1) → c σ H Q → c σ H Q') : tWhile c tb D σ H := by
  refine ⟨fun m σ H => m = μ σ H ∧ Pv σ H, ⟨_, rfl, h0⟩, ?_⟩
  rintro m σ H ⟨rfl, p⟩
  refine mono σ H _ _ (fun b H1 q => ?_) (hs σ H p)
  cases b with
  | true => exact ⟨_, fun σ' H' ⟨p', l⟩ => ⟨_, l, rfl, p'⟩, q⟩
  | false => exact q
end L2

namespace L2
open PySem PySem.Spec PyProof.Rows

abbrev R2 := V → V → Hp → VK → Prop
/-- a two-place operation on values: f is binaryOp op, inplaceOp op or compareOp op -/
def OpR (X : Cx) (f : Value → Value → Sem Value) (r : R2) : Prop :=
  ∀ (pins : List (Addr × Obj)) (s : Shared) (σ : St) (H : Hp) (x y : V) (v u : Value) (Q : VK), Inv X pins σ H s → RelV x v → RelV y u → r x y H Q →
    wpAny (model X.prog X.w) X.A (f v u) (EP X pins σ Q) X.xe s
/-- a one-place operation -/
def UnR (X : Cx) (f : Value → Sem Value) (r : V → Hp → VK → Prop) : Prop :=
  ∀ (pins : List (Addr × Obj)) (s : Shared) (σ : St) (H : Hp) (x : V) (v : Value) (Q : VK), Inv X pins σ H s → RelV x v → r x H Q →
    wpAny (model X.prog X.w) X.A (f v) (EP X pins σ Q) X.xe s
/-- a call of a value that is known (a builtin, a type) with values -/
def CallR (X : Cx) (f : Value) (r : List V → Hp → VK → Prop) : Prop :=
  ∀ (pins : List (Addr × Obj)) (s : Shared) (σ : St) (H : Hp) (xs : List V) (us : List Value) (Q : VK), Inv X pins σ H s → Vals xs us → r xs H Q →
    wpAny (model X.prog X.w) X.A (call f us) (EP X pins σ Q) X.xe s
/-- a value's truth -/
def TruR (X : Cx) (r : V → Hp → (Bool → Hp → Prop) → Prop) : Prop :=
  ∀ (pins : List (Addr × Obj)) (s : Shared) (σ : St) (H : Hp) (x : V) (v : Value) (Q : Bool → Hp → Prop), Inv X pins σ H s → RelV x v → r x H Q →
    wpAny (model X.prog X.w) X.A (truthy v) (TP X pins σ Q) X.xe s

def tOp (r : R2) (ta tb : TE) : TE := fun σ H Q => ta σ H fun x H1 => tb σ H1 fun y H2 => r x y H2 Q
def tUn (r : V → Hp → VK → Prop) (ta : TE) : TE := fun σ H Q => ta σ H fun x H1 => r x H1 Q
/-- ints in, under C, and a value out -/
def rI (C : Int → Int → Prop) (g : Int → Int → V) : R2 := fun x y H Q => ∃ i j, x = .int i ∧ y = .int j ∧ C i j ∧ Q (g i j) H
def rI0 (g : Int → Int → V) : R2 := fun x y H Q => ∃ i j, x = .int i ∧ y = .int j ∧ Q (g i j) H
def rU (g : Int → V) : V → Hp → VK → Prop := fun x H Q => ∃ i, x = .int i ∧ Q (g i) H

section
variable {X : Cx} {a b c : Expr} {ta tb tc : TE} {pos : Pos}

theorem binT (ha : PE X a ta) (hb : PE X b tb) {pins : List (Addr × Obj)} {s : Shared} {σ : St} {H : Hp} {R : V → V → Hp → Prop} (I : Inv X pins σ H s)
    (h : ta σ H fun x H1 => tb σ H1 fun y H2 => R x y H2) {Q : Value → Shared → Prop} {f : Value → Value → Sem Value}
    (hf : ∀ v u s2 x y H2, Inv X pins σ H2 s2 → RelV x v → RelV y u → R x y H2 → wpAny (model X.prog X.w) X.A (f v u) Q X.xe s2) :
    wpAny (model X.prog X.w) X.A (eval a X.env) (fun v s₁ => wpAny (model X.prog X.w) X.A (eval b X.env) (fun u s₂ => wpAny (model X.prog X.w) X.A (f v u) Q X.xe s₂) X.xe s₁) X.xe s := by
  refine thn (ha pins s σ H _ I h) fun v s1 ⟨x, H1, I1, r1, q1⟩ => ?_
  refine thn (hb pins s1 σ H1 _ I1 q1) fun u s2 ⟨y, H2, I2, r2, q2⟩ => ?_
  exact hf v u s2 x y H2 I2 r1 r2 q2

theorem pe_op {op : Operator} {r : R2} (ho : OpR X (binaryOp op) r) (ha : PE X a ta) (hb : PE X b tb) : PE X (.BinOp a op b pos) (tOp r ta tb) := by
  intro pins s σ H Q I h
  exact wpAny_BinOp (binT ha hb I h fun v u s2 x y H2 I2 rx ry q => ho pins s2 σ H2 x y v u Q I2 rx ry q)
theorem pe_un {op : UnaryOp} {r : V → Hp → VK → Prop} (ho : UnR X (unaryOp op) r) (ha : PE X a ta) : PE X (.UnaryOp op a pos) (tUn r ta) := by
  intro pins s σ H Q I h
  exact UnaryOp_ (thn (ha pins s σ H _ I h) fun v s1 ⟨x, H1, I1, r1, q1⟩ => ho pins s1 σ H1 x v Q I1 r1 q1)
/-- a op= e at a name: the name's slot i -/
theorem augR {op : Operator} {r : R2} (ho : OpR X (inplaceOp op) r) {pins : List (Addr × Obj)} {s : Shared} {σ : St} {H : Hp} {x y : V} {v u : Value} {Q : VK} (I : Inv X pins σ H s)
    (rx : RelV x v) (ry : RelV y u) (q : r x y H Q) : wpAny (model X.prog X.w) X.A (inplaceOp op v u) (EP X pins σ Q) X.xe s := ho pins s σ H x y v u Q I rx ry q

/-! ### ints -/
theorem opI {f : Value → Value → Sem Value} {C : Int → Int → Prop} {g : Int → Int → Int}
    (rule : ∀ (i j : Int) (t u : Tok) (s : Shared) (Q : Value → Shared → Prop) (E : Value → Shared → Prop), C i j → Q (.int (g i j) s.toks) { s with toks := s.toks + 1 } → wpAny (model X.prog X.w) X.A (f (.int i t) (.int j u)) Q E s) :
    OpR X f (rI C fun i j => .int (g i j)) := by
  intro pins s σ H x y v u Q I rx ry h
  obtain ⟨i, j, rfl, rfl, hc, q⟩ := h
  obtain ⟨t, rfl⟩ := rx
  obtain ⟨t', rfl⟩ := ry
  exact rule i j t t' s _ _ hc ⟨.int (g i j), H, I.tok _, ⟨_, rfl⟩, q⟩
theorem opI0 {f : Value → Value → Sem Value} {g : Int → Int → Int}
    (rule : ∀ (i j : Int) (t u : Tok) (s : Shared) (Q : Value → Shared → Prop) (E : Value → Shared → Prop), Q (.int (g i j) s.toks) { s with toks := s.toks + 1 } → wpAny (model X.prog X.w) X.A (f (.int i t) (.int j u)) Q E s) :
    OpR X f (rI0 fun i j => .int (g i j)) := by
  intro pins s σ H x y v u Q I rx ry h
  obtain ⟨i, j, rfl, rfl, q⟩ := h
  obtain ⟨t, rfl⟩ := rx
  obtain ⟨t', rfl⟩ := ry
  exact rule i j t t' s _ _ ⟨.int (g i j), H, I.tok _, ⟨_, rfl⟩, q⟩
theorem opB0 {f : Value → Value → Sem Value} {g : Int → Int → Bool}
    (rule : ∀ (i j : Int) (t u : Tok) (s : Shared) (Q : Value → Shared → Prop) (E : Value → Shared → Prop), Q (.bool (g i j)) s → wpAny (model X.prog X.w) X.A (f (.int i t) (.int j u)) Q E s) :
    OpR X f (rI0 fun i j => .bl (g i j)) := by
  intro pins s σ H x y v u Q I rx ry h
  obtain ⟨i, j, rfl, rfl, q⟩ := h
  obtain ⟨t, rfl⟩ := rx
  obtain ⟨t', rfl⟩ := ry
  exact rule i j t t' s _ _ ⟨.bl (g i j), H, I, rfl, q⟩

def CDiv (i j : Int) : Prop := 0 < j ∧ j < 1073741824
def CDivN (i j : Int) : Prop := j ≠ 0 ∧ j.natAbs < 1073741824
def CPow (i j : Int) : Prop := 0 ≤ j ∧ j ≤ 1000000 ∧ i.natAbs < 2 ^ 64
def CMul (i j : Int) : Prop := (-(2 ^ 64) < i ∧ i < 2 ^ 64) ∨ (-(2 ^ 64) < j ∧ j < 2 ^ 64)
theorem CMul.ok {i j : Int} (h : CMul i j) : IntMulOk i j := by
  rcases h with ⟨h1, h2⟩ | ⟨h1, h2⟩
  · exact .of_left (intBits_le_64 h1 h2)
  · exact .of_right (intBits_le_64 h1 h2)
theorem two_pow_nn (k : Nat) : (0 : Int) ≤ 2 ^ k := by
  rw [two_pow_cast]
  exact Int.natCast_nonneg _

theorem op_add : OpR X (binaryOp .Add) (rI0 fun i j => .int (i + j)) := opI0 fun _ _ _ _ _ _ _ q => add_int q
theorem op_sub : OpR X (binaryOp .Sub) (rI0 fun i j => .int (i - j)) := opI0 fun _ _ _ _ _ _ _ q => sub_int q
theorem op_mul : OpR X (binaryOp .Mult) (rI CMul fun i j => .int (i * j)) := opI fun _ _ _ _ _ _ _ hc q => mul_int q hc.ok
/-- // by a positive divisor -/
theorem op_fdiv : OpR X (binaryOp .FloorDiv) (rI CDiv fun i j => .int (i / j)) := opI fun i j _ _ _ _ _ hc q => by
  have h1 : (0 : Int) < j := hc.1
  have h2 : j < 1073741824 := hc.2
  exact floordiv_int (by omega) (by rw [Int.fdiv_eq_ediv_of_nonneg i (by omega)]; exact q) (.inl (PyProof.noPylong_small (by omega)))
theorem op_fdivN : OpR X (binaryOp .FloorDiv) (rI CDivN fun i j => .int (i.fdiv j)) := opI fun _ _ _ _ _ _ _ hc q => floordiv_int hc.1 q (.inl (PyProof.noPylong_small hc.2))
/-- % by a positive divisor of any size -/
theorem op_mod : OpR X (binaryOp .Mod) (rI (fun _ j => 0 < j) fun i j => .int (i % j)) := opI fun i j _ _ _ _ _ hc q => by
  have h1 : (0 : Int) < j := hc
  exact mod_int' (by omega) (by rw [Int.fmod_eq_emod_of_nonneg i (by omega)]; exact q)
theorem op_modN : OpR X (binaryOp .Mod) (rI (fun _ j => j ≠ 0) fun i j => .int (i.fmod j)) := opI fun _ _ _ _ _ _ _ hc q => mod_int' hc q
theorem op_pow : OpR X (binaryOp .Pow) (rI CPow fun i j => .int (i ^ j.toNat)) := opI fun _ _ _ _ _ _ _ hc q => pow_int_small hc.1 hc.2.1 hc.2.2 q
theorem op_shl : OpR X (binaryOp .LShift) (rI CPow fun i j => .int (i * 2 ^ j.toNat)) := opI fun _ _ _ _ _ _ _ hc q => lshift_int_small hc.1 hc.2.1 hc.2.2 q
theorem op_shr : OpR X (binaryOp .RShift) (rI (fun _ j => 0 ≤ j) fun i j => .int (i / 2 ^ j.toNat)) := opI fun i j _ _ _ _ _ hc q =>
  rshift_int hc (by rw [Int.fdiv_eq_ediv_of_nonneg i (two_pow_nn _)]; exact q)
theorem op_and : OpR X (binaryOp .BitAnd) (rI0 fun i j => .int (Builtin.bitAnd i j)) := opI0 fun _ _ _ _ _ _ _ q => and_int q
theorem op_or : OpR X (binaryOp .BitOr) (rI0 fun i j => .int (Builtin.bitOr i j)) := opI0 fun _ _ _ _ _ _ _ q => or_int q
theorem op_xor : OpR X (binaryOp .BitXor) (rI0 fun i j => .int (Builtin.bitXor i j)) := opI0 fun _ _ _ _ _ _ _ q => xor_int q

theorem iop_add : OpR X (inplaceOp .Add) (rI0 fun i j => .int (i + j)) := opI0 fun _ _ _ _ _ _ _ q => iadd_int q
theorem iop_sub : OpR X (inplaceOp .Sub) (rI0 fun i j => .int (i - j)) := opI0 fun _ _ _ _ _ _ _ q => isub_int q
theorem iop_mul : OpR X (inplaceOp .Mult) (rI CMul fun i j => .int (i * j)) := opI fun _ _ _ _ _ _ _ hc q => imul_int q hc.ok
theorem iop_fdiv : OpR X (inplaceOp .FloorDiv) (rI CDiv fun i j => .int (i / j)) := opI fun i j _ _ _ _ _ hc q => by
  have h1 : (0 : Int) < j := hc.1
  have h2 : j < 1073741824 := hc.2
  exact ifloordiv_int (by omega) (by rw [Int.fdiv_eq_ediv_of_nonneg i (by omega)]; exact q) (.inl (PyProof.noPylong_small (by omega)))
theorem iop_mod : OpR X (inplaceOp .Mod) (rI (fun _ j => 0 < j) fun i j => .int (i % j)) := opI fun i j _ _ _ _ _ hc q => by
  have h1 : (0 : Int) < j := hc
  exact imod_int (by omega) (by rw [Int.fmod_eq_emod_of_nonneg i (by omega)]; exact q)
theorem iop_shl : OpR X (inplaceOp .LShift) (rI CPow fun i j => .int (i * 2 ^ j.toNat)) := opI fun _ _ _ _ _ _ _ hc q => ilshift_int_small hc.1 hc.2.1 hc.2.2 q
theorem iop_shr : OpR X (inplaceOp .RShift) (rI (fun _ j => 0 ≤ j) fun i j => .int (i / 2 ^ j.toNat)) := opI fun i j _ _ _ _ _ hc q =>
  irshift_int hc (by rw [Int.fdiv_eq_ediv_of_nonneg i (two_pow_nn _)]; exact q)
theorem iop_and : OpR X (inplaceOp .BitAnd) (rI0 fun i j => .int (Builtin.bitAnd i j)) := opI0 fun _ _ _ _ _ _ _ q => iand_int q
theorem iop_or : OpR X (inplaceOp .BitOr) (rI0 fun i j => .int (Builtin.bitOr i j)) := opI0 fun _ _ _ _ _ _ _ q => ior_int q
theorem iop_xor : OpR X (inplaceOp .BitXor) (rI0 fun i j => .int (Builtin.bitXor i j)) := opI0 fun _ _ _ _ _ _ _ q => ixor_int q

theorem unI {f : Value → Sem Value} {g : Int → Int}
    (rule : ∀ (i : Int) (t : Tok) (s : Shared) (Q : Value → Shared → Prop) (E : Value → Shared → Prop), Q (.int (g i) s.toks) { s with toks := s.toks + 1 } → wpAny (model X.prog X.w) X.A (f (.int i t)) Q E s) :
    UnR X f (rU fun i => .int (g i)) := by
  intro pins s σ H x v Q I rx h
  obtain ⟨i, rfl, q⟩ := h
  obtain ⟨t, rfl⟩ := rx
  exact rule i t s _ _ ⟨.int (g i), H, I.tok _, ⟨_, rfl⟩, q⟩
theorem un_neg : UnR X (unaryOp .USub) (rU fun i => .int (-i)) := unI fun _ _ _ _ _ q => neg_int q
theorem un_inv : UnR X (unaryOp .Invert) (rU fun i => .int (Builtin.bitNot i)) := unI fun _ _ _ _ _ q => invert_int q

/-! ### bools among ints: n += (a < b) -/
theorem op_add_ib : OpR X (binaryOp .Add) (fun x y H Q => ∃ i k, x = .int i ∧ y = .bl k ∧ Q (.int (i + b2i k)) H) := by
  intro pins s σ H x y v u Q I rx ry h
  obtain ⟨i, k, rfl, rfl, q⟩ := h
  obtain ⟨t, rfl⟩ := rx
  cases ry
  exact add_int_bool ⟨.int (i + b2i k), H, I.tok _, ⟨_, rfl⟩, q⟩
end

/-! ### comparisons -/
/-- the scalars that == tells apart as data does -/
def scal : V → V → Bool
  | .non, .non => true | .non, .int _ => true | .int _, .non => true | .non, .bl _ => true | .bl _, .non => true | .non, .str _ => true | .str _, .non => true
  | .int _, .int _ => true | .bl _, .bl _ => true | .str _, .str _ => true | .byt _, .byt _ => true
  | .int _, .str _ => true | .str _, .int _ => true | .bl _, .str _ => true | .str _, .bl _ => true
  | _, _ => false
def rEq : R2 := fun x y H Q => scal x y = true ∧ Q (.bl (decide (x = y))) H
def rNe : R2 := fun x y H Q => scal x y = true ∧ Q (.bl (!decide (x = y))) H

theorem dec_int {i j : Int} : decide (V.int i = V.int j) = (i == j) := by
  rw [Bool.eq_iff_iff]
  simp
theorem dec_bl {i j : Bool} : decide (V.bl i = V.bl j) = (i == j) := by
  rw [Bool.eq_iff_iff]
  simp
theorem dec_str {i j : Str} : decide (V.str i = V.str j) = (i == j) := by
  rw [Bool.eq_iff_iff]
  simp
theorem dec_byt {i j : Array UInt8} : decide (V.byt i = V.byt j) = (i.toList == j.toList) := by
  rw [Bool.eq_iff_iff]
  cases i
  cases j
  simp

section
variable {X : Cx} {a b c : Expr} {ta tb tc : TE} {pos : Pos}
theorem fin_bl {pins : List (Addr × Obj)} {σ : St} {H : Hp} {s : Shared} {Q : VK} {k k' : Bool} (I : Inv X pins σ H s) (q : Q (.bl k) H) (e : k = k') : EP X pins σ Q (.bool k') s := by
  subst e
  exact ⟨.bl k, H, I, rfl, q⟩
theorem op_eq : OpR X (compareOp .Eq) rEq := by
  intro pins s σ H x y v u Q I rx ry h
  obtain ⟨hs, q⟩ := h
  cases x with
  | non =>
    cases rx
    cases y with
    | non => cases ry; exact PySem.EqNone.eq_none_none (fin_bl I q (by simp))
    | bl j => cases ry; exact PySem.EqNone.eq_none_bool (fin_bl I q (by simp))
    | int j => obtain ⟨t', rfl⟩ := ry; exact PySem.EqNone.eq_none_int (fin_bl I q (by simp))
    | str j => obtain ⟨t', rfl⟩ := ry; exact PySem.EqNone.eq_none_str (fin_bl I q (by simp))
    | _ => exact absurd (show false = true from hs) Bool.false_ne_true
  | bl i =>
    cases rx
    cases y with
    | non => cases ry; exact PySem.EqNone.eq_bool_none (fin_bl I q (by simp))
    | bl j => cases ry; exact eq_bool (fin_bl I q dec_bl)
    | str j => obtain ⟨t', rfl⟩ := ry; exact PySem.EqMixed.eq_bool_str (fin_bl I q (by simp))
    | _ => exact absurd (show false = true from hs) Bool.false_ne_true
  | int i =>
    obtain ⟨t, rfl⟩ := rx
    cases y with
    | non => cases ry; exact PySem.EqNone.eq_int_none (fin_bl I q (by simp))
    | int j => obtain ⟨t', rfl⟩ := ry; exact eq_int (fin_bl I q dec_int)
    | str j => obtain ⟨t', rfl⟩ := ry; exact PySem.EqMixed.eq_int_str (fin_bl I q (by simp))
    | _ => exact absurd (show false = true from hs) Bool.false_ne_true
  | str i =>
    obtain ⟨t, rfl⟩ := rx
    cases y with
    | non => cases ry; exact PySem.EqNone.eq_str_none (fin_bl I q (by simp))
    | bl j => cases ry; exact PySem.EqMixed.eq_str_bool (fin_bl I q (by simp))
    | int j => obtain ⟨t', rfl⟩ := ry; exact PySem.EqMixed.eq_str_int (fin_bl I q (by simp))
    | str j => obtain ⟨t', rfl⟩ := ry; exact eq_str (fin_bl I q dec_str)
    | _ => exact absurd (show false = true from hs) Bool.false_ne_true
  | byt i =>
    obtain ⟨t, rfl⟩ := rx
    cases y with
    | byt j => obtain ⟨t', rfl⟩ := ry; exact PySem.W.eq_bytes (fin_bl I q dec_byt)
    | _ => exact absurd (show false = true from hs) Bool.false_ne_true
  | _ => cases y <;> exact absurd (show false = true from hs) Bool.false_ne_true
theorem op_ne : OpR X (compareOp .NotEq) rNe := by
  intro pins s σ H x y v u Q I rx ry h
  obtain ⟨hs, q⟩ := h
  cases x with
  | non =>
    cases rx
    cases y with
    | non => cases ry; exact PySem.EqNone.ne_none_none (fin_bl I q (by simp))
    | bl j => cases ry; exact PySem.EqNone.ne_none_bool (fin_bl I q (by simp))
    | int j => obtain ⟨t', rfl⟩ := ry; exact PySem.EqNone.ne_none_int (fin_bl I q (by simp))
    | str j => obtain ⟨t', rfl⟩ := ry; exact PySem.EqNone.ne_none_str (fin_bl I q (by simp))
    | _ => exact absurd (show false = true from hs) Bool.false_ne_true
  | bl i =>
    cases rx
    cases y with
    | non => cases ry; exact PySem.EqNone.ne_bool_none (fin_bl I q (by simp))
    | bl j => cases ry; exact ne_bool (fin_bl I q (congrArg not dec_bl))
    | str j => obtain ⟨t', rfl⟩ := ry; exact PySem.EqMixed.ne_bool_str (fin_bl I q (by simp))
    | _ => exact absurd (show false = true from hs) Bool.false_ne_true
  | int i =>
    obtain ⟨t, rfl⟩ := rx
    cases y with
    | non => cases ry; exact PySem.EqNone.ne_int_none (fin_bl I q (by simp))
    | int j => obtain ⟨t', rfl⟩ := ry; exact ne_int (fin_bl I q (congrArg not dec_int))
    | str j => obtain ⟨t', rfl⟩ := ry; exact PySem.EqMixed.ne_int_str (fin_bl I q (by simp))
    | _ => exact absurd (show false = true from hs) Bool.false_ne_true
  | str i =>
    obtain ⟨t, rfl⟩ := rx
    cases y with
    | non => cases ry; exact PySem.EqNone.ne_str_none (fin_bl I q (by simp))
    | bl j => cases ry; exact PySem.EqMixed.ne_str_bool (fin_bl I q (by simp))
    | int j => obtain ⟨t', rfl⟩ := ry; exact PySem.EqMixed.ne_str_int (fin_bl I q (by simp))
    | str j => obtain ⟨t', rfl⟩ := ry; exact ne_str (fin_bl I q (congrArg not dec_str))
    | _ => exact absurd (show false = true from hs) Bool.false_ne_true
  | byt i =>
    obtain ⟨t, rfl⟩ := rx
    cases y with
    | byt j => obtain ⟨t', rfl⟩ := ry; exact PySem.W.ne_bytes (fin_bl I q (congrArg not dec_byt))
    | _ => exact absurd (show false = true from hs) Bool.false_ne_true
  | _ => cases y <;> exact absurd (show false = true from hs) Bool.false_ne_true

theorem op_lt : OpR X (compareOp .Lt) (rI0 fun i j => .bl (decide (i < j))) := opB0 fun _ _ _ _ _ _ _ q => lt_int q
theorem op_le : OpR X (compareOp .LtE) (rI0 fun i j => .bl (decide (i ≤ j))) := opB0 fun _ _ _ _ _ _ _ q => le_int q
theorem op_gt : OpR X (compareOp .Gt) (rI0 fun i j => .bl (decide (j < i))) := opB0 fun _ _ _ _ _ _ _ q => gt_int q
theorem op_ge : OpR X (compareOp .GtE) (rI0 fun i j => .bl (decide (j ≤ i))) := opB0 fun _ _ _ _ _ _ _ q => ge_int q
theorem op_lt_str : OpR X (compareOp .Lt) (fun x y H Q => ∃ i j, x = .str i ∧ y = .str j ∧ Q (.bl (decide (i.cps.toList < j.cps.toList))) H) := by
  intro pins s σ H x y v u Q I rx ry h
  obtain ⟨i, j, rfl, rfl, q⟩ := h
  obtain ⟨t, rfl⟩ := rx
  obtain ⟨t', rfl⟩ := ry
  exact lt_str (fin_bl I q rfl)
/-- the one string within the other -/
theorem op_in_str : OpR X (compareOp .In) (fun x y H Q => ∃ i j, x = .str i ∧ y = .str j ∧ Q (.bl (!(Builtin.Str.occurrences j i 0 j.length 1).isEmpty)) H) := by
  intro pins s σ H x y v u Q I rx ry h
  obtain ⟨i, j, rfl, rfl, q⟩ := h
  obtain ⟨t, rfl⟩ := rx
  obtain ⟨t', rfl⟩ := ry
  exact in_str (fin_bl I q rfl)

/-- is None, is not None: the right side a value none -/
theorem op_isN : OpR X (compareOp .Is) (fun x y H Q => y = .non ∧ Q (.bl (decide (x = .non))) H) := by
  intro pins s σ H x y v u Q I rx ry h
  obtain ⟨rfl, q⟩ := h
  cases ry
  refine is_none_gen (fin_bl I q ?_)
  cases x <;> first
    | (cases rx; rfl)
    | (obtain ⟨t, rfl⟩ := rx; rfl)
theorem op_notN : OpR X (compareOp .IsNot) (fun x y H Q => y = .non ∧ Q (.bl (!decide (x = .non))) H) := by
  intro pins s σ H x y v u Q I rx ry h
  obtain ⟨rfl, q⟩ := h
  cases ry
  refine isnot_none_gen (fin_bl I q ?_)
  cases x <;> first
    | (cases rx; rfl)
    | (obtain ⟨t, rfl⟩ := rx; rfl)

theorem op_notin_str : OpR X (compareOp .NotIn) (fun x y H Q => ∃ i j, x = .str i ∧ y = .str j ∧ Q (.bl (!(!(Builtin.Str.occurrences j i 0 j.length 1).isEmpty))) H) := by
  intro pins s σ H x y v u Q I rx ry h
  obtain ⟨i, j, rfl, rfl, q⟩ := h
  obtain ⟨t, rfl⟩ := rx
  obtain ⟨t', rfl⟩ := ry
  exact notIn_str (fin_bl I q rfl)
/-- is, is not of two objects that are tracked lists or instances -/
def isObj : HO → Bool
  | .lst _ => true
  | .ins _ _ _ => true
  | _ => false
theorem obj_there {pins : List (Addr × Obj)} {s : Shared} {σ : St} {H : Hp} {a : Addr} {o : HO} (I : Inv X pins σ H s) (h : H a = some o) (p : isObj o = true) : ∃ ob, s.heap.get? a = some ob ∧ ob.cls ≠ .type "tuple" := by
  cases o with
  | lst xs =>
    obtain ⟨_, its, n, _, e⟩ : xs.length ≤ sizeLine ∧ ∃ (its : List Value) (n : Nat), Vals xs its ∧ s.heap.get? a = some { cls := .type "list", data := .seq its.toArray n } := I.hok a _ h
    exact ⟨_, e, (by show Value.type "list" ≠ .type "tuple"; decide +kernel)⟩
  | ins C dx fs =>
    have x := I.hok a _ h
    obtain ⟨_, _, _, e, _⟩ := x
    exact ⟨_, e, (by show Value.ref C ≠ .type "tuple"; exact fun z => by cases z)⟩
  | _ => exact absurd (show false = true from p) Bool.false_ne_true
theorem op_is_ref : OpR X (compareOp .Is) (fun x y H Q => ∃ a b oa ob, x = .ref a ∧ y = .ref b ∧ H a = some oa ∧ isObj oa = true ∧ H b = some ob ∧ isObj ob = true ∧ Q (.bl (decide (a = b))) H) := by
  intro pins s σ H x y v u Q I rx ry h
  obtain ⟨a, b, oa, ob, rfl, rfl, ha, pa, hb, pb, q⟩ := h
  cases rx
  cases ry
  obtain ⟨o1, e1, n1⟩ := obj_there I ha pa
  obtain ⟨o2, e2, _⟩ := obj_there I hb pb
  by_cases z : a = b
  · subst z
    exact wpAny_is_ref_self (fin_bl I q (by simp))
  · exact wpAny_is_ref_other z e1 e2 n1 (fin_bl I q (by simp [z]))
theorem op_isnot_ref : OpR X (compareOp .IsNot) (fun x y H Q => ∃ a b oa ob, x = .ref a ∧ y = .ref b ∧ H a = some oa ∧ isObj oa = true ∧ H b = some ob ∧ isObj ob = true ∧ Q (.bl (!decide (a = b))) H) := by
  intro pins s σ H x y v u Q I rx ry h
  obtain ⟨a, b, oa, ob, rfl, rfl, ha, pa, hb, pb, q⟩ := h
  cases rx
  cases ry
  obtain ⟨o1, e1, n1⟩ := obj_there I ha pa
  obtain ⟨o2, e2, _⟩ := obj_there I hb pb
  by_cases z : a = b
  · subst z
    exact wpAny_isNot_ref_self (fin_bl I q (by simp))
  · exact wpAny_isNot_ref_other z e1 e2 n1 (fin_bl I q (by simp [z]))

/-- two rules for one operation: by cases -/
theorem OpR.or {f : Value → Value → Sem Value} {r r' : R2} (h : OpR X f r) (h' : OpR X f r') : OpR X f (fun x y H Q => r x y H Q ∨ r' x y H Q) := by
  intro pins s σ H x y v u Q I rx ry q
  rcases q with q | q
  · exact h pins s σ H x y v u Q I rx ry q
  · exact h' pins s σ H x y v u Q I rx ry q

theorem nomark (b : Expr) {op : CmpOp} (h : op ≠ .In := by decide) (h2 : op ≠ .NotIn := by decide) : behindInMarks op b = false := by
  have e1 : (op == CmpOp.In) = false := by cases op <;> first | rfl | exact absurd rfl h
  have e2 : (op == CmpOp.NotIn) = false := by cases op <;> first | rfl | exact absurd rfl h2
  cases b <;> simp [behindInMarks, e1, e2]
/-- a comparison as a value; hm: nomark b, or (for in, not in) by with_unfolding_all rfl -/
theorem pe_cmpR {op : CmpOp} {r : R2} (ho : OpR X (compareOp op) r) (ha : PE X a ta) (hb : PE X b tb) (hm : behindInMarks op b = false) : PE X (.Compare a [op] [b] pos) (tOp r ta tb) := by
  intro pins s σ H Q I h
  exact wpAny_Compare1 (binT ha hb I h fun v u s2 x y H2 I2 rx ry q => ho pins s2 σ H2 x y v u Q I2 rx ry q) hm
/-- a reading of a value as a test -/
def tTest (t : TE) : TT := fun σ H Q => t σ H fun x H' => ∃ k, x = .bl k ∧ Q k H'
theorem pt_cmpR {op : CmpOp} {r : R2} (ho : OpR X (compareOp op) r) (ha : PE X a ta) (hb : PE X b tb) (hm : behindInMarks op b = false) : PT X (.Compare a [op] [b] pos) (tTest (tOp r ta tb)) := by
  intro pins s σ H Q I h
  refine wpAny_isTrue_Compare1 (thn (ha pins s σ H _ I h) fun v s1 ⟨x, H1, I1, r1, q1⟩ => thn (hb pins s1 σ H1 _ I1 q1) fun u s2 ⟨y, H2, I2, r2, q2⟩ =>
    thn (ho pins s2 σ H2 x y v u _ I2 r1 r2 q2) fun c s3 ⟨z, H3, I3, r3, k, e, q3⟩ => ?_) hm
  subst e
  cases r3
  exact wpAny_truthy_bool ⟨H3, I3, q3⟩
/-- a op1 b op2 c -/
def tChain (r r' : R2) (ta tb tc : TE) : TE := fun σ H Q => ta σ H fun x H1 => tb σ H1 fun y H2 => r x y H2 fun z H3 => ∃ k, z = .bl k ∧
  (if k = true then tc σ H3 fun w' H4 => r' y w' H4 Q else Q (.bl false) H3)
theorem pe_chain {op op' : CmpOp} {r r' : R2} (ho : OpR X (compareOp op) r) (ho' : OpR X (compareOp op') r') (ha : PE X a ta) (hb : PE X b tb) (hc : PE X c tc)
    (hm : lastMarks [op, op'] [b, c] = false := by with_unfolding_all rfl) : PE X (.Compare a [op, op'] [b, c] pos) (tChain r r' ta tb tc) := by
  intro pins s σ H Q I h
  refine Compare_chain (thn (ha pins s σ H _ I h) fun v s1 ⟨x, H1, I1, r1, q1⟩ => chain_link (thn (hb pins s1 σ H1 _ I1 q1) fun u s2 ⟨y, H2, I2, r2, q2⟩ =>
    thn (ho pins s2 σ H2 x y v u _ I2 r1 r2 q2) fun d s3 ⟨z, H3, I3, r3, k, e, q3⟩ => ?_)) hm
  subst e
  cases r3
  refine wpAny_truthy_bool ?_
  cases k with
  | false => exact ite_ff ⟨.bl false, H3, I3, rfl, q3⟩
  | true => exact ite_tt (chain_last (thn (hc pins s3 σ H3 _ I3 q3) fun w' s4 ⟨z', H4, I4, r4, q4⟩ => ho' pins s4 σ H4 y z' u w' Q I4 r2 r4 q4))
theorem pt_chain {op op' : CmpOp} {r r' : R2} (ho : OpR X (compareOp op) r) (ho' : OpR X (compareOp op') r') (ha : PE X a ta) (hb : PE X b tb) (hc : PE X c tc)
    (hm : lastMarks [op, op'] [b, c] = false := by with_unfolding_all rfl) : PT X (.Compare a [op, op'] [b, c] pos) (tTest (tChain r r' ta tb tc)) := by
  intro pins s σ H Q I h
  refine isTrue_chain (thn (ha pins s σ H _ I h) fun v s1 ⟨x, H1, I1, r1, q1⟩ => test_link (thn (hb pins s1 σ H1 _ I1 q1) fun u s2 ⟨y, H2, I2, r2, q2⟩ =>
    thn (ho pins s2 σ H2 x y v u _ I2 r1 r2 q2) fun d s3 ⟨z, H3, I3, r3, k, e, q3⟩ => ?_)) hm
  subst e
  cases r3
  refine wpAny_truthy_bool ?_
  cases k with
  | false =>
    obtain ⟨k', e', q'⟩ := q3
    cases e'
    exact ite_ff ⟨H3, I3, q'⟩
  | true =>
    refine ite_tt (test_last (thn (hc pins s3 σ H3 _ I3 q3) fun w' s4 ⟨z', H4, I4, r4, q4⟩ => thn (ho' pins s4 σ H4 y z' u w' _ I4 r2 r4 q4) fun d' s5 ⟨z2, H5, I5, r5, k2, e2, q5⟩ => ?_))
    subst e2
    cases r5
    exact wpAny_truthy_bool ⟨H5, I5, q5⟩

/-! ### truth -/
/-- a value's truth by the abstract heap -/
def TruV (K : PySem.W.Frag) (x : V) (H : Hp) (k : Bool) : Prop :=
  match x with
  | .non => k = false
  | .bl b => k = b
  | .int i => k = (i != 0)
  | .str y => y.length ≤ sizeLine ∧ k = ((y.length : Int) != 0)
  | .byt y => y.size ≤ sizeLine ∧ k = ((y.size : Int) != 0)
  | .ref p => (∃ xs, SqL K H p xs ∧ k = !xs.isEmpty) ∨ (∃ xs, SqT K H p xs ∧ k = !xs.isEmpty) ∨ ∃ kvs, H p = some (.dK kvs) ∧ k = !kvs.isEmpty
  | _ => False
theorem isEmpty_kv {κ : Type} {kvs : List (κ × V)} {vs : List (κ × Value)} (r : KV kvs vs) : (!vs.isEmpty) = !kvs.isEmpty := by
  cases r <;> rfl
theorem isEmpty_of {xs : List V} {its : List Value} (r : Vals xs its) : (!its.toArray.isEmpty) = !xs.isEmpty := by
  cases r <;> simp
theorem line63 : (sizeLine : Nat) < 2 ^ 63 := by rw [sizeLine_eq]; decide
theorem tru_ok : TruR X (fun x H Q => ∃ k, TruV X.K x H k ∧ Q k H) := by
  intro pins s σ H x v Q I rx h
  obtain ⟨k, e, q⟩ := h
  have hl := line63
  have hs : sizeLine = 16777216 := sizeLine_eq
  cases x with
  | non =>
    cases rx
    have e' : k = false := e
    subst e'
    exact truthy_none ⟨H, I, q⟩
  | bl b =>
    cases rx
    have e' : k = b := e
    subst e'
    exact wpAny_truthy_bool ⟨H, I, q⟩
  | int i =>
    obtain ⟨t, rfl⟩ := rx
    have e' : k = (i != 0) := e
    subst e'
    exact PySem.P.truthy_int ⟨H, I, q⟩
  | str y =>
    obtain ⟨t, rfl⟩ := rx
    obtain ⟨hy, e'⟩ : y.length ≤ sizeLine ∧ k = ((y.length : Int) != 0) := e
    subst e'
    exact PySem.P.truthy_str (by omega) ⟨H, I.tok _, q⟩
  | byt y =>
    obtain ⟨t, rfl⟩ := rx
    obtain ⟨hy, e'⟩ : y.size ≤ sizeLine ∧ k = ((y.size : Int) != 0) := e
    subst e'
    exact PySem.W.truthy_bytes (by omega) ⟨H, I.tok _, q⟩
  | ref p =>
    cases rx
    have e' : (∃ xs, SqL X.K H p xs ∧ k = !xs.isEmpty) ∨ (∃ xs, SqT X.K H p xs ∧ k = !xs.isEmpty) ∨ ∃ kvs, H p = some (.dK kvs) ∧ k = !kvs.isEmpty := e
    rcases e' with ⟨xs, hx, e'⟩ | ⟨xs, hx, e'⟩ | ⟨kvs, hx, e'⟩
    · subst e'
      obtain ⟨its, r, pl, hz⟩ := I.list hx
      have hlen := r.length
      exact wpAny_truthy_list pl.isList (by simp only [List.size_toArray]; omega) ⟨H, I.tok _, by rw [isEmpty_of r]; exact q⟩
    · subst e'
      obtain ⟨its, r, pl, hz⟩ := I.tuple hx
      have hlen := r.length
      exact truthy_tuple pl (by simp only [List.size_toArray]; omega) ⟨H, I.tok _, by rw [isEmpty_of r]; exact q⟩
    · subst e'
      obtain ⟨hz, hS, vs, r, m⟩ : kvs.length ≤ sizeLine ∧ (p == sysModules) = false ∧ ∃ vs, KV kvs vs ∧ s.heap.DictOf (mixKind X.prog X.w) p vs := I.hok p _ hx
      have hlen : kvs.length = vs.length := Paired.length r
      exact wpAny_truthy_dict hS m (by omega) ⟨H, I.tok _, by rw [isEmpty_kv r]; exact q⟩
  | _ => exact (show False from e).elim
/-- any expression whose test is its value's truth (a name, a call, a subscript, a field ..: he by fun _ => rfl) -/
theorem pt_truth (ha : PE X a ta) (he : ∀ whole, isTrue a X.env whole = (do let v ← whole; standAt a.pos; holding [v] (truthy v))) :
    PT X a (fun σ H Q => ta σ H fun x H' => ∃ k, TruV X.K x H' k ∧ Q k H') := by
  intro pins s σ H Q I h
  exact isTrue_plain (thn (ha pins s σ H _ I h) fun v s1 ⟨x, H1, I1, r1, q1⟩ => tru_ok pins s1 σ H1 x v Q I1 r1 q1) (he _)

/-! ### strs and bytes -/
theorem pe_byt {x : List UInt8} {k : Nat} : PE X (.Constant (.bytes x) k pos) (fun _ H Q => Q (.byt x.toArray) H) := fun _ _ _ H _ I h => PySem.W.Constant_bytes ⟨.byt x.toArray, H, I.tok _, ⟨_, rfl⟩, h⟩
theorem op_add_str : OpR X (binaryOp .Add) (fun x y H Q => ∃ i j, x = .str i ∧ y = .str j ∧ i.length + j.length ≤ sizeLine ∧ Q (.str (i ++ j)) H) := by
  intro pins s σ H x y v u Q I rx ry h
  obtain ⟨i, j, rfl, rfl, hz, q⟩ := h
  obtain ⟨t, rfl⟩ := rx
  obtain ⟨t', rfl⟩ := ry
  exact add_str (fun t' tk => ⟨.str (i ++ j), H, I.tok _, ⟨_, rfl⟩, q⟩) hz
theorem iop_add_str : OpR X (inplaceOp .Add) (fun x y H Q => ∃ i j, x = .str i ∧ y = .str j ∧ i.length + j.length ≤ sizeLine ∧ Q (.str (i ++ j)) H) := by
  intro pins s σ H x y v u Q I rx ry h
  obtain ⟨i, j, rfl, rfl, hz, q⟩ := h
  obtain ⟨t, rfl⟩ := rx
  obtain ⟨t', rfl⟩ := ry
  exact iadd_str (fun t' tk => ⟨.str (i ++ j), H, I.tok _, ⟨_, rfl⟩, q⟩) hz
theorem op_add_byt : OpR X (binaryOp .Add) (fun x y H Q => ∃ i j, x = .byt i ∧ y = .byt j ∧ i.size + j.size ≤ 16777216 ∧ Q (.byt (i ++ j)) H) := by
  intro pins s σ H x y v u Q I rx ry h
  obtain ⟨i, j, rfl, rfl, hz, q⟩ := h
  obtain ⟨t, rfl⟩ := rx
  obtain ⟨t', rfl⟩ := ry
  exact PySem.W.KBy.add_bytes hz (fun t' tk => ⟨.byt (i ++ j), H, I.tok _, ⟨_, rfl⟩, q⟩)

def PlainIxT (b : Expr) : Prop := ∀ o i, subscripted b false o i = operate [o, i] (getItem o i)
/-- s[i], 0 ≤ i < len -/
theorem pe_item_str (ha : PE X a ta) (hb : PE X b tb) (hs : PlainIxT b) :
    PE X (.Subscript a b pos) (tOp (fun x y H Q => ∃ z i c, x = .str z ∧ y = .int i ∧ 0 ≤ i ∧ i < 2 ^ 63 ∧ i < z.length ∧ z.cps[i.toNat]? = some c ∧ Q (.str ⟨#[c]⟩) H) ta tb) := by
  intro pins s σ H Q I h
  refine Subscript_ (binT ha hb I h fun v u s2 x y H2 I2 rx ry q => ?_)
  obtain ⟨z, i, c, rfl, rfl, h0, h63, h1, hc, q⟩ := q
  obtain ⟨t, rfl⟩ := rx
  obtain ⟨t', rfl⟩ := ry
  have e : seqIndex? i z.length = some i.toNat := PySem.StrLaws.seqIndex_nonneg h0 h1
  exact tail_any (typeIs_str s2 z t) slot_str_getitem.lookup (getItem_str (c := c) (by
    have e1 : decide (i < -(2 ^ 63 : Int)) = false := decide_eq_false (by omega)
    have e2 : decide (i ≥ 2 ^ 63) = false := decide_eq_false (by omega)
    rw [e1, e2] <;> rfl) (by rw [e]; exact hc) ⟨.str ⟨#[c]⟩, H2, I2.tok _, ⟨_, rfl⟩, q⟩) (hs _ _)
/-- b[i], 0 ≤ i < len -/
theorem pe_item_byt (ha : PE X a ta) (hb : PE X b tb) (hs : PlainIxT b) :
    PE X (.Subscript a b pos) (tOp (fun x y H Q => ∃ (z : List UInt8) (i : Int), x = .byt z.toArray ∧ y = .int i ∧ z.length ≤ sizeLine ∧ 0 ≤ i ∧ i < z.length ∧ Q (.int ((z.getD i.toNat 0).toNat : Nat)) H) ta tb) := by
  intro pins s σ H Q I h
  refine Subscript_ (binT ha hb I h fun v u s2 x y H2 I2 rx ry q => ?_)
  obtain ⟨z, i, rfl, rfl, hz, h0, h1, q⟩ := q
  obtain ⟨t, rfl⟩ := rx
  obtain ⟨t', rfl⟩ := ry
  have hl : sizeLine = 16777216 := sizeLine_eq
  exact tail_any (PySem.W.typeIs_bytes s2 z.toArray t) PySem.W.FB.slot_bytes_getitem.lookup (PySem.W.getItem_bytes (by omega) h0 h1 ⟨.int ((z.getD i.toNat 0).toNat : Nat), H2, I2.tok _, ⟨_, rfl⟩, q⟩) (hs _ _)

/-! ### scalar builtins, by CallR -/
theorem vals1 {x : V} {us : List Value} (r : Vals [x] us) : ∃ u, us = [u] ∧ RelV x u := by
  cases r with
  | cons r1 r2 => cases r2; exact ⟨_, rfl, r1⟩
theorem vals2 {x y : V} {us : List Value} (r : Vals [x, y] us) : ∃ u w', us = [u, w'] ∧ RelV x u ∧ RelV y w' := by
  cases r with
  | cons r1 r2 =>
    cases r2 with
    | cons r3 r4 => cases r4; exact ⟨_, _, rfl, r1, r3⟩
theorem call_abs : CallR X (.builtin "abs") (fun xs H Q => ∃ i, xs = [.int i] ∧ Q (.int (if i < 0 then -i else i)) H) := by
  intro pins s σ H xs us Q I r h
  obtain ⟨i, rfl, q⟩ := h
  obtain ⟨u, rfl, t, rfl⟩ := vals1 r
  exact call_abs_int fun u tk => ⟨.int (if i < 0 then -i else i), H, I.tok _, ⟨_, rfl⟩, q⟩
theorem call_max2 (hc : X.calm = true) : CallR X (.builtin "max") (fun xs H Q => ∃ i j, xs = [.int i, .int j] ∧ Q (.int (if j > i then j else i)) H) := by
  intro pins s σ H xs us Q I r h
  obtain ⟨i, j, rfl, q⟩ := h
  obtain ⟨u, w', rfl, ⟨t, rfl⟩, ⟨t', rfl⟩⟩ := vals2 r
  refine max_two_ints (I.ok.hd hc) fun h' tk k => ⟨_, H, I.kept k, ?_, q⟩
  by_cases hj : j > i
  · rw [if_pos hj, if_pos hj]; exact ⟨_, rfl⟩
  · rw [if_neg hj, if_neg hj]; exact ⟨_, rfl⟩
theorem call_min2 (hc : X.calm = true) : CallR X (.builtin "min") (fun xs H Q => ∃ i j, xs = [.int i, .int j] ∧ Q (.int (if j < i then j else i)) H) := by
  intro pins s σ H xs us Q I r h
  obtain ⟨i, j, rfl, q⟩ := h
  obtain ⟨u, w', rfl, ⟨t, rfl⟩, ⟨t', rfl⟩⟩ := vals2 r
  refine min_two_ints (I.ok.hd hc) fun h' tk k => ⟨_, H, I.kept k, ?_, q⟩
  by_cases hj : j < i
  · rw [if_pos hj, if_pos hj]; exact ⟨_, rfl⟩
  · rw [if_neg hj, if_neg hj]; exact ⟨_, rfl⟩
theorem call_int1 : CallR X (.type "int") (fun xs H Q => (∃ i, xs = [.int i] ∧ Q (.int i) H) ∨ ∃ k, xs = [.bl k] ∧ Q (.int (if k then 1 else 0)) H) := by
  intro pins s σ H xs us Q I r h
  rcases h with ⟨i, rfl, q⟩ | ⟨k, rfl, q⟩
  · obtain ⟨u, rfl, t, rfl⟩ := vals1 r
    exact call_int_int ⟨.int i, H, I, ⟨_, rfl⟩, q⟩
  · obtain ⟨u, rfl, r1⟩ := vals1 r
    cases r1
    exact call_int_bool ⟨.int (if k then 1 else 0), H, I.tok _, ⟨_, rfl⟩, q⟩
theorem call_bool1 : CallR X (.type "bool") (fun xs H Q => (∃ i, xs = [.int i] ∧ Q (.bl (i != 0)) H) ∨ ∃ k, xs = [.bl k] ∧ Q (.bl k) H) := by
  intro pins s σ H xs us Q I r h
  rcases h with ⟨i, rfl, q⟩ | ⟨k, rfl, q⟩
  · obtain ⟨u, rfl, t, rfl⟩ := vals1 r
    exact call_bool_int ⟨.bl (i != 0), H, I, rfl, q⟩
  · obtain ⟨u, rfl, r1⟩ := vals1 r
    cases r1
    exact call_bool_bool ⟨.bl k, H, I, rfl, q⟩
theorem call_str_int : CallR X (.type "str") (fun xs H Q => ∃ i, xs = [.int i] ∧ i.natAbs.log2 < 1920 ∧ Q (.str (toString i)) H) := by
  intro pins s σ H xs us Q I r h
  obtain ⟨i, rfl, hz, q⟩ := h
  obtain ⟨u, rfl, t, rfl⟩ := vals1 r
  exact PySem.P.str_of_int hz ⟨.str _, H, I.tok _, ⟨_, rfl⟩, q⟩
theorem call_ord : CallR X (.builtin "ord") (fun xs H Q => ∃ x, xs = [.str x] ∧ x.length = 1 ∧ Q (.int (x.cps.getD 0 0 : Nat)) H) := by
  intro pins s σ H xs us Q I r h
  obtain ⟨x, rfl, hz, q⟩ := h
  obtain ⟨u, rfl, t, rfl⟩ := vals1 r
  exact ord_of_one hz ⟨.int _, H, I.tok _, ⟨_, rfl⟩, q⟩
theorem call_chr : CallR X (.builtin "chr") (fun xs H Q => ∃ i, xs = [.int i] ∧ 0 ≤ i ∧ i ≤ 1114111 ∧ Q (.str ⟨#[i.toNat]⟩) H) := by
  intro pins s σ H xs us Q I r h
  obtain ⟨i, rfl, h0, h1, q⟩ := h
  obtain ⟨u, rfl, t, rfl⟩ := vals1 r
  exact chr_of_range h0 h1 ⟨.str _, H, I.tok _, ⟨_, rfl⟩, q⟩
/-- len of a str, a bytes, a list, a tuple -/
def LenV (K : PySem.W.Frag) (x : V) (H : Hp) (n : Nat) : Prop :=
  match x with
  | .str y => y.length ≤ sizeLine ∧ n = y.length
  | .byt y => y.size ≤ sizeLine ∧ n = y.size
  | .ref p => (∃ xs, SqL K H p xs ∧ n = xs.length) ∨ ∃ xs, SqT K H p xs ∧ n = xs.length
  | _ => False
theorem call_len : CallR X (.builtin "len") (fun xs H Q => ∃ x n, xs = [x] ∧ LenV X.K x H n ∧ Q (.int n) H) := by
  intro pins s σ H xs us Q I r h
  obtain ⟨x, n, rfl, e, q⟩ := h
  obtain ⟨u, rfl, rx⟩ := vals1 r
  have hl := line63
  have hs : sizeLine = 16777216 := sizeLine_eq
  cases x with
  | str y =>
    obtain ⟨t, rfl⟩ := rx
    obtain ⟨hy, e'⟩ : y.length ≤ sizeLine ∧ n = y.length := e
    subst e'
    exact len_str (by omega) ⟨.int _, H, I.tok _, ⟨_, rfl⟩, q⟩
  | byt y =>
    obtain ⟨t, rfl⟩ := rx
    obtain ⟨hy, e'⟩ : y.size ≤ sizeLine ∧ n = y.size := e
    subst e'
    exact PySem.W.len_bytes (by omega) ⟨.int _, H, I.tok _, ⟨_, rfl⟩, q⟩
  | ref p =>
    cases rx
    have e' : (∃ xs, SqL X.K H p xs ∧ n = xs.length) ∨ ∃ xs, SqT X.K H p xs ∧ n = xs.length := e
    rcases e' with ⟨xs, hx, e'⟩ | ⟨xs, hx, e'⟩
    · subst e'
      obtain ⟨its, r', pl, hz⟩ := I.list hx
      have hlen := r'.length
      exact Calls.call_len_list pl.isList (by simp only [List.size_toArray]; omega) ⟨.int xs.length, H, I.tok _, ⟨_, by simp only [List.size_toArray]; rw [hlen]⟩, q⟩
    · subst e'
      obtain ⟨its, r', pl, hz⟩ := I.tuple hx
      have hlen := r'.length
      exact len_tuple pl (by simp only [List.size_toArray]; omega) ⟨.int xs.length, H, I.tok _, ⟨_, by simp only [List.size_toArray]; rw [hlen]⟩, q⟩
  | _ => exact (show False from e).elim
/-- divmod: a new tuple -/
theorem call_divmod : CallR X (.builtin "divmod") (fun xs H Q => ∃ i j, xs = [.int i, .int j] ∧ CDiv i j ∧ ∀ p, H p = none → Q (.ref p) (upd H p (.tup [.int (i / j), .int (i % j)]))) := by
  intro pins s σ H xs us Q I r h
  obtain ⟨i, j, rfl, ⟨h1, h2⟩, q⟩ := h
  obtain ⟨u, w', rfl, ⟨t, rfl⟩, ⟨t', rfl⟩⟩ := vals2 r
  refine divmod_int (by omega) ?_ (.inl (PyProof.noPylong_small (by omega)))
  rw [Int.fdiv_eq_ediv_of_nonneg i (by omega), Int.fmod_eq_emod_of_nonneg i (by omega)]
  have hn : H s.heap.objs.size = none := I.hok.fresh (Nat.le_refl _)
  refine ⟨.ref s.heap.objs.size, _, ?_, rfl, q _ hn⟩
  refine I.laid (fun b o e => Heap.get?_push_of_some _ e) (Nat.le_refl _) ⟨by simp only [List.length_cons, List.length_nil]; rw [sizeLine_eq]; decide, [.int (i / j) s.toks, .int (i % j) (s.toks + 1)], .cons ⟨_, rfl⟩ (.cons ⟨_, rfl⟩ .nil), ?_⟩
  exact ⟨_, Heap.get?_push_size s.heap rfl, rfl, 0, rfl⟩
end
end L2

namespace L2
open PySem PySem.Spec PyProof.Rows

/-! ### an instance, its attributes a map -/
structure ObjM (h : Heap) (x dx C : Addr) (mA : Str → Option Value) : Prop where
  obj : h.get? x = some (PySem.W.instObj C dx)
  ns : h.Ns1 dx mA
  ne : dx ≠ x

theorem lookIn_ns {h : Heap} {dx : Addr} {mA : Str → Option Value} (n : h.Ns1 dx mA) : ∃ od, h.get? dx = some od ∧ ∀ name, PySem.W.lookIn name od = some (mA name) := by
  obtain ⟨o, es, ep, ho, hd, hk, _, hm⟩ := n
  refine ⟨o, ho, fun name => ?_⟩
  have e := hm name
  unfold nsFind findBy at e
  rw [← Array.find?_toList] at e
  unfold PySem.W.lookIn
  rw [hd]
  dsimp only
  split
  · rename_i y q
    rw [q] at e
    exact congrArg some e
  · rename_i q
    rw [q] at e
    have a : es.toList.any (·.refKey) = false := by
      rw [List.any_eq_false]
      intro y hy
      obtain ⟨z, t, hkey⟩ := hk y (Array.mem_toList_iff.mp hy)
      simp [DictEntry.refKey, hkey]
    have a' : ¬ es.toList.any (·.refKey) = true := by rw [a]; exact Bool.false_ne_true
    rw [if_neg a']
    exact congrArg some e

theorem ObjM.look {h : Heap} {x dx C : Addr} {mA : Str → Option Value} (I : ObjM h x dx C mA) : ∃ od, PySem.W.InstAt h x (PySem.W.instObj C dx) C (some od) ∧ ∀ name, PySem.W.lookIn name od = some (mA name) :=
  let ⟨od, ho, hl⟩ := lookIn_ns I.ns
  ⟨od, ⟨I.obj, rfl, rfl, ho⟩, hl⟩

section
variable {prog : Program} {w : World} {A : Around} {E : Value → Shared → Prop} {s : Shared} {K : PySem.W.Frag} {x dx C f : Addr} {mA : Str → Option Value} {name : Str} {v : Value}

theorem get_map {expr : Bool} {Q : Value → Shared → Prop} (X : K.In s.heap) (I : ObjM s.heap x dx C mA) (hg : PySem.W.plainGet K C name = true) (hh : PySem.W.hasDictIn K C = true)
    (ha : PySem.W.findIn K (.ref C) name = some none) (hv : mA name = some v) (hv' : PySem.W.handedIn v = true) (h : Q v { s with toks := s.toks + 1 }) :
    wpAny (model prog w) A (getAttr (.ref x) name expr) Q E s := by
  obtain ⟨od, J, hl⟩ := I.look
  exact PySem.W.get_value X J (PySem.W.plainGet_of hg).1 (PySem.W.findObj_own hh ha rfl (by rw [hl, hv])) hv' h

theorem get_const {expr : Bool} {a : Value} {Q : Value → Shared → Prop} (X : K.In s.heap) (I : ObjM s.heap x dx C mA) (hg : PySem.W.plainGet K C name = true) (hh : PySem.W.hasDictIn K C = true)
    (ha : PySem.W.findIn K (.ref C) name = some (some a)) (hn : PySem.W.specialIn K a "__get__" = some none) (hc : PySem.W.copiedNames.contains name = false) (hv : mA name = none) (hv' : PySem.W.handedIn a = true)
    (h : Q a { s with toks := s.toks + 1 }) : wpAny (model prog w) A (getAttr (.ref x) name expr) Q E s := by
  obtain ⟨od, J, hl⟩ := I.look
  exact PySem.W.get_value X J (PySem.W.plainGet_of hg).1 (PySem.W.findObj_cls hh ha hn hv' hc (by rw [hl, hv])) hv' h

theorem get_meth {pl : Sem Bool} {Q : Value × List Value → Shared → Prop} (X : K.In s.heap) (I : ObjM s.heap x dx C mA) (hg : PySem.W.plainGet K C name = true)
    (hf : PySem.W.findIn K (.ref C) name = some (some (.ref f))) (ht : PySem.W.isFn K (.ref f) = true) (hv : mA name = none) (h : Q (.ref f, [.ref x]) s) :
    wpAny (model prog w) A (getMethod (.ref x) name pl) Q E s := by
  obtain ⟨od, J, hl⟩ := I.look
  exact PySem.W.method_fn X J (PySem.W.plainGet_of hg).1 (PySem.W.plainGet_of hg).2 hf (beq_iff_eq.mp ht) (by show (PySem.W.lookIn name od).map (·.isSome) = some false; rw [hl, hv]; rfl) h

theorem set_map {ns : List Str} {Q : Unit → Shared → Prop} (X : K.In s.heap) (I : ObjM s.heap x dx C mA)
    (hs : PySem.W.findIn K (.ref C) "__setattr__" = some (some (.builtin "object.__setattr__"))) (hp : PySem.W.plainOver K C = true) (ht : PySem.W.takerIn K C name = some none) (hh : PySem.W.hasDictIn K C = true)
    (hw : PySem.Within mA ns) (hsz : ns.length ≤ sizeLine)
    (h : ∀ h', ObjM h' x dx C (fun y => if y = name then some v else mA y) → Heap.SameBut dx s.heap h' → Q () { s with heap := h', toks := s.toks + 2 }) :
    wpAny (model prog w) A (setAttr (.ref x) name v) Q E s := by
  obtain ⟨od, J, hl⟩ := I.look
  refine PySem.W.set_plain X J hs (PySem.W.osa_open (s := { s with toks := s.toks + 1 }) (r := none) X J hp ht fun b => ?_)
  obtain ⟨cd, hc, hd'⟩ := PySem.W.any_some hh
  have hx : s.heap.get? x = some ⟨.ref C, some dx, .plain, #[]⟩ := I.obj
  refine wpAny_bind (wpAny_pure (wpAny_bind (wpAny_bind (wpAny_loadPart hx (wpAny_bind (PySem.W.Looks.here (s := { s with toks := s.toks + 1 }) (PySem.W.looks_clsIn X hc) ?_))))))
  rw [hd']
  refine wpAny_pure (a := some dx) (wpAny_bind (wpAny_pure (wpAny_bind ?_)))
  refine wpAny_nsSet1 (s := { s with toks := s.toks + 1 }) I.ns fun h' hn2 hs2 => ?_
  obtain ⟨oD, esD, epD, hoD, hdD, hcD⟩ := hn2.count (PySem.Within.cons name v hw)
  refine wpAny_bind (wpAny_lookBehind hoD (by rw [hdD]; exact pastItsLine_dict (Nat.le_trans hcD (by rw [List.length_cons]; omega))) ?_)
  exact wpAny_pure (h _ ⟨(hs2.2 _ (Ne.symm I.ne)).trans I.obj, hn2, I.ne⟩ hs2)

/-- C(..): the dict at the heap's end, the instance behind it; then its __init__ -/
theorem make_map {R : Result → Shared → Prop} {vs : List Value} {kw : List (Str × Value)} (X : K.In s.heap) (hm : PySem.W.makesIn K C = true)
    (hi : PySem.W.findIn K (.ref C) "__init__" = some (some (.ref f))) (hf : PySem.W.typeIn K (.ref f) = some (.type "function"))
    (h : codeAny (model prog w) (A.under (.builtin "type.__call__" ⟨.ref C :: vs, kw⟩)) (.call (.ref f) ⟨.ref (s.heap.objs.size + 1) :: vs, kw⟩) (PySem.W.InitBack (s.heap.objs.size + 1) R)
      { s with heap := (s.heap.push PySem.W.emptyDict).push (PySem.W.instObj C s.heap.objs.size) }) :
    codeAny (model prog w) A (.call (.ref C) ⟨vs, kw⟩) R s := by
  obtain ⟨hh, g, d, t, os⟩ := s
  exact PySem.W.make_core (PySem.W.makes_of X hm) (PySem.W.looks_findIn X hi) (fun self => PySem.W.bind_fn X self hf) (.inl rfl) h
/-- C() where there is no __init__ but object's -/
theorem make_map0 {R : Result → Shared → Prop} (X : K.In s.heap) (hm : PySem.W.makesIn K C = true)
    (hi : PySem.W.findIn K (.ref C) "__init__" = some (some (.builtin "object.__init__")))
    (hb : ∀ self, PySem.W.Looks (model prog w) s.heap (bindSpecial (.builtin "object.__init__") self) (.builtin "object.__init__", [self]))
    (h : codeAny (model prog w) (A.under (.builtin "type.__call__" ⟨[.ref C], []⟩)) (.call (.builtin "object.__init__") ⟨[.ref (s.heap.objs.size + 1)], []⟩) (PySem.W.InitBack (s.heap.objs.size + 1) R)
      { s with heap := (s.heap.push PySem.W.emptyDict).push (PySem.W.instObj C s.heap.objs.size) }) :
    codeAny (model prog w) A (.call (.ref C) ⟨[], []⟩) R s := by
  obtain ⟨hh, g, d, t, os⟩ := s
  exact PySem.W.make_core (PySem.W.makes_of X hm) (PySem.W.looks_findIn X hi) hb (.inr ⟨rfl, rfl⟩) h
end

/-! ### the attributes as a list of pairs -/
def putF (f : Str) (v : V) : List (Str × V) → List (Str × V)
  | [] => [(f, v)]
  | (g, x) :: r => if g = f then (g, v) :: r else (g, x) :: putF f v r
theorem lookup_putF (f g : Str) (v : V) : ∀ fs : List (Str × V), (putF f v fs).lookup g = if g = f then some v else fs.lookup g
  | [] => by
    show List.lookup g [(f, v)] = _
    by_cases h : g = f
    · have hb : (g == f) = true := beq_iff_eq.mpr h
      simp only [List.lookup, hb, if_pos h]
    · have hb : (g == f) = false := beq_eq_false_iff_ne.mpr h
      simp only [List.lookup, hb, if_neg h]
  | (k, x) :: r => by
    have ih := lookup_putF f g v r
    rw [show putF f v ((k, x) :: r) = (if k = f then (k, v) :: r else (k, x) :: putF f v r) from rfl]
    by_cases hk : k = f
    · rw [if_pos hk]
      by_cases h : g = k
      · have hb : (g == k) = true := beq_iff_eq.mpr h
        simp only [List.lookup, hb, if_pos (h.trans hk)]
      · have hb : (g == k) = false := beq_eq_false_iff_ne.mpr h
        simp only [List.lookup, hb, if_neg (fun e : g = f => h (e.trans hk.symm))]
    · rw [if_neg hk]
      by_cases h : g = k
      · have hb : (g == k) = true := beq_iff_eq.mpr h
        simp only [List.lookup, hb, if_neg (fun e : g = f => hk (h.symm.trans e))]
      · have hb : (g == k) = false := beq_eq_false_iff_ne.mpr h
        simp only [List.lookup, hb]
        exact ih
theorem keys_putF (f : Str) (v : V) : ∀ fs : List (Str × V), f ∈ (putF f v fs).map (·.1) ∧ ∀ g, g ∈ fs.map (·.1) → g ∈ (putF f v fs).map (·.1)
  | [] => ⟨by simp [putF], fun g h => by simp at h⟩
  | (k, x) :: r => by
    obtain ⟨i1, i2⟩ := keys_putF f v r
    rw [show putF f v ((k, x) :: r) = (if k = f then (k, v) :: r else (k, x) :: putF f v r) from rfl]
    by_cases hk : k = f
    · rw [if_pos hk]
      subst hk
      exact ⟨by simp, fun g h => by simpa using h⟩
    · rw [if_neg hk]
      refine ⟨?_, fun g h => ?_⟩
      · rw [List.map_cons]
        exact List.mem_cons_of_mem _ i1
      · rw [List.map_cons] at h ⊢
        rcases List.mem_cons.mp h with e | e
        · exact List.mem_cons.mpr (.inl e)
        · exact List.mem_cons_of_mem _ (i2 g e)
theorem length_putF (f : Str) (v : V) : ∀ fs : List (Str × V), (putF f v fs).length ≤ fs.length + 1
  | [] => by simp [putF]
  | (k, x) :: r => by
    have ih := length_putF f v r
    rw [show putF f v ((k, x) :: r) = (if k = f then (k, v) :: r else (k, x) :: putF f v r) from rfl]
    by_cases hk : k = f
    · rw [if_pos hk, List.length_cons, List.length_cons]; omega
    · rw [if_neg hk, List.length_cons, List.length_cons]; omega

theorem RelO.some_of {v : V} {o : Option Value} (r : RelO (some v) o) : ∃ u, o = some u ∧ RelV v u := by
  cases o with
  | none => exact (show False from r).elim
  | some u => exact ⟨u, rfl, r⟩
theorem RelO.none_of {o : Option Value} (r : RelO none o) : o = none := by
  cases o with
  | none => rfl
  | some u => exact (show False from r).elim
theorem handed_of {v : V} {u : Value} (r : RelV v u) : PySem.W.handedIn u = true := by
  cases v with
  | non => cases (show u = Value.none from r); rfl
  | bl b => cases (show u = Value.bool b from r); rfl
  | int i => obtain ⟨t, e⟩ := (show ∃ t, u = Value.int i t from r); cases e; rfl
  | str x => obtain ⟨t, e⟩ := (show ∃ t, u = Value.str x t from r); cases e; rfl
  | byt b => obtain ⟨t, e⟩ := (show ∃ t, u = Value.bytes b t from r); cases e; rfl
  | flt b => obtain ⟨t, e⟩ := (show ∃ t, u = Value.float b t from r); cases e; rfl
  | ref a => cases (show u = Value.ref a from r); rfl
  | ty n => cases (show u = Value.type n from r); rfl

section
variable {P : Program} {w : World} {H H' : Hp} {h h' : Heap} {a C dx : Addr} {fs fs' : List (Str × V)}
theorem ins_get (hok : HOk P w H h) (e : H a = some (.ins C dx fs)) : ∃ mA, ObjM h a dx C mA ∧ (∀ f, RelO (fs.lookup f) (mA f)) ∧ PySem.Within mA (fs.map (·.1)) ∧ fs.length ≤ 1000 ∧ H dx = some (.own a) := by
  obtain ⟨d, z, ne, ob, mA, n, r, q⟩ := (show ObjOk P w H h a (.ins C dx fs) from hok a _ e)
  exact ⟨mA, ⟨ob, n, ne⟩, r, q, z, d⟩
end

/-! ### what of the text a class must have -/
structure Cls (K : PySem.W.Frag) (C : Addr) : Prop where
  pg : PySem.W.plainGet K C Str.empty = true
  hd : PySem.W.hasDictIn K C = true
  po : PySem.W.plainOver K C = true
  sa : PySem.W.findIn K (.ref C) "__setattr__" = some (some (.builtin "object.__setattr__"))
theorem Cls.get {K : PySem.W.Frag} {C : Addr} (c : Cls K C) (f : Str) : PySem.W.plainGet K C f = true := c.pg
/-- no class of it has the name -/
def NoAttr (K : PySem.W.Frag) (C : Addr) (f : Str) : Prop := PySem.W.findIn K (.ref C) f = some none
theorem NoAttr.taker {K : PySem.W.Frag} {C : Addr} {f : Str} (n : NoAttr K C f) : PySem.W.takerIn K C f = some none := by
  unfold PySem.W.takerIn
  rw [show PySem.W.findIn K (.ref C) f = some none from n]
  rfl
/-- a constant of the class -/
structure Con (K : PySem.W.Frag) (C : Addr) (f : Str) (v : V) (u : Value) : Prop where
  at_ : PySem.W.findIn K (.ref C) f = some (some u)
  rel : RelV v u
  get : PySem.W.specialIn K u "__get__" = some none
  cp : PySem.W.copiedNames.contains f = false
/-- a method: a plain def of the class or of one above it -/
structure Meth (K : PySem.W.Frag) (C : Addr) (m : Str) (f : Addr) : Prop where
  at_ : PySem.W.findIn K (.ref C) m = some (some (.ref f))
  fn : PySem.W.isFn K (.ref f) = true
  kp : PySem.W.keepIn K (.ref f) = true

section
variable {X : Cx} {pins : List (Addr × Obj)} {σ : St} {H : Hp} {s : Shared} {a C dx : Addr} {fs : List (Str × V)} {f : Str} {v : V} {A : Around} {E : Value → Shared → Prop}

theorem getattr_ok {b : Bool} {Q : Value → Shared → Prop} (I : Inv X pins σ H s) (e : H a = some (.ins C dx fs)) (c : Cls X.K C) (n : NoAttr X.K C f) (l : fs.lookup f = some v)
    (h : ∀ u s', Inv X pins σ H s' → RelV v u → Q u s') : wpAny (model X.prog X.w) A (getAttr (.ref a) f b) Q E s := by
  obtain ⟨mA, O, r, _, _, _⟩ := ins_get I.hok e
  obtain ⟨u, hu, ru⟩ := RelO.some_of (v := v) (o := mA f) (by rw [← l]; exact r f)
  exact get_map I.kIn O (c.get f) c.hd n hu (handed_of ru) (h u _ (I.tok _) ru)

theorem getcon_ok {b : Bool} {u : Value} {Q : Value → Shared → Prop} (I : Inv X pins σ H s) (e : H a = some (.ins C dx fs)) (c : Cls X.K C) (k : Con X.K C f v u) (l : fs.lookup f = none)
    (h : ∀ s', Inv X pins σ H s' → Q u s') : wpAny (model X.prog X.w) A (getAttr (.ref a) f b) Q E s := by
  obtain ⟨mA, O, r, _, _, _⟩ := ins_get I.hok e
  have hn : mA f = none := RelO.none_of (by rw [← l]; exact r f)
  exact get_const I.kIn O (c.get f) c.hd k.at_ k.get k.cp hn (handed_of k.rel) (h _ (I.tok _))

theorem getmeth_ok {m : Str} {g : Addr} {pl : Sem Bool} {Q : Value × List Value → Shared → Prop} (I : Inv X pins σ H s) (e : H a = some (.ins C dx fs)) (c : Cls X.K C) (k : Meth X.K C m g) (l : fs.lookup m = none)
    (h : Q (.ref g, [.ref a]) s) : wpAny (model X.prog X.w) A (getMethod (.ref a) m pl) Q E s := by
  obtain ⟨mA, O, r, _, _, _⟩ := ins_get I.hok e
  have hn : mA m = none := RelO.none_of (by rw [← l]; exact r m)
  exact get_meth I.kIn O (c.get m) k.at_ k.fn hn h

theorem setattr_ok {y : V} {u : Value} {Q : Unit → Shared → Prop} (I : Inv X pins σ H s) (e : H a = some (.ins C dx fs)) (c : Cls X.K C) (n : NoAttr X.K C f) (hl : fs.length < 1000) (ry : RelV y u)
    (h : ∀ s', Inv X pins σ (upd H a (.ins C dx (putF f y fs))) s' → Q () s') : wpAny (model X.prog X.w) A (setAttr (.ref a) f u) Q E s := by
  obtain ⟨mA, O, r, wi, _, ho⟩ := ins_get I.hok e
  have hz : (fs.map (·.1)).length ≤ sizeLine := by rw [List.length_map, sizeLine_eq]; omega
  refine set_map I.kIn O c.sa c.po n.taker c.hd wi hz fun h' O' sb => h _ ?_
  have hd : ∃ o, h'.get? dx = some o := let ⟨o, _, _, e', _⟩ := O'.ns; ⟨o, e'⟩
  refine I.write (x := a) (e := dx) (by rw [e]; exact True.intro) (.inr ho) (fun b q hb z => (sb.2 b hb).trans z) hd ?_
  refine ⟨by rw [upd_ne O.ne]; exact ho, ?_, O.ne, O'.obj, _, O'.ns, fun g => ?_, fun g hg => ?_⟩
  · have := length_putF f y fs; omega
  · show RelO ((putF f y fs).lookup g) (if g = f then some u else mA g)
    rw [lookup_putF]
    by_cases q : g = f
    · rw [if_pos q, if_pos q]; exact ry
    · rw [if_neg q, if_neg q]; exact r g
  · by_cases q : g = f
    · rw [q]; exact (keys_putF f y fs).1
    · refine (keys_putF f y fs).2 g (wi g fun z => hg ?_)
      show (if g = f then some u else mA g) = none
      rw [if_neg q]; exact z

/-- a new instance, tracked, without attributes -/
theorem Inv.made (I : Inv X pins σ H s) : Inv X pins σ (upd (upd H s.heap.objs.size (.own (s.heap.objs.size + 1))) (s.heap.objs.size + 1) (.ins C s.heap.objs.size []))
    { s with heap := (s.heap.push PySem.W.emptyDict).push (PySem.W.instObj C s.heap.objs.size) } := by
  have e1 : (s.heap.push PySem.W.emptyDict).get? s.heap.objs.size = some PySem.W.emptyDict := Heap.get?_push_size s.heap rfl
  have e2 : ((s.heap.push PySem.W.emptyDict).push (PySem.W.instObj C s.heap.objs.size)).get? (s.heap.objs.size + 1) = some (PySem.W.instObj C s.heap.objs.size) := by
    have := Heap.get?_push_size (s.heap.push PySem.W.emptyDict) (o := PySem.W.instObj C s.heap.objs.size) rfl
    rwa [Heap.size_push] at this
  have e3 : (s.heap.push PySem.W.emptyDict).Ns s.heap.objs.size (fun _ => none) := ⟨PySem.W.emptyDict, #[], _, e1, rfl, (fun e he => absurd he (by simp)), fun _ => rfl⟩
  have I1 := I.laid (a := s.heap.objs.size) (o := .own (s.heap.objs.size + 1)) (h' := s.heap.push PySem.W.emptyDict) (t' := s.toks) (fun b u q => Heap.get?_push_of_some _ q) (Nat.le_refl _) ⟨_, e1⟩
  refine I1.laid (a := s.heap.objs.size + 1) (o := .ins C s.heap.objs.size []) (t' := s.toks) (fun b u q => Heap.get?_push_of_some _ q) (Nat.le_of_eq (Heap.size_push _ _)) ?_
  have ne : s.heap.objs.size ≠ s.heap.objs.size + 1 := Nat.ne_of_lt (Nat.lt_succ_self _)
  refine ⟨by rw [upd_ne ne, upd_same], Nat.zero_le _, ne, e2, fun _ => none, (Heap.Ns1.of_empty e3).at fun o q => Heap.get?_push_of_some _ q, fun _ => True.intro, fun y hy => absurd rfl hy⟩

/-- e.f where nothing but the object is asked: through attributeBase (super) and the last hold -/
theorem attr_of {prog : Program} {w : World} {env : Env} {e : Expr} {f : Str} {pos : Pos} {s : Shared} {Q : Value → Shared → Prop} (hb : attributeBase e f env (eval e env) = eval e env)
    (h : wpAny (model prog w) A (eval e env) (fun o s₁ => wpAny (model prog w) A (getAttr o f true) Q E s₁) E s) : wpAny (model prog w) A (eval (.Attribute e f pos) env) Q E s :=
  Attribute_any_ h (by rw [arm_eval_Attribute, hb])
end

/-! ### readings and rules -/
/-- e.f, an attribute of the instance -/
def tFld (K : PySem.W.Frag) (ta : TE) (f : Str) : TE := fun σ H Q => ta σ H fun x H1 => ∃ a C dx fs v, x = .ref a ∧ H1 a = some (.ins C dx fs) ∧ Cls K C ∧ NoAttr K C f ∧ fs.lookup f = some v ∧ Q v H1
/-- e.f, a constant of the class -/
def tCon (K : PySem.W.Frag) (ta : TE) (f : Str) : TE := fun σ H Q => ta σ H fun x H1 => ∃ a C dx fs v u, x = .ref a ∧ H1 a = some (.ins C dx fs) ∧ Cls K C ∧ Con K C f v u ∧ fs.lookup f = none ∧ Q v H1
/-- e.f = value -/
def sFld (K : PySem.W.Frag) (ta tv : TE) (f : Str) : TS := fun D σ H => tv σ H fun y H1 => ta σ H1 fun x H2 => ∃ a C dx fs, x = .ref a ∧ H2 a = some (.ins C dx fs) ∧ Cls K C ∧ NoAttr K C f ∧ fs.length < 1000 ∧
  D.nx σ (upd H2 a (.ins C dx (putF f y fs)))
/-- an augmented operator on two values -/
def InOp (X : Cx) (op : Operator) (rd : V → V → Hp → VK → Prop) : Prop :=
  ∀ (pins : List (Addr × Obj)) (s : Shared) (σ : St) (H : Hp) (x y : V) (u v : Value) (Q : VK), Inv X pins σ H s → RelV x u → RelV y v → rd x y H Q → wpAny (model X.prog X.w) X.A (inplaceOp op u v) (EP X pins σ Q) X.xe s
/-- e.f op= value -/
def sFldAug (K : PySem.W.Frag) (ta tv : TE) (rd : V → V → Hp → VK → Prop) (f : Str) : TS := fun D σ H => ta σ H fun x H1 => ∃ a C dx fs v, x = .ref a ∧ H1 a = some (.ins C dx fs) ∧ Cls K C ∧ NoAttr K C f ∧ fs.lookup f = some v ∧
  tv σ H1 fun y H2 => rd v y H2 fun z H3 => ∃ dx' fs', H3 a = some (.ins C dx' fs') ∧ fs'.length < 1000 ∧ D.nx σ (upd H3 a (.ins C dx' (putF f z fs')))

section
variable {X : Cx} {o e value : Expr} {f : Str} {pos pos' tpos : Pos} {ta tv : TE}
theorem pe_fld (he : PE X e ta) (hb : attributeBase e f X.env (eval e X.env) = eval e X.env) : PE X (.Attribute e f pos) (tFld X.K ta f) := by
  intro pins s σ H Q I h
  refine attr_of hb (thn (he pins s σ H _ I h) fun u s1 ⟨x, H1, I1, rx, a, C, dx, fs, v, ex, ea, c, n, l, q⟩ => ?_)
  subst ex
  obtain rfl : u = Value.ref a := rx
  exact getattr_ok I1 ea c n l fun u' s2 I2 ru => ⟨v, H1, I2, ru, q⟩
theorem pe_con (he : PE X e ta) (hb : attributeBase e f X.env (eval e X.env) = eval e X.env) : PE X (.Attribute e f pos) (tCon X.K ta f) := by
  intro pins s σ H Q I h
  refine attr_of hb (thn (he pins s σ H _ I h) fun u s1 ⟨x, H1, I1, rx, a, C, dx, fs, v, u0, ex, ea, c, k, l, q⟩ => ?_)
  subst ex
  obtain rfl : u = Value.ref a := rx
  exact getcon_ok I1 ea c k l fun s2 I2 => ⟨v, H1, I2, k.rel, q⟩
theorem ps_fld (ha : PE X o ta) (hv : PE X value tv) (hs : swapsWith value (some (.Attribute o f pos')) pos.line X.env = pure false) : PS X (.Assign [.Attribute o f pos'] value pos) (sFld X.K ta tv f) := by
  intro pins s σ H D I h
  refine plainObj_wpAny_Assign_Attribute (thn (hv pins s σ H _ I h) fun u s1 ⟨y, H1, I1, ry, q⟩ => thn (ha pins s1 σ H1 _ I1 q) fun ov s2 ⟨x, H2, I2, rx, a, C, dx, fs, ex, ea, c, n, l, q2⟩ => ?_) hs
  subst ex
  obtain rfl : ov = Value.ref a := rx
  exact setattr_ok I2 ea c n l ry fun s3 I3 => ⟨σ, _, I3, q2⟩
theorem ps_fldaug {op : Operator} {rd : V → V → Hp → VK → Prop} (ha : PE X o ta) (hv : PE X value tv) (hop : InOp X op rd) : PS X (.AugAssign (.Attribute o f tpos) op value pos) (sFldAug X.K ta tv rd f) := by
  intro pins s σ H D I h
  refine wpAny_AugAssign_AttributeAny (thn (ha pins s σ H _ I h) fun ov s1 ⟨x, H1, I1, rx, a, C, dx, fs, v, ex, ea, c, n, l, q⟩ => ?_)
  subst ex
  obtain rfl : ov = Value.ref a := rx
  refine getattr_ok I1 ea c n l fun u s2 I2 ru => thn (hv pins s2 σ H1 _ I2 q) fun w3 s3 ⟨y, H2, I3, ry, q3⟩ => thn (hop pins s3 σ H2 v y u w3 _ I3 ru ry q3) fun w4 s4 ⟨z, H3, I4, rz, dx', fs', ea', l', q4⟩ => ?_
  exact setattr_ok I4 ea' c n l' rz fun s5 I5 => ⟨σ, _, I5, q4⟩
def rAdd : V → V → Hp → VK → Prop := fun x y H Q => ∃ i j, x = .int i ∧ y = .int j ∧ Q (.int (i + j)) H
def rSub : V → V → Hp → VK → Prop := fun x y H Q => ∃ i j, x = .int i ∧ y = .int j ∧ Q (.int (i - j)) H
theorem in_add : InOp X .Add rAdd := by
  rintro pins s σ H x y u v Q I rx ry ⟨i, j, rfl, rfl, q⟩
  obtain ⟨t, rfl⟩ := (show ∃ t, u = Value.int i t from rx)
  obtain ⟨t', rfl⟩ := (show ∃ t', v = Value.int j t' from ry)
  exact PyProof.Rows.iadd_int ⟨.int (i + j), H, I.tok _, ⟨_, rfl⟩, q⟩
theorem in_sub : InOp X .Sub rSub := by
  rintro pins s σ H x y u v Q I rx ry ⟨i, j, rfl, rfl, q⟩
  obtain ⟨t, rfl⟩ := (show ∃ t, u = Value.int i t from rx)
  obtain ⟨t', rfl⟩ := (show ∃ t', v = Value.int j t' from ry)
  exact PyProof.Rows.isub_int ⟨.int (i - j), H, I.tok _, ⟨_, rfl⟩, q⟩

/-- what is between an instance and its method: the tree of a method call -/
theorem methcall_of {pl : Sem Bool} {m : Str} {apos : Pos} {args : List Expr} {pins : List (Addr × Obj)} {s : Shared} {σ : St} {H : Hp} {Q : Value → Shared → Prop} {te : TE} (he : PE X e te) (I : Inv X pins σ H s)
    (h : te σ H fun x H1 => ∃ a C dx fs g, x = .ref a ∧ H1 a = some (.ins C dx fs) ∧ Cls X.K C ∧ Meth X.K C m g ∧ fs.lookup m = none ∧
      ∀ s1, Inv X pins σ H1 s1 → wpAny (model X.prog X.w) X.A (callWith pos (.ref g) [.ref a] (backTo pos (starEach args X.env)) (backToKw pos (keywordEach [] X.env))) Q X.xe s1)
    (ht : eval (.Call (.Attribute e m apos) args [] pos) X.env = (do
      let ov ← eval e X.env
      standAt apos.atName
      let (f, first) ← holding [ov] (getMethod ov m pl)
      callWith pos f first (backTo pos (starEach args X.env)) (backToKw pos (keywordEach [] X.env)))) :
    wpAny (model X.prog X.w) X.A (eval (.Call (.Attribute e m apos) args [] pos) X.env) Q X.xe s := by
  refine PySem.W.methodCall_KW (pl := pl) (thn (he pins s σ H _ I h) fun u s1 ⟨x, H1, I1, rx, a, C, dx, fs, g, ex, ea, c, k, l, q⟩ => ?_) ht
  subst ex
  obtain rfl : u = Value.ref a := rx
  exact getmeth_ok I1 ea c k l (q s1 I1)
end

/-! ### isinstance -/
section
variable {X : Cx} {pins : List (Addr × Obj)} {σ : St} {H : Hp} {s : Shared} {A : Around} {E : Value → Shared → Prop} {Q : Value → Shared → Prop} {c : Value} {b : Bool}
/-- the type of a value, as the fragment's deciders take it; for an instance its class -/
inductive TyOf (K : PySem.W.Frag) (H : Hp) : V → Value → Prop where
  | non : TyOf K H .non (.type "NoneType")
  | bl (x : Bool) : TyOf K H (.bl x) (.type "bool")
  | int (i : Int) : TyOf K H (.int i) (.type "int")
  | str (x : Str) : TyOf K H (.str x) (.type "str")
  | flt (x : UInt64) : TyOf K H (.flt x) (.type "float")
  | lst {a : Addr} {xs : List V} (e : H a = some (.lst xs)) : TyOf K H (.ref a) (.type "list")
  | frz {a : Addr} {o : Obj} {xs : List V} (e : H a = some (.frz o (.lst xs))) : TyOf K H (.ref a) (.type "list")
  | tup {a : Addr} {xs : List V} (e : H a = some (.tup xs)) : TyOf K H (.ref a) (.type "tuple")
  | dK {a : Addr} {kvs : List (Key × V)} (e : Rd H a (.dK kvs)) : TyOf K H (.ref a) (.type "dict")
  | dT {a : Addr} {kvs : List (List Key × V)} (e : Rd H a (.dT kvs)) : TyOf K H (.ref a) (.type "dict")
  | ins {a C dx : Addr} {fs : List (Str × V)} (e : H a = some (.ins C dx fs)) (cl : Cls K C) (ha : PySem.W.findIn K (.ref C) "__class__" = some (some (.builtin "object.__class__")))
      (hn : PySem.W.specialIn K (.builtin "object.__class__") "__get__" = some (some (.builtin "getset_descriptor.__get__"))) (htk : PySem.W.takesIn K (.builtin "object.__class__") = some true)
      (hm : PySem.W.mroIn K C (.type "object") = some true) : TyOf K H (.ref a) (.ref C)
/-- isinstance(x, c) for one class c, a built-in or an own one: kitOne's answer -/
theorem isinst_ok {x : V} {u t : Value} (I : Inv X pins σ H s) (rx : RelV x u) (ty : TyOf X.K H x t) (e : PySem.W.kitOne X.K t c = some b) (h : ∀ tk, Q (.bool b) { s with toks := tk }) :
    wpAny (model X.prog X.w) A (call (.builtin "isinstance") [u, c]) Q E s := by
  cases ty with
  | non => cases (show u = Value.none from rx); exact PySem.W.kia_one PySem.W.kitx_none I.kIn True.intro e (fun z => nomatch z) h
  | bl y => cases (show u = Value.bool y from rx); exact PySem.W.kia_one PySem.W.kitx_bool I.kIn True.intro e (fun z => nomatch z) h
  | int i => obtain ⟨t, q⟩ := (show ∃ t, u = Value.int i t from rx); cases q; exact PySem.W.kia_one PySem.W.kitx_int I.kIn True.intro e (fun z => nomatch z) h
  | str y => obtain ⟨t, q⟩ := (show ∃ t, u = Value.str y t from rx); cases q; exact PySem.W.kia_one PySem.W.kitx_str I.kIn True.intro e (fun z => nomatch z) h
  | flt y => obtain ⟨t, q⟩ := (show ∃ t, u = Value.float y t from rx); cases q; exact PySem.W.kia_one PySem.W.kitx_float I.kIn True.intro e (fun z => nomatch z) h
  | @lst a xs ea =>
    cases (show u = Value.ref a from rx)
    obtain ⟨_, _, n, _, h1⟩ := (show ObjOk X.prog X.w H s.heap a (.lst xs) from I.hok a _ ea)
    exact PySem.W.kia_one PySem.W.kitx_list I.kIn ⟨_, h1, rfl⟩ e (fun z => nomatch z) h
  | @frz a ob xs ea =>
    cases (show u = Value.ref a from rx)
    obtain ⟨_, _, _, n, _, h1⟩ := (show ObjOk X.prog X.w H s.heap a (.frz ob (.lst xs)) from I.hok a _ ea)
    exact PySem.W.kia_one PySem.W.kitx_list I.kIn ⟨_, h1, rfl⟩ e (fun z => nomatch z) h
  | @tup a xs ea =>
    cases (show u = Value.ref a from rx)
    obtain ⟨_, _, _, p⟩ := (show ObjOk X.prog X.w H s.heap a (.tup xs) from I.hok a _ ea)
    obtain ⟨o, h1, h2, _⟩ := p
    exact PySem.W.kia_one PySem.W.kitx_tuple I.kIn ⟨o, h1, h2⟩ e (fun z => nomatch z) h
  | @dK a kvs ea =>
    cases (show u = Value.ref a from rx)
    obtain ⟨_, _, vs, _, p⟩ := (show ObjOk X.prog X.w H s.heap a (.dK kvs) from ea.ok I.hok)
    obtain ⟨o, es, ep, h1, h2, _⟩ := p
    exact PySem.W.kia_one PySem.W.kitx_dict I.kIn ⟨o, h1, h2.1⟩ e (fun z => nomatch z) h
  | @dT a kvs ea =>
    cases (show u = Value.ref a from rx)
    obtain ⟨_, _, xs, _, o, es, ep, h1, h2, _⟩ := (show ObjOk X.prog X.w H s.heap a (.dT kvs) from ea.ok I.hok)
    exact PySem.W.kia_one PySem.W.kitx_dict I.kIn ⟨o, h1, h2.1⟩ e (fun z => nomatch z) h
  | @ins a C dx fs ea cl ha hn htk hm =>
    cases (show u = Value.ref a from rx)
    obtain ⟨mA, O, _⟩ := ins_get I.hok ea
    obtain ⟨od, J, _⟩ := O.look
    exact PySem.W.kia_one (PySem.W.kitx_own (cl.get _) cl.hd ha hn htk hm) I.kIn J e (fun z => nomatch z) h
end
end L2

namespace L2
open PySem PySem.Spec PyProof.Rows

/-! ### room -/
structure Room (k : Nat) (A : Around) : Prop where
  hd : A.handled = none
  dp : A.depth + 3 * k + 5 < recursionLimit
  un : A.units + 16 * k + 200 < cLine
theorem Room.mono {j k : Nat} {A : Around} (r : Room k A) (h : j ≤ k) : Room j A := ⟨r.hd, by have := r.dp; omega, by have := r.un; omega⟩
theorem Room.deeper {k : Nat} {A : Around} (r : Room (k + 1) A) (env : Env) : Room k (A.deeper env) :=
  ⟨r.hd, by have := r.dp; show A.depth + 1 + 3 * k + 5 < _; omega, by have := r.un; show A.units + 3 + 16 * k + 200 < _; omega⟩
theorem Room.in1 {k : Nat} {A : Around} (r : Room (k + 1) A) : Room k A.in1 :=
  ⟨r.hd, by have := r.dp; show A.depth + 3 * k + 5 < _; omega, by have := r.un; show A.units + 1 + 16 * k + 200 < _; omega⟩
theorem make_depth {A : Around} {C : Addr} {us : List Value} {kw : List (Str × Value)} : (A.under (.builtin "type.__call__" ⟨.ref C :: us, kw⟩)).depth = A.depth + 1 := by
  first | rfl | simp [Around.under, Code.weight, Code.isCreation, Code.isGuard, Code.isCaller, Code.frames, Code.isFrame, guardIds]
theorem make_units {A : Around} {C : Addr} {us : List Value} {kw : List (Str × Value)} : (A.under (.builtin "type.__call__" ⟨.ref C :: us, kw⟩)).units = A.units + 1 := by
  first | rfl | simp [Around.under, Code.cUnits, Code.frames, Code.isFrame]
theorem Room.make {k : Nat} {A : Around} (r : Room (k + 1) A) (C : Addr) (us : List Value) (kw : List (Str × Value)) : Room k (A.under (.builtin "type.__call__" ⟨.ref C :: us, kw⟩)) :=
  ⟨r.hd, by have := r.dp; rw [make_depth]; omega, by have := r.un; rw [make_units]; omega⟩
theorem Room.depth {k : Nat} {A : Around} (r : Room k A) : A.depth < recursionLimit := by have := r.dp; omega
theorem Room.units {k : Nat} {A : Around} (r : Room k A) : A.units + 64 < cLine := by have := r.un; omega
theorem Room.units0 {k : Nat} {A : Around} (r : Room k A) : A.units < cLine := by have := r.un; omega

/-! ### argument lists and displays -/
def tNil : TA := fun _ H Q => Q [] H
def tCons (ta : TE) (tr : TA) : TA := fun σ H Q => ta σ H fun x H1 => tr σ H1 fun xs H2 => Q (x :: xs) H2
section
variable {X : Cx} {e : Expr} {es : List Expr} {te : TE} {t : TA} {pos : Pos}
theorem pa_nil : PA X [] tNil := fun _ _ _ _ H Q I h => Calls.spliced_nil ⟨[], H, I, .nil, h⟩
theorem pa_cons (ha : PE X e te) (hr : PA X es t) (hs : starEach (e :: es) X.env = (false, eval e X.env) :: starEach es X.env := by rfl) : PA X (e :: es) (tCons te t) := by
  intro pos pins s σ H Q I h
  rw [hs]
  show wpAny _ _ (spliced ((false, eval e X.env) :: backTo pos (starEach es X.env))) _ _ s
  refine Calls.spliced_cons (thn (ha pins s σ H _ I h) fun u s1 ⟨x, H1, I1, r1, q1⟩ => ?_)
  exact thn (hr pos pins s1 σ H1 _ I1 q1) fun us s2 ⟨xs, H2, I2, r2, q2⟩ => ⟨x :: xs, H2, I2, .cons r1 r2, q2⟩

/-- a tuple, a list of written items -/
def tTup (t : TA) : TE := fun σ H Q => t σ H fun xs H1 => xs.length ≤ sizeLine ∧ ∀ p, H1 p = none → Q (.ref p) (upd H1 p (.tup xs))
def tLst (t : TA) : TE := fun σ H Q => t σ H fun xs H1 => xs.length ≤ sizeLine ∧ ∀ p, H1 p = none → Q (.ref p) (upd H1 p (.lst xs))
theorem pe_tup {x1} (h : PA X es t) : PE X (.Tuple es x1 pos) (tTup t) := by
  intro pins s σ H Q I hq
  refine wpAny_Tuple_spliced (thn (h pos pins s σ H _ I hq) fun us s1 ⟨xs, H1, I1, r, z, q⟩ => ⟨by rw [← r.length]; exact z, ?_⟩)
  have hf : H1 s1.heap.objs.size = none := I1.hok.fresh (Nat.le_refl _)
  refine ⟨.ref s1.heap.objs.size, upd H1 s1.heap.objs.size (.tup xs), I1.laid (t' := s1.toks) (fun b u e => Heap.get?_push_of_some _ e) (Nat.le_refl _) ?_, rfl, q _ hf⟩
  exact ⟨z, us, r, ⟨_, Heap.get?_push_size _ rfl, rfl, _, rfl⟩⟩
theorem pe_lst (h : PA X es t) : PE X (.List es pos) (tLst t) := by
  intro pins s σ H Q I hq
  refine wpAny_List_spliced (thn (h pos pins s σ H _ I hq) fun us s1 ⟨xs, H1, I1, r, z, q⟩ => ⟨by rw [← r.length]; exact z, ?_⟩)
  have hf : H1 s1.heap.objs.size = none := I1.hok.fresh (Nat.le_refl _)
  refine ⟨.ref s1.heap.objs.size, upd H1 s1.heap.objs.size (.lst xs), I1.laid (t' := s1.toks) (fun b u e => Heap.get?_push_of_some _ e) (Nat.le_refl _) ?_, rfl, q _ hf⟩
  exact ⟨z, us, 0, r, Heap.get?_push_size _ rfl⟩
end

/-! ### what a def promises -/
/-- a def's promise: the bound arguments in the parameters' order, the heap, the wanted end, the wanted exception -/
abbrev Sp := List V → Hp → VK → XK → Prop
/-- how an exception lies behind a call (file 08 gives it): the callers' frames, abstract heap and state ahead of the call, the wish, the exception, the state -/
abbrev CXT := List Env → Hp → Shared → XK → Value → Shared → Prop

/-- the state at a call -/
structure Env0 (P : Program) (w : World) (K : PySem.W.Frag) (mg : Str → Option Value) (base : Heap) (A : Around) (outer : List Env) (s : Shared) (H : Hp) : Prop where
  frames : A.frames = some outer
  mod : Mod K mg base
  bs : ∀ b o, base.get? b = some o → s.heap.get? b = some o ∧ H b = none
  bsz : base.objs.size ≤ s.heap.objs.size
  funs : s.heap.FunFrames base outer
  frf : ∀ b ∈ frs outer, H b = none
  hok : HOk P w H s.heap
  bare : AllBare s.gens
/-- a call's end -/
def CE (outer : List Env) (P : Program) (w : World) (H : Hp) (s : Shared) (Q : VK) (u : Value) (s' : Shared) : Prop :=
  ∃ v H', s'.os = s.os ∧ AllBare s'.gens ∧ Un (frs outer) [] H H' s.heap s'.heap ∧ HOk P w H' s'.heap ∧ RelV v u ∧ Q v H'
def CR (CX : CXT) (outer : List Env) (P : Program) (w : World) (H : Hp) (s : Shared) (Q : VK) (E : XK) (r : Result) (s' : Shared) : Prop :=
  match r with
  | .ok (.ret u) => CE outer P w H s Q u s'
  | .ok _ => False
  | .error e => CX outer H s E e s'
structure FnOk (P : Program) (w : World) (K : PySem.W.Frag) (mg : Str → Option Value) (base : Heap) (CX : CXT) (k : Nat) (f : Addr) (fd : FuncData) (ps : List Str) (sp : Sp) : Prop where
  len : ∀ vs H Q E, sp vs H Q E → vs.length = ps.length
  run : ∀ (A : Around) (outer : List Env) (s : Shared) (H : Hp) (args : Args) (us : List Value) (vs : List V) (Q : VK) (E : XK), Room k A → Env0 P w K mg base A outer s H → BindsTo s fd args (ps.zip us) → Vals vs us → sp vs H Q E →
    codeAny (model P w) A (.call (.ref f) args) (CR CX outer P w H s Q E) s
theorem FnOk.mono {P : Program} {w : World} {K : PySem.W.Frag} {mg : Str → Option Value} {base : Heap} {CX : CXT} {j k : Nat} {f : Addr} {fd : FuncData} {ps : List Str} {sp : Sp} (F : FnOk P w K mg base CX j f fd ps sp) (h : j ≤ k) :
    FnOk P w K mg base CX k f fd ps sp := ⟨F.len, fun A outer s H args us vs Q E hr => F.run A outer s H args us vs Q E (hr.mono h)⟩
/-- a weaker promise -/
theorem FnOk.imp {P : Program} {w : World} {K : PySem.W.Frag} {mg : Str → Option Value} {base : Heap} {CX : CXT} {k : Nat} {f : Addr} {fd : FuncData} {ps : List Str} {sp sp' : Sp} (F : FnOk P w K mg base CX k f fd ps sp)
    (h : ∀ vs H Q E, sp' vs H Q E → sp vs H Q E) : FnOk P w K mg base CX k f fd ps sp' :=
  ⟨fun vs H Q E q => F.len vs H Q E (h _ _ _ _ q), fun A outer s H args us vs Q E hr he hb hv hs => F.run A outer s H args us vs Q E hr he hb hv (h _ _ _ _ hs)⟩

theorem Env0.make {P : Program} {w : World} {K : PySem.W.Frag} {mg : Str → Option Value} {base : Heap} {A : Around} {outer : List Env} {s : Shared} {H : Hp} (e : Env0 P w K mg base A outer s H) (C : Addr) (us : List Value) (kw : List (Str × Value)) :
    Env0 P w K mg base (A.under (.builtin "type.__call__" ⟨.ref C :: us, kw⟩)) outer s H := ⟨by first | exact e.frames | (simpa [Around.under, Code.envs, Code.isFrame, pushEnvs] using e.frames), e.mod, e.bs, e.bsz, e.funs, e.frf, e.hok, e.bare⟩
theorem Env0.in1 {P : Program} {w : World} {K : PySem.W.Frag} {mg : Str → Option Value} {base : Heap} {A : Around} {outer : List Env} {s : Shared} {H : Hp} (e : Env0 P w K mg base A outer s H) :
    Env0 P w K mg base A.in1 outer s H := ⟨e.frames, e.mod, e.bs, e.bsz, e.funs, e.frf, e.hok, e.bare⟩

section
variable {X : Cx} {pins : List (Addr × Obj)} {σ : St} {H : Hp} {s s' : Shared}
/-- from a body: what a callee wants -/
theorem Inv.env0 (I : Inv X pins σ H s) : Env0 X.prog X.w X.K X.mg X.base X.A X.stack s H :=
  ⟨I.ok.frames, I.ok.mod, I.bs, Nat.le_trans I.ok.bsz I.sz, I.stack, I.stkFree, I.hok, I.bare⟩
/-- behind a call -/
theorem Inv.after {Q : VK} {u : Value} (I : Inv X pins σ H s) (h : CE X.stack X.prog X.w H s Q u s') : EP X pins σ Q u s' := by
  obtain ⟨v, H', os, bare, un, hok, r, q⟩ := h
  obtain ⟨hh, g, d, t, os'⟩ := s'
  obtain rfl : os' = s.os := os
  exact ⟨v, H', I.call (h' := hh) (g' := g) (d' := d) (t' := t) (ch := []) un hok bare (fun b z => absurd z (by simp)), r, q⟩
end

/-! ### calls -/
/-- f(..): the written arguments, then the defaults dvs; E: what is wanted of an exception -/
def tCall (sp : Sp) (dvs : List V) (E : XK) (t : TA) : TE := fun σ H Q => t σ H fun vs H1 => sp (vs ++ dvs) H1 Q E
/-- o.m(..) of an instance of the class at C -/
def tMeth (C : Addr) (m : Str) (sp : Sp) (dvs : List V) (E : XK) (ta : TE) (t : TA) : TE := fun σ H Q => ta σ H fun x H1 => ∃ a dx fs, x = .ref a ∧ H1 a = some (.ins C dx fs) ∧ fs.lookup m = none ∧
  t σ H1 fun vs H2 => sp (x :: (vs ++ dvs)) H2 Q E
/-- C(..): a new instance and its dict, then __init__ -/
def tMake (C : Addr) (sp : Sp) (dvs : List V) (E : XK) (t : TA) : TE := fun σ H Q => t σ H fun vs H1 => ∀ x dx, H1 x = none → H1 dx = none → dx ≠ x →
  sp (.ref x :: (vs ++ dvs)) (upd (upd H1 dx (.own x)) x (.ins C dx [])) (fun v H2 => v = .non ∧ Q (.ref x) H2) E

/-- how the parameters are bound: us the positional arguments, kw the keywords' values by name, ds the defaults that fill up -/
def Binds (K : PySem.W.Frag) (fd : FuncData) (ps : List Str) (ds : List Value) : Prop :=
  ∀ (s : Shared) (us : List Value), K.In s.heap → (us ++ ds).length = ps.length → BindsTo s fd ⟨us, []⟩ (ps.zip (us ++ ds))
/-- every parameter is given -/
theorem Binds.all {K : PySem.W.Frag} {fd : FuncData} {ps : List Str} (h : ∀ us : List Value, us.length = ps.length → bindArgs fd ⟨us, []⟩ = pure (ps.zip us)) : Binds K fd ps [] := fun s us _ hl => by
  rw [List.append_nil] at hl ⊢
  exact .of_eq (h us hl)

/-- an exception of a callee reaches what this body wants of exceptions -/
def Passes (CX : CXT) (X : Cx) (E : XK) : Prop := ∀ (pins : List (Addr × Obj)) (σ : St) (H : Hp) (s : Shared) (e : Value) (s' : Shared), Inv X pins σ H s → CX X.stack H s E e s' → X.xe e s'

section
variable {X : Cx} {CX : CXT} {k : Nat} {f C : Addr} {fd : FuncData} {ps : List Str} {sp : Sp} {dvs : List V} {ds : List Value} {E : XK} {x m : Str} {p pos apos : Pos} {e o : Expr} {es : List Expr} {ta : TE} {t : TA}

/-- the callee runs -/
theorem run_fn {pins : List (Addr × Obj)} {σ : St} {H : Hp} {s : Shared} {Q : VK} {us : List Value} {vs : List V} (F : FnOk X.prog X.w X.K X.mg X.base CX k f fd ps sp) (hr : Room k X.A) (hb : Binds X.K fd ps ds) (hd : Vals dvs ds) (hx : Passes CX X E)
    (I : Inv X pins σ H s) (r : Vals vs us) (h : sp (vs ++ dvs) H Q E) : wpAny (model X.prog X.w) X.A (call (.ref f) us) (EP X pins σ Q) X.xe s := by
  have r2 : Vals (vs ++ dvs) (us ++ ds) := r.append hd
  have hl : (us ++ ds).length = ps.length := by rw [← r2.length]; exact F.len _ _ _ _ h
  refine wpAny_call (codeAny_mono (F.run X.A X.stack s H ⟨us, []⟩ (us ++ ds) (vs ++ dvs) Q E hr I.env0 (hb s us I.kIn hl) r2 h) fun r s' hq => ?_)
  cases r with
  | error e => exact hx pins σ H s e s' I hq
  | ok fl =>
    cases fl with
    | ret u => exact I.after hq
    | next => exact False.elim hq
    | brk => exact False.elim hq
    | cont => exact False.elim hq

theorem pe_call (F : FnOk X.prog X.w X.K X.mg X.base CX k f fd ps sp) (hr : Room k X.A) (hg : Gl X x) (hm : X.mg x = some (.ref f)) (hk : PySem.W.keepIn X.K (.ref f) = true) (hb : Binds X.K fd ps ds) (hd : Vals dvs ds) (hx : Passes CX X E)
    (ha : PA X (e :: es) t) (hdb : (x == ("__debug__" : Str)) = false := by decide) (he : starEach (e :: es) X.env = (false, eval e X.env) :: starEach es X.env := by rfl) (hpl : (backTo pos (starEach es X.env)).any (·.1) = false := by rfl) :
    PE X (.Call (.Name x p) (e :: es) [] pos) (tCall sp dvs E t) := by
  intro pins s σ H Q I h
  refine wpAny_Call_Name_kw (ld_glob I hg hm ?_ hdb)
  refine PySem.W.callWith_K (h₀ := X.base) I.ok.mod.kin hk (thn (ha pos pins s σ H _ I h) fun us s1 ⟨vs, H1, I1, r, q⟩ => ⟨I1.kIn, ?_⟩) he hpl
  exact run_fn F hr hb hd hx I1 r q
theorem pe_call0 (F : FnOk X.prog X.w X.K X.mg X.base CX k f fd ps sp) (hr : Room k X.A) (hg : Gl X x) (hm : X.mg x = some (.ref f)) (hk : PySem.W.keepIn X.K (.ref f) = true) (hb : Binds X.K fd ps ds) (hd : Vals dvs ds) (hx : Passes CX X E)
    (hdb : (x == ("__debug__" : Str)) = false := by decide) : PE X (.Call (.Name x p) [] [] pos) (tCall sp dvs E tNil) := by
  intro pins s σ H Q I h
  refine wpAny_Call_Name_kw (ld_glob I hg hm ?_ hdb)
  exact PySem.W.callWith_K0 I.kIn hk (run_fn (us := []) F hr hb hd hx I .nil h)

/-- o.m(e, ..) -/
theorem pe_meth {pl : Sem Bool} (he : PE X o ta) (c : Cls X.K C) (hm : Meth X.K C m f) (F : FnOk X.prog X.w X.K X.mg X.base CX k f fd ps sp) (hr : Room k X.A) (hb : Binds X.K fd ps ds) (hd : Vals dvs ds) (hx : Passes CX X E) (ha : PA X (e :: es) t)
    (hst : starEach (e :: es) X.env = (false, eval e X.env) :: starEach es X.env := by rfl) (hpl : (backTo pos (starEach es X.env)).any (·.1) = false := by rfl)
    (ht : eval (.Call (.Attribute o m apos) (e :: es) [] pos) X.env = (do
      let ov ← eval o X.env
      standAt apos.atName
      let (f, first) ← holding [ov] (getMethod ov m pl)
      callWith pos f first (backTo pos (starEach (e :: es) X.env)) (backToKw pos (keywordEach [] X.env))) := by rfl) :
    PE X (.Call (.Attribute o m apos) (e :: es) [] pos) (tMeth C m sp dvs E ta t) := by
  intro pins s σ H Q I h
  refine PySem.W.methodCall_KW (pl := pl) (thn (he pins s σ H _ I h) fun u s1 ⟨x, H1, I1, rx, a, dx, fs, ex, ea, l, q⟩ => ?_) ht
  subst ex
  obtain rfl : u = Value.ref a := rx
  refine getmeth_ok I1 ea c hm l ?_
  refine PySem.W.callWith_K (first := [.ref a]) (h₀ := X.base) I.ok.mod.kin hm.kp (thn (ha pos pins s1 σ H1 _ I1 q) fun us s2 ⟨vs, H2, I2, r, q2⟩ => ⟨I2.kIn, ?_⟩) hst hpl
  exact run_fn (us := .ref a :: us) (vs := .ref a :: vs) F hr hb hd hx I2 (.cons rfl r) q2
/-- o.m() -/
theorem pe_meth0 {pl : Sem Bool} (he : PE X o ta) (c : Cls X.K C) (hm : Meth X.K C m f) (F : FnOk X.prog X.w X.K X.mg X.base CX k f fd ps sp) (hr : Room k X.A) (hb : Binds X.K fd ps ds) (hd : Vals dvs ds) (hx : Passes CX X E)
    (ht : eval (.Call (.Attribute o m apos) [] [] pos) X.env = (do
      let ov ← eval o X.env
      standAt apos.atName
      let (f, first) ← holding [ov] (getMethod ov m pl)
      callWith pos f first (backTo pos (starEach [] X.env)) (backToKw pos (keywordEach [] X.env))) := by rfl) :
    PE X (.Call (.Attribute o m apos) [] [] pos) (tMeth C m sp dvs E ta tNil) := by
  intro pins s σ H Q I h
  refine PySem.W.methodCall_KW (pl := pl) (thn (he pins s σ H _ I h) fun u s1 ⟨x, H1, I1, rx, a, dx, fs, ex, ea, l, q⟩ => ?_) ht
  subst ex
  obtain rfl : u = Value.ref a := rx
  refine getmeth_ok I1 ea c hm l ?_
  exact PySem.W.callWith_K0 (first := [.ref a]) I1.kIn hm.kp (run_fn (us := [.ref a]) (vs := [.ref a]) F hr hb hd hx I1 (.cons rfl .nil) q)

/-- what a class must have to be made -/
structure Mk (K : PySem.W.Frag) (C f : Addr) : Prop where
  makes : PySem.W.makesIn K C = true
  init : PySem.W.findIn K (.ref C) "__init__" = some (some (.ref f))
  fn : PySem.W.isFn K (.ref f) = true
  kp : PySem.W.keepIn K (.ref C) = true

theorem run_make {pins : List (Addr × Obj)} {σ : St} {H : Hp} {s : Shared} {Q : VK} {us : List Value} {vs : List V} (M : Mk X.K C f) (F : FnOk X.prog X.w X.K X.mg X.base CX k f fd ps sp) (hr : Room (k + 1) X.A) (hb : Binds X.K fd ps ds) (hd : Vals dvs ds)
    (hx : Passes CX X E) (I : Inv X pins σ H s) (r : Vals vs us)
    (h : ∀ x dx, H x = none → H dx = none → dx ≠ x → sp (.ref x :: (vs ++ dvs)) (upd (upd H dx (.own x)) x (.ins C dx [])) (fun v H2 => v = .non ∧ Q (.ref x) H2) E) :
    wpAny (model X.prog X.w) X.A (call (.ref C) us) (EP X pins σ Q) X.xe s := by
  have hq := h (s.heap.objs.size + 1) s.heap.objs.size (I.hok.fresh (Nat.le_succ _)) (I.hok.fresh (Nat.le_refl _)) (Nat.ne_of_lt (Nat.lt_succ_self _))
  have I2 := Inv.made (C := C) I
  have r2 : Vals (V.ref (s.heap.objs.size + 1) :: (vs ++ dvs)) (Value.ref (s.heap.objs.size + 1) :: (us ++ ds)) := .cons rfl (r.append hd)
  have hl : (Value.ref (s.heap.objs.size + 1) :: us ++ ds).length = ps.length := by
    have e := r2.length
    rw [F.len _ _ _ _ hq] at e
    exact e.symm
  refine wpAny_call (make_map (f := f) I.kIn M.makes M.init (beq_iff_eq.mp M.fn) (codeAny_mono (F.run _ X.stack _ _ ⟨Value.ref (s.heap.objs.size + 1) :: us, []⟩ (Value.ref (s.heap.objs.size + 1) :: (us ++ ds)) _ _ E (hr.make C us [])
    (I2.env0.make C us []) (hb _ (Value.ref (s.heap.objs.size + 1) :: us) I2.kIn hl) r2 hq) fun r s' hq' => ?_))
  cases r with
  | error e => exact hx pins σ _ _ e s' I2 hq'
  | ok fl =>
    cases fl with
    | ret u =>
      obtain ⟨v, H', I3, rv, ev, q3⟩ := I2.after hq'
      subst ev
      exact ⟨rv, ⟨V.ref (s.heap.objs.size + 1), H', I3, rfl, q3⟩⟩
    | next => exact False.elim hq'
    | brk => exact False.elim hq'
    | cont => exact False.elim hq'
theorem pe_make (M : Mk X.K C f) (F : FnOk X.prog X.w X.K X.mg X.base CX k f fd ps sp) (hr : Room (k + 1) X.A) (hg : Gl X x) (hm : X.mg x = some (.ref C)) (hb : Binds X.K fd ps ds) (hd : Vals dvs ds) (hx : Passes CX X E)
    (ha : PA X (e :: es) t) (hdb : (x == ("__debug__" : Str)) = false := by decide) (he : starEach (e :: es) X.env = (false, eval e X.env) :: starEach es X.env := by rfl) (hpl : (backTo pos (starEach es X.env)).any (·.1) = false := by rfl) :
    PE X (.Call (.Name x p) (e :: es) [] pos) (tMake C sp dvs E t) := by
  intro pins s σ H Q I h
  refine wpAny_Call_Name_kw (ld_glob I hg hm ?_ hdb)
  refine PySem.W.callWith_K (h₀ := X.base) I.ok.mod.kin M.kp (thn (ha pos pins s σ H _ I h) fun us s1 ⟨vs, H1, I1, r, q⟩ => ⟨I1.kIn, ?_⟩) he hpl
  exact run_make M F hr hb hd hx I1 r q
theorem pe_make0 (M : Mk X.K C f) (F : FnOk X.prog X.w X.K X.mg X.base CX k f fd ps sp) (hr : Room (k + 1) X.A) (hg : Gl X x) (hm : X.mg x = some (.ref C)) (hb : Binds X.K fd ps ds) (hd : Vals dvs ds) (hx : Passes CX X E)
    (hdb : (x == ("__debug__" : Str)) = false := by decide) : PE X (.Call (.Name x p) [] [] pos) (tMake C sp dvs E tNil) := by
  intro pins s σ H Q I h
  refine wpAny_Call_Name_kw (ld_glob I hg hm ?_ hdb)
  exact PySem.W.callWith_K0 I.kIn M.kp (run_make (us := []) M F hr hb hd hx I .nil h)
end

/-! ### keywords -/
/-- the values of the keywords, from the left -/
def PK (X : Cx) (kws : List Keyword) (t : TA) : Prop :=
  ∀ (pos : Pos) (pins : List (Addr × Obj)) (s : Shared) (σ : St) (H : Hp) (Q : List V → Hp → Prop), Inv X pins σ H s → t σ H Q → wpAny (model X.prog X.w) X.A (evalAll ((backToKw pos (keywordEach kws X.env)).map (·.2))) (AP X pins σ Q) X.xe s
section
variable {X : Cx} {CX : CXT} {k : Nat} {f C : Addr} {fd : FuncData} {ps ks : List Str} {sp : Sp} {E : XK} {x m : Str} {p pos apos kpos : Pos} {e o : Expr} {es : List Expr} {kws : List Keyword} {te ta : TE} {t tk : TA} {nm : Option Str}
theorem pk_nil : PK X [] tNil := fun _ _ _ _ H Q I h => wpAny_evalAll_nil ⟨[], H, I, .nil, h⟩
theorem pk_cons (ha : PE X e te) (hr : PK X kws t) : PK X (⟨nm, e, kpos⟩ :: kws) (tCons te t) := by
  intro pos pins s σ H Q I h
  show wpAny _ _ (evalAll ((do let v ← eval e X.env; standAt pos; pure v) :: (backToKw pos (keywordEach kws X.env)).map (·.2))) _ _ s
  refine wpAny_evalAll_cons (wpAny_bind (thn (ha pins s σ H _ I h) fun u s1 ⟨x, H1, I1, r1, q1⟩ => wpAny_bind (wpAny_standAt (wpAny_pure ?_))))
  exact thn (hr pos pins s1 σ H1 _ I1 q1) fun us s2 ⟨xs, H2, I2, r2, q2⟩ => ⟨x :: xs, H2, I2, .cons r1 r2, q2⟩

/-- how a call with keywords binds: g puts the positional values us and the keywords' values ws (names ks) in the parameters' order, defaults among them -/
structure KBinds (K : PySem.W.Frag) (fd : FuncData) (ps ks : List Str) (g : List Value → List Value → List Value) (gV : List V → List V → List V) : Prop where
  to : ∀ (s : Shared) (us ws : List Value), K.In s.heap → (g us ws).length = ps.length → BindsTo s fd ⟨us, ks.zip ws⟩ (ps.zip (g us ws))
  rel : ∀ {vs : List V} {us : List Value} {zs : List V} {ws : List Value}, Vals vs us → Vals zs ws → Vals (gV vs zs) (g us ws)
def tCallK (sp : Sp) (gV : List V → List V → List V) (E : XK) (t tk : TA) : TE := fun σ H Q => t σ H fun vs H1 => tk σ H1 fun zs H2 => sp (gV vs zs) H2 Q E
variable {g : List Value → List Value → List Value} {gV : List V → List V → List V}
theorem run_fnk {pins : List (Addr × Obj)} {σ : St} {H : Hp} {s : Shared} {Q : VK} {us ws : List Value} {vs zs : List V} (F : FnOk X.prog X.w X.K X.mg X.base CX k f fd ps sp) (hr : Room k X.A) (hb : KBinds X.K fd ps ks g gV) (hx : Passes CX X E)
    (I : Inv X pins σ H s) (r : Vals vs us) (rz : Vals zs ws) (h : sp (gV vs zs) H Q E) : wpAny (model X.prog X.w) X.A (call (.ref f) us (ks.zip ws)) (EP X pins σ Q) X.xe s := by
  have r2 := hb.rel r rz
  have hl : (g us ws).length = ps.length := by rw [← r2.length]; exact F.len _ _ _ _ h
  refine wpAny_call (codeAny_mono (F.run X.A X.stack s H ⟨us, ks.zip ws⟩ (g us ws) (gV vs zs) Q E hr I.env0 (hb.to s us ws I.kIn hl) r2 h) fun r s' hq => ?_)
  cases r with
  | error e => exact hx pins σ H s e s' I hq
  | ok fl =>
    cases fl with
    | ret u => exact I.after hq
    | next => exact False.elim hq
    | brk => exact False.elim hq
    | cont => exact False.elim hq
/-- f(e, .., k = v, ..) -/
theorem pe_callK (F : FnOk X.prog X.w X.K X.mg X.base CX k f fd ps sp) (hr : Room k X.A) (hg : Gl X x) (hm : X.mg x = some (.ref f)) (hk : PySem.W.keepIn X.K (.ref f) = true) (hb : KBinds X.K fd ps ks g gV) (hx : Passes CX X E)
    (ha : PA X (e :: es) t) (hkw : PK X kws tk) (hall : (backToKw pos (keywordEach kws X.env)).all (·.1.isSome) = true := by rfl) (hks : (backToKw pos (keywordEach kws X.env)).filterMap (·.1) = ks := by rfl)
    (hdb : (x == ("__debug__" : Str)) = false := by decide) (he : starEach (e :: es) X.env = (false, eval e X.env) :: starEach es X.env := by rfl)
    (hpl : ((backTo pos (starEach (e :: es) X.env)).any (·.1) || (backToKw pos (keywordEach kws X.env)).any (·.1.isNone)) = false := by rfl) :
    PE X (.Call (.Name x p) (e :: es) kws pos) (tCallK sp gV E t tk) := by
  intro pins s σ H Q I h
  refine wpAny_Call_Name_kw (ld_glob I hg hm ?_ hdb)
  refine PySem.W.callWith_KW (h₀ := X.base) I.ok.mod.kin hk hall (thn (ha pos pins s σ H _ I h) fun us s1 ⟨vs, H1, I1, r, q⟩ => ?_) hpl he
  refine thn (hkw pos pins s1 σ H1 _ I1 q) fun ws s2 ⟨zs, H2, I2, rz, q2⟩ => ⟨I2.kIn, ?_⟩
  rw [hks]
  exact run_fnk F hr hb hx I2 r rz q2
end

/-! ### a def's body keeps its promise -/
/-- names: the parameters first -/
structure FnScope (N P : List Str) (sc : Scope) : Prop where
  kind : sc.kind = .function
  co : sc.isCoroutine = false
  gen : sc.isGenerator = false
  nd : N.Nodup
  pre : N.take P.length = P
  par : ∀ x ∈ P, sc.names.lookup x = some .local ∨ sc.names.lookup x = some .cell
  nofree : ∀ y ∈ sc.names, y.2 ≠ .free

theorem bindL_out {kindOf : Str → Option NameKind} {x : Str} : ∀ {binds : List (Str × Value)} {m : Str → Option Value}, (∀ v, (x, v) ∉ binds) → bindL kindOf binds m x = m x
  | [], _, _ => rfl
  | (n, v) :: r, m, h => by
    unfold bindL
    rw [bindL_out fun w hw => h w (List.mem_cons_of_mem _ hw)]
    split
    · have : x ≠ n := by rintro rfl; exact h v List.mem_cons_self
      simp [this]
    · rfl
theorem bindC_out {kindOf : Str → Option NameKind} {x : Str} : ∀ {binds : List (Str × Value)} {m : Str → Option Value}, (∀ v, (x, v) ∉ binds) → bindC kindOf binds m x = m x
  | [], _, _ => rfl
  | (n, v) :: r, m, h => by
    unfold bindC
    rw [bindC_out fun w hw => h w (List.mem_cons_of_mem _ hw)]
    split
    · rfl
    · have : x ≠ n := by rintro rfl; exact h v List.mem_cons_self
      simp [this]
theorem bindL_get {kindOf : Str → Option NameKind} {x : Str} {v : Value} : ∀ {P : List Str} {vs : List Value} {i : Nat} {m : Str → Option Value}, P.Nodup → P[i]? = some x → vs[i]? = some v → kindOf x = some .local →
    bindL kindOf (P.zip vs) m x = some v
  | [], _, _, _, _, h, _, _ => by simp at h
  | _ :: _, [], _, _, _, _, h, _ => by simp at h
  | p :: P, w :: vs, 0, m, nd, h1, h2, hk => by
    simp at h1 h2; subst h1; subst h2
    show bindL kindOf ((p, w) :: P.zip vs) m p = _
    unfold bindL
    rw [bindL_out fun v hv => (List.nodup_cons.mp nd).1 (List.of_mem_zip hv).1, if_pos hk]
    simp
  | p :: P, w :: vs, i + 1, m, nd, h1, h2, hk => by
    show bindL kindOf ((p, w) :: P.zip vs) m x = _
    unfold bindL
    exact bindL_get (i := i) (List.nodup_cons.mp nd).2 (by simpa using h1) (by simpa using h2) hk
theorem bindC_get {kindOf : Str → Option NameKind} {x : Str} {v : Value} : ∀ {P : List Str} {vs : List Value} {i : Nat} {m : Str → Option Value}, P.Nodup → P[i]? = some x → vs[i]? = some v → kindOf x ≠ some .local →
    bindC kindOf (P.zip vs) m x = some v
  | [], _, _, _, _, h, _, _ => by simp at h
  | _ :: _, [], _, _, _, _, h, _ => by simp at h
  | p :: P, w :: vs, 0, m, nd, h1, h2, hk => by
    simp at h1 h2; subst h1; subst h2
    show bindC kindOf ((p, w) :: P.zip vs) m p = _
    unfold bindC
    rw [bindC_out fun v hv => (List.nodup_cons.mp nd).1 (List.of_mem_zip hv).1, if_neg hk]
    simp
  | p :: P, w :: vs, i + 1, m, nd, h1, h2, hk => by
    show bindC kindOf ((p, w) :: P.zip vs) m x = _
    unfold bindC
    exact bindC_get (i := i) (List.nodup_cons.mp nd).2 (by simpa using h1) (by simpa using h2) hk

/-- the names' values at the entry -/
def start (N : List Str) (vs : List V) : St := vs.map some ++ List.replicate (N.length - vs.length) none

/-- the context of a def's body, at its entry; an exception leaves the frame, then lies as CX says -/
def cxOf (CX : CXT) (P : Program) (w : World) (K : PySem.W.Frag) (mg : Str → Option Value) (base : Heap) (N : List Str) (qual : Str) (scope : Scope) (f : Addr) (cd : Value) (A : Around) (outer : List Env) (s : Shared) (H : Hp) (E : XK) : Cx where
  prog := P
  w := w
  K := K
  mg := mg
  base := base
  A := A.deeper (envOfC qual scope s.heap.objs.size f cd)
  N := N
  s₀ := s
  H₀ := H
  env := envOfC qual scope s.heap.objs.size f cd
  outer := outer
  stack := envOfC qual scope s.heap.objs.size f cd :: outer
  ex := []
  calm := true
  fn := fun _ => true
  pn := []
  xe := fun e s' => wpAny (model P w) (A.deeper (envOfC qual scope s.heap.objs.size f cd)) (leaving (envOfC qual scope s.heap.objs.size f cd) e) (fun _ s'' => CX outer H s E e s'') (fun e' s'' => CX outer H s E e' s'') s'

theorem cell_has {sc : Scope} {n : Nat} {x : Str} (h : sc.names.lookup x = some .cell) : ∃ c, (cellsFrom n sc.names []).lookup x = some c := by
  have q := PySem.W.cellsFrom_some sc.names n [] (.inl h)
  exact Option.isSome_iff_exists.mp q

theorem inv_start {CX : CXT} {P : Program} {w : World} {K : PySem.W.Frag} {mg : Str → Option Value} {base : Heap} {N ps : List Str} {qual : Str} {scope : Scope} {f : Addr} {cd : Value} {A : Around} {outer : List Env} {s s1 : Shared} {H : Hp} {E : XK} {us : List Value} {vs : List V}
    (S : FnScope N ps scope) (hd : A.handled = none) (e0 : Env0 P w K mg base A outer s H) (hl : vs.length = ps.length) (r : Vals vs us)
    (x : InCallC s s.heap.objs.size (bindL (envOfC qual scope s.heap.objs.size f cd).kindOf (ps.zip us) fun _ => none) (cellsFrom (s.heap.objs.size + 1) scope.names []) (bindC (envOfC qual scope s.heap.objs.size f cd).kindOf (ps.zip us) fun _ => none) s1) :
    Inv (cxOf CX P w K mg base N qual scope f cd A outer s H E) [] (start N vs) H s1 := by
  have hpl : ps.length ≤ N.length := by have := congrArg List.length S.pre; rw [List.length_take] at this; omega
  obtain ⟨h1, tk, rfl, hk⟩ := x.done
  have noA : ∀ b : Addr, b ∉ (cxOf CX P w K mg base N qual scope f cd A outer s H E).ex := fun b z => absurd (show b ∈ ([] : List Addr) from z) (by simp)
  refine ⟨⟨e0.mod, S.kind, rfl, rfl, Nat.le_refl _, fun y z c h1 h2 => ?_, fun y hy => ?_, fun y c _ h => ?_, fun _ => hd, Around.frames_deeper e0.frames, .inr ⟨rfl, rfl⟩, fun b z => absurd z (noA b), e0.bs, e0.bsz, fun b _ _ => noA b, fun b z => absurd z (noA b), e0.funs, e0.frf⟩,
    rfl, e0.bare, Un.kept hk, ⟨_, x.toInCall.ns, fun i y v h1 h2 h3 => ?_⟩, fun y c h => ⟨_, x.cell y c h⟩, e0.hok.fresh (Nat.le_refl _), fun y c h => ?_, fun p hp => absurd (show p ∈ ([] : List (Addr × Obj)) from hp) (by simp), e0.hok.kept hk, ?_⟩
  · exact name_of_addr x.apart (PySem.mem_of_lookup h1) (PySem.mem_of_lookup h2)
  · have hy : scope.names.lookup y = some .cell ∨ scope.names.lookup y = some .free := hy
    rcases hy with hy | hy
    · exact cell_has hy
    · exact absurd rfl (S.nofree _ (PySem.mem_of_lookup hy))
  · exact Nat.le_of_lt (x.above y c (PySem.mem_of_lookup h))
  · have hi : i < vs.length := by
      unfold start at h2
      by_cases hi : i < vs.length
      · exact hi
      · rw [List.getElem?_append_right (by simpa using hi)] at h2
        rw [List.getElem?_replicate] at h2
        split at h2 <;> cases h2
    have ha : vs[i]? = some v := by
      unfold start at h2
      rw [List.getElem?_append_left (by simpa using hi), List.getElem?_map] at h2
      cases e : vs[i]? with
      | none => rw [e] at h2; cases h2
      | some a => rw [e] at h2; cases h2; rfl
    obtain ⟨u, hu, rv⟩ := r.get ha
    have hp : ps[i]? = some y := by
      rw [← S.pre, List.getElem?_take_of_lt (by omega)]; exact h1
    have ndP : ps.Nodup := by rw [← S.pre]; exact S.nd.sublist (List.take_sublist _ _)
    refine ⟨u, rv, ?_⟩
    rcases S.par y (List.mem_of_getElem? hp) with k | k
    · exact .inl ⟨k, bindL_get ndP hp hu k⟩
    · obtain ⟨c, e⟩ := cell_has (n := s.heap.objs.size + 1) k
      refine .inr ⟨.inl k, c, e, ?_⟩
      have q := x.cell y c e
      rw [bindC_get ndP hp hu (by show scope.names.lookup y ≠ _; rw [k]; decide)] at q
      exact q
  · exact e0.hok.fresh (Nat.le_of_lt (x.above y c (PySem.mem_of_lookup h)))
  · unfold start
    show _ = N.length
    rw [List.length_append, List.length_map, List.length_replicate]
    omega

/-- THE RULE: a def (or a method) of the text, by its body. The body's reading t is chosen for each entry; it is run at the parameters' values -/
theorem fn_of {CX : CXT} {P : Program} {w : World} {K : PySem.W.Frag} {mg : Str → Option Value} {base : Heap} {k : Nat} {f : Addr} {name qual : Str} {params : Arguments} {body : List Stmt} {scope : Scope} {dV kV doc pm cdv ct oc : Value} {an od : Option Addr}
    {osl : Array (Option Value)} {N ps : List Str} {sp : Sp} (lk : K.lookup f = some ⟨oc, od, .func (PySem.W.fnOf name qual params body scope dV kV doc pm an cdv ct), osl⟩) (hcd : PySem.W.codeIn K cdv qual = true) (S : FnScope N ps scope)
    (len : ∀ vs H Q E, sp vs H Q E → vs.length = ps.length)
    (hbody : ∀ (A : Around) (outer : List Env) (s : Shared) (H : Hp) (vs : List V) (Q : VK) (E : XK), Room k (A.deeper (envOfC qual scope s.heap.objs.size f cdv)) → sp vs H Q E →
      ∃ t, PSs (cxOf CX P w K mg base N qual scope f cdv A outer s H E) body t ∧ t { nx := fun _ H' => Q .non H', rt := Q } (start N vs) H) :
    FnOk P w K mg base CX (k + 1) f (PySem.W.fnOf name qual params body scope dV kV doc pm an cdv ct) ps sp := by
  refine ⟨len, fun A outer s H args us vs Q E hr e0 hb r hsp => ?_⟩
  have hl := len _ _ _ _ hsp
  have KX : K.In s.heap := e0.mod.kin.keeps fun b o e => (e0.bs b o e).1
  have lim : s.heap.NoLimit := e0.mod.nolimit.keeps fun b o e => (e0.bs b o e).1
  have hkind : ∀ y ∈ ps.zip us, scope.names.lookup y.1 = some .local ∨ (scope.names.lookup y.1 = some .cell ∧ ((cellsFrom (s.heap.objs.size + 1) scope.names []).lookup y.1).isSome = true) := fun ⟨n, v⟩ hy => by
    rcases S.par n (List.of_mem_zip hy).1 with q | q
    · exact .inl q
    · exact .inr ⟨q, PySem.W.cellsFrom_some _ _ _ (.inl q)⟩
  refine codeAny_call_function hr.depth (KX _ _ lk) rfl S.co S.gen rfl (PySem.W.codeRec_of KX hcd) (hb _ _ _ _ ?_)
  refine wpAny_newFunctionEnv_cells S.kind hkind fun env he s1 x => ?_
  subst he
  refine ⟨lim.keeps x.toInCall.keep, codeAny_func ?_⟩
  obtain ⟨t, ht, hq⟩ := hbody A outer s H vs Q E (hr.deeper _) hsp
  have I : Inv (cxOf CX P w K mg base N qual scope f cdv A outer s H E) [] (start N vs) H s1 := inv_start S hr.hd e0 hl r x
  refine wpAny_mono (ht [] s1 (start N vs) H _ I hq) (fun fl s' hs => ?_) fun e s' hs => hs
  have fin : ∀ {σ' : St} {H' : Hp} {v : V} {u : Value}, Inv (cxOf CX P w K mg base N qual scope f cdv A outer s H E) [] σ' H' s' → RelV v u → Q v H' → CE outer P w H s Q u s' :=
    fun {σ' H' v u} J rv q => ⟨v, H', J.os, J.bare, J.base, J.hok, rv, q⟩
  cases fl with
  | ret u =>
    obtain ⟨v, σ', H', J, rv, q⟩ := hs
    exact fin J rv q
  | next =>
    obtain ⟨σ', H', J, q⟩ := hs
    exact fin (v := V.non) (u := Value.none) J rfl q
  | brk =>
    obtain ⟨_, _, _, q⟩ := hs
    exact False.elim q
  | cont =>
    obtain ⟨_, _, _, q⟩ := hs
    exact False.elim q
end L2

namespace L2
open PySem PySem.Spec PyProof.Rows
section
variable {X : Cx} {x : Str} {p pos : Pos} {e : Expr} {es : List Expr} {t : TA} {id T : String} {r : List V → Hp → VK → Prop}

def tCB (r : List V → Hp → VK → Prop) (t : TA) : TE := fun σ H Q => t σ H fun vs H1 => r vs H1 Q
/-- f(e, ..), f a built-in function -/
theorem pe_callB (hc : CallR X (.builtin id) r) (hg : Gl X x) (hm : X.mg x = none) (hv : bootBuiltins x = some (.builtin id)) (ha : PA X (e :: es) t) (hn : x ≠ "__name__" := by decide) (hdb : (x == ("__debug__" : Str)) = false := by decide)
    (he : starEach (e :: es) X.env = (false, eval e X.env) :: starEach es X.env := by rfl) (hpl : (backTo pos (starEach es X.env)).any (·.1) = false := by rfl) : PE X (.Call (.Name x p) (e :: es) [] pos) (tCB r t) := by
  intro pins s σ H Q I h
  refine wpAny_Call_Name_kw (ld_blt I hg hm hv ?_ hn hdb)
  exact PyProof.Rows.callWith_builtin1 (thn (ha pos pins s σ H _ I h) fun us s1 ⟨vs, H1, I1, r1, q1⟩ => hc pins s1 σ H1 vs us Q I1 r1 q1) he hpl
/-- T(e, ..), T a built-in type -/
theorem pe_callTy (hc : CallR X (.type T) r) (hg : Gl X x) (hm : X.mg x = none) (hv : bootBuiltins x = some (.type T)) (ha : PA X (e :: es) t) (hn : x ≠ "__name__" := by decide) (hdb : (x == ("__debug__" : Str)) = false := by decide)
    (he : starEach (e :: es) X.env = (false, eval e X.env) :: starEach es X.env := by rfl) (hpl : (backTo pos (starEach es X.env)).any (·.1) = false := by rfl) : PE X (.Call (.Name x p) (e :: es) [] pos) (tCB r t) := by
  intro pins s σ H Q I h
  refine wpAny_Call_Name_kw (ld_blt I hg hm hv ?_ hn hdb)
  exact PyProof.Rows.callWith_type1 (thn (ha pos pins s σ H _ I h) fun us s1 ⟨vs, H1, I1, r1, q1⟩ => hc pins s1 σ H1 vs us Q I1 r1 q1) he hpl
/-- T() -/
theorem pe_callTy0 (hc : CallR X (.type T) r) (hg : Gl X x) (hm : X.mg x = none) (hv : bootBuiltins x = some (.type T)) (hn : x ≠ "__name__" := by decide) (hdb : (x == ("__debug__" : Str)) = false := by decide) :
    PE X (.Call (.Name x p) [] [] pos) (tCB r tNil) := by
  intro pins s σ H Q I h
  refine wpAny_Call_Name_kw (ld_blt I hg hm hv ?_ hn hdb)
  exact PyProof.Rows.callWith_type0 (hc pins s σ H [] [] Q I .nil h)
end
end L2

namespace L2
open PySem PySem.Spec PyProof.Rows

/-! ### lists of pairs as tables -/
section
variable {κ : Type} [DecidableEq κ]
def valV (kvs : List (κ × V)) (k : κ) : Option V := (kvs.find? fun kv => decide (kv.1 = k)).map (·.2)
/-- in its place, or at the end -/
def putK (kvs : List (κ × V)) (k : κ) (v : V) : List (κ × V) :=
  if (kvs.any fun kv => decide (kv.1 = k)) = true then kvs.map (fun kv => if kv.1 = k then (kv.1, v) else kv) else kvs ++ [(k, v)]
def dropK (kvs : List (κ × V)) (k : κ) : List (κ × V) := kvs.filter fun kv => decide (kv.1 ≠ k)

theorem valV_nil {k : κ} : valV ([] : List (κ × V)) k = none := rfl
theorem valV_pos {p : κ × V} {r : List (κ × V)} {k : κ} (e : p.1 = k) : valV (p :: r) k = some p.2 := by simp [valV, List.find?_cons, e]
theorem valV_neg {p : κ × V} {r : List (κ × V)} {k : κ} (e : ¬ p.1 = k) : valV (p :: r) k = valV r k := by simp [valV, List.find?_cons, e]
theorem valV_any (k : κ) : ∀ kvs : List (κ × V), (kvs.any fun kv => decide (kv.1 = k)) = (valV kvs k).isSome
  | [] => rfl
  | p :: r => by
    rw [List.any_cons]
    by_cases e : p.1 = k
    · simp only [valV_pos e, decide_eq_true e, Bool.true_or, Option.isSome_some]
    · rw [valV_neg e, decide_eq_false e, Bool.false_or]; exact valV_any k r
theorem valV_map (k j : κ) (y : V) : ∀ kvs : List (κ × V), valV (kvs.map fun kv => if kv.1 = k then (kv.1, y) else kv) j = (valV kvs j).map fun x => if j = k then y else x
  | [] => rfl
  | p :: r => by
    have ih := valV_map k j y r
    rw [List.map_cons]
    by_cases h : p.1 = k
    · rw [if_pos h]
      by_cases e : p.1 = j
      · rw [valV_pos (p := (p.1, y)) e, valV_pos e, Option.map_some, if_pos (e.symm.trans h)]
      · rw [valV_neg (p := (p.1, y)) e, valV_neg e, ih]
    · rw [if_neg h]
      by_cases e : p.1 = j
      · rw [valV_pos (p := p) e, valV_pos e, Option.map_some, if_neg (fun z => h (e.trans z))]
      · rw [valV_neg (p := p) e, valV_neg e, ih]
theorem valV_snoc (k j : κ) (y : V) : ∀ kvs : List (κ × V), valV kvs k = none → valV (kvs ++ [(k, y)]) j = if j = k then some y else valV kvs j
  | [], _ => by
    by_cases e : k = j
    · rw [if_pos e.symm]; exact valV_pos (p := (k, y)) e
    · rw [if_neg (fun z => e z.symm)]; exact valV_neg (p := (k, y)) e
  | p :: r, hn => by
    rw [List.cons_append]
    have hk : ¬ p.1 = k := fun z => by rw [valV_pos z] at hn; cases hn
    rw [valV_neg hk] at hn
    have ih := valV_snoc k j y r hn
    by_cases e : p.1 = j
    · rw [valV_pos e, valV_pos e, if_neg (fun z => hk (e.trans z))]
    · rw [valV_neg e, valV_neg e, ih]
theorem valV_put (kvs : List (κ × V)) (k j : κ) (y : V) : valV (putK kvs k y) j = if j = k then some y else valV kvs j := by
  unfold putK
  by_cases a : (kvs.any fun kv => decide (kv.1 = k)) = true
  · rw [if_pos a, valV_map]
    rw [valV_any] at a
    by_cases e : j = k
    · obtain ⟨x, hx⟩ := Option.isSome_iff_exists.mp a
      rw [if_pos e, e, hx, Option.map_some, if_pos rfl]
    · rw [if_neg e]
      cases valV kvs j with
      | none => rfl
      | some x => rw [Option.map_some, if_neg e]
  · rw [if_neg a]
    refine valV_snoc k j y kvs ?_
    rw [valV_any] at a
    cases q : valV kvs k with
    | none => rfl
    | some x => rw [q] at a; exact (a rfl).elim
theorem length_putK (kvs : List (κ × V)) (k : κ) (v : V) : (putK kvs k v).length ≤ kvs.length + 1 := by
  unfold putK
  split
  · rw [List.length_map]; omega
  · rw [List.length_append, List.length_cons, List.length_nil]; omega
theorem putK_new {kvs : List (κ × V)} {k : κ} (v : V) (h : valV kvs k = none) : putK kvs k v = kvs ++ [(k, v)] := by
  unfold putK
  rw [valV_any, h]
  exact if_neg (by decide)

theorem RelO.isSome_eq {o : Option V} {u : Option Value} (r : RelO o u) : o.isSome = u.isSome := by
  cases o with
  | none => cases u with
    | none => rfl
    | some _ => exact (show False from r).elim
  | some _ => cases u with
    | none => exact (show False from r).elim
    | some _ => rfl
theorem RelO.getD {o : Option V} {u : Option Value} {d : V} {d' : Value} (r : RelO o u) (rd : RelV d d') : RelV (o.getD d) (u.getD d') := by
  cases o with
  | none => cases u with
    | none => exact rd
    | some _ => exact (show False from r).elim
  | some _ => cases u with
    | none => exact (show False from r).elim
    | some _ => exact r

/-- raw tables of the same keys -/
theorem KV.val {kvs : List (κ × V)} {vs : List (κ × Value)} (r : KV kvs vs) (k : κ) : RelO (valV kvs k) (valueAt vs k) := by
  unfold KV at r
  induction r with
  | nil => exact True.intro
  | @cons p q ps qs h t ih =>
    obtain ⟨h1, h2⟩ := h
    by_cases e : p.1 = k
    · have e' : q.1 = k := h1.symm.trans e
      have b : valueAt (q :: qs) k = some q.2 := by simp [valueAt, List.find?_cons, e']
      rw [valV_pos e, b]; exact h2
    · have e' : ¬ q.1 = k := fun z => e (h1.trans z)
      have b : valueAt (q :: qs) k = valueAt qs k := by simp [valueAt, List.find?_cons, e']
      rw [valV_neg e, b]; exact ih
theorem KV.any {kvs : List (κ × V)} {vs : List (κ × Value)} (r : KV kvs vs) (k : κ) : (kvs.any fun kv => decide (kv.1 = k)) = vs.any fun kv => decide (kv.1 = k) := by
  unfold KV at r
  induction r with
  | nil => rfl
  | cons h t ih => rw [List.any_cons, List.any_cons, ih, h.1]
theorem KV.repl {kvs : List (κ × V)} {vs : List (κ × Value)} (r : KV kvs vs) (k : κ) {y : V} {u : Value} (ry : RelV y u) :
    KV (kvs.map fun kv => if kv.1 = k then (kv.1, y) else kv) (vs.map fun kv => if kv.1 = k then (kv.1, u) else kv) := by
  unfold KV at r ⊢
  induction r with
  | nil => exact .nil
  | @cons p q ps qs h t ih =>
    rw [List.map_cons, List.map_cons]
    refine .cons ?_ ih
    obtain ⟨h1, h2⟩ := h
    by_cases e : p.1 = k
    · rw [if_pos e, if_pos (h1.symm.trans e)]; exact ⟨h1, ry⟩
    · rw [if_neg e, if_neg (fun z => e (h1.trans z))]; exact ⟨h1, h2⟩
theorem KV.put {kvs : List (κ × V)} {vs : List (κ × Value)} (r : KV kvs vs) (k : κ) {y : V} {u : Value} (ry : RelV y u) : KV (putK kvs k y) (stored vs k u) := by
  unfold putK stored
  rw [r.any k]
  by_cases e : (vs.any fun kv => decide (kv.1 = k)) = true
  · rw [if_pos e, if_pos e]; exact r.repl k ry
  · rw [if_neg e, if_neg e]; exact Paired.snoc r ⟨rfl, ry⟩
theorem KV.drop {kvs : List (κ × V)} {vs : List (κ × Value)} (r : KV kvs vs) (k : κ) : KV (dropK kvs k) (without vs k) := by
  unfold KV at r ⊢
  unfold dropK without
  induction r with
  | nil => exact .nil
  | @cons p q ps qs h t ih =>
    obtain ⟨h1, h2⟩ := h
    rw [List.filter_cons, List.filter_cons]
    by_cases e : p.1 = k
    · have a : ¬ decide (p.1 ≠ k) = true := by simp [e]
      have b : ¬ decide (q.1 ≠ k) = true := by simp [h1.symm.trans e]
      rw [if_neg a, if_neg b]; exact ih
    · have e' : ¬ q.1 = k := fun z => e (h1.trans z)
      have a : decide (p.1 ≠ k) = true := by simp [e]
      have b : decide (q.1 ≠ k) = true := by simp [e']
      rw [if_pos a, if_pos b]; exact .cons ⟨h1, h2⟩ ih
theorem KV.keys {kvs : List (κ × V)} {vs : List (κ × Value)} (r : KV kvs vs) : kvs.map (·.1) = vs.map (·.1) := by
  unfold KV at r
  induction r with
  | nil => rfl
  | cons h t ih => rw [List.map_cons, List.map_cons, ih, h.1]
theorem KV.length {kvs : List (κ × V)} {vs : List (κ × Value)} (r : KV kvs vs) : kvs.length = vs.length := Paired.length r
theorem dropK_le (kvs : List (κ × V)) (k : κ) : (dropK kvs k).length ≤ kvs.length := List.length_filter_le _ _
end


/-! ### a tracked dict, its keys ints and texts or tuples of these -/
theorem kV_is {P : Program} {w : World} {k : Key} {u : Value} (r : RelV (kV k) u) : (mixKind P w).is k u = true := by
  cases k with
  | inl i => obtain ⟨t, e⟩ := (show ∃ t, u = Value.int i t from r); subst e; exact mixKind_int P w i t
  | inr x => obtain ⟨t, e⟩ := (show ∃ t, u = Value.str x t from r); subst e; exact mixKind_str P w x t
theorem kV_inj {a b : Key} (e : kV a = kV b) : a = b := by
  cases a with
  | inl i => cases b with
    | inl j => have e' : V.int i = V.int j := e; injection e' with e'; rw [e']
    | inr y => exact nomatch (show V.int i = V.str y from e)
  | inr x => cases b with
    | inl j => exact nomatch (show V.str x = V.int j from e)
    | inr y => have e' : V.str x = V.str y := e; injection e' with e'; rw [e']
theorem kVs_inj : ∀ {a b : List Key}, a.map kV = b.map kV → a = b
  | [], [], _ => rfl
  | [], _ :: _, e => by simp at e
  | _ :: _, [], e => by simp at e
  | x :: xs, y :: ys, e => by
    rw [List.map_cons, List.map_cons] at e
    injection e with e1 e2
    rw [kV_inj e1, kVs_inj e2]
theorem items_are {P : Program} {w : World} : ∀ {ks : List Key} {us : List Value}, Vals (ks.map kV) us → ItemsAre (mixKind P w) ks us
  | [], _, r => by rw [List.map_nil] at r; cases r; exact .nil
  | k :: ks, _, r => by
    rw [List.map_cons] at r
    cases r with
    | cons h t => exact .cons (kV_is h) (items_are t)

/-- raw entries of a dict with tuple keys -/
abbrev KT (H : Hp) : List (List Key × V) → List (List Key × Addr × Value) → Prop := Paired fun p q => p.1 = q.1 ∧ H q.2.1 = some (.tup (p.1.map kV)) ∧ RelV p.2 q.2.2
theorem KT.val {H : Hp} {kvs : List (List Key × V)} {xs : List (List Key × Addr × Value)} (r : KT H kvs xs) (k : List Key) : RelO (valV kvs k) ((atKey xs k).map (·.2)) := by
  induction r with
  | nil => exact True.intro
  | @cons p q ps qs h t ih =>
    obtain ⟨h1, _, h2⟩ := h
    by_cases e : p.1 = k
    · have e' : q.1 = k := h1.symm.trans e
      have b : atKey (q :: qs) k = some q.2 := by simp [atKey, List.find?_cons, e']
      rw [valV_pos e, b]; exact h2
    · have e' : ¬ q.1 = k := fun z => e (h1.trans z)
      have b : atKey (q :: qs) k = atKey qs k := by simp [atKey, List.find?_cons, e']
      rw [valV_neg e, b]; exact ih
theorem KT.repl {H : Hp} {kvs : List (List Key × V)} {xs : List (List Key × Addr × Value)} (r : KT H kvs xs) (k : List Key) {y : V} {u : Value} (ry : RelV y u) :
    KT H (kvs.map fun kv => if kv.1 = k then (kv.1, y) else kv) (xs.map (putAt k u)) := by
  induction r with
  | nil => exact .nil
  | @cons p q ps qs h t ih =>
    rw [List.map_cons, List.map_cons]
    refine .cons ?_ ih
    obtain ⟨h1, h2, h3⟩ := h
    unfold putAt
    by_cases e : p.1 = k
    · rw [if_pos e, if_pos (h1.symm.trans e)]; exact ⟨h1, h2, ry⟩
    · rw [if_neg e, if_neg (fun z => e (h1.trans z))]; exact ⟨h1, h2, h3⟩
theorem KT.put {H : Hp} {kvs : List (List Key × V)} {xs : List (List Key × Addr × Value)} (r : KT H kvs xs) (k : List Key) {b : Addr} {y : V} {u : Value} (hb : H b = some (.tup (k.map kV))) (ry : RelV y u) :
    KT H (putK kvs k y) (storedH xs k b u) := by
  have e : (kvs.any fun kv => decide (kv.1 = k)) = (atKey xs k).isSome := by
    rw [valV_any, (r.val k).isSome_eq, Option.isSome_map]
  unfold putK storedH
  rw [e]
  by_cases q : (atKey xs k).isSome = true
  · rw [if_pos q, if_pos q]; exact r.repl k ry
  · rw [if_neg q, if_neg q]; exact Paired.snoc r ⟨rfl, hb, ry⟩
theorem KT.keeps {H H' : Hp} {kvs : List (List Key × V)} {xs : List (List Key × Addr × Value)} (r : KT H kvs xs) (ht : ∀ b ys, H b = some (.tup ys) → H' b = some (.tup ys)) : KT H' kvs xs :=
  Paired.mapP r fun _ _ z => ⟨z.1, ht _ _ z.2.1, z.2.2⟩

section
variable {P : Program} {w : World} {H : Hp} {h : Heap} {a : Addr}
theorem rd_of {u : HO} (ok : HOk P w H h) (e : Rd H a u) : ObjOk P w H h a u := e.ok ok
theorem dk_rd {kvs : List (Key × V)} (ok : HOk P w H h) (e : Rd H a (.dK kvs)) : kvs.length ≤ sizeLine ∧ (a == sysModules) = false ∧ ∃ vs, KV kvs vs ∧ h.DictOf (mixKind P w) a vs :=
  show ObjOk P w H h a (.dK kvs) from rd_of ok e
theorem dk_of {kvs : List (Key × V)} (ok : HOk P w H h) (e : H a = some (.dK kvs)) : kvs.length ≤ sizeLine ∧ (a == sysModules) = false ∧ ∃ vs, KV kvs vs ∧ h.DictOf (mixKind P w) a vs := dk_rd ok (.inl e)
/-- a tracked tuple of ints and texts is a key -/
theorem key_of {ks : List Key} (ok : HOk P w H h) (e : H a = some (.tup (ks.map kV))) : (tupleKind (mixKind P w)).is h ks a := by
  obtain ⟨_, its, r, o, h1, h2, n, h3⟩ := (show ObjOk P w H h a (.tup (ks.map kV)) from ok a _ e)
  exact ⟨o, its.toArray, n, h1, h2, h3, by simpa using items_are r⟩
theorem dt_rd {kvs : List (List Key × V)} (ok : HOk P w H h) (e : Rd H a (.dT kvs)) : kvs.length ≤ sizeLine ∧ (a == sysModules) = false ∧
    ∃ xs, KT H kvs xs ∧ h.DictOfH (tupleKind (mixKind P w)) a xs := by
  obtain ⟨z, y, xs, r, o, es, ep, h1, h2, h3, h4, h5⟩ := (show ObjOk P w H h a (.dT kvs) from rd_of ok e)
  refine ⟨z, y, xs, r, o, es, ep, h1, h2, h3, h4, fun x hx => ?_, h5⟩
  have all : ∀ {l : List (List Key × V)} {m : List (List Key × Addr × Value)}, KT H l m → ∀ x ∈ m, (tupleKind (mixKind P w)).is h x.1 x.2.1 := by
    intro l m q
    induction q with
    | nil => intro x hx; exact nomatch hx
    | @cons p q ps qs hq t ih =>
      intro x hx
      rcases List.mem_cons.mp hx with e | hx
      · subst e
        exact key_of ok (by rw [← hq.1]; exact hq.2.1)
      · exact ih x hx
  exact all r x hx
theorem dt_of {kvs : List (List Key × V)} (ok : HOk P w H h) (e : H a = some (.dT kvs)) : kvs.length ≤ sizeLine ∧ (a == sysModules) = false ∧
    ∃ xs, KT H kvs xs ∧ h.DictOfH (tupleKind (mixKind P w)) a xs := dt_rd ok (.inl e)
end

/-- what the dict at a holds at the key y -/
def DGet (H : Hp) (a : Addr) (y : V) (r : Option V) : Prop :=
  (∃ kvs k, Rd H a (.dK kvs) ∧ y = kV k ∧ r = valV kvs k) ∨ ∃ kvs k b, Rd H a (.dT kvs) ∧ y = .ref b ∧ H b = some (.tup (k.map kV)) ∧ r = valV kvs k
/-- the heap behind a[y] = v -/
def DPut (H : Hp) (a : Addr) (y v : V) (H' : Hp) : Prop :=
  (∃ kvs k, H a = some (.dK kvs) ∧ y = kV k ∧ kvs.length < sizeLine ∧ H' = upd H a (.dK (putK kvs k v))) ∨
  ∃ kvs k b, H a = some (.dT kvs) ∧ y = .ref b ∧ H b = some (.tup (k.map kV)) ∧ kvs.length < sizeLine ∧ H' = upd H a (.dT (putK kvs k v))
theorem DGet.k {H : Hp} {a : Addr} {kvs : List (Key × V)} {k : Key} (e : H a = some (.dK kvs)) : DGet H a (kV k) (valV kvs k) := .inl ⟨kvs, k, .inl e, rfl, rfl⟩
theorem DGet.t {H : Hp} {a b : Addr} {kvs : List (List Key × V)} {k : List Key} (e : H a = some (.dT kvs)) (eb : H b = some (.tup (k.map kV))) : DGet H a (.ref b) (valV kvs k) := .inr ⟨kvs, k, b, .inl e, rfl, eb, rfl⟩
theorem DPut.k {H : Hp} {a : Addr} {kvs : List (Key × V)} {k : Key} {v : V} (e : H a = some (.dK kvs)) (hl : kvs.length < sizeLine) : DPut H a (kV k) v (upd H a (.dK (putK kvs k v))) := .inl ⟨kvs, k, e, rfl, hl, rfl⟩
theorem DPut.t {H : Hp} {a b : Addr} {kvs : List (List Key × V)} {k : List Key} {v : V} (e : H a = some (.dT kvs)) (eb : H b = some (.tup (k.map kV))) (hl : kvs.length < sizeLine) :
    DPut H a (.ref b) v (upd H a (.dT (putK kvs k v))) := .inr ⟨kvs, k, b, e, rfl, eb, hl, rfl⟩


section
variable {X : Cx} {pins : List (Addr × Obj)} {σ : St} {H : Hp} {s : Shared} {a : Addr} {y v : V} {u r : Value} {o : Option V} {A : Around} {E : Value → Shared → Prop}

theorem Inv.big (I : Inv X pins σ H s) : sysModules < s.heap.objs.size := by
  have h : mainGlobals < s.heap.objs.size := (I.mod.glob.keeps I.bk).lt
  exact Nat.lt_trans (by decide) h

/-- d[y], there -/
theorem d_getItem {Q : Value → Shared → Prop} (hu : A.units + 1 < cLine) (I : Inv X pins σ H s) (g : DGet H a y (some v)) (ry : RelV y u) (h : ∀ w' s', Inv X pins σ H s' → RelV v w' → Q w' s') :
    wpAny (model X.prog X.w) A (getItem (.ref a) u) Q E s := by
  rcases g with ⟨kvs, k, e, ey, l⟩ | ⟨kvs, k, b, e, ey, eb, l⟩
  · subst ey
    obtain ⟨z, hd, vs, rel, dd⟩ := dk_rd I.hok e
    obtain ⟨w', hw, rw'⟩ := RelO.some_of (v := v) (o := valueAt vs k) (by rw [l]; exact rel.val k)
    exact wpAny_getItem_of (kV_is ry) dd.mapOf hw (h w' _ (I.tok _) rw')
  · subst ey
    cases (show u = Value.ref b from ry)
    obtain ⟨z, hd, xs, rel, dd⟩ := dt_rd I.hok e
    obtain ⟨w', hw, rw'⟩ := RelO.some_of (v := v) (o := (atKey xs k).map (·.2)) (by rw [l]; exact rel.val k)
    obtain ⟨p, hp, hp2⟩ := Option.map_eq_some_iff.mp hw
    refine wpAny_getItem_heap (tupleKind_room_in1 hu) (key_of I.hok eb) dd hp ?_
    rw [hp2]
    exact h w' _ (I.tok _) rw'
/-- y in d -/
theorem d_in {Q : Value → Shared → Prop} (hu : A.units + 1 < cLine) (I : Inv X pins σ H s) (g : DGet H a y o) (ry : RelV y u) (h : ∀ s', Inv X pins σ H s' → Q (.bool o.isSome) s') :
    wpAny (model X.prog X.w) A (compareOp .In u (.ref a)) Q E s := by
  rcases g with ⟨kvs, k, e, ey, l⟩ | ⟨kvs, k, b, e, ey, eb, l⟩
  · subst ey
    obtain ⟨z, hd, vs, rel, dd⟩ := dk_rd I.hok e
    refine wpAny_in_of (kV_is ry) hd dd.mapOf ?_
    rw [← (rel.val k).isSome_eq, ← l]
    exact h _ (I.tok _)
  · subst ey
    cases (show u = Value.ref b from ry)
    obtain ⟨z, hd, xs, rel, dd⟩ := dt_rd I.hok e
    refine wpAny_in_heap (tupleKind_room_in1 hu) (key_of I.hok eb) hd dd ?_
    have q := (rel.val k).isSome_eq
    rw [Option.isSome_map] at q
    rw [← q, ← l]
    exact h _ (I.tok _)
theorem d_notIn {Q : Value → Shared → Prop} (hu : A.units + 1 < cLine) (I : Inv X pins σ H s) (g : DGet H a y o) (ry : RelV y u) (h : ∀ s', Inv X pins σ H s' → Q (.bool (!o.isSome)) s') :
    wpAny (model X.prog X.w) A (compareOp .NotIn u (.ref a)) Q E s := by
  rcases g with ⟨kvs, k, e, ey, l⟩ | ⟨kvs, k, b, e, ey, eb, l⟩
  · subst ey
    obtain ⟨z, hd, vs, rel, dd⟩ := dk_rd I.hok e
    refine wpAny_notIn_of (kV_is ry) hd dd.mapOf ?_
    rw [← (rel.val k).isSome_eq, ← l]
    exact h _ (I.tok _)
  · subst ey
    cases (show u = Value.ref b from ry)
    obtain ⟨z, hd, xs, rel, dd⟩ := dt_rd I.hok e
    refine wpAny_notIn_heap (tupleKind_room_in1 hu) (key_of I.hok eb) hd dd ?_
    have q := (rel.val k).isSome_eq
    rw [Option.isSome_map] at q
    rw [← q, ← l]
    exact h _ (I.tok _)
/-- a dict's object is replaced -/
theorem d_write {h' : Heap} {t' : Nat} {ob : HO} (I : Inv X pins σ H s) (mu : Mut (H a)) (hs : Heap.SameBut a s.heap h') (he : ∃ q, h'.get? a = some q) (new : ObjOk X.prog X.w (upd H a ob) h' a ob) :
    Inv X pins σ (upd H a ob) { s with heap := h', toks := t' } :=
  I.write (x := a) (e := a) mu (.inl rfl) (fun b q hb z => (hs.2 b hb).trans z) he new
theorem dk_new {P : Program} {w : World} {H' : Hp} {h' : Heap} {kvs : List (Key × V)} {vs : List (Key × Value)} (z : kvs.length ≤ sizeLine) (hd : (a == sysModules) = false) (rel : KV kvs vs) (dd : h'.DictOf (mixKind P w) a vs) :
    ObjOk P w H' h' a (.dK kvs) := ⟨z, hd, vs, rel, dd⟩
/-- d[y] = v -/
theorem d_setItem {H' : Hp} {Q : Unit → Shared → Prop} (hu : A.units + 1 < cLine) (I : Inv X pins σ H s) (g : DPut H a y v H') (ry : RelV y u) (rv : RelV v r) (h : ∀ s', Inv X pins σ H' s' → Q () s') :
    wpAny (model X.prog X.w) A (setItem (.ref a) u r) Q E s := by
  rcases g with ⟨kvs, k, e, ey, l, eH⟩ | ⟨kvs, k, b, e, ey, eb, l, eH⟩
  · subst ey eH
    obtain ⟨z, hd, vs, rel, dd⟩ := dk_of I.hok e
    have hz : vs.length ≤ sizeLine := by rw [← rel.length]; exact z
    have hl : (putK kvs k v).length ≤ sizeLine := by have := length_putK kvs k v; omega
    refine wpAny_setItem_pairs (hsz := hz) (kV_is ry) dd fun h' dd' hs => h _ ?_
    have he : ∃ q, h'.get? a = some q := let ⟨q, _, _, hq, _⟩ := dd'; ⟨q, hq⟩
    exact d_write I (by rw [e]; exact True.intro) hs he (dk_new hl hd (rel.put k rv) dd')
  · subst ey eH
    cases (show u = Value.ref b from ry)
    obtain ⟨z, hd, xs, rel, dd⟩ := dt_of I.hok e
    have hz : xs.length ≤ sizeLine := by rw [← Paired.length rel]; exact z
    have hl : (putK kvs k v).length ≤ sizeLine := by have := length_putK kvs k v; omega
    refine wpAny_setItem_heap (hsz := hz) (tupleKind_room_in1 hu) (key_of I.hok eb) dd fun h' dd' hs => h _ ?_
    obtain ⟨q, es, ep, hq, h2, h3, h4, _, h5⟩ := dd'
    refine d_write I (by rw [e]; exact True.intro) hs ⟨q, hq⟩ ⟨hl, hd, _, (rel.put k eb rv).keeps fun c ys ec => ?_, q, es, ep, hq, h2, h3, h4, h5⟩
    rw [upd_ne (ne_of ec e (fun z => nomatch z))]
    exact ec
end

section
variable {X : Cx} {pins : List (Addr × Obj)} {σ : St} {H : Hp} {s : Shared} {a : Addr} {kvs : List (Key × V)} {k : Key} {u : Value} {A : Around} {E : Value → Shared → Prop}
/-- del d[k] -/
theorem d_delItem {Q : Unit → Shared → Prop} (I : Inv X pins σ H s) (e : H a = some (.dK kvs)) (ry : RelV (kV k) u) (l : (valV kvs k).isSome = true) (h : ∀ s', Inv X pins σ (upd H a (.dK (dropK kvs k))) s' → Q () s') :
    wpAny (model X.prog X.w) A (delItem (.ref a) u) Q E s := by
  obtain ⟨z, hd, vs, rel, dd⟩ := dk_of I.hok e
  refine wpAny_delItem_slot dd.typeIs (by decide) PySem.F.slot_dict_delitem
    (call_meetsIn PySem.F.slot_dict_delitem dd.typeIs PySem.F.entry_dict_delitem (PySem.F.args_dict_delitem_2 _ _) (meets_dict_delitem_pairs (mixKind X.prog X.w) a (kV_is ry)) ⟨vs, dd, by rw [← rel.length]; exact z, by rw [← (rel.val k).isSome_eq]; exact l, fun h' dd' hs => h _ ?_⟩)
  have he : ∃ q, h'.get? a = some q := let ⟨q, _, _, hq, _⟩ := dd'; ⟨q, hq⟩
  exact d_write I (by rw [e]; exact True.intro) hs he (dk_new (Nat.le_trans (dropK_le kvs k) z) hd (rel.drop k) dd')
/-- d.pop(k[, x]), there -/
theorem d_pop {v : V} {more : List Value} {Q : Value → Shared → Prop} (I : Inv X pins σ H s) (e : H a = some (.dK kvs)) (ry : RelV (kV k) u) (l : valV kvs k = some v) (hm : more = [] ∨ ∃ x, more = [x])
    (h : ∀ w' s', Inv X pins σ (upd H a (.dK (dropK kvs k))) s' → RelV v w' → Q w' s') : wpAny (model X.prog X.w) A (call (.builtin "dict.pop") (.ref a :: u :: more)) Q E s := by
  obtain ⟨z, hd, vs, rel, dd⟩ := dk_of I.hok e
  obtain ⟨w', hw, rw'⟩ := RelO.some_of (v := v) (o := valueAt vs k) (by rw [← l]; exact rel.val k)
  have hp : (keyPart u).isSome = true := by
    cases k with
    | inl i => obtain ⟨t, q⟩ := (show ∃ t, u = Value.int i t from ry); subst q; rfl
    | inr x => obtain ⟨t, q⟩ := (show ∃ t, u = Value.str x t from ry); subst q; rfl
  have ha : argsOk "dict.pop" ⟨.ref a :: u :: more, []⟩ := by
    rcases hm with q | ⟨x, q⟩
    · subst q; exact PySem.F.args_dict_pop_2 _ _
    · subst q; exact PySem.F.args_dict_pop_3 _ _ _
  refine call_meetsIn PySem.F.slot_dict_pop dd.typeIs PySem.F.entry_dict_pop ha (meets_dict_pop_there (mixKind X.prog X.w) a (kV_is ry) more hm hp)
    ⟨vs, w', dd, by rw [← rel.length]; exact z, hw, fun h' dd' hs => h w' _ ?_ rw'⟩
  have he : ∃ q, h'.get? a = some q := let ⟨q, _, _, hq, _⟩ := dd'; ⟨q, hq⟩
  exact d_write I (by rw [e]; exact True.intro) hs he (dk_new (Nat.le_trans (dropK_le kvs k) z) hd (rel.drop k) dd')
/-- d.pop(k, x), not there -/
theorem d_popD {r : Value} {Q : Value → Shared → Prop} (I : Inv X pins σ H s) (e : H a = some (.dK kvs)) (ry : RelV (kV k) u) (l : valV kvs k = none) (h : ∀ s', Inv X pins σ H s' → Q r s') :
    wpAny (model X.prog X.w) A (call (.builtin "dict.pop") [.ref a, u, r]) Q E s := by
  obtain ⟨z, hd, vs, rel, dd⟩ := dk_of I.hok e
  have hn : valueAt vs k = none := RelO.none_of (by rw [← l]; exact rel.val k)
  have hp : (keyPart u).isSome = true := by
    cases k with
    | inl i => obtain ⟨t, q⟩ := (show ∃ t, u = Value.int i t from ry); subst q; rfl
    | inr x => obtain ⟨t, q⟩ := (show ∃ t, u = Value.str x t from ry); subst q; rfl
  exact call_meetsIn PySem.F.slot_dict_pop dd.typeIs PySem.F.entry_dict_pop (PySem.F.args_dict_pop_3 _ _ _) (meets_dict_pop_default (mixKind X.prog X.w) a (kV_is ry) hd hp r) ⟨vs, dd, hn, h _ (I.tok _)⟩
/-- d.clear() -/
theorem d_clear {Q : Value → Shared → Prop} (I : Inv X pins σ H s) (e : H a = some (.dK kvs)) (h : ∀ s', Inv X pins σ (upd H a (.dK [])) s' → Q .none s') : wpAny (model X.prog X.w) A (call (.builtin "dict.clear") [.ref a]) Q E s := by
  obtain ⟨z, hd, vs, rel, dd⟩ := dk_of I.hok e
  refine call_meetsIn PySem.F.slot_dict_clear dd.typeIs PySem.F.entry_dict_clear (PySem.F.args_dict_clear_1 _) (meets_dict_clear (mixKind X.prog X.w) a) ⟨vs, dd, by rw [← rel.length]; exact z, fun h' dd' hs => h _ ?_⟩
  have he : ∃ q, h'.get? a = some q := let ⟨q, _, _, hq, _⟩ := dd'; ⟨q, hq⟩
  exact d_write (t' := s.toks) I (by rw [e]; exact True.intro) hs he (dk_new (Nat.zero_le _) hd .nil dd')
/-- len(d) -/
theorem d_len {Q : Value → Shared → Prop} (I : Inv X pins σ H s) (e : Rd H a (.dK kvs)) (h : ∀ t s', Inv X pins σ H s' → Q (.int kvs.length t) s') : wpAny (model X.prog X.w) A (call (.builtin "len") [.ref a]) Q E s := by
  obtain ⟨z, hd, vs, rel, dd⟩ := dk_rd I.hok e
  refine call_len_dict hd dd (by rw [← rel.length]; rw [sizeLine_eq] at z; omega) ?_
  rw [← rel.length]
  exact h _ _ (I.tok _)
/-- if d -/
theorem d_truth {Q : Bool → Shared → Prop} (I : Inv X pins σ H s) (e : Rd H a (.dK kvs)) (h : ∀ s', Inv X pins σ H s' → Q (!kvs.isEmpty) s') : wpAny (model X.prog X.w) A (truthy (.ref a)) Q E s := by
  obtain ⟨z, hd, vs, rel, dd⟩ := dk_rd I.hok e
  refine wpAny_truthy_dict hd dd (by rw [← rel.length]; rw [sizeLine_eq] at z; omega) ?_
  have q : kvs.isEmpty = vs.isEmpty := by cases rel <;> rfl
  rw [← q]
  exact h _ (I.tok _)
end


/-! ### readings and rules -/
/-- the element of a subscription, not a slice -/
def NoSl (i : Expr) : Prop := ∀ ov iv, subscripted i false ov iv = operate [ov, iv] (getItem ov iv)
theorem subD_of {prog : Program} {w : World} {A : Around} {E : Value → Shared → Prop} {s : Shared} {env : Env} {value slice : Expr} {pos : Pos} {T id : String} {Q : Value → Shared → Prop}
    (hl : typeLookup (.type T) "__getitem__" = pure (some (.builtin id))) (hs : NoSl slice)
    (h : wpAny (model prog w) A (eval value env) (fun o s₁ => wpAny (model prog w) A (eval slice env) (fun i s₂ => s₂.TypeIs o T ∧ wpAny (model prog w) A (getItem o i) Q E s₂) E s₁) E s) :
    wpAny (model prog w) A (eval (.Subscript value slice pos) env) Q E s := by
  refine Subscript_ (wpAny_mono h (fun o s₁ h₁ => wpAny_mono h₁ (fun i s₂ h₂ => ?_) fun _ _ x => x) fun _ _ x => x)
  obtain ⟨hT, h₂⟩ := h₂
  unfold subscriptTail
  refine wpAny_bind ?_
  rw [getitemInPython_of_ne hT.not_modules]
  refine wpAny_bind (wpAny_specialOf hT hl ?_)
  have fin : wpAny (model prog w) A (subscripted slice false o i) (fun r s₃ => wpAny (model prog w) A (letTemporaryGo value o r >>= fun _ => pure r) Q E s₃) E s₂ := by
    rw [hs o i]
    exact wpAny_operating (wpAny_mono h₂ (fun r s₃ h₃ => wpAny_bind (wpAny_letTemporaryGo (wpAny_pure h₃))) fun _ _ x => x)
  first
    | exact wpAny_pure (wpAny_bind fin)
    | exact wpAny_bind (wpAny_pure (wpAny_bind fin))
    | exact wpAny_bind fin

theorem dict_typeIs {X : Cx} {pins : List (Addr × Obj)} {σ : St} {H : Hp} {s : Shared} {a : Addr} {y : V} {o : Option V} (I : Inv X pins σ H s) (g : DGet H a y o) : s.TypeIs (.ref a) "dict" := by
  rcases g with ⟨kvs, k, e, _, _⟩ | ⟨kvs, k, b, e, _, _, _⟩
  · obtain ⟨_, _, vs, _, dd⟩ := dk_rd I.hok e
    exact dd.typeIs
  · obtain ⟨_, _, xs, _, dd⟩ := dt_rd I.hok e
    exact dd.typeIs
theorem dict_noDict {X : Cx} {pins : List (Addr × Obj)} {σ : St} {H : Hp} {s : Shared} {a : Addr} {y : V} {o : Option V} (I : Inv X pins σ H s) (g : DGet H a y o) :
    ∀ b, Value.ref a = .ref b → ∃ ob, s.heap.get? b = some ob ∧ ob.dict = none := fun b q => by
  cases q
  rcases g with ⟨kvs, k, e, _, _⟩ | ⟨kvs, k, b, e, _, _, _⟩
  · obtain ⟨_, _, vs, _, ob, _, _, h1, h2, _⟩ := dk_rd I.hok e
    exact ⟨ob, h1, h2.2.1⟩
  · obtain ⟨_, _, xs, _, ob, _, _, h1, h2, _⟩ := dt_rd I.hok e
    exact ⟨ob, h1, h2.2.1⟩

/-- d[y] -/
def tDGet (td ty : TE) : TE := fun σ H Q => td σ H fun x H1 => ty σ H1 fun y H2 => ∃ a v, x = .ref a ∧ DGet H2 a y (some v) ∧ Q v H2
/-- y in d, y not in d -/
def tDIn (ty td : TE) : TE := fun σ H Q => ty σ H fun y H1 => td σ H1 fun x H2 => ∃ a o, x = .ref a ∧ DGet H2 a y o ∧ Q (.bl o.isSome) H2
def tDNotIn (ty td : TE) : TE := fun σ H Q => ty σ H fun y H1 => td σ H1 fun x H2 => ∃ a o, x = .ref a ∧ DGet H2 a y o ∧ Q (.bl (!o.isSome)) H2
/-- d[y] = v -/
def sDPut (td ty tv : TE) : TS := fun D σ H => tv σ H fun v H1 => td σ H1 fun x H2 => ty σ H2 fun y H3 => ∃ a H4, x = .ref a ∧ DPut H3 a y v H4 ∧ D.nx σ H4
/-- d[y] op= v -/
def sDAug (td ty tv : TE) (rd : V → V → Hp → VK → Prop) : TS := fun D σ H => td σ H fun x H1 => ty σ H1 fun y H2 => ∃ a v, x = .ref a ∧ DGet H2 a y (some v) ∧
  tv σ H2 fun y2 H3 => rd v y2 H3 fun z H4 => ∃ H5, DPut H4 a y z H5 ∧ D.nx σ H5
/-- del d[y] -/
def sDDel (td ty : TE) : TS := fun D σ H => td σ H fun x H1 => ty σ H1 fun y H2 => ∃ a kvs k, x = .ref a ∧ H2 a = some (.dK kvs) ∧ y = kV k ∧ (valV kvs k).isSome = true ∧ D.nx σ (upd H2 a (.dK (dropK kvs k)))

section
variable {X : Cx} {o i e value : Expr} {pos pos' tpos : Pos} {td ty tv : TE}
theorem pe_dget (hu : X.A.units + 1 < cLine) (ho : PE X o td) (hi : PE X i ty) (hs : NoSl i) : PE X (.Subscript o i pos) (tDGet td ty) := by
  intro pins s σ H Q I h
  refine subD_of PySem.F.slot_dict_getitem.lookup hs (thn (ho pins s σ H _ I h) fun u s1 ⟨x, H1, I1, rx, q1⟩ => thn (hi pins s1 σ H1 _ I1 q1) fun iv s2 ⟨y, H2, I2, ry, a, v, ex, g, q2⟩ => ?_)
  subst ex
  obtain rfl : u = Value.ref a := rx
  exact ⟨dict_typeIs I2 g, d_getItem hu I2 g ry fun w' s3 I3 rw' => ⟨v, H2, I3, rw', q2⟩⟩
theorem pc_din (hu : X.A.units + 1 < cLine) (hi : PE X i ty) (ho : PE X o td) : PC X .In i o (tDIn ty td) := by
  intro pins s σ H Q I h
  refine thn (hi pins s σ H _ I h) fun iv s1 ⟨y, H1, I1, ry, q1⟩ => thn (ho pins s1 σ H1 _ I1 q1) fun u s2 ⟨x, H2, I2, rx, a, ov, ex, g, q2⟩ => ?_
  subst ex
  obtain rfl : u = Value.ref a := rx
  exact d_in hu I2 g ry fun s3 I3 => ⟨.bl ov.isSome, H2, I3, rfl, q2⟩
theorem pc_dnotin (hu : X.A.units + 1 < cLine) (hi : PE X i ty) (ho : PE X o td) : PC X .NotIn i o (tDNotIn ty td) := by
  intro pins s σ H Q I h
  refine thn (hi pins s σ H _ I h) fun iv s1 ⟨y, H1, I1, ry, q1⟩ => thn (ho pins s1 σ H1 _ I1 q1) fun u s2 ⟨x, H2, I2, rx, a, ov, ex, g, q2⟩ => ?_
  subst ex
  obtain rfl : u = Value.ref a := rx
  exact d_notIn hu I2 g ry fun s3 I3 => ⟨.bl (!ov.isSome), H2, I3, rfl, q2⟩
theorem ps_dput (hu : X.A.units + 1 < cLine) (ho : PE X o td) (hi : PE X i ty) (hv : PE X value tv) (hs : swapsWith value (some (.Subscript o i pos')) pos.line X.env = pure false) :
    PS X (.Assign [.Subscript o i pos'] value pos) (sDPut td ty tv) := by
  intro pins s σ H D I h
  refine wpAny_Assign_Subscript (thn (hv pins s σ H _ I h) fun r s1 ⟨v, H1, I1, rv, q1⟩ => thn (ho pins s1 σ H1 _ I1 q1) fun u s2 ⟨x, H2, I2, rx, q2⟩ => thn (hi pins s2 σ H2 _ I2 q2) fun iv s3 ⟨y, H3, I3, ry, a, H4, ex, g, q3⟩ => ?_) hs
  subst ex
  obtain rfl : u = Value.ref a := rx
  exact d_setItem hu I3 g ry rv fun s4 I4 => ⟨σ, H4, I4, q3⟩
theorem ps_daug {op : Operator} {rd : V → V → Hp → VK → Prop} (hu : X.A.units + 1 < cLine) (ho : PE X o td) (hi : PE X i ty) (hv : PE X value tv) (hop : InOp X op rd)
    (ha : ∀ ov iv new, augStore i ov iv new = (do holding [new, ov, iv] (setItem ov iv new); release [new, ov, iv] []; pure .next)) : PS X (.AugAssign (.Subscript o i tpos) op value pos) (sDAug td ty tv rd) := by
  intro pins s σ H D I h
  refine wpAny_AugAssign_SubscriptAny (thn (ho pins s σ H _ I h) fun u s1 ⟨x, H1, I1, rx, q1⟩ => thn (hi pins s1 σ H1 _ I1 q1) fun iv s2 ⟨y, H2, I2, ry, a, v, ex, g, q2⟩ => ?_) ha
  subst ex
  obtain rfl : u = Value.ref a := rx
  refine d_getItem hu I2 g ry fun w' s3 I3 rw' => thn (hv pins s3 σ H2 _ I3 q2) fun w2 s4 ⟨y2, H3, I4, ry2, q3⟩ => thn (hop pins s4 σ H3 v y2 w' w2 _ I4 rw' ry2 q3) fun w3 s5 ⟨z, H4, I5, rz, H5, g5, q4⟩ => ?_
  exact d_setItem hu I5 g5 ry rz fun s6 I6 => ⟨σ, H5, I6, q4⟩
theorem ps_ddel (ho : PE X o td) (hi : PE X i ty) : PS X (.Delete [.Subscript o i tpos] pos) (sDDel td ty) := by
  intro pins s σ H D I h
  refine wpAny_Delete (wpAny_deleteEach_cons (wpAny_delete_Subscript (thn (ho pins s σ H _ I h) fun u s1 ⟨x, H1, I1, rx, q1⟩ => thn (hi pins s1 σ H1 _ I1 q1) fun iv s2 ⟨y, H2, I2, ry, a, kvs, k, ex, e, ey, l, q2⟩ => ?_)))
  subst ex ey
  obtain rfl : u = Value.ref a := rx
  exact d_delItem I2 e ry l fun s3 I3 => wpAny_deleteEach_nil ⟨σ, _, I3, q2⟩
end


/-! ### displays -/
theorem dk_empty {P : Program} {w : World} {H : Hp} (h : Heap) (hb : sysModules < h.objs.size) : ObjOk P w H (h.push { cls := .type "dict", data := .dict #[] }) h.objs.size (.dK []) :=
  ⟨Nat.zero_le _, beq_eq_false_iff_ne.mpr (Ne.symm (Nat.ne_of_lt hb)), [], .nil, Heap.DictOf.new h⟩
theorem dt_empty {P : Program} {w : World} {H : Hp} (h : Heap) (hb : sysModules < h.objs.size) : ObjOk P w H (h.push { cls := .type "dict", data := .dict #[] }) h.objs.size (.dT []) :=
  ⟨Nat.zero_le _, beq_eq_false_iff_ne.mpr (Ne.symm (Nat.ne_of_lt hb)), [], .nil, _, #[], 0, Heap.get?_push_size _ rfl, ⟨rfl, rfl, rfl⟩, rfl, rfl, List.nodup_nil⟩
/-- {}, to be a dict of the kind that is wanted -/
def tDNewK : TE := fun _ H Q => ∀ p, H p = none → Q (.ref p) (upd H p (.dK []))
def tDNewT : TE := fun _ H Q => ∀ p, H p = none → Q (.ref p) (upd H p (.dT []))
section
variable {X : Cx} {pos : Pos}
theorem pe_dnewK : PE X (.Dict [] [] pos) tDNewK := fun pins s σ H Q I h =>
  wpAny_Dict_empty ⟨.ref s.heap.objs.size, _, I.laid (a := s.heap.objs.size) (o := .dK []) (t' := s.toks) (fun _ _ q => Heap.get?_push_of_some _ q) (Nat.le_refl _) (dk_empty s.heap I.big), rfl, h _ (I.hok.fresh (Nat.le_refl _))⟩
theorem pe_dnewT : PE X (.Dict [] [] pos) tDNewT := fun pins s σ H Q I h =>
  wpAny_Dict_empty ⟨.ref s.heap.objs.size, _, I.laid (a := s.heap.objs.size) (o := .dT []) (t' := s.toks) (fun _ _ q => Heap.get?_push_of_some _ q) (Nat.le_refl _) (dt_empty s.heap I.big), rfl, h _ (I.hok.fresh (Nat.le_refl _))⟩
end

/-- the pairs of a display, from the left -/
def tPairs : List (TE × TE) → St → Hp → (List (V × V) → Hp → Prop) → Prop
  | [], _, H, Q => Q [] H
  | (tk, tv) :: r, σ, H, Q => tk σ H fun x H1 => tv σ H1 fun y H2 => tPairs r σ H2 fun ps H3 => Q ((x, y) :: ps) H3
abbrev VV : List (V × V) → List (Value × Value) → Prop := Paired fun p q => RelV p.1 q.1 ∧ RelV p.2 q.2
def PPs (X : Cx) (pos : Pos) (keys : List (Option Expr)) (values : List Expr) (trs : List (TE × TE)) : Prop :=
  ∀ (pins : List (Addr × Obj)) (s : Shared) (σ : St) (H : Hp) (Q : List (V × V) → Hp → Prop), Inv X pins σ H s → tPairs trs σ H Q →
    wpAny (model X.prog X.w) X.A (evalPairs (pairTrees keys values X.env pos)) (fun vs s' => ∃ ps H', Inv X pins σ H' s' ∧ VV ps vs ∧ Q ps H') X.xe s
theorem pps_nil {X : Cx} {pos : Pos} : PPs X pos [] [] [] := fun pins s σ H Q I h => pairTrees_nil_walk ⟨[], H, I, .nil, h⟩
theorem pps_cons {X : Cx} {pos : Pos} {k v : Expr} {ks : List (Option Expr)} {vs : List Expr} {tk tv : TE} {trs : List (TE × TE)} (hk : PE X k tk) (hv : PE X v tv) (hr : PPs X pos ks vs trs) :
    PPs X pos (some k :: ks) (v :: vs) ((tk, tv) :: trs) := fun pins s σ H Q I h =>
  pairTrees_cons_walk (thn (hk pins s σ H _ I h) fun u s1 ⟨x, H1, I1, rx, q1⟩ => thn (hv pins s1 σ H1 _ I1 q1) fun w2 s2 ⟨y, H2, I2, ry, q2⟩ =>
    thn (hr pins s2 σ H2 _ I2 q2) fun ws s3 ⟨ps, H3, I3, rel, q3⟩ => ⟨(x, y) :: ps, H3, I3, .cons ⟨rx, ry⟩ rel, q3⟩)

def mergeK (kvs more : List (Key × V)) : List (Key × V) := more.foldl (fun acc kv => putK acc kv.1 kv.2) kvs
theorem KV.merge : ∀ {more : List (Key × V)} {rs : List (Key × Value)} {kvs : List (Key × V)} {vs : List (Key × Value)}, KV more rs → KV kvs vs → KV (mergeK kvs more) (merged vs rs) := by
  intro more rs kvs vs r
  unfold KV at r
  induction r generalizing kvs vs with
  | nil => intro q; exact q
  | @cons p q ps qs h t ih =>
    intro r0
    have e : KV (putK kvs p.1 p.2) (stored vs q.1 q.2) := by
      have := r0.put p.1 h.2
      rw [← h.1]; exact this
    exact ih e
theorem length_mergeK : ∀ (more kvs : List (Key × V)), (mergeK kvs more).length ≤ kvs.length + more.length
  | [], kvs => by show kvs.length ≤ kvs.length + 0; omega
  | p :: r, kvs => by
    have h1 := length_mergeK r (putK kvs p.1 p.2)
    have h2 := length_putK kvs p.1 p.2
    show (mergeK (putK kvs p.1 p.2) r).length ≤ _
    rw [List.length_cons]; omega
theorem carries_of {P : Program} {w : World} : ∀ {kvs : List (Key × V)} {ws : List (Value × Value)}, VV (kvs.map fun kv => (kV kv.1, kv.2)) ws → ∃ rs, Carries (mixKind P w) ws rs ∧ KV kvs rs
  | [], _, r => by rw [List.map_nil] at r; cases r; exact ⟨[], True.intro, .nil⟩
  | p :: kvs, _, r => by
    rw [List.map_cons] at r
    cases r with
    | @cons a b as bs h t =>
      obtain ⟨rs, c, q⟩ := carries_of (P := P) (w := w) t
      obtain ⟨b1, b2⟩ := b
      exact ⟨(p.1, b2) :: rs, ⟨kV_is h.1, rfl, c⟩, .cons ⟨rfl, h.2⟩ q⟩
/-- {k: v, ..} with keys ints and texts; the new dict stands empty while the pairs are made -/
def tDisp (trs : List (TE × TE)) : TE := fun σ H Q => ∀ p, H p = none → tPairs trs σ (upd H p (.dK [])) fun ps H2 => H2 p = some (.dK []) ∧ ∃ kvs : List (Key × V), ps = kvs.map (fun kv => (kV kv.1, kv.2)) ∧ kvs.length ≤ 15 ∧ Q (.ref p) (upd H2 p (.dK (mergeK [] kvs)))
theorem pe_disp {X : Cx} {pos : Pos} {keys : List (Option Expr)} {values : List Expr} {trs : List (TE × TE)} (h : PPs X pos keys values trs) (hall : keys.all (·.isSome) = true) (hl : keys.length = values.length) (h0 : keys ≠ [])
    (h15 : keys.length ≤ 15) : PE X (.Dict keys values pos) (tDisp trs) := by
  intro pins s σ H Q I q
  have hn := I.hok.fresh (Nat.le_refl s.heap.objs.size)
  have I1 := I.laid (a := s.heap.objs.size) (o := .dK []) (h' := s.heap.push { cls := .type "dict", data := .dict #[] }) (t' := s.toks) (fun _ _ q => Heap.get?_push_of_some _ q) (Nat.le_refl _) (dk_empty s.heap I.big)
  refine wpAny_Dict_walk (knd := mixKind X.prog X.w) hall hl h0 h15 (thn (h pins _ σ _ _ I1 (q _ hn)) fun ws s2 ⟨ps, H2, I2, rel, e, kvs, ep, lk, q2⟩ => ?_)
  subst ep
  obtain ⟨rs, c, rk⟩ := carries_of (P := X.prog) (w := X.w) rel
  obtain ⟨z, hd, vs0, r0, dd⟩ := dk_of I2.hok e
  cases r0
  refine ⟨rs, c, dd, fun h' dd' hs => ⟨.ref s.heap.objs.size, _, ?_, rfl, q2⟩⟩
  have hz : (mergeK [] kvs).length ≤ sizeLine := by
    have h1 := length_mergeK kvs []
    rw [List.length_nil] at h1
    rw [sizeLine_eq]; omega
  have he : ∃ q, h'.get? s.heap.objs.size = some q := let ⟨q, _, _, hq, _⟩ := dd'; ⟨q, hq⟩
  exact d_write I2 (by rw [e]; exact True.intro) hs he (dk_new hz hd (rk.merge .nil) dd')


/-! ### methods -/
/-- a method call o.m(e) of a built-in, with one argument: what must be seen of the text -/
structure M1 (X : Cx) (o : Expr) (m : Str) (apos : Pos) (e : Expr) (cpos : Pos) : Prop where
  base : attributeBase o m X.env (eval o X.env) = eval o X.env
  few : ((backTo cpos (starEach [e] X.env)).all (fun x => !x.1) && (backToKw cpos (keywordEach [] X.env)).all (fun x => x.1.isSome)
    && decide (([e] : List Expr).length + ([] : List Keyword).length + (if ([] : List Keyword).isEmpty then 0 else 1) < 30)) = true
  line : (apos.endLine == cpos.line) = true
  trees : backTo cpos (starEach [e] X.env) = [(false, eval e X.env)]
structure M2 (X : Cx) (o : Expr) (m : Str) (apos : Pos) (e f : Expr) (cpos : Pos) : Prop where
  base : attributeBase o m X.env (eval o X.env) = eval o X.env
  few : ((backTo cpos (starEach [e, f] X.env)).all (fun x => !x.1) && (backToKw cpos (keywordEach [] X.env)).all (fun x => x.1.isSome)
    && decide (([e, f] : List Expr).length + ([] : List Keyword).length + (if ([] : List Keyword).isEmpty then 0 else 1) < 30)) = true
  line : (apos.endLine == cpos.line) = true
  trees : backTo cpos (starEach [e, f] X.env) = [(false, eval e X.env), (false, eval f X.env)]

/-- a is a dict, whatever its keys -/
def IsD (H : Hp) (a : Addr) : Prop := (∃ kvs, Rd H a (.dK kvs)) ∨ ∃ kvs, Rd H a (.dT kvs)
theorem isD_at {X : Cx} {pins : List (Addr × Obj)} {σ : St} {H : Hp} {s : Shared} {a : Addr} (I : Inv X pins σ H s) (d : IsD H a) :
    s.TypeIs (.ref a) "dict" ∧ (∀ b, Value.ref a = .ref b → ∃ ob, s.heap.get? b = some ob ∧ ob.dict = none) ∧ (a == sysModules) = false := by
  rcases d with ⟨kvs, e⟩ | ⟨kvs, e⟩
  · obtain ⟨_, hd, vs, _, dd⟩ := dk_rd I.hok e
    refine ⟨dd.typeIs, fun b q => ?_, hd⟩
    cases q
    obtain ⟨ob, _, _, h1, h2, _⟩ := dd
    exact ⟨ob, h1, h2.2.1⟩
  · obtain ⟨_, hd, xs, _, dd⟩ := dt_rd I.hok e
    refine ⟨dd.typeIs, fun b q => ?_, hd⟩
    cases q
    obtain ⟨ob, _, _, h1, h2, _⟩ := dd
    exact ⟨ob, h1, h2.2.1⟩

section
variable {X : Cx} {pins : List (Addr × Obj)} {σ : St} {H : Hp} {s : Shared} {a : Addr} {y d : V} {u r : Value} {o : Option V} {A : Around} {E : Value → Shared → Prop}
/-- d.get(y) -/
theorem d_get1 {Q : Value → Shared → Prop} (hu : A.units + 1 < cLine) (I : Inv X pins σ H s) (g : DGet H a y o) (ry : RelV y u) (h : ∀ w' s', Inv X pins σ H s' → RelV (o.getD .non) w' → Q w' s') :
    wpAny (model X.prog X.w) A (call (.builtin "dict.get") [.ref a, u]) Q E s := by
  rcases g with ⟨kvs, k, e, ey, l⟩ | ⟨kvs, k, b, e, ey, eb, l⟩
  · subst ey
    obtain ⟨z, hd, vs, rel, dd⟩ := dk_rd I.hok e
    refine call_meetsIn PySem.F.slot_dict_get dd.typeIs PySem.F.entry_dict_get (PySem.F.args_dict_get_2 _ _) (meets_dict_get (mixKind X.prog X.w) a (kV_is ry) hd) ⟨_, dd.mapOf, h _ _ (I.tok _) ?_⟩
    rw [l]
    exact (rel.val k).getD rfl
  · subst ey
    cases (show u = Value.ref b from ry)
    obtain ⟨z, hd, xs, rel, dd⟩ := dt_rd I.hok e
    refine call_meetsIn PySem.F.slot_dict_get dd.typeIs PySem.F.entry_dict_get (PySem.F.args_dict_get_2 _ _) (meetsH_dict_get (tupleKind (mixKind X.prog X.w)) a b hd) ⟨tupleKind_room_in1 hu, k, xs, key_of I.hok eb, dd, h _ _ (I.tok _) ?_⟩
    rw [l]
    exact (rel.val k).getD rfl
/-- d.get(y, x) -/
theorem d_get2 {Q : Value → Shared → Prop} (hu : A.units + 1 < cLine) (I : Inv X pins σ H s) (g : DGet H a y o) (ry : RelV y u) (rd : RelV d r) (h : ∀ w' s', Inv X pins σ H s' → RelV (o.getD d) w' → Q w' s') :
    wpAny (model X.prog X.w) A (call (.builtin "dict.get") [.ref a, u, r]) Q E s := by
  rcases g with ⟨kvs, k, e, ey, l⟩ | ⟨kvs, k, b, e, ey, eb, l⟩
  · subst ey
    obtain ⟨z, hd, vs, rel, dd⟩ := dk_rd I.hok e
    refine call_meetsIn PySem.F.slot_dict_get dd.typeIs PySem.F.entry_dict_get (PySem.F.args_dict_get_3 _ _ _) (meets_dict_get_default (mixKind X.prog X.w) a (kV_is ry) hd r) ⟨_, dd.mapOf, h _ _ (I.tok _) ?_⟩
    rw [l]
    exact (rel.val k).getD rd
  · subst ey
    cases (show u = Value.ref b from ry)
    obtain ⟨z, hd, xs, rel, dd⟩ := dt_rd I.hok e
    refine call_meetsIn PySem.F.slot_dict_get dd.typeIs PySem.F.entry_dict_get (PySem.F.args_dict_get_3 _ _ _) (meetsH_dict_get_default (tupleKind (mixKind X.prog X.w)) a b hd r) ⟨tupleKind_room_in1 hu, k, xs, key_of I.hok eb, dd, h _ _ (I.tok _) ?_⟩
    rw [l]
    exact (rel.val k).getD rd
end

def tDGet1 (td ty : TE) : TE := fun σ H Q => td σ H fun x H1 => ∃ a, x = .ref a ∧ IsD H1 a ∧ ty σ H1 fun y H2 => ∃ o, DGet H2 a y o ∧ Q (o.getD .non) H2
def tDGet2 (td ty tx : TE) : TE := fun σ H Q => td σ H fun x H1 => ∃ a, x = .ref a ∧ IsD H1 a ∧ ty σ H1 fun y H2 => tx σ H2 fun z H3 => ∃ o, DGet H3 a y o ∧ Q (o.getD z) H3
/-- d.pop(k): there; d.pop(k, x): there or not -/
def tDPop1 (td ty : TE) : TE := fun σ H Q => td σ H fun x H1 => ∃ a, x = .ref a ∧ IsD H1 a ∧ ty σ H1 fun y H2 => ∃ kvs k v, H2 a = some (.dK kvs) ∧ y = kV k ∧ valV kvs k = some v ∧ Q v (upd H2 a (.dK (dropK kvs k)))
def tDPop2 (td ty tx : TE) : TE := fun σ H Q => td σ H fun x H1 => ∃ a, x = .ref a ∧ IsD H1 a ∧ ty σ H1 fun y H2 => tx σ H2 fun z H3 => ∃ kvs k, H3 a = some (.dK kvs) ∧ y = kV k ∧
  (∀ v, valV kvs k = some v → Q v (upd H3 a (.dK (dropK kvs k)))) ∧ (valV kvs k = none → Q z H3)
section
variable {X : Cx} {o e f : Expr} {apos cpos : Pos} {td ty tx : TE}
theorem pe_dget1 (hu : X.A.units + 1 < cLine) (ho : PE X o td) (he : PE X e ty) (m : M1 X o "get" apos e cpos) : PE X (.Call (.Attribute o "get" apos) [e] [] cpos) (tDGet1 td ty) := by
  intro pins s σ H Q I h
  refine wpAny_Call_method m.base m.few m.line PySem.F.plainAttrs_dict PySem.F.slot_dict_get PySem.F.type_dict_get (thn (ho pins s σ H _ I h) fun u s1 ⟨x, H1, I1, rx, a, ex, d, q1⟩ => ?_)
  subst ex
  obtain rfl : u = Value.ref a := rx
  obtain ⟨t1, t2, _⟩ := isD_at I1 d
  refine ⟨t1, t2, ?_⟩
  rw [m.trees]
  refine Calls.callWith_builtin rfl (Calls.evalArgs_plain (Calls.spliced_cons (thn (he pins s1 σ H1 _ I1 q1) fun iv s2 ⟨y, H2, I2, ry, ov, g, q2⟩ => Calls.spliced_nil ?_)))
  exact d_get1 hu I2 g ry fun w' s3 I3 rw' => ⟨_, H2, I3, rw', q2⟩
theorem pe_dget2 (hu : X.A.units + 1 < cLine) (ho : PE X o td) (he : PE X e ty) (hf : PE X f tx) (m : M2 X o "get" apos e f cpos) : PE X (.Call (.Attribute o "get" apos) [e, f] [] cpos) (tDGet2 td ty tx) := by
  intro pins s σ H Q I h
  refine wpAny_Call_method m.base m.few m.line PySem.F.plainAttrs_dict PySem.F.slot_dict_get PySem.F.type_dict_get (thn (ho pins s σ H _ I h) fun u s1 ⟨x, H1, I1, rx, a, ex, d, q1⟩ => ?_)
  subst ex
  obtain rfl : u = Value.ref a := rx
  obtain ⟨t1, t2, _⟩ := isD_at I1 d
  refine ⟨t1, t2, ?_⟩
  rw [m.trees]
  refine Calls.callWith_builtin rfl (Calls.evalArgs_plain (Calls.spliced_cons (thn (he pins s1 σ H1 _ I1 q1) fun iv s2 ⟨y, H2, I2, ry, q2⟩ =>
    Calls.spliced_cons (thn (hf pins s2 σ H2 _ I2 q2) fun fv s3 ⟨z, H3, I3, rz, ov, g, q3⟩ => Calls.spliced_nil ?_))))
  exact d_get2 hu I3 g ry rz fun w' s4 I4 rw' => ⟨_, H3, I4, rw', q3⟩
theorem pe_dpop1 (ho : PE X o td) (he : PE X e ty) (m : M1 X o "pop" apos e cpos) : PE X (.Call (.Attribute o "pop" apos) [e] [] cpos) (tDPop1 td ty) := by
  intro pins s σ H Q I h
  refine wpAny_Call_method m.base m.few m.line PySem.F.plainAttrs_dict PySem.F.slot_dict_pop PySem.F.type_dict_pop (thn (ho pins s σ H _ I h) fun u s1 ⟨x, H1, I1, rx, a, ex, d, q1⟩ => ?_)
  subst ex
  obtain rfl : u = Value.ref a := rx
  obtain ⟨t1, t2, _⟩ := isD_at I1 d
  refine ⟨t1, t2, ?_⟩
  rw [m.trees]
  refine Calls.callWith_builtin rfl (Calls.evalArgs_plain (Calls.spliced_cons (thn (he pins s1 σ H1 _ I1 q1) fun iv s2 ⟨y, H2, I2, ry, kvs, k, v, ea, ey, l, q2⟩ => Calls.spliced_nil ?_)))
  subst ey
  exact d_pop I2 ea ry l (.inl rfl) fun w' s3 I3 rw' => ⟨v, _, I3, rw', q2⟩
theorem pe_dpop2 (ho : PE X o td) (he : PE X e ty) (hf : PE X f tx) (m : M2 X o "pop" apos e f cpos) : PE X (.Call (.Attribute o "pop" apos) [e, f] [] cpos) (tDPop2 td ty tx) := by
  intro pins s σ H Q I h
  refine wpAny_Call_method m.base m.few m.line PySem.F.plainAttrs_dict PySem.F.slot_dict_pop PySem.F.type_dict_pop (thn (ho pins s σ H _ I h) fun u s1 ⟨x, H1, I1, rx, a, ex, d, q1⟩ => ?_)
  subst ex
  obtain rfl : u = Value.ref a := rx
  obtain ⟨t1, t2, _⟩ := isD_at I1 d
  refine ⟨t1, t2, ?_⟩
  rw [m.trees]
  refine Calls.callWith_builtin rfl (Calls.evalArgs_plain (Calls.spliced_cons (thn (he pins s1 σ H1 _ I1 q1) fun iv s2 ⟨y, H2, I2, ry, q2⟩ =>
    Calls.spliced_cons (thn (hf pins s2 σ H2 _ I2 q2) fun fv s3 ⟨z, H3, I3, rz, kvs, k, ea, ey, q3, q4⟩ => Calls.spliced_nil ?_))))
  subst ey
  cases l : valV kvs k with
  | some v => exact d_pop I3 ea ry l (.inr ⟨fv, rfl⟩) fun w' s4 I4 rw' => ⟨v, _, I4, rw', q3 v l⟩
  | none => exact d_popD I3 ea ry l fun s4 I4 => ⟨z, H3, I4, rz, q4 l⟩
end

/-! ### dict(d): a copy -/
section
variable {X : Cx} {pins : List (Addr × Obj)} {σ : St} {H : Hp} {s : Shared} {a : Addr} {kvs : List (Key × V)} {A : Around} {E : Value → Shared → Prop}
theorem d_copyOf {Q : Value → Shared → Prop} (I : Inv X pins σ H s) (e : Rd H a (.dK kvs)) (h : ∀ p s', H p = none → Inv X pins σ (upd H p (.dK kvs)) s' → Q (.ref p) s') : wpAny (model X.prog X.w) A (call (.type "dict") [.ref a]) Q E s := by
  obtain ⟨z, hd, vs, rel, dd⟩ := dk_rd I.hok e
  refine kt_call_dict hd dd (by rw [← rel.length]; exact z) fun h' dd' hs => ?_
  refine h _ _ (I.hok.fresh (Nat.le_refl _)) (I.laid (a := s.heap.objs.size) (o := .dK kvs) (t' := s.toks) (fun b q hq => ?_) (Nat.le_refl _) (dk_new z (beq_eq_false_iff_ne.mpr (Ne.symm (Nat.ne_of_lt I.big))) rel dd'))
  exact (hs.2 b (Nat.ne_of_lt (Heap.lt_size hq))).trans (Heap.get?_push_of_some _ hq)
end


section
variable {X : Cx} {pins : List (Addr × Obj)} {σ : St} {H : Hp} {s : Shared} {a : Addr} {y : V} {u : Value} {A : Around} {E : Value → Shared → Prop}
/-- d[y], not there: a KeyError -/
theorem d_missing {Q : Value → Shared → Prop} (hu : A.units + 1 < cLine) (hh : A.handled = none) (I : Inv X pins σ H s) (g : DGet H a y none) (ry : RelV y u)
    (h : ∀ h' e t', Heap.NewExc s.heap h' e "KeyError" → E (.ref e) { s with heap := h', toks := t' }) : wpAny (model X.prog X.w) A (getItem (.ref a) u) Q E s := by
  rcases g with ⟨kvs, k, e, ey, l⟩ | ⟨kvs, k, b, e, ey, eb, l⟩
  · subst ey
    obtain ⟨z, hd, vs, rel, dd⟩ := dk_rd I.hok e
    have hn : valueAt vs k = none := RelO.none_of (by rw [l]; exact rel.val k)
    exact wpAny_getItem_missing_of (kV_is ry) hd hh dd.mapOf hn fun h' ex ne => h h' ex _ ne
  · subst ey
    cases (show u = Value.ref b from ry)
    obtain ⟨z, hd, xs, rel, dd⟩ := dt_rd I.hok e
    have hn : (atKey xs k).map (·.2) = none := RelO.none_of (by rw [l]; exact rel.val k)
    exact wpAny_getItem_missing_heap (tupleKind_room_in1 hu) (key_of I.hok eb) hd hh dd (Option.map_eq_none_iff.mp hn) fun h' ex ne => h h' ex _ ne
end
end L2

namespace Att
open PySem PySem.W PySem.Calls PyProof.Rows

/-! ### the script -/
theorem ints_of_wellAll {P : Params} {h : Heap} : ∀ (ns : List Int) (vs : List Value), WellAll P h vs (ns.map WData.int) → IntsAre vs ns := by
  intro ns
  induction ns with
  | nil =>
    intro vs w
    rw [List.map_nil] at w
    cases w
    exact .nil
  | cons n ns ih =>
    intro vs w
    rw [List.map_cons] at w
    cases w with
    | cons a b =>
      cases a
      exact .cons _ _ (ih _ b)

theorem script_of {l : OpenLaw} {n : Nat} (hn : l.most = some n) {P : Params} {h : Heap} {args : List WData} {vals : List Value}
    (hpre : l.row.toRowW.claim.pre args = true) (hwl : WellAll P h vals args) :
    ∃ a vs ns, vals = [Value.ref a] ∧ args = [WData.list (ns.map WData.int)] ∧ h.get? a = some { cls := .type "list", data := .seq vs.toArray } ∧ IntsAre vs ns ∧ ns.length ≤ n := by
  have hsh : WShape.hasAll [] args [.list .int] = true := (pre_splitW hpre).1
  have hc : l.pre.holds [] { args := args } = true := (pre_splitW hpre).2
  obtain ⟨d, r, rfl, h1, h2⟩ := hasAllW_cons hsh
  obtain rfl := hasAllW_nil h2
  obtain ⟨xs, rfl, h3⟩ := hasW_list h1
  obtain ⟨ns, rfl⟩ := items_int h3
  have hlen : ns.length ≤ n := by
    unfold OpenLaw.pre at hc
    have h4 : (WTm.not (.lt (.lit (.int (n : Int))) (.len (.arg 0)))).holds [] { args := [.list (ns.map .int)] } = true := by
      have h4 := (holds_andW hc).1
      rw [hn] at h4
      exact h4
    have h5 := condW_of h4 (w_not (w_lt w_lit (w_len_list (w_arg rfl))))
    rw [List.length_map] at h5
    refine Nat.le_of_not_lt fun q => ?_
    have q' : (n : Int) < ((ns.length : Nat) : Int) := by omega
    first
      | (rw [decide_eq_true q'] at h5; exact absurd h5 (by decide))
      | (simp at h5; omega)
  cases hwl with
  | cons w1 w2 =>
    cases w2
    cases w1 with
    | list ho hall => exact ⟨_, _, ns, rfl, rfl, ho, ints_of_wellAll ns _ hall, hlen⟩

theorem post_true (l : OpenLaw) (args : List WData) : l.row.toRowW.claim.post args (.bool true) args = true :=
  postW_of (r := l.row.toRowW) (X := (true == true))
    (show WShape.has [] (.bool true) .bool = true by first | rfl | decide | simp [WShape.has, WShape.arms, WShape.armsAll])
    (show (WTm.eq .res (.lit (.bool true))).value [] { args := args, res := some (.bool true), after := args } = some (.bool (true == true)) from w_eq_bool (w_res rfl) w_lit) rfl

/-! ### the attachment: holds_open's last premise (the goal 'hc' behind k_head) from a wpAny of the law's body -/
theorem attach {l : OpenLaw} {n : Nat} {q : Program} {loose : List Str} {XP : (Str → Option Value) → Heap → Prop} {YP : World → Heap → Prop} {d : DefRec} {x : Str}
    (hn : l.most = some n) (hdf : d.params.defaults = [])
    (hbind : ∀ pm cd doc v : Value, bindArgs (docDef d.name d.params d.body d.scope pm cd doc) ⟨[v], []⟩ = pure [(x, v)])
    (hx : d.scope.names.lookup x = some .local ∨ d.scope.names.lookup x = some .cell)
    (hk : d.scope.kind = .function) (hco : d.scope.isCoroutine = false) (hgen : d.scope.isGenerator = false)
    (body : ∀ (w : World) (s₀ s₁ s : Shared) (mg mb : Str → Option Value) (fa : Addr) (o : Obj) (pm cd doc : Value) (a : Addr) (vs : List Value) (ns : List Int),
      Ground q loose [] XP w s₀ mg mb s₁.heap → YP w s₁.heap →
      s₁.heap.get? fa = some o → o.data = .func (docDef d.name d.params d.body d.scope pm cd doc) → s₁.heap.CodeRec cd d.name → mg d.name = some (.ref fa) →
      s₁.heap.get? a = some { cls := .type "list", data := .seq vs.toArray } → IntsAre vs ns → ns.length ≤ n →
      s.gens = #[] → s.os = s₁.os →
      Fr s₁.heap s₁.heap.objs.size s.heap (bindL (envOfC d.name d.scope s₁.heap.objs.size fa cd).kindOf [(x, .ref a)] fun _ => none) →
      Cl s₁.heap.objs.size (cellsFrom (s₁.heap.objs.size + 1) d.scope.names []) s.heap (bindC (envOfC d.name d.scope s₁.heap.objs.size fa cd).kindOf [(x, .ref a)] fun _ => none) →
      wpAny (model l.prog w) (callerA.deeper (envOfC d.name d.scope s₁.heap.objs.size fa cd)) (execs d.body (envOfC d.name d.scope s₁.heap.objs.size fa cd))
        (fun f s' => f = .ret (.bool true) ∧ OldK s₁.heap s'.heap ∧ s'.os = s₁.os ∧ AllBare s'.gens) (fun _ _ => False) s) :
    WalkO q loose XP YP l.row.toRowW d [] (fun f vs => PySem.call f vs) := by
  intro w s₀ s₁ mg mb G Y fa o pm cd doc dV kV ho hd hcd hD hmg hg args vals as hpre hlay hrd hwl hlo
  obtain rfl : dV = .none := Dflts.none hD hdf
  obtain rfl : kV = .none := Dflts.noKw hD
  obtain ⟨a, vs, ns, rfl, rfl, hobj, hints, hlen⟩ := script_of hn hpre hwl
  refine enter_call ?_
  refine call_cells_ret (o := o) (by rw [depth_caller]; decide) ho (fd_plain hd) G.T.nolimit hcd (hbind pm cd doc (.ref a)) (fun y hy => ?_) (fun h₁ tk F X => ?_) hco hgen hk
  · obtain rfl : y = (x, Value.ref a) := List.mem_singleton.mp hy
    rcases hx with e | e
    · exact .inl e
    · exact .inr ⟨e, cellsFrom_some _ _ _ (.inl e)⟩
  · refine wpAny_mono (body w s₀ s₁ { s₁ with heap := h₁, toks := tk } mg mb fa o pm cd doc a vs ns G Y ho (fd_plain hd) hcd hmg hobj hints hlen hg rfl F X) (fun f s' hq => ?_) (fun _ _ hq => hq)
    obtain ⟨rfl, h2, h3, h4⟩ := hq
    exact ⟨.inl ⟨.bool true, .bool true, [], rfl, fun _ => rfl, .bool true, post_true l _, fun _ => ⟨List.Pairwise.nil, fun _ hm => (nomatch hm)⟩⟩, h2, h3, h4⟩

/-- the same from a codeAny of the CALL (for a layer whose function contracts speak of calls) -/
theorem attach_call {l : OpenLaw} {n : Nat} {q : Program} {loose : List Str} {XP : (Str → Option Value) → Heap → Prop} {YP : World → Heap → Prop} {d : DefRec}
    (hn : l.most = some n) (hdf : d.params.defaults = [])
    (call : ∀ (w : World) (s₀ s₁ : Shared) (mg mb : Str → Option Value) (fa : Addr) (o : Obj) (pm cd doc : Value) (a : Addr) (vs : List Value) (ns : List Int),
      Ground q loose [] XP w s₀ mg mb s₁.heap → YP w s₁.heap →
      s₁.heap.get? fa = some o → o.data = .func (docDef d.name d.params d.body d.scope pm cd doc) → s₁.heap.CodeRec cd d.name → mg d.name = some (.ref fa) →
      s₁.heap.get? a = some { cls := .type "list", data := .seq vs.toArray } → IntsAre vs ns → ns.length ≤ n → s₁.gens = #[] →
      codeAny (model l.prog w) callerA (.call (.ref fa) ⟨[.ref a], []⟩) (fun r s' => r = .ok (.ret (.bool true)) ∧ OldK s₁.heap s'.heap ∧ s'.os = s₁.os ∧ AllBare s'.gens) s₁) :
    WalkO q loose XP YP l.row.toRowW d [] (fun f vs => PySem.call f vs) := by
  intro w s₀ s₁ mg mb G Y fa o pm cd doc dV kV ho hd hcd hD hmg hg args vals as hpre hlay hrd hwl hlo
  obtain rfl : dV = .none := Dflts.none hD hdf
  obtain rfl : kV = .none := Dflts.noKw hD
  obtain ⟨a, vs, ns, rfl, rfl, hobj, hints, hlen⟩ := script_of hn hpre hwl
  refine enter_call (codeAny_mono (call w s₀ s₁ mg mb fa o pm cd doc a vs ns G Y ho (fd_plain hd) hcd hmg hobj hints hlen hg) fun r s' hq => ?_)
  obtain ⟨rfl, h2, h3, h4⟩ := hq
  exact ⟨.inl ⟨.bool true, .bool true, [], rfl, fun _ => rfl, .bool true, post_true l _, fun _ => ⟨List.Pairwise.nil, fun _ hm => (nomatch hm)⟩⟩, h2, h3, h4⟩

/-- the same where the top left finished generators (o_head chose holds_openN): nothing may have changed at all and no generator may be left -/
theorem attachN {l : OpenLaw} {n : Nat} {q : Program} {loose : List Str} {XP : (Str → Option Value) → Heap → Prop} {YP : World → Heap → Prop} {d : DefRec} {x : Str}
    (hn : l.most = some n) (hdf : d.params.defaults = [])
    (hbind : ∀ pm cd doc v : Value, bindArgs (docDef d.name d.params d.body d.scope pm cd doc) ⟨[v], []⟩ = pure [(x, v)])
    (hx : d.scope.names.lookup x = some .local ∨ d.scope.names.lookup x = some .cell)
    (hk : d.scope.kind = .function) (hco : d.scope.isCoroutine = false) (hgen : d.scope.isGenerator = false)
    (body : ∀ (w : World) (s₀ s₁ s : Shared) (mg mb : Str → Option Value) (fa : Addr) (o : Obj) (pm cd doc : Value) (a : Addr) (vs : List Value) (ns : List Int),
      Ground q loose [] XP w s₀ mg mb s₁.heap → YP w s₁.heap →
      s₁.heap.get? fa = some o → o.data = .func (docDef d.name d.params d.body d.scope pm cd doc) → s₁.heap.CodeRec cd d.name → mg d.name = some (.ref fa) →
      s₁.heap.get? a = some { cls := .type "list", data := .seq vs.toArray } → IntsAre vs ns → ns.length ≤ n →
      s.gens = #[] → s.os = s₁.os →
      Fr s₁.heap s₁.heap.objs.size s.heap (bindL (envOfC d.name d.scope s₁.heap.objs.size fa cd).kindOf [(x, .ref a)] fun _ => none) →
      Cl s₁.heap.objs.size (cellsFrom (s₁.heap.objs.size + 1) d.scope.names []) s.heap (bindC (envOfC d.name d.scope s₁.heap.objs.size fa cd).kindOf [(x, .ref a)] fun _ => none) →
      wpAny (model l.prog w) (callerA.deeper (envOfC d.name d.scope s₁.heap.objs.size fa cd)) (execs d.body (envOfC d.name d.scope s₁.heap.objs.size fa cd))
        (fun f s' => f = .ret (.bool true) ∧ (∀ b o, s₁.heap.get? b = some o → s'.heap.get? b = some o) ∧ s'.os = s₁.os ∧ s'.gens = #[]) (fun _ _ => False) s) :
    WalkN q loose XP YP l.row.toRowW d [] (fun f vs => PySem.call f vs) := by
  intro w s₀ s₁ mg mb G Y fa o pm cd doc dV kV ho hd hcd hD hmg hg args vals as hpre hlay hrd hwl hlo
  obtain rfl : dV = .none := Dflts.none hD hdf
  obtain rfl : kV = .none := Dflts.noKw hD
  obtain ⟨a, vs, ns, rfl, rfl, hobj, hints, hlen⟩ := script_of hn hpre hwl
  refine enter_callW ?_
  refine call_cells_ret (o := o) (by rw [depth_caller]; decide) ho (fd_plain hd) G.T.nolimit hcd (hbind pm cd doc (.ref a)) (fun y hy => ?_) (fun h₁ tk F X => ?_) hco hgen hk
  · obtain rfl : y = (x, Value.ref a) := List.mem_singleton.mp hy
    rcases hx with e | e
    · exact .inl e
    · exact .inr ⟨e, cellsFrom_some _ _ _ (.inl e)⟩
  · refine wpAny_mono (body w s₀ s₁ { s₁ with heap := h₁, toks := tk } mg mb fa o pm cd doc a vs ns G Y ho (fd_plain hd) hcd hmg hobj hints hlen hg rfl F X) (fun f s' hq => ?_) (fun _ _ hq => hq)
    obtain ⟨rfl, h2, h3, h4⟩ := hq
    exact ⟨.inl ⟨.bool true, .bool true, [], rfl, fun _ => rfl, .bool true, post_true l _, fun _ => ⟨List.Pairwise.nil, fun _ hm => (nomatch hm)⟩⟩, h2, h3, h4⟩

/-! ### rules over ANY heap (no ledger) from facts about the written part K: the library's own take a ledger (News) for what they write -/
section
variable {prog : Program} {w : World} {A : Around} {E : Value → Shared → Prop} {s : Shared} {K : Frag}

/-- a def of the module, or a method (qual 'C.m'), entered: the frame is the next address; cells behind it -/
theorem call_fn {R : Result → Shared → Prop} {name qual : Str} {params : Arguments} {body : List Stmt} {scope : Scope} {dV kV doc pm cdv ct oc : Value} {an od : Option Addr} {osl : Array (Option Value)} {f : Addr} {args : Args} {binds : List (Str × Value)}
    (X : K.In s.heap) (hlim : s.heap.NoLimit) (ho : K.lookup f = some ⟨oc, od, .func (fnOf name qual params body scope dV kV doc pm an cdv ct), osl⟩) (hcd : codeIn K cdv qual = true) (hroom : A.depth < recursionLimit)
    (hbind : BindsTo s (fnOf name qual params body scope dV kV doc pm an cdv ct) args binds)
    (hkind : (binds.all fun y => scope.names.lookup y.1 == some .local || scope.names.lookup y.1 == some .cell) = true)
    (h : ∀ s₁, InCallC s s.heap.objs.size (bindL (envOfC qual scope s.heap.objs.size f cdv).kindOf binds fun _ => none) (cellsFrom (s.heap.objs.size + 1) scope.names [])
        (bindC (envOfC qual scope s.heap.objs.size f cdv).kindOf binds fun _ => none) s₁ →
      wpAny (model prog w) (A.deeper (envOfC qual scope s.heap.objs.size f cdv)) (execs body (envOfC qual scope s.heap.objs.size f cdv))
        (fun fl s' => R (.ok (.ret (match fl with | .ret v => v | _ => .none))) s')
        (fun e s' => wpAny (model prog w) (A.deeper (envOfC qual scope s.heap.objs.size f cdv)) (leaving (envOfC qual scope s.heap.objs.size f cdv) e) (fun _ s'' => R (.error e) s'') (fun e' s'' => R (.error e') s'') s') s₁)
    (hco : scope.isCoroutine = false) (hgen : scope.isGenerator = false) (hk : scope.kind = .function) : codeAny (model prog w) A (.call (.ref f) args) R s := by
  refine codeAny_call_function hroom (X _ _ ho) rfl hco hgen rfl (codeRec_of X hcd) (hbind _ _ _ _ ?_)
  refine wpAny_newFunctionEnv_cells hk (kindsX hkind _) fun env he s₁ x => ?_
  subst he
  exact ⟨hlim.keeps x.toInCall.keep, codeAny_func (h s₁ x)⟩

/-- C(..): dict at size, instance at size + 1, then __init__ -/
theorem make_obj {R : Result → Shared → Prop} {C fI : Addr} {rest : List Value} {kw : List (Str × Value)}
    (X : K.In s.heap) (hm : makesIn K C = true) (hi : findIn K (.ref C) "__init__" = some (some (.ref fI))) (hf : isFn K (.ref fI) = true)
    (h : codeAny (model prog w) (A.under (.builtin "type.__call__" ⟨.ref C :: rest, kw⟩)) (.call (.ref fI) ⟨.ref (s.heap.objs.size + 1) :: rest, kw⟩) (InitBack (s.heap.objs.size + 1) R)
      { s with heap := (s.heap.push emptyDict).push (instObj C s.heap.objs.size) }) : codeAny (model prog w) A (.call (.ref C) ⟨rest, kw⟩) R s := by
  obtain ⟨hh, g, d, t, os⟩ := s
  exact make_core (makes_of X hm) (looks_findIn X hi) (fun self => bind_fn X self (beq_iff_eq.mp hf)) (.inl rfl) h

/-- x.name where the instance's dict holds the name and the class does not -/
theorem get_field {x C : Addr} {ox : Obj} {es : List DictEntry} {n : Nat} {name : Str} {expr : Bool} {v : Value} {Q : Value → Shared → Prop}
    (X : K.In s.heap) (I : PySem.W.InstAt s.heap x ox C (some (dictOf es n))) (hg : plainGet K C name = true) (hh : hasDictIn K C = true) (ha : findIn K (.ref C) name = some none)
    (hl : getL name es = some (some v)) (hv : handedIn v = true) (h : Q v { s with toks := s.toks + 1 }) : wpAny (model prog w) A (getAttr (.ref x) name expr) Q E s :=
  get_value X I (plainGet_of hg).1 (findObj_own hh ha rfl hl) hv h

/-- x.m(..): the method found in the class -/
theorem get_method {x C f : Addr} {ox : Obj} {es : List DictEntry} {n : Nat} {name : Str} {pl : Sem Bool} {Q : Value × List Value → Shared → Prop}
    (X : K.In s.heap) (I : PySem.W.InstAt s.heap x ox C (some (dictOf es n))) (hg : plainGet K C name = true) (hf : findIn K (.ref C) name = some (some (.ref f))) (ht : isFn K (.ref f) = true)
    (hl : getL name es = some none) (h : Q (.ref f, [.ref x]) s) : wpAny (model prog w) A (getMethod (.ref x) name pl) Q E s :=
  method_fn X I (plainGet_of hg).1 (plainGet_of hg).2 hf (beq_iff_eq.mp ht) (by show (lookIn name (dictOf es n)).map _ = _; rw [lookIn_dict, hl]; rfl) h

/-! the whole heap as the ledger: makes every rule that writes through a ledger a rule over any heap -/
def noObjs (h : Heap) : Heap := { h with objs := #[] }
theorem noObjs_get (h : Heap) (b : Addr) : (noObjs h).get? b = none := by
  cases e : (noObjs h).get? b with
  | none => rfl
  | some o => exact absurd (Heap.lt_size e) (Nat.not_lt_zero _)
def ledger (h : Heap) (L d : Addr) : List (Addr × Obj) := (List.range h.objs.size).filterMap fun a => if a = L ∨ a = d then none else (h.get? a).map fun o => (a, o)
theorem mem_ledger {h : Heap} {L d a : Addr} {o : Obj} : (a, o) ∈ ledger h L d ↔ a ≠ L ∧ a ≠ d ∧ h.get? a = some o := by
  unfold ledger
  rw [List.mem_filterMap]
  constructor
  · rintro ⟨b, _, e⟩
    split at e
    · cases e
    · rename_i hb
      obtain ⟨o', ho, e'⟩ := Option.map_eq_some_iff.mp e
      cases e'
      exact ⟨fun q => hb (.inl q), fun q => hb (.inr q), ho⟩
  · rintro ⟨n1, n2, ho⟩
    refine ⟨a, List.mem_range.mpr (Heap.lt_size ho), ?_⟩
    rw [if_neg (show ¬ (a = L ∨ a = d) from fun q => q.elim n1 n2), ho] <;> rfl
theorem news_ledger {h : Heap} {L d : Addr} {od : Obj} (hne : d ≠ L) (ho : h.get? d = some od) : News (noObjs h) L h ([] ++ (d, od) :: ledger h L d) := by
  rintro ⟨a, o⟩ hp
  rcases List.mem_cons.mp hp with e | hp
  · cases e
    exact ⟨ho, hne, noObjs_get _ _⟩
  · obtain ⟨n1, n2, e⟩ := mem_ledger.mp hp
    exact ⟨e, n1, noObjs_get _ _⟩
theorem fr_all {h : Heap} {L : Addr} {m : Str → Option Value} (n : h.Ns L m) : Fr (noObjs h) L h m :=
  ⟨n, fun b o e => (by rw [noObjs_get] at e; cases e), Nat.zero_le _⟩
/-- Upd of the head entry (for append_K, setItem_K ..) -/
theorem upd_ledger {h : Heap} {L d : Addr} {o o' : Obj} : Upd d o o' ((d, o) :: ledger h L d) ((d, o') :: ledger h L d) :=
  .head fun ⟨_, _⟩ hp => (mem_ledger.mp hp).2.1

/-- x.name = v over any heap: L is any namespace of the heap (the frame's, say): its map stays, its object is not told; all else but the dict stays -/
theorem set_field {x C dx L : Addr} {ox : Obj} {m : Str → Option Value} {es es' : List DictEntry} {n n' : Nat} {name : Str} {v : Value} {Q : Unit → Shared → Prop}
    (X : K.In s.heap) (I : PySem.W.InstAt s.heap x ox C (some (dictOf es n))) (hd : ox.dict = some dx) (hL : s.heap.Ns L m) (hne : dx ≠ L)
    (hs : findIn K (.ref C) "__setattr__" = some (some (.builtin "object.__setattr__"))) (hp : plainOver K C = true) (ht : takerIn K C name = some none) (hh : hasDictIn K C = true) (hl : (getL name es).isSome = true)
    (e : (putL name (PyData.keyHash w.params name) (.str name (s.toks + 1)) v es, putN name es n) = (es', n')) (hz : es'.length ≤ 1000)
    (h : ∀ h' : Heap, h'.Ns L m → h'.get? dx = some (dictOf es' n') → (∀ b o, b ≠ dx → b ≠ L → s.heap.get? b = some o → h'.get? b = some o) → Q () { s with heap := h', toks := s.toks + 2 }) :
    wpAny (model prog w) A (setAttr (.ref x) name v) Q E s := by
  obtain ⟨e1, e2⟩ := Prod.mk.inj e
  have hdx : s.heap.get? dx = some (dictOf es n) := by
    have := I.dict
    rw [hd] at this
    exact this
  refine set_plain X I hs (osa_dict (s := { s with toks := s.toks + 1 }) (h₀ := noObjs s.heap) (L := L) (m := m) (od := dictOf es n) (od' := dictOf es' n') (es := es') (n := n') (pre := []) (post := ledger s.heap L dx)
    (fr_all hL) (news_ledger hne hdx) X I hd hp ht hh hl (fun _ q => nomatch q) (fun ⟨_, _⟩ q => (mem_ledger.mp q).2.1) (by rw [putName_dict, e1, e2]) rfl hz fun h' F' N' => ?_)
  exact h h' F'.ns (N'.get (List.Mem.head _)) fun b o n1 n2 ho => N'.get (List.Mem.tail _ (mem_ledger.mpr ⟨n2, n1, ho⟩))
end
end Att

namespace L2
open PySem PySem.Spec PyProof.Rows

theorem vals_ints : ∀ {vs : List Value} {ns : List Int}, IntsAre vs ns → Vals (ns.map V.int) vs
  | _, _, .nil => .nil
  | _, _, .cons n t h => .cons ⟨t, rfl⟩ (vals_ints h)

/-- nothing is tracked but the script, known to the object (or it is an object of the module) -/
def Only (H : Hp) : Prop := ∀ b, H b = none ∨ ∃ o xs, H b = some (.frz o (.lst xs))

/-- THE HEAD: the law's promise, at the heap behind the top. F, the promise of the law's def, may use that base is part of the heap (so K.In base, base.Ns mainGlobals mg stand in Mod) -/
theorem law_call {P : Program} {w : World} {K : PySem.W.Frag} {mg mb : Str → Option Value} {CX : CXT} {k : Nat} {fa a : Addr} {fd : FuncData} {x : Str} {sp : Sp} {s₁ : Shared} {vs : List Value} {ns : List Int}
    (KX : K.In s₁.heap) (hns : s₁.heap.Ns mainGlobals mg) (hb : s₁.heap.Ns builtinsNs mb) (hbb : ∀ x : Str, x ≠ "__name__" → mb x = bootBuiltins x) (hlim : s₁.heap.NoLimit) (hg : s₁.gens = #[])
    (ha : s₁.heap.get? a = some { cls := .type "list", data := .seq vs.toArray }) (hi : IntsAre vs ns) (hl : ns.length ≤ sizeLine) (hr : Room k callerA)
    (F : ∀ base : Heap, K.In base → base.Ns mainGlobals mg → FnOk P w K mg base CX k fa fd [x] sp) (hbind : ∀ (s : Shared) (u : Value), BindsTo s fd ⟨[u], []⟩ [(x, u)])
    (hsp : ∀ H : Hp, Only H → SqL K H a (ns.map V.int) → sp [.ref a] H (fun v _ => v = .bl true) fun _ _ _ => False)
    (hCX : ∀ H e s', CX [] H s₁ (fun _ _ _ => False) e s' → False) :
    codeAny (model P w) callerA (.call (.ref fa) ⟨[.ref a], []⟩) (fun r s' => r = .ok (.ret (.bool true)) ∧ OldK s₁.heap s'.heap ∧ s'.os = s₁.os ∧ AllBare s'.gens) s₁ := by
  have rv := vals_ints hi
  have lenV := hi.length
  -- from an abstract heap in which nothing but the script may be tracked
  have core : ∀ H : Hp, Only H → SqL K H a (ns.map V.int) → HOk P w H s₁.heap → (∀ b, H b ≠ none → b = a) → (H a ≠ none → K.lookup a = none) →
      codeAny (model P w) callerA (.call (.ref fa) ⟨[.ref a], []⟩) (fun r s' => r = .ok (.ret (.bool true)) ∧ OldK s₁.heap s'.heap ∧ s'.os = s₁.os ∧ AllBare s'.gens) s₁ := by
    intro H hO hS hok hA hK
    have base_of : ∀ {b : Addr} {o : Obj}, s₁.heap.get? b = some o → H b = none → (hidT s₁.heap H).get? b = some o := fun e n => hidT_get e n
    have noA : ∀ {b : Addr} {o : Obj} {es : Array DictEntry} {ep : Nat}, s₁.heap.get? b = some o → o.data = .dict es ep → H b = none := fun {b o es ep} e d => by
      cases q : H b with
      | none => rfl
      | some u =>
        have e' : b = a := hA b (by rw [q]; simp)
        subst e'
        rw [ha] at e; cases e
        have d' : Data.seq vs.toArray _ = Data.dict es ep := d
        cases d'
    have nsK : ∀ {b : Addr} {m : Str → Option Value}, s₁.heap.Ns b m → (hidT s₁.heap H).Ns b m := fun {b m} ⟨o, es, ep, e, d, r⟩ => ⟨o, es, ep, base_of e (noA e d), d, r⟩
    have hKb : K.In (hidT s₁.heap H) := fun b o e => base_of (KX b o e) (by
      cases q : H b with
      | none => rfl
      | some u =>
        have e' : b = a := hA b (by rw [q]; simp)
        subst e'
        rw [hK (by rw [q]; simp)] at e; cases e)
    have hM : Mod K mg (hidT s₁.heap H) := ⟨hKb, nsK hns, ⟨mb, nsK hb, hbb⟩, let ⟨mc, h1, h2⟩ := hlim; ⟨mc, nsK h1, h2⟩⟩
    have e0 : Env0 P w K mg (hidT s₁.heap H) callerA [] s₁ H := ⟨rfl, hM, fun b o e => of_hidT e, Nat.le_of_eq (hidT_size _ _), trivial, fun b hb => absurd (show b ∈ ([] : List Addr) from hb) (by simp), hok, .of_eq hg⟩
    refine codeAny_mono ((F _ hKb (nsK hns)).run callerA [] s₁ H ⟨[.ref a], []⟩ [.ref a] [.ref a] _ _ hr e0 (hbind s₁ (.ref a)) (.cons rfl .nil) (hsp H hO hS)) fun r s' h => ?_
    cases r with
    | error e => exact (hCX H e s' h).elim
    | ok fl =>
      cases fl with
      | next => exact False.elim h
      | brk => exact False.elim h
      | cont => exact False.elim h
      | ret u =>
        obtain ⟨v, H', os, bare, un, hok', r', q⟩ := h
        have q' : v = .bl true := q
        subst q'
        obtain rfl : u = Value.bool true := r'
        refine ⟨rfl, OldK.of_keep fun b o e => ?_, os, bare⟩
        cases q : H b with
        | none => exact un.keep b o e q (by intro z; exact absurd (show b ∈ ([] : List Addr) from z) (by simp)) (by simp)
        | some u =>
          rcases hO b with z | ⟨ob, xs, z⟩
          · rw [q] at z; cases z
          · have z2 := un.frzs b ob _ z
            obtain ⟨e1, _⟩ := hok b _ z
            obtain ⟨e2, _⟩ := hok' b _ z2
            rw [e] at e1; cases e1
            exact e2
  cases hk : K.lookup a with
  | some o =>
    -- the script is one of the module's own objects
    have e := KX a o hk
    rw [ha] at e
    cases e
    refine core (fun _ => none) (fun _ => .inl rfl) (.inr ⟨_, vs.toArray, _, hk, rfl, rfl, rfl, by rw [List.size_toArray, lenV]; exact hl, by simpa using rv⟩) (fun b u z => by have z' : (none : Option HO) = some u := z; cases z') (fun b z => absurd rfl z) fun z => absurd rfl z
  | none =>
    refine core (fun b => if b = a then some (.frz { cls := .type "list", data := .seq vs.toArray } (.lst (ns.map V.int))) else none) (fun b => ?_) (.inl (.inr ⟨{ cls := .type "list", data := .seq vs.toArray }, if_pos rfl⟩)) (fun b u z => ?_) (fun b z => ?_) fun _ => hk
    · by_cases hb : b = a
      · exact .inr ⟨_, _, if_pos hb⟩
      · exact .inl (if_neg hb)
    · by_cases hb : b = a
      · have z' := (if_pos hb).symm.trans z
        cases z'
        subst hb
        exact ⟨ha, by rw [List.length_map]; exact hl, vs, _, rv, ha⟩
      · have z' := (if_neg hb).symm.trans z
        cases z'
    · by_cases hb : b = a
      · exact hb
      · exact absurd (if_neg hb) z
end L2

namespace L2
open PySem PySem.Spec PyProof.Rows

abbrev KOf {K : PySem.W.Frag} {h : Heap} (_ : K.In h) : PySem.W.Frag := K

/-- the goal that k_head leaves (case hc), from the law's promise. F gives the function object fd (K's own) once, then the promise over every base -/
theorem walk_of {l : PySem.W.OpenLaw} {n k : Nat} {q : Program} {loose : List Str} {XP : (Str → Option Value) → Heap → Prop} {YP : World → Heap → Prop} {d : DefRec} {K : Params → PySem.W.Frag} {CX : World → CXT} {sp : World → Sp} {x : Str}
    (hn : l.most = some n) (hn2 : n ≤ sizeLine) (hdf : d.params.defaults = []) (hr : Room k callerA)
    (hY : ∀ (w : World) (h : Heap), YP w h → (K w.params).In h)
    (F : ∀ (w : World) (mg : Str → Option Value) (fa : Addr) (h : Heap), (K w.params).In h → h.Ns mainGlobals mg → mg d.name = some (.ref fa) →
      ∃ fd : FuncData, (∀ (s : Shared) (u : Value), BindsTo s fd ⟨[u], []⟩ [(x, u)]) ∧
        ∀ base : Heap, (K w.params).In base → base.Ns mainGlobals mg → FnOk l.prog w (K w.params) mg base (CX w) k fa fd [x] (sp w))
    (hsp : ∀ (w : World) (H : Hp) (a : Addr) (ns : List Int), ns.length ≤ n → Only H → SqL (K w.params) H a (ns.map V.int) → sp w [.ref a] H (fun v _ => v = .bl true) fun _ _ _ => False)
    (hCX : ∀ (w : World) (H : Hp) (s : Shared) (e : Value) (s' : Shared), CX w [] H s (fun _ _ _ => False) e s' → False) :
    PySem.W.WalkO q loose XP YP l.row.toRowW d [] (fun f vs => PySem.call f vs) := by
  refine Att.attach_call hn hdf fun w s₀ s₁ mg mb fa o pm cd doc a vs ns G Y ho hd hcd hmg hobj hints hlen hg => ?_
  have KX := hY w _ Y
  obtain ⟨fd, hb, hF⟩ := F w mg fa _ KX G.T.g hmg
  exact law_call KX G.T.g G.T.b G.T.builtins G.T.nolimit hg hobj hints (Nat.le_trans hlen hn2) hr hF hb (fun H hO hS => hsp w H a ns hlen hO hS) fun H e s' => hCX w H s₁ e s'
/-- the same where the promise hangs on the written part alone: (sp := My.sp_law), no hole under a binder -/
theorem walk_ofK {l : PySem.W.OpenLaw} {n k : Nat} {q : Program} {loose : List Str} {XP : (Str → Option Value) → Heap → Prop} {YP : World → Heap → Prop} {d : DefRec} {K : Params → PySem.W.Frag} {CX : CXT} {sp : PySem.W.Frag → Sp} {x : Str}
    (hn : l.most = some n) (hn2 : n ≤ sizeLine) (hdf : d.params.defaults = []) (hr : Room k callerA)
    (hY : ∀ (w : World) (h : Heap), YP w h → (K w.params).In h)
    (F : ∀ (w : World) (mg : Str → Option Value) (fa : Addr) (h : Heap), (K w.params).In h → h.Ns mainGlobals mg → mg d.name = some (.ref fa) →
      ∃ fd : FuncData, (∀ (s : Shared) (u : Value), BindsTo s fd ⟨[u], []⟩ [(x, u)]) ∧
        ∀ base : Heap, (K w.params).In base → base.Ns mainGlobals mg → FnOk l.prog w (K w.params) mg base CX k fa fd [x] (sp (K w.params)))
    (hsp : ∀ (K : PySem.W.Frag) (H : Hp) (a : Addr) (ns : List Int), ns.length ≤ n → Only H → SqL K H a (ns.map V.int) → sp K [.ref a] H (fun v _ => v = .bl true) fun _ _ _ => False)
    (hCX : ∀ (H : Hp) (s : Shared) (e : Value) (s' : Shared), CX [] H s (fun _ _ _ => False) e s' → False) :
    PySem.W.WalkO q loose XP YP l.row.toRowW d [] (fun f vs => PySem.call f vs) :=
  walk_of (K := K) (CX := fun _ => CX) (sp := fun w => sp (K w.params)) hn hn2 hdf hr hY F (fun w H a ns h1 h2 h3 => hsp (K w.params) H a ns h1 h2 h3) fun _ H s e s' => hCX H s e s'
end L2

/- THE LAST THEOREM (shape; LID, My.* are yours):
   My.Adr: a structure of the addresses that your layer names (classes, functions); My.Txt K t: a structure (Prop) of the equations over K;
   My.txt_mk : {K} {implicit addresses ..} (e1 : nsIn K mainGlobals "law" = some (some (.ref f))) (e2 : K.lookup f = some ⟨oc, od, .func (fnOf "law" "law" params body scope dV kV doc pm an cdv ct), sl⟩) (e3 : codeIn K cdv "law" = true) .. : ∃ t, My.Txt K t

set_option maxRecDepth 100000 in
set_option maxHeartbeats 0 in
theorem PySem.Challenge.cw_LID_holds : PySem.Challenge.rw_LID.Holds := by
  w_on; o_law; k_head; (case hw => w_witness2)
  k_fill
  refine L2.walk_of (l := PySem.Challenge.rw_LID) (n := 63) (k := 40) (x := "script") (CX := fun w => ..) (sp := fun _ => My.sp_law) rfl (by decide) rfl ⟨rfl, by decide, by decide⟩ (fun w h Y => PySem.W.kIn_of Y) ?F ?S ?C
  case F =>
    intro w mg fa h KX G hmg
    have T : ∃ t, My.Txt (L2.KOf KX) t := by
      dsimp only [L2.KOf]                          -- K must stand as «<heap const> w.params» for k_is
      refine' My.txt_mk ?e1 ?e2 ?e3 ..
      (case e1 => PySem.W.k_is)                    -- in the order: a name -> its address -> its object -> its parts
      (case e2 => PySem.W.k_is)
      ..
    obtain ⟨t, T⟩ := T
    have e0 := hmg.symm.trans (PySem.W.mg_of KX G T.law)
    cases e0                                       -- fa is the law's own address
    exact ⟨_, fun s u => .of_eq rfl, fun base kb nb => My.law_fn T kb nb⟩     -- if «.of_eq rfl» comes too early: refine' ⟨_, ?b, fun base kb nb => My.law_fn T kb nb⟩; exact fun s u => .of_eq rfl
  case S => exact fun w H a ns hl hO hS => ..
  case C => exact ..
(the tactic k_is has no namespace: write k_is) -/

/-! SHORT WORDS over the layer: a def of the text, its body, what a loop and a test want. -/
namespace L2
open PySem PySem.Spec PyProof.Rows

/-! ### the text by places -/
/-- the j-th statement of a class's body -/
def inClass (s : Stmt) (j : Nat) : Stmt := match s with
  | .ClassDef _ _ _ body _ _ _ _ _ _ _ => body.getD j (.Pass ⟨0, 0, 0, 0⟩)
  | _ => .Pass ⟨0, 0, 0, 0⟩
def defArgs (s : Stmt) : Arguments := match s with
  | .FunctionDef _ a _ _ _ _ _ _ _ _ => a
  | _ => { posonlyargs := [], args := [], vararg := none, kwonlyargs := [], kw_defaults := [], kwarg := none, defaults := [] }
def defBody (s : Stmt) : List Stmt := match s with
  | .FunctionDef _ _ b _ _ _ _ _ _ _ => b
  | _ => []
def defScope (s : Stmt) : Scope := match s with
  | .FunctionDef _ _ _ _ _ _ sc _ _ _ => sc
  | _ => { kind := .function, names := [], isGenerator := false, isCoroutine := false }

/-! ### no exception leaves a def -/
abbrev CX0 : CXT := fun _ _ _ _ _ _ => False
abbrev E0 : XK := fun _ _ _ => False
theorem pass0 {X : Cx} : Passes CX0 X E0 := fun _ _ _ _ _ _ _ h => h.elim

/-! ### a def (or method) of the text as it stands behind the top -/
structure Fun (K : PySem.W.Frag) (x qual : Str) (st : Stmt) (f : Addr) (fd : FuncData) : Prop where
  ex : ∃ (oc : Value) (od : Option Addr) (kV doc pm : Value) (an : Option Addr) (cdv ct : Value) (osl : Array (Option Value)),
    fd = PySem.W.fnOf x qual (defArgs st) (defBody st) (defScope st) .none kV doc pm an cdv ct ∧ K.lookup f = some ⟨oc, od, .func fd, osl⟩ ∧ PySem.W.codeIn K cdv qual = true
  kp : PySem.W.keepIn K (.ref f) = true
section
variable {P : Program} {w : World} {K : PySem.W.Frag} {mg : Str → Option Value} {base : Heap}
/-- THE RULE for a def: its body as a term of rules, and the reading of that term -/
theorem Fun.ok {x qual : Str} {st : Stmt} {f : Addr} {fd : FuncData} {N ps : List Str} {k : Nat} {sp : Sp} (F : Fun K x qual st f fd) (S : FnScope N ps (defScope st)) (len : ∀ vs H Q E, sp vs H Q E → vs.length = ps.length)
    (hbody : ∀ (cdv : Value) (A : Around) (outer : List Env) (s : Shared) (H : Hp) (vs : List V) (Q : VK) (E : XK), Room k (A.deeper (envOfC qual (defScope st) s.heap.objs.size f cdv)) → sp vs H Q E →
      ∃ t, PSs (cxOf CX0 P w K mg base N qual (defScope st) f cdv A outer s H E).nox (defBody st) t ∧ t { nx := fun _ H' => Q .non H', rt := Q } (start N vs) H) : FnOk P w K mg base CX0 (k + 1) f fd ps sp := by
  obtain ⟨oc, od, kV, doc, pm, an, cdv, ct, osl, rfl, lk, hcd⟩ := F.ex
  refine fn_of lk hcd S len fun A outer s H vs Q E hr hsp => ?_
  obtain ⟨t, h, q⟩ := hbody cdv A outer s H vs Q E hr hsp
  exact ⟨t, h.nox, q⟩
/-- how its arguments bind (no defaults): h is «fun _ _ _ _ _ _ us hl => match us, hl with | [_, _], _ => rfl», one _ a parameter -/
theorem Fun.binds {x qual : Str} {st : Stmt} {f : Addr} {fd : FuncData} {ps : List Str} (F : Fun K x qual st f fd)
    (h : ∀ (kV doc pm : Value) (an : Option Addr) (cdv ct : Value) (us : List Value), us.length = ps.length → bindArgs (PySem.W.fnOf x qual (defArgs st) (defBody st) (defScope st) .none kV doc pm an cdv ct) ⟨us, []⟩ = pure (ps.zip us)) : Binds K fd ps [] := by
  obtain ⟨oc, od, kV, doc, pm, an, cdv, ct, osl, rfl, lk, hcd⟩ := F.ex
  exact .all (h kV doc pm an cdv ct)
theorem fun_mk {x qual : Str} {st : Stmt} {f : Addr} {oc : Value} {od an : Option Addr} {osl : Array (Option Value)} {kV doc pm cdv ct : Value} (l : K.lookup f = some ⟨oc, od, .func (PySem.W.fnOf x qual (defArgs st) (defBody st) (defScope st) .none kV doc pm an cdv ct), osl⟩)
    (c : PySem.W.codeIn K cdv qual = true) (k : PySem.W.keepIn K (.ref f) = true) : Fun K x qual st f (PySem.W.fnOf x qual (defArgs st) (defBody st) (defScope st) .none kV doc pm an cdv ct) := ⟨⟨oc, od, kV, doc, pm, an, cdv, ct, osl, rfl, l, c⟩, k⟩
end
theorem hu_of {A : Around} {k : Nat} (hr : Room k A) : A.units + 1 < cLine := Nat.lt_of_le_of_lt (Nat.add_le_add_left (by decide : 1 ≤ 64) _) hr.units
theorem small1000 {n : Nat} (h : n ≤ 1000) : n < sizeLine := Nat.lt_of_le_of_lt h (by decide)

/-! ### expressions in short: the name that stands in the i-th slot -/
section
variable {X : Cx}
theorem pv (i : Nat) {x : Str} {pos : Pos} (hN : X.N[i]? = some x := by rfl) (hv : Vis X.env.scope x := by first | exact Or.inl rfl | exact Or.inr (Or.inl rfl) | exact Or.inr (Or.inr rfl)) (hd : (x == ("__debug__" : Str)) = false := by decide)
    (hcd : (x == ("__classdict__" : Str)) = false := by decide) : PE X (.Name x pos) (tVar i) := pe_var hN hv hd hcd
/-- len of a dict -/
theorem call_lenD : CallR X (.builtin "len") (fun xs H Q => ∃ a kvs, xs = [V.ref a] ∧ H a = some (.dK kvs) ∧ Q (.int kvs.length) H) := by
  intro pins s σ H xs us Q I r h
  obtain ⟨a, kvs, rfl, ha, q⟩ := h
  obtain ⟨u, rfl, ru⟩ := vals1 r
  cases ru
  exact d_len I (.inl ha) fun t s' I' => ⟨.int kvs.length, H, I', ⟨t, rfl⟩, q⟩
end

/-! ### tests -/
theorem iteF {A B : Prop} (h : B) : if false = true then A else B := by
  rw [if_neg Bool.false_ne_true]
  exact h
theorem iteT {A B : Prop} (h : A) : if true = true then A else B := by
  rw [if_pos rfl]
  exact h
theorem ite2 {c A B : Prop} [Decidable c] (h1 : c → A) (h2 : ¬ c → B) : if c then A else B := by
  by_cases h : c
  · rw [if_pos h]
    exact h1 h
  · rw [if_neg h]
    exact h2 h
theorem iteNS {c A B : Prop} [Decidable c] (hc : c) (h : B) : if (!decide c) = true then A else B := by
  rw [decide_eq_true hc]
  exact iteF h

/-! ### heaps -/
/-- all that was tracked is as it was -/
def Same (H H' : Hp) : Prop := ∀ b o, H b = some o → H' b = some o
theorem Same.refl (H : Hp) : Same H H := fun _ _ h => h
theorem Same.trans {H H1 H2 : Hp} (a : Same H H1) (b : Same H1 H2) : Same H H2 := fun c o h => b c o (a c o h)
theorem Same.free {H H' : Hp} (e : Same H H') {l : Addr} (h : H' l = Option.none) : H l = Option.none := by
  cases q : H l with
  | none => rfl
  | some o =>
    rw [e l o q] at h
    cases h
theorem Same.seq {K : PySem.W.Frag} {H H' : Hp} {a : Addr} {xs : List V} (e : Same H H') (h : SqL K H a xs) : SqL K H' a xs := by
  rcases h with (h | ⟨o, h⟩) | h
  · exact .inl (.inl (e _ _ h))
  · exact .inl (.inr ⟨o, e _ _ h⟩)
  · exact .inr h

/-! ### a dict's pairs: keys that differ -/
section
variable {κ : Type} [DecidableEq κ]
theorem valV_not {kvs : List (κ × V)} {k : κ} (h : valV kvs k = none) : ¬ k ∈ kvs.map (·.1) := by
  intro m
  obtain ⟨p, hp, e⟩ := List.mem_map.mp m
  have q : (kvs.any fun kv => decide (kv.1 = k)) = true := List.any_eq_true.mpr ⟨p, hp, decide_eq_true e⟩
  rw [valV_any, h] at q
  exact absurd q (by simp)
theorem valV_in {kvs : List (κ × V)} {k : κ} {v : V} (h : valV kvs k = some v) : k ∈ kvs.map (·.1) := by
  have q : (kvs.any fun kv => decide (kv.1 = k)) = true := by
    rw [valV_any, h]
    all_goals rfl
  obtain ⟨p, hp, e⟩ := List.any_eq_true.mp q
  exact List.mem_map.mpr ⟨p, hp, of_decide_eq_true e⟩
theorem nd_snoc : ∀ {l : List κ} {k : κ}, l.Nodup → ¬ k ∈ l → (l ++ [k]).Nodup
  | [], k, _, _ => by simp
  | a :: r, k, h, hk => by
    obtain ⟨h1, h2⟩ := List.nodup_cons.mp h
    show (a :: (r ++ [k])).Nodup
    refine List.nodup_cons.mpr ⟨fun m => ?_, nd_snoc h2 fun m => hk (List.mem_cons.mpr (Or.inr m))⟩
    rcases List.mem_append.mp m with q | q
    · exact h1 q
    · exact hk (List.mem_cons.mpr (Or.inl (List.mem_singleton.mp q).symm))
theorem nd_putK {kvs : List (κ × V)} {k : κ} (v : V) (hn : (kvs.map (·.1)).Nodup) (h : valV kvs k = none) : ((putK kvs k v).map (·.1)).Nodup := by
  rw [putK_new v h, List.map_append]
  exact nd_snoc hn (valV_not h)
theorem dropK_pos {p : κ × V} {r : List (κ × V)} {k : κ} (e : p.1 = k) : dropK (p :: r) k = dropK r k := by
  unfold dropK
  rw [List.filter_cons, if_neg (by simp [e])]
theorem dropK_neg {p : κ × V} {r : List (κ × V)} {k : κ} (e : ¬ p.1 = k) : dropK (p :: r) k = p :: dropK r k := by
  unfold dropK
  rw [List.filter_cons, if_pos (by simp [e])]
theorem dropK_no : ∀ {kvs : List (κ × V)} {k : κ}, ¬ k ∈ kvs.map (·.1) → dropK kvs k = kvs
  | [], _, _ => rfl
  | p :: r, k, h => by
    have h' : ¬ k ∈ r.map (·.1) := fun m => by
      obtain ⟨q, hq, e⟩ := List.mem_map.mp m
      exact h (List.mem_map.mpr ⟨q, List.mem_cons.mpr (Or.inr hq), e⟩)
    rw [dropK_neg fun e => h (List.mem_map.mpr ⟨p, List.mem_cons.mpr (Or.inl rfl), e⟩), dropK_no h']
theorem dropK_mem {kvs : List (κ × V)} {k : κ} {p : κ × V} (h : p ∈ dropK kvs k) : p ∈ kvs := (List.mem_filter.mp h).1
theorem nd_dropK : ∀ {kvs : List (κ × V)} {k : κ}, (kvs.map (·.1)).Nodup → ((dropK kvs k).map (·.1)).Nodup
  | [], _, _ => List.nodup_nil
  | p :: r, k, h => by
    have h : (p.1 :: r.map (·.1)).Nodup := h
    obtain ⟨h1, h2⟩ := List.nodup_cons.mp h
    by_cases e : p.1 = k
    · rw [dropK_pos e]
      exact nd_dropK h2
    · rw [dropK_neg e]
      show (p.1 :: (dropK r k).map (·.1)).Nodup
      refine List.nodup_cons.mpr ⟨fun m => h1 ?_, nd_dropK h2⟩
      obtain ⟨q, hq, eq⟩ := List.mem_map.mp m
      exact List.mem_map.mpr ⟨q, dropK_mem hq, eq⟩
theorem dropK_len : ∀ {kvs : List (κ × V)} {k : κ}, (kvs.map (·.1)).Nodup → k ∈ kvs.map (·.1) → (dropK kvs k).length + 1 = kvs.length
  | [], _, _, m => by simp at m
  | p :: r, k, h, m => by
    have h : (p.1 :: r.map (·.1)).Nodup := h
    have m : k = p.1 ∨ k ∈ r.map (·.1) := List.mem_cons.mp m
    obtain ⟨h1, h2⟩ := List.nodup_cons.mp h
    by_cases e : p.1 = k
    · subst e
      rw [dropK_pos rfl, dropK_no h1]
      all_goals rfl
    · have m' : k ∈ r.map (·.1) := m.resolve_left fun z => e z.symm
      have q := dropK_len h2 m'
      rw [dropK_neg e, List.length_cons, List.length_cons]
      omega
end
end L2

namespace L2
open PySem PySem.Spec PyProof.Rows
end L2
namespace L2
open PySem PySem.Spec PyProof.Rows
section
variable (P : Program) (w : World)
end
section
variable {P : Program} {w : World} {H H' : Hp} {h h' : Heap} {a : Addr} {o : HO}
end
section
variable {P : Program} {w : World} {H : Hp} {h h' : Heap} {x e : Addr} {o' : HO}
end
section
variable {fs fs' ex ex' : List Addr} {H H1 H2 : Hp} {h h1 h2 h' : Heap} {a x e : Addr} {o : HO}
end
end L2
namespace L2
open PySem PySem.Spec PyProof.Rows
section
variable {X : Cx} {pins : List (Addr × Obj)} {σ : List (Option V)} {H H' : Hp} {s : Shared} {h' : Heap}

end
end L2
namespace L2
open PySem PySem.Spec PyProof.Rows
section
variable {X : Cx}

variable {a b : Expr} {ta tb : TE} {pos : Pos}
variable {tA tB' : TT} {rest : List Expr}
end
end L2
namespace L2
open PySem PySem.Spec PyProof.Rows
section
variable {X : Cx} {pins : List (Addr × Obj)} {σ : St} {H : Hp} {s : Shared} {a : Addr} {xs ys : List V}
end
section
variable {X : Cx} {pins : List (Addr × Obj)} {σ : St} {H : Hp} {s : Shared} {E : Value → Shared → Prop}
end
section
variable {X : Cx} {st : Stmt} {rest : List Stmt} {t u : TS} {e : Expr} {te : TE} {pos : Pos}
end
section
variable {X : Cx} {pos : Pos}
end
section
variable {X : Cx} {pos : Pos}
end
end L2
namespace L2
open PySem PySem.Spec PyProof.Rows
section
variable {X : Cx} {tg : Expr}
end
end L2
namespace L2
open PySem PySem.Spec PyProof.Rows
section
variable {X : Cx} {a b c : Expr} {ta tb tc : TE} {pos : Pos}

end
section
variable {X : Cx} {a b c : Expr} {ta tb tc : TE} {pos : Pos}
end
end L2
namespace L2
open PySem PySem.Spec PyProof.Rows
section
variable {prog : Program} {w : World} {A : Around} {E : Value → Shared → Prop} {s : Shared} {K : PySem.W.Frag} {x dx C f : Addr} {mA : Str → Option Value} {name : Str} {v : Value}

end
section
variable {P : Program} {w : World} {H H' : Hp} {h h' : Heap} {a C dx : Addr} {fs fs' : List (Str × V)}
end
section
variable {X : Cx} {pins : List (Addr × Obj)} {σ : St} {H : Hp} {s : Shared} {a C dx : Addr} {fs : List (Str × V)} {f : Str} {v : V} {A : Around} {E : Value → Shared → Prop}

end
section
variable {X : Cx} {o e value : Expr} {f : Str} {pos pos' tpos : Pos} {ta tv : TE}
end
section
variable {X : Cx} {pins : List (Addr × Obj)} {σ : St} {H : Hp} {s : Shared} {A : Around} {E : Value → Shared → Prop} {Q : Value → Shared → Prop} {c : Value} {b : Bool}
end
end L2
namespace L2
open PySem PySem.Spec PyProof.Rows
section
variable {X : Cx} {e : Expr} {es : List Expr} {te : TE} {t : TA} {pos : Pos}
end
section
variable {X : Cx} {pins : List (Addr × Obj)} {σ : St} {H : Hp} {s s' : Shared}
end
section
variable {X : Cx} {CX : CXT} {k : Nat} {f C : Addr} {fd : FuncData} {ps : List Str} {sp : Sp} {dvs : List V} {ds : List Value} {E : XK} {x m : Str} {p pos apos : Pos} {e o : Expr} {es : List Expr} {ta : TE} {t : TA}

end
section
variable {X : Cx} {CX : CXT} {k : Nat} {f C : Addr} {fd : FuncData} {ps ks : List Str} {sp : Sp} {E : XK} {x m : Str} {p pos apos kpos : Pos} {e o : Expr} {es : List Expr} {kws : List Keyword} {te ta : TE} {t tk : TA} {nm : Option Str}
variable {g : List Value → List Value → List Value} {gV : List V → List V → List V}
end
end L2
namespace L2
open PySem PySem.Spec PyProof.Rows
section
variable {X : Cx} {x : Str} {p pos : Pos} {e : Expr} {es : List Expr} {t : TA} {id T : String} {r : List V → Hp → VK → Prop}

end
end L2
namespace HT
open PySem PyProof.Rows
/-- t < u of tuples of ints -/
def lexLt : List Int → List Int → Bool
  | [], [] => false
  | [], _ :: _ => true
  | _ :: _, [] => false
  | x :: xs, y :: ys => if x = y then lexLt xs ys else decide (x < y)
theorem lexLt_cons (x y : Int) (xs ys : List Int) : lexLt (x :: xs) (y :: ys) = if x = y then lexLt xs ys else decide (x < y) := rfl
theorem lexLt_nil_nil : lexLt [] [] = false := rfl
theorem lexLt_nil_cons (y : Int) (ys : List Int) : lexLt [] (y :: ys) = true := rfl
theorem lexLt_cons_nil (x : Int) (xs : List Int) : lexLt (x :: xs) [] = false := rfl

theorem eqAt_int (A : Around) (s : Shared) (a : Int) (t : Tok) (c : Int) (u : Tok) : ∃ e, SeqAt.EqAt A s (.int a t) (.int c u) e ∧ (e = true ↔ a = c) :=
  ⟨(a == c), SeqAt.EqAt.int_int a t c u, by simp⟩
theorem rcLt_int (A : Around) (s : Shared) (a : Int) (t : Tok) (c : Int) (u : Tok) (prog : Program) (w : World) (E : Value → Shared → Prop) (Q : Value → Shared → Prop) (h : Q (.bool (decide (a < c))) s) :
    wpAny (model prog w) A (richCompare .Lt (.int a t) (.int c u)) Q E s :=
  (PyProof.Rows.lt_int h : wpAny (model prog w) A (compareOp .Lt (.int a t) (.int c u)) Q E s)

section
open PySem.SeqAt
open PySem.AutoSeq1 (wpAny_loadPart')
open PySem.MeetsSeq PySem.MeetsSeq2 PySem.MeetsSeq3
theorem tuple_lt_ints (l b : Addr) (items items2 : Array Value) (n n2 : Nat) (dd dd2 : Option Addr) (sl sl2 : Array (Option Value)) (ns ms : List Int) (hi : IntsAre items.toList ns) (hj : IntsAre items2.toList ms) :
    Meets (Builtin.«tuple.__lt__» ⟨[.ref l, .ref b], []⟩)
      (fun _ R s => s.heap.get? l = some { cls := .type "tuple", dict := dd, data := .seq items n, slots := sl } ∧ s.heap.get? b = some { cls := .type "tuple", dict := dd2, data := .seq items2 n2, slots := sl2 } ∧
        R (.ok (.ret (.bool (lexLt ns ms)))) s) :=
  .of_wp fun prog w A R s h => by
    obtain ⟨hp, g, d, tk, os⟩ := s; obtain ⟨hl, hb, h⟩ := h
    have f2 := AutoSeq1.sub_tuple_tuple
    have z1 : items.size = ns.length := by rw [← hi.length]; simp
    have z2 : items2.size = ms.length := by rw [← hj.length]; simp
    wp_walk using wpAny_loadPart' hl, wpAny_loadPart' hb, wpAny_forIn_list _ (fun rest b s' => b.1 = none ∧ s' = ⟨hp, g, d, tk, os⟩ ∧ ∃ (vs ws : List Value) (ns' ms' : List Int), rest = vs.zip ws ∧
      IntsAre vs ns' ∧ IntsAre ws ms' ∧ ns'.length + items2.size = ms'.length + items.size ∧ R (.ok (.ret (.bool (lexLt ns' ms')))) ⟨hp, g, d, tk, os⟩) _
    case turn =>
      rintro ⟨y, x⟩ rest b s' ⟨hb', rfl, vs, ws, ns', ms', hz, hvi, hwi, hlen, hR⟩
      cases hvi with
      | nil => rw [List.zip_nil_left] at hz; cases hz
      | cons a t hvi' =>
        cases hwi with
        | nil => rw [List.zip_nil_right] at hz; cases hz
        | cons c u hwi' =>
          rw [List.zip_cons_cons] at hz
          injection hz with hyx hrest
          injection hyx with hy hx
          subst hy hx
          rw [lexLt_cons] at hR
          simp only [List.length_cons] at hlen
          obtain ⟨e, he, hiff⟩ := eqAt_int A.in1 ⟨hp, g, d, tk, os⟩ a t c u
          refine wpAny_bind (he prog w _ _ ?_)
          cases e with
          | true =>
            rw [if_pos (hiff.mp rfl)] at hR
            wp_walk
            exact ⟨rfl, rfl, _, _, _, _, hrest, hvi', hwi', by omega, hR⟩
          | false =>
            rw [if_neg (fun q => absurd (hiff.mpr q) Bool.false_ne_true)] at hR
            have hri := rcLt_int A.in1 ⟨hp, g, d, tk, os⟩ a t c u prog w
            wp_walk using hri
            exact ⟨_, rfl, by simpa using hR⟩
    case fin =>
      rintro ⟨b1, b2⟩ s' ⟨hb', rfl, vs, ws, ns', ms', hz, hvi, hwi, hlen, hR⟩
      simp only at hb'
      subst hb'
      have hv : lexLt ns' ms' = decide (items.size < items2.size) := by
        cases hvi with
        | nil =>
          cases hwi with
          | nil =>
            simp only [List.length_nil] at hlen
            rw [lexLt_nil_nil]
            exact (decide_eq_false (by omega)).symm
          | cons c u hw =>
            simp only [List.length_nil, List.length_cons] at hlen
            rw [lexLt_nil_cons]
            exact (decide_eq_true (by omega)).symm
        | cons a t hv =>
          cases hwi with
          | nil =>
            simp only [List.length_nil, List.length_cons] at hlen
            rw [lexLt_cons_nil]
            exact (decide_eq_false (by omega)).symm
          | cons c u hw =>
            rw [List.zip_cons_cons] at hz
            cases hz
      rw [hv] at hR
      wp_walk
      exact ⟨_, rfl, by simpa [Builtin.Tuple.tupleCompareSizes] using hR⟩
    case h =>
      exact ⟨rfl, rfl, items.toList, items2.toList, ns, ms, rfl, hi, hj, by omega, h⟩
end
section
variable {prog : Program} {w : World} {A : Around} {E : Value → Shared → Prop} {s : Shared}

theorem lt_tupInts {l b : Addr} {items items2 : Array Value} {ns ms : List Int} {Q : Value → Shared → Prop} (hl : IsTup s.heap l items) (hb : IsTup s.heap b items2) (hi : IntsAre items.toList ns) (hj : IntsAre items2.toList ms)
    (hu : A.units < cLine) (h : Q (.bool (lexLt ns ms)) s) : wpAny (model prog w) A (compareOp .Lt (.ref l) (.ref b)) Q E s := by
  obtain ⟨⟨cls, dd, data, sl⟩, ho, hc, n, hd⟩ := id hl
  obtain ⟨⟨cls2, dd2, data2, sl2⟩, ho2, hc2, n2, hd2⟩ := id hb
  simp only at hc hd hc2 hd2
  subst hc hd hc2 hd2
  exact richCompare_meets_room (op := .Lt) ⟨_, ho, rfl⟩ ⟨_, ho2, rfl⟩ PySem.F.slot_tuple_lt PySem.F.entry_tuple_lt (PySem.F.args_tuple_lt_2 _ _) (tuple_lt_ints l b items items2 n n2 dd dd2 sl sl2 ns ms hi hj)
    ⟨ho, ho2, show Value.bool (lexLt ns ms) ≠ Value.notImplemented ∧ Q (.bool (lexLt ns ms)) s from ⟨(fun x => nomatch x), h⟩⟩ hu

/-- t + u, t not empty -/
theorem cat_tup {t b : Addr} {vs ws : List Value} {Q : Value → Shared → Prop} (ht : IsTup s.heap t vs.toArray) (hb : IsTup s.heap b ws.toArray) (hv : vs ≠ [])
    (h1 : ws = [] → Q (.ref t) s) (h2 : ws ≠ [] → Q (.ref s.heap.objs.size) { s with heap := s.heap.push { cls := .type "tuple", data := .seq (vs ++ ws).toArray } })
    (hsz : vs.length + ws.length ≤ sizeLine) : wpAny (model prog w) A (binaryOp .Add (.ref t) (.ref b)) Q E s := by
  obtain ⟨⟨cls, dd, data, sl⟩, ho, hc, n, hd⟩ := id ht
  obtain ⟨⟨cls2, dd2, data2, sl2⟩, ho2, hc2, n2, hd2⟩ := id hb
  simp only at hc hd hc2 hd2
  subst hc hd hc2 hd2
  have e : vs.toArray ++ ws.toArray = (vs ++ ws).toArray := by simp
  by_cases hw : ws = []
  · exact concat_meets ⟨_, ho, rfl⟩ ⟨_, ho2, rfl⟩ noFill_tuple_add seq_tuple_add PySem.F.slot_tuple_add PySem.F.entry_tuple_add (PySem.F.args_tuple_add_2 _ _)
      (tuple_addW1 t b vs.toArray ws.toArray n n2 dd dd2 sl sl2 (by simpa using hv) (by simp [hw])) ⟨ho, ho2, h1 hw⟩
  · refine concat_meets ⟨_, ho, rfl⟩ ⟨_, ho2, rfl⟩ noFill_tuple_add seq_tuple_add PySem.F.slot_tuple_add PySem.F.entry_tuple_add (PySem.F.args_tuple_add_2 _ _)
      (tuple_addW2 t b vs.toArray ws.toArray n n2 dd dd2 sl sl2 (by simpa using hv) (by simpa using hw) (by rw [List.size_toArray, List.size_toArray]; exact hsz)) ⟨ho, ho2, ?_⟩
    rw [e]
    exact h2 hw

def sIx (n d : Nat) : Option Int → Nat
  | none => d
  | some v => if v < 0 then (v + (n : Int)).toNat else min v.toNat n
theorem sIx_none (n d : Nat) : sIx n d none = d := rfl
theorem sIx_nat (n d k : Nat) : sIx n d (some (k : Int)) = min k n := by
  show (if (k : Int) < 0 then ((k : Int) + (n : Int)).toNat else min (k : Int).toNat n) = min k n
  rw [if_neg (by omega), Int.toNat_natCast]
theorem sIx_le (n d : Nat) (hd : d ≤ n) (o : Option Int) : sIx n d o ≤ n := by
  cases o with
  | none => exact hd
  | some v =>
    show (if v < 0 then (v + (n : Int)).toNat else min v.toNat n) ≤ n
    by_cases hv : v < 0
    · rw [if_pos hv]; omega
    · rw [if_neg hv]; exact Nat.min_le_right _ _
theorem clip_eq (v : Int) (n d : Nat) : (if v < 0 then max (v + (n : Int)) 0 else min v (n : Int)) = ((sIx n d (some v) : Nat) : Int) := by
  show (if v < 0 then max (v + (n : Int)) 0 else min v (n : Int)) = (((if v < 0 then (v + (n : Int)).toNat else min v.toNat n) : Nat) : Int)
  by_cases hv : v < 0
  · simp only [if_pos hv]; omega
  · simp only [if_neg hv]; omega
theorem adjust_gen (lo hi : Option Int) (n : Nat) : Builtin.Slice.sliceAdjust lo hi 1 (n : Int) = (((sIx n 0 lo : Nat) : Int), ((sIx n n hi : Nat) : Int)) := by
  have h1 : ¬ ((1 : Int) < 0) := by omega
  unfold Builtin.Slice.sliceAdjust
  simp only [h1, if_false]
  refine Prod.ext ?_ ?_
  · cases lo with
    | none => rfl
    | some v => exact clip_eq v n 0
  · cases hi with
    | none => rfl
    | some v => exact clip_eq v n n
theorem places_gen (i j : Nat) : Builtin.Slice.slicePlaces (i : Int) (j : Int) 1 = j - i := by
  unfold Builtin.Slice.slicePlaces
  have h1 : (1 : Int) > 0 := by omega
  simp only [h1, if_true, Int.ediv_one]
  split <;> omega
theorem slicePart_ {v : Value} {o : Option Int} {Q : Option Int → Shared → Prop} (p : IsPart v o) (h : Q o s) : wpAny (model prog w) A (Builtin.Slice.slicePartIndex v) Q E s := by
  cases p with
  | none => exact slicePart_none h
  | int i t => exact slicePart_int h
theorem sliceApplied_gen {sl : Addr} {vl vu : Value} {lo hi : Option Int} {n : Nat} {Q : Int × Int × Nat → Shared → Prop} (hs : s.heap.IsSliceOf sl vl vu .none) (pl : IsPart vl lo) (pu : IsPart vu hi)
    (h : Q (((sIx n 0 lo : Nat) : Int), 1, sIx n n hi - sIx n 0 lo) s) : wpAny (model prog w) A (Builtin.Slice.sliceApplied (.ref sl) (pure (n : Int))) Q E s := by
  obtain ⟨os, hos, hcs, hds⟩ := id hs
  unfold Builtin.Slice.sliceApplied Builtin.Slice.sliceFields
  refine wpAny_bind (wpAny_bind (wpAny_field hos hds (x := vl) rfl (wpAny_bind (wpAny_field hos hds (x := vu) rfl (wpAny_bind (wpAny_field hos hds (x := .none) rfl (wpAny_pure ?_)))))))
  refine wpAny_bind (slicePart_none ?_)
  show wpAny _ _ (if ((1 : Int) == 0) = true then _ else _) _ _ s
  rw [if_neg (by decide)]
  refine wpAny_bind (slicePart_ pl (wpAny_bind (slicePart_ pu (wpAny_bind (wpAny_pure ?_)))))
  show wpAny _ _ (match Builtin.Slice.sliceAdjust lo hi 1 (n : Int) with | (lo, hi) => pure (lo, (1 : Int), Builtin.Slice.slicePlaces lo hi 1)) _ _ s
  rw [adjust_gen lo hi n]
  show wpAny _ _ (pure (((sIx n 0 lo : Nat) : Int), (1 : Int), Builtin.Slice.slicePlaces ((sIx n 0 lo : Nat) : Int) ((sIx n n hi : Nat) : Int) 1)) _ _ s
  rw [places_gen]
  exact wpAny_pure h
theorem pick_gen (xs : Array Value) (i k : Nat) : ((List.range k).filterMap fun (m : Nat) => xs[((i : Int) + (m : Int) * 1).toNat]?).toArray = ((xs.toList.drop i).take k).toArray := by
  have e : (fun (m : Nat) => xs[((i : Int) + (m : Int) * 1).toNat]?) = fun m => xs[i + m]? := by
    funext m
    have : ((i : Int) + (m : Int) * 1).toNat = i + m := by omega
    rw [this]
  rw [e]
  have := pick_run xs i k
  rw [List.filterMap_map] at this
  have e2 : ((fun x => xs[x]?) ∘ fun x => i + x) = fun m => xs[i + m]? := rfl
  rw [e2] at this
  rw [this]

theorem getItem_tuple_cut {t sl : Addr} {items : Array Value} {vl vu : Value} {lo hi : Option Int} {Q : Value → Shared → Prop} (ht : IsTup s.heap t items) (hs : s.heap.IsSliceOf sl vl vu .none) (pl : IsPart vl lo) (pu : IsPart vu hi)
    (hw : ¬ (sIx items.size 0 lo = 0 ∧ sIx items.size items.size hi = items.size))
    (h : Q (.ref s.heap.objs.size) { s with heap := s.heap.push { cls := .type "tuple", data := .seq ((items.toList.drop (sIx items.size 0 lo)).take (sIx items.size items.size hi - sIx items.size 0 lo)).toArray } })
    (hsz : items.size ≤ sizeLine) : wpAny (model prog w) A (getItem (.ref t) (.ref sl)) Q E s := by
  have htake : sizeOk (.seq ((items.toList.drop (sIx items.size 0 lo)).take (sIx items.size items.size hi - sIx items.size 0 lo)).toArray) := by
    show ((items.toList.drop (sIx items.size 0 lo)).take (sIx items.size items.size hi - sIx items.size 0 lo)).toArray.size ≤ sizeLine
    rw [List.size_toArray, List.length_take, List.length_drop, Array.length_toList]
    omega
  have hj : sIx items.size items.size hi ≤ items.size := sIx_le _ _ (Nat.le_refl _) hi
  obtain ⟨os, hos, hcs, hds⟩ := id hs
  have hTs : s.TypeIs (.ref sl) "slice" := ⟨os, hos, hcs⟩
  unfold getItem
  try with_reducible refine wpAny_holding ?_
  first | refine wpAny_bind (wpAny_pure ?_) | skip
  refine wpAny_bind (wpAny_sequenceKey ht.typeIs (by decide) ?_)
  refine wpAny_bind (wpAny_callSpecial?_slot (name := Str.ofString "__getitem__") ht.typeIs PyProof.Rows.slot_tuple_getitem
    (wpAny_call_entry PyProof.Rows.slot_tuple_getitem ht.typeIs entry_tuple_getitem ?_ (args_tuple_getitem _ _)))
  show wpAny _ _ (Builtin.Tuple.tupleItemsOf (.ref t) >>= _) _ _ s
  refine wpAny_bind (tupleItemsOf_ ht ?_)
  refine wpAny_bind (wpAny_typeOf hTs ?_)
  rw [if_pos (by decide)]
  refine wpAny_bind (sliceApplied_gen hs pl pu ?_)
  have hno : ¬ ((((sIx items.size 0 lo : Nat) : Int) == 0 && (1 : Int) == 1 && (sIx items.size items.size hi - sIx items.size 0 lo) == items.size) = true) := by
    intro q
    rw [Bool.and_eq_true, Bool.and_eq_true] at q
    have q1 : ((sIx items.size 0 lo : Nat) : Int) = 0 := eq_of_beq q.1.1
    have q2 : sIx items.size items.size hi - sIx items.size 0 lo = items.size := eq_of_beq q.2
    exact hw ⟨by omega, by omega⟩
  show wpAny _ _ (if (((sIx items.size 0 lo : Nat) : Int) == 0 && (1 : Int) == 1 && (sIx items.size items.size hi - sIx items.size 0 lo) == items.size) = true then _ else _) _ _ s
  rw [if_neg hno, pick_gen]
  first
    | exact wpAny_bind (m := Builtin.Tuple.tupleExact _) (wpAny_newObj_type (wpAny_pure ⟨_, rfl, wpAny_pure h⟩) htake)
    | exact wpAny_bind (m := Builtin.Tuple.tupleExact _) (wpAny_newObj_type (wpAny_bind (wpAny_pure (wpAny_pure ⟨_, rfl, wpAny_pure h⟩))) htake)
    | exact wpAny_bind (wpAny_bind (m := Builtin.Tuple.tupleExact _) (wpAny_newObj_type (wpAny_pure (wpAny_pure ⟨_, rfl, wpAny_pure h⟩)) htake))
    | exact wpAny_bind (wpAny_bind (m := Builtin.Tuple.tupleExact _) (wpAny_newObj_type (wpAny_pure ⟨_, rfl, wpAny_pure h⟩) htake))
end
end HT
namespace L2
open PySem PySem.Spec PyProof.Rows
abbrev TO := St → Hp → (Option Int → Hp → Prop) → Prop
/-- a slice's part (left out, or an int) -/
def PO (X : Cx) (e : Option Expr) (t : TO) : Prop :=
  ∀ (pins : List (Addr × Obj)) (s : Shared) (σ : St) (H : Hp) (Q : Option Int → Hp → Prop), Inv X pins σ H s → t σ H Q →
    wpAny (model X.prog X.w) X.A (evalPart e X.env) (fun u s' => ∃ o H', Inv X pins σ H' s' ∧ IsPart u o ∧ Q o H') X.xe s
def tNoPart : TO := fun _ H Q => Q none H
def tPart (t : TE) : TO := fun σ H Q => t σ H fun x H1 => ∃ i, x = .int i ∧ Q (some i) H1

theorem intsAre_of {ns : List Int} : ∀ {us : List Value}, Vals (ns.map V.int) us → IntsAre us ns := by
  induction ns with
  | nil => intro us r; rw [List.map_nil] at r; cases r; exact .nil
  | cons n ns ih =>
    intro us r
    rw [List.map_cons] at r
    cases r with
    | cons r1 r2 =>
      obtain ⟨t, e⟩ := r1
      subst e
      exact .cons n t (ih r2)

section
variable {X : Cx} {e : Expr} {te : TE} {lo hi : Option Expr} {tl th : TO} {pos p2 : Pos}

theorem po_none : PO X none tNoPart := by
  intro pins s σ H Q I h
  rw [evalPart_none]
  exact wpAny_pure ⟨none, H, I, .none, h⟩
theorem po_some (h : PE X e te) : PO X (some e) (tPart te) := by
  intro pins s σ H Q I hw
  rw [evalPart_some]
  refine thn (h pins s σ H _ I hw) fun u s1 ⟨x, H1, I1, r1, q1⟩ => ?_
  obtain ⟨i, rfl, q⟩ := q1
  obtain ⟨t, rfl⟩ := r1
  exact ⟨some i, H1, I1, .int i t, q⟩

/-- what a slice of a value is, by values: the slice object stands at sl -/
def SlR (X : Cx) (r : V → Option Int → Option Int → Hp → VK → Prop) : Prop :=
  ∀ (pins : List (Addr × Obj)) (s : Shared) (σ : St) (H : Hp) (x : V) (v vl vu : Value) (lo hi : Option Int) (sl : Addr) (Q : VK), Inv X pins σ H s → RelV x v → s.heap.IsSliceOf sl vl vu .none → IsPart vl lo → IsPart vu hi → r x lo hi H Q →
    ∃ T id, typeLookup (.type T) "__getitem__" = pure (some (.builtin id)) ∧ s.TypeIs v T ∧ wpAny (model X.prog X.w) X.A (getItem v (.ref sl)) (EP X pins σ Q) X.xe s
theorem SlR.or {r r' : V → Option Int → Option Int → Hp → VK → Prop} (h : SlR X r) (h' : SlR X r') : SlR X (fun x lo hi H Q => r x lo hi H Q ∨ r' x lo hi H Q) := by
  intro pins s σ H x v vl vu lo hi sl Q I rx hs pl pu q
  rcases q with q | q
  · exact h pins s σ H x v vl vu lo hi sl Q I rx hs pl pu q
  · exact h' pins s σ H x v vl vu lo hi sl Q I rx hs pl pu q
def tSl (r : V → Option Int → Option Int → Hp → VK → Prop) (te : TE) (tl th : TO) : TE := fun σ H Q => te σ H fun x H1 => tl σ H1 fun l H2 => th σ H2 fun u H3 => r x l u H3 Q
/-- a[lo:hi], any a -/
theorem pe_slice {r : V → Option Int → Option Int → Hp → VK → Prop} (hr : SlR X r) (he : PE X e te) (hl : PO X lo tl) (hu : PO X hi th) : PE X (.Subscript e (.Slice lo hi none p2) pos) (tSl r te tl th) := by
  intro pins s σ H Q I h
  refine Subscript_ (thn (he pins s σ H _ I h) fun v s1 ⟨x, H1, I1, r1, q1⟩ => ?_)
  refine wpAny_Slice (thn (hl pins s1 σ H1 _ I1 q1) fun vl s2 ⟨l, H2, I2, pl, q2⟩ => thn (hu pins s2 σ H2 _ I2 q2) fun vu s3 ⟨u, H3, I3, pu, q3⟩ => ?_)
  rw [evalPart_none]
  refine wpAny_pure ?_
  have I4 : Inv X pins σ H3 { s3 with heap := s3.heap.push { cls := .type "slice", data := .fields #[vl, vu, .none] } } := I3.kept (t' := s3.toks) fun b ob q => Heap.get?_push_of_some _ q
  obtain ⟨T, id, hT, ht, hg⟩ := hr pins { s3 with heap := s3.heap.push { cls := .type "slice", data := .fields #[vl, vu, .none] } } σ H3 x v vl vu l u s3.heap.objs.size Q I4 r1 (Heap.IsSliceOf.new ..) pl pu q3
  show wpAny (model X.prog X.w) X.A (subscriptTail e (.Slice lo hi none p2) v (.ref s3.heap.objs.size)) (EP X pins σ Q) X.xe { s3 with heap := s3.heap.push { cls := .type "slice", data := .fields #[vl, vu, .none] } }
  exact tail_any (ops := [.ref s3.heap.objs.size, v]) ht hT hg (by with_unfolding_all rfl)

/-- the items of xs[lo:hi] -/
def cutV (xs : List V) (lo hi : Option Int) : List V := (xs.drop (HT.sIx xs.length 0 lo)).take (HT.sIx xs.length xs.length hi - HT.sIx xs.length 0 lo)
theorem cutV_length (xs : List V) (lo hi : Option Int) : (cutV xs lo hi).length ≤ xs.length := by
  unfold cutV
  rw [List.length_take, List.length_drop]
  omega
/-- t[lo:hi], not the whole of it (the whole would be t itself) -/
def rSlT (K : PySem.W.Frag) : V → Option Int → Option Int → Hp → VK → Prop := fun x lo hi H Q => ∃ a xs, x = .ref a ∧ SqT K H a xs ∧
  ¬ (HT.sIx xs.length 0 lo = 0 ∧ HT.sIx xs.length xs.length hi = xs.length) ∧ ∀ p, H p = none → Q (.ref p) (upd H p (.tup (cutV xs lo hi)))
theorem sl_tup : SlR X (rSlT X.K) := by
  intro pins s σ H x v vl vu lo hi sl Q I rx hs pl pu h
  obtain ⟨a, xs, rfl, hx, hw, q⟩ := h
  cases rx
  obtain ⟨its, r, ht, hz⟩ := I.tuple hx
  have hlen : its.toArray.size = xs.length := by rw [List.size_toArray]; exact r.length.symm
  refine ⟨"tuple", _, PyProof.Rows.slot_tuple_getitem.lookup, ht.typeIs, ?_⟩
  refine HT.getItem_tuple_cut ht hs pl pu (by rw [hlen]; exact hw) ?_ (by rw [hlen]; exact hz)
  rw [hlen]
  refine ⟨.ref s.heap.objs.size, _, I.laid (t' := s.toks) (o := .tup (cutV xs lo hi)) (fun b ob q => Heap.get?_push_of_some _ q) (Nat.le_refl _) ?_, rfl, q _ (I.hok.fresh (Nat.le_refl _))⟩
  exact ⟨Nat.le_trans (cutV_length xs lo hi) hz, _, (r.drop (HT.sIx xs.length 0 lo)).take (HT.sIx xs.length xs.length hi - HT.sIx xs.length 0 lo), IsTup.new _ _⟩

def rLtT (K : PySem.W.Frag) : R2 := fun x y H Q => ∃ a b ns ms, x = .ref a ∧ y = .ref b ∧ SqT K H a (ns.map V.int) ∧ SqT K H b (ms.map V.int) ∧ Q (.bl (HT.lexLt ns ms)) H
theorem op_ltT (hu : X.A.units < cLine) : OpR X (compareOp .Lt) (rLtT X.K) := by
  intro pins s σ H x y v u Q I rx ry h
  obtain ⟨a, b, ns, ms, rfl, rfl, ha, hb, q⟩ := h
  cases rx
  cases ry
  obtain ⟨its, r1, p1, _⟩ := I.tuple ha
  obtain ⟨its2, r2, p2, _⟩ := I.tuple hb
  have i1 : IntsAre its.toArray.toList ns := intsAre_of r1
  have i2 : IntsAre its2.toArray.toList ms := intsAre_of r2
  exact HT.lt_tupInts p1 p2 i1 i2 hu ⟨.bl (HT.lexLt ns ms), H, I, rfl, q⟩
/-- t + u, t not empty: u empty gives t itself -/
def rCatT (K : PySem.W.Frag) : R2 := fun x y H Q => ∃ a b xs ys, x = .ref a ∧ y = .ref b ∧ SqT K H a xs ∧ SqT K H b ys ∧ xs ≠ [] ∧ xs.length + ys.length ≤ sizeLine ∧
  (ys = [] → Q (.ref a) H) ∧ (ys ≠ [] → ∀ p, H p = none → Q (.ref p) (upd H p (.tup (xs ++ ys))))
theorem Vals.nil_iff {xs : List V} {us : List Value} (r : Vals xs us) : us = [] ↔ xs = [] := by
  cases r with
  | nil => simp
  | cons _ _ => simp
theorem op_catT : OpR X (binaryOp .Add) (rCatT X.K) := by
  intro pins s σ H x y v u Q I rx ry h
  obtain ⟨a, b, xs, ys, rfl, rfl, ha, hb, hx, hz, q1, q2⟩ := h
  cases rx
  cases ry
  obtain ⟨its, r1, p1, _⟩ := I.tuple ha
  obtain ⟨its2, r2, p2, _⟩ := I.tuple hb
  refine HT.cat_tup p1 p2 (fun z => hx (r1.nil_iff.mp z)) (fun z => ⟨.ref a, H, I, rfl, q1 (r2.nil_iff.mp z)⟩) (fun z => ?_) (by rw [← r1.length, ← r2.length]; exact hz)
  refine ⟨.ref s.heap.objs.size, _, I.laid (t' := s.toks) (o := .tup (xs ++ ys)) (fun b ob q => Heap.get?_push_of_some _ q) (Nat.le_refl _) ?_, rfl, q2 (fun w => z (r2.nil_iff.mpr w)) _ (I.hok.fresh (Nat.le_refl _))⟩
  exact ⟨by rw [List.length_append]; exact hz, _, r1.append r2, IsTup.new _ _⟩
/-- tuple(t) -/
theorem call_tupleT : CallR X (.type "tuple") (fun xs H Q => ∃ a ys, xs = [.ref a] ∧ SqT X.K H a ys ∧ Q (.ref a) H) := by
  intro pins s σ H xs us Q I r h
  obtain ⟨a, ys, rfl, ha, q⟩ := h
  obtain ⟨u, rfl, ru⟩ := vals1 r
  cases ru
  obtain ⟨its, _, p1, _⟩ := I.tuple ha
  exact call_tuple_same (items := its.toArray) p1 ⟨.ref a, H, I, rfl, q⟩
end
end L2
namespace L2
open PySem PySem.Spec PyProof.Rows
def ixN (n : Nat) (i : Int) : Option Nat := if 0 ≤ i then (if i < n then some i.toNat else none) else if -(n : Int) ≤ i then some (i + n).toNat else none
def atI {α : Type} (xs : List α) (i : Int) : Option α := (ixN xs.length i).bind fun j => xs[j]?
theorem ixN_seq {n : Nat} {i : Int} {j : Nat} (h : ixN n i = some j) : seqIndex? i n = some j ∧ j < n ∧ -(n : Int) ≤ i ∧ i < n := by
  unfold ixN at h
  by_cases h0 : 0 ≤ i
  · rw [if_pos h0] at h
    by_cases h1 : i < n
    · rw [if_pos h1] at h
      have e : i.toNat = j := Option.some.inj h
      exact ⟨by rw [seqIndex_of h0 h1, e], by omega, by omega, h1⟩
    · rw [if_neg h1] at h; cases h
  · rw [if_neg h0] at h
    by_cases h1 : -(n : Int) ≤ i
    · rw [if_pos h1] at h
      have e : (i + n).toNat = j := Option.some.inj h
      exact ⟨by rw [seqIndex_neg (by omega) h1, e], by omega, h1, by omega⟩
    · rw [if_neg h1] at h; cases h
theorem atI_get {α : Type} {xs : List α} {i : Int} {v : α} (h : atI xs i = some v) : ∃ j, seqIndex? i xs.length = some j ∧ xs[j]? = some v ∧ j < xs.length ∧ -(xs.length : Int) ≤ i ∧ i < xs.length := by
  unfold atI at h
  cases e : ixN xs.length i with
  | none => rw [e] at h; cases h
  | some j =>
    rw [e] at h
    obtain ⟨h1, h2, h3, h4⟩ := ixN_seq e
    exact ⟨j, h1, h, h2, h3, h4⟩
theorem atI_nat {α : Type} {xs : List α} {j : Nat} {v : α} (h : xs[j]? = some v) : atI xs (j : Int) = some v := by
  have hj : j < xs.length := (List.getElem?_eq_some_iff.mp h).1
  have e : ixN xs.length (j : Int) = some j := by
    unfold ixN
    rw [if_pos (by omega), if_pos (by omega)]; simp
  unfold atI; rw [e]; exact h
theorem atI_last {α : Type} (xs : List α) (v : α) : atI (xs ++ [v]) (-1) = some v := by
  have hl : (xs ++ [v]).length = xs.length + 1 := by simp
  have e : ixN (xs ++ [v]).length (-1) = some xs.length := by
    unfold ixN
    rw [hl, if_neg (by decide), if_pos (by omega)]
    congr 1
    omega
  unfold atI
  rw [e]
  show (xs ++ [v])[xs.length]? = some v
  simp

def PlainIx (b : Expr) : Prop := ∀ o i, subscripted b false o i = operate [o, i] (getItem o i)
/-- a subscript by values -/
def IxR (X : Cx) (r : R2) : Prop :=
  ∀ (value slice : Expr) (pins : List (Addr × Obj)) (s : Shared) (σ : St) (H : Hp) (x y : V) (v u : Value) (Q : VK), Inv X pins σ H s → RelV x v → RelV y u → r x y H Q →
    subscripted slice false v u = operate [v, u] (getItem v u) → wpAny (model X.prog X.w) X.A (subscriptTail value slice v u) (EP X pins σ Q) X.xe s
/-- a call of a builtin's method by values: the receiver, the arguments -/
def MtR (X : Cx) (id : String) (r : V → List V → Hp → VK → Prop) : Prop :=
  ∀ (pins : List (Addr × Obj)) (s : Shared) (σ : St) (H : Hp) (x : V) (xs : List V) (v : Value) (us : List Value) (Q : VK), Inv X pins σ H s → RelV x v → Vals xs us → r x xs H Q →
    wpAny (model X.prog X.w) X.A (call (.builtin id) (v :: us)) (EP X pins σ Q) X.xe s
section
variable {X : Cx} {a b : Expr} {ta tb : TE} {pos : Pos}
theorem IxR.or {r r' : R2} (h : IxR X r) (h' : IxR X r') : IxR X (fun x y H Q => r x y H Q ∨ r' x y H Q) := by
  intro value slice pins s σ H x y v u Q I rx ry q hs
  rcases q with q | q
  · exact h value slice pins s σ H x y v u Q I rx ry q hs
  · exact h' value slice pins s σ H x y v u Q I rx ry q hs
theorem MtR.or {id : String} {r r' : V → List V → Hp → VK → Prop} (h : MtR X id r) (h' : MtR X id r') : MtR X id (fun x xs H Q => r x xs H Q ∨ r' x xs H Q) := by
  intro pins s σ H x xs v us Q I rx rs q
  rcases q with q | q
  · exact h pins s σ H x xs v us Q I rx rs q
  · exact h' pins s σ H x xs v us Q I rx rs q
/-- a[b] -/
theorem pe_ix {r : R2} (hr : IxR X r) (ha : PE X a ta) (hb : PE X b tb) (hs : PlainIx b) : PE X (.Subscript a b pos) (tOp r ta tb) := by
  intro pins s σ H Q I h
  exact Subscript_ (binT ha hb I h fun v u s2 x y H2 I2 rx ry q => hr a b pins s2 σ H2 x y v u Q I2 rx ry q (hs _ _))

def rIxL (K : PySem.W.Frag) : R2 := fun x y H Q => ∃ p xs i v, x = .ref p ∧ y = .int i ∧ SqL K H p xs ∧ atI xs i = some v ∧ Q v H
def rIxT (K : PySem.W.Frag) : R2 := fun x y H Q => ∃ p xs i v, x = .ref p ∧ y = .int i ∧ SqT K H p xs ∧ atI xs i = some v ∧ Q v H
def rIxS : R2 := fun x y H Q => ∃ z i c, x = .str z ∧ y = .int i ∧ z.length ≤ sizeLine ∧ atI z.cps.toList i = some c ∧ Q (.str ⟨#[c]⟩) H
theorem ix_list : IxR X (rIxL X.K) := by
  intro value slice pins s σ H x y v u Q I rx ry h hs
  obtain ⟨p, xs, i, z, rfl, rfl, hq, he, q⟩ := h
  cases rx
  obtain ⟨t, rfl⟩ := ry
  obtain ⟨its, r, pl, hz⟩ := I.list hq
  obtain ⟨j, h1, h2, h3, h4, h5⟩ := atI_get he
  obtain ⟨w, ew, rw'⟩ := r.get h2
  have hl := r.length
  have hn := line63
  have fin : EP X pins σ Q w s := ⟨z, H, I, rw', q⟩
  by_cases h0 : 0 ≤ i
  · have hj : i.toNat = j := by
      rw [seqIndex_of h0 h5] at h1
      exact Option.some.inj h1
    exact item_listR pl.isList h0 (by omega) (by rw [hj]; simpa using ew) fin hs
  · have hj : (i + (its.toArray.size : Int)).toNat = j := by
      rw [seqIndex_neg (by omega) h4] at h1
      rw [List.size_toArray, ← hl]
      exact Option.some.inj h1
    exact subscriptTail_builtinR (x := w) pl.isList.typeIs slot_list_getitem.lookup
      (wpAny_getItem_list_neg (Q := fun r s' => r = w ∧ EP X pins σ Q r s') pl.isList (by omega) (by rw [List.size_toArray] <;> omega) (by omega) (by rw [hj]; simpa using ew) ⟨rfl, fin⟩) hs
theorem ix_tup : IxR X (rIxT X.K) := by
  intro value slice pins s σ H x y v u Q I rx ry h hs
  obtain ⟨p, xs, i, z, rfl, rfl, hq, he, q⟩ := h
  cases rx
  obtain ⟨t, rfl⟩ := ry
  obtain ⟨its, r, pl, hz⟩ := I.tuple hq
  obtain ⟨j, h1, h2, h3, h4, h5⟩ := atI_get he
  obtain ⟨w, ew, rw'⟩ := r.get h2
  have hl := r.length
  have hn := line63
  have fin : EP X pins σ Q w s := ⟨z, H, I, rw', q⟩
  exact subscriptTail_builtinR (x := w) pl.typeIs slot_tuple_getitem.lookup
    (getItem_tuple (j := j) (Q := fun r s' => r = w ∧ EP X pins σ Q r s') pl (by omega) (by omega) (by rw [List.size_toArray, ← hl]; exact h1) (by simpa using ew) ⟨rfl, fin⟩) hs
theorem ix_str : IxR X rIxS := by
  intro value slice pins s σ H x y v u Q I rx ry h hs
  obtain ⟨z, i, c, rfl, rfl, hz, he, q⟩ := h
  obtain ⟨t, rfl⟩ := rx
  obtain ⟨t', rfl⟩ := ry
  obtain ⟨j, h1, h2, h3, h4, h5⟩ := atI_get he
  have hl : z.cps.toList.length = z.length := by simp [Str.length]
  rw [hl] at h1 h4 h5
  have hn := line63
  exact tail_any (typeIs_str s z t) slot_str_getitem.lookup (getItem_str (c := c) (by
    have e1 : decide (i < -(2 ^ 63 : Int)) = false := decide_eq_false (by omega)
    have e2 : decide (i ≥ 2 ^ 63) = false := decide_eq_false (by omega)
    rw [e1, e2, Bool.or_false]) (by rw [h1]; simpa using h2) ⟨.str ⟨#[c]⟩, H, I.tok _, ⟨_, rfl⟩, q⟩) hs
/-- list, tuple or str -/
def rIx (K : PySem.W.Frag) : R2 := fun x y H Q => rIxL K x y H Q ∨ rIxT K x y H Q ∨ rIxS x y H Q
theorem ix_seq : IxR X (rIx X.K) := ix_list.or (ix_tup.or ix_str)

theorem mapSeq_set (its : List Value) (n j : Nat) (u : Value) : Obj.mapSeq (·.setIfInBounds j u) { cls := .type "list", data := .seq its.toArray n } = { cls := .type "list", data := .seq (its.set j u).toArray n } := by
  simp [Obj.mapSeq]
theorem Inv.lst {pins : List (Addr × Obj)} {σ : St} {H : Hp} {s : Shared} {p : Addr} {xs : List V} (I : Inv X pins σ H s) (h : H p = some (.lst xs)) :
    ∃ (its : List Value) (n : Nat), Vals xs its ∧ s.heap.get? p = some { cls := .type "list", data := .seq its.toArray n } ∧ xs.length ≤ sizeLine := by
  obtain ⟨z, its, n, r, e⟩ := I.hok p _ h
  exact ⟨its, n, r, e, z⟩
/-- the list at p is written by an update of its object -/
theorem Inv.lstUpd {pins : List (Addr × Obj)} {σ : St} {H : Hp} {s : Shared} {p : Addr} {xs ys : List V} {its its' : List Value} {n n' : Nat} {f : Obj → Obj} (I : Inv X pins σ H s) (h : H p = some (.lst xs))
    (ho : s.heap.get? p = some { cls := .type "list", data := .seq its.toArray n }) (hf : f { cls := .type "list", data := .seq its.toArray n } = { cls := .type "list", data := .seq its'.toArray n' }) (r : Vals ys its') (hz : ys.length ≤ sizeLine) (t : Nat) :
    Inv X pins σ (upd H p (.lst ys)) { s with heap := s.heap.update p f, toks := t } := by
  have e : (s.heap.update p f).get? p = some { cls := .type "list", data := .seq its'.toArray n' } := by
    rw [Heap.get?_update_self f ho (by rw [hf] <;> rfl), hf]
  refine I.write (x := p) (e := p) (by rw [h]; trivial) (.inl rfl) (fun b u hb q => (Heap.get?_update_other _ _ (Ne.symm hb)).trans q) ⟨_, e⟩ ?_
  exact ⟨hz, its', n', r, e⟩
def rSetL : V → V → V → Hp → (Hp → Prop) → Prop := fun o i v H Q => ∃ p xs k j, o = .ref p ∧ i = .int k ∧ H p = some (.lst xs) ∧ ixN xs.length k = some j ∧ Q (upd H p (.lst (xs.set j v)))
theorem set_list : PSet X rSetL := by
  intro pins s σ H o i v ov iv u Q I ro ri rv h
  obtain ⟨p, xs, k, j, rfl, rfl, hp, hj, q⟩ := h
  cases ro
  obtain ⟨t, rfl⟩ := ri
  obtain ⟨its, n, r, ho, hz⟩ := I.lst hp
  obtain ⟨h1, h2, h3, h4⟩ := ixN_seq hj
  have hl := r.length
  have hn := line63
  have I' : Inv X pins σ (upd H p (.lst (xs.set j v))) { s with heap := s.heap.update p (Obj.mapSeq (·.setIfInBounds j u)) } :=
    I.lstUpd hp ho (mapSeq_set its n j u) (r.set rv j) (by rw [List.length_set]; exact hz) s.toks
  by_cases h0 : 0 ≤ k
  · have hk : k.toNat = j := by
      rw [seqIndex_of h0 h4] at h1
      exact Option.some.inj h1
    exact PySem.W.ki_setAt ho h0 (by omega) (by rw [List.size_toArray, ← hl]; exact h4) (by rw [hk]; exact ⟨_, I', q⟩)
  · have hk : (k + (its.toArray.size : Int)).toNat = j := by
      rw [seqIndex_neg (by omega) h3] at h1
      rw [List.size_toArray, ← hl]
      exact Option.some.inj h1
    exact PySem.W.ki_setBack ho (by omega) (by rw [List.size_toArray, ← hl]; exact h3) (by omega) (by rw [hk]; exact ⟨_, I', q⟩)

theorem slice_bounds (lo hi : Option Int) (n : Nat) : (sliceBounds lo hi none n).1 = ((HT.sIx n 0 lo : Nat) : Int) ∧ (sliceBounds lo hi none n).2.1 = ((HT.sIx n n hi : Nat) : Int) ∧ (sliceBounds lo hi none n).2.2 = 1 := by
  refine ⟨?_, ?_, rfl⟩
  · cases lo with
    | none => simp [sliceBounds, HT.sIx]
    | some i =>
      simp only [sliceBounds, HT.sIx, Option.getD_none, show (1 : Int) > 0 by decide, if_true]
      by_cases h : i < 0
      · simp only [h, if_true] <;> omega
      · simp only [h, if_false] <;> omega
  · cases hi with
    | none => simp [sliceBounds, HT.sIx]
    | some i =>
      simp only [sliceBounds, HT.sIx, Option.getD_none, show (1 : Int) > 0 by decide, if_true]
      by_cases h : i < 0
      · simp only [h, if_true] <;> omega
      · simp only [h, if_false] <;> omega
theorem slicePick_cut (its : List Value) (lo hi : Option Int) : slicePick its.toArray lo hi none = ((its.drop (HT.sIx its.length 0 lo)).take (HT.sIx its.length its.length hi - HT.sIx its.length 0 lo)).toArray := by
  obtain ⟨h1, h2, h3⟩ := slice_bounds lo hi its.toArray.size
  unfold slicePick
  rw [h1, h2, h3]
  simp only [sliceRange_one, pick_run, List.size_toArray] <;> rfl
/-- xs[lo:hi] of a list: a new list -/
def rSlL (K : PySem.W.Frag) : V → Option Int → Option Int → Hp → VK → Prop := fun x lo hi H Q => ∃ a xs, x = .ref a ∧ SqL K H a xs ∧ ∀ p, H p = none → Q (.ref p) (upd H p (.lst (cutV xs lo hi)))
theorem sl_list : SlR X (rSlL X.K) := by
  intro pins s σ H x v vl vu lo hi sl Q I rx hs pl pu h
  obtain ⟨a, xs, rfl, hx, q⟩ := h
  cases rx
  obtain ⟨its, r, ht, hz⟩ := I.list hx
  have hlen := r.length
  refine ⟨"list", _, slot_list_getitem.lookup, ht.isList.typeIs, ?_⟩
  refine wpAny_getItem_list_slice ht.isList hs pl pu .none (by simp) ?_ (by rw [List.size_toArray] <;> omega)
  rw [slicePick_cut, ← hlen]
  refine ⟨.ref s.heap.objs.size, _, I.laid (t' := s.toks) (o := .lst (cutV xs lo hi)) (fun b ob q => Heap.get?_push_of_some _ q) (Nat.le_refl _) ?_, rfl, q _ (I.hok.fresh (Nat.le_refl _))⟩
  exact ⟨Nat.le_trans (cutV_length xs lo hi) hz, _, 0, (r.drop (HT.sIx xs.length 0 lo)).take (HT.sIx xs.length xs.length hi - HT.sIx xs.length 0 lo), Heap.get?_push_size _ rfl⟩

def flatV : V → Bool
  | .non => true
  | .bl _ => true
  | .int _ => true
  | .str _ => true
  | _ => false
/-- == of flat values -/
def eqV : V → V → Bool
  | .non, .non => true
  | .bl a, .bl b => a == b
  | .bl a, .int b => (if a then 1 else 0) == b
  | .int a, .bl b => a == (if b then 1 else 0)
  | .int a, .int b => a == b
  | .str a, .str b => a == b
  | _, _ => false
theorem eqAt_V {A : Around} {s : Shared} {y x : V} {u v : Value} (ry : RelV y u) (rx : RelV x v) (fy : flatV y = true) (fx : flatV x = true) : SeqAt.EqAt A s u v (eqV y x) := by
  cases y with
  | non =>
    cases ry
    cases x with
    | non => cases rx; exact SeqAt.EqAt.same _
    | bl b => cases rx; exact SeqAt.EqAt.none_bool b
    | int b => obtain ⟨t, rfl⟩ := rx; exact SeqAt.EqAt.none_int b t
    | str b => obtain ⟨t, rfl⟩ := rx; exact SeqAt.EqAt.none_str b t
    | _ => exact absurd (show false = true from fx) Bool.false_ne_true
  | bl a =>
    cases ry
    cases x with
    | non => cases rx; exact SeqAt.EqAt.bool_none a
    | bl b => cases rx; exact SeqAt.EqAt.bool_bool a b
    | int b => obtain ⟨t, rfl⟩ := rx; exact SeqAt.EqAt.bool_int a b t
    | str b => obtain ⟨t, rfl⟩ := rx; exact SeqAt.EqAt.bool_str a b t
    | _ => exact absurd (show false = true from fx) Bool.false_ne_true
  | int a =>
    obtain ⟨t', rfl⟩ := ry
    cases x with
    | non => cases rx; exact SeqAt.EqAt.int_none a t'
    | bl b => cases rx; exact SeqAt.EqAt.int_bool a t' b
    | int b => obtain ⟨t, rfl⟩ := rx; exact SeqAt.EqAt.int_int a t' b t
    | str b => obtain ⟨t, rfl⟩ := rx; exact SeqAt.EqAt.int_str a t' b t
    | _ => exact absurd (show false = true from fx) Bool.false_ne_true
  | str a =>
    obtain ⟨t', rfl⟩ := ry
    cases x with
    | non => cases rx; exact SeqAt.EqAt.str_none a t'
    | bl b => cases rx; exact SeqAt.EqAt.str_bool a t' b
    | int b => obtain ⟨t, rfl⟩ := rx; exact SeqAt.EqAt.str_int a t' b t
    | str b => obtain ⟨t, rfl⟩ := rx; exact SeqAt.EqAt.str_str a t' b t
    | _ => exact absurd (show false = true from fx) Bool.false_ne_true
  | _ => exact absurd (show false = true from fy) Bool.false_ne_true
/-- the items' answers, read off the values (a value's own answer does not lean on its token) -/
def eqU (x : V) (u : Value) : Bool := match u with
  | .none => eqV .non x
  | .bool b => eqV (.bl b) x
  | .int i _ => eqV (.int i) x
  | .str z _ => eqV (.str z) x
  | _ => false
theorem eqU_of {x y : V} {u : Value} (r : RelV y u) (f : flatV y = true) : eqU x u = eqV y x := by
  cases y with
  | non => cases r; rfl
  | bl b => cases r; rfl
  | int i => obtain ⟨t, rfl⟩ := r; rfl
  | str z => obtain ⟨t, rfl⟩ := r; rfl
  | _ => exact absurd (show false = true from f) Bool.false_ne_true
theorem any_eqU {x : V} : ∀ {xs : List V} {us : List Value}, Vals xs us → xs.all flatV = true → us.any (eqU x) = xs.any fun y => eqV y x
  | _, _, .nil, _ => rfl
  | y :: xs, u :: us, .cons r t, f => by
    rw [List.all_cons, Bool.and_eq_true] at f
    rw [List.any_cons, List.any_cons, eqU_of r f.1, any_eqU t f.2]
theorem mem_eqAt {A : Around} {s : Shared} {x : V} {v : Value} (rx : RelV x v) (fx : flatV x = true) : ∀ {xs : List V} {us : List Value}, Vals xs us → xs.all flatV = true → ∀ u ∈ us, SeqAt.EqAt A s u v (eqU x u)
  | _, _, .nil, _ => fun u hu => by cases hu
  | y :: xs, u :: us, .cons r t, f => fun u' hu => by
    rw [List.all_cons, Bool.and_eq_true] at f
    rcases List.mem_cons.mp hu with rfl | hu
    · rw [eqU_of r f.1]; exact eqAt_V r rx f.1 fx
    · exact mem_eqAt rx fx t f.2 u' hu
def inV (x : V) (xs : List V) : Bool := xs.any fun y => eqV y x
/-- x in a list or tuple of flat items -/
def rIn (K : PySem.W.Frag) (neg : Bool) : R2 := fun x y H Q => ∃ p xs, y = .ref p ∧ (SqL K H p xs ∨ SqT K H p xs) ∧ flatV x = true ∧ xs.all flatV = true ∧ Q (.bl (if neg then !inV x xs else inV x xs)) H
theorem op_in_seq : OpR X (compareOp .In) (rIn X.K false) := by
  intro pins s σ H x y v u Q I rx ry h
  obtain ⟨p, xs, rfl, hq, fx, fs, q⟩ := h
  cases ry
  rcases hq with hq | hq
  · obtain ⟨its, r, pl, hz⟩ := I.list hq
    refine SeqAt.in_listAt (eqU x) pl.isList (fun w hw => mem_eqAt rx fx r fs w (by simpa using hw)) ⟨.bl _, H, I, rfl, ?_⟩
    rw [show its.toArray.any (eqU x) = its.any (eqU x) by simp, any_eqU r fs]
    exact q
  · obtain ⟨its, r, pl, hz⟩ := I.tuple hq
    refine SeqAt.in_tupleAt (eqU x) pl (fun w hw => mem_eqAt rx fx r fs w (by simpa using hw)) ⟨.bl _, H, I, rfl, ?_⟩
    rw [show its.toArray.any (eqU x) = its.any (eqU x) by simp, any_eqU r fs]
    exact q
theorem op_notIn_seq : OpR X (compareOp .NotIn) (rIn X.K true) := by
  intro pins s σ H x y v u Q I rx ry h
  obtain ⟨p, xs, rfl, hq, fx, fs, q⟩ := h
  cases ry
  rcases hq with hq | hq
  · obtain ⟨its, r, pl, hz⟩ := I.list hq
    refine SeqAt.notIn_listAt (eqU x) pl.isList (fun w hw => mem_eqAt rx fx r fs w (by simpa using hw)) ⟨.bl _, H, I, rfl, ?_⟩
    rw [show its.toArray.any (eqU x) = its.any (eqU x) by simp, any_eqU r fs]
    exact q
  · obtain ⟨its, r, pl, hz⟩ := I.tuple hq
    refine SeqAt.notIn_tupleAt (eqU x) pl (fun w hw => mem_eqAt rx fx r fs w (by simpa using hw)) ⟨.bl _, H, I, rfl, ?_⟩
    rw [show its.toArray.any (eqU x) = its.any (eqU x) by simp, any_eqU r fs]
    exact q
theorem op_notIn_str : OpR X (compareOp .NotIn) (fun x y H Q => ∃ i j, x = .str i ∧ y = .str j ∧ Q (.bl (!(!(Builtin.Str.occurrences j i 0 j.length 1).isEmpty))) H) := by
  intro pins s σ H x y v u Q I rx ry h
  obtain ⟨i, j, rfl, rfl, q⟩ := h
  obtain ⟨t, rfl⟩ := rx
  obtain ⟨t', rfl⟩ := ry
  exact notIn_str ⟨.bl _, H, I, rfl, q⟩

theorem call_len_seq : CallR X (.builtin "len") (fun xs H Q => ∃ p ys, xs = [.ref p] ∧ (SqL X.K H p ys ∨ SqT X.K H p ys) ∧ Q (.int ys.length) H) := by
  intro pins s σ H xs us Q I r h
  obtain ⟨p, ys, rfl, hq, q⟩ := h
  obtain ⟨u, rfl, rx⟩ := vals1 r
  cases rx
  have hn := line63
  rcases hq with hq | hq
  · obtain ⟨its, r', pl, hz⟩ := I.list hq
    have hlen := r'.length
    exact Calls.call_len_list pl.isList (by simp only [List.size_toArray] <;> omega) ⟨.int ys.length, H, I.tok _, ⟨s.toks + 1, by rw [List.size_toArray, hlen]⟩, q⟩
  · obtain ⟨its, r', pl, hz⟩ := I.tuple hq
    have hlen := r'.length
    exact len_tuple pl (by simp only [List.size_toArray] <;> omega) ⟨.int ys.length, H, I.tok _, ⟨s.toks + 1, by rw [List.size_toArray, hlen]⟩, q⟩
theorem call_len_str : CallR X (.builtin "len") (fun xs H Q => ∃ z, xs = [.str z] ∧ z.length ≤ sizeLine ∧ Q (.int z.length) H) := by
  intro pins s σ H xs us Q I r h
  obtain ⟨z, rfl, hz, q⟩ := h
  obtain ⟨u, rfl, t, rfl⟩ := vals1 r
  have hn := line63
  exact len_str (by omega) ⟨.int z.length, H, I.tok _, ⟨_, rfl⟩, q⟩
theorem CallR.or {f : Value} {r r' : List V → Hp → VK → Prop} (h : CallR X f r) (h' : CallR X f r') : CallR X f (fun xs H Q => r xs H Q ∨ r' xs H Q) := by
  intro pins s σ H xs us Q I rs q
  rcases q with q | q
  · exact h pins s σ H xs us Q I rs q
  · exact h' pins s σ H xs us Q I rs q
theorem call_list_of : CallR X (.type "list") (fun xs H Q => ∃ p ys, xs = [.ref p] ∧ (SqL X.K H p ys ∨ SqT X.K H p ys) ∧ ∀ l, H l = none → Q (.ref l) (upd H l (.lst ys))) := by
  intro pins s σ H xs us Q I r h
  obtain ⟨p, ys, rfl, hq, q⟩ := h
  obtain ⟨u, rfl, rx⟩ := vals1 r
  cases rx
  have fin : ∀ (its : List Value), Vals ys its → ys.length ≤ sizeLine → ∀ (h' : Heap) (c' : Nat), (∀ b o', s.heap.get? b = some o' → h'.get? b = some o') →
      h'.get? s.heap.objs.size = some { cls := .type "list", dict := none, data := .seq its.toArray c', slots := #[] } → EP X pins σ Q (.ref s.heap.objs.size) { s with heap := h' } := fun its r' hz h' c' kp e =>
    ⟨.ref s.heap.objs.size, _, I.laid (t' := s.toks) kp (Nat.le_refl _) (show ObjOk X.prog X.w _ h' _ (.lst ys) from ⟨hz, its, c', r', e⟩), rfl, q _ (I.hok.fresh (Nat.le_refl _))⟩
  rcases hq with hq | hq
  · obtain ⟨its, r', pl, hz⟩ := I.list hq
    have hlen := r'.length
    obtain ⟨o, ho, hc, n, hd⟩ := pl.isList
    exact call_list_seq p (.inl rfl) ho hc hd (fun h' c' kp e => fin its r' hz h' c' kp e) (by simp only [List.size_toArray] <;> omega)
  · obtain ⟨its, r', pl, hz⟩ := I.tuple hq
    have hlen := r'.length
    obtain ⟨o, ho, hc, n, hd⟩ := pl
    exact call_list_seq p (.inr rfl) ho hc hd (fun h' c' kp e => fin its r' hz h' c' kp e) (by simp only [List.size_toArray] <;> omega)
theorem call_tuple_of : CallR X (.type "tuple") (fun xs H Q => ∃ p ys, xs = [.ref p] ∧ ((SqL X.K H p ys ∧ ∀ l, H l = none → Q (.ref l) (upd H l (.tup ys))) ∨ (SqT X.K H p ys ∧ Q (.ref p) H))) := by
  intro pins s σ H xs us Q I r h
  obtain ⟨p, ys, rfl, h⟩ := h
  obtain ⟨u, rfl, rx⟩ := vals1 r
  cases rx
  rcases h with ⟨hq, q⟩ | ⟨hq, q⟩
  · obtain ⟨its, r', pl, hz⟩ := I.list hq
    have hlen := r'.length
    refine call_tuple_list pl.isList (fun h' kp => ?_) (by simp only [List.size_toArray] <;> omega)
    have I1 : Inv X pins σ H { s with heap := h' } := I.kept (t' := s.toks) kp
    have I2 : Inv X pins σ (upd H h'.objs.size (.tup ys)) { s with heap := h'.push { cls := .type "tuple", data := .seq its.toArray } } :=
      I1.laid (t' := s.toks) (fun b o e => Heap.get?_push_of_some _ e) (Nat.le_refl _) (show ObjOk X.prog X.w _ _ _ (.tup ys) from ⟨hz, its, r', IsTup.new _ _⟩)
    exact ⟨.ref h'.objs.size, _, I2, rfl, q _ (I1.hok.fresh (Nat.le_refl _))⟩
  · obtain ⟨its, r', pl, hz⟩ := I.tuple hq
    exact call_tuple_same pl ⟨.ref p, H, I, rfl, q⟩

def tyV (K : PySem.W.Frag) (T : String) (x : V) (H : Hp) : Prop := match x with
  | .str _ => T = "str"
  | .int _ => T = "int"
  | .ref p => (T = "list" ∧ ∃ xs, SqL K H p xs) ∨ (T = "tuple" ∧ ∃ o, K.lookup p = some o ∧ o.cls = .type "tuple" ∧ o.dict = none) ∨
      (T = "dict" ∧ ((∃ kvs, H p = some (.dK kvs)) ∨ ∃ kvs, H p = some (.dT kvs))) ∨ (T = "set" ∧ ∃ S n, H p = some (.set S n))
  | _ => False
theorem tyV_is {pins : List (Addr × Obj)} {σ : St} {H : Hp} {s : Shared} {T : String} {x : V} {v : Value} (I : Inv X pins σ H s) (r : RelV x v) (ty : tyV X.K T x H) :
    s.TypeIs v T ∧ ∀ a, v = .ref a → ∃ ob, s.heap.get? a = some ob ∧ ob.dict = none := by
  cases x with
  | str z =>
    obtain ⟨t, rfl⟩ := r
    cases (show T = "str" from ty)
    exact ⟨typeIs_str s z t, fun _ e => nomatch e⟩
  | int i =>
    obtain ⟨t, rfl⟩ := r
    cases (show T = "int" from ty)
    exact ⟨typeIs_int s i t, fun _ e => nomatch e⟩
  | ref p =>
    cases r
    rcases ty with ⟨rfl, xs, hq⟩ | ⟨rfl, o, hk, hc, hd⟩ | ⟨rfl, hk⟩ | ⟨rfl, S, n, hk⟩
    · obtain ⟨its, _, pl, _⟩ := I.list hq
      refine ⟨pl.isList.typeIs, fun a e => ?_⟩
      cases e
      obtain ⟨o, n, e, c, hd, _⟩ := pl
      exact ⟨o, e, hd⟩
    · refine ⟨⟨o, I.kIn p o hk, hc⟩, fun a e => ?_⟩
      cases e
      exact ⟨o, I.kIn _ o hk, hd⟩
    · have z : ∃ o, s.heap.get? p = some o ∧ o.ExactDict := by
        rcases hk with ⟨kvs, hk⟩ | ⟨kvs, hk⟩
        · obtain ⟨_, _, _, _, o, _, _, e, ex, _⟩ := I.hok p _ hk
          exact ⟨o, e, ex⟩
        · obtain ⟨_, _, _, _, o, _, _, e, ex, _⟩ := I.hok p _ hk
          exact ⟨o, e, ex⟩
      obtain ⟨o, e, ex⟩ := z
      refine ⟨⟨o, e, ex.1⟩, fun a e2 => ?_⟩
      cases e2
      exact ⟨o, e, ex.2.1⟩
    · obtain ⟨o, _, _, _, e, ex, _⟩ := I.hok p _ hk
      refine ⟨⟨o, e, ex.1⟩, fun a e2 => ?_⟩
      cases e2
      exact ⟨o, e, ex.2.1⟩
  | _ => exact False.elim ty
def tBM0 (K : PySem.W.Frag) (T : String) (r : V → List V → Hp → VK → Prop) (to : TE) : TE := fun σ H Q => to σ H fun x H1 => tyV K T x H1 ∧ r x [] H1 Q
def tBM (K : PySem.W.Frag) (T : String) (r : V → List V → Hp → VK → Prop) (to : TE) (t : TA) : TE := fun σ H Q => to σ H fun x H1 => tyV K T x H1 ∧ t σ H1 fun xs H2 => r x xs H2 Q
variable {o e : Expr} {es : List Expr} {to : TE} {t : TA} {name : Str} {apos cpos : Pos} {T id : String} {r : V → List V → Hp → VK → Prop}
theorem pe_bm0 (pa : PlainAttrs T) (slot : Slot T name id) (hty : typeOf (.builtin id) = pure (.type "method_descriptor")) (hm : MtR X id r) (ho : PE X o to)
    (hbase : attributeBase o name X.env (eval o X.env) = eval o X.env := by rfl) (hline : (apos.endLine == cpos.line) = true := by rfl) : PE X (.Call (.Attribute o name apos) [] [] cpos) (tBM0 X.K T r to) := by
  intro pins s σ H Q I h
  refine wpAny_Call_method0_late hbase hline (thn (ho pins s σ H _ I h) fun v s1 ⟨x, H1, I1, r1, ty, q1⟩ => ?_)
  obtain ⟨h1, h2⟩ := tyV_is I1 r1 ty
  exact ⟨T, id, pa, slot, hty, h1, h2, Calls.callWith_builtin rfl (PySem.evalArgs_none (hm pins s1 σ H1 x [] v [] Q I1 r1 .nil q1))⟩
theorem pe_bm (pa : PlainAttrs T) (slot : Slot T name id) (hty : typeOf (.builtin id) = pure (.type "method_descriptor")) (hm : MtR X id r) (ho : PE X o to) (ha : PA X (e :: es) t)
    (hbase : attributeBase o name X.env (eval o X.env) = eval o X.env := by rfl)
    (hfew : ((backTo cpos (starEach (e :: es) X.env)).all (fun x => !x.1) && (backToKw cpos (keywordEach [] X.env)).all (fun x => x.1.isSome)
      && decide ((e :: es).length + ([] : List Keyword).length + (if ([] : List Keyword).isEmpty then 0 else 1) < 30)) = true := by rfl)
    (hline : (apos.endLine == cpos.line) = true := by rfl) (hs : starEach (e :: es) X.env = (false, eval e X.env) :: starEach es X.env := by rfl) (hplain : (backTo cpos (starEach es X.env)).any (·.1) = false := by rfl) :
    PE X (.Call (.Attribute o name apos) (e :: es) [] cpos) (tBM X.K T r to t) := by
  intro pins s σ H Q I h
  refine wpAny_Call_method_late hbase hfew hline rfl (thn (ho pins s σ H _ I h) fun v s1 ⟨x, H1, I1, r1, ty, q1⟩ => ?_)
  obtain ⟨h1, h2⟩ := tyV_is I1 r1 ty
  refine ⟨T, id, pa, slot, hty, h1, h2, ?_⟩
  have hA := ha cpos pins s1 σ H1 _ I1 q1
  rw [hs] at hA ⊢
  refine Calls.callWith_builtin (by show (false || (backTo cpos (starEach es X.env)).any (·.1)) = false; rw [hplain] <;> rfl) (Calls.evalArgs_plain ?_)
  exact thn hA fun us s2 ⟨vs, H2, I2, r2, q2⟩ => hm pins s2 σ H2 x vs v us Q I2 r1 r2 q2
end
end L2
namespace L2
open PySem PySem.Spec PyProof.Rows
def MtM (X : Cx) (id : String) (r : V → List V → Hp → VK → Prop) : Prop :=
  ∀ (pins : List (Addr × Obj)) (s : Shared) (σ : St) (H : Hp) (x : V) (xs : List V) (v : Value) (us : List Value) (Q : VK), Inv X pins σ H s → RelV x v → Vals xs us → r x xs H Q →
    wpAny (model X.prog X.w) X.A (call (.builtin id) (v :: us)) (EP X pins σ Q) X.xe s

theorem Vals.one : ∀ {x : V} {us : List Value}, Vals [x] us → ∃ u, us = [u] ∧ RelV x u
  | _, _, .cons r .nil => ⟨_, rfl, r⟩
theorem Vals.two : ∀ {x y : V} {us : List Value}, Vals [x, y] us → ∃ u v, us = [u, v] ∧ RelV x u ∧ RelV y v
  | _, _, _, .cons r (.cons q .nil) => ⟨_, _, rfl, r, q⟩
theorem Vals.zero : ∀ {us : List Value}, Vals [] us → us = []
  | _, .nil => rfl
theorem Vals.dropLast {xs : List V} {us : List Value} (h : Vals xs us) : Vals xs.dropLast us.dropLast := by
  induction h with
  | nil => exact .nil
  | cons r t ih =>
    cases t with
    | nil => exact .nil
    | cons q t' => exact .cons r ih
theorem Vals.eraseIdx : ∀ {xs : List V} {us : List Value} (i : Nat), Vals xs us → Vals (xs.eraseIdx i) (us.eraseIdx i)
  | _, _, _, .nil => .nil
  | _, _, 0, .cons _ t => t
  | _, _, i + 1, .cons r t => .cons r (Vals.eraseIdx i t)
theorem Vals.reverse {xs : List V} {us : List Value} (h : Vals xs us) : Vals xs.reverse us.reverse := by
  induction h with
  | nil => exact .nil
  | cons r t ih => rw [List.reverse_cons, List.reverse_cons]; exact Vals.append ih (.cons r .nil)
theorem Vals.rep {xs : List V} {us : List Value} (h : Vals xs us) : ∀ k : Nat, Vals (List.replicate k xs).flatten (List.replicate k us).flatten
  | 0 => .nil
  | k + 1 => by
    rw [List.replicate_succ, List.replicate_succ, List.flatten_cons, List.flatten_cons]
    exact Vals.append h (Vals.rep h k)
theorem erase_last {α : Type} (l : List α) : l.eraseIdx (l.length - 1) = l.dropLast := by
  induction l with
  | nil => rfl
  | cons a r ih =>
    cases r with
    | nil => rfl
    | cons b r =>
      have e : (a :: b :: r).length - 1 = ((b :: r).length - 1) + 1 := by
        have h1 : (a :: b :: r).length = r.length + 2 := rfl
        have h2 : (b :: r).length = r.length + 1 := rfl
        omega
      rw [e, List.eraseIdx_cons_succ, ih]
      all_goals rfl
theorem len_erase {α : Type} : ∀ (l : List α) (i : Nat), (l.eraseIdx i).length ≤ l.length
  | [], _ => Nat.le_refl _
  | _ :: _, 0 => Nat.le_succ _
  | _ :: r, i + 1 => Nat.succ_le_succ (len_erase r i)
theorem foldl_rep (its : List Value) : ∀ (k : Nat) (acc : List Value),
    List.foldl (fun x1 x2 => x1 ++ x2) acc.toArray (List.replicate k its.toArray) = (acc ++ (List.replicate k its).flatten).toArray
  | 0, acc => by simp
  | k + 1, acc => by
    have e : acc.toArray ++ its.toArray = (acc ++ its).toArray := by simp
    have e2 : (acc ++ its) ++ (List.replicate k its).flatten = acc ++ (List.replicate (k + 1) its).flatten := by
      rw [List.replicate_succ, List.flatten_cons, List.append_assoc]
    rw [← e2, ← foldl_rep its k (acc ++ its), ← e, List.replicate_succ, List.foldl_cons]

section
variable {X : Cx} {pins : List (Addr × Obj)} {σ : St} {H : Hp} {s : Shared} {l b : Addr} {xs ys zs : List V}

theorem Inv.lset {its its' : List Value} {n : Nat} {f : Array Value → Array Value} {t' : Nat} (I : Inv X pins σ H s) (hH : H l = some (.lst xs))
    (e : s.heap.get? l = some { cls := .type "list", data := .seq its.toArray n }) (hf : f its.toArray = its'.toArray) (hv : Vals ys its') (hz : ys.length ≤ sizeLine) :
    Inv X pins σ (upd H l (.lst ys)) { s with heap := s.heap.update l (Obj.mapSeq f), toks := t' } := by
  have q := PySem.IsL.update e f
  rw [hf] at q
  refine I.write (x := l) (e := l) (by rw [hH]; exact trivial) (.inl rfl) (fun b' u hb hu => (Heap.get?_update_other s.heap (Obj.mapSeq f) (Ne.symm hb)).trans hu) ⟨_, q⟩ ?_
  exact ⟨hz, its', _, hv, q⟩
theorem Inv.lnew {its : List Value} {t' : Nat} (I : Inv X pins σ H s) (hv : Vals ys its) (hz : ys.length ≤ sizeLine) :
    Inv X pins σ (upd H s.heap.objs.size (.lst ys)) { s with heap := s.heap.push { cls := .type "list", data := .seq its.toArray }, toks := t' } :=
  I.laid (fun _ _ q => Heap.get?_push_of_some _ q) (Nat.le_refl _) ⟨hz, its, 0, hv, Heap.get?_push_size _ rfl⟩
theorem Inv.fresh (I : Inv X pins σ H s) : H s.heap.objs.size = none := I.hok.fresh (Nat.le_refl _)
theorem Inv.lstM (I : Inv X pins σ H s) (hH : H l = some (.lst xs)) : xs.length ≤ sizeLine ∧ ∃ (its : List Value) (n : Nat), Vals xs its ∧ xs.length = its.length ∧ s.heap.get? l = some { cls := .type "list", data := .seq its.toArray n } := by
  obtain ⟨z, its, n, r, e⟩ := I.hok l _ hH
  exact ⟨z, its, n, r, r.length, e⟩

theorem notLongL {n : Nat} (h : n ≤ sizeLine) : Builtin.List.listTooLong n = false := by
  unfold Builtin.List.listTooLong
  exact decide_eq_false (by omega)
end
section
variable {X : Cx}

def rAppend : V → List V → Hp → VK → Prop := fun x vs H Q => ∃ l xs y, x = .ref l ∧ vs = [y] ∧ H l = some (.lst xs) ∧ xs.length < sizeLine ∧ Q .non (upd H l (.lst (xs ++ [y])))
theorem mt_append : MtM X "list.append" rAppend := by
  intro pins s σ H x vs v us Q I rx rv h
  obtain ⟨l, xs, y, rfl, rfl, hH, hz, q⟩ := h
  cases rx
  obtain ⟨u, rfl, ru⟩ := rv.one
  obtain ⟨z, its, n, r, hl, e⟩ := I.lstM hH
  refine call_meets F.slot_list_append ⟨_, e, rfl⟩ F.entry_list_append (F.args_list_append_2 _ _) (PySem.list_append l its.toArray n u (by rw [List.size_toArray]; omega)) ⟨e, ?_⟩
  refine ⟨.non, _, I.lset (its' := its ++ [u]) hH e (by simp) (r.append (.cons ru .nil)) ?_, rfl, q⟩
  rw [List.length_append, List.length_singleton]
  omega

def rExtend : V → List V → Hp → VK → Prop := fun x vs H Q => ∃ l b xs zs, x = .ref l ∧ vs = [.ref b] ∧ H l = some (.lst xs) ∧ H b = some (.lst zs) ∧ xs.length + zs.length ≤ sizeLine ∧ Q .non (upd H l (.lst (xs ++ zs)))
theorem mt_extend : MtM X "list.extend" rExtend := by
  intro pins s σ H x vs v us Q I rx rv h
  obtain ⟨l, b, xs, zs, rfl, rfl, hH, hB, hz, q⟩ := h
  cases rx
  obtain ⟨u, rfl, ru⟩ := rv.one
  cases ru
  obtain ⟨z, its, n, r, hl, e⟩ := I.lstM hH
  obtain ⟨z2, its2, n2, r2, hl2, e2⟩ := I.lstM hB
  have hsz : its.toArray.size + its2.toArray.size ≤ sizeLine := by rw [List.size_toArray, List.size_toArray]; omega
  have hlong : ¬ (!its.toArray.isEmpty && Builtin.List.listTooLong (its.toArray.size + its2.toArray.size)) = true := by
    rw [notLongL hsz, Bool.and_false]
    exact Bool.false_ne_true
  refine call_meets F.slot_list_extend ⟨_, e, rfl⟩ F.entry_list_extend (F.args_list_extend_2 _ _)
    (AutoSeq1.list_extend_list_list_0 l its.toArray n b its2.toArray n2 hlong (by rw [List.size_toArray]; omega) (by omega)) ⟨e, e2, ?_⟩
  refine ⟨.non, _, I.lset (its' := its ++ its2) hH e (by simp) (r.append r2) ?_, rfl, q⟩
  rw [List.length_append]
  omega

def rPop : V → List V → Hp → VK → Prop := fun x vs H Q => ∃ l xs y, x = .ref l ∧ vs = [] ∧ H l = some (.lst xs) ∧ xs[xs.length - 1]? = some y ∧ Q y (upd H l (.lst xs.dropLast))
theorem mt_pop : MtM X "list.pop" rPop := by
  intro pins s σ H x vs v us Q I rx rv h
  obtain ⟨l, xs, y, rfl, rfl, hH, hy, q⟩ := h
  cases rx
  have hus := rv.zero
  subst hus
  obtain ⟨z, its, n, r, hl, e⟩ := I.lstM hH
  obtain ⟨u, hu, ru⟩ := r.get hy
  have hy' : its.toArray[its.toArray.size - 1]? = some u := by
    show its.toArray[its.length - 1]? = some u
    rw [← Array.getElem?_toList, ← hl]
    exact hu
  refine call_meets F.slot_list_pop ⟨_, e, rfl⟩ F.entry_list_pop (F.args_list_pop_1 _) (MeetsSeq.list_pop_last l its.toArray n u hy' (by rw [List.size_toArray]; omega)) ⟨e, ?_⟩
  refine ⟨y, _, I.lset (its' := its.dropLast) hH e ?_ r.dropLast ?_, ru, q⟩
  · show its.toArray.eraseIdxIfInBounds (its.toArray.size - 1) = its.dropLast.toArray
    rw [List.size_toArray, List.eraseIdxIfInBounds_toArray, erase_last]
  · rw [List.length_dropLast]
    omega

def rPopAt : V → List V → Hp → VK → Prop := fun x vs H Q => ∃ l xs i k y, x = .ref l ∧ vs = [.int i] ∧ H l = some (.lst xs) ∧ -(2 ^ 63) ≤ i ∧ i < 2 ^ 63 ∧ seqIndex? i xs.length = some k ∧ xs[k]? = some y ∧ Q y (upd H l (.lst (xs.eraseIdx k)))
theorem mt_popAt : MtM X "list.pop" rPopAt := by
  intro pins s σ H x vs v us Q I rx rv h
  obtain ⟨l, xs, i, k, y, rfl, rfl, hH, h1, h2, hk, hy, q⟩ := h
  cases rx
  obtain ⟨u, rfl, ru⟩ := rv.one
  obtain ⟨t, rfl⟩ := ru
  obtain ⟨z, its, n, r, hl, e⟩ := I.lstM hH
  obtain ⟨w, hw, rw'⟩ := r.get hy
  refine call_meets F.slot_list_pop ⟨_, e, rfl⟩ F.entry_list_pop (F.args_list_pop_2 _ _)
    (MeetsSeq.list_pop_at l its.toArray n i t k w (fitsIndex_both h1 h2) (by rw [List.size_toArray, ← hl]; exact hk) (by rw [← Array.getElem?_toList]; exact hw) (by rw [List.size_toArray]; omega)) ⟨e, ?_⟩
  refine ⟨y, _, I.lset (its' := its.eraseIdx k) hH e ?_ (r.eraseIdx k) ?_, rw', q⟩
  · show its.toArray.eraseIdxIfInBounds k = (its.eraseIdx k).toArray
    rw [List.eraseIdxIfInBounds_toArray]
  · have := len_erase xs k
    omega

def rReverse : V → List V → Hp → VK → Prop := fun x vs H Q => ∃ l xs, x = .ref l ∧ vs = [] ∧ H l = some (.lst xs) ∧ Q .non (upd H l (.lst xs.reverse))
theorem mt_reverse : MtM X "list.reverse" rReverse := by
  intro pins s σ H x vs v us Q I rx rv h
  obtain ⟨l, xs, rfl, rfl, hH, q⟩ := h
  cases rx
  have hus := rv.zero
  subst hus
  obtain ⟨z, its, n, r, hl, e⟩ := I.lstM hH
  refine call_meets F.slot_list_reverse ⟨_, e, rfl⟩ F.entry_list_reverse (F.args_list_reverse_1 _) (AutoSeq1.list_reverse_list_0 l its.toArray n (by rw [List.size_toArray]; omega)) ⟨e, ?_⟩
  refine ⟨.non, _, I.lset (its' := its.reverse) hH e (by simp) r.reverse ?_, rfl, q⟩
  rw [List.length_reverse]
  omega

def rClear : V → List V → Hp → VK → Prop := fun x vs H Q => ∃ l xs, x = .ref l ∧ vs = [] ∧ H l = some (.lst xs) ∧ Q .non (upd H l (.lst []))
theorem mt_clear : MtM X "list.clear" rClear := by
  intro pins s σ H x vs v us Q I rx rv h
  obtain ⟨l, xs, rfl, rfl, hH, q⟩ := h
  cases rx
  have hus := rv.zero
  subst hus
  obtain ⟨z, its, n, r, hl, e⟩ := I.lstM hH
  refine call_meets F.slot_list_clear ⟨_, e, rfl⟩ F.entry_list_clear (F.args_list_clear_1 _) (AutoSeq1.list_clear_list_0 l its.toArray n (by rw [List.size_toArray]; omega)) ⟨e, ?_⟩
  exact ⟨.non, _, I.lset (its' := []) (ys := []) hH e rfl .nil (Nat.zero_le _), rfl, q⟩

def rCat : R2 := fun x y H Q => ∃ l b xs zs, x = .ref l ∧ y = .ref b ∧ H l = some (.lst xs) ∧ H b = some (.lst zs) ∧ xs.length + zs.length ≤ sizeLine ∧ ∀ p, H p = none → Q (.ref p) (upd H p (.lst (xs ++ zs)))
theorem op_cat : OpR X (binaryOp .Add) rCat := by
  intro pins s σ H x y v u Q I rx ry h
  obtain ⟨l, b, xs, zs, rfl, rfl, hH, hB, hz, q⟩ := h
  cases rx
  cases ry
  obtain ⟨z, its, n, r, hl, e⟩ := I.lstM hH
  obtain ⟨z2, its2, n2, r2, hl2, e2⟩ := I.lstM hB
  refine PySem.P.add_list e e2 ?_ (by rw [List.size_toArray, List.size_toArray]; omega)
  have ea : its.toArray ++ its2.toArray = (its ++ its2).toArray := by simp
  rw [ea]
  exact ⟨.ref _, _, I.lnew (t' := s.toks) (r.append r2) (by rw [List.length_append]; omega), rfl, q _ I.fresh⟩
/-- a list times an int (a negative one is nothing) -/
def rRep : R2 := fun x y H Q => ∃ l k xs, x = .ref l ∧ y = .int k ∧ H l = some (.lst xs) ∧ -(2 ^ 63) ≤ k ∧ k < 2 ^ 63 ∧ xs.length * k.toNat ≤ sizeLine ∧
  ∀ p, H p = none → Q (.ref p) (upd H p (.lst (List.replicate k.toNat xs).flatten))
theorem len_rep {α : Type} (xs : List α) (k : Nat) : (List.replicate k xs).flatten.length = k * xs.length := by
  induction k with
  | zero => simp
  | succ k ih => rw [List.replicate_succ, List.flatten_cons, List.length_append, ih, Nat.succ_mul, Nat.add_comm]
theorem op_rep : OpR X (binaryOp .Mult) rRep := by
  intro pins s σ H x y v u Q I rx ry h
  obtain ⟨l, k, xs, rfl, rfl, hH, h1, h2, hz, q⟩ := h
  cases rx
  obtain ⟨t, rfl⟩ := ry
  obtain ⟨z, its, n, r, hl, e⟩ := I.lstM hH
  have hlen : its.toArray.size * k.toNat ≤ sizeLine := by rw [List.size_toArray, ← hl]; exact hz
  have hcap : ¬ its.toArray.size * k.toNat > (2 ^ 63 - 1) / 8 := by
    have : (sizeLine : Nat) ≤ (2 ^ 63 - 1) / 8 := by decide
    omega
  have hfit : ¬ (!Builtin.List.listFitsIndex k) = true := by
    rw [fitsIndex_both h1 h2]
    exact Bool.false_ne_true
  have hlong : ¬ Builtin.List.listTooLong (its.toArray.size * k.toNat) = true := by
    rw [notLongL hlen]
    exact Bool.false_ne_true
  have hnew : List.foldl (fun x1 x2 => x1 ++ x2) #[] (List.replicate (if its.toArray.isEmpty = true then 0 else k.toNat) its.toArray) = (List.replicate k.toNat its).flatten.toArray := by
    have f0 : ∀ m : Nat, List.foldl (fun x1 x2 => x1 ++ x2) #[] (List.replicate m its.toArray) = (List.replicate m its).flatten.toArray := fun m => by
      have := foldl_rep its m []
      rw [List.nil_append] at this
      exact this
    rw [f0]
    cases its with
    | nil => simp
    | cons a r' => rw [if_neg (by simp)]
  refine wpAny_binaryOp_repeat_ref (T := "list") (U := "int") (by decide) ⟨_, e, rfl⟩ (fun s' => typeIs_int s' k t) noFill_list_mul F.fills_int_mul F.slot_int_rmul repeat_list F.slot_int_index.lookup
    (call_meets F.slot_int_rmul (typeIs_int s k t) F.entry_int_rmul (F.args_int_rmul_2 _ _) (int___rmul___int_list k t l its.toArray n)
      ⟨e, rfl, ⟨_, e, rfl⟩, call_meets F.slot_list_mul ⟨_, e, rfl⟩ F.entry_list_mul (F.args_list_mul_2 _ _) (AutoListH.list___mul___list_int_3 l its.toArray n k t hfit hcap hlong) ⟨e, ?_⟩⟩)
  rw [hnew]
  exact ⟨.ref _, _, I.lnew (t' := s.toks) (r.rep k.toNat) (by rw [len_rep, Nat.mul_comm]; exact hz), rfl, q _ I.fresh⟩

theorem del_list {pins : List (Addr × Obj)} {s : Shared} {σ : St} {H : Hp} {l : Addr} {xs : List V} {i : Int} {t : Tok} {k : Nat} {Q : Unit → Shared → Prop} (I : Inv X pins σ H s) (hH : H l = some (.lst xs))
    (h1 : -(2 ^ 63) ≤ i) (h2 : i < 2 ^ 63) (hk : seqIndex? i xs.length = some k) (h : ∀ s', Inv X pins σ (upd H l (.lst (xs.eraseIdx k))) s' → Q () s') :
    wpAny (model X.prog X.w) X.A (delItem (.ref l) (.int i t)) Q X.xe s := by
  obtain ⟨z, its, n, r, hl, e⟩ := I.lstM hH
  refine PySem.P.delItem_list (k := k) e (fitsIndex_both h1 h2) (by rw [List.size_toArray, ← hl]; exact hk) (h _ ?_) (by rw [List.size_toArray]; omega)
  refine I.lset (its' := its.eraseIdx k) (t' := s.toks) hH e ?_ (r.eraseIdx k) ?_
  · show its.toArray.eraseIdxIfInBounds k = (its.eraseIdx k).toArray
    rw [List.eraseIdxIfInBounds_toArray]
  · have := len_erase xs k
    omega
end
section
variable {prog : Program} {w : World} {A : Around} {E : Value → Shared → Prop} {s : Shared}
theorem splice_eq (its its2 : List Value) (a c : Nat) : its.toArray.extract 0 a ++ its2.toArray ++ its.toArray.extract c its.toArray.size = (its.take a ++ its2 ++ its.drop c).toArray := by
  apply Array.toList_inj.mp
  first
    | (simp
       exact List.take_of_length_le (by simp))
    | simp [List.take_of_length_le]
    | simp
theorem bounds_run {a c n : Nat} (hac : a ≤ c) (hc : c ≤ n) : sliceBounds (some (a : Int)) (some (c : Int)) none n = ((a : Int), (c : Int), 1) := by
  simp only [sliceBounds, Option.getD_none]
  have h1 : ¬ ((a : Int) < 0) := by omega
  have h2 : ¬ ((c : Int) < 0) := by omega
  simp only [h1, h2, if_false, show (1 : Int) > 0 by decide, if_true]
  congr 1
  · omega
  · congr 1; omega
set_option maxRecDepth 100000 in
/-- list.__setitem__ with a slice of step one and another list -/
theorem setItem_slice {l b sl : Addr} {items new : Array Value} {n n2 : Nat} {vl vu : Value} {a c : Nat} {Q : Unit → Shared → Prop}
    (e : s.heap.get? l = some { cls := .type "list", data := .seq items n }) (e2 : s.heap.get? b = some { cls := .type "list", data := .seq new n2 }) (hne : l ≠ b)
    (hs : s.heap.IsSliceOf sl vl vu .none) (pl : IsPart vl (some (a : Int))) (pu : IsPart vu (some (c : Int))) (hac : a ≤ c) (hc : c ≤ items.size)
    (hsz : items.size + new.size ≤ sizeLine) (h : Q () { s with heap := s.heap.update l (Obj.mapSeq fun xs => xs.extract 0 a ++ new ++ xs.extract c xs.size) }) :
    wpAny (model prog w) A (setItem (.ref l) (.ref sl) (.ref b)) Q E s := by
  have hl : s.heap.IsList l items := PySem.IsL.isList e
  have hb : s.heap.IsList b new := PySem.IsL.isList e2
  obtain ⟨os, hos, hcs, hds⟩ := id hs
  have hTs : s.TypeIs (.ref sl) "slice" := ⟨os, hos, hcs⟩
  have hstep : ¬ ((rawPart none == rawInt 0) = true) := Bool.false_ne_true
  have hsame : Builtin.List.listSameRef (.ref l) (.ref b) = false := by
    unfold Builtin.List.listSameRef
    exact beq_eq_false_iff_ne.mpr hne
  have hmax : (max (a : Int) (c : Int)).toNat = c := by omega
  have hz' : ((fun xs : Array Value => xs.extract 0 a ++ new ++ xs.extract c xs.size) items).size ≤ sizeLine + 1 := by
    simp only [Array.size_append, Array.size_extract]
    omega
  unfold setItem
  try with_reducible refine wpAny_holding ?_
  first | refine wpAny_bind (wpAny_pure ?_) | skip
  refine wpAny_bind (wpAny_sequenceKey hl.typeIs (by decide) ?_)
  refine wpAny_bind (wpAny_callSpecial?_slot (name := Str.ofString "__setitem__") hl.typeIs slot_list_setitem
    (wpAny_call_entry slot_list_setitem hl.typeIs entry_list_setitem ?_ (args_list_setitem _ _ _)))
  show wpAny _ _ (Builtin.List.listSubscript? (.ref sl) >>= _) _ _ s
  refine wpAny_bind ?_
  unfold Builtin.List.listSubscript?
  refine wpAny_bind (wpAny_specialOf hTs slice_no_index ?_)
  simp only [Option.isNone_none, if_true]
  refine wpAny_pure ?_
  show wpAny _ _ (typeOf (.ref sl) >>= _) _ _ s
  refine wpAny_bind (wpAny_typeOf hTs ?_)
  first
    | rw [if_neg (by decide)]
    | refine PySem.W.KFB.if_not (by decide) ?_
  rw [listSliceParts_eq]
  refine wpAny_bind (wpAny_bind (wpAny_field hos hds (x := .none) rfl (wpAny_bind (wpAny_listPart .none ?_))))
  rw [if_neg hstep]
  refine wpAny_bind (wpAny_field hos hds (x := vl) rfl (wpAny_bind (wpAny_listPart pl ?_)))
  refine wpAny_bind (wpAny_field hos hds (x := vu) rfl (wpAny_bind (wpAny_listPart pu (wpAny_pure ?_))))
  first
    | simp only [hsame, Bool.false_eq_true, if_false]
    | refine PySem.W.KFB.if_not hsame ?_
    | (dsimp only
       rw [if_neg (by rw [hsame]; exact Bool.false_ne_true)])
  refine wpAny_bind (m := Builtin.List.listAllItems (.ref b) "must assign iterable to extended slice") ?_
  unfold Builtin.List.listAllItems
  refine wpAny_bind (wpAny_typeOf hb.typeIs ?_)
  first
    | refine PySem.W.KFB.if_so (by decide) ?_
    | rw [if_pos (by decide)]
    | simp only [beq_self_eq_true, Bool.true_or, if_true]
  unfold Builtin.List.listItems
  refine wpAny_bind (wpAny_seqItems e2 rfl (wpAny_pure ?_))
  refine wpAny_bind (wpAny_bind (wpAny_seqItems e rfl (wpAny_pure ?_)))
  refine wpAny_bind (wpAny_of_eq ((sliceIndices_raw (some (a : Int)) (some (c : Int)) none items.size (by simp)).trans (congrArg (pure : Int × Int × Int → Sem (Int × Int × Int)) (bounds_run hac hc))) ?_)
  show wpAny _ _ (if ((1 : Int) == 1) = true then _ else _) _ _ s
  rw [if_pos (by decide)]
  refine wpAny_bind (wpAny_rule ?_)
  first
    | simp only [notLongL hsz, Bool.false_eq_true, if_false]
    | refine PySem.W.KFB.if_not (notLongL hsz) ?_
  first | refine wpAny_bind (wpAny_pure ?_) | skip
  show wpAny _ _ (updateSeq l (fun xs => xs.extract 0 ((a : Int)).toNat ++ new ++ xs.extract (max (a : Int) (c : Int)).toNat xs.size) >>= _) _ _ s
  rw [hmax, Int.toNat_natCast]
  refine wpAny_bind (wpAny_updateSeq (hz := Nat.le_trans (Nat.le_add_right _ _) hsz) (_hz' := hz') e rfl ?_)
  refine wpAny_bind (wpAny_letGo ?_)
  first
    | exact wpAny_bind (wpAny_pure (wpAny_pure ⟨.none, rfl, wpAny_pure h⟩))
    | exact wpAny_pure ⟨.none, rfl, wpAny_pure h⟩
end
section
variable {X : Cx}
/-- xs[a:c] = ys of another list, at the value level: sl is the slice object that was just made -/
theorem set_slice {pins : List (Addr × Obj)} {s : Shared} {σ : St} {H : Hp} {l b sl : Addr} {xs ys : List V} {a c : Int} {vl vu : Value} {Q : Unit → Shared → Prop} (I : Inv X pins σ H s)
    (hH : H l = some (.lst xs)) (hB : H b = some (.lst ys)) (hne : l ≠ b) (hs : s.heap.IsSliceOf sl vl vu .none) (ra : RelV (.int a) vl) (rc : RelV (.int c) vu) (h0 : 0 ≤ a) (hac : a ≤ c) (hc : c ≤ xs.length)
    (hz : xs.length + ys.length ≤ sizeLine) (h : ∀ s', Inv X pins σ (upd H l (.lst (xs.take a.toNat ++ ys ++ xs.drop c.toNat))) s' → Q () s') :
    wpAny (model X.prog X.w) X.A (setItem (.ref l) (.ref sl) (.ref b)) Q X.xe s := by
  obtain ⟨ta, rfl⟩ := ra
  obtain ⟨tc, rfl⟩ := rc
  obtain ⟨z, its, n, r, hl, e⟩ := I.lstM hH
  obtain ⟨z2, its2, n2, r2, hl2, e2⟩ := I.lstM hB
  obtain ⟨a', rfl⟩ := Int.eq_ofNat_of_zero_le h0
  obtain ⟨c', rfl⟩ := Int.eq_ofNat_of_zero_le (Int.le_trans h0 hac)
  simp only [Int.toNat_natCast] at h
  refine setItem_slice (a := a') (c := c') e e2 hne hs (.int _ _) (.int _ _) (by omega) (by rw [List.size_toArray]; omega) (by rw [List.size_toArray, List.size_toArray]; omega) (h _ ?_)
  refine I.lset (its' := its.take a' ++ its2 ++ its.drop c') (t' := s.toks) hH e ?_ (Vals.append (Vals.append (r.take _) r2) (r.drop _)) ?_
  · exact splice_eq its its2 a' c'
  · rw [List.length_append, List.length_append, List.length_take, List.length_drop]
    omega
end
end L2
namespace Att
open PySem PySem.W PySem.Calls PyProof.Rows
section
variable {prog : Program} {w : World} {A : Around} {E : Value → Shared → Prop} {s : Shared} {K : Frag}

end
end Att
namespace L2
open PySem PySem.Spec PyProof.Rows
end L2
namespace L2
open PySem PySem.Spec PyProof.Rows
end L2
namespace L2
open PySem PySem.Spec PyProof.Rows
section
variable {P : Program} {w : World} {K : PySem.W.Frag} {mg : Str → Option Value} {base : Heap}
end
section
variable {X : Cx}
end
end L2
/-! B0: plain values, and what the constructs of a small Python make of them. No heap: a value is a tree. -/
namespace B
open PySem

inductive PV where
  | non | bl (b : Bool) | int (i : Int) | str (x : Str)
  | tup (xs : List PV) | lst (xs : List PV) | dct (kvs : List (PV × PV))
  | ins (c : Str) (fs : List (Str × PV)) | exc (c : Str)
  deriving Inhabited, Repr

/-- an answer; a refusal by its class; no word -/
inductive R (α : Type) where
  | ok (a : α) | err (c : Str) | no
  deriving Repr
namespace R
def bind {α β : Type} : R α → (α → R β) → R β
  | .ok a, f => f a
  | .err c, _ => .err c
  | .no, _ => .no
def map {α β : Type} (f : α → β) : R α → R β
  | .ok a => .ok (f a)
  | .err c => .err c
  | .no => .no
@[simp] theorem bind_ok {α β : Type} (a : α) (f : α → R β) : (R.ok a).bind f = f a := rfl
@[simp] theorem bind_err {α β : Type} (c : Str) (f : α → R β) : (R.err c).bind f = .err c := rfl
@[simp] theorem bind_no {α β : Type} (f : α → R β) : (R.no : R α).bind f = .no := rfl
@[simp] theorem map_ok {α β : Type} (a : α) (f : α → β) : (R.ok a).map f = .ok (f a) := rfl
@[simp] theorem map_err {α β : Type} (c : Str) (f : α → β) : (R.err c).map f = .err c := rfl
@[simp] theorem map_no {α β : Type} (f : α → β) : (R.no : R α).map f = .no := rfl
end R

def PV.flat : PV → Bool
  | .non | .bl _ | .int _ | .str _ => true
  | _ => false
/-- keys of a dict: ints, texts, and tuples of these -/
def PV.key1 : PV → Bool
  | .int _ | .str _ => true
  | _ => false
def PV.keyT : PV → Bool
  | .tup xs => xs.all PV.key1
  | _ => false

/-- == -/
def b2i (b : Bool) : Int := if b then 1 else 0
mutual
def eqd : PV → PV → Bool
  | .non, .non => true
  | .bl a, .bl b => a == b
  | .bl a, .int b => b2i a == b
  | .int a, .bl b => a == b2i b
  | .int a, .int b => a == b
  | .str a, .str b => decide (a = b)
  | .tup xs, .tup ys => eqds xs ys
  | .lst xs, .lst ys => eqds xs ys
  | _, _ => false
def eqds : List PV → List PV → Bool
  | [], [] => true
  | x :: xs, y :: ys => eqd x y && eqds xs ys
  | _, _ => false
end
def sizeL : Nat := 16777216

/-! ### dicts -/
def dget : List (PV × PV) → PV → Option PV
  | [], _ => none
  | (k, v) :: r, x => if eqd k x then some v else dget r x
def dput (kvs : List (PV × PV)) (x y : PV) : List (PV × PV) := if (kvs.any fun kv => eqd kv.1 x) = true then kvs.map (fun kv => if eqd kv.1 x = true then (kv.1, y) else kv) else kvs ++ [(x, y)]
def ddel (kvs : List (PV × PV)) (x : PV) : List (PV × PV) := kvs.filter fun kv => !eqd kv.1 x
/-- the key is of the kind of the dict's keys -/
def kindOk (kvs : List (PV × PV)) (x : PV) : Bool :=
  (x.key1 && kvs.all (·.1.key1)) || (x.keyT && kvs.all (·.1.keyT))

/-! ### places and cuts -/
def ixN (n : Nat) (i : Int) : Option Nat := if 0 ≤ i then (if i < n then some i.toNat else none) else if -(n : Int) ≤ i then some (i + n).toNat else none
def atI {α : Type} (xs : List α) (i : Int) : Option α := (ixN xs.length i).bind fun j => xs[j]?
def sIx (n d : Nat) : Option Int → Nat
  | none => d
  | some i => if i < 0 then (i + n).toNat else min i.toNat n
def cut {α : Type} (xs : List α) (lo hi : Option Int) : List α := (xs.drop (sIx xs.length 0 lo)).take (sIx xs.length xs.length hi - sIx xs.length 0 lo)

def ofOpt {α : Type} : Option α → R α
  | some a => .ok a
  | none => .no
@[simp] theorem ofOpt_some {α : Type} (a : α) : ofOpt (some a) = .ok a := rfl
@[simp] theorem ofOpt_none {α : Type} : (ofOpt none : R α) = .no := rfl
def when {α : Type} (b : Bool) (r : R α) : R α := if b then r else .no
@[simp] theorem when_true {α : Type} (r : R α) : when true r = r := rfl
@[simp] theorem when_false {α : Type} (r : R α) : when false r = .no := rfl

/-! ### operations on values -/
def cmul (i j : Int) : Bool := (decide (-18446744073709551616 < i) && decide (i < 18446744073709551616)) || (decide (-18446744073709551616 < j) && decide (j < 18446744073709551616))
def repS (x : Str) (n : Nat) : Str := ⟨((List.replicate n x.cps.toList).flatten).toArray⟩
def oAdd : PV → PV → R PV
  | .int i, .int j => .ok (.int (i + j))
  | .str a, .str b => when (decide (a.length + b.length ≤ sizeL)) (.ok (.str (a ++ b)))
  | .lst a, .lst b => when (decide (a.length + b.length ≤ sizeL)) (.ok (.lst (a ++ b)))
  | _, _ => .no
def oSub : PV → PV → R PV
  | .int i, .int j => .ok (.int (i - j))
  | _, _ => .no
def oMul : PV → PV → R PV
  | .int i, .int j => when (cmul i j) (.ok (.int (i * j)))
  | .str a, .int k => when (decide (0 ≤ k) && decide (k ≤ 1000) && decide (a.length * k.toNat ≤ 1000)) (.ok (.str (repS a k.toNat)))
  | _, _ => .no
def oDiv : PV → PV → R PV
  | .int i, .int j => when (decide (0 < j) && decide (j < 1073741824)) (.ok (.int (i / j)))
  | _, _ => .no
def oMod : PV → PV → R PV
  | .int i, .int j => when (decide (0 < j)) (.ok (.int (i % j)))
  | _, _ => .no
def oPow : PV → PV → R PV
  | .int i, .int j => when (decide (0 ≤ j) && decide (j ≤ 1000) && decide (-1000 < i) && decide (i < 1000)) (.ok (.int (i ^ j.toNat)))
  | _, _ => .no
def oNeg : PV → R PV
  | .int i => .ok (.int (-i))
  | _ => .no
def oLt : PV → PV → R PV
  | .int i, .int j => .ok (.bl (decide (i < j)))
  | _, _ => .no
def oLe : PV → PV → R PV
  | .int i, .int j => .ok (.bl (decide (i ≤ j)))
  | _, _ => .no
def oGt : PV → PV → R PV
  | .int i, .int j => .ok (.bl (decide (j < i)))
  | _, _ => .no
def oGe : PV → PV → R PV
  | .int i, .int j => .ok (.bl (decide (j ≤ i)))
  | _, _ => .no
/-- flat values that == tells apart as data does -/
def scalP : PV → PV → Bool
  | .non, .non => true | .non, .int _ => true | .int _, .non => true | .non, .bl _ => true | .bl _, .non => true | .non, .str _ => true | .str _, .non => true
  | .int _, .int _ => true | .bl _, .bl _ => true | .str _, .str _ => true
  | .int _, .str _ => true | .str _, .int _ => true | .bl _, .str _ => true | .str _, .bl _ => true
  | _, _ => false
def oEq : PV → PV → R PV
  | .lst xs, .lst ys => when (xs.all PV.flat && ys.all PV.flat) (.ok (.bl (eqds xs ys)))
  | .tup xs, .tup ys => when (xs.all PV.flat && ys.all PV.flat) (.ok (.bl (eqds xs ys)))
  | x, y => when (scalP x y) (.ok (.bl (eqd x y)))
def oNe : PV → PV → R PV
  | .lst xs, .lst ys => when (xs.all PV.flat && ys.all PV.flat) (.ok (.bl (!eqds xs ys)))
  | .tup xs, .tup ys => when (xs.all PV.flat && ys.all PV.flat) (.ok (.bl (!eqds xs ys)))
  | x, y => when (scalP x y) (.ok (.bl (!eqd x y)))
def inS (x y : Str) : Bool := !(Builtin.Str.occurrences y x 0 y.length 1).isEmpty
def oIn : PV → PV → R PV
  | x, .lst ys => when (x.flat && ys.all PV.flat) (.ok (.bl (ys.any fun y => eqd y x)))
  | x, .tup ys => when (x.flat && ys.all PV.flat) (.ok (.bl (ys.any fun y => eqd y x)))
  | x, .dct kvs => when (kindOk kvs x) (.ok (.bl (dget kvs x).isSome))
  | .str x, .str y => .ok (.bl (inS x y))
  | _, _ => .no
def oNotIn (x y : PV) : R PV := (oIn x y).bind fun
  | .bl b => .ok (.bl (!b))
  | _ => .no
def oIsNon : PV → R PV
  | .non => .ok (.bl true)
  | _ => .ok (.bl false)
def oNotNon : PV → R PV
  | .non => .ok (.bl false)
  | _ => .ok (.bl true)
def oIx : PV → PV → R PV
  | .lst xs, .int i => ofOpt (atI xs i)
  | .tup xs, .int i => ofOpt (atI xs i)
  | .str x, .int i => when (decide (x.length ≤ sizeL)) ((ofOpt (atI x.cps.toList i)).map fun c => .str ⟨#[c]⟩)
  | .dct kvs, k => when (kindOk kvs k) (ofOpt (dget kvs k))
  | _, _ => .no
def cutS (x : Str) (lo hi : Option Int) : Str :=
  if ((Builtin.Str.strSliceIndices lo hi 1 x.length).length == x.length) = true then x else ⟨((Builtin.Str.strSliceIndices lo hi 1 x.length).filterMap (x.cps[·]?)).toArray⟩
def oCut (lo hi : Option Int) : PV → R PV
  | .lst xs => .ok (.lst (cut xs lo hi))
  | .str x => when (decide (x.length ≤ sizeL)) (.ok (.str (cutS x lo hi)))
  | _ => .no
def truth : PV → R Bool
  | .non => .ok false
  | .bl b => .ok b
  | .int i => .ok (i != 0)
  | _ => .no
def asB : PV → R Bool
  | .bl b => .ok b
  | _ => .no
def oNot (x : PV) : R PV := (asB x).map fun b => .bl (!b)
def fld (fs : List (Str × PV)) (f : Str) : Option PV := fs.lookup f
def oAttr (f : Str) : PV → R PV
  | .ins _ fs => ofOpt (fld fs f)
  | _ => .no

/-! ### built-ins -/
def cLen : List PV → R PV
  | [.lst xs] => .ok (.int xs.length)
  | [.tup xs] => .ok (.int xs.length)
  | [.dct kvs] => .ok (.int kvs.length)
  | [.str x] => when (decide (x.length ≤ sizeL)) (.ok (.int x.length))
  | _ => .no
/-- the class of a value -/
inductive Kd where
  | non | bl | int | str | tup | lst | dct | own (c : Str)
  deriving DecidableEq, Repr
def kd : PV → Kd
  | .non => .non | .bl _ => .bl | .int _ => .int | .str _ => .str | .tup _ => .tup | .lst _ => .lst | .dct _ => .dct | .ins c _ => .own c | .exc c => .own c
/-- isinstance with one of Python's own; of an own object only where its class is known -/
def isK (known : List Str) (k : Kd) (x : PV) : R PV := match x with
  | .ins c _ => when (decide (c ∈ known)) (.ok (.bl false))
  | .exc c => when (decide (c ∈ known)) (.ok (.bl false))
  | x => .ok (.bl (match k, kd x with
    | .int, .bl => true
    | a, b => decide (a = b)))
/-- isinstance with the program's own classes (and ValueError): the classes under each -/
def isC (known under : List Str) (x : PV) : R PV := match x with
  | .ins c _ => when (decide (c ∈ known)) (.ok (.bl (decide (c ∈ under))))
  | .exc c => when (decide (c ∈ known)) (.ok (.bl (decide (c ∈ under))))
  | _ => .ok (.bl false)
def bools : List PV → R (List Bool)
  | [] => .ok []
  | .bl b :: r => (bools r).map (b :: ·)
  | _ => .no
def allB (xs : List PV) : R Bool := (bools xs).map fun bs => bs.all id
def cAll : List PV → R PV
  | [.lst xs] => (allB xs).map .bl
  | _ => .no
def sumI : List PV → R Int
  | [] => .ok 0
  | .int i :: r => (sumI r).map (i + ·)
  | _ => .no
def cSum : List PV → R PV
  | [.lst xs] => (sumI xs).map .int
  | _ => .no
def intsV : List PV → R (List Int)
  | [] => .ok []
  | .int i :: r => (intsV r).map (i :: ·)
  | _ => .no
def cMin : List PV → R PV
  | [.lst xs] => (intsV xs).bind fun
    | [] => .no
    | i :: r => .ok (.int (r.foldl min i))
  | [.int i, .int j] => .ok (.int (min i j))
  | _ => .no
def cMax : List PV → R PV
  | [.lst xs] => (intsV xs).bind fun
    | [] => .no
    | i :: r => .ok (.int (r.foldl max i))
  | [.int i, .int j] => .ok (.int (max i j))
  | _ => .no
def cInt : List PV → R PV
  | [.bl b] => .ok (.int (b2i b))
  | [.int i] => .ok (.int i)
  | _ => .no
def cList : List PV → R PV
  | [.lst xs] => .ok (.lst xs)
  | [.tup xs] => .ok (.lst xs)
  | _ => .no
def cDict : List PV → R PV
  | [.dct kvs] => .ok (.dct kvs)
  | _ => .no
def cTuple : List PV → R PV
  | [.lst xs] => .ok (.tup xs)
  | [.tup xs] => .ok (.tup xs)
  | _ => .no
/-- sorted of texts -/
def ltL : List Nat → List Nat → Bool
  | [], [] => false
  | [], _ :: _ => true
  | _ :: _, [] => false
  | x :: xs, y :: ys => if x = y then ltL xs ys else decide (x < y)
def leS (a b : Str) : Bool := !ltL b.cps.toList a.cps.toList
def insS (x : Str) : List Str → List Str
  | [] => [x]
  | y :: r => if leS x y then x :: y :: r else y :: insS x r
def sortS : List Str → List Str
  | [] => []
  | x :: r => insS x (sortS r)
def strsV : List PV → R (List Str)
  | [] => .ok []
  | .str x :: r => (strsV r).map (x :: ·)
  | _ => .no
def cSorted : List PV → R PV
  | [.lst xs] => (strsV xs).map fun ss => .lst ((sortS ss).map .str)
  | [.dct kvs] => (strsV (kvs.map (·.1))).map fun ss => .lst ((sortS ss).map .str)
  | _ => .no
def up1 (c : Nat) : Nat := if 97 ≤ c ∧ c ≤ 122 then c - 32 else c
def mUpper : List PV → R PV
  | [.str x] => when (x.cps.toList.all (· < 128)) (.ok (.str ⟨(x.cps.toList.map up1).toArray⟩))
  | _ => .no
def mGet : List PV → R PV
  | [.dct kvs, k] => when (kindOk kvs k) (.ok ((dget kvs k).getD .non))
  | [.dct kvs, k, d] => when (kindOk kvs k) (.ok ((dget kvs k).getD d))
  | _ => .no
def mCount : List PV → R PV
  | [.lst xs, x] => when (x.flat && xs.all PV.flat) (.ok (.int ((xs.filter fun y => eqd y x).length : Nat)))
  | _ => .no

/-! ### expressions and tests over the names' values -/
abbrev Env := List (Option PV)
abbrev Ev := Env → R PV
abbrev Tv := Env → R Bool
def eV (i : Nat) : Ev := fun s => match s[i]? with
  | some (some v) => .ok v
  | _ => .no
def eK (v : PV) : Ev := fun _ => .ok v
def e1 (f : PV → R PV) (a : Ev) : Ev := fun s => (a s).bind f
def e2 (f : PV → PV → R PV) (a b : Ev) : Ev := fun s => (a s).bind fun x => (b s).bind fun y => f x y
def evs : List Ev → Env → R (List PV)
  | [], _ => .ok []
  | a :: r, s => (a s).bind fun x => (evs r s).map (x :: ·)
def eN (f : List PV → R PV) (as : List Ev) : Ev := fun s => (evs as s).bind f
def eLst (as : List Ev) : Ev := fun s => (evs as s).map .lst
def eTup (as : List Ev) : Ev := fun s => (evs as s).map .tup
def eAnd (a b : Ev) : Ev := fun s => (a s).bind fun x => (asB x).bind fun t => if t then b s else .ok (.bl false)
def eOr (a b : Ev) : Ev := fun s => (a s).bind fun x => (asB x).bind fun t => if t then .ok (.bl true) else b s
def eIf (t : Tv) (a b : Ev) : Ev := fun s => (t s).bind fun c => if c then a s else b s
def asI : PV → R (Option Int)
  | .int i => .ok (some i)
  | _ => .no
def cbound (o : Option Ev) (s : Env) : R (Option Int) := match o with
  | none => .ok none
  | some l => (l s).bind asI
def eCut (lo hi : Option Ev) (a : Ev) : Ev := fun s => (a s).bind fun x => (cbound lo s).bind fun l => (cbound hi s).bind fun h => oCut l h x
/-- a chain a < b < c: b is asked once -/
def eChain (f g : PV → PV → R PV) (a b c : Ev) : Ev := fun s => (a s).bind fun x => (b s).bind fun y => (f x y).bind fun z => (asB z).bind fun t => if t then (c s).bind fun w => g y w else .ok (.bl false)
def tE (a : Ev) : Tv := fun s => (a s).bind truth
def tAnd (a b : Tv) : Tv := fun s => (a s).bind fun t => if t then b s else .ok false
def tOr (a b : Tv) : Tv := fun s => (a s).bind fun t => if t then .ok true else b s
def tNot (a : Tv) : Tv := fun s => (a s).map (!·)
/-- what is walked -/
abbrev Iv := Env → R (List PV)
def walkV : PV → R (List PV)
  | .lst xs => .ok xs
  | .tup xs => .ok xs
  | .str x => .ok (x.cps.toList.map fun c => .str ⟨#[c]⟩)
  | _ => .no
def iV (a : Ev) : Iv := fun s => (a s).bind walkV
/-- a dict's keys -/
def keysV : PV → R (List PV)
  | .dct kvs => .ok (kvs.map (·.1))
  | _ => .no
def iD (a : Ev) : Iv := fun s => (a s).bind keysV
def rangeL (a b c : Int) : List PV := if 0 < c then (List.range ((b - a + c - 1) / c).toNat).map fun (k : Nat) => PV.int (a + c * (k : Int)) else []
def rngV : PV → PV → PV → R (List PV)
  | .int i, .int j, .int k => when (decide (0 < k) && decide (-1000000 < i) && decide (i < 1000000) && decide (-1000000 < j) && decide (j < 1000000) && decide (k < 1000000)) (.ok (rangeL i j k))
  | _, _, _ => .no
def iR (a b c : Ev) : Iv := fun s => (a s).bind fun x => (b s).bind fun y => (c s).bind fun z => rngV x y z
/-- [elt for x in it if test]: x behind the names -/
def compL (test : Tv) (elt : Ev) (s : Env) : List PV → R (List PV)
  | [] => .ok []
  | x :: r => match test (s ++ [some x]) with
    | .ok true => (match elt (s ++ [some x]) with
      | .ok y => (compL test elt s r).map (y :: ·)
      | _ => .no)
    | .ok false => compL test elt s r
    | _ => .no
def tYes : Tv := fun _ => .ok true
def eComp (it : Iv) (test : Tv) (elt : Ev) : Ev := fun s => (it s).bind fun xs => when (decide (xs.length < sizeL)) ((compL test elt s xs).map .lst)

/-! ### statements -/
inductive Out where
  | nx (s : Env) | ret (v : PV) | err (c : Str) (s : Env) | bk (s : Env) | ct (s : Env) | no
  deriving Repr
abbrev Sv := Env → Out
def then_ (a : Out) (f : Env → Out) : Out := match a with
  | .nx s => f s
  | o => o
@[simp] theorem then_nx (s : Env) (f : Env → Out) : then_ (.nx s) f = f s := rfl
@[simp] theorem then_ret (v : PV) (f : Env → Out) : then_ (.ret v) f = .ret v := rfl
@[simp] theorem then_err (c : Str) (s : Env) (f : Env → Out) : then_ (.err c s) f = .err c s := rfl
@[simp] theorem then_bk (s : Env) (f : Env → Out) : then_ (.bk s) f = .bk s := rfl
@[simp] theorem then_ct (s : Env) (f : Env → Out) : then_ (.ct s) f = .ct s := rfl
@[simp] theorem then_no (f : Env → Out) : then_ .no f = .no := rfl
def on {α : Type} (r : R α) (s : Env) (f : α → Out) : Out := match r with
  | .ok a => f a
  | .err c => .err c s
  | .no => .no
@[simp] theorem on_ok {α : Type} (a : α) (s : Env) (f : α → Out) : on (.ok a) s f = f a := rfl
@[simp] theorem on_err {α : Type} (c : Str) (s : Env) (f : α → Out) : on (.err c) s f = .err c s := rfl
@[simp] theorem on_no {α : Type} (s : Env) (f : α → Out) : on (.no : R α) s f = .no := rfl
def sNx : Sv := .nx
def sSeq (a b : Sv) : Sv := fun s => then_ (a s) b
def sSet (i : Nat) (e : Ev) : Sv := fun s => on (e s) s fun v => .nx (s.set i (some v))
def setAll : List Nat → List PV → Env → Env
  | i :: is, v :: vs, s => setAll is vs (s.set i (some v))
  | _, _, s => s
def sUnp (is : List Nat) (e : Ev) : Sv := fun s => on (e s) s fun
  | .tup vs => if vs.length = is.length then .nx (setAll is vs s) else .no
  | _ => .no
def sExp (e : Ev) : Sv := fun s => on (e s) s fun _ => .nx s
def sRet (e : Ev) : Sv := fun s => on (e s) s .ret
def sIf (t : Tv) (a b : Sv) : Sv := fun s => on (t s) s fun c => if c then a s else b s
def sBk : Sv := .bk
def sCt : Sv := .ct
def forL (body : PV → Sv) : List PV → Sv
  | [], s => .nx s
  | x :: r, s => match body x s with
    | .nx s' => forL body r s'
    | .ct s' => forL body r s'
    | .bk s' => .nx s'
    | o => o
def at_ (i : Nat) (body : Sv) : PV → Sv := fun x s => body (s.set i (some x))
def atT (is : List Nat) (body : Sv) : PV → Sv := fun x s => match x with
  | .tup vs => if vs.length = is.length then body (setAll is vs s) else .no
  | _ => .no
def sFor (it : Iv) (i : Nat) (body : Sv) : Sv := fun s => on (it s) s fun xs => forL (at_ i body) xs s
def sForT (it : Iv) (is : List Nat) (body : Sv) : Sv := fun s => on (it s) s fun xs => forL (atT is body) xs s
def whileL (t : Tv) (body : Sv) : Nat → Sv
  | 0, _ => .no
  | n + 1, s => on (t s) s fun c => if c then (match body s with
    | .nx s' => whileL t body n s'
    | .ct s' => whileL t body n s'
    | .bk s' => .nx s'
    | o => o) else .nx s
def sWhile (t : Tv) (body : Sv) : Sv := whileL t body 100000
def sRaise (c : Str) : Sv := fun s => .err c s
/-- try: body; except the classes 'cs' as the name at i: handler (the name is gone behind it) -/
def sTry (body : Sv) (cs : List Str) (i : Option Nat) (h : Sv) : Sv := fun s => match body s with
  | .err c s' => if c ∈ cs then (match i with
      | none => h s'
      | some k => match h (s'.set k (some (.exc c))) with
        | .nx s2 => .nx (s2.set k none)
        | .err c2 s2 => .err c2 (s2.set k none)
        | o => o) else .err c s'
  | o => o
/-- a change of an own value: of the name at i, or of its item at p -/
def modAt (f : PV → R PV) : Option Nat → PV → R PV
  | none, v => f v
  | some p, .lst xs => (ofOpt xs[p]?).bind fun x => (f x).map fun y => .lst (xs.set p y)
  | some _, _ => .no
def sMod (i : Nat) (p : Option Nat) (f : Env → PV → R PV) : Sv := fun s => match s[i]? with
  | some (some v) => on (modAt (f s) p v) s fun w => .nx (s.set i (some w))
  | _ => .no
def uAppend (e : Ev) : Env → PV → R PV := fun s v => match v with
  | .lst xs => (e s).bind fun y => when (decide (xs.length < sizeL)) (.ok (.lst (xs ++ [y])))
  | _ => .no
def uPut (k e : Ev) : Env → PV → R PV := fun s v => (e s).bind fun y => (k s).bind fun x => match v, x with
  | .dct kvs, x => when (kindOk kvs x && decide (kvs.length < sizeL)) (.ok (.dct (dput kvs x y)))
  | .lst xs, .int i => (ofOpt (ixN xs.length i)).map fun j => .lst (xs.set j y)
  | _, _ => .no
/-- d.pop(k, None), dropped -/
def uPop2 (k : Ev) : Env → PV → R PV := fun s v => (k s).bind fun x => match v with
  | .dct kvs => when (kindOk kvs x) (.ok (.dct (ddel kvs x)))
  | _ => .no
def uInsert (k e : Ev) : Env → PV → R PV := fun s v => (k s).bind fun x => (e s).bind fun y => match v, x with
  | .lst xs, .int i => when (decide (0 ≤ i) && decide (i ≤ xs.length) && decide (xs.length < sizeL)) (.ok (.lst (xs.take i.toNat ++ y :: xs.drop i.toNat)))
  | _, _ => .no
/-- xs.append(ys.pop(k)) -/
def sAppPop (i j : Nat) (k : Ev) : Sv := fun s => match s[i]?, s[j]? with
  | some (some (.lst xs)), some (some (.lst ys)) => on (k s) s fun
    | .int a => match ixN ys.length a with
      | some p => match ys[p]? with
        | some y => if xs.length < sizeL then .nx ((s.set j (some (.lst (ys.eraseIdx p)))).set i (some (.lst (xs ++ [y])))) else .no
        | none => .no
      | none => .no
    | _ => .no
  | _, _ => .no

/-- a def: its number of names, its body -/
def fin : Out → R PV
  | .ret v => .ok v
  | .nx _ => .ok .non
  | .err c _ => .err c
  | _ => .no
@[simp] theorem fin_ret (v : PV) : fin (.ret v) = .ok v := rfl
@[simp] theorem fin_nx (s : Env) : fin (.nx s) = .ok .non := rfl
@[simp] theorem fin_err (c : Str) (s : Env) : fin (.err c s) = .err c := rfl
@[simp] theorem fin_no : fin .no = .no := rfl
def start : Nat → List PV → Env
  | 0, _ => []
  | n + 1, [] => none :: start n []
  | n + 1, a :: r => some a :: start n r
def fn (n : Nat) (body : Sv) : List PV → R PV := fun args => fin (body (start n args))
/-- a class whose __init__ stores fields -/
def mk (c : Str) (n : Nat) (fs : List (Str × Ev)) : List PV → R PV := fun args => if args.length = n then
  (evs (fs.map (·.2)) (none :: args.map some)).map fun vs => .ins c ((fs.map (·.1)).zip vs) else .no
end B

/-! M0: lemmas about B0's constructs. -/
namespace B
open PySem
theorem oAdd_int (i j : Int) : oAdd (.int i) (.int j) = .ok (.int (i + j)) := rfl
theorem oAdd_str (a b : Str) : oAdd (.str a) (.str b) = when (decide (a.length + b.length ≤ sizeL)) (.ok (.str (a ++ b))) := rfl
theorem oAdd_lst (a b : List PV) : oAdd (.lst a) (.lst b) = when (decide (a.length + b.length ≤ sizeL)) (.ok (.lst (a ++ b))) := rfl
theorem oSub_int (i j : Int) : oSub (.int i) (.int j) = .ok (.int (i - j)) := rfl
theorem oMul_int (i j : Int) : oMul (.int i) (.int j) = when (cmul i j) (.ok (.int (i * j))) := rfl
theorem oMul_str (a : Str) (k : Int) : oMul (.str a) (.int k) = when (decide (0 ≤ k) && decide (k ≤ 1000) && decide (a.length * k.toNat ≤ 1000)) (.ok (.str (repS a k.toNat))) := rfl
theorem oDiv_int (i j : Int) : oDiv (.int i) (.int j) = when (decide (0 < j) && decide (j < 1073741824)) (.ok (.int (i / j))) := rfl
theorem oMod_int (i j : Int) : oMod (.int i) (.int j) = when (decide (0 < j)) (.ok (.int (i % j))) := rfl
theorem oPow_int (i j : Int) : oPow (.int i) (.int j) = when (decide (0 ≤ j) && decide (j ≤ 1000) && decide (-1000 < i) && decide (i < 1000)) (.ok (.int (i ^ j.toNat))) := rfl
theorem oNeg_int (i : Int) : oNeg (.int i) = .ok (.int (-i)) := rfl
theorem oLt_int (i j : Int) : oLt (.int i) (.int j) = .ok (.bl (decide (i < j))) := rfl
theorem oLe_int (i j : Int) : oLe (.int i) (.int j) = .ok (.bl (decide (i ≤ j))) := rfl
theorem oGt_int (i j : Int) : oGt (.int i) (.int j) = .ok (.bl (decide (j < i))) := rfl
theorem oGe_int (i j : Int) : oGe (.int i) (.int j) = .ok (.bl (decide (j ≤ i))) := rfl
theorem oEq_int (i j : Int) : oEq (.int i) (.int j) = .ok (.bl (i == j)) := rfl
theorem oNe_int (i j : Int) : oNe (.int i) (.int j) = .ok (.bl (!(i == j))) := rfl
theorem oEq_str (i j : Str) : oEq (.str i) (.str j) = .ok (.bl (decide (i = j))) := rfl
theorem oNe_str (i j : Str) : oNe (.str i) (.str j) = .ok (.bl (!decide (i = j))) := rfl
theorem oEq_bl (i j : Bool) : oEq (.bl i) (.bl j) = .ok (.bl (i == j)) := rfl
theorem oNe_bl (i j : Bool) : oNe (.bl i) (.bl j) = .ok (.bl (!(i == j))) := rfl
theorem oEq_lst (i j : List PV) : oEq (.lst i) (.lst j) = when (i.all PV.flat && j.all PV.flat) (.ok (.bl (eqds i j))) := rfl
theorem oNe_lst (i j : List PV) : oNe (.lst i) (.lst j) = when (i.all PV.flat && j.all PV.flat) (.ok (.bl (!eqds i j))) := rfl
theorem oIn_lst (x : PV) (ys : List PV) : oIn x (.lst ys) = when (x.flat && ys.all PV.flat) (.ok (.bl (ys.any fun y => eqd y x))) := by cases x <;> rfl
theorem oIn_tup (x : PV) (ys : List PV) : oIn x (.tup ys) = when (x.flat && ys.all PV.flat) (.ok (.bl (ys.any fun y => eqd y x))) := by cases x <;> rfl
theorem oIn_dct (x : PV) (kvs : List (PV × PV)) : oIn x (.dct kvs) = when (kindOk kvs x) (.ok (.bl (dget kvs x).isSome)) := by cases x <;> rfl
theorem oIn_str (x y : Str) : oIn (.str x) (.str y) = .ok (.bl (inS x y)) := rfl
theorem oNotIn_eq (x y : PV) (b : Bool) (h : oIn x y = .ok (.bl b)) : oNotIn x y = .ok (.bl (!b)) := by unfold oNotIn; rw [h]; rfl
theorem oNotIn_lst (x : PV) (ys : List PV) : oNotIn x (.lst ys) = when (x.flat && ys.all PV.flat) (.ok (.bl (!(ys.any fun y => eqd y x)))) := by
  unfold oNotIn; rw [oIn_lst]; cases (x.flat && ys.all PV.flat) <;> rfl
theorem oNotIn_dct (x : PV) (kvs : List (PV × PV)) : oNotIn x (.dct kvs) = when (kindOk kvs x) (.ok (.bl (!(dget kvs x).isSome))) := by
  unfold oNotIn; rw [oIn_dct]; cases (kindOk kvs x) <;> rfl
theorem oNotIn_str (x y : Str) : oNotIn (.str x) (.str y) = .ok (.bl (!inS x y)) := rfl
theorem oIx_lst (xs : List PV) (i : Int) : oIx (.lst xs) (.int i) = ofOpt (atI xs i) := rfl
theorem oIx_tup (xs : List PV) (i : Int) : oIx (.tup xs) (.int i) = ofOpt (atI xs i) := rfl
theorem oIx_str (x : Str) (i : Int) : oIx (.str x) (.int i) = when (decide (x.length ≤ sizeL)) ((ofOpt (atI x.cps.toList i)).map fun c => .str ⟨#[c]⟩) := rfl
theorem oIx_dct (kvs : List (PV × PV)) (k : PV) : oIx (.dct kvs) k = when (kindOk kvs k) (ofOpt (dget kvs k)) := by cases k <;> rfl
theorem oCut_lst (lo hi : Option Int) (xs : List PV) : oCut lo hi (.lst xs) = .ok (.lst (cut xs lo hi)) := rfl
theorem oCut_str (lo hi : Option Int) (x : Str) : oCut lo hi (.str x) = when (decide (x.length ≤ sizeL)) (.ok (.str (cutS x lo hi))) := rfl
theorem truth_bl (b : Bool) : truth (.bl b) = .ok b := rfl
theorem truth_int (i : Int) : truth (.int i) = .ok (i != 0) := rfl
theorem truth_non : truth .non = .ok false := rfl
theorem asI_int (i : Int) : asI (.int i) = .ok (some i) := rfl
theorem asB_bl (b : Bool) : asB (.bl b) = .ok b := rfl
theorem oNot_bl (b : Bool) : oNot (.bl b) = .ok (.bl (!b)) := rfl
theorem oAttr_ins (f c : Str) (fs : List (Str × PV)) : oAttr f (.ins c fs) = ofOpt (fld fs f) := rfl
theorem oIsNon_non : oIsNon .non = .ok (.bl true) := rfl
theorem oNotNon_non : oNotNon .non = .ok (.bl false) := rfl
theorem cLen_lst (xs : List PV) : cLen [.lst xs] = .ok (.int xs.length) := rfl
theorem cLen_tup (xs : List PV) : cLen [.tup xs] = .ok (.int xs.length) := rfl
theorem cLen_dct (xs : List (PV × PV)) : cLen [.dct xs] = .ok (.int xs.length) := rfl
theorem cLen_str (x : Str) : cLen [.str x] = when (decide (x.length ≤ sizeL)) (.ok (.int x.length)) := rfl
theorem cAll_lst (xs : List PV) : cAll [.lst xs] = (allB xs).map .bl := rfl
theorem cSum_lst (xs : List PV) : cSum [.lst xs] = (sumI xs).map .int := rfl
theorem cMin_int (i j : Int) : cMin [.int i, .int j] = .ok (.int (min i j)) := rfl
theorem cMax_int (i j : Int) : cMax [.int i, .int j] = .ok (.int (max i j)) := rfl
theorem cInt_bl (b : Bool) : cInt [.bl b] = .ok (.int (b2i b)) := rfl
theorem cList_lst (xs : List PV) : cList [.lst xs] = .ok (.lst xs) := rfl
theorem cList_tup (xs : List PV) : cList [.tup xs] = .ok (.lst xs) := rfl
theorem cDict_dct (xs : List (PV × PV)) : cDict [.dct xs] = .ok (.dct xs) := rfl
theorem cTuple_lst (xs : List PV) : cTuple [.lst xs] = .ok (.tup xs) := rfl
theorem cSorted_lst (xs : List PV) : cSorted [.lst xs] = (strsV xs).map fun ss => .lst ((sortS ss).map .str) := rfl
theorem cSorted_dct (kvs : List (PV × PV)) : cSorted [.dct kvs] = (strsV (kvs.map (·.1))).map fun ss => .lst ((sortS ss).map .str) := rfl
theorem mUpper_str (x : Str) : mUpper [.str x] = when (x.cps.toList.all (· < 128)) (.ok (.str ⟨(x.cps.toList.map up1).toArray⟩)) := rfl
theorem mGet_2 (kvs : List (PV × PV)) (k : PV) : mGet [.dct kvs, k] = when (kindOk kvs k) (.ok ((dget kvs k).getD .non)) := rfl
theorem mGet_3 (kvs : List (PV × PV)) (k d : PV) : mGet [.dct kvs, k, d] = when (kindOk kvs k) (.ok ((dget kvs k).getD d)) := rfl
theorem mCount_lst (xs : List PV) (x : PV) : mCount [.lst xs, x] = when (x.flat && xs.all PV.flat) (.ok (.int ((xs.filter fun y => eqd y x).length : Nat))) := rfl
theorem isK_int_non (kn : List Str) : isK kn .int .non = .ok (.bl false) := rfl
theorem isK_int_bl (kn : List Str) (x : Bool) : isK kn .int (.bl x) = .ok (.bl true) := rfl
theorem isK_int_int (kn : List Str) (x : Int) : isK kn .int (.int x) = .ok (.bl true) := rfl
theorem isK_int_str (kn : List Str) (x : Str) : isK kn .int (.str x) = .ok (.bl false) := rfl
theorem isK_int_tup (kn : List Str) (x : List PV) : isK kn .int (.tup x) = .ok (.bl false) := rfl
theorem isK_int_lst (kn : List Str) (x : List PV) : isK kn .int (.lst x) = .ok (.bl false) := rfl
theorem isK_int_dct (kn : List Str) (x : List (PV × PV)) : isK kn .int (.dct x) = .ok (.bl false) := rfl
theorem isK_int_exc (kn : List Str) (x : Str) : isK kn .int (.exc x) = when (decide (x ∈ kn)) (.ok (.bl false)) := rfl
theorem isK_int_ins (kn : List Str) (x : Str) (fs : List (Str × PV)) : isK kn .int (.ins x fs) = when (decide (x ∈ kn)) (.ok (.bl false)) := rfl
theorem isK_bl_non (kn : List Str) : isK kn .bl .non = .ok (.bl false) := rfl
theorem isK_bl_bl (kn : List Str) (x : Bool) : isK kn .bl (.bl x) = .ok (.bl true) := rfl
theorem isK_bl_int (kn : List Str) (x : Int) : isK kn .bl (.int x) = .ok (.bl false) := rfl
theorem isK_bl_str (kn : List Str) (x : Str) : isK kn .bl (.str x) = .ok (.bl false) := rfl
theorem isK_bl_tup (kn : List Str) (x : List PV) : isK kn .bl (.tup x) = .ok (.bl false) := rfl
theorem isK_bl_lst (kn : List Str) (x : List PV) : isK kn .bl (.lst x) = .ok (.bl false) := rfl
theorem isK_bl_dct (kn : List Str) (x : List (PV × PV)) : isK kn .bl (.dct x) = .ok (.bl false) := rfl
theorem isK_bl_exc (kn : List Str) (x : Str) : isK kn .bl (.exc x) = when (decide (x ∈ kn)) (.ok (.bl false)) := rfl
theorem isK_bl_ins (kn : List Str) (x : Str) (fs : List (Str × PV)) : isK kn .bl (.ins x fs) = when (decide (x ∈ kn)) (.ok (.bl false)) := rfl
theorem isK_str_non (kn : List Str) : isK kn .str .non = .ok (.bl false) := rfl
theorem isK_str_bl (kn : List Str) (x : Bool) : isK kn .str (.bl x) = .ok (.bl false) := rfl
theorem isK_str_int (kn : List Str) (x : Int) : isK kn .str (.int x) = .ok (.bl false) := rfl
theorem isK_str_str (kn : List Str) (x : Str) : isK kn .str (.str x) = .ok (.bl true) := rfl
theorem isK_str_tup (kn : List Str) (x : List PV) : isK kn .str (.tup x) = .ok (.bl false) := rfl
theorem isK_str_lst (kn : List Str) (x : List PV) : isK kn .str (.lst x) = .ok (.bl false) := rfl
theorem isK_str_dct (kn : List Str) (x : List (PV × PV)) : isK kn .str (.dct x) = .ok (.bl false) := rfl
theorem isK_str_exc (kn : List Str) (x : Str) : isK kn .str (.exc x) = when (decide (x ∈ kn)) (.ok (.bl false)) := rfl
theorem isK_str_ins (kn : List Str) (x : Str) (fs : List (Str × PV)) : isK kn .str (.ins x fs) = when (decide (x ∈ kn)) (.ok (.bl false)) := rfl
theorem isK_tup_non (kn : List Str) : isK kn .tup .non = .ok (.bl false) := rfl
theorem isK_tup_bl (kn : List Str) (x : Bool) : isK kn .tup (.bl x) = .ok (.bl false) := rfl
theorem isK_tup_int (kn : List Str) (x : Int) : isK kn .tup (.int x) = .ok (.bl false) := rfl
theorem isK_tup_str (kn : List Str) (x : Str) : isK kn .tup (.str x) = .ok (.bl false) := rfl
theorem isK_tup_tup (kn : List Str) (x : List PV) : isK kn .tup (.tup x) = .ok (.bl true) := rfl
theorem isK_tup_lst (kn : List Str) (x : List PV) : isK kn .tup (.lst x) = .ok (.bl false) := rfl
theorem isK_tup_dct (kn : List Str) (x : List (PV × PV)) : isK kn .tup (.dct x) = .ok (.bl false) := rfl
theorem isK_tup_exc (kn : List Str) (x : Str) : isK kn .tup (.exc x) = when (decide (x ∈ kn)) (.ok (.bl false)) := rfl
theorem isK_tup_ins (kn : List Str) (x : Str) (fs : List (Str × PV)) : isK kn .tup (.ins x fs) = when (decide (x ∈ kn)) (.ok (.bl false)) := rfl
theorem isK_lst_non (kn : List Str) : isK kn .lst .non = .ok (.bl false) := rfl
theorem isK_lst_bl (kn : List Str) (x : Bool) : isK kn .lst (.bl x) = .ok (.bl false) := rfl
theorem isK_lst_int (kn : List Str) (x : Int) : isK kn .lst (.int x) = .ok (.bl false) := rfl
theorem isK_lst_str (kn : List Str) (x : Str) : isK kn .lst (.str x) = .ok (.bl false) := rfl
theorem isK_lst_tup (kn : List Str) (x : List PV) : isK kn .lst (.tup x) = .ok (.bl false) := rfl
theorem isK_lst_lst (kn : List Str) (x : List PV) : isK kn .lst (.lst x) = .ok (.bl true) := rfl
theorem isK_lst_dct (kn : List Str) (x : List (PV × PV)) : isK kn .lst (.dct x) = .ok (.bl false) := rfl
theorem isK_lst_exc (kn : List Str) (x : Str) : isK kn .lst (.exc x) = when (decide (x ∈ kn)) (.ok (.bl false)) := rfl
theorem isK_lst_ins (kn : List Str) (x : Str) (fs : List (Str × PV)) : isK kn .lst (.ins x fs) = when (decide (x ∈ kn)) (.ok (.bl false)) := rfl
theorem isK_dct_non (kn : List Str) : isK kn .dct .non = .ok (.bl false) := rfl
theorem isK_dct_bl (kn : List Str) (x : Bool) : isK kn .dct (.bl x) = .ok (.bl false) := rfl
theorem isK_dct_int (kn : List Str) (x : Int) : isK kn .dct (.int x) = .ok (.bl false) := rfl
theorem isK_dct_str (kn : List Str) (x : Str) : isK kn .dct (.str x) = .ok (.bl false) := rfl
theorem isK_dct_tup (kn : List Str) (x : List PV) : isK kn .dct (.tup x) = .ok (.bl false) := rfl
theorem isK_dct_lst (kn : List Str) (x : List PV) : isK kn .dct (.lst x) = .ok (.bl false) := rfl
theorem isK_dct_dct (kn : List Str) (x : List (PV × PV)) : isK kn .dct (.dct x) = .ok (.bl true) := rfl
theorem isK_dct_exc (kn : List Str) (x : Str) : isK kn .dct (.exc x) = when (decide (x ∈ kn)) (.ok (.bl false)) := rfl
theorem isK_dct_ins (kn : List Str) (x : Str) (fs : List (Str × PV)) : isK kn .dct (.ins x fs) = when (decide (x ∈ kn)) (.ok (.bl false)) := rfl
theorem isC_non (kn u : List Str) : isC kn u .non = .ok (.bl false) := rfl
theorem isC_bl (kn u : List Str) (x : Bool) : isC kn u (.bl x) = .ok (.bl false) := rfl
theorem isC_int (kn u : List Str) (x : Int) : isC kn u (.int x) = .ok (.bl false) := rfl
theorem isC_str (kn u : List Str) (x : Str) : isC kn u (.str x) = .ok (.bl false) := rfl
theorem isC_tup (kn u : List Str) (x : List PV) : isC kn u (.tup x) = .ok (.bl false) := rfl
theorem isC_lst (kn u : List Str) (x : List PV) : isC kn u (.lst x) = .ok (.bl false) := rfl
theorem isC_dct (kn u : List Str) (x : List (PV × PV)) : isC kn u (.dct x) = .ok (.bl false) := rfl
theorem isC_ins (kn u : List Str) (x : Str) (fs : List (Str × PV)) : isC kn u (.ins x fs) = when (decide (x ∈ kn)) (.ok (.bl (decide (x ∈ u)))) := rfl
theorem isC_exc (kn u : List Str) (x : Str) : isC kn u (.exc x) = when (decide (x ∈ kn)) (.ok (.bl (decide (x ∈ u)))) := rfl
/-- what is walked, of a value -/
theorem iV_eq (a : Ev) (s : Env) : iV a s = (a s).bind walkV := rfl
theorem iD_eq (a : Ev) (s : Env) : iD a s = (a s).bind keysV := rfl
theorem walkV_lst (xs : List PV) : walkV (.lst xs) = .ok xs := rfl
theorem walkV_tup (xs : List PV) : walkV (.tup xs) = .ok xs := rfl
theorem keysV_dct (kvs : List (PV × PV)) : keysV (.dct kvs) = .ok (kvs.map (·.1)) := rfl
theorem walkV_str (x : Str) : walkV (.str x) = .ok (x.cps.toList.map fun c => .str ⟨#[c]⟩) := rfl
theorem iR_eq (a b c : Ev) (s : Env) : iR a b c s = (a s).bind fun x => (b s).bind fun y => (c s).bind fun z => rngV x y z := rfl
theorem rngV_int (i j k : Int) : rngV (.int i) (.int j) (.int k) = when (decide (0 < k) && decide (-1000000 < i) && decide (i < 1000000) && decide (-1000000 < j) && decide (j < 1000000) && decide (k < 1000000)) (.ok (rangeL i j k)) := rfl
theorem atI_nat {α : Type} (xs : List α) (k : Nat) : atI xs (k : Int) = xs[k]? := by
  unfold atI ixN
  rw [if_pos (by omega)]
  by_cases h : k < xs.length
  · rw [if_pos (by omega)]; simp
  · rw [if_neg (by omega)]
    simp; omega
theorem atI_lt {α : Type} (xs : List α) (i : Int) (h0 : 0 ≤ i) (h1 : i < xs.length) : ∃ x, atI xs i = some x ∧ x ∈ xs := by
  obtain ⟨k, rfl⟩ : ∃ k : Nat, i = k := ⟨i.toNat, by omega⟩
  have hk : k < xs.length := by omega
  exact ⟨xs[k], by rw [atI_nat]; simp [hk], by simp⟩
theorem forL_inv {body : PV → Sv} (P : Nat → Env → Prop) : ∀ (xs : List PV) (s : Env) (n : Nat), P n s →
    (∀ i x s, xs[i]? = some x → P (n + i) s → ∃ s', (body x s = .nx s' ∨ body x s = .ct s') ∧ P (n + i + 1) s') → ∃ s', forL body xs s = .nx s' ∧ P (n + xs.length) s'
  | [], s, n, h0, _ => ⟨s, rfl, h0⟩
  | x :: r, s, n, h0, hs => by
    obtain ⟨s1, h1, p1⟩ := hs 0 x s rfl h0
    obtain ⟨s2, h2, p2⟩ := forL_inv P r s1 (n + 1) p1 (fun i y t hy pt => by
      have := hs (i + 1) y t (by simpa using hy) (by rw [show n + (i + 1) = n + 1 + i by omega]; exact pt)
      rw [show n + (i + 1) + 1 = n + 1 + i + 1 by omega] at this
      exact this)
    refine ⟨s2, ?_, by rw [show n + (x :: r).length = n + 1 + r.length by simp; omega]; exact p2⟩
    unfold forL
    rcases h1 with h1 | h1 <;> rw [h1] <;> exact h2
/-- a loop whose turns all go on -/
theorem forL_inv0 {body : PV → Sv} (P : Nat → Env → Prop) (xs : List PV) (s : Env) (h0 : P 0 s)
    (hs : ∀ i x s, xs[i]? = some x → P i s → ∃ s', (body x s = .nx s' ∨ body x s = .ct s') ∧ P (i + 1) s') : ∃ s', forL body xs s = .nx s' ∧ P xs.length s' := by
  obtain ⟨s', h, p⟩ := forL_inv P xs s 0 h0 (fun i x s hx p => by simpa using hs i x s hx (by simpa using p))
  exact ⟨s', h, by simpa using p⟩
theorem rangeL_one (a b : Int) : rangeL a b 1 = (List.range (b - a).toNat).map fun (k : Nat) => PV.int (a + k) := by
  unfold rangeL
  rw [if_pos (by decide)]
  have : (b - a + 1 - 1) / 1 = b - a := by omega
  rw [this]
  simp
theorem rangeL_get {a b c : Int} {i : Nat} {x : PV} (h : (rangeL a b c)[i]? = some x) : x = .int (a + c * i) ∧ i < ((b - a + c - 1) / c).toNat ∧ 0 < c := by
  unfold rangeL at h
  split at h
  · rename_i hc
    rw [List.getElem?_map] at h
    cases e : (List.range ((b - a + c - 1) / c).toNat)[i]? with
    | none => rw [e] at h; cases h
    | some k =>
      rw [e] at h
      have := List.getElem?_eq_some_iff.mp e
      obtain ⟨hk, hv⟩ := this
      rw [List.getElem_range] at hv
      subst hv
      cases h
      rw [List.length_range] at hk
      exact ⟨rfl, hk, hc⟩
  · simp at h
end B

/-! M1: small facts for the walks of laws -/
namespace B
open PySem
def abc : Str := Str.ofString "abcdefghijklmnopqrstuvwxyz"
theorem abc_eq : Str.ofString "abcdefghijklmnopqrstuvwxyz" = abc := rfl
theorem abc_len : abc.length = 26 := by decide +kernel
theorem abc_fits : decide (abc.length ≤ sizeL) = true := by rw [abc_len]; decide
theorem letter_at (i : Int) : ∃ c, atI abc.cps.toList (i % 26) = some c ∧ c ∈ abc.cps.toList :=
  atI_lt abc.cps.toList (i % 26) (by omega) (by have := abc_len; unfold Str.length at this; rw [Array.length_toList, this]; omega)
theorem len_app (a b : Str) : (a ++ b).length = a.length + b.length := by
  show (a.cps ++ b.cps).size = _
  exact Array.size_append
theorem len_rep (x : Str) (n : Nat) : (repS x n).length = n * x.length := by
  unfold repS Str.length
  simp
theorem len_one (c : Nat) : (⟨#[c]⟩ : Str).length = 1 := rfl
theorem len_cut (x : Str) (lo hi : Option Int) : (cutS x lo hi).length ≤ x.length := by
  unfold cutS
  split
  · exact Nat.le_refl _
  · unfold Str.length
    rw [List.size_toArray]
    exact Nat.le_trans (List.length_filterMap_le _ _) (PyProof.Rows.indices_len_le lo hi x.length)
theorem cmul_r (x j : Int) (h : -18446744073709551616 < j) (h' : j < 18446744073709551616) : cmul x j = true := by unfold cmul; simp [h, h']
theorem cmul_l (x j : Int) (h : -18446744073709551616 < x) (h' : x < 18446744073709551616) : cmul x j = true := by unfold cmul; simp [h, h']
theorem pos_ (j : Int) (h : 0 < j) : decide (0 < j) = true := decide_eq_true h
theorem yes {p : Prop} [Decidable p] (h : p) : decide p = true := decide_eq_true h
theorem nay {p : Prop} [Decidable p] (h : ¬ p) : decide p = false := decide_eq_false h
theorem fits {n : Nat} (h : n ≤ 100000) : decide (n ≤ sizeL) = true := decide_eq_true (Nat.le_trans h (by decide))
theorem beq_t {a b : Int} (h : a = b) : (a == b) = true := by simp [h]
theorem beq_f {a b : Int} (h : ¬ a = b) : (a == b) = false := by simp [h]
/-- a range that is walked -/
theorem rng_ok (i j k : Int) (hk : 0 < k) (hi : -1000000 < i) (hi' : i < 1000000) (hj : -1000000 < j) (hj' : j < 1000000) (hk' : k < 1000000) : rngV (.int i) (.int j) (.int k) = .ok (rangeL i j k) := by
  rw [rngV_int, yes hk, yes hi, yes hi', yes hj, yes hj', yes hk']
  rfl
theorem pow_ok (i j : Int) (h1 : 0 ≤ j) (h2 : j ≤ 1000) (h3 : -1000 < i) (h4 : i < 1000) : oPow (.int i) (.int j) = .ok (.int (i ^ j.toNat)) := by
  rw [oPow_int, yes h1, yes h2, yes h3, yes h4]
  rfl
end B

/-! BL: plain values over the hand layer: how a value lies in the heap, what a name owns, what an expression is worth. -/
namespace B
open PySem PySem.Spec PyProof.Rows L2

abbrev MG := Str → Option Value
def kPV : Key → PV
  | .inl i => .int i
  | .inr x => .str x
/-- an exception of the class at C, at a -/
def excO (a C : Addr) : Heap → Prop := fun h => ∃ o, h.get? a = some o ∧ o.cls = .ref C
def Sub (S H : Hp) : Prop := ∀ a o, S a = some o → H a = some o
theorem Sub.refl {S : Hp} : Sub S S := fun _ _ e => e
theorem Sub.trans {S T U : Hp} (a : Sub S T) (b : Sub T U) : Sub S U := fun x o e => b x o (a x o e)
theorem Sub.none {S T : Hp} (h : Sub S T) {a : Addr} (e : T a = none) : S a = none := by
  cases q : S a with
  | none => rfl
  | some o => rw [h a o q] at e; cases e
/-- the heap grows, the shared part grows by what is new -/
structure Ext (S H S' H' : Hp) : Prop where
  h : Sub H H'
  s : Sub S S'
  sh : Sub S' H'
  n : ∀ a o, S' a = some o → S a = some o ∨ H a = none
theorem Ext.refl {S H : Hp} (h : Sub S H) : Ext S H S H := ⟨Sub.refl, Sub.refl, h, fun _ _ e => .inl e⟩
theorem Ext.trans {S H S1 H1 S2 H2 : Hp} (a : Ext S H S1 H1) (b : Ext S1 H1 S2 H2) : Ext S H S2 H2 :=
  ⟨a.h.trans b.h, a.s.trans b.s, b.sh, fun x o e => (b.n x o e).elim (a.n x o) fun z => .inr (a.h.none z)⟩
/-- a new object that is shared at once -/
theorem Ext.new {S H : Hp} (h : Sub S H) {p : Addr} {o : HO} (hp : H p = none) : Ext S H (upd S p o) (upd H p o) := by
  have sp : S p = none := h.none hp
  refine ⟨fun a u e => ?_, fun a u e => ?_, fun a u e => ?_, fun a u e => ?_⟩
  · rw [upd_ne (ne_of_none e hp)]; exact e
  · rw [upd_ne (ne_of_none e sp)]; exact e
  · by_cases q : a = p
    · subst q; rw [upd_same] at e ⊢; exact e
    · rw [upd_ne q] at e ⊢; exact h a u e
  · by_cases q : a = p
    · subst q; exact .inr hp
    · rw [upd_ne q] at e; exact .inl e
/-- a new object that is not shared -/
theorem Ext.own {S H : Hp} (h : Sub S H) {p : Addr} {o : HO} (hp : H p = none) : Ext S H S (upd H p o) :=
  ⟨fun a u e => by rw [upd_ne (ne_of_none e hp)]; exact e, Sub.refl, fun a u e => by rw [upd_ne (ne_of_none (h a u e) hp)]; exact h a u e, fun _ _ e => .inl e⟩

section
variable (mg : MG)
mutual
def Rep (S : Hp) : PV → V → Prop
  | .non, v => v = .non
  | .bl b, v => v = .bl b
  | .int i, v => v = .int i
  | .str x, v => v = .str x
  | .tup ys, v => ∃ a vs, v = .ref a ∧ S a = some (.tup vs) ∧ Reps S ys vs
  | .lst ys, v => ∃ a vs, v = .ref a ∧ Rd S a (.lst vs) ∧ Reps S ys vs
  | .dct kvs, v => ∃ a, v = .ref a ∧ ((∃ ks, Rd S a (.dK ks) ∧ RepK S kvs ks) ∨ ∃ ts, Rd S a (.dT ts) ∧ RepT S kvs ts)
  | .ins c gs, v => ∃ a C dx fs, v = .ref a ∧ S a = some (.ins C dx fs) ∧ S dx = some (.own a) ∧ mg c = some (.ref C) ∧ RepF S gs fs
  | .exc c, v => ∃ a C, v = .ref a ∧ mg c = some (.ref C) ∧ S a = some (.ext (excO a C))
def Reps (S : Hp) : List PV → List V → Prop
  | [], vs => vs = []
  | y :: ys, vs => ∃ v r, vs = v :: r ∧ Rep S y v ∧ Reps S ys r
def RepK (S : Hp) : List (PV × PV) → List (Key × V) → Prop
  | [], ks => ks = []
  | (p, y) :: r, ks => ∃ k v r', ks = (k, v) :: r' ∧ p = kPV k ∧ Rep S y v ∧ RepK S r r'
def RepT (S : Hp) : List (PV × PV) → List (List Key × V) → Prop
  | [], ks => ks = []
  | (p, y) :: r, ks => ∃ k v r', ks = (k, v) :: r' ∧ p = .tup (k.map kPV) ∧ Rep S y v ∧ RepT S r r'
def RepF (S : Hp) : List (Str × PV) → List (Str × V) → Prop
  | [], fs => fs = []
  | (f, y) :: r, fs => ∃ v r', fs = (f, v) :: r' ∧ Rep S y v ∧ RepF S r r'
end
end
theorem Rd.mono {S S' : Hp} (h : Sub S S') {a : Addr} {u : HO} (r : Rd S a u) : Rd S' a u := by
  rcases r with e | ⟨o, e⟩
  · exact .inl (h _ _ e)
  · exact .inr ⟨o, h _ _ e⟩
section
variable {mg : MG} {S S' : Hp}
mutual
theorem Rep.mono (h : Sub S S') : ∀ {y : PV} {v : V}, Rep mg S y v → Rep mg S' y v
  | .non, v, r => r
  | .bl _, v, r => r
  | .int _, v, r => r
  | .str _, v, r => r
  | .tup ys, v, r => by
    simp only [Rep] at r ⊢
    obtain ⟨a, vs, e, q, z⟩ := r
    exact ⟨a, vs, e, h _ _ q, Reps.mono h z⟩
  | .lst ys, v, r => by
    simp only [Rep] at r ⊢
    obtain ⟨a, vs, e, q, z⟩ := r
    exact ⟨a, vs, e, Rd.mono h q, Reps.mono h z⟩
  | .dct kvs, v, r => by
    simp only [Rep] at r ⊢
    obtain ⟨a, e, ⟨ks, q, z⟩ | ⟨ks, q, z⟩⟩ := r
    · exact ⟨a, e, .inl ⟨ks, Rd.mono h q, RepK.mono h z⟩⟩
    · exact ⟨a, e, .inr ⟨ks, Rd.mono h q, RepT.mono h z⟩⟩
  | .ins c gs, v, r => by
    simp only [Rep] at r ⊢
    obtain ⟨a, C, dx, fs, e, q, q2, m, z⟩ := r
    exact ⟨a, C, dx, fs, e, h _ _ q, h _ _ q2, m, RepF.mono h z⟩
  | .exc c, v, r => by
    simp only [Rep] at r ⊢
    obtain ⟨a, C, e, m, q⟩ := r
    exact ⟨a, C, e, m, h _ _ q⟩
theorem Reps.mono (h : Sub S S') : ∀ {ys : List PV} {vs : List V}, Reps mg S ys vs → Reps mg S' ys vs
  | [], vs, r => r
  | y :: ys, vs, ⟨v, r, e, r1, r2⟩ => ⟨v, r, e, Rep.mono h r1, Reps.mono h r2⟩
theorem RepK.mono (h : Sub S S') : ∀ {ys : List (PV × PV)} {vs : List (Key × V)}, RepK mg S ys vs → RepK mg S' ys vs
  | [], vs, r => r
  | (p, y) :: ys, vs, ⟨k, v, r, e, ep, r1, r2⟩ => ⟨k, v, r, e, ep, Rep.mono h r1, RepK.mono h r2⟩
theorem RepT.mono (h : Sub S S') : ∀ {ys : List (PV × PV)} {vs : List (List Key × V)}, RepT mg S ys vs → RepT mg S' ys vs
  | [], vs, r => r
  | (p, y) :: ys, vs, ⟨k, v, r, e, ep, r1, r2⟩ => ⟨k, v, r, e, ep, Rep.mono h r1, RepT.mono h r2⟩
theorem RepF.mono (h : Sub S S') : ∀ {ys : List (Str × PV)} {vs : List (Str × V)}, RepF mg S ys vs → RepF mg S' ys vs
  | [], vs, r => r
  | (p, y) :: ys, vs, ⟨v, r, e, r1, r2⟩ => ⟨v, r, e, Rep.mono h r1, RepF.mono h r2⟩
end
theorem Reps.length : ∀ {ys : List PV} {vs : List V}, Reps mg S ys vs → ys.length = vs.length
  | [], _, r => by cases (show _ = [] from r); rfl
  | y :: ys, _, ⟨v, r, e, _, t⟩ => by rw [e]; simp [Reps.length t]
theorem Reps.get : ∀ {ys : List PV} {vs : List V} {i : Nat} {y : PV}, Reps mg S ys vs → ys[i]? = some y → ∃ v, vs[i]? = some v ∧ Rep mg S y v
  | [], _, i, y, _, e => by simp at e
  | y :: ys, _, 0, z, ⟨v, r, e, q, _⟩, h => by simp at h; subst h; rw [e]; exact ⟨v, rfl, q⟩
  | y :: ys, _, i + 1, z, ⟨v, r, e, _, t⟩, h => by
    obtain ⟨u, h1, h2⟩ := Reps.get (i := i) t (by simpa using h)
    rw [e]; exact ⟨u, by simpa using h1, h2⟩
theorem Reps.append : ∀ {ys zs : List PV} {vs us : List V}, Reps mg S ys vs → Reps mg S zs us → Reps mg S (ys ++ zs) (vs ++ us)
  | [], _, _, _, r, q => by cases (show _ = [] from r); exact q
  | y :: ys, _, _, _, ⟨v, r, e, h, t⟩, q => by subst e; exact ⟨v, _, rfl, h, Reps.append t q⟩
theorem Reps.nil : Reps mg S [] [] := rfl
theorem Reps.cons {y : PV} {ys : List PV} {v : V} {vs : List V} (h : Rep mg S y v) (t : Reps mg S ys vs) : Reps mg S (y :: ys) (v :: vs) := ⟨v, vs, rfl, h, t⟩
theorem Reps.take : ∀ {ys : List PV} {vs : List V} (n : Nat), Reps mg S ys vs → Reps mg S (ys.take n) (vs.take n)
  | [], _, n, r => by cases (show _ = [] from r); simp [Reps]
  | y :: ys, _, 0, _ => rfl
  | y :: ys, _, n + 1, ⟨v, r, e, h, t⟩ => by subst e; exact ⟨v, _, rfl, h, Reps.take n t⟩
theorem Reps.drop : ∀ {ys : List PV} {vs : List V} (n : Nat), Reps mg S ys vs → Reps mg S (ys.drop n) (vs.drop n)
  | [], _, n, r => by cases (show _ = [] from r); simp [Reps]
  | y :: ys, _, 0, r => r
  | y :: ys, _, n + 1, ⟨v, r, e, h, t⟩ => by subst e; exact Reps.drop n t
theorem Reps.set : ∀ {ys : List PV} {vs : List V} (i : Nat) {y : PV} {v : V}, Reps mg S ys vs → Rep mg S y v → Reps mg S (ys.set i y) (vs.set i v)
  | [], _, i, _, _, r, _ => by cases (show _ = [] from r); rfl
  | y :: ys, _, 0, _, _, ⟨v, r, e, h, t⟩, q => by subst e; exact ⟨_, _, rfl, q, t⟩
  | y :: ys, _, i + 1, _, _, ⟨v, r, e, h, t⟩, q => by subst e; exact ⟨_, _, rfl, h, Reps.set i t q⟩
theorem Reps.eraseIdx : ∀ {ys : List PV} {vs : List V} (i : Nat), Reps mg S ys vs → Reps mg S (ys.eraseIdx i) (vs.eraseIdx i)
  | [], _, i, r => by cases (show _ = [] from r); rfl
  | y :: ys, _, 0, ⟨v, r, e, h, t⟩ => by subst e; exact t
  | y :: ys, _, i + 1, ⟨v, r, e, h, t⟩ => by subst e; exact ⟨_, _, rfl, h, Reps.eraseIdx i t⟩
end

/-! ### what a name owns -/
inductive Own where
  | s | o (cs : List Own)
section
variable (mg : MG) (S H : Hp)
mutual
def OwnR : Own → PV → V → List Addr → Prop
  | .s, y, v, as => as = [] ∧ Rep mg S y v
  | .o cs, y, v, as => match y with
    | .lst ys => ∃ a vs rest, v = .ref a ∧ H a = some (.lst vs) ∧ OwnRs cs ys vs rest ∧ as = a :: rest
    | .dct kvs => ∃ a, v = .ref a ∧ as = [a] ∧ ((∃ ks, H a = some (.dK ks) ∧ RepK mg S kvs ks) ∨ ∃ ts, H a = some (.dT ts) ∧ RepT mg S kvs ts)
    | y => as = [] ∧ Rep mg S y v
def OwnRs : List Own → List PV → List V → List Addr → Prop
  | [], ys, vs, as => as = [] ∧ Reps mg S ys vs
  | c :: cs, ys, vs, as => match ys with
    | [] => vs = [] ∧ as = []
    | y :: ys => ∃ v r a1 a2, vs = v :: r ∧ OwnR c y v a1 ∧ OwnRs cs ys r a2 ∧ as = a1 ++ a2
end
end
section
variable {mg : MG} {S S' H H' : Hp}
mutual
/-- it leans on the shared part and on its own objects -/
theorem OwnR.keep (hs : Sub S S') : ∀ {o : Own} {y : PV} {v : V} {as : List Addr}, OwnR mg S H o y v as → (∀ a ∈ as, ∀ u, H a = some u → H' a = some u) → OwnR mg S' H' o y v as
  | .s, y, v, as, ⟨e, r⟩, _ => ⟨e, r.mono hs⟩
  | .o cs, y, v, as, r, hh => by
    cases y with
    | lst ys =>
      obtain ⟨a, vs, rest, e, q, z, w⟩ := (show ∃ a vs rest, v = .ref a ∧ H a = some (.lst vs) ∧ OwnRs mg S H cs ys vs rest ∧ as = a :: rest from r)
      subst w
      exact ⟨a, vs, rest, e, hh a (by simp) _ q, OwnRs.keep hs z (fun b m => hh b (List.mem_cons_of_mem _ m)), rfl⟩
    | dct kvs =>
      obtain ⟨a, e, w, z⟩ := (show ∃ a, v = .ref a ∧ as = [a] ∧ ((∃ ks, H a = some (.dK ks) ∧ RepK mg S kvs ks) ∨ ∃ ts, H a = some (.dT ts) ∧ RepT mg S kvs ts) from r)
      subst w
      refine ⟨a, e, rfl, ?_⟩
      rcases z with ⟨ks, q, z⟩ | ⟨ks, q, z⟩
      · exact .inl ⟨ks, hh a (by simp) _ q, z.mono hs⟩
      · exact .inr ⟨ks, hh a (by simp) _ q, z.mono hs⟩
    | non => exact ⟨r.1, r.2.mono hs⟩
    | bl b => exact ⟨r.1, r.2.mono hs⟩
    | int b => exact ⟨r.1, r.2.mono hs⟩
    | str b => exact ⟨r.1, r.2.mono hs⟩
    | tup b => exact ⟨r.1, r.2.mono hs⟩
    | ins b c => exact ⟨r.1, r.2.mono hs⟩
    | exc b => exact ⟨r.1, r.2.mono hs⟩
theorem OwnRs.keep (hs : Sub S S') : ∀ {os : List Own} {ys : List PV} {vs : List V} {as : List Addr}, OwnRs mg S H os ys vs as → (∀ a ∈ as, ∀ u, H a = some u → H' a = some u) → OwnRs mg S' H' os ys vs as
  | [], ys, vs, as, ⟨e, r⟩, _ => ⟨e, r.mono hs⟩
  | c :: cs, [], vs, as, r, _ => r
  | c :: cs, y :: ys, vs, as, ⟨v, r, a1, a2, e, q, z, w⟩, hh => by
    subst w
    exact ⟨v, r, a1, a2, e, OwnR.keep hs q (fun a m => hh a (List.mem_append_left _ m)), OwnRs.keep hs z (fun a m => hh a (List.mem_append_right _ m)), rfl⟩
end
theorem OwnR.mono (hs : Sub S S') (hh : Sub H H') {o : Own} {y : PV} {v : V} {as : List Addr} (r : OwnR mg S H o y v as) : OwnR mg S' H' o y v as := r.keep hs fun a _ u e => hh a u e
mutual
/-- what is owned stands in the heap -/
theorem OwnR.there : ∀ {o : Own} {y : PV} {v : V} {as : List Addr}, OwnR mg S H o y v as → ∀ a ∈ as, ∃ u, H a = some u
  | .s, y, v, as, ⟨e, r⟩, a, ha => by subst e; cases ha
  | .o cs, y, v, as, r, a, ha => by
    cases y with
    | lst ys =>
      obtain ⟨b, vs, rest, e, q, z, w⟩ := (show ∃ a vs rest, v = .ref a ∧ H a = some (.lst vs) ∧ OwnRs mg S H cs ys vs rest ∧ as = a :: rest from r)
      subst w
      rcases List.mem_cons.mp ha with rfl | ha
      · exact ⟨_, q⟩
      · exact OwnRs.there z a ha
    | dct kvs =>
      obtain ⟨b, e, w, z⟩ := (show ∃ a, v = .ref a ∧ as = [a] ∧ ((∃ ks, H a = some (.dK ks) ∧ RepK mg S kvs ks) ∨ ∃ ts, H a = some (.dT ts) ∧ RepT mg S kvs ts) from r)
      subst w
      rcases List.mem_cons.mp ha with rfl | ha
      · rcases z with ⟨ks, q, z⟩ | ⟨ks, q, z⟩ <;> exact ⟨_, q⟩
      · cases ha
    | non => rw [r.1] at ha; cases ha
    | bl b => rw [r.1] at ha; cases ha
    | int b => rw [r.1] at ha; cases ha
    | str b => rw [r.1] at ha; cases ha
    | tup b => rw [r.1] at ha; cases ha
    | ins b c => rw [r.1] at ha; cases ha
    | exc b => rw [r.1] at ha; cases ha
theorem OwnRs.there : ∀ {os : List Own} {ys : List PV} {vs : List V} {as : List Addr}, OwnRs mg S H os ys vs as → ∀ a ∈ as, ∃ u, H a = some u
  | [], ys, vs, as, ⟨e, r⟩, a, ha => by subst e; cases ha
  | c :: cs, [], vs, as, r, a, ha => by rw [r.2] at ha; cases ha
  | c :: cs, y :: ys, vs, as, ⟨v, r, a1, a2, e, q, z, w⟩, a, ha => by
    subst w
    rcases List.mem_append.mp ha with h | h
    · exact OwnR.there q a h
    · exact OwnRs.there z a h
end
mutual
/-- giving up: what was owned is shared -/
theorem OwnR.rep (hs : Sub S S') : ∀ {o : Own} {y : PV} {v : V} {as : List Addr}, OwnR mg S H o y v as → (∀ a ∈ as, ∀ u, H a = some u → S' a = some u) → Rep mg S' y v
  | .s, y, v, as, ⟨e, r⟩, _ => r.mono hs
  | .o cs, y, v, as, r, ha => by
    cases y with
    | lst ys =>
      obtain ⟨b, vs, rest, e, q, z, w⟩ := (show ∃ a vs rest, v = .ref a ∧ H a = some (.lst vs) ∧ OwnRs mg S H cs ys vs rest ∧ as = a :: rest from r)
      subst w
      simp only [Rep]
      exact ⟨b, vs, e, .inl (ha b (by simp) _ q), OwnRs.rep hs z fun a m u e => ha a (List.mem_cons_of_mem _ m) u e⟩
    | dct kvs =>
      obtain ⟨b, e, w, z⟩ := (show ∃ a, v = .ref a ∧ as = [a] ∧ ((∃ ks, H a = some (.dK ks) ∧ RepK mg S kvs ks) ∨ ∃ ts, H a = some (.dT ts) ∧ RepT mg S kvs ts) from r)
      subst w
      simp only [Rep]
      refine ⟨b, e, ?_⟩
      rcases z with ⟨ks, q, z⟩ | ⟨ks, q, z⟩
      · exact .inl ⟨ks, .inl (ha b (by simp) _ q), z.mono hs⟩
      · exact .inr ⟨ks, .inl (ha b (by simp) _ q), z.mono hs⟩
    | non => exact r.2.mono hs
    | bl b => exact r.2.mono hs
    | int b => exact r.2.mono hs
    | str b => exact r.2.mono hs
    | tup b => exact r.2.mono hs
    | ins b c => exact r.2.mono hs
    | exc b => exact r.2.mono hs
theorem OwnRs.rep (hs : Sub S S') : ∀ {os : List Own} {ys : List PV} {vs : List V} {as : List Addr}, OwnRs mg S H os ys vs as → (∀ a ∈ as, ∀ u, H a = some u → S' a = some u) → Reps mg S' ys vs
  | [], ys, vs, as, ⟨e, r⟩, _ => r.mono hs
  | c :: cs, [], vs, as, r, _ => r.1
  | c :: cs, y :: ys, vs, as, ⟨v, r, a1, a2, e, q, z, w⟩, ha => by
    subst w
    exact ⟨v, r, e, OwnR.rep hs q fun a m => ha a (List.mem_append_left _ m), OwnRs.rep hs z fun a m => ha a (List.mem_append_right _ m)⟩
end
end
theorem OwnRs.length {mg : MG} {S H : Hp} : ∀ {os : List Own} {ys : List PV} {vs : List V} {as : List Addr}, OwnRs mg S H os ys vs as → ys.length = vs.length
  | [], ys, vs, as, h => Reps.length h.2
  | c :: cs, [], vs, as, h => by rw [h.1]; rfl
  | c :: cs, y :: ys, vs, as, ⟨v, r, a1, a2, e, q, z, w⟩ => by rw [e]; simp [OwnRs.length z]
theorem RepK.length {mg : MG} {S : Hp} : ∀ {ys : List (PV × PV)} {vs : List (Key × V)}, RepK mg S ys vs → ys.length = vs.length
  | [], _, r => by cases (show _ = [] from r); rfl
  | (_, _) :: _, _, ⟨_, _, _, e, _, _, t⟩ => by rw [e]; simp [RepK.length t]
theorem RepT.length {mg : MG} {S : Hp} : ∀ {ys : List (PV × PV)} {vs : List (List Key × V)}, RepT mg S ys vs → ys.length = vs.length
  | [], _, r => by cases (show _ = [] from r); rfl
  | (_, _) :: _, _, ⟨_, _, _, e, _, _, t⟩ => by rw [e]; simp [RepT.length t]
end B

namespace B
open PySem PySem.Spec PyProof.Rows L2

/-! ### the names' values -/
section
variable (mg : MG) (S H : Hp)
def Slot (g : Own) (e : Option PV) (v : Option V) (as : List Addr) : Prop := match e with
  | none => as = []
  | some y => ∃ u, v = some u ∧ OwnR mg S H g y u as
def Slots : List Own → Env → L2.St → List Addr → Prop
  | [], env, σ, as => env = [] ∧ σ = [] ∧ as = []
  | g :: Γ, env, σ, as => ∃ e er v r a1 a2, env = e :: er ∧ σ = v :: r ∧ as = a1 ++ a2 ∧ Slot mg S H g e v a1 ∧ Slots Γ er r a2
end
section
variable {mg : MG} {S S' H H' : Hp}
theorem Slot.keep (hs : Sub S S') {g : Own} {e : Option PV} {v : Option V} {as : List Addr} (h : Slot mg S H g e v as) (hh : ∀ a ∈ as, ∀ u, H a = some u → H' a = some u) : Slot mg S' H' g e v as := by
  cases e with
  | none => exact h
  | some y => obtain ⟨u, e, q⟩ := h; exact ⟨u, e, q.keep hs hh⟩
theorem Slots.keep (hs : Sub S S') : ∀ {Γ : List Own} {env : Env} {σ : L2.St} {as : List Addr}, Slots mg S H Γ env σ as → (∀ a ∈ as, ∀ u, H a = some u → H' a = some u) → Slots mg S' H' Γ env σ as
  | [], _, _, _, h, _ => h
  | g :: Γ, _, _, _, ⟨e, er, v, r, a1, a2, h1, h2, h3, q, t⟩, hh => ⟨e, er, v, r, a1, a2, h1, h2, h3, q.keep hs (fun a m => hh a (by rw [h3]; exact List.mem_append_left _ m)), Slots.keep hs t (fun a m => hh a (by rw [h3]; exact List.mem_append_right _ m))⟩
theorem Slot.there {g : Own} {e : Option PV} {v : Option V} {as : List Addr} (h : Slot mg S H g e v as) : ∀ a ∈ as, ∃ u, H a = some u := by
  cases e with
  | none => intro a ha; rw [show as = [] from h] at ha; cases ha
  | some y => obtain ⟨u, e, q⟩ := h; exact q.there
theorem Slots.there : ∀ {Γ : List Own} {env : Env} {σ : L2.St} {as : List Addr}, Slots mg S H Γ env σ as → ∀ a ∈ as, ∃ u, H a = some u
  | [], _, _, _, h, a, ha => by rw [h.2.2] at ha; cases ha
  | g :: Γ, _, _, _, ⟨e, er, v, r, a1, a2, h1, h2, h3, q, t⟩, a, ha => by
    rw [h3] at ha
    rcases List.mem_append.mp ha with z | z
    · exact q.there a z
    · exact Slots.there t a z
theorem Slots.len : ∀ {Γ : List Own} {env : Env} {σ : L2.St} {as : List Addr}, Slots mg S H Γ env σ as → env.length = Γ.length ∧ σ.length = Γ.length
  | [], _, _, _, h => by rw [h.1, h.2.1]; exact ⟨rfl, rfl⟩
  | g :: Γ, _, _, _, ⟨e, er, v, r, a1, a2, h1, h2, h3, q, t⟩ => by
    obtain ⟨l1, l2⟩ := Slots.len t
    rw [h1, h2]
    exact ⟨by simp [l1], by simp [l2]⟩
/-- the slot at i, and what another one at its place makes -/
theorem Slots.at : ∀ {Γ : List Own} {env : Env} {σ : L2.St} {as : List Addr} {i : Nat} {g : Own}, Slots mg S H Γ env σ as → Γ[i]? = some g →
    ∃ e v l1 ai l2, env[i]? = some e ∧ σ[i]? = some v ∧ as = l1 ++ ai ++ l2 ∧ Slot mg S H g e v ai ∧
      (∀ (S' H' : Hp) (g' : Own) (e' : Option PV) (v' : Option V) (ai' : List Addr), Sub S S' → (∀ a ∈ l1 ++ l2, ∀ u, H a = some u → H' a = some u) → Slot mg S' H' g' e' v' ai' → Slots mg S' H' (Γ.set i g') (env.set i e') (σ.set i v') (l1 ++ ai' ++ l2))
  | [], _, _, _, _, _, _, h => by simp at h
  | g0 :: Γ, _, _, _, 0, g, ⟨e, er, v, r, a1, a2, h1, h2, h3, q, t⟩, h => by
    simp at h; subst h
    refine ⟨e, v, [], a1, a2, by rw [h1]; rfl, by rw [h2]; rfl, by simpa using h3, q, fun S' H' g' e' v' ai' hs hh q' => ?_⟩
    rw [h1, h2]
    exact ⟨e', er, v', r, ai', a2, rfl, rfl, by simp, q', Slots.keep hs t (fun a m u z => hh a (by simpa using m) u z)⟩
  | g0 :: Γ, _, _, _, i + 1, g, ⟨e, er, v, r, a1, a2, h1, h2, h3, q, t⟩, h => by
    obtain ⟨e2, v2, l1, ai, l2, k1, k2, k3, k4, k5⟩ := Slots.at (i := i) t (by simpa using h)
    refine ⟨e2, v2, a1 ++ l1, ai, l2, by rw [h1]; simpa using k1, by rw [h2]; simpa using k2, by rw [h3, k3]; simp, k4, fun S' H' g' e' v' ai' hs hh q' => ?_⟩
    rw [h1, h2]
    refine ⟨e, er.set i e', v, r.set i v', a1, l1 ++ ai' ++ l2, rfl, rfl, by simp, ?_, k5 S' H' g' e' v' ai' hs (fun a m u z => hh a (by rw [List.append_assoc]; exact List.mem_append_right _ m) u z) q'⟩
    exact Slot.keep hs q (fun a m u z => hh a (by rw [List.append_assoc]; exact List.mem_append_left _ m) u z)
/-- Γ' has given up some of what Γ owns -/
inductive LeO : List Own → List Own → Prop where
  | nil : LeO [] []
  | same {g : Own} {Γ' Γ : List Own} : LeO Γ' Γ → LeO (g :: Γ') (g :: Γ)
  | drop {g : Own} {Γ' Γ : List Own} : LeO Γ' Γ → LeO (.s :: Γ') (g :: Γ)
theorem LeO.refl : ∀ (Γ : List Own), LeO Γ Γ
  | [] => .nil
  | g :: Γ => .same (LeO.refl Γ)
theorem Slots.weak : ∀ {Γ' Γ : List Own} {env : Env} {σ : L2.St} {as : List Addr}, LeO Γ' Γ → Slots mg S H Γ env σ as → as.Nodup →
    ∃ ks ds : List Addr, ks.Nodup ∧ (∀ a ∈ ks, a ∈ as ∧ a ∉ ds) ∧ (∀ a ∈ ds, a ∈ as) ∧ ∀ S', Sub S S' → (∀ a ∈ ds, ∀ u, H a = some u → S' a = some u) → Slots mg S' H Γ' env σ ks
  | [], [], _, _, _, .nil, h, _ => ⟨[], [], List.nodup_nil, (fun a m => by cases m), (fun a m => by cases m), fun S' _ _ => ⟨h.1, h.2.1, rfl⟩⟩
  | g :: Γ', _ :: Γ, _, _, _, .same l, ⟨e, er, v, r, a1, a2, h1, h2, h3, q, t⟩, nd => by
    subst h3
    obtain ⟨n1, n2, n3⟩ := List.nodup_append.mp nd
    obtain ⟨ks, ds, k1, k2, k3, k4⟩ := Slots.weak l t n2
    refine ⟨a1 ++ ks, ds, List.nodup_append.mpr ⟨n1, k1, fun a m b m' => n3 a m b (k2 b m').1⟩, fun a m => ?_, fun a m => List.mem_append_right _ (k3 a m), fun S' hs hd => ⟨e, er, v, r, a1, ks, h1, h2, rfl, q.keep hs fun _ _ _ z => z, k4 S' hs hd⟩⟩
    rcases List.mem_append.mp m with z | z
    · exact ⟨List.mem_append_left _ z, fun y => n3 a z a (k3 a y) rfl⟩
    · exact ⟨List.mem_append_right _ (k2 a z).1, (k2 a z).2⟩
  | _ :: Γ', g :: Γ, _, _, _, .drop l, ⟨e, er, v, r, a1, a2, h1, h2, h3, q, t⟩, nd => by
    subst h3
    obtain ⟨n1, n2, n3⟩ := List.nodup_append.mp nd
    obtain ⟨ks, ds, k1, k2, k3, k4⟩ := Slots.weak l t n2
    refine ⟨ks, a1 ++ ds, k1, fun a m => ⟨List.mem_append_right _ (k2 a m).1, fun y => ?_⟩, fun a m => ?_, fun S' hs hd => ⟨e, er, v, r, [], ks, h1, h2, rfl, ?_, k4 S' hs fun a m => hd a (List.mem_append_right _ m)⟩⟩
    · rcases List.mem_append.mp y with z | z
      · exact n3 a z a (k2 a m).1 rfl
      · exact (k2 a m).2 z
    · rcases List.mem_append.mp m with z | z
      · exact List.mem_append_left _ z
      · exact List.mem_append_right _ (k3 a z)
    · cases e with
      | none => rfl
      | some y =>
        obtain ⟨u, eu, z⟩ := q
        exact ⟨u, eu, rfl, z.rep hs fun a m => hd a (List.mem_append_left _ m)⟩

/-- the state: grown from the entry (S₀, H₀); the names own what is neither shared nor of the entry -/
structure Rel (mg : MG) (S₀ H₀ : Hp) (Γ : List Own) (env : Env) (σ : L2.St) (S H : Hp) : Prop where
  ext : Ext S₀ H₀ S H
  own : ∃ as, Slots mg S H Γ env σ as ∧ as.Nodup ∧ ∀ a ∈ as, S a = none ∧ H₀ a = none
variable {S₀ H₀ : Hp} {Γ Γ' : List Own} {env : Env} {σ : L2.St}
theorem Rel.grow (r : Rel mg S₀ H₀ Γ env σ S H) (x : Ext S H S' H') : Rel mg S₀ H₀ Γ env σ S' H' := by
  obtain ⟨as, sl, nd, fr⟩ := r.own
  refine ⟨r.ext.trans x, as, sl.keep x.s fun a _ u e => x.h a u e, nd, fun a m => ⟨?_, (fr a m).2⟩⟩
  cases q : S' a with
  | none => rfl
  | some o =>
    rcases x.n a o q with z | z
    · rw [(fr a m).1] at z; cases z
    · obtain ⟨u, hu⟩ := sl.there a m
      rw [z] at hu; cases hu
theorem Rel.weak (r : Rel mg S₀ H₀ Γ env σ S H) (l : LeO Γ' Γ) : ∃ S', Sub S S' ∧ Rel mg S₀ H₀ Γ' env σ S' H := by
  obtain ⟨as, sl, nd, fr⟩ := r.own
  obtain ⟨ks, ds, k1, k2, k3, k4⟩ := sl.weak l nd
  refine ⟨fun a => if a ∈ ds then H a else S a, fun a o e => ?_, ⟨r.ext.h, fun a o e => ?_, fun a o e => ?_, fun a o e => ?_⟩, ks, k4 _ (fun a o e => ?_) (fun a m u e => ?_), k1, fun a m => ⟨?_, (fr a (k2 a m).1).2⟩⟩
  · show (if a ∈ ds then H a else S a) = some o
    split
    · exact r.ext.sh a o e
    · exact e
  · have e := r.ext.s a o e
    show (if a ∈ ds then H a else S a) = some o
    split
    · exact r.ext.sh a o e
    · exact e
  · have e : (if a ∈ ds then H a else S a) = some o := e
    split at e
    · exact e
    · exact r.ext.sh a o e
  · have e : (if a ∈ ds then H a else S a) = some o := e
    split at e
    · rename_i h
      exact .inr (fr a (k3 a h)).2
    · exact r.ext.n a o e
  · show (if a ∈ ds then H a else S a) = some o
    split
    · exact r.ext.sh a o e
    · exact e
  · show (if a ∈ ds then H a else S a) = some u
    rw [if_pos m]; exact e
  · show (if a ∈ ds then H a else S a) = none
    rw [if_neg (k2 a m).2]
    exact (fr a (k2 a m).1).1
/-- a name's value is shared -/
theorem Rel.shared (r : Rel mg S₀ H₀ Γ env σ S H) {i : Nat} {y : PV} (hg : Γ[i]? = some .s) (he : env[i]? = some (some y)) : ∃ v, σ[i]? = some (some v) ∧ Rep mg S y v := by
  obtain ⟨as, sl, _, _⟩ := r.own
  obtain ⟨e, v, l1, ai, l2, k1, k2, _, k4, _⟩ := sl.at hg
  rw [he] at k1
  cases k1
  obtain ⟨u, rfl, _, q⟩ := k4
  exact ⟨u, k2, q⟩
/-- a name is stored -/
theorem Rel.store (r : Rel mg S₀ H₀ Γ env σ S H) (x : Ext S H S' H') {i : Nat} {g g' : Own} (hg : Γ[i]? = some g) {y : PV} {v : V} {as : List Addr} (q : OwnR mg S' H' g' y v as) (nd : as.Nodup) (fr : ∀ a ∈ as, H a = none ∧ S' a = none) :
    Rel mg S₀ H₀ (Γ.set i g') (env.set i (some y)) (σ.set i (some v)) S' H' := by
  obtain ⟨es, sl0, ne, fe⟩ := r.own
  have sl : Slots mg S' H' Γ env σ es := sl0.keep x.s fun a _ u e => x.h a u e
  have old : ∀ a ∈ es, ∃ u, H a = some u := sl0.there
  have oldS : ∀ a ∈ es, S' a = none := fun a m => by
    cases z : S' a with
    | none => rfl
    | some o =>
      rcases x.n a o z with w | w
      · rw [(fe a m).1] at w; cases w
      · obtain ⟨u, hu⟩ := old a m
        rw [w] at hu; cases hu
  obtain ⟨e, w, l1, ai, l2, k1, k2, k3, k4, k5⟩ := sl.at hg
  have apart : ∀ a ∈ as, a ∉ es := fun a m z => by
    obtain ⟨u, hu⟩ := old a z
    rw [(fr a m).1] at hu; cases hu
  refine ⟨r.ext.trans x, l1 ++ as ++ l2, k5 S' H' g' (some y) (some v) as Sub.refl (fun a _ u e => e) ⟨v, rfl, q⟩, ?_, fun a m => ?_⟩
  · rw [k3] at ne
    obtain ⟨n1, n2, n3⟩ := List.nodup_append.mp ne
    obtain ⟨n4, n5, n6⟩ := List.nodup_append.mp n1
    refine List.nodup_append.mpr ⟨List.nodup_append.mpr ⟨n4, nd, fun a m b m' z => apart b m' ?_⟩, n2, fun a m b m' z => ?_⟩
    · rw [← z, k3]; simp [m]
    · rcases List.mem_append.mp m with h | h
      · exact n3 a (List.mem_append_left _ h) b m' z
      · exact apart a h (by rw [z, k3]; simp [m'])
  · have h : a ∈ as ∨ a ∈ es := by
      rw [k3]
      simp only [List.mem_append] at m ⊢
      rcases m with (m | m) | m
      · exact .inr (.inl (.inl m))
      · exact .inl m
      · exact .inr (.inr m)
    rcases h with h | h
    · exact ⟨(fr a h).2, r.ext.h.none (fr a h).1⟩
    · exact ⟨oldS a h, (fe a h).2⟩
end
end B

namespace B
open PySem PySem.Spec PyProof.Rows L2

/-! ### an exception that flies through the frames -/
/-- it is traced; fl: the mark of its flight -/
def FlAt (B : Heap) (l : List PySem.Env) (e : Addr) (cls a0 fl : Value) (h : Heap) : Prop :=
  B.StaysIn h ∧ B.get? e = none ∧ h.FunFrames B l ∧ h.TracedAtW B e cls a0 fl
structure FlyAt (P : Program) (w : World) (l : List PySem.Env) (H0 : Hp) (s0 : Shared) (H' : Hp) (C ea : Addr) (fl : Value) (s' : Shared) : Prop where
  os : s'.os = s0.os
  bare : AllBare s'.gens
  un : Un (frs l) [] H0 H' s0.heap s'.heap
  hok : HOk P w H' s'.heap
  fly : ∃ B a0, FlAt B l ea (.ref C) a0 fl s'.heap ∧ (∀ b o u, s'.heap.get? b = some o → H' b = some u → B.get? b = some o) ∧
    (∀ b o o', s0.heap.get? b = some o → s'.heap.get? b = some o' → b ∉ frs l → B.get? b = some o')
/-- what holds of an exception that leaves a call -/
def CXB (P : Program) (w : World) : CXT := fun outer H s E e s' => ∃ ea C H', e = .ref ea ∧ FlyAt P w outer H s H' C ea .none s' ∧ E (.ref C) none H'
/-- an exception in X's frame: it flies there (marked or not), or it has just been made there -/
def Thr (X : Cx) (σ : L2.St) (c : Str) (H' : Hp) (e : Value) (s' : Shared) : Prop :=
  ∃ ea C, e = .ref ea ∧ X.mg c = some (.ref C) ∧ ∃ pins Hc sc, Inv X pins σ Hc sc ∧ ((∃ fl, (fl = .none ∨ fl = rawInt X.env.locals) ∧ FlyAt X.prog X.w X.stack Hc sc H' C ea fl s') ∨
    (H' = Hc ∧ s'.os = sc.os ∧ AllBare s'.gens ∧ ∃ vs, Heap.MadeExcOf sc.heap s'.heap ea (.ref C) vs))
/-- it is held in X's frame -/
def Hld (X : Cx) (fl : Value) (σ : L2.St) (c : Str) (H' : Hp) (e : Value) (s' : Shared) : Prop :=
  ∃ ea C, e = .ref ea ∧ X.mg c = some (.ref C) ∧ ∃ pins Hc sc, Inv X pins σ Hc sc ∧ FlyAt X.prog X.w X.stack Hc sc H' C ea fl s'
section
variable {P : Program} {w : World} {H H' H0 : Hp} {h h' B : Heap} {l l' : List PySem.Env} {s0 s' : Shared} {C ea : Addr}
theorem HOk.stays (x : HOk P w H h) (k : ∀ b o u, h.get? b = some o → H b = some u → h'.get? b = some o) : HOk P w H h' := fun a o e => by
  refine (x a o e).stay (fun b u hb q => ?_) (fun _ q => q) fun _ _ q => q
  rcases hb with rfl | hb
  · exact k _ u o q e
  · exact k b u _ q hb
end
theorem ObjOk.there {P : Program} {w : World} {H : Hp} {h : Heap} {a : Addr} : ∀ {o : HO}, ObjOk P w H h a o → ∃ ob, h.get? a = some ob
  | .lst xs, x => let ⟨_, _, _, _, e⟩ := x; ⟨_, e⟩
  | .tup xs, x => let ⟨_, _, _, ob, e, _⟩ := x; ⟨ob, e⟩
  | .dK kvs, x => let ⟨_, _, _, _, o, _, _, e, _⟩ := x; ⟨o, e⟩
  | .dT kvs, x => let ⟨_, _, _, _, o, _, _, e, _⟩ := x; ⟨o, e⟩
  | .set S n, x => let ⟨o, _, _, _, e, _⟩ := x; ⟨o, e⟩
  | .ins C dx fs, x => let ⟨_, _, _, e, _⟩ := x; ⟨_, e⟩
  | .own y, x => x
  | .xd fs, x => let ⟨_, ⟨o, _, _, e, _⟩, _⟩ := x; ⟨o, e⟩
  | .rng lo hi, x => let ⟨_, _, _, e⟩ := x; ⟨_, e⟩
  | .frz ob u, x => ⟨ob, x.1⟩
  | .tbl ps, x => ⟨_, x⟩
  | .met f y, x => ⟨_, x⟩
  | .ext φ, x => x.2.1
theorem frs_cons {env : PySem.Env} {l : List PySem.Env} {L : Addr} (h : env.frame = some L) : frs (env :: l) = L :: frs l := by
  unfold frs
  rw [List.filterMap_cons, h]
/-- the heap changes at records and slots alone -/
theorem FlyAt.step {P : Program} {w : World} {l : List PySem.Env} {H0 H' : Hp} {s0 s' : Shared} {C ea : Addr} {fl fl' a0 : Value} {B h'' : Heap} (F : FlyAt P w l H0 s0 H' C ea fl s')
    (f0 : FlAt B l ea (.ref C) a0 fl s'.heap) (k1 : ∀ b o u, s'.heap.get? b = some o → H' b = some u → B.get? b = some o) (k2 : ∀ b o o', s0.heap.get? b = some o → s'.heap.get? b = some o' → b ∉ frs l → B.get? b = some o')
    (f1 : FlAt B l ea (.ref C) a0 fl' h'') (up : s'.heap.UpToSlots h'') : FlyAt P w l H0 s0 H' C ea fl' { s' with heap := h'' } := by
  have nf : ∀ b o, b ∈ frs l → s'.heap.get? b = some o → ∀ vs, o.data ≠ .fields vs := fun b o hb q vs z => by
    obtain ⟨_, o', ho', hd⟩ := f0.2.2.1.mem hb
    rw [q] at ho'
    cases ho'
    exact hd vs z
  have thr : ∀ b o, s0.heap.get? b = some o → ∃ o', h''.get? b = some o' := fun b o q => by
    obtain ⟨o2, e2⟩ := F.un.there b o q (by simp)
    by_cases hb : b ∈ frs l
    · obtain ⟨sl, e3⟩ := up b o2 e2 (nf b o2 hb e2)
      exact ⟨_, e3⟩
    · exact ⟨o2, f1.1 b o2 (k2 b o o2 q e2 hb)⟩
  refine ⟨F.os, F.bare, ⟨fun b o q n hb _ => ?_, fun b o q n hb _ => ?_, F.un.free, fun b o q _ => thr b o q, F.un.tups, F.un.frzs, F.un.tbls⟩, ?_, B, a0, f1, fun b o u q t => ?_, fun b o o' q q' hb => ?_⟩
  · exact f1.1 b o (k2 b o o q (F.un.keep b o q n hb (by simp)) hb)
  · obtain ⟨sl, e⟩ := F.un.slot b o q n hb (by simp)
    obtain ⟨sl2, e2⟩ := up b _ e (nf b _ hb e)
    exact ⟨sl2, e2⟩
  · exact HOk.stays F.hok fun b o u q t => f1.1 b o (k1 b o u q t)
  · obtain ⟨ob, hob⟩ := ObjOk.there (F.hok b u t)
    have z := f1.1 b ob (k1 b ob u hob t)
    rw [show h''.get? b = some o from q] at z
    cases z
    exact k1 b o u hob t
  · obtain ⟨o2, e2⟩ := F.un.there b o q (by simp)
    have z := k2 b o o2 q e2 hb
    have z2 := f1.1 b o2 z
    rw [show h''.get? b = some o' from q'] at z2
    cases z2
    exact z
/-- the flight's mark is set -/
theorem setFl {M : Model} {A : Around} {E : Value → Shared → Prop} {s : Shared} {B : Heap} {l : List PySem.Env} {e : Addr} {cls a0 fl : Value} {m : Option Addr} {Q : Unit → Shared → Prop} (R : FlAt B l e cls a0 fl s.heap)
    (h : ∀ h', FlAt B l e cls a0 (m.elim Value.none fun f => rawInt f) h' → s.heap.UpToSlots h' → Q () { s with heap := h' }) : wpAny M A (setFlight (.ref e) m) Q E s := by
  obtain ⟨hkb, hen, hl, oe, vs, T, oT, ts, he, hcls, hd, h1, hnT, hTe, hT, hdT, h3⟩ := R
  have hsz3 : 3 < ts.size := (Array.getElem?_eq_some_iff.mp h3).1
  have other : ∀ b, b ≠ T → (s.heap.update T (Obj.mapFields (·.setIfInBounds 3 (m.elim Value.none fun f => rawInt f)))).get? b = s.heap.get? b :=
    fun b hb => Heap.get?_update_other _ _ (Ne.symm hb)
  have noRecord : ∀ b o, s.heap.get? b = some o → (∀ vs, o.data ≠ .fields vs) → b ≠ T := fun b o hb hnf q => by
    rw [q, hT] at hb; injection hb with hb; subst hb; exact hnf ts hdT
  unfold setFlight
  refine wpAny_bind (wpAny_field he hd h1 ?_)
  rw [if_pos (show (Value.ref T != Value.none) = true from by simp)]
  refine wpAny_setField hT hdT hsz3 (h _ ⟨fun b o hbo => (other b fun q => by rw [q, hnT] at hbo; cases hbo).trans (hkb b o hbo), hen,
    hl.of_keeps fun b o hb hnf => ⟨o, (other b (noRecord b o hb hnf)).trans hb, rfl⟩, ?_⟩ fun b o hb hnf => ⟨o.slots, (other b (noRecord b o hb hnf)).trans hb⟩)
  exact ⟨oe, vs, T, _, _, (other e (Ne.symm hTe)).trans he, hcls, hd, h1, hnT, hTe, Heap.get?_update_self _ hT (Obj.isFreed_of_fields (Obj.data_mapFields hdT _)), Obj.data_mapFields hdT _, by simp [hsz3]⟩
section
variable {X : Cx} {σ : L2.St} {c : Str} {H' : Hp} {e : Value} {s' : Shared}
/-- it is noted in the frame -/
theorem holdB (hs : X.stack = X.env :: X.outer) (hfr : X.env.frame = some X.env.locals) (T : Thr X σ c H' e s') {E' : Value → Shared → Prop} {A : Around} (hA : A.frames = X.A.frames) {M : Model} :
    wpAny M A (noteFrame e X.env) (fun _ s'' => Hld X (rawInt X.env.locals) σ c H' e s'') E' s' := by
  obtain ⟨ea, C, rfl, hc, pins, Hc, sc, I, T⟩ := T
  have frX : A.frames = some (X.env :: X.outer) := by rw [hA, I.ok.frames, hs]
  rcases T with ⟨fl, hfl, F⟩ | ⟨eH, os, bare, vs, Md⟩
  · obtain ⟨B, a0, f, k1, k2⟩ := F.fly
    rcases hfl with rfl | rfl
    · have f' := f
      rw [hs] at f'
      refine wpAny_noteFrame_onW (base := B) frX f'.2.2.1 hfr f'.2.2.2 f'.1 f'.2.1 fun h'' N => ?_
      obtain ⟨n1, n2, n3, n4⟩ := N
      refine ⟨ea, C, rfl, hc, pins, Hc, sc, I, F.step f k1 k2 ⟨n1, f'.2.1, ?_, n3⟩ n4⟩
      rw [hs]; exact n2
    · exact wpAny_noteFrame_againW hfr f.2.2.2 ⟨ea, C, rfl, hc, pins, Hc, sc, I, F⟩
  · obtain ⟨t, he, htn, ht⟩ := Md.there
    have hl : sc.heap.FunFrames (PySem.W.hideAll sc.heap (frs X.stack)) (X.env :: X.outer) := by
      rw [← hs]
      exact PySem.W.funFrames_hide I.stack fun env he a ha => List.mem_filterMap.mpr ⟨env, he, ha⟩
    have fresh : ∀ b, sc.heap.get? b = none → (PySem.W.hideAll sc.heap (frs X.stack)).get? b = none := fun b hb => by
      cases hq : (PySem.W.hideAll sc.heap (frs X.stack)).get? b with
      | none => rfl
      | some o' => have := PySem.W.of_hideAll _ hq; rw [hb] at this; cases this
    have hl' : s'.heap.FunFrames (PySem.W.hideAll sc.heap (frs X.stack)) (X.env :: X.outer) := hl.of_keeps fun b o hb _ => ⟨o, Md.keeps b o hb, rfl⟩
    have hkb : (PySem.W.hideAll sc.heap (frs X.stack)).StaysIn s'.heap := fun b o hb => Md.keeps b o (PySem.W.of_hideAll _ hb)
    unfold noteFrame
    simp only [hfr]
    refine wpAny_bind (wpAny_field he rfl (x := .none) rfl ?_)
    rw [if_neg (by decide)]
    refine wpAny_entryW (base := PySem.W.hideAll sc.heap (frs X.stack)) (a0 := .ref t) frX hl' hfr he hkb (fresh ea Md.new) rfl (show 1 < 6 by decide) rfl fun h'' N => ?_
    obtain ⟨n1, n2, n3, n4⟩ := N
    subst eH
    have trfr : ∀ b u, H' b = some u → b ∉ frs X.stack := fun b u t z => by rw [I.stkFree b z] at t; cases t
    have up : sc.heap.UpToSlots h'' := (Heap.UpToSlots.of_keeps Md.keeps).trans n4
    have keepB : ∀ b o, sc.heap.get? b = some o → b ∉ frs X.stack → h''.get? b = some o := fun b o q n => n1 b o (PySem.W.hideAll_get _ q n)
    have nf : ∀ b o, b ∈ frs X.stack → sc.heap.get? b = some o → ∀ vs, o.data ≠ .fields vs := fun b o hb q vs z => by
      rw [hs] at hb
      obtain ⟨_, o', ho', hd⟩ := hl.mem hb
      rw [q] at ho'
      cases ho'
      exact hd vs z
    refine ⟨ea, C, rfl, hc, pins, H', sc, I, os, bare, ⟨fun b o q n hb _ => keepB b o q hb, fun b o q n hb _ => up b o q (nf b o hb q), fun b o q n _ => n, fun b o q _ => ?_, fun _ _ q => q, fun _ _ _ q => q, fun b ps q => ⟨#[], by rw [q]; simp⟩⟩, ?_, PySem.W.hideAll sc.heap (frs X.stack), .ref t, ⟨n1, fresh ea Md.new, ?_, n3⟩, fun b o u q t => ?_, fun b o o' q q' hb => ?_⟩
    · by_cases hb : b ∈ frs X.stack
      · obtain ⟨sl, z⟩ := up b o q (nf b o hb q)
        exact ⟨_, z⟩
      · exact ⟨o, keepB b o q hb⟩
    · exact HOk.stays I.hok fun b o u q t => keepB b o q (trfr b u t)
    · exact (congrArg (fun l => h''.FunFrames (PySem.W.hideAll sc.heap (frs X.stack)) l) hs).mpr n2
    · obtain ⟨ob, hob⟩ := ObjOk.there (I.hok b u t)
      have z := keepB b ob hob (trfr b u t)
      rw [show h''.get? b = some o from q] at z
      cases z
      exact PySem.W.hideAll_get _ hob (trfr b u t)
    · have z := keepB b o q hb
      rw [show h''.get? b = some o' from q'] at z
      cases z
      exact PySem.W.hideAll_get _ q hb
theorem Hld.set {fl : Value} {m : Option Addr} (T : Hld X fl σ c H' e s') {E' : Value → Shared → Prop} {A : Around} {M : Model} : wpAny M A (setFlight e m) (fun _ s'' => Hld X (m.elim Value.none fun f => rawInt f) σ c H' e s'') E' s' := by
  obtain ⟨ea, C, rfl, hc, pins, Hc, sc, I, F⟩ := T
  obtain ⟨B, a0, f, k1, k2⟩ := F.fly
  exact setFl f fun h'' f1 up => ⟨ea, C, rfl, hc, pins, Hc, sc, I, F.step f k1 k2 f1 up⟩
theorem Hld.traced {fl : Value} (T : Hld X fl σ c H' e s') : ∃ ea oe vs T, e = .ref ea ∧ s'.heap.get? ea = some oe ∧ oe.data = .fields vs ∧ vs[1]? = some (.ref T) := by
  obtain ⟨ea, C, rfl, hc, pins, Hc, sc, I, F⟩ := T
  obtain ⟨B, a0, ⟨_, _, _, oe, vs, T, _, _, h1, _, h2, h3, _⟩, k1, k2⟩ := F.fly
  exact ⟨ea, oe, vs, T, rfl, h1, h2, h3⟩
/-- it passes the loops of its own frame -/
theorem pasB (hs : X.stack = X.env :: X.outer) (hfr : X.env.frame = some X.env.locals) (W : Str → L2.St → Hp → Prop) :
    PassesOwn (model X.prog X.w) X.A X.env (fun e s' => ∃ c σ H, Thr X σ c H e s' ∧ W c σ H) := fun e s' ⟨c, σ, H, T, q⟩ => by
  refine wpAny_mono (holdB hs hfr T rfl (E' := fun _ _ => False)) (fun _ s1 T1 => ?_) fun _ _ z => z.elim
  obtain ⟨ea, oe, vs, T', rfl, h1, h2, h3⟩ := T1.traced
  unfold cameBackBy
  refine wpAny_bind (wpAny_field h1 h2 h3 ?_)
  rw [if_neg (show ¬ ((Value.ref T' == Value.none) = true) from by simp)]
  have st : wpAny (model X.prog X.w) X.A (setFlight (.ref ea) X.env.frame) (fun _ s'' => ∃ c σ H, Thr X σ c H (.ref ea) s'' ∧ W c σ H) (fun e s' => ∃ c σ H, Thr X σ c H e s' ∧ W c σ H) s1 := by
    rw [hfr]
    refine wpAny_mono (T1.set (m := some X.env.locals) (E' := fun _ _ => False)) (fun _ s2 T2 => ?_) fun _ _ z => z.elim
    obtain ⟨ea', C, e', hc, pins, Hc, sc, I, F⟩ := T2
    exact ⟨c, σ, H, ⟨ea', C, e', hc, pins, Hc, sc, I, .inl ⟨_, .inr rfl, F⟩⟩, q⟩
  first
    | exact st
    | exact wpAny_bind (wpAny_pure st)
/-- it leaves the frame -/
theorem leaveB (hs : X.stack = X.env :: X.outer) (hfr : X.env.frame = some X.env.locals) (hex : X.ex = []) (T : Thr X σ c H' e s') {E' : Value → Shared → Prop} :
    wpAny (model X.prog X.w) X.A (leaving X.env e) (fun _ s'' => ∃ ea C, e = .ref ea ∧ X.mg c = some (.ref C) ∧ FlyAt X.prog X.w X.outer X.H₀ X.s₀ H' C ea .none s'') E' s' := by
  unfold leaving
  refine wpAny_bind (wpAny_mono (holdB hs hfr T rfl) (fun _ s1 T1 => ?_) fun _ _ z => z)
  refine wpAny_mono (T1.set (m := none)) (fun _ s2 T2 => ?_) fun _ _ z => z
  obtain ⟨ea, C, rfl, hc, pins, Hc, sc, I, F⟩ := T2
  refine ⟨ea, C, rfl, hc, ?_⟩
  obtain ⟨B, a0, fl, k1, k2⟩ := F.fly
  have fsX : frs X.stack = X.env.locals :: X.fs := by rw [hs]; exact frs_cons hfr
  have base := I.base
  rw [hex] at base
  have old : ∀ b o, X.s₀.heap.get? b = some o → b ≠ X.env.locals := fun b o q => Nat.ne_of_lt (Nat.lt_of_lt_of_le (Heap.lt_size q) I.ok.above)
  have nofr : ∀ b, b ≠ X.env.locals → b ∉ X.fs → b ∉ frs X.stack := fun b h1 h2 z => by
    rw [fsX] at z
    rcases List.mem_cons.mp z with z | z
    · exact h1 z
    · exact h2 z
  refine ⟨F.os.trans I.os, F.bare, ⟨fun b o q n hb _ => ?_, fun b o q n hb _ => ?_, fun b o q n _ => ?_, fun b o q _ => ?_, fun b xs q => F.un.tups b xs (base.tups b xs q), fun b o u q => F.un.frzs b o u (base.frzs b o u q), fun b ps q => ?_⟩, F.hok, B, a0, ⟨fl.1, fl.2.1, ?_, fl.2.2.2⟩, k1, fun b o o' q q' hb => ?_⟩
  · exact F.un.keep b o (base.keep b o q n hb (by simp)) (base.free b o q n (by simp)) (nofr b (old b o q) hb) (by simp)
  · obtain ⟨sl, e1⟩ := base.slot b o q n hb (by simp)
    obtain ⟨sl', e2⟩ := F.un.slot b _ e1 (base.free b o q n (by simp)) (by rw [fsX]; exact List.mem_cons_of_mem _ hb) (by simp)
    exact ⟨sl', e2⟩
  · obtain ⟨o1, e1⟩ := base.there b o q (by simp)
    exact F.un.free b o1 e1 (base.free b o q n (by simp)) (by simp)
  · obtain ⟨o1, e1⟩ := base.there b o q (by simp)
    exact F.un.there b o1 e1 (by simp)
  · obtain ⟨m1, e1⟩ := base.tbls b ps q
    obtain ⟨m2, e2⟩ := F.un.tbls b _ e1
    exact ⟨m1 ++ m2, by rw [e2, Array.append_assoc]⟩
  · have z := fl.2.2.1
    rw [hs] at z
    exact z.2.2
  · obtain ⟨o1, e1⟩ := base.there b o q (by simp)
    exact k2 b o1 o' e1 q' (nofr b (old b o q) hb)
end
end B

namespace B
open PySem PySem.Spec PyProof.Rows L2

/-! ### the judgements -/
abbrev WK := Str → L2.St → Hp → Prop
def XB (X : Cx) (W : WK) : Cx := X.wish fun e s' => ∃ c σ H, Thr X σ c H e s' ∧ W c σ H
/-- what a value that has come may be -/
def Good (mg : MG) (S H : Hp) (o : Own) (y : PV) (Q : VK) : Prop :=
  ∀ v H' S' as, Ext S H S' H' → OwnR mg S' H' o y v as → as.Nodup → (∀ a ∈ as, H a = none ∧ S' a = none) → Q v H'
def Err (S H : Hp) (W : Hp → Prop) : Prop := ∀ H' S', Ext S H S' H' → W H'
def tB (X : Cx) (Γ : List Own) (o : Own) (f : Ev) (W : WK) : TE := fun σ H Q => ∃ S₀ H₀ env S, Rel X.mg S₀ H₀ Γ env σ S H ∧ (match f env with
  | .ok y => Good X.mg S H o y Q
  | .err c => Err S H (W c σ)
  | .no => False)
structure PEB (X : Cx) (Γ : List Own) (e : Expr) (o : Own) (f : Ev) : Prop where mk ::
  run : ∀ W, PE (XB X W) e (tB X Γ o f W)
instance {X : Cx} {Γ : List Own} {e : Expr} {o : Own} {f : Ev} : CoeFun (PEB X Γ e o f) fun _ => ∀ W, PE (XB X W) e (tB X Γ o f W) := ⟨PEB.run⟩
theorem pimp {X : Cx} {e : Expr} {t t' : TE} (h : PE X e t) (i : ∀ σ H Q, t' σ H Q → t σ H Q) : PE X e t' := fun pins s σ H Q I q => h pins s σ H Q I (i σ H Q q)
section
variable {X : Cx} {Γ : List Own} {a b c e : Expr} {fa fb fc f : Ev} {pos : Pos}
theorem Good.sh {mg : MG} {S H : Hp} {y : PV} {Q : VK} (g : Good mg S H .s y Q) {v : V} {H' S' : Hp} (x : Ext S H S' H') (r : Rep mg S' y v) : Q v H' :=
  g v H' S' [] x ⟨rfl, r⟩ List.nodup_nil (fun a m => by cases m)
theorem Good.of {mg : MG} {S H : Hp} {y : PV} {Q : VK} (g : ∀ v H' S', Ext S H S' H' → Rep mg S' y v → Q v H') : Good mg S H .s y Q :=
  fun v H' S' as x ⟨_, r⟩ _ _ => g v H' S' x r

theorem b_var {i : Nat} {x : Str} (hN : X.N[i]? = some x) (hv : Vis X.env.scope x) (hg : Γ[i]? = some .s) (hd : (x == ("__debug__" : Str)) = false := by decide) (hcd : (x == ("__classdict__" : Str)) = false := by decide) : PEB X Γ (.Name x pos) .s (eV i) :=
  .mk fun W => pimp (pe_var (X := XB X W) hN hv hd hcd) fun σ H Q ⟨S₀, H₀, env, S, r, q⟩ => by
    unfold eV at q
    cases he : env[i]? with
    | none => rw [he] at q; exact q.elim
    | some ov =>
      cases ov with
      | none => rw [he] at q; exact q.elim
      | some y =>
        rw [he] at q
        obtain ⟨v, hs, rv⟩ := r.shared hg he
        exact ⟨v, hs, Good.sh q (Ext.refl r.ext.sh) rv⟩
theorem b_const {v : V} {y : PV} {e : Expr} (h : ∀ X, PE X e (tC v)) (r : ∀ mg S, Rep mg S y v) : PEB X Γ e .s (eK y) :=
  .mk fun W => pimp (h (XB X W)) fun σ H Q ⟨S₀, H₀, env, S, rl, q⟩ => Good.sh q (Ext.refl rl.ext.sh) (r _ _)
theorem b_int {i : Int} {j : Nat} : PEB X Γ (.Constant (.int i) j pos) .s (eK (.int i)) := b_const (fun _ => pe_int) fun _ _ => rfl
theorem b_bl {i : Bool} {j : Nat} : PEB X Γ (.Constant (.bool i) j pos) .s (eK (.bl i)) := b_const (fun _ => pe_bl) fun _ _ => rfl
theorem b_non {j : Nat} : PEB X Γ (.Constant .none j pos) .s (eK .non) := b_const (fun _ => pe_non) fun _ _ => rfl
theorem b_str {x : Str} {j : Nat} : PEB X Γ (.Constant (.str x) j pos) .s (eK (.str x)) := b_const (fun _ => pe_str) fun _ _ => rfl
/-- a module's text -/
theorem b_gstr {x : Str} {z : Str} {t : Tok} (hg : Gl X x) (hm : X.mg x = some (.str z t)) (hd : (x == ("__debug__" : Str)) = false := by decide) : PEB X Γ (.Name x pos) .s (eK (.str z)) :=
  .mk fun W => pimp (pe_glob (X := XB X W) (v := .str z) hg hm ⟨t, rfl⟩ hd) fun σ H Q ⟨S₀, H₀, env, S, rl, q⟩ => Good.sh q (Ext.refl rl.ext.sh) rfl
/-- what is owned may be shared -/
theorem b_sh {o : Own} (h : PEB X Γ e o f) : PEB X Γ e .s f := .mk fun W => pimp (h W) fun σ H Q ⟨S₀, H₀, env, S, r, q⟩ => by
  refine ⟨S₀, H₀, env, S, r, ?_⟩
  cases hf : f env with
  | no => rw [hf] at q; exact q
  | err c => rw [hf] at q; exact q
  | ok y =>
    rw [hf] at q
    intro v H' S' as x w nd fr
    refine Good.sh q (S' := fun a => if a ∈ as then H' a else S' a) ⟨x.h, fun b u z => ?_, fun b u z => ?_, fun b u z => ?_⟩ (w.rep (fun b u z => ?_) fun b m u z => ?_)
    · have z := x.s b u z
      show (if b ∈ as then H' b else S' b) = some u
      split
      · exact x.sh b u z
      · exact z
    · have z : (if b ∈ as then H' b else S' b) = some u := z
      split at z
      · exact z
      · exact x.sh b u z
    · have z : (if b ∈ as then H' b else S' b) = some u := z
      split at z
      · rename_i m
        exact .inr (fr b m).1
      · exact x.n b u z
    · show (if b ∈ as then H' b else S' b) = some u
      split
      · exact x.sh b u z
      · exact z
    · show (if b ∈ as then H' b else S' b) = some u
      rw [if_pos m]; exact z

/-! ### operations -/
/-- what is asked of an answer; no refusal comes -/
def OkR {α : Type} (r : R α) (P : α → Prop) : Prop := match r with
  | .ok z => P z
  | .err _ => False
  | .no => True
theorem OkR.when {α : Type} {b : Bool} {r : R α} {P : α → Prop} (h : b = true → OkR r P) : OkR (when b r) P := by
  cases b with
  | true => exact h rfl
  | false => exact True.intro
theorem OkR.opt {α : Type} {r : Option α} {P : α → Prop} (h : ∀ z, r = some z → P z) : OkR (ofOpt r) P := by
  cases r with
  | none => exact True.intro
  | some z => exact h z rfl
theorem OkR.map {α β : Type} {r : R α} {g : α → β} {P : β → Prop} (h : OkR r fun z => P (g z)) : OkR (r.map g) P := by
  cases r with
  | ok z => exact h
  | err c => exact h
  | no => exact True.intro
def OpB (X : Cx) (F : Value → Value → Sem Value) (o : Own) (g : PV → PV → R PV) : Prop := ∀ W, ∃ r : R2, OpR (XB X W) F r ∧ ∀ (x y : PV) (v u : V) (S H : Hp), Sub S H → Rep X.mg S x v → Rep X.mg S y u → OkR (g x y) fun z => ∀ Q : VK, Good X.mg S H o z Q → r v u H Q
/-- two expressions, from the left -/
theorem two {r : R2} {g : PV → PV → R PV} {o : Own} {W : WK} {σ : L2.St} {H : Hp} {Q : VK}
    (hr : ∀ (x y : PV) (v u : V) (S H : Hp), Sub S H → Rep X.mg S x v → Rep X.mg S y u → OkR (g x y) fun z => ∀ Q : VK, Good X.mg S H o z Q → r v u H Q)
    (h : tB X Γ o (e2 g fa fb) W σ H Q) : tOp r (tB X Γ .s fa W) (tB X Γ .s fb W) σ H Q := by
  obtain ⟨S₀, H₀, env, S, rl, q⟩ := h
  unfold e2 at q
  refine ⟨S₀, H₀, env, S, rl, ?_⟩
  cases ha : fa env with
  | no => rw [ha] at q; exact q.elim
  | err c => rw [ha] at q; exact q
  | ok x =>
    rw [ha, R.bind_ok] at q
    refine Good.of fun v H1 S1 x1 r1 => ⟨S₀, H₀, env, S1, rl.grow x1, ?_⟩
    cases hb : fb env with
    | no => rw [hb] at q; exact q.elim
    | err c => rw [hb] at q; exact fun H2 S2 x2 => q H2 S2 (x1.trans x2)
    | ok y =>
      rw [hb, R.bind_ok] at q
      refine Good.of fun u H2 S2 x2 r2 => ?_
      have z := hr x y v u S2 H2 x2.sh (r1.mono x2.s) r2
      cases hg : g x y with
      | no => rw [hg] at q; exact q.elim
      | err c => rw [hg] at z; exact z.elim
      | ok w =>
        rw [hg] at z q
        refine z Q fun p H3 S3 as x3 rw nd fr => q p H3 S3 as ((x1.trans x2).trans x3) rw nd fun a m => ⟨(x1.h.trans x2.h).none (fr a m).1, (fr a m).2⟩
theorem b_bin {op : Operator} {o : Own} {g : PV → PV → R PV} (ho : OpB X (binaryOp op) o g) (ha : PEB X Γ a .s fa) (hb : PEB X Γ b .s fb) : PEB X Γ (.BinOp a op b pos) o (e2 g fa fb) := .mk fun W => by
  obtain ⟨r, h1, h2⟩ := ho W
  exact pimp (pe_op h1 (ha W) (hb W)) fun σ H Q h => two h2 h
theorem b_cmp {op : CmpOp} {g : PV → PV → R PV} (ho : OpB X (compareOp op) .s g) (ha : PEB X Γ a .s fa) (hb : PEB X Γ b .s fb) (hm : behindInMarks op b = false) : PEB X Γ (.Compare a [op] [b] pos) .s (e2 g fa fb) := .mk fun W => by
  obtain ⟨r, h1, h2⟩ := ho W
  exact pimp (pe_cmpR h1 (ha W) (hb W) hm) fun σ H Q h => two h2 h
end
end B

namespace B
open PySem PySem.Spec PyProof.Rows L2
theorem sizeL_eq : sizeLine = sizeL := by rw [sizeLine_eq]; rfl
section
variable {X : Cx} {Γ : List Own} {a b c e : Expr} {fa fb fc f : Ev} {pos : Pos}
theorem Good.own {mg : MG} {S H : Hp} {y : PV} {Q : VK} {o : Own} (g : Good mg S H o y Q) (hs : Sub S H) {p : Addr} {u : HO} (hp : H p = none) (r : OwnR mg S (upd H p u) o y (.ref p) [p]) : Q (.ref p) (upd H p u) :=
  g (.ref p) (upd H p u) S [p] (Ext.own hs hp) r (by simp) (fun a m => by
    have e : a = p := by simpa using m
    subst e
    exact ⟨hp, hs.none hp⟩)
/-- a flat value that is owned is nothing more -/
theorem Good.fl {mg : MG} {S H : Hp} {y : PV} {Q : VK} {cs : List Own} (g : Good mg S H (.o cs) y Q) {v : V} (hs : Sub S H) (r : Rep mg S y v) (hf : y.flat = true) : Q v H := by
  refine g v H S [] (Ext.refl hs) ?_ List.nodup_nil (fun a m => by cases m)
  cases y with
  | non => exact ⟨rfl, r⟩
  | bl b => exact ⟨rfl, r⟩
  | int b => exact ⟨rfl, r⟩
  | str b => exact ⟨rfl, r⟩
  | _ => cases hf
/-! ### + -/
def rCatR : R2 := fun x y H Q => ∃ l b xs zs, x = .ref l ∧ y = .ref b ∧ Rd H l (.lst xs) ∧ Rd H b (.lst zs) ∧ xs.length + zs.length ≤ sizeLine ∧ ∀ p, H p = none → Q (.ref p) (upd H p (.lst (xs ++ zs)))
theorem op_catR : OpR X (binaryOp .Add) rCatR := by
  intro pins s σ H x y v u Q I rx ry h
  obtain ⟨l, b, xs, zs, rfl, rfl, hH, hB, hz, q⟩ := h
  cases rx
  cases ry
  obtain ⟨z, its, n, r, e⟩ := hH.ok I.hok
  obtain ⟨z2, its2, n2, r2, e2⟩ := hB.ok I.hok
  have hl := r.length
  have hl2 := r2.length
  refine PySem.P.add_list e e2 ?_ (by rw [List.size_toArray, List.size_toArray]; omega)
  have ea : its.toArray ++ its2.toArray = (its ++ its2).toArray := by simp
  rw [ea]
  exact ⟨.ref _, _, I.lnew (t' := s.toks) (r.append r2) (by rw [List.length_append]; omega), rfl, q _ I.fresh⟩
theorem foldl_cat (x : Array Nat) : ∀ (n : Nat) (acc : Array Nat), (List.replicate n x).foldl (· ++ ·) acc = acc ++ (List.replicate n x.toList).flatten.toArray
  | 0, acc => by simp
  | n + 1, acc => by
    rw [List.replicate_succ, List.foldl_cons, foldl_cat x n, List.replicate_succ, List.flatten_cons]
    apply Array.ext'
    simp
theorem mul_rep (x : Str) (k : Int) (h : 0 ≤ k) : Txt.mul x k = repS x k.toNat := by
  unfold Txt.mul repS
  by_cases h1 : k < 1
  · have : k = 0 := by omega
    subst this
    rfl
  · rw [if_neg h1]
    split
    · rename_i h2
      simp only [Bool.or_eq_true, beq_iff_eq] at h2
      rcases h2 with rfl | h2
      · cases x; simp
      · cases x with
        | mk a =>
          have : a = #[] := Array.size_eq_zero_iff.mp h2
          subst this
          simp
    · rw [foldl_cat]
      simp
def rMulS : R2 := fun x y H Q => ∃ i k, x = .str i ∧ y = .int k ∧ 0 ≤ k ∧ k ≤ 1000 ∧ i.length * k.toNat ≤ 1000 ∧ Q (.str (repS i k.toNat)) H
theorem op_mul_str : OpR X (binaryOp .Mult) rMulS := by
  intro pins s σ H x y v u Q I rx ry h
  obtain ⟨i, k, rfl, rfl, h0, h2, h1, q⟩ := h
  obtain ⟨t, rfl⟩ := rx
  obtain ⟨t', rfl⟩ := ry
  refine PySem.SB.mul ⟨?_, fun h3 _ => ?_, fun h3 _ => ?_⟩ fun t2 k2 => ?_
  · rw [decide_eq_false (by omega), decide_eq_false (by omega)]
    rfl
  · intro z
    have h4 : (i.length : Int) ≤ 1000 := by
      have : i.length ≤ i.length * k.toNat := Nat.le_mul_of_pos_right _ (by omega)
      omega
    have h5 : (1000 : Int) ≤ (2 ^ 63 - 1) / k := Int.le_ediv_of_mul_le (by omega) (by omega)
    omega
  · unfold Builtin.Str.tooLong
    rw [sizeLine_eq]
    exact decide_eq_false (by omega)
  · rw [mul_rep i k h0]
    exact ⟨.str _, H, I.tok _, ⟨_, rfl⟩, q⟩
theorem o_add : OpB X (binaryOp .Add) (.o []) oAdd := fun W => by
  refine ⟨_, op_add.or (op_add_str.or op_catR), fun x y v u S H hs rx ry => ?_⟩
  cases x <;> cases y <;> first | exact True.intro | skip
  case int.int i j => exact fun Q g => .inl ⟨i, j, rx, ry, g.fl hs rfl rfl⟩
  case str.str i j =>
    refine OkR.when fun h Q g => ?_
    exact .inr (.inl ⟨i, j, rx, ry, by rw [sizeL_eq]; exact of_decide_eq_true h, g.fl hs rfl rfl⟩)
  case lst.lst i j =>
    refine OkR.when fun h Q g => ?_
    obtain ⟨p, vs, e1, q1, r1⟩ := rx
    obtain ⟨p', vs', e2, q2, r2⟩ := ry
    have l1 := r1.length
    have l2 := r2.length
    have h := of_decide_eq_true h
    refine .inr (.inr ⟨p, p', vs, vs', e1, e2, Rd.mono hs q1, Rd.mono hs q2, by rw [sizeL_eq]; omega, fun n hn => g.own hs hn ?_⟩)
    exact ⟨n, vs ++ vs', [], rfl, upd_same, ⟨rfl, r1.append r2⟩, rfl⟩
theorem o_sub : OpB X (binaryOp .Sub) .s oSub := fun W => by
  refine ⟨_, op_sub, fun x y v u S H hs rx ry => ?_⟩
  cases x <;> cases y <;> first | exact True.intro | skip
  case int.int i j => exact fun Q g => ⟨i, j, rx, ry, g.sh (Ext.refl hs) rfl⟩
theorem o_mul : OpB X (binaryOp .Mult) .s oMul := fun W => by
  refine ⟨_, op_mul.or op_mul_str, fun x y v u S H hs rx ry => ?_⟩
  cases x <;> cases y <;> first | exact True.intro | skip
  case int.int i j =>
    refine OkR.when fun h Q g => .inl ⟨i, j, rx, ry, ?_, g.sh (Ext.refl hs) rfl⟩
    unfold cmul at h
    simp only [Bool.or_eq_true, Bool.and_eq_true, decide_eq_true_eq] at h
    exact h
  case str.int i j =>
    refine OkR.when fun h Q g => .inr ?_
    simp only [Bool.and_eq_true, decide_eq_true_eq] at h
    exact ⟨i, j, rx, ry, h.1.1, h.1.2, h.2, g.sh (Ext.refl hs) rfl⟩
theorem o_div : OpB X (binaryOp .FloorDiv) .s oDiv := fun W => by
  refine ⟨_, op_fdiv, fun x y v u S H hs rx ry => ?_⟩
  cases x <;> cases y <;> first | exact True.intro | skip
  case int.int i j =>
    refine OkR.when fun h Q g => ?_
    simp only [Bool.and_eq_true, decide_eq_true_eq] at h
    exact ⟨i, j, rx, ry, h, g.sh (Ext.refl hs) rfl⟩
theorem o_mod : OpB X (binaryOp .Mod) .s oMod := fun W => by
  refine ⟨_, op_mod, fun x y v u S H hs rx ry => ?_⟩
  cases x <;> cases y <;> first | exact True.intro | skip
  case int.int i j => exact OkR.when fun h Q g => ⟨i, j, rx, ry, of_decide_eq_true h, g.sh (Ext.refl hs) rfl⟩
theorem o_pow : OpB X (binaryOp .Pow) .s oPow := fun W => by
  refine ⟨_, op_pow, fun x y v u S H hs rx ry => ?_⟩
  cases x <;> cases y <;> first | exact True.intro | skip
  case int.int i j =>
    refine OkR.when fun h Q g => ?_
    simp only [Bool.and_eq_true, decide_eq_true_eq] at h
    exact ⟨i, j, rx, ry, ⟨by omega, by omega, by omega⟩, g.sh (Ext.refl hs) rfl⟩
theorem o_lt : OpB X (compareOp .Lt) .s oLt := fun W => by
  refine ⟨_, op_lt, fun x y v u S H hs rx ry => ?_⟩
  cases x <;> cases y <;> first | exact True.intro | skip
  case int.int i j => exact fun Q g => ⟨i, j, rx, ry, g.sh (Ext.refl hs) rfl⟩
theorem o_le : OpB X (compareOp .LtE) .s oLe := fun W => by
  refine ⟨_, op_le, fun x y v u S H hs rx ry => ?_⟩
  cases x <;> cases y <;> first | exact True.intro | skip
  case int.int i j => exact fun Q g => ⟨i, j, rx, ry, g.sh (Ext.refl hs) rfl⟩
theorem o_gt : OpB X (compareOp .Gt) .s oGt := fun W => by
  refine ⟨_, op_gt, fun x y v u S H hs rx ry => ?_⟩
  cases x <;> cases y <;> first | exact True.intro | skip
  case int.int i j => exact fun Q g => ⟨i, j, rx, ry, g.sh (Ext.refl hs) rfl⟩
theorem o_ge : OpB X (compareOp .GtE) .s oGe := fun W => by
  refine ⟨_, op_ge, fun x y v u S H hs rx ry => ?_⟩
  cases x <;> cases y <;> first | exact True.intro | skip
  case int.int i j => exact fun Q g => ⟨i, j, rx, ry, g.sh (Ext.refl hs) rfl⟩
end
end B

namespace B
open PySem PySem.Spec PyProof.Rows L2

/-! ### tests -/
def tT (X : Cx) (Γ : List Own) (f : Tv) (W : WK) : TT := fun σ H Q => ∃ S₀ H₀ env S, Rel X.mg S₀ H₀ Γ env σ S H ∧ (match f env with
  | .ok b => ∀ H' S', Ext S H S' H' → Q b H'
  | .err c => Err S H (W c σ)
  | .no => False)
structure PTB (X : Cx) (Γ : List Own) (e : Expr) (f : Tv) : Prop where mk ::
  run : ∀ W, PT (XB X W) e (tT X Γ f W)
instance {X : Cx} {Γ : List Own} {e : Expr} {f : Tv} : CoeFun (PTB X Γ e f) fun _ => ∀ W, PT (XB X W) e (tT X Γ f W) := ⟨PTB.run⟩
structure PWB (X : Cx) (Γ : List Own) (e : Expr) (f : Tv) : Prop where mk ::
  run : ∀ W, PW (XB X W) e (tT X Γ f W)
instance {X : Cx} {Γ : List Own} {e : Expr} {f : Tv} : CoeFun (PWB X Γ e f) fun _ => ∀ W, PW (XB X W) e (tT X Γ f W) := ⟨PWB.run⟩
theorem ptimp {X : Cx} {e : Expr} {t t' : TT} (h : PT X e t) (i : ∀ σ H Q, t' σ H Q → t σ H Q) : PT X e t' := fun pins s σ H Q I q => h pins s σ H Q I (i σ H Q q)
theorem pwimp {X : Cx} {e : Expr} {t t' : TT} (h : PW X e t) (i : ∀ σ H Q, t' σ H Q → t σ H Q) : PW X e t' := fun wh pins s σ H Q I q => h wh pins s σ H Q I (i σ H Q q)
section
variable {X : Cx} {Γ : List Own} {a b c e : Expr} {fa fb fc f : Ev} {ga gb : Tv} {pos : Pos}
theorem PWB.pt (h : PWB X Γ e ga) : PTB X Γ e ga := .mk fun W => (h W).pt
/-- a value's truth -/
theorem truth_V {K : PySem.W.Frag} {mg : MG} {S H : Hp} {y : PV} {v : V} {t : Bool} (hs : Sub S H) (r : Rep mg S y v) (h : truth y = .ok t) : TruV K v H t := by
  cases y with
  | non => cases h; cases (show v = .non from r); rfl
  | bl b => cases (show v = .bl b from r); cases h; rfl
  | int i => cases (show v = .int i from r); cases h; rfl
  | str i => cases h
  | tup i => cases h
  | lst i => cases h
  | dct i => cases h
  | ins i j => cases h
  | exc i => cases h
theorem no_err_truth (y : PV) (c : Str) : truth y ≠ .err c := by cases y <;> intro h <;> cases h
theorem b_test (ha : PEB X Γ a .s fa) (he : ∀ whole, isTrue a X.env whole = (do let v ← whole; standAt a.pos; holding [v] (truthy v)) := by intro _; rfl) : PTB X Γ a (tE fa) := .mk fun W =>
  ptimp (pt_truth (ha W) he) fun σ H Q ⟨S₀, H₀, env, S, r, q⟩ => by
    refine ⟨S₀, H₀, env, S, r, ?_⟩
    unfold tE at q
    cases hf : fa env with
    | no => rw [hf] at q; exact q.elim
    | err c => rw [hf] at q; exact q
    | ok y =>
      rw [hf, R.bind_ok] at q
      refine Good.of fun v H' S' x rv => ?_
      cases ht : truth y with
      | no => rw [ht] at q; exact q.elim
      | err c => exact (no_err_truth y c ht).elim
      | ok t =>
        rw [ht] at q
        exact ⟨t, truth_V x.sh rv ht, q H' S' x⟩
/-- the test of a comparison -/
theorem two_t {r : R2} {g : PV → PV → R PV} {W : WK} {σ : L2.St} {H : Hp} {Q : Bool → Hp → Prop}
    (hr : ∀ (x y : PV) (v u : V) (S H : Hp), Sub S H → Rep X.mg S x v → Rep X.mg S y u → OkR (g x y) fun z => ∀ Q : VK, Good X.mg S H .s z Q → r v u H Q)
    (hb : ∀ x y z, g x y = .ok z → ∃ k, z = .bl k)
    (h : tT X Γ (tE (e2 g fa fb)) W σ H Q) : tTest (tOp r (tB X Γ .s fa W) (tB X Γ .s fb W)) σ H Q := by
  obtain ⟨S₀, H₀, env, S, rl, q⟩ := h
  refine two (o := .s) (W := W) hr ⟨S₀, H₀, env, S, rl, ?_⟩
  unfold tE at q
  cases hf : e2 g fa fb env with
  | no => rw [hf] at q; exact q.elim
  | err c => rw [hf] at q; exact q
  | ok z =>
    rw [hf, R.bind_ok] at q
    have hz : ∃ k, z = .bl k := by
      unfold e2 at hf
      cases h1 : fa env with
      | no => rw [h1] at hf; cases hf
      | err c => rw [h1] at hf; cases hf
      | ok x =>
        rw [h1, R.bind_ok] at hf
        cases h2 : fb env with
        | no => rw [h2] at hf; cases hf
        | err c => rw [h2] at hf; cases hf
        | ok y => rw [h2, R.bind_ok] at hf; exact hb x y z hf
    obtain ⟨k, rfl⟩ := hz
    exact Good.of fun v H' S' x rv => ⟨k, rv, q H' S' x⟩
theorem b_cmpT {op : CmpOp} {g : PV → PV → R PV} (ho : OpB X (compareOp op) .s g) (hg : ∀ x y z, g x y = .ok z → ∃ k, z = .bl k) (ha : PEB X Γ a .s fa) (hb : PEB X Γ b .s fb) (hm : behindInMarks op b = false) : PTB X Γ (.Compare a [op] [b] pos) (tE (e2 g fa fb)) := .mk fun W => by
  obtain ⟨r, h1, h2⟩ := ho W
  exact ptimp (pt_cmpR h1 (ha W) (hb W) hm) fun σ H Q h => two_t h2 hg h
theorem t_seq {W : WK} {σ : L2.St} {H : Hp} {Q : Bool → Hp → Prop} {k : Bool → Tv} {R' : Bool → Hp → Prop} {S₀ H₀ S : Hp} {env : Env} (rl : Rel X.mg S₀ H₀ Γ env σ S H)
    (q : match (ga env).bind (fun t => k t env) with | .ok b => ∀ H' S', Ext S H S' H' → Q b H' | .err c => Err S H (W c σ) | .no => False)
    (h : ∀ t H1 S1, Ext S H S1 H1 → Rel X.mg S₀ H₀ Γ env σ S1 H1 → (match k t env with | .ok b => ∀ H' S', Ext S1 H1 S' H' → Q b H' | .err c => Err S1 H1 (W c σ) | .no => False) → R' t H1) : tT X Γ ga W σ H R' := by
  refine ⟨S₀, H₀, env, S, rl, ?_⟩
  cases hf : ga env with
  | no => rw [hf] at q; exact q.elim
  | err c => rw [hf] at q; exact q
  | ok t =>
    rw [hf, R.bind_ok] at q
    refine fun H1 S1 x => h t H1 S1 x (rl.grow x) ?_
    cases hk : k t env with
    | no => rw [hk] at q; exact q
    | err c => rw [hk] at q; exact fun H2 S2 x2 => q H2 S2 (x.trans x2)
    | ok b => rw [hk] at q; exact fun H2 S2 x2 => q H2 S2 (x.trans x2)
theorem b_andT {rest : List Expr} (ha : PTB X Γ a ga) (hb : PWB X Γ (.BoolOp .And (b :: rest) pos) gb) : PWB X Γ (.BoolOp .And (a :: b :: rest) pos) (B.tAnd ga gb) := .mk fun W =>
  pwimp (pw_and (ha W) (hb W)) fun σ H Q ⟨S₀, H₀, env, S, r, q⟩ => t_seq (k := fun t s => if t then gb s else .ok false) r q fun t H1 S1 x r1 q1 => by
    cases t with
    | true => rw [if_pos rfl]; exact ⟨S₀, H₀, env, S1, r1, q1⟩
    | false => rw [if_neg Bool.false_ne_true]; exact q1 H1 S1 (Ext.refl r1.ext.sh)
theorem b_orT {rest : List Expr} (ha : PTB X Γ a ga) (hb : PWB X Γ (.BoolOp .Or (b :: rest) pos) gb) : PWB X Γ (.BoolOp .Or (a :: b :: rest) pos) (B.tOr ga gb) := .mk fun W =>
  pwimp (pw_or (ha W) (hb W)) fun σ H Q ⟨S₀, H₀, env, S, r, q⟩ => t_seq (k := fun t s => if t then .ok true else gb s) r q fun t H1 S1 x r1 q1 => by
    cases t with
    | true => rw [if_pos rfl]; exact q1 H1 S1 (Ext.refl r1.ext.sh)
    | false => rw [if_neg Bool.false_ne_true]; exact ⟨S₀, H₀, env, S1, r1, q1⟩
theorem b_and1T (ha : PTB X Γ a ga) : PWB X Γ (.BoolOp .And [a] pos) ga := .mk fun W => pw_and1 (ha W)
theorem b_or1T (ha : PTB X Γ a ga) : PWB X Γ (.BoolOp .Or [a] pos) ga := .mk fun W => pw_or1 (ha W)
theorem b_notT (ha : PTB X Γ a ga) : PTB X Γ (.UnaryOp .Not a pos) (B.tNot ga) := .mk fun W =>
  ptimp (pt_not (ha W)) fun σ H Q ⟨S₀, H₀, env, S, r, q⟩ => by
    refine ⟨S₀, H₀, env, S, r, ?_⟩
    unfold B.tNot at q
    cases hf : ga env with
    | no => rw [hf] at q; exact q
    | err c => rw [hf] at q; exact q
    | ok t => rw [hf] at q; exact q
/-! ### and, or, not as values -/
theorem asB_V {mg : MG} {S : Hp} {y : PV} {v : V} {t : Bool} (r : Rep mg S y v) (h : asB y = .ok t) : v = .bl t := by
  cases y with
  | bl b => cases h; exact r
  | _ => cases h
theorem no_err_asB (y : PV) (c : Str) : asB y ≠ .err c := by cases y <;> intro h <;> cases h
/-- a value, then by its bool -/
theorem v_seq {o : Own} {W : WK} {σ : L2.St} {H : Hp} {Q : VK} {k : Bool → Ev} {R' : VK} {S₀ H₀ S : Hp} {env : Env} (rl : Rel X.mg S₀ H₀ Γ env σ S H)
    (q : match (fa env).bind (fun x => (asB x).bind fun t => k t env) with | .ok y => Good X.mg S H o y Q | .err c => Err S H (W c σ) | .no => False)
    (h : ∀ t H1 S1, Ext S H S1 H1 → Rel X.mg S₀ H₀ Γ env σ S1 H1 → (match k t env with | .ok y => Good X.mg S1 H1 o y Q | .err c => Err S1 H1 (W c σ) | .no => False) → R' (.bl t) H1) : tB X Γ .s fa W σ H R' := by
  refine ⟨S₀, H₀, env, S, rl, ?_⟩
  cases hf : fa env with
  | no => rw [hf] at q; exact q.elim
  | err c => rw [hf] at q; exact q
  | ok y =>
    rw [hf, R.bind_ok] at q
    refine Good.of fun v H1 S1 x rv => ?_
    cases ht : asB y with
    | no => rw [ht] at q; exact q.elim
    | err c => exact (no_err_asB y c ht).elim
    | ok t =>
      rw [ht, R.bind_ok] at q
      rw [asB_V rv ht]
      refine h t H1 S1 x (rl.grow x) ?_
      cases hk : k t env with
      | no => rw [hk] at q; exact q
      | err c => rw [hk] at q; exact fun H2 S2 x2 => q H2 S2 (x.trans x2)
      | ok b => rw [hk] at q; exact fun w H2 S2 as x2 rw nd fr => q w H2 S2 as (x.trans x2) rw nd fun a m => ⟨x.h.none (fr a m).1, (fr a m).2⟩
theorem b_one {op} {o : Own} (h : PEB X Γ a o fa) : PEB X Γ (.BoolOp op [a] pos) o fa := .mk fun W => pe_one (h W)
theorem b_and {rest : List Expr} (ha : PEB X Γ a .s fa) (hb : PEB X Γ (.BoolOp .And (b :: rest) pos) .s fb) : PEB X Γ (.BoolOp .And (a :: b :: rest) pos) .s (eAnd fa fb) := .mk fun W =>
  pimp (pe_and (ha W) (hb W)) fun σ H Q ⟨S₀, H₀, env, S, r, q⟩ => v_seq (k := fun t s => if t then fb s else .ok (.bl false)) r q fun t H1 S1 x r1 q1 => ⟨t, rfl, by
    cases t with
    | true => rw [if_pos rfl]; exact ⟨S₀, H₀, env, S1, r1, q1⟩
    | false => rw [if_neg Bool.false_ne_true]; exact Good.sh q1 (Ext.refl r1.ext.sh) rfl⟩
theorem b_or {rest : List Expr} (ha : PEB X Γ a .s fa) (hb : PEB X Γ (.BoolOp .Or (b :: rest) pos) .s fb) : PEB X Γ (.BoolOp .Or (a :: b :: rest) pos) .s (eOr fa fb) := .mk fun W =>
  pimp (pe_or (ha W) (hb W)) fun σ H Q ⟨S₀, H₀, env, S, r, q⟩ => v_seq (k := fun t s => if t then .ok (.bl true) else fb s) r q fun t H1 S1 x r1 q1 => ⟨t, rfl, by
    cases t with
    | true => rw [if_pos rfl]; exact Good.sh q1 (Ext.refl r1.ext.sh) rfl
    | false => rw [if_neg Bool.false_ne_true]; exact ⟨S₀, H₀, env, S1, r1, q1⟩⟩
theorem oNot_as : oNot = fun y => (asB y).bind fun t => .ok (.bl (!t)) := by
  funext y
  unfold oNot
  cases asB y <;> rfl
theorem b_not (ha : PEB X Γ a .s fa) : PEB X Γ (.UnaryOp .Not a pos) .s (e1 oNot fa) := .mk fun W =>
  pimp (pe_not (ha W)) fun σ H Q ⟨S₀, H₀, env, S, r, q⟩ => v_seq (fa := fa) (k := fun t _ => .ok (.bl (!t))) r (by
    unfold e1 at q
    rw [oNot_as] at q
    exact q) fun t H1 S1 x r1 q1 => ⟨t, rfl, Good.sh q1 (Ext.refl r1.ext.sh) rfl⟩
theorem b_ifx {o : Own} (hc : PTB X Γ c ga) (ha : PEB X Γ a o fa) (hb : PEB X Γ b o fb) : PEB X Γ (.IfExp c a b pos) o (eIf ga fa fb) := .mk fun W =>
  pimp (pe_ifExp (hc W) (ha W) (hb W)) fun σ H Q ⟨S₀, H₀, env, S, r, q⟩ => by
    refine ⟨S₀, H₀, env, S, r, ?_⟩
    unfold eIf at q
    cases hf : ga env with
    | no => rw [hf] at q; exact q.elim
    | err c => rw [hf] at q; exact q
    | ok t =>
      rw [hf, R.bind_ok] at q
      intro H1 S1 x
      cases t with
      | true =>
        rw [if_pos rfl] at q ⊢
        refine ⟨S₀, H₀, env, S1, r.grow x, ?_⟩
        cases hk : fa env with
        | no => rw [hk] at q; exact q
        | err c => rw [hk] at q; exact fun H2 S2 x2 => q H2 S2 (x.trans x2)
        | ok b => rw [hk] at q; exact fun w H2 S2 as x2 rw nd fr => q w H2 S2 as (x.trans x2) rw nd fun a m => ⟨x.h.none (fr a m).1, (fr a m).2⟩
      | false =>
        rw [if_neg Bool.false_ne_true] at q ⊢
        refine ⟨S₀, H₀, env, S1, r.grow x, ?_⟩
        cases hk : fb env with
        | no => rw [hk] at q; exact q
        | err c => rw [hk] at q; exact fun H2 S2 x2 => q H2 S2 (x.trans x2)
        | ok b => rw [hk] at q; exact fun w H2 S2 as x2 rw nd fr => q w H2 S2 as (x.trans x2) rw nd fun a m => ⟨x.h.none (fr a m).1, (fr a m).2⟩
end
end B

namespace B
open PySem PySem.Spec PyProof.Rows L2
/-! ### arguments without a star -/
def isSt : Expr → Bool
  | .Starred _ _ => true
  | _ => false
theorem star_c {e : Expr} {es : List Expr} {env : PySem.Env} (h : isSt e = false) : starEach (e :: es) env = (false, eval e env) :: starEach es env := by
  cases e <;> first | rfl | cases h
theorem star_any {pos : Pos} {env : PySem.Env} : ∀ {es : List Expr}, es.all (fun e => !isSt e) = true → (backTo pos (starEach es env)).any (·.1) = false
  | [], _ => rfl
  | e :: es, h => by
    rw [List.all_cons, Bool.and_eq_true] at h
    have h1 : isSt e = false := by simpa using h.1
    rw [star_c h1]
    show (false || (backTo pos (starEach es env)).any (·.1)) = false
    rw [star_any h.2]
    rfl
/-! ### argument lists, displays -/
def tAs (X : Cx) (Γ : List Own) (os : List Own) (fs : List Ev) (W : WK) : TA := fun σ H Q => ∃ S₀ H₀ env S, Rel X.mg S₀ H₀ Γ env σ S H ∧ (match evs fs env with
  | .ok ys => ∀ vs H' S' as, Ext S H S' H' → OwnRs X.mg S' H' os ys vs as → as.Nodup → (∀ a ∈ as, H a = none ∧ S' a = none) → Q vs H'
  | .err c => Err S H (W c σ)
  | .no => False)
structure PAB (X : Cx) (Γ : List Own) (es : List Expr) (os : List Own) (fs : List Ev) : Prop where mk ::
  run : ∀ W, PA (XB X W) es (tAs X Γ os fs W)
instance {X : Cx} {Γ : List Own} {es : List Expr} {os : List Own} {fs : List Ev} : CoeFun (PAB X Γ es os fs) fun _ => ∀ W, PA (XB X W) es (tAs X Γ os fs W) := ⟨PAB.run⟩
theorem paimp {X : Cx} {es : List Expr} {t t' : TA} (h : PA X es t) (i : ∀ σ H Q, t' σ H Q → t σ H Q) : PA X es t' := fun pos pins s σ H Q I q => h pos pins s σ H Q I (i σ H Q q)
theorem evs_len : ∀ {fs : List Ev} {env : Env} {ys : List PV}, evs fs env = .ok ys → ys.length = fs.length
  | [], _, _, h => by cases h; rfl
  | f :: fs, env, ys, h => by
    unfold evs at h
    cases h1 : f env with
    | no => rw [h1] at h; cases h
    | err c => rw [h1] at h; cases h
    | ok x =>
      rw [h1, R.bind_ok] at h
      cases h2 : evs fs env with
      | no => rw [h2] at h; cases h
      | err c => rw [h2] at h; cases h
      | ok r => rw [h2] at h; cases h; simp [evs_len h2]
section
variable {X : Cx} {Γ : List Own} {a b c e : Expr} {es : List Expr} {fa fb fc f : Ev} {fs : List Ev} {pos : Pos} {o : Own} {os : List Own}
theorem a_nil : PAB X Γ [] [] [] := .mk fun W => paimp pa_nil fun σ H Q ⟨S₀, H₀, env, S, r, q⟩ => q [] H S [] (Ext.refl r.ext.sh) ⟨rfl, rfl⟩ List.nodup_nil (fun a m => by cases m)
/-- the two steps of an argument list -/
theorem args_two {W : WK} {σ : L2.St} {H : Hp} {Q : List V → Hp → Prop} {o' : Own} {os' os'' : List Own}
    (h : ∀ {S1 H1 S2 H2 : Hp} {y : PV} {ys : List PV} {v : V} {vs : List V} {a1 a2 : List Addr}, OwnR X.mg S2 H2 o' y v a1 → OwnRs X.mg S2 H2 os' ys vs a2 → OwnRs X.mg S2 H2 os'' (y :: ys) (v :: vs) (a1 ++ a2))
    (q : tAs X Γ os'' (f :: fs) W σ H Q) : L2.tCons (tB X Γ o' f W) (tAs X Γ os' fs W) σ H Q := by
  obtain ⟨S₀, H₀, env, S, r, q⟩ := q
  refine ⟨S₀, H₀, env, S, r, ?_⟩
  unfold evs at q
  cases hf : f env with
  | no => rw [hf] at q; exact q.elim
  | err c => rw [hf] at q; exact q
  | ok y =>
    rw [hf, R.bind_ok] at q
    intro v H1 S1 a1 x1 r1 n1 f1
    refine ⟨S₀, H₀, env, S1, r.grow x1, ?_⟩
    cases hs : evs fs env with
    | no => rw [hs] at q; exact q
    | err c => rw [hs] at q; exact fun H2 S2 x2 => q H2 S2 (x1.trans x2)
    | ok ys =>
      rw [hs] at q
      intro vs H2 S2 a2 x2 r2 n2 f2
      have old : ∀ a ∈ a1, ∃ u, H1 a = some u := r1.there
      refine q (v :: vs) H2 S2 (a1 ++ a2) (x1.trans x2) (h (S1 := S1) (H1 := H1) (r1.mono x2.s x2.h) r2) (List.nodup_append.mpr ⟨n1, n2, fun a m b m' z => ?_⟩) fun a m => ?_
      · obtain ⟨u, hu⟩ := old a m
        rw [z, (f2 b m').1] at hu; cases hu
      · rcases List.mem_append.mp m with m | m
        · refine ⟨(f1 a m).1, ?_⟩
          cases z : S2 a with
          | none => rfl
          | some o =>
            rcases x2.n a o z with w | w
            · rw [(f1 a m).2] at w; cases w
            · obtain ⟨u, hu⟩ := old a m
              rw [w] at hu; cases hu
        · exact ⟨x1.h.none (f2 a m).1, (f2 a m).2⟩
theorem a_cons (ha : PEB X Γ e o f) (hr : PAB X Γ es os fs) (hs : starEach (e :: es) X.env = (false, eval e X.env) :: starEach es X.env := by exact star_c rfl) : PAB X Γ (e :: es) (o :: os) (f :: fs) := .mk fun W =>
  paimp (pa_cons (ha W) (hr W) hs) fun σ H Q q => args_two (os'' := o :: os) (fun r1 r2 => ⟨_, _, _, _, rfl, r1, r2, rfl⟩) q
theorem a_consS (ha : PEB X Γ e .s f) (hr : PAB X Γ es [] fs) (hs : starEach (e :: es) X.env = (false, eval e X.env) :: starEach es X.env := by exact star_c rfl) : PAB X Γ (e :: es) [] (f :: fs) := .mk fun W =>
  paimp (pa_cons (ha W) (hr W) hs) fun σ H Q q => args_two (os' := []) (os'' := []) (fun r1 r2 => ⟨by rw [r1.1, r2.1]; rfl, _, _, rfl, r1.2, r2.2⟩) q
theorem b_lst (h : PAB X Γ es os fs) (hl : fs.length ≤ 1000 := by decide) : PEB X Γ (.List es pos) (.o os) (eLst fs) := .mk fun W =>
  pimp (pe_lst (h W)) fun σ H Q ⟨S₀, H₀, env, S, r, q⟩ => by
    refine ⟨S₀, H₀, env, S, r, ?_⟩
    unfold eLst at q
    cases hf : evs fs env with
    | no => rw [hf] at q; exact q.elim
    | err c => rw [hf] at q; exact q
    | ok ys =>
      rw [hf] at q
      intro vs H' S' as x rv nd fr
      have e1 := evs_len hf
      have e2 := rv.length
      refine ⟨by rw [sizeLine_eq]; omega, fun p hp => ?_⟩
      have ne : ∀ a ∈ as, a ≠ p := fun a m z => by
        obtain ⟨u, hu⟩ := rv.there a m
        rw [z, hp] at hu; cases hu
      refine q (.ref p) (upd H' p (.lst vs)) S' (p :: as) (x.trans (Ext.own x.sh hp)) ⟨p, vs, as, rfl, upd_same, rv.keep Sub.refl fun a m u z => by rw [upd_ne (ne a m)]; exact z, rfl⟩
        (List.nodup_cons.mpr ⟨fun m => ne p m rfl, nd⟩) fun a m => ?_
      rcases List.mem_cons.mp m with rfl | m
      · exact ⟨x.h.none hp, x.sh.none hp⟩
      · exact fr a m
theorem b_tup {k : Nat} (h : PAB X Γ es [] fs) (hl : fs.length ≤ 1000 := by decide) : PEB X Γ (.Tuple es k pos) .s (eTup fs) := .mk fun W =>
  pimp (pe_tup (h W)) fun σ H Q ⟨S₀, H₀, env, S, r, q⟩ => by
    refine ⟨S₀, H₀, env, S, r, ?_⟩
    unfold eTup at q
    cases hf : evs fs env with
    | no => rw [hf] at q; exact q.elim
    | err c => rw [hf] at q; exact q
    | ok ys =>
      rw [hf] at q
      intro vs H' S' as x ⟨_, rv⟩ nd fr
      have e1 := evs_len hf
      have e2 := rv.length
      refine ⟨by rw [sizeLine_eq]; omega, fun p hp => ?_⟩
      have x2 := Ext.new (o := .tup vs) x.sh hp
      exact Good.sh q (x.trans x2) ⟨p, vs, rfl, upd_same, rv.mono x2.s⟩
/-- {} -/
theorem b_dnew : PEB X Γ (.Dict [] [] pos) (.o []) (eK (.dct [])) := .mk fun W =>
  pimp pe_dnewK fun σ H Q ⟨S₀, H₀, env, S, r, q⟩ p hp => Good.own q r.ext.sh hp ⟨p, rfl, rfl, .inl ⟨[], upd_same, rfl⟩⟩

/-! ### a call of one of Python's own -/
def CallB (X : Cx) (fv : Value) (o : Own) (g : List PV → R PV) : Prop := ∀ W, ∃ r : List V → Hp → VK → Prop, CallR (XB X W) fv r ∧ ∀ (ys : List PV) (vs : List V) (S H : Hp), Sub S H → Reps X.mg S ys vs → OkR (g ys) fun z => ∀ Q : VK, Good X.mg S H o z Q → r vs H Q
theorem call_args {g : List PV → R PV} {r : List V → Hp → VK → Prop} {W : WK} {σ : L2.St} {H : Hp} {Q : VK}
    (hr : ∀ (ys : List PV) (vs : List V) (S H : Hp), Sub S H → Reps X.mg S ys vs → OkR (g ys) fun z => ∀ Q : VK, Good X.mg S H o z Q → r vs H Q)
    (h : tB X Γ o (eN g fs) W σ H Q) : tCB r (tAs X Γ [] fs W) σ H Q := by
  obtain ⟨S₀, H₀, env, S, rl, q⟩ := h
  refine ⟨S₀, H₀, env, S, rl, ?_⟩
  unfold eN at q
  cases hf : evs fs env with
  | no => rw [hf] at q; exact q.elim
  | err c => rw [hf] at q; exact q
  | ok ys =>
    rw [hf, R.bind_ok] at q
    intro vs H1 S1 as x ⟨_, rv⟩ _ _
    have z := hr ys vs S1 H1 x.sh rv
    cases hg : g ys with
    | no => rw [hg] at q; exact q.elim
    | err c => rw [hg] at z; exact z.elim
    | ok y =>
      rw [hg] at z q
      exact z Q fun p H2 S2 as2 x2 rp nd fr => q p H2 S2 as2 (x.trans x2) rp nd fun a m => ⟨x.h.none (fr a m).1, (fr a m).2⟩
theorem b_callB {id : String} {x : Str} {p : Pos} {g : List PV → R PV} (hc : CallB X (.builtin id) o g) (hg : Gl X x) (hm : X.mg x = none) (hv : bootBuiltins x = some (.builtin id)) (ha : PAB X Γ (e :: es) [] fs) (hn : x ≠ "__name__" := by decide) (hdb : (x == ("__debug__" : Str)) = false := by decide)
    (he : starEach (e :: es) X.env = (false, eval e X.env) :: starEach es X.env := by exact star_c rfl) (hpl : (backTo pos (starEach es X.env)).any (·.1) = false := by exact star_any rfl) : PEB X Γ (.Call (.Name x p) (e :: es) [] pos) o (eN g fs) := .mk fun W => by
  obtain ⟨r, h1, h2⟩ := hc W
  exact pimp (pe_callB (X := XB X W) h1 hg hm hv (ha W) hn hdb he hpl) fun σ H Q h => call_args h2 h
theorem b_callTy {T : String} {x : Str} {p : Pos} {g : List PV → R PV} (hc : CallB X (.type T) o g) (hg : Gl X x) (hm : X.mg x = none) (hv : bootBuiltins x = some (.type T)) (ha : PAB X Γ (e :: es) [] fs) (hn : x ≠ "__name__" := by decide) (hdb : (x == ("__debug__" : Str)) = false := by decide)
    (he : starEach (e :: es) X.env = (false, eval e X.env) :: starEach es X.env := by exact star_c rfl) (hpl : (backTo pos (starEach es X.env)).any (·.1) = false := by exact star_any rfl) : PEB X Γ (.Call (.Name x p) (e :: es) [] pos) o (eN g fs) := .mk fun W => by
  obtain ⟨r, h1, h2⟩ := hc W
  exact pimp (pe_callTy (X := XB X W) h1 hg hm hv (ha W) hn hdb he hpl) fun σ H Q h => call_args h2 h
theorem call_lenK : CallR X (.builtin "len") (fun xs H Q => ∃ a kvs, xs = [V.ref a] ∧ Rd H a (.dK kvs) ∧ Q (.int kvs.length) H) := by
  intro pins s σ H xs us Q I r h
  obtain ⟨a, kvs, rfl, ha, q⟩ := h
  obtain ⟨u, rfl, ru⟩ := vals1 r
  cases ru
  exact d_len I ha fun t s' I' => ⟨.int kvs.length, H, I', ⟨t, rfl⟩, q⟩
theorem meets_lenH {prog : Program} {w : World} (d : Addr) (hd : (d == sysModules) = false) :
    MeetsIn prog w (Builtin.«dict.__len__» ⟨[.ref d], []⟩) (fun _ R s => ∃ o es ep, s.heap.get? d = some o ∧ o.data = .dict es ep ∧ R (.ok (.ret (.int es.size s.toks))) { s with toks := s.toks + 1 }) :=
  .of_wp fun A R s ⟨o, es, ep, ho, hdat, h⟩ => by
    show wpAny _ _ (dictSize d >>= _) _ _ s
    unfold dictSize
    refine wpAny_bind (wpAny_bind (wpAny_dictEntries ho hdat (wpAny_pure ?_)))
    show wpAny _ _ (Builtin.Dict.pendingCount d >>= _) _ _ s
    refine wpAny_bind (wpAny_pendingCount_other hd ?_)
    refine wpAny_ret_mkInt ?_
    rw [Nat.add_zero]; exact h
theorem call_lenH {prog : Program} {w : World} {A : Around} {E : Value → Shared → Prop} {s : Shared} {d : Addr} {o : Obj} {es : Array DictEntry} {ep : Nat} {Q : Value → Shared → Prop} (hd : (d == sysModules) = false) (hT : s.TypeIs (.ref d) "dict") (ho : s.heap.get? d = some o) (hdat : o.data = .dict es ep) (hfit : (es.size : Int) < 2 ^ 63)
    (h : Q (.int es.size (s.toks + 1)) { s with toks := s.toks + 1 + 1 }) : wpAny (model prog w) A (call (.builtin "len") [.ref d]) Q E s := by
  refine Calls.call_function_entry kind_len plain_len entry_len (args_len1 _) ?_
  unfold Builtin.«len»
  refine wpAny_bind (m := oneArg "len" _) (wpAny_pure ?_)
  refine wpAny_bind (m := callSpecial? (.ref d) (Str.ofString "__len__")) (wpAny_callSpecial?_slot (name := Str.ofString "__len__") hT PySem.F.slot_dict_len
    (call_meetsIn PySem.F.slot_dict_len hT PySem.F.entry_dict_len (PySem.F.args_dict_len_1 _) (meets_lenH d hd) ⟨o, es, ep, ho, hdat, ?_⟩))
  show wpAny _ _ _ _ _ { s with toks := s.toks + 1 }
  refine wpAny_bind (wpAny_holding (wpAny_pure ?_))
  refine wpAny_bind (wpAny_letGo ?_)
  show wpAny _ _ (if ((es.size : Nat) : Int) < 0 then _ else _) _ _ _
  rw [if_neg (by omega)]
  show wpAny _ _ (if ((es.size : Nat) : Int) ≥ 2 ^ 63 then _ else _) _ _ _
  rw [if_neg (by omega)]
  exact wpAny_bind (wpAny_mkInt (wpAny_pure ⟨_, rfl, h⟩))
theorem call_lenT : CallR X (.builtin "len") (fun xs H Q => ∃ a kvs, xs = [V.ref a] ∧ Rd H a (.dT kvs) ∧ Q (.int kvs.length) H) := by
  intro pins s σ H xs us Q I r h
  obtain ⟨a, kvs, rfl, ha, q⟩ := h
  obtain ⟨u, rfl, ru⟩ := vals1 r
  cases ru
  obtain ⟨z, hd, ws, rel, dd⟩ := dt_rd I.hok ha
  have hT := dd.typeIs
  obtain ⟨o, es, ep, ho, hex, hdat, he, _⟩ := dd
  have hl : es.size = kvs.length := by
    rw [size_of_entries he]
    exact (Paired.length rel).symm
  refine call_lenH hd hT ho hdat (by rw [hl]; rw [sizeLine_eq] at z; omega) ?_
  rw [hl]
  exact ⟨.int kvs.length, H, I.tok _, ⟨_, rfl⟩, q⟩
theorem k_len : CallB X (.builtin "len") .s cLen := fun W => by
  refine ⟨_, call_len.or (call_lenK.or call_lenT), fun ys vs S H hs r => ?_⟩
  match ys, r with
  | [], _ => exact True.intro
  | y :: _ :: _, _ => cases y <;> exact True.intro
  | [.non], _ => exact True.intro
  | [.bl _], _ => exact True.intro
  | [.int _], _ => exact True.intro
  | [.ins _ _], _ => exact True.intro
  | [.exc _], _ => exact True.intro
  | [.str x], ⟨v, _, e1, rv, e2⟩ =>
    refine OkR.when fun h Q g => .inl ⟨.str x, x.length, ?_, ⟨by rw [sizeL_eq]; exact of_decide_eq_true h, rfl⟩, g.sh (Ext.refl hs) rfl⟩
    rw [e1, e2, show v = .str x from rv]
  | [.lst xs], ⟨v, _, e1, ⟨a, us, ea, ra, rs⟩, e2⟩ =>
    intro Q g
    subst e1 e2 ea
    exact .inl ⟨.ref a, us.length, rfl, .inl ⟨us, .inl (Rd.mono hs ra), rfl⟩, g.sh (Ext.refl hs) (by rw [rs.length]; rfl)⟩
  | [.tup xs], ⟨v, _, e1, ⟨a, us, ea, ra, rs⟩, e2⟩ =>
    intro Q g
    subst e1 e2 ea
    exact .inl ⟨.ref a, us.length, rfl, .inr ⟨us, SqT.of (hs _ _ ra), rfl⟩, g.sh (Ext.refl hs) (by rw [rs.length]; rfl)⟩
  | [.dct xs], ⟨v, _, e1, ⟨a, ea, q⟩, e2⟩ =>
    intro Q g
    subst e1 e2 ea
    rcases q with ⟨ks, ra, rs⟩ | ⟨ks, ra, rs⟩
    · exact .inr (.inl ⟨a, ks, rfl, Rd.mono hs ra, g.sh (Ext.refl hs) (by rw [rs.length]; rfl)⟩)
    · exact .inr (.inr ⟨a, ks, rfl, Rd.mono hs ra, g.sh (Ext.refl hs) (by rw [rs.length]; rfl)⟩)
end
end B

namespace B
open PySem PySem.Spec PyProof.Rows L2
/-! ### dicts that are read -/
theorem eqd_kPV : ∀ (a b : Key), eqd (kPV a) (kPV b) = decide (a = b)
  | .inl a, .inl b => by rw [key_ll]; rfl
  | .inr a, .inr b => by rw [key_rr]; rfl
  | .inl a, .inr b => by rw [key_lr]; rfl
  | .inr a, .inl b => by rw [key_rl]; rfl
theorem eqds_kPV : ∀ (a b : List Key), eqds (a.map kPV) (b.map kPV) = decide (a = b)
  | [], [] => by simp [eqds]
  | [], _ :: _ => by simp [eqds]
  | _ :: _, [] => by simp [eqds]
  | a :: as, b :: bs => by
    show (eqd (kPV a) (kPV b) && eqds (as.map kPV) (bs.map kPV)) = _
    rw [eqd_kPV, eqds_kPV as bs, Bool.eq_iff_iff]
    simp
theorem eqd_kT (a b : List Key) : eqd (.tup (a.map kPV)) (.tup (b.map kPV)) = decide (a = b) := eqds_kPV a b
def RelOp (mg : MG) (S : Hp) : Option PV → Option V → Prop
  | some y, some v => Rep mg S y v
  | none, none => True
  | _, _ => False
theorem valV_cons {κ : Type} [DecidableEq κ] {k0 k : κ} {v : V} {r : List (κ × V)} : valV ((k0, v) :: r) k = if k0 = k then some v else valV r k := by
  unfold valV
  rw [List.find?_cons]
  by_cases h : k0 = k
  · rw [if_pos h]; simp [h]
  · rw [if_neg h]; simp [h]
section
variable {mg : MG} {S H : Hp}
theorem dget_K {k : Key} : ∀ {kvs : List (PV × PV)} {ks : List (Key × V)}, RepK mg S kvs ks → RelOp mg S (dget kvs (kPV k)) (valV ks k)
  | [], _, r => by cases (show _ = [] from r); exact True.intro
  | (p, y) :: ys, _, ⟨k0, v, r, e, ep, h1, h2⟩ => by
    subst e ep
    rw [valV_cons]
    unfold dget
    rw [eqd_kPV]
    by_cases h : k0 = k
    · rw [if_pos (decide_eq_true h), if_pos h]; exact h1
    · rw [if_neg (by simpa using h), if_neg h]; exact dget_K h2
theorem dget_T {k : List Key} : ∀ {kvs : List (PV × PV)} {ks : List (List Key × V)}, RepT mg S kvs ks → RelOp mg S (dget kvs (.tup (k.map kPV))) (valV ks k)
  | [], _, r => by cases (show _ = [] from r); exact True.intro
  | (p, y) :: ys, _, ⟨k0, v, r, e, ep, h1, h2⟩ => by
    subst e ep
    rw [valV_cons]
    unfold dget
    rw [eqd_kT]
    by_cases h : k0 = k
    · rw [if_pos (decide_eq_true h), if_pos h]; exact h1
    · rw [if_neg (by simpa using h), if_neg h]; exact dget_T h2
theorem key_1 {x : PV} {v : V} (r : Rep mg S x v) (h : x.key1 = true) : ∃ k : Key, x = kPV k ∧ v = kV k := by
  cases x with
  | int i => exact ⟨.inl i, rfl, r⟩
  | str i => exact ⟨.inr i, rfl, r⟩
  | _ => cases h
theorem keys_1 : ∀ {xs : List PV} {vs : List V}, Reps mg S xs vs → xs.all PV.key1 = true → ∃ ks : List Key, xs = ks.map kPV ∧ vs = ks.map kV
  | [], _, r, _ => by cases (show _ = [] from r); exact ⟨[], rfl, rfl⟩
  | x :: xs, _, ⟨v, r, e, h1, h2⟩, h => by
    rw [List.all_cons, Bool.and_eq_true] at h
    obtain ⟨k, e1, e2⟩ := key_1 h1 h.1
    obtain ⟨ks, e3, e4⟩ := keys_1 h2 h.2
    subst e e1 e2 e3 e4
    exact ⟨k :: ks, rfl, rfl⟩
theorem key_T {x : PV} {v : V} (r : Rep mg S x v) (h : x.keyT = true) : ∃ (b : Addr) (ks : List Key), x = .tup (ks.map kPV) ∧ v = .ref b ∧ S b = some (.tup (ks.map kV)) := by
  cases x with
  | tup xs =>
    obtain ⟨b, vs, e, q, rs⟩ := r
    obtain ⟨ks, e1, e2⟩ := keys_1 rs h
    subst e1 e2
    exact ⟨b, ks, rfl, e, q⟩
  | _ => cases h
/-- what a dict holds at a key; the empty one holds nothing -/
def DG (H : Hp) (a : Addr) (y : V) (r : Option V) : Prop := DGet H a y r ∨ (r = none ∧ Rd H a (.dK []) ∧ ∃ (b : Addr) (k : List Key), y = .ref b ∧ H b = some (.tup (k.map kV))) ∨ (r = none ∧ Rd H a (.dT []) ∧ ∃ k, y = kV k)
theorem no_K : ∀ {kvs : List (PV × PV)} {ks : List (Key × V)}, RepK mg S kvs ks → (kvs.all (·.1.keyT)) = true → kvs = [] ∧ ks = []
  | [], _, r, _ => ⟨rfl, r⟩
  | (p, y) :: ys, _, ⟨k0, v, r, e, ep, h1, h2⟩, h => by
    subst ep
    rw [List.all_cons, Bool.and_eq_true] at h
    cases k0 <;> cases h.1
theorem no_T : ∀ {kvs : List (PV × PV)} {ks : List (List Key × V)}, RepT mg S kvs ks → (kvs.all (·.1.key1)) = true → kvs = [] ∧ ks = []
  | [], _, r, _ => ⟨rfl, r⟩
  | (p, y) :: ys, _, ⟨k0, v, r, e, ep, h1, h2⟩, h => by
    subst ep
    rw [List.all_cons, Bool.and_eq_true] at h
    cases h.1
theorem dg_of (hs : Sub S H) {kvs : List (PV × PV)} {x : PV} {u y : V} (rd : Rep mg S (.dct kvs) u) (rx : Rep mg S x y) (hk : kindOk kvs x = true) : ∃ a r, u = .ref a ∧ DG H a y r ∧ RelOp mg S (dget kvs x) r := by
  obtain ⟨a, rfl, q⟩ := rd
  unfold kindOk at hk
  rw [Bool.or_eq_true, Bool.and_eq_true, Bool.and_eq_true] at hk
  rcases hk with ⟨h1, h2⟩ | ⟨h1, h2⟩
  · obtain ⟨k, rfl, rfl⟩ := key_1 rx h1
    rcases q with ⟨ks, q, rk⟩ | ⟨ts, q, rt⟩
    · exact ⟨a, _, rfl, .inl (.inl ⟨ks, k, Rd.mono hs q, rfl, rfl⟩), dget_K rk⟩
    · obtain ⟨rfl, rfl⟩ := no_T rt h2
      exact ⟨a, none, rfl, .inr (.inr ⟨rfl, Rd.mono hs q, k, rfl⟩), True.intro⟩
  · obtain ⟨b, k, rfl, rfl, hb⟩ := key_T rx h1
    rcases q with ⟨ks, q, rk⟩ | ⟨ts, q, rt⟩
    · obtain ⟨rfl, rfl⟩ := no_K rk h2
      exact ⟨a, none, rfl, .inr (.inl ⟨rfl, Rd.mono hs q, b, k, rfl, hs _ _ hb⟩), True.intro⟩
    · exact ⟨a, _, rfl, .inl (.inr ⟨ts, k, b, Rd.mono hs q, rfl, hs _ _ hb, rfl⟩), dget_T rt⟩
end
section
variable {P : Program} {w : World} {H : Hp} {h : Heap} {a : Addr}
theorem empty_t (ok : HOk P w H h) (e : Rd H a (.dK [])) : (a == sysModules) = false ∧ h.DictOfH (tupleKind (mixKind P w)) a ([] : List (List Key × Addr × Value)) := by
  obtain ⟨_, hd, vs, r, o, es, ep, h1, h2, h3, h4, h5, h6⟩ := dk_rd ok e
  cases r
  have e0 : es.toList = [] := by
    cases hE : es.toList with
    | nil => rfl
    | cons d l => rw [hE] at h5; cases h5
  exact ⟨hd, o, es, ep, h1, h2, h3, by rw [e0]; rfl, (fun x m => by simp at m), List.nodup_nil⟩
theorem empty_k (ok : HOk P w H h) (e : Rd H a (.dT [])) : (a == sysModules) = false ∧ h.DictOf (mixKind P w) a ([] : List (Key × Value)) := by
  obtain ⟨_, hd, xs, r, o, es, ep, h1, h2, h3, h4, h5, h6⟩ := dt_rd ok e
  cases r
  have e0 : es = #[] := by
    apply Array.toList_inj.mp
    rw [h4]
    rfl
  subst e0
  exact ⟨hd, o, #[], ep, h1, h2, h3, fun d m => by simp at m, by constructor, List.nodup_nil⟩
end
section
variable {X : Cx} {pins : List (Addr × Obj)} {σ : L2.St} {H : Hp} {s : Shared} {a : Addr} {y v d : V} {u r : Value} {o : Option V} {A : Around} {E : Value → Shared → Prop}
theorem dg_in {Q : Value → Shared → Prop} (hu : A.units + 1 < cLine) (I : Inv X pins σ H s) (g : DG H a y o) (ry : RelV y u) (h : ∀ s', Inv X pins σ H s' → Q (.bool o.isSome) s') : wpAny (model X.prog X.w) A (compareOp .In u (.ref a)) Q E s := by
  rcases g with g | ⟨rfl, e, b, k, rfl, hb⟩ | ⟨rfl, e, k, rfl⟩
  · exact d_in hu I g ry h
  · cases (show u = Value.ref b from ry)
    obtain ⟨hd, dd⟩ := empty_t I.hok e
    exact wpAny_in_heap (tupleKind_room_in1 hu) (key_of I.hok hb) hd dd (h _ (I.tok _))
  · obtain ⟨hd, dd⟩ := empty_k I.hok e
    exact wpAny_in_of (kV_is ry) hd dd.mapOf (h _ (I.tok _))
theorem dg_notIn {Q : Value → Shared → Prop} (hu : A.units + 1 < cLine) (I : Inv X pins σ H s) (g : DG H a y o) (ry : RelV y u) (h : ∀ s', Inv X pins σ H s' → Q (.bool (!o.isSome)) s') : wpAny (model X.prog X.w) A (compareOp .NotIn u (.ref a)) Q E s := by
  rcases g with g | ⟨rfl, e, b, k, rfl, hb⟩ | ⟨rfl, e, k, rfl⟩
  · exact d_notIn hu I g ry h
  · cases (show u = Value.ref b from ry)
    obtain ⟨hd, dd⟩ := empty_t I.hok e
    exact wpAny_notIn_heap (tupleKind_room_in1 hu) (key_of I.hok hb) hd dd (h _ (I.tok _))
  · obtain ⟨hd, dd⟩ := empty_k I.hok e
    exact wpAny_notIn_of (kV_is ry) hd dd.mapOf (h _ (I.tok _))
theorem dg_get2 {Q : Value → Shared → Prop} (hu : A.units + 1 < cLine) (I : Inv X pins σ H s) (g : DG H a y o) (ry : RelV y u) (rd : RelV d r) (h : ∀ w' s', Inv X pins σ H s' → RelV (o.getD d) w' → Q w' s') : wpAny (model X.prog X.w) A (call (.builtin "dict.get") [.ref a, u, r]) Q E s := by
  rcases g with g | ⟨rfl, e, b, k, rfl, hb⟩ | ⟨rfl, e, k, rfl⟩
  · exact d_get2 hu I g ry rd h
  · cases (show u = Value.ref b from ry)
    obtain ⟨hd, dd⟩ := empty_t I.hok e
    exact call_meetsIn PySem.F.slot_dict_get dd.typeIs PySem.F.entry_dict_get (PySem.F.args_dict_get_3 _ _ _) (meetsH_dict_get_default (tupleKind (mixKind X.prog X.w)) a b hd r) ⟨tupleKind_room_in1 hu, k, [], key_of I.hok hb, dd, h _ _ (I.tok _) rd⟩
  · obtain ⟨hd, dd⟩ := empty_k I.hok e
    exact call_meetsIn PySem.F.slot_dict_get dd.typeIs PySem.F.entry_dict_get (PySem.F.args_dict_get_3 _ _ _) (meets_dict_get_default (mixKind X.prog X.w) a (kV_is ry) hd r) ⟨_, dd.mapOf, h _ _ (I.tok _) rd⟩
theorem dg_typeIs (I : Inv X pins σ H s) (g : DG H a y o) : s.TypeIs (.ref a) "dict" := by
  rcases g with g | ⟨_, e, _⟩ | ⟨_, e, _⟩
  · exact dict_typeIs I g
  · exact (empty_t I.hok e).2.typeIs
  · exact (empty_k I.hok e).2.typeIs
end
section
variable {X : Cx}
theorem op_inD (hu : X.A.units + 1 < cLine) : OpR X (compareOp .In) (fun x y H Q => ∃ a o, y = .ref a ∧ DG H a x o ∧ Q (.bl o.isSome) H) := by
  intro pins s σ H x y v u Q I rx ry h
  obtain ⟨a, o, rfl, g, q⟩ := h
  cases ry
  exact dg_in hu I g rx fun s' I' => ⟨.bl o.isSome, H, I', rfl, q⟩
theorem op_notinD (hu : X.A.units + 1 < cLine) : OpR X (compareOp .NotIn) (fun x y H Q => ∃ a o, y = .ref a ∧ DG H a x o ∧ Q (.bl (!o.isSome)) H) := by
  intro pins s σ H x y v u Q I rx ry h
  obtain ⟨a, o, rfl, g, q⟩ := h
  cases ry
  exact dg_notIn hu I g rx fun s' I' => ⟨.bl (!o.isSome), H, I', rfl, q⟩
theorem relOp_some {mg : MG} {S : Hp} {x : Option PV} {v : Option V} (r : RelOp mg S x v) : x.isSome = v.isSome := by
  cases x <;> cases v <;> first | rfl | exact r.elim
end
end B

namespace B
open PySem PySem.Spec PyProof.Rows L2
section
variable {X : Cx} {Γ : List Own} {a b c e : Expr} {es : List Expr} {fa fb fc f : Ev} {fs : List Ev} {pos : Pos} {o : Own} {os : List Own}
/-! ### == -/
theorem scal_V {mg : MG} {S : Hp} {x y : PV} {v u : V} (rx : Rep mg S x v) (ry : Rep mg S y u) (h : scalP x y = true) : scal v u = true ∧ decide (v = u) = eqd x y := by
  cases x <;> cases y <;> first | (cases h; done) | skip
  all_goals (cases (show v = _ from rx); cases (show u = _ from ry))
  all_goals refine ⟨rfl, ?_⟩
  all_goals simp [eqd]
  all_goals rfl
theorem flat_V {mg : MG} {S : Hp} {x : PV} {v : V} (r : Rep mg S x v) (h : x.flat = true) : flatV v = true := by
  cases x <;> first | (cases h; done) | (cases (show v = _ from r); rfl)
theorem eqd_V {mg : MG} {S : Hp} {x y : PV} {v u : V} (rx : Rep mg S x v) (ry : Rep mg S y u) (hx : x.flat = true) (hy : y.flat = true) : eqV v u = eqd x y := by
  cases x <;> first | (cases hx; done) | skip
  all_goals (cases y <;> first | (cases hy; done) | skip)
  all_goals (cases (show v = _ from rx); cases (show u = _ from ry))
  all_goals simp [eqd, eqV, b2i]
  all_goals rfl
theorem flats_V {mg : MG} {S : Hp} : ∀ {ys : List PV} {vs : List V}, Reps mg S ys vs → ys.all PV.flat = true → vs.all flatV = true
  | [], _, r, _ => by cases (show _ = [] from r); rfl
  | y :: ys, _, ⟨v, r, e, h, t⟩, f => by
    rw [List.all_cons, Bool.and_eq_true] at f
    rw [e, List.all_cons, flat_V h f.1, flats_V t f.2]
    rfl
/-- two rows of flat values -/
def eqVs : List V → List V → Bool
  | [], [] => true
  | x :: xs, y :: ys => eqV x y && eqVs xs ys
  | _, _ => false
theorem eqVs_len : ∀ {xs ys : List V}, xs.length ≠ ys.length → eqVs xs ys = false
  | [], [], h => absurd rfl h
  | [], _ :: _, _ => rfl
  | _ :: _, [], _ => rfl
  | x :: xs, y :: ys, h => by
    show (eqV x y && eqVs xs ys) = false
    rw [eqVs_len fun e => h (by simp [e]), Bool.and_false]
theorem eqVs_range : ∀ {xs ys : List V}, xs.length = ys.length → (List.range xs.length).all (fun j => eqV (xs.getD j .non) (ys.getD j .non)) = eqVs xs ys
  | [], [], _ => rfl
  | [], _ :: _, h => by simp at h
  | _ :: _, [], h => by simp at h
  | x :: xs, y :: ys, h => by
    rw [List.length_cons, List.range_succ_eq_map, List.all_cons, List.all_map]
    show (eqV x y && _) = (eqV x y && eqVs xs ys)
    rw [← eqVs_range (xs := xs) (ys := ys) (by simpa using h)]
    rfl
theorem eqds_V {mg : MG} {S : Hp} : ∀ {xs ys : List PV} {vs us : List V}, Reps mg S xs vs → Reps mg S ys us → xs.all PV.flat = true → ys.all PV.flat = true → eqVs vs us = eqds xs ys
  | [], [], _, _, r, q, _, _ => by cases (show _ = [] from r); cases (show _ = [] from q); rfl
  | [], y :: ys, _, _, r, ⟨v, t, e, _, _⟩, _, _ => by cases (show _ = [] from r); rw [e]; rfl
  | x :: xs, [], _, _, ⟨v, t, e, _, _⟩, q, _, _ => by cases (show _ = [] from q); rw [e]; rfl
  | x :: xs, y :: ys, _, _, ⟨v, r, e, h, t⟩, ⟨v', r', e', h', t'⟩, f, f' => by
    rw [List.all_cons, Bool.and_eq_true] at f f'
    subst e e'
    show (eqV v v' && eqVs r r') = (eqd x y && eqds xs ys)
    rw [eqd_V h h' f.1 f'.1, eqds_V t t' f.2 f'.2]
theorem items_eq {A : Around} {s : Shared} {xs ys : List V} {us ws : List Value} (r : Vals xs us) (q : Vals ys ws) (f : xs.all flatV = true) (g : ys.all flatV = true) (j : Nat) (h1 : j < us.toArray.size) (h2 : j < ws.toArray.size) :
    SeqAt.EqAt A s us.toArray[j] ws.toArray[j] (eqV (xs.getD j .non) (ys.getD j .non)) := by
  have k1 : j < xs.length := by rw [r.length]; simpa using h1
  have k2 : j < ys.length := by rw [q.length]; simpa using h2
  obtain ⟨u, e1, ru⟩ := r.get (show xs[j]? = some xs[j] by simp [k1])
  obtain ⟨w, e2, rw'⟩ := q.get (show ys[j]? = some ys[j] by simp [k2])
  have h1' : j < us.length := by simpa using h1
  have h2' : j < ws.length := by simpa using h2
  have e1 : us[j] = u := by rw [List.getElem?_eq_getElem h1'] at e1; exact Option.some.inj e1
  have e2 : ws[j] = w := by rw [List.getElem?_eq_getElem h2'] at e2; exact Option.some.inj e2
  have d1 : xs.getD j .non = xs[j] := by simp [List.getD, k1]
  have d2 : ys.getD j .non = ys[j] := by simp [List.getD, k2]
  rw [d1, d2, List.getElem_toArray, List.getElem_toArray, e1, e2]
  exact eqAt_V ru rw' (List.all_eq_true.mp f _ (List.getElem_mem k1)) (List.all_eq_true.mp g _ (List.getElem_mem k2))
def rEqL (K : PySem.W.Frag) (t : Bool → Bool) : R2 := fun v u H Q => ∃ a b vs us, v = .ref a ∧ u = .ref b ∧ ((SqL K H a vs ∧ SqL K H b us) ∨ (SqT K H a vs ∧ SqT K H b us)) ∧ vs.all flatV = true ∧ us.all flatV = true ∧ Q (.bl (t (eqVs vs us))) H
theorem tup_range {xs ys : List V} : ((List.range (min xs.length ys.length)).all (fun j => eqV (xs.getD j .non) (ys.getD j .non)) && xs.length == ys.length) = eqVs xs ys := by
  by_cases h : xs.length = ys.length
  · rw [← h, Nat.min_self, eqVs_range h]
    simp
  · rw [eqVs_len h]
    simp [h]
theorem op_eqL (hu : X.A.units < cLine) : OpR X (compareOp .Eq) (rEqL X.K id) := by
  intro pins s σ H x y v u Q I rx ry h
  obtain ⟨a, b, vs, us, rfl, rfl, hq, f, g, q⟩ := h
  cases rx
  cases ry
  have fin : EP X pins σ Q (.bool (eqVs vs us)) s := ⟨.bl (eqVs vs us), H, I, rfl, q⟩
  rcases hq with ⟨h1, h2⟩ | ⟨h1, h2⟩
  · obtain ⟨its, r1, p1, z1⟩ := I.list h1
    obtain ⟨its2, r2, p2, z2⟩ := I.list h2
    by_cases hl : vs.length = us.length
    · refine SeqAt.eq_listAt p1.isList p2.isList (by simp [← r1.length, ← r2.length, hl]) hu (items_eq r1 r2 f g) ?_
      rw [List.size_toArray, ← r1.length, eqVs_range hl]
      exact fin
    · refine SeqAt.eq_list_lengthsAt p1.isList p2.isList (by simp [← r1.length, ← r2.length, hl]) hu ?_
      rw [eqVs_len hl] at fin
      exact fin
  · obtain ⟨its, r1, p1, z1⟩ := I.tuple h1
    obtain ⟨its2, r2, p2, z2⟩ := I.tuple h2
    refine SeqAt.eq_tupleAt (show s.heap.IsTuple a its.toArray from p1) (show s.heap.IsTuple b its2.toArray from p2) hu (items_eq r1 r2 f g) ?_
    rw [List.size_toArray, List.size_toArray, ← r1.length, ← r2.length, tup_range]
    exact fin
theorem op_neL (hu : X.A.units < cLine) : OpR X (compareOp .NotEq) (rEqL X.K not) := by
  intro pins s σ H x y v u Q I rx ry h
  obtain ⟨a, b, vs, us, rfl, rfl, hq, f, g, q⟩ := h
  cases rx
  cases ry
  have fin : EP X pins σ Q (.bool (!eqVs vs us)) s := ⟨.bl (!eqVs vs us), H, I, rfl, q⟩
  rcases hq with ⟨h1, h2⟩ | ⟨h1, h2⟩
  · obtain ⟨its, r1, p1, z1⟩ := I.list h1
    obtain ⟨its2, r2, p2, z2⟩ := I.list h2
    by_cases hl : vs.length = us.length
    · refine SeqAt.RcNeAt.lists p1.isList p2.isList (by simp [← r1.length, ← r2.length, hl]) hu (items_eq r1 r2 f g) _ _ _ _ ?_
      rw [List.size_toArray, ← r1.length, eqVs_range hl]
      exact fin
    · refine SeqAt.RcNeAt.lists_lengths p1.isList p2.isList (by simp [← r1.length, ← r2.length, hl]) hu _ _ _ _ ?_
      rw [eqVs_len hl] at fin
      exact fin
  · obtain ⟨its, r1, p1, z1⟩ := I.tuple h1
    obtain ⟨its2, r2, p2, z2⟩ := I.tuple h2
    refine SeqAt.RcNeAt.tuples (show s.heap.IsTuple a its.toArray from p1) (show s.heap.IsTuple b its2.toArray from p2) hu (items_eq r1 r2 f g) _ _ _ _ ?_
    rw [List.size_toArray, List.size_toArray, ← r1.length, ← r2.length, tup_range]
    exact fin
theorem o_eq (hu : X.A.units + 1 < cLine) : OpB X (compareOp .Eq) .s oEq := fun W => by
  refine ⟨_, op_eq.or (op_eqL (X := XB X W) (Nat.lt_of_succ_lt hu)), fun x y v u S H hs rx ry => ?_⟩
  have gen : oEq x y = when (scalP x y) (.ok (.bl (eqd x y))) → OkR (oEq x y) fun z => ∀ Q : VK, Good X.mg S H .s z Q → rEq v u H Q ∨ rEqL X.K id v u H Q := fun e => by
    rw [e]
    refine OkR.when fun h Q g => .inl ?_
    obtain ⟨h1, h2⟩ := scal_V rx ry h
    exact ⟨h1, g.sh (Ext.refl hs) (by rw [h2]; rfl)⟩
  cases x <;> cases y <;> first | exact gen rfl | skip
  case tup.tup xs ys =>
    refine OkR.when fun h Q g => .inr ?_
    rw [Bool.and_eq_true] at h
    obtain ⟨a, vs, rfl, q1, r1⟩ := rx
    obtain ⟨b, us, rfl, q2, r2⟩ := ry
    exact ⟨a, b, vs, us, rfl, rfl, .inr ⟨SqT.of (hs _ _ q1), SqT.of (hs _ _ q2)⟩, flats_V r1 h.1, flats_V r2 h.2, g.sh (Ext.refl hs) (by rw [eqds_V r1 r2 h.1 h.2]; rfl)⟩
  case lst.lst xs ys =>
    refine OkR.when fun h Q g => .inr ?_
    rw [Bool.and_eq_true] at h
    obtain ⟨a, vs, rfl, q1, r1⟩ := rx
    obtain ⟨b, us, rfl, q2, r2⟩ := ry
    exact ⟨a, b, vs, us, rfl, rfl, .inl ⟨.inl (Rd.mono hs q1), .inl (Rd.mono hs q2)⟩, flats_V r1 h.1, flats_V r2 h.2, g.sh (Ext.refl hs) (by rw [eqds_V r1 r2 h.1 h.2]; rfl)⟩
theorem o_ne (hu : X.A.units + 1 < cLine) : OpB X (compareOp .NotEq) .s oNe := fun W => by
  refine ⟨_, op_ne.or (op_neL (X := XB X W) (Nat.lt_of_succ_lt hu)), fun x y v u S H hs rx ry => ?_⟩
  have gen : oNe x y = when (scalP x y) (.ok (.bl (!eqd x y))) → OkR (oNe x y) fun z => ∀ Q : VK, Good X.mg S H .s z Q → rNe v u H Q ∨ rEqL X.K not v u H Q := fun e => by
    rw [e]
    refine OkR.when fun h Q g => .inl ?_
    obtain ⟨h1, h2⟩ := scal_V rx ry h
    exact ⟨h1, g.sh (Ext.refl hs) (by rw [h2]; rfl)⟩
  cases x <;> cases y <;> first | exact gen rfl | skip
  case tup.tup xs ys =>
    refine OkR.when fun h Q g => .inr ?_
    rw [Bool.and_eq_true] at h
    obtain ⟨a, vs, rfl, q1, r1⟩ := rx
    obtain ⟨b, us, rfl, q2, r2⟩ := ry
    exact ⟨a, b, vs, us, rfl, rfl, .inr ⟨SqT.of (hs _ _ q1), SqT.of (hs _ _ q2)⟩, flats_V r1 h.1, flats_V r2 h.2, g.sh (Ext.refl hs) (by rw [eqds_V r1 r2 h.1 h.2]; rfl)⟩
  case lst.lst xs ys =>
    refine OkR.when fun h Q g => .inr ?_
    rw [Bool.and_eq_true] at h
    obtain ⟨a, vs, rfl, q1, r1⟩ := rx
    obtain ⟨b, us, rfl, q2, r2⟩ := ry
    exact ⟨a, b, vs, us, rfl, rfl, .inl ⟨.inl (Rd.mono hs q1), .inl (Rd.mono hs q2)⟩, flats_V r1 h.1, flats_V r2 h.2, g.sh (Ext.refl hs) (by rw [eqds_V r1 r2 h.1 h.2]; rfl)⟩
theorem bl_eq (x y z : PV) (h : oEq x y = .ok z) : ∃ k, z = .bl k := by
  have w : ∀ {b : Bool} {k : Bool}, when b (.ok (.bl k)) = .ok z → ∃ k, z = .bl k := fun {b k} e => by
    cases b with
    | true => cases e; exact ⟨_, rfl⟩
    | false => cases e
  cases x <;> cases y <;> exact w h
theorem bl_ne (x y z : PV) (h : oNe x y = .ok z) : ∃ k, z = .bl k := by
  have w : ∀ {b : Bool} {k : Bool}, when b (.ok (.bl k)) = .ok z → ∃ k, z = .bl k := fun {b k} e => by
    cases b with
    | true => cases e; exact ⟨_, rfl⟩
    | false => cases e
  cases x <;> cases y <;> exact w h
theorem bl_lt (x y z : PV) (h : oLt x y = .ok z) : ∃ k, z = .bl k := by cases x <;> cases y <;> first | (cases h; done) | (cases h; exact ⟨_, rfl⟩)
theorem bl_le (x y z : PV) (h : oLe x y = .ok z) : ∃ k, z = .bl k := by cases x <;> cases y <;> first | (cases h; done) | (cases h; exact ⟨_, rfl⟩)
theorem bl_gt (x y z : PV) (h : oGt x y = .ok z) : ∃ k, z = .bl k := by cases x <;> cases y <;> first | (cases h; done) | (cases h; exact ⟨_, rfl⟩)
theorem bl_ge (x y z : PV) (h : oGe x y = .ok z) : ∃ k, z = .bl k := by cases x <;> cases y <;> first | (cases h; done) | (cases h; exact ⟨_, rfl⟩)
theorem bl_in (x y z : PV) (h : oIn x y = .ok z) : ∃ k, z = .bl k := by
  have w : ∀ {b : Bool} {k : Bool}, when b (.ok (.bl k)) = .ok z → ∃ k, z = .bl k := fun {b k} e => by
    cases b with
    | true => cases e; exact ⟨_, rfl⟩
    | false => cases e
  cases y <;> cases x <;> first | exact w h | (cases h; done) | (cases h; exact ⟨_, rfl⟩)
theorem bl_notin (x y z : PV) (h : oNotIn x y = .ok z) : ∃ k, z = .bl k := by
  unfold oNotIn at h
  cases hi : oIn x y with
  | no => rw [hi] at h; cases h
  | err c => rw [hi] at h; cases h
  | ok t =>
    obtain ⟨k, rfl⟩ := bl_in x y t hi
    rw [hi] at h
    cases h
    exact ⟨_, rfl⟩
/-! ### in -/
theorem any_V {mg : MG} {S : Hp} {x : PV} {v : V} (rx : Rep mg S x v) (hx : x.flat = true) : ∀ {ys : List PV} {vs : List V}, Reps mg S ys vs → ys.all PV.flat = true → inV v vs = ys.any fun y => eqd y x
  | [], _, r, _ => by cases (show _ = [] from r); rfl
  | y :: ys, _, ⟨u, r, e, h, t⟩, f => by
    rw [List.all_cons, Bool.and_eq_true] at f
    rw [e]
    show (eqV u v || inV v r) = _
    rw [any_V rx hx t f.2, eqd_V h rx f.1 hx, List.any_cons]
theorem o_in (hu : X.A.units + 1 < cLine) : OpB X (compareOp .In) .s oIn := fun W => by
  refine ⟨_, op_in_str.or (op_in_seq.or (op_inD (X := XB X W) hu)), fun x y v u S H hs rx ry => ?_⟩
  cases y with
  | lst ys =>
    rw [show oIn x (.lst ys) = when (x.flat && ys.all PV.flat) (.ok (.bl (ys.any fun y => eqd y x))) by cases x <;> rfl]
    refine OkR.when fun h Q g => .inr (.inl ?_)
    rw [Bool.and_eq_true] at h
    obtain ⟨a, vs, ea, ra, rs⟩ := ry
    exact ⟨a, vs, ea, .inl (.inl (Rd.mono hs ra)), flat_V rx h.1, flats_V rs h.2, g.sh (Ext.refl hs) (by rw [any_V rx h.1 rs h.2]; rfl)⟩
  | tup ys =>
    rw [show oIn x (.tup ys) = when (x.flat && ys.all PV.flat) (.ok (.bl (ys.any fun y => eqd y x))) by cases x <;> rfl]
    refine OkR.when fun h Q g => .inr (.inl ?_)
    rw [Bool.and_eq_true] at h
    obtain ⟨a, vs, ea, ra, rs⟩ := ry
    exact ⟨a, vs, ea, .inr (SqT.of (hs _ _ ra)), flat_V rx h.1, flats_V rs h.2, g.sh (Ext.refl hs) (by rw [any_V rx h.1 rs h.2]; rfl)⟩
  | dct kvs =>
    rw [show oIn x (.dct kvs) = when (kindOk kvs x) (.ok (.bl (dget kvs x).isSome)) by cases x <;> rfl]
    refine OkR.when fun h Q g => .inr (.inr ?_)
    obtain ⟨a, r, e, dg, ro⟩ := dg_of hs ry rx h
    exact ⟨a, r, e, dg, g.sh (Ext.refl hs) (by rw [relOp_some ro]; rfl)⟩
  | str z =>
    cases x with
    | str w => exact fun Q g => .inl ⟨w, z, rx, ry, g.sh (Ext.refl hs) rfl⟩
    | _ => exact True.intro
  | _ => cases x <;> exact True.intro
theorem o_notin (hu : X.A.units + 1 < cLine) : OpB X (compareOp .NotIn) .s oNotIn := fun W => by
  refine ⟨_, L2.op_notIn_str.or (op_notIn_seq.or (op_notinD (X := XB X W) hu)), fun x y v u S H hs rx ry => ?_⟩
  unfold oNotIn
  cases y with
  | lst ys =>
    rw [show oIn x (.lst ys) = when (x.flat && ys.all PV.flat) (.ok (.bl (ys.any fun y => eqd y x))) by cases x <;> rfl]
    cases hb : (x.flat && ys.all PV.flat) with
    | false => exact True.intro
    | true =>
      intro Q g
      rw [Bool.and_eq_true] at hb
      obtain ⟨a, vs, ea, ra, rs⟩ := ry
      exact .inr (.inl ⟨a, vs, ea, .inl (.inl (Rd.mono hs ra)), flat_V rx hb.1, flats_V rs hb.2, g.sh (Ext.refl hs) (by rw [any_V rx hb.1 rs hb.2]; rfl)⟩)
  | tup ys =>
    rw [show oIn x (.tup ys) = when (x.flat && ys.all PV.flat) (.ok (.bl (ys.any fun y => eqd y x))) by cases x <;> rfl]
    cases hb : (x.flat && ys.all PV.flat) with
    | false => exact True.intro
    | true =>
      intro Q g
      rw [Bool.and_eq_true] at hb
      obtain ⟨a, vs, ea, ra, rs⟩ := ry
      exact .inr (.inl ⟨a, vs, ea, .inr (SqT.of (hs _ _ ra)), flat_V rx hb.1, flats_V rs hb.2, g.sh (Ext.refl hs) (by rw [any_V rx hb.1 rs hb.2]; rfl)⟩)
  | dct kvs =>
    rw [show oIn x (.dct kvs) = when (kindOk kvs x) (.ok (.bl (dget kvs x).isSome)) by cases x <;> rfl]
    cases hb : kindOk kvs x with
    | false => exact True.intro
    | true =>
      intro Q g
      obtain ⟨a, r, e, dg, ro⟩ := dg_of hs ry rx hb
      exact .inr (.inr ⟨a, r, e, dg, g.sh (Ext.refl hs) (by rw [relOp_some ro]; rfl)⟩)
  | str z =>
    cases x with
    | str w => exact fun Q g => .inl ⟨w, z, rx, ry, g.sh (Ext.refl hs) rfl⟩
    | _ => exact True.intro
  | _ => cases x <;> exact True.intro
/-! ### a chain of two comparisons -/
theorem chain_of {r r' : R2} {g g' : PV → PV → R PV} {W : WK} {σ : L2.St} {H : Hp} {Q : VK}
    (hr : ∀ (x y : PV) (v u : V) (S H : Hp), Sub S H → Rep X.mg S x v → Rep X.mg S y u → OkR (g x y) fun z => ∀ Q : VK, Good X.mg S H .s z Q → r v u H Q)
    (hr' : ∀ (x y : PV) (v u : V) (S H : Hp), Sub S H → Rep X.mg S x v → Rep X.mg S y u → OkR (g' x y) fun z => ∀ Q : VK, Good X.mg S H .s z Q → r' v u H Q)
    (h : tB X Γ .s (eChain g g' fa fb fc) W σ H Q) : tChain r r' (tB X Γ .s fa W) (tB X Γ .s fb W) (tB X Γ .s fc W) σ H Q := by
  obtain ⟨S₀, H₀, env, S, rl, q⟩ := h
  unfold eChain at q
  refine ⟨S₀, H₀, env, S, rl, ?_⟩
  cases ha : fa env with
  | no => rw [ha] at q; exact q.elim
  | err c => rw [ha] at q; exact q
  | ok x =>
    rw [ha, R.bind_ok] at q
    refine Good.of fun v H1 S1 x1 r1 => ⟨S₀, H₀, env, S1, rl.grow x1, ?_⟩
    cases hb : fb env with
    | no => rw [hb] at q; exact q.elim
    | err c => rw [hb] at q; exact fun H2 S2 x2 => q H2 S2 (x1.trans x2)
    | ok y =>
      rw [hb, R.bind_ok] at q
      refine Good.of fun u H2 S2 x2 r2 => ?_
      have z := hr x y v u S2 H2 x2.sh (r1.mono x2.s) r2
      cases hg : g x y with
      | no => rw [hg] at q; exact q.elim
      | err c => rw [hg] at z; exact z.elim
      | ok w =>
        rw [hg] at z q
        rw [R.bind_ok] at q
        refine z _ (Good.of fun p H3 S3 x3 r3 => ?_)
        cases ht : asB w with
        | no => rw [ht] at q; exact q.elim
        | err c => exact (no_err_asB w c ht).elim
        | ok t =>
          rw [ht, R.bind_ok] at q
          have x123 := (x1.trans x2).trans x3
          refine ⟨t, asB_V r3 ht, ?_⟩
          cases t with
          | false =>
            rw [if_neg Bool.false_ne_true] at q ⊢
            exact Good.sh q x123 rfl
          | true =>
            rw [if_pos rfl] at q ⊢
            refine ⟨S₀, H₀, env, S3, ((rl.grow x1).grow x2).grow x3, ?_⟩
            cases hc : fc env with
            | no => rw [hc] at q; exact q.elim
            | err c => rw [hc] at q; exact fun H4 S4 x4 => q H4 S4 (x123.trans x4)
            | ok y2 =>
              rw [hc, R.bind_ok] at q
              refine Good.of fun u2 H4 S4 x4 r4 => ?_
              have z2 := hr' y y2 u u2 S4 H4 x4.sh (r2.mono (x3.s.trans x4.s)) r4
              cases hg2 : g' y y2 with
              | no => rw [hg2] at q; exact q.elim
              | err c => rw [hg2] at z2; exact z2.elim
              | ok w2 =>
                rw [hg2] at z2 q
                exact z2 Q (Good.of fun p2 H5 S5 x5 r5 => Good.sh q (x123.trans (x4.trans x5)) r5)
theorem b_chain {op op' : CmpOp} {g g' : PV → PV → R PV} (ho : OpB X (compareOp op) .s g) (ho' : OpB X (compareOp op') .s g') (ha : PEB X Γ a .s fa) (hb : PEB X Γ b .s fb) (hc : PEB X Γ c .s fc)
    (hm : lastMarks [op, op'] [b, c] = false := by with_unfolding_all rfl) : PEB X Γ (.Compare a [op, op'] [b, c] pos) .s (eChain g g' fa fb fc) := .mk fun W => by
  obtain ⟨r, h1, h2⟩ := ho W
  obtain ⟨r', h1', h2'⟩ := ho' W
  exact pimp (pe_chain h1 h1' (ha W) (hb W) (hc W) hm) fun σ H Q h => chain_of h2 h2' h
/-! ### items -/
/-- d[y], there -/
def rIxD : R2 := fun x y H Q => ∃ a v, x = .ref a ∧ DGet H a y (some v) ∧ Q v H
theorem ix_dict (hu : X.A.units + 1 < cLine) : IxR X rIxD := by
  intro value slice pins s σ H x y v u Q I rx ry h hs
  obtain ⟨a, z, rfl, g, q⟩ := h
  cases rx
  have hT := dict_typeIs I g
  unfold subscriptTail
  refine wpAny_bind ?_
  rw [getitemInPython_of_ne hT.not_modules]
  refine wpAny_bind (wpAny_specialOf hT PySem.F.slot_dict_getitem.lookup ?_)
  have got : wpAny (model X.prog X.w) X.A (subscripted slice false (.ref a) u) (fun r s3 => wpAny (model X.prog X.w) X.A (letTemporaryGo value (.ref a) r >>= fun _ => pure r) (EP X pins σ Q) X.xe s3) X.xe s := by
    rw [hs]
    exact wpAny_operating (d_getItem hu I g ry fun w' s3 I3 rw' => wpAny_bind (wpAny_letTemporaryGo (wpAny_pure ⟨z, H, I3, rw', q⟩)))
  first
    | exact wpAny_pure (wpAny_bind got)
    | exact wpAny_bind (wpAny_pure (wpAny_bind got))
    | exact wpAny_bind got
theorem dg_some {H : Hp} {a : Addr} {y v : V} (g : DG H a y (some v)) : DGet H a y (some v) := by
  rcases g with g | ⟨e, _⟩ | ⟨e, _⟩
  · exact g
  · cases e
  · cases e
theorem atI_V {mg : MG} {S : Hp} {ys : List PV} {vs : List V} (r : Reps mg S ys vs) {i : Int} {y : PV} (h : B.atI ys i = some y) : ∃ v, L2.atI vs i = some v ∧ Rep mg S y v := by
  unfold B.atI at h
  unfold L2.atI
  rw [show L2.ixN vs.length i = B.ixN ys.length i by rw [r.length]; rfl]
  cases e : B.ixN ys.length i with
  | none => rw [e] at h; cases h
  | some j =>
    rw [e] at h
    obtain ⟨v, h1, h2⟩ := r.get (show ys[j]? = some y from h)
    exact ⟨v, h1, h2⟩
theorem two_ix {r : R2} (hr : ∀ (x y : PV) (v u : V) (S H : Hp), Sub S H → Rep X.mg S x v → Rep X.mg S y u → OkR (oIx x y) fun z => ∀ Q : VK, Good X.mg S H .s z Q → r v u H Q) (hi : ∀ W, IxR (XB X W) r)
    (ha : PEB X Γ a .s fa) (hb : PEB X Γ b .s fb) (hs : PlainIx b) : PEB X Γ (.Subscript a b pos) .s (e2 oIx fa fb) := .mk fun W =>
  pimp (pe_ix (hi W) (ha W) (hb W) hs) fun σ H Q h => two hr h
theorem b_ix (hu : X.A.units + 1 < cLine) (ha : PEB X Γ a .s fa) (hb : PEB X Γ b .s fb) (hs : PlainIx b := by intro _ _; rfl) : PEB X Γ (.Subscript a b pos) .s (e2 oIx fa fb) := by
  refine two_ix (r := fun x y H Q => rIx X.K x y H Q ∨ rIxD x y H Q) (fun x y v u S H hs rx ry => ?_) (fun W => ix_seq.or (ix_dict (X := XB X W) hu)) ha hb hs
  cases x with
  | lst xs =>
    cases y with
    | int i =>
      refine OkR.opt fun z hz Q g => ?_
      obtain ⟨p, vs, ep, rp, rs⟩ := rx
      obtain ⟨w, h1, h2⟩ := atI_V rs hz
      exact .inl (.inl ⟨p, vs, i, w, ep, ry, .inl (Rd.mono hs rp), h1, g.sh (Ext.refl hs) h2⟩)
    | _ => exact True.intro
  | tup xs =>
    cases y with
    | int i =>
      refine OkR.opt fun z hz Q g => ?_
      obtain ⟨p, vs, ep, rp, rs⟩ := rx
      obtain ⟨w, h1, h2⟩ := atI_V rs hz
      exact .inl (.inr (.inl ⟨p, vs, i, w, ep, ry, SqT.of (hs _ _ rp), h1, g.sh (Ext.refl hs) h2⟩))
    | _ => exact True.intro
  | str x =>
    cases y with
    | int i =>
      refine OkR.when fun h => OkR.map (OkR.opt fun z hz Q g => ?_)
      exact .inl (.inr (.inr ⟨x, i, z, rx, ry, by rw [sizeL_eq]; exact of_decide_eq_true h, hz, g.sh (Ext.refl hs) rfl⟩))
    | _ => exact True.intro
  | dct kvs =>
    rw [show oIx (.dct kvs) y = when (kindOk kvs y) (ofOpt (dget kvs y)) by cases y <;> rfl]
    refine OkR.when fun h => OkR.opt fun z hz Q g => .inr ?_
    obtain ⟨a, r, e, dg, ro⟩ := dg_of hs rx ry h
    rw [hz] at ro
    cases r with
    | none => exact ro.elim
    | some w => exact ⟨a, w, e, dg_some dg, g.sh (Ext.refl hs) ro⟩
  | _ => cases y <;> exact True.intro
end
end B

namespace B
open PySem PySem.Spec PyProof.Rows L2
section
variable {X : Cx} {Γ : List Own} {a b c e : Expr} {es : List Expr} {fa fb fc f : Ev} {fs : List Ev} {pos : Pos} {o : Own} {os : List Own}
/-! ### slices -/
def rSlS : V → Option Int → Option Int → Hp → VK → Prop := fun x lo hi H Q => ∃ z, x = .str z ∧ z.length ≤ sizeLine ∧ Q (.str (cutS z lo hi)) H
theorem part_of {v : Value} {o : Option Int} (p : IsPart v o) : ∃ q : Option (Int × Tok), v = partValue q ∧ q.map (·.1) = o := by
  cases p with
  | none => exact ⟨none, rfl, rfl⟩
  | int i t => exact ⟨some (i, t), rfl, rfl⟩
theorem sl_str : SlR X rSlS := by
  intro pins s σ H x v vl vu lo hi sl Q I rx hs pl pu h
  obtain ⟨z, rfl, hz, q⟩ := h
  obtain ⟨t, rfl⟩ := rx
  obtain ⟨l, rfl, hl⟩ := part_of pl
  obtain ⟨u, rfl, hu⟩ := part_of pu
  refine ⟨"str", _, PySem.F.slot_str_getitem.lookup, typeIs_str s z t, wpAny_getItem_str_slice (l := l) (u := u) (st := none) hs rfl ?_⟩
  unfold sliceMade
  refine post_val_or_made (fun _ => ?_) fun t' k => ?_
  · unfold Str.length
    rw [List.size_toArray]
    refine Nat.le_trans (List.length_filterMap_le _ _) (Nat.le_trans (PyProof.Rows.indices_len_le _ _ _) hz)
  · refine ⟨.str (cutS z lo hi), H, I.tok _, ⟨t', ?_⟩, q⟩
    congr 1
    unfold cutS slicePicked
    rw [hl, hu]
    simp
theorem sIx_eq (n d : Nat) (o : Option Int) : HT.sIx n d o = B.sIx n d o := by
  cases o with
  | none => rfl
  | some i =>
    rfl
theorem cut_V {mg : MG} {S : Hp} {ys : List PV} {vs : List V} (r : Reps mg S ys vs) (lo hi : Option Int) : Reps mg S (cut ys lo hi) (cutV vs lo hi) := by
  unfold cut cutV
  rw [sIx_eq, sIx_eq, r.length]
  exact (r.drop _).take _
/-- a part of a slice -/
def tPB (X : Cx) (Γ : List Own) (f : Option Ev) (W : WK) : TO := fun σ H Q => ∃ S₀ H₀ env S, Rel X.mg S₀ H₀ Γ env σ S H ∧ (match cbound f env with
  | .ok i => ∀ H' S', Ext S H S' H' → Q i H'
  | .err c => Err S H (W c σ)
  | .no => False)
structure POB (X : Cx) (Γ : List Own) (e : Option Expr) (f : Option Ev) : Prop where mk ::
  run : ∀ W, PO (XB X W) e (tPB X Γ f W)
instance {X : Cx} {Γ : List Own} {e : Option Expr} {f : Option Ev} : CoeFun (POB X Γ e f) fun _ => ∀ W, PO (XB X W) e (tPB X Γ f W) := ⟨POB.run⟩
theorem p_none : POB X Γ none none := .mk fun W pins s σ H Q I ⟨S₀, H₀, env, S, r, q⟩ => po_none pins s σ H Q I (q H S (Ext.refl r.ext.sh))
theorem p_some (h : PEB X Γ e .s f) : POB X Γ (some e) (some f) := .mk fun W pins s σ H Q I ⟨S₀, H₀, env, S, r, q⟩ => po_some (h W) pins s σ H Q I ⟨S₀, H₀, env, S, r, by
  rw [show cbound (some f) env = (f env).bind asI from rfl] at q
  cases hf : f env with
  | no => rw [hf] at q; exact q.elim
  | err c => rw [hf] at q; exact q
  | ok y =>
    rw [hf, R.bind_ok] at q
    refine Good.of fun v H' S' x rv => ?_
    cases y with
    | int i => exact ⟨i, rv, q H' S' x⟩
    | _ => exact q.elim⟩
theorem b_cut {lo hi : Option Expr} {fl fh : Option Ev} {p2 : Pos} (ha : PEB X Γ a .s fa) (hl : POB X Γ lo fl) (hh : POB X Γ hi fh) : PEB X Γ (.Subscript a (.Slice lo hi none p2) pos) (.o []) (eCut fl fh fa) := .mk fun W =>
  pimp (pe_slice (sl_str.or sl_list) (ha W) (hl W) (hh W)) fun σ H Q ⟨S₀, H₀, env, S, r, q⟩ => by
    refine ⟨S₀, H₀, env, S, r, ?_⟩
    unfold eCut at q
    cases hf : fa env with
    | no => rw [hf] at q; exact q.elim
    | err c => rw [hf] at q; exact q
    | ok y =>
      rw [hf, R.bind_ok] at q
      refine Good.of fun v H1 S1 x1 r1 => ⟨S₀, H₀, env, S1, r.grow x1, ?_⟩
      cases h2 : cbound fl env with
      | no => rw [h2] at q; exact q.elim
      | err c => rw [h2] at q; exact fun H2 S2 x2 => q H2 S2 (x1.trans x2)
      | ok l =>
        rw [h2, R.bind_ok] at q
        refine fun H2 S2 x2 => ⟨S₀, H₀, env, S2, (r.grow x1).grow x2, ?_⟩
        cases h3 : cbound fh env with
        | no => rw [h3] at q; exact q.elim
        | err c => rw [h3] at q; exact fun H3 S3 x3 => q H3 S3 ((x1.trans x2).trans x3)
        | ok h =>
          rw [h3, R.bind_ok] at q
          intro H3 S3 x3
          have x := (x1.trans x2).trans x3
          have r3 := r1.mono (x2.s.trans x3.s)
          cases y with
          | str z =>
            cases hz : decide (z.length ≤ sizeL) with
            | false => rw [show oCut l h (.str z) = .no by show when (decide (z.length ≤ sizeL)) _ = _; rw [hz]; rfl] at q; exact q.elim
            | true =>
              rw [show oCut l h (.str z) = .ok (.str (cutS z l h)) by show when (decide (z.length ≤ sizeL)) _ = _; rw [hz]; rfl] at q
              exact .inl ⟨z, r3, by rw [sizeL_eq]; exact of_decide_eq_true hz, q _ H3 S3 [] x ⟨rfl, rfl⟩ List.nodup_nil (fun a m => by cases m)⟩
          | lst ys =>
            obtain ⟨p, vs, ep, rp, rs⟩ := r3
            refine .inr ⟨p, vs, ep, .inl (Rd.mono x3.sh rp), fun n hn => ?_⟩
            refine q (.ref n) _ S3 [n] (x.trans (Ext.own x3.sh hn)) ⟨n, _, [], rfl, upd_same, ⟨rfl, cut_V rs l h⟩, rfl⟩ (by simp) (fun a m => ?_)
            have e : a = n := by simpa using m
            subst e
            exact ⟨x.h.none hn, x.sh.none hn⟩
          | _ => exact q.elim
/-! ### isinstance with one of Python's own -/
def kT : Kd → String
  | .non => "NoneType" | .bl => "bool" | .int => "int" | .str => "str" | .tup => "tuple" | .lst => "list" | .dct => "dict" | .own _ => "object"
/-- what is known of an own class: its objects' type, and that it is none of Python's own -/
structure ClsF (K : PySem.W.Frag) (C : Addr) : Prop where
  ty : ∀ (H : Hp) (a dx : Addr) (fs : List (Str × V)), H a = some (.ins C dx fs) → TyOf K H (.ref a) (.ref C)
  no : ∀ k ∈ [Kd.bl, .int, .str, .tup, .lst, .dct], PySem.W.kitOne K (.ref C) (.type (kT k)) = some false
def isKb (k t : Kd) : Bool := match k, t with | .int, .bl => true | a, b => decide (a = b)
theorem isK_plain {known : List Str} {k : Kd} : ∀ {y : PV}, (∀ c fs, y ≠ .ins c fs) → (∀ c, y ≠ .exc c) → isK known k y = .ok (.bl (isKb k (kd y)))
  | .ins c fs, h, _ => (h c fs rfl).elim
  | .exc c, _, h => (h c rfl).elim
  | .non, _, _ => rfl
  | .bl _, _, _ => rfl
  | .int _, _, _ => rfl
  | .str _, _, _ => rfl
  | .tup _, _, _ => rfl
  | .lst _, _, _ => rfl
  | .dct _, _, _ => rfl
theorem kit_bi (K : PySem.W.Frag) (t k : Kd) (ht : t ∈ [Kd.non, .bl, .int, .str, .tup, .lst, .dct]) (hk : k ∈ [Kd.bl, .int, .str, .tup, .lst, .dct]) : PySem.W.kitOne K (.type (kT t)) (.type (kT k)) = some (isKb k t) := by
  simp only [List.mem_cons, List.not_mem_nil, or_false] at ht hk
  unfold PySem.W.kitOne PySem.W.kitCls
  rcases ht with rfl | rfl | rfl | rfl | rfl | rfl | rfl <;> rcases hk with rfl | rfl | rfl | rfl | rfl | rfl <;> kernel_rfl
/-- the type of a value -/
theorem ty_V {K : PySem.W.Frag} {mg : MG} {S H : Hp} {x : PV} {v : V} (hs : Sub S H) (r : Rep mg S x v) (hi : ∀ c fs, x ≠ .ins c fs) (he : ∀ c, x ≠ .exc c) : TyOf K H v (.type (kT (kd x))) ∧ kd x ∈ [Kd.non, .bl, .int, .str, .tup, .lst, .dct] := by
  cases x with
  | non => cases (show v = .non from r); exact ⟨.non, by simp [kd]⟩
  | bl b => cases (show v = .bl b from r); exact ⟨.bl b, by simp [kd]⟩
  | int b => cases (show v = .int b from r); exact ⟨.int b, by simp [kd]⟩
  | str b => cases (show v = .str b from r); exact ⟨.str b, by simp [kd]⟩
  | tup ys => obtain ⟨a, vs, rfl, q, _⟩ := r; exact ⟨.tup (hs _ _ q), by simp [kd]⟩
  | lst ys =>
    obtain ⟨a, vs, rfl, q, _⟩ := r
    refine ⟨?_, by simp [kd]⟩
    rcases q with q | ⟨o, q⟩
    · exact .lst (hs _ _ q)
    · exact .frz (hs _ _ q)
  | dct kvs =>
    obtain ⟨a, rfl, ⟨ks, q, _⟩ | ⟨ks, q, _⟩⟩ := r
    · exact ⟨.dK (Rd.mono hs q), by simp [kd]⟩
    · exact ⟨.dT (Rd.mono hs q), by simp [kd]⟩
  | ins c fs => exact (hi c fs rfl).elim
  | exc c => exact (he c rfl).elim
theorem boot_isinstance' : bootBuiltins "isinstance" = some (.builtin "isinstance") := by decide +kernel
theorem b_isK {known : List Str} {k : Kd} {x : Str} {p p2 : Pos} (hk : k ∈ [Kd.bl, .int, .str, .tup, .lst, .dct]) (hkn : ∀ c ∈ known, ∀ C, X.mg c = some (.ref C) → ClsF X.K C)
    (hexc : ∀ c ∈ known, ∀ C, X.mg c = some (.ref C) → ∀ (W : WK) (pins : List (Addr × Obj)) (σ : L2.St) (H : Hp) (s : Shared) (a : Addr) (Q : Value → Shared → Prop), Inv (XB X W) pins σ H s → H a = some (.ext (excO a C)) → (∀ tk, Q (.bool false) { s with toks := tk }) → wpAny (model X.prog X.w) X.A (call (.builtin "isinstance") [.ref a, .type (kT k)]) Q (XB X W).xe s)
    (hg : Gl X "isinstance") (hm : X.mg "isinstance" = none) (hgT : Gl X x) (hmT : X.mg x = none) (hvT : bootBuiltins x = some (.type (kT k))) (ha : PEB X Γ a .s fa)
    (hn : x ≠ "__name__" := by decide) (hdb : (x == ("__debug__" : Str)) = false := by decide)
    (he : starEach [a, .Name x p2] X.env = (false, eval a X.env) :: starEach [.Name x p2] X.env := by exact star_c rfl) : PEB X Γ (.Call (.Name "isinstance" p) [a, .Name x p2] [] pos) .s (e1 (isK known k) fa) := .mk fun W => by
  have hT : PE (XB X W) (.Name x p2) (tC (.ty (kT k))) := pe_bltn (X := XB X W) hgT hmT hvT rfl hn hdb
  have hA : PA (XB X W) [a, .Name x p2] _ := pa_cons (ha W) (pa_cons hT pa_nil rfl) he
  have hc : CallR (XB X W) (.builtin "isinstance") (fun xs H Q => ∃ v t b, xs = [v, .ty (kT k)] ∧ Q (.bl b) H ∧ ((TyOf X.K H v t ∧ PySem.W.kitOne X.K t (.type (kT k)) = some b) ∨ ∃ c ∈ known, ∃ C a, X.mg c = some (.ref C) ∧ v = .ref a ∧ H a = some (.ext (excO a C)) ∧ b = false)) := by
    intro pins s σ H xs us Q I r h
    obtain ⟨v, t, b, rfl, q, z⟩ := h
    obtain ⟨u, w', rfl, ru, rw'⟩ := vals2 r
    cases (show w' = .type (kT k) from rw')
    rcases z with ⟨ty, kt⟩ | ⟨c, hc, C, a, hC, rfl, ha, rfl⟩
    · exact isinst_ok I ru ty kt fun tk => ⟨.bl b, H, I.tok _, rfl, q⟩
    · cases ru
      exact hexc c hc C hC W pins σ H s a _ I ha fun tk => ⟨.bl false, H, I.tok _, rfl, q⟩
  refine pimp (pe_callB (X := XB X W) hc hg hm boot_isinstance' hA (by decide) (by decide) he rfl) fun σ H Q ⟨S₀, H₀, env, S, r, q⟩ => ?_
  refine ⟨S₀, H₀, env, S, r, ?_⟩
  unfold e1 at q
  cases hf : fa env with
  | no => rw [hf] at q; exact q.elim
  | err c => rw [hf] at q; exact q
  | ok y =>
    rw [hf, R.bind_ok] at q
    refine Good.of fun v H' S' x rv => ?_
    by_cases hi : ∃ c gs, y = .ins c gs
    · obtain ⟨c, gs, rfl⟩ := hi
      obtain ⟨a, C, dx, vs, rfl, ra, rd, rm, rf⟩ := rv
      cases hd : decide (c ∈ known) with
      | false => rw [show isK known k (.ins c gs) = .no by show when (decide (c ∈ known)) _ = _; rw [hd]; rfl] at q; exact q.elim
      | true =>
        rw [show isK known k (.ins c gs) = .ok (.bl false) by show when (decide (c ∈ known)) _ = _; rw [hd]; rfl] at q
        have F := hkn c (of_decide_eq_true hd) C rm
        exact ⟨.ref a, .ref C, false, rfl, Good.sh q x rfl, .inl ⟨F.ty H' a dx vs (x.sh _ _ ra), F.no k hk⟩⟩
    · by_cases he2 : ∃ c, y = .exc c
      · obtain ⟨c, rfl⟩ := he2
        obtain ⟨a, C, rfl, rm, ra⟩ := rv
        cases hd : decide (c ∈ known) with
        | false => rw [show isK known k (.exc c) = .no by show when (decide (c ∈ known)) _ = _; rw [hd]; rfl] at q; exact q.elim
        | true =>
          rw [show isK known k (.exc c) = .ok (.bl false) by show when (decide (c ∈ known)) _ = _; rw [hd]; rfl] at q
          exact ⟨.ref a, .ref C, false, rfl, Good.sh q x rfl, .inr ⟨c, of_decide_eq_true hd, C, a, rm, rfl, x.sh _ _ ra, rfl⟩⟩
      · have hi' : ∀ c fs, y ≠ .ins c fs := fun c fs z => hi ⟨c, fs, z⟩
        have he' : ∀ c, y ≠ .exc c := fun c z => he2 ⟨c, z⟩
        obtain ⟨t1, t2⟩ := ty_V (K := X.K) x.sh rv hi' he'
        have e := isK_plain (known := known) (k := k) hi' he'
        rw [e] at q
        exact ⟨v, _, _, rfl, Good.sh q x rfl, .inl ⟨t1, kit_bi X.K (kd y) k t2 hk⟩⟩
end
end B

namespace B
open PySem PySem.Spec PyProof.Rows L2
/-! ### statements -/
/-- what is owned where an error flies, where a loop goes on, what is told -/
structure Way where
  e : List Own
  l : List Own
  o : Own
def OutB (mg : MG) (S₀ H₀ S : Hp) (w : Way) (Γ' : List Own) (W : WK) (D : Ends) : Out → Prop
  | .nx env => ∀ σ H S', Sub S S' → Rel mg S₀ H₀ Γ' env σ S' H → D.nx σ H
  | .ret y => ∀ v H S' as, Ext S₀ H₀ S' H → OwnR mg S' H w.o y v as → as.Nodup → (∀ a ∈ as, H₀ a = none ∧ S' a = none) → D.rt v H
  | .err c env => ∀ σ H S', Sub S S' → Rel mg S₀ H₀ w.e env σ S' H → W c σ H
  | .bk env => ∀ σ H S', Sub S S' → Rel mg S₀ H₀ w.l env σ S' H → D.bk σ H
  | .ct env => ∀ σ H S', Sub S S' → Rel mg S₀ H₀ w.l env σ S' H → D.ct σ H
  | .no => False
theorem OutB.mono {mg : MG} {S₀ H₀ S S1 : Hp} {w : Way} {Γ' : List Own} {W : WK} {D : Ends} (h : Sub S S1) : ∀ {r : Out}, OutB mg S₀ H₀ S w Γ' W D r → OutB mg S₀ H₀ S1 w Γ' W D r
  | .nx _, q => fun σ H S' hs => q σ H S' (h.trans hs)
  | .ret _, q => q
  | .err _ _, q => fun σ H S' hs => q σ H S' (h.trans hs)
  | .bk _, q => fun σ H S' hs => q σ H S' (h.trans hs)
  | .ct _, q => fun σ H S' hs => q σ H S' (h.trans hs)
  | .no, q => q
theorem OutB.weak {mg : MG} {S₀ H₀ S : Hp} {w : Way} {Γ' Γ1 : List Own} {W : WK} {D : Ends} (l : LeO Γ' Γ1) : ∀ {r : Out}, OutB mg S₀ H₀ S w Γ' W D r → OutB mg S₀ H₀ S w Γ1 W D r
  | .nx _, q => fun σ H S' hs r => let ⟨S2, h2, r2⟩ := r.weak l; q σ H S2 (hs.trans h2) r2
  | .ret _, q => q
  | .err _ _, q => q
  | .bk _, q => q
  | .ct _, q => q
  | .no, q => q
def tSB (X : Cx) (w : Way) (Γ Γ' : List Own) (f : Sv) (W : WK) : TS := fun D σ H => ∃ S₀ H₀ env S, Rel X.mg S₀ H₀ Γ env σ S H ∧ OutB X.mg S₀ H₀ S w Γ' W D (f env)
/-- the code's own errors pass its loops -/
abbrev Pas (X : Cx) (W : WK) : Prop := PassesOwn (model X.prog X.w) X.A X.env (XB X W).xe
structure PSB (X : Cx) (w : Way) (Γ Γ' : List Own) (st : Stmt) (f : Sv) : Prop where mk ::
  run : ∀ W, Pas X W → PS (XB X W) st (tSB X w Γ Γ' f W)
instance {X : Cx} {w : Way} {Γ Γ' : List Own} {st : Stmt} {f : Sv} : CoeFun (PSB X w Γ Γ' st f) fun _ => ∀ W, Pas X W → PS (XB X W) st (tSB X w Γ Γ' f W) := ⟨PSB.run⟩
structure PSsB (X : Cx) (w : Way) (Γ Γ' : List Own) (st : List Stmt) (f : Sv) : Prop where mk ::
  run : ∀ W, Pas X W → PSs (XB X W) st (tSB X w Γ Γ' f W)
instance {X : Cx} {w : Way} {Γ Γ' : List Own} {st : List Stmt} {f : Sv} : CoeFun (PSsB X w Γ Γ' st f) fun _ => ∀ W, Pas X W → PSs (XB X W) st (tSB X w Γ Γ' f W) := ⟨PSsB.run⟩
theorem psimp {X : Cx} {e : Stmt} {t t' : TS} (h : PS X e t) (i : ∀ D σ H, t' D σ H → t D σ H) : PS X e t' := fun pins s σ H D I q => h pins s σ H D I (i D σ H q)
theorem pssimp {X : Cx} {e : List Stmt} {t t' : TS} (h : PSs X e t) (i : ∀ D σ H, t' D σ H → t D σ H) : PSs X e t' := fun pins s σ H D I q => h pins s σ H D I (i D σ H q)
/-- no comprehension: nothing is swapped -/
def isComp : Expr → Bool
  | .ListComp _ _ _ _ => true
  | .SetComp _ _ _ _ => true
  | .DictComp _ _ _ _ _ => true
  | _ => false
theorem swaps_no {e : Expr} {t : Option Expr} {n : Nat} {env : PySem.Env} (h : isComp e = false) : swapsWith e t n env = pure false := by
  cases e <;> first | rfl | cases h
section
variable {X : Cx} {w : Way} {Γ Γ' Γ1 Γ2 : List Own} {st : Stmt} {rest a b : List Stmt} {f g : Sv} {e c : Expr} {fe : Ev} {ft : Tv} {pos : Pos}
theorem s_nil : PSsB X w Γ Γ [] sNx := .mk fun W _ => pssimp pss_nil fun D σ H ⟨S₀, H₀, env, S, r, q⟩ => q σ H S Sub.refl r
theorem s_cons (h1 : PSB X w Γ Γ1 st f) (h2 : PSsB X w Γ1 Γ2 rest g) : PSsB X w Γ Γ2 (st :: rest) (sSeq f g) := .mk fun W hp =>
  pssimp (pss_cons (h1 W hp) (h2 W hp)) fun D σ H ⟨S₀, H₀, env, S, r, q⟩ => by
    refine ⟨S₀, H₀, env, S, r, ?_⟩
    unfold sSeq at q
    cases hf : f env with
    | nx env' =>
      rw [hf] at q
      exact fun σ' H' S' hs r' => ⟨S₀, H₀, env', S', r', OutB.mono hs q⟩
    | ret y => rw [hf] at q; exact q
    | err c env' => rw [hf] at q; exact q
    | bk env' => rw [hf] at q; exact q
    | ct env' => rw [hf] at q; exact q
    | no => rw [hf] at q; exact q
theorem s_one (h1 : PSB X w Γ Γ1 st f) : PSsB X w Γ Γ1 [st] f := .mk fun W hp => pss_one (h1 W hp)
/-- what is owned may be given up, behind and ahead -/
theorem s_weak (l : LeO Γ' Γ1) (h : PSB X w Γ Γ1 st f) : PSB X w Γ Γ' st f := .mk fun W hp => psimp (h W hp) fun D σ H ⟨S₀, H₀, env, S, r, q⟩ => ⟨S₀, H₀, env, S, r, q.weak l⟩
theorem ss_weak (l : LeO Γ' Γ1) (h : PSsB X w Γ Γ1 rest f) : PSsB X w Γ Γ' rest f := .mk fun W hp => pssimp (h W hp) fun D σ H ⟨S₀, H₀, env, S, r, q⟩ => ⟨S₀, H₀, env, S, r, q.weak l⟩
theorem s_pre (l : LeO Γ1 Γ) (h : PSB X w Γ1 Γ' st f) : PSB X w Γ Γ' st f := .mk fun W hp => psimp (h W hp) fun D σ H ⟨S₀, H₀, env, S, r, q⟩ => let ⟨S2, h2, r2⟩ := r.weak l; ⟨S₀, H₀, env, S2, r2, OutB.mono h2 q⟩
theorem ss_pre (l : LeO Γ1 Γ) (h : PSsB X w Γ1 Γ' rest f) : PSsB X w Γ Γ' rest f := .mk fun W hp => pssimp (h W hp) fun D σ H ⟨S₀, H₀, env, S, r, q⟩ => let ⟨S2, h2, r2⟩ := r.weak l; ⟨S₀, H₀, env, S2, r2, OutB.mono h2 q⟩
theorem s_pass : PSB X w Γ Γ (.Pass pos) sNx := .mk fun W _ => psimp ps_pass fun D σ H ⟨S₀, H₀, env, S, r, q⟩ => q σ H S Sub.refl r
theorem s_doc {x : Str} {j : Nat} {p2 : Pos} : PSB X w Γ Γ (.Expr (.Constant (.str x) j p2) pos) sNx := .mk fun W _ => psimp ps_doc fun D σ H ⟨S₀, H₀, env, S, r, q⟩ => q σ H S Sub.refl r
theorem s_break (l : LeO w.l Γ) : PSB X w Γ Γ' (.Break pos) sBk := .mk fun W _ => psimp ps_break fun D σ H ⟨S₀, H₀, env, S, r, q⟩ => let ⟨S2, h2, r2⟩ := r.weak l; q σ H S2 h2 r2
theorem s_continue (l : LeO w.l Γ) : PSB X w Γ Γ' (.Continue pos) sCt := .mk fun W _ => psimp ps_continue fun D σ H ⟨S₀, H₀, env, S, r, q⟩ => let ⟨S2, h2, r2⟩ := r.weak l; q σ H S2 h2 r2
/-- an expression's error is the statement's -/
theorem err_of {mg : MG} {S₀ H₀ S H : Hp} {env : Env} {σ : L2.St} {c : Str} {W : WK} {D : Ends} (l : LeO w.e Γ) (r : Rel mg S₀ H₀ Γ env σ S H) (q : OutB mg S₀ H₀ S w Γ' W D (.err c env)) : Err S H (W c σ) := fun H' S' x =>
  let ⟨S2, h2, r2⟩ := (r.grow x).weak l
  q σ H' S2 (x.s.trans h2) r2
/-- an expression, then -/
theorem ev_then {o : Own} {W : WK} {D : Ends} {σ : L2.St} {H : Hp} {S₀ H₀ S : Hp} {env : Env} {Q : VK} {k : PV → Out} (l : LeO w.e Γ) (r : Rel X.mg S₀ H₀ Γ env σ S H) (q : OutB X.mg S₀ H₀ S w Γ' W D (on (fe env) env k))
    (h : ∀ y, OutB X.mg S₀ H₀ S w Γ' W D (k y) → Good X.mg S H o y Q) : tB X Γ o fe W σ H Q := by
  refine ⟨S₀, H₀, env, S, r, ?_⟩
  cases hf : fe env with
  | no => rw [hf] at q; exact q
  | err c => rw [hf] at q; exact err_of l r q
  | ok y => rw [hf] at q; exact h y q
theorem s_set {i : Nat} {x : Str} {p2 : Pos} {o g0 : Own} (l : LeO w.e Γ) (hN : X.N.Nodup) (hi : X.N[i]? = some x) (hx : Loc X.env.scope x) (hg : Γ[i]? = some g0) (he : PEB X Γ e o fe)
    (hs : swapsWith e (some (.Name x p2)) pos.line X.env = pure false := by exact swaps_no rfl) (hf : X.fn x = true ∨ X.env.scope.names.lookup x = some .local := by first | exact .inl rfl | exact .inr rfl) (hΓ : Γ' = Γ.set i o := by rfl) : PSB X w Γ Γ' (.Assign [.Name x p2] e pos) (sSet i fe) := hΓ ▸ .mk fun W _ =>
  psimp (ps_set (X := XB X W) hN hi hx (he W) hs hf) fun D σ H ⟨S₀, H₀, env, S, r, q⟩ => ev_then (k := fun v => .nx (env.set i (some v))) l r q fun y q v H' S' as x rv nd fr => q _ _ S' x.s (r.store x hg rv nd fr)
theorem s_expr {o : Own} (l : LeO w.e Γ) (he : PEB X Γ e o fe) (hs : swapsWith e none pos.line X.env = pure false := by exact swaps_no rfl) : PSB X w Γ Γ (.Expr e pos) (sExp fe) := .mk fun W _ =>
  psimp (ps_expr (he W) hs) fun D σ H ⟨S₀, H₀, env, S, r, q⟩ => ev_then (k := fun _ => .nx env) l r q fun y q v H' S' as x rv nd fr => q _ _ S' x.s (r.grow x)
theorem s_ret (l : LeO w.e Γ) (he : PEB X Γ e w.o fe) : PSB X w Γ Γ' (.Return (some e) pos) (sRet fe) := .mk fun W _ =>
  psimp (ps_ret (he W)) fun D σ H ⟨S₀, H₀, env, S, r, q⟩ => ev_then (k := .ret) l r q fun y q v H' S' as x rv nd fr => q v H' S' as (r.ext.trans x) rv nd fun a m => ⟨r.ext.h.none (fr a m).1, (fr a m).2⟩
theorem s_retN : PSB X { w with o := .s } Γ Γ' (.Return none pos) (sRet (eK .non)) := .mk fun W _ => psimp ps_retN fun D σ H ⟨S₀, H₀, env, S, r, q⟩ => q .non H S [] r.ext ⟨rfl, rfl⟩ List.nodup_nil (fun a m => by cases m)
theorem s_if (l : LeO w.e Γ) (hc : PTB X Γ c ft) (ha : PSsB X w Γ Γ' a f) (hb : PSsB X w Γ Γ' b g) : PSB X w Γ Γ' (.If c a b pos) (sIf ft f g) := .mk fun W hp =>
  psimp (ps_if (hc W) (ha W hp) (hb W hp)) fun D σ H ⟨S₀, H₀, env, S, r, q⟩ => by
    refine ⟨S₀, H₀, env, S, r, ?_⟩
    unfold sIf at q
    cases hf : ft env with
    | no => rw [hf] at q; exact q
    | err c => rw [hf] at q; exact err_of l r q
    | ok t =>
      rw [hf] at q
      intro H' S' x
      cases t with
      | true => exact ⟨S₀, H₀, env, S', r.grow x, OutB.mono x.s q⟩
      | false => exact ⟨S₀, H₀, env, S', r.grow x, OutB.mono x.s q⟩
end
/-! ### what is walked -/
/-- the iterator yields these values -/
def ItB (mg : MG) (J : It) (xs : List PV) (S : Hp) : Prop := ∀ S1 H1, Sub S S1 → Sub S1 H1 →
  (∀ i x, xs[i]? = some x → J.go i H1 ∧ ∀ v H2, J.yld i H1 v H2 → ∃ S2, Ext S1 H1 S2 H2 ∧ Rep mg S2 x v) ∧ ∀ i, xs.length ≤ i → J.stop i H1
def iB (X : Cx) (Γ : List Own) (f : Iv) (W : WK) : TI := fun σ H R => ∃ S₀ H₀ env S, Rel X.mg S₀ H₀ Γ env σ S H ∧ (match f env with
  | .ok xs => ∀ J H' S', Ext S H S' H' → ItB X.mg J xs S' → R J H'
  | .err c => Err S H (W c σ)
  | .no => False)
structure PIB (X : Cx) (Γ : List Own) (tg iter : Expr) (f : Iv) : Prop where mk ::
  run : ∀ W, PI (XB X W) tg iter (iB X Γ f W)
instance {X : Cx} {Γ : List Own} {tg iter : Expr} {f : Iv} : CoeFun (PIB X Γ tg iter f) fun _ => ∀ W, PI (XB X W) tg iter (iB X Γ f W) := ⟨PIB.run⟩
theorem piimp {X : Cx} {tg e : Expr} {t t' : TI} (h : PI X tg e t) (i : ∀ σ H R, t' σ H R → t σ H R) : PI X tg e t' := fun pins s σ H R I q => h pins s σ H R I (i σ H R q)
theorem set_same {α : Type} : ∀ {l : List α} {i : Nat} {x : α}, l[i]? = some x → l.set i x = l
  | [], _, _, h => by simp at h
  | a :: r, 0, x, h => by simp at h; subst h; rfl
  | a :: r, i + 1, x, h => by rw [List.set_cons_succ, set_same (by simpa using h)]
section
variable {X : Cx} {w : Way} {Γ Γ' : List Own} {body : List Stmt} {f : Sv} {fi : Iv} {tg iter : Expr} {pos : Pos}
/-- the loop by its target's store -/
theorem loop_of {W : WK} {g : TG} {bd : PV → Sv} {tb : TS}
    (hg : ∀ {S₀ H₀ S H : Hp} {env : Env} {σ : L2.St} {v : V} {x : PV} {D : Ends}, Rel X.mg S₀ H₀ Γ env σ S H → Rep X.mg S x v → OutB X.mg S₀ H₀ S { w with l := Γ } Γ W D (bd x env) → g v σ H fun σ2 H2 => tb D σ2 H2)
    {D : Ends} {σ : L2.St} {H : Hp} {S₀ H₀ S : Hp} {env : Env} (le : LeO w.e Γ) (r : Rel X.mg S₀ H₀ Γ env σ S H) (q : OutB X.mg S₀ H₀ S w Γ W D (on (fi env) env fun xs => forL bd xs env)) : tFor (iB X Γ fi W) g tb D σ H := by
  refine ⟨S₀, H₀, env, S, r, ?_⟩
  cases hf : fi env with
  | no => rw [hf] at q; exact q
  | err c => rw [hf] at q; exact err_of le r q
  | ok xs =>
    rw [hf] at q
    have q : OutB X.mg S₀ H₀ S w Γ W D (forL bd xs env) := q
    intro J H1 S1 x1 hJ
    let N : Nat → L2.St → Hp → Prop := fun i σ2 H2 => ∃ env2 S2, Rel X.mg S₀ H₀ Γ env2 σ2 S2 H2 ∧ Sub S1 S2 ∧ OutB X.mg S₀ H₀ S2 w Γ W D (forL bd (xs.drop i) env2)
    refine ⟨fun i m σ2 H2 => m = xs.length - i ∧ i ≤ xs.length ∧ N i σ2 H2, ⟨xs.length, by simp, Nat.zero_le _, env, S1, r.grow x1, Sub.refl, OutB.mono x1.s q⟩, ?_⟩
    rintro i m σ2 H2 ⟨rfl, hi, env2, S2, r2, s2, q2⟩
    obtain ⟨go, stop⟩ := hJ S2 H2 s2 r2.ext.sh
    by_cases hlt : i < xs.length
    · obtain ⟨g1, g2⟩ := go i xs[i] (by simp [hlt])
      refine .inr ⟨g1, N (i + 1), fun σ' H' p' => ⟨xs.length - (i + 1), by omega, rfl, hlt, p'⟩, fun v H3 y => ?_⟩
      obtain ⟨S3, x3, rv⟩ := g2 v H3 y
      refine hg (r2.grow x3) rv ?_
      rw [List.drop_eq_getElem_cons hlt] at q2
      have q3 := OutB.mono x3.s q2
      unfold forL at q3
      have s13 := s2.trans x3.s
      cases hb : bd xs[i] env2 with
      | nx env' => rw [hb] at q3; exact fun σ' H' S' hs r' => ⟨env', S', r', s13.trans hs, OutB.mono hs q3⟩
      | ct env' => rw [hb] at q3; exact fun σ' H' S' hs r' => ⟨env', S', r', s13.trans hs, OutB.mono hs q3⟩
      | bk env' => rw [hb] at q3; exact q3
      | ret y => rw [hb] at q3; exact q3
      | err c env' => rw [hb] at q3; exact q3
      | no => rw [hb] at q3; exact q3
    · have e : i = xs.length := by omega
      subst e
      rw [List.drop_length] at q2
      exact .inl ⟨stop _ (Nat.le_refl _), q2 σ2 H2 S2 Sub.refl r2⟩
theorem s_for {i : Nat} {x : Str} {p2 : Pos} (le : LeO w.e Γ) (hc : X.calm = true) (hN : X.N.Nodup) (hi : X.N[i]? = some x) (hx : Loc X.env.scope x) (hg : Γ[i]? = some .s)
    (hit : PIB X Γ (.Name x p2) iter fi) (hb : PSsB X { w with l := Γ } Γ Γ body f) (hs : ∀ x, foldedSetIterable iter X.env x = pure x := by intro _; rfl)
    (hf : X.fn x = true ∨ X.env.scope.names.lookup x = some .local := by first | exact .inl rfl | exact .inr rfl) : PSB X w Γ Γ (.For (.Name x p2) iter body [] pos) (sFor fi i f) := .mk fun W hp =>
  psimp (ps_for (X := XB X W) hp hc (hit W) (pg_name hN hi hx hf) (hb W hp) hs) fun D σ H ⟨S₀, H₀, env, S, r, q⟩ =>
    loop_of (bd := at_ i f) (fun {S₀ H₀ S H env σ v x D} r rv q => ⟨S₀, H₀, env.set i (some x), S, by
      have z := r.store (Ext.refl r.ext.sh) hg (g' := .s) ⟨rfl, rv⟩ List.nodup_nil (fun a m => by cases m)
      rw [set_same hg] at z
      exact z, q⟩) le r q
end
end B

namespace B
open PySem PySem.Spec PyProof.Rows L2
/-! ### an own def: its promise, its call, its body -/
def spB (mg : MG) (n : Nat) (o : Own) (g : List PV → R PV) : Sp := fun vs H Q E => ∃ S ys, Sub S H ∧ Reps mg S ys vs ∧ ys.length = n ∧ (match g ys with
  | .ok y => Good mg S H o y Q
  | .err c => ∀ H' S' C, Ext S H S' H' → mg c = some (.ref C) → E (.ref C) none H'
  | .no => False)
/-- what is known of a def: its worth over plain values -/
abbrev FnB (P : Program) (w : World) (K : PySem.W.Frag) (mg : MG) (base : Heap) (k : Nat) (f : Addr) (fd : FuncData) (ps : List Str) (o : Own) (g : List PV → R PV) : Prop := FnOk P w K mg base (CXB P w) k f fd ps (spB mg ps.length o g)
theorem Good.grow {mg : MG} {S H S1 H1 : Hp} {o : Own} {y : PV} {Q : VK} (x : Ext S H S1 H1) (g : Good mg S H o y Q) : Good mg S1 H1 o y Q := fun v H' S' as x' r nd fr => g v H' S' as (x.trans x') r nd fun a m => ⟨x.h.none (fr a m).1, (fr a m).2⟩
section
variable {X : Cx} {Γ : List Own} {k : Nat} {f : Addr} {fd : FuncData} {ps : List Str} {o : Own} {g : List PV → R PV} {x : Str} {p pos : Pos} {e : Expr} {es : List Expr} {fs : List Ev}
theorem run_B {W : WK} {pins : List (Addr × Obj)} {σ : L2.St} {H : Hp} {s : Shared} {Q : VK} {us : List Value} {vs : List V} (F : FnB X.prog X.w X.K X.mg X.base k f fd ps o g) (hr : Room k X.A) (hb : Binds X.K fd ps []) (I : Inv (XB X W) pins σ H s) (r : Vals vs us)
    (h : spB X.mg ps.length o g vs H Q (fun cls _ H' => ∃ c, X.mg c = some cls ∧ W c σ H')) : wpAny (model X.prog X.w) X.A (call (.ref f) us) (EP (XB X W) pins σ Q) (XB X W).xe s := by
  have hl : us.length = ps.length := by rw [← r.length]; exact F.len _ _ _ _ h
  have hb' := hb s us I.kIn (by simpa using hl)
  rw [List.append_nil] at hb'
  refine wpAny_call (codeAny_mono (F.run X.A X.stack s H ⟨us, []⟩ us vs Q _ hr I.unwish.env0 hb' r h) fun r s' hq => ?_)
  cases r with
  | error e =>
    obtain ⟨ea, C, H', rfl, fly, c, hc, q⟩ := hq
    exact ⟨c, σ, H', ⟨ea, C, rfl, hc, pins, H, s, I.unwish, .inl ⟨_, .inl rfl, fly⟩⟩, q⟩
  | ok fl =>
    cases fl with
    | ret u => exact I.after hq
    | next => exact False.elim hq
    | brk => exact False.elim hq
    | cont => exact False.elim hq
theorem sp_of {W : WK} {σ : L2.St} {H : Hp} {Q : VK} (hn : fs.length = ps.length) (h : tB X Γ o (eN g fs) W σ H Q) : tAs X Γ [] fs W σ H (fun vs H1 => spB X.mg ps.length o g vs H1 Q (fun cls _ H' => ∃ c, X.mg c = some cls ∧ W c σ H')) := by
  obtain ⟨S₀, H₀, env, S, rl, q⟩ := h
  refine ⟨S₀, H₀, env, S, rl, ?_⟩
  unfold eN at q
  cases hf : evs fs env with
  | no => rw [hf] at q; exact q.elim
  | err c => rw [hf] at q; exact q
  | ok ys =>
    rw [hf, R.bind_ok] at q
    intro vs H1 S1 as x1 ⟨_, rv⟩ _ _
    refine ⟨S1, ys, x1.sh, rv, (evs_len hf).trans hn, ?_⟩
    cases hg' : g ys with
    | no => rw [hg'] at q; exact q.elim
    | err c => rw [hg'] at q; exact fun H2 S2 C x2 hC => ⟨c, hC, q H2 S2 (x1.trans x2)⟩
    | ok y => rw [hg'] at q; exact Good.grow x1 q
theorem b_call (F : FnB X.prog X.w X.K X.mg X.base k f fd ps o g) (hr : Room k X.A) (hg : Gl X x) (hm : X.mg x = some (.ref f)) (hk : PySem.W.keepIn X.K (.ref f) = true) (hb : Binds X.K fd ps []) (ha : PAB X Γ (e :: es) [] fs) (hn : fs.length = ps.length := by rfl)
    (hdb : (x == ("__debug__" : Str)) = false := by decide) (he : starEach (e :: es) X.env = (false, eval e X.env) :: starEach es X.env := by exact star_c rfl) (hpl : (backTo pos (starEach es X.env)).any (·.1) = false := by exact star_any rfl) :
    PEB X Γ (.Call (.Name x p) (e :: es) [] pos) o (eN g fs) := .mk fun W => by
  intro pins s σ H Q I h
  refine wpAny_Call_Name_kw (ld_glob (X := XB X W) I hg hm ?_ hdb)
  exact PySem.W.callWith_K (h₀ := X.base) I.ok.mod.kin hk (thn (ha W pos pins s σ H _ I (sp_of hn h)) fun us s1 ⟨vs, H1, I1, r, q⟩ => ⟨I1.kIn, run_B F hr hb I1 r q⟩) he hpl
theorem b_call0 (F : FnB X.prog X.w X.K X.mg X.base k f fd [] o g) (hr : Room k X.A) (hg : Gl X x) (hm : X.mg x = some (.ref f)) (hk : PySem.W.keepIn X.K (.ref f) = true) (hb : Binds X.K fd [] [])
    (hdb : (x == ("__debug__" : Str)) = false := by decide) : PEB X Γ (.Call (.Name x p) [] [] pos) o (eN g []) := .mk fun W => by
  intro pins s σ H Q I h
  refine wpAny_Call_Name_kw (ld_glob (X := XB X W) I hg hm ?_ hdb)
  obtain ⟨S₀, H₀, env, S, rl, q⟩ := sp_of (ps := []) rfl h
  exact PySem.W.callWith_K0 I.kIn hk (run_B (us := []) F hr hb I .nil (q [] H S [] (Ext.refl rl.ext.sh) ⟨rfl, rfl⟩ List.nodup_nil (fun a m => by cases m)))
end
theorem pss_xe {X : Cx} {E' : Value → Shared → Prop} {st : List Stmt} {t : TS} (h : PSs (X.wish E') st t) (i : ∀ e s', E' e s' → X.xe e s') : PSs X st t := fun pins s σ H D I q => wpAny_mono (h pins s σ H D (I.wish _) q) (fun _ _ z => z.unwish) i
theorem slots_start {mg : MG} {S H : Hp} : ∀ {n : Nat} {ys : List PV} {vs : List V}, Reps mg S ys vs → ys.length ≤ n → Slots mg S H (List.replicate n .s) (B.start n ys) (vs.map some ++ List.replicate (n - vs.length) none) []
  | 0, [], _, r, _ => by cases (show _ = [] from r); exact ⟨rfl, rfl, rfl⟩
  | 0, _ :: _, _, _, h => by simp at h
  | n + 1, [], _, r, _ => by
    cases (show _ = [] from r)
    have ih := slots_start (mg := mg) (S := S) (H := H) (n := n) (ys := []) (vs := []) rfl (Nat.zero_le _)
    exact ⟨none, start n [], none, List.replicate n none, [], [], rfl, by simp [List.replicate_succ], rfl, rfl, by simpa using ih⟩
  | n + 1, y :: ys, _, ⟨v, r, e, h1, h2⟩, h => by
    subst e
    have ih := slots_start (mg := mg) (S := S) (H := H) (n := n) h2 (by simpa using h)
    exact ⟨some y, _, some v, _, [], [], rfl, by simp, rfl, ⟨v, rfl, rfl, h1⟩, ih⟩
theorem own_non {mg : MG} {S H : Hp} : ∀ (o : Own), OwnR mg S H o .non .non []
  | .s => ⟨rfl, rfl⟩
  | .o _ => ⟨rfl, rfl⟩
section
variable {P : Program} {w : World} {K : PySem.W.Frag} {mg : MG} {base : Heap}
theorem fn_B {x qual : Str} {st : Stmt} {f : Addr} {fd : FuncData} {N ps : List Str} {k : Nat} {o : Own} {Γ0 Γ' : List Own} {body : Sv} (F : Fun K x qual st f fd) (S : FnScope N ps (defScope st)) (hΓ : Γ0 = List.replicate N.length .s)
    (hbody : ∀ (cdv : Value) (A : Around) (outer : List PySem.Env) (s : Shared) (H : Hp) (E : XK), Room k (A.deeper (envOfC qual (defScope st) s.heap.objs.size f cdv)) →
      PSsB (cxOf (CXB P w) P w K mg base N qual (defScope st) f cdv A outer s H E) ⟨Γ0, Γ0, o⟩ Γ0 Γ' (defBody st) body) : FnB P w K mg base (k + 1) f fd ps o (fn N.length body) := by
  obtain ⟨oc, od, kV, doc, pm, an, cdv, ct, osl, rfl, lk, hcd⟩ := F.ex
  have hpl : ps.length ≤ N.length := by have := congrArg List.length S.pre; rw [List.length_take] at this; omega
  refine fn_of lk hcd S (fun vs H Q E ⟨S, ys, _, rs, hl, _⟩ => by rw [← rs.length]; exact hl) fun A outer s H vs Q E hr ⟨S1, ys, hs, rs, hl, hm⟩ => ?_
  have hb := hbody cdv A outer s H E hr (fun c _ H' => ∀ C, mg c = some (.ref C) → E (.ref C) none H') (pasB rfl rfl _)
  refine ⟨_, pss_xe hb fun e s' ⟨c, σ, H', T, q⟩ => ?_, ?_⟩
  · exact wpAny_mono (leaveB (X := cxOf (CXB P w) P w K mg base N qual (defScope st) f cdv A outer s H E) rfl rfl rfl T) (fun _ s'' ⟨ea, C, e1, hc, fl⟩ => ⟨ea, C, H', e1, fl, q C hc⟩) fun _ _ z => z
  · subst hΓ
    refine ⟨S1, H, B.start N.length ys, S1, ⟨Ext.refl hs, [], slots_start rs (by omega), List.nodup_nil, fun a m => by cases m⟩, ?_⟩
    unfold fn at hm
    cases hf : body (B.start N.length ys) with
    | nx env => rw [hf] at hm; exact fun σ H' S' _ rl => hm .non H' S' [] rl.ext (own_non o) List.nodup_nil (fun a m => by cases m)
    | ret y => rw [hf] at hm; exact fun v H' S' as x r nd fr => hm v H' S' as x r nd fr
    | err c env => rw [hf] at hm; exact fun σ H' S' _ rl C hC => hm H' S' C rl.ext hC
    | bk env => rw [hf] at hm; exact hm.elim
    | ct env => rw [hf] at hm; exact hm.elim
    | no => rw [hf] at hm; exact hm.elim
end
end B

namespace B
open PySem PySem.Spec PyProof.Rows L2
/-! ### what is walked: texts, lists, tuples, ranges -/
def Its (x : Str) : It := ⟨fun i _ => i < x.cps.size, fun i H v H' => H' = H ∧ ∃ c, x.cps[i]? = some c ∧ v = .str ⟨#[c]⟩, fun i _ => x.cps.size ≤ i⟩
theorem turn_str {P : Program} {w : World} {K : PySem.W.Frag} {tg : Expr} (it : Addr) (x : Str) (t : Tok) (ty : String) (hty : ty = "str_ascii_iterator" ∨ ty = "str_iterator") : Turn P w K tg (Its x) [it] it (fun i h => h.IsStrIter it ty x t i) where
  mem := by simp
  obj := fun i h st b hb => by
    have e : b = it := by simpa using hb
    subst e
    obtain ⟨o, e, c, d⟩ := st
    exact ⟨o, e, fun v z => by rw [d] at z; cases z⟩
  keep := fun i h h' st k => let ⟨o, ho, r⟩ := st; ⟨o, k it (by simp) o ho, r⟩
  item := by
    intro X hP hw hK hc i pins s σ H E I hf st hg
    subst hP hw hK
    obtain ⟨f0, f1, f2, f3, f4, f5⟩ := hf it (by simp)
    have hi : i < x.cps.size := hg
    have fin : ∀ h', h'.IsStrIter it ty x t (i + 1) → Heap.SameBut it s.heap h' → ∃ u, (some (Value.str ⟨#[x.cps[i]]⟩ s.toks)) = some u ∧
        wpAny (model X.prog X.w) X.A (letOwnedTupleGo tg (.ref it) u) (fun _ s2 => ∃ x_1 H', Inv X pins σ H' s2 ∧ RelV x_1 u ∧ (Its x).yld i H x_1 H' ∧ s2.heap.IsStrIter it ty x t (i + 1) ∧ ∀ b ∈ [it], H' b = none) E { s with heap := h', toks := s.toks + 1 } := fun h' st' sb => by
      have I1 : Inv X pins σ H { s with heap := h', toks := s.toks + 1 } := I.turned (fun b o hb e => (sb.2 b hb).trans e) f0 f1 f3 f4 f5
      obtain ⟨o, e, c, d⟩ := id st'
      refine ⟨_, rfl, go_of (s := { s with heap := h', toks := s.toks + 1 }) (n := ty) e c d ?_ ⟨.str ⟨#[x.cps[i]]⟩, H, I1, ⟨_, rfl⟩, ⟨rfl, x.cps[i], by simp [hi], rfl⟩, st', fun b hb => (hf b hb).1⟩⟩
      rcases hty with rfl | rfl <;> decide
    rcases hty with rfl | rfl
    · exact wpAny_pyNext_ascii_item st (c := x.cps[i]) (by simp [hi]) fun h' st' sb => fin h' st' sb
    · exact wpAny_pyNext_wide_item st (c := x.cps[i]) (by simp [hi]) fun h' st' sb => fin h' st' sb
  done := by
    intro X hP hw hK hc i pins s σ H E I hf st hg
    subst hP hw hK
    obtain ⟨f0, f1, f2, f3, f4, f5⟩ := hf it (by simp)
    have hi : x.cps.size ≤ i := hg
    have fin : ∀ h', Heap.ExtBut it s.heap h' → (none : Option Value) = none ∧ Inv X pins σ H { s with heap := h' } := fun h' eb => ⟨rfl, I.turned (t' := s.toks) (fun b o hb e => eb b o hb e) f0 f1 f3 f4 f5⟩
    rcases hty with rfl | rfl
    · exact wpAny_pyNext_ascii_end (I.ok.hd hc) st (by simp [hi]) fun h' eb => fin h' eb
    · exact wpAny_pyNext_wide_end (I.ok.hd hc) st (by simp [hi]) fun h' eb => fin h' eb
  self := fun _ _ _ _ _ st h => by
    rcases hty with rfl | rfl
    · exact wpAny_pyIter_striter_ascii st h
    · exact wpAny_pyIter_striter_wide st h
theorem itb_list {mg : MG} {K : PySem.W.Frag} {a : Addr} {ys : List PV} {vs : List V} {S : Hp} (q : Rd S a (.lst vs)) (r : Reps mg S ys vs) : ItB mg (Itl K a) ys S := fun S1 H1 s1 sh => by
  have q1 : SqL K H1 a vs := .inl (Rd.mono (s1.trans sh) q)
  refine ⟨fun i x hx => ?_, fun i hi => ⟨vs, q1, by rw [← r.length]; exact hi⟩⟩
  obtain ⟨v, h1, h2⟩ := r.get hx
  refine ⟨⟨vs, v, q1, h1⟩, fun v' H2 y => ?_⟩
  obtain ⟨rfl, y⟩ := y
  have e := y vs q1
  rw [h1] at e
  cases e
  exact ⟨S1, Ext.refl sh, h2.mono s1⟩
theorem itb_tup {mg : MG} {K : PySem.W.Frag} {a : Addr} {ys : List PV} {vs : List V} {S : Hp} (q : S a = some (.tup vs)) (r : Reps mg S ys vs) : ItB mg (Itt K a) ys S := fun S1 H1 s1 sh => by
  have q1 : SqT K H1 a vs := SqT.of (sh _ _ (s1 _ _ q))
  refine ⟨fun i x hx => ?_, fun i hi => ⟨vs, q1, by rw [← r.length]; exact hi⟩⟩
  obtain ⟨v, h1, h2⟩ := r.get hx
  refine ⟨⟨vs, v, q1, h1⟩, fun v' H2 y => ?_⟩
  obtain ⟨rfl, y⟩ := y
  have e := y vs q1
  rw [h1] at e
  cases e
  exact ⟨S1, Ext.refl sh, h2.mono s1⟩
theorem itb_str {mg : MG} {x : Str} {S : Hp} : ItB mg (Its x) (x.cps.toList.map fun c => .str ⟨#[c]⟩) S := fun S1 H1 s1 sh => by
  refine ⟨fun i y hy => ?_, fun i hi => by simpa [Its] using hi⟩
  rw [List.getElem?_map] at hy
  cases hc : x.cps.toList[i]? with
  | none => rw [hc] at hy; cases hy
  | some c =>
    rw [hc] at hy
    cases hy
    have hi : i < x.cps.size := by
      have := (List.getElem?_eq_some_iff.mp hc).1
      simpa using this
    refine ⟨hi, fun v H2 ⟨e, c', h1, h2⟩ => ?_⟩
    subst e h2
    have : c' = c := by
      have h3 : x.cps.toList[i]? = some c' := by simpa using h1
      rw [hc] at h3
      cases h3
      rfl
    subst this
    exact ⟨S1, Ext.refl sh, rfl⟩
theorem rngV_i (i j k : Int) : rngV (.int i) (.int j) (.int k) = when (decide (0 < k) && decide (-1000000 < i) && decide (i < 1000000) && decide (-1000000 < j) && decide (j < 1000000) && decide (k < 1000000)) (.ok (rangeL i j k)) := rfl
theorem rangeL_get' {lo : Int} {n : Nat} {i : Nat} {x : PV} (h : ((List.range n).map fun (k : Nat) => PV.int (lo + 1 * (k : Int)))[i]? = some x) : i < n ∧ x = .int (lo + i) := by
  rw [List.getElem?_map] at h
  by_cases hi : i < n
  · rw [List.getElem?_range hi] at h
    cases h
    exact ⟨hi, by show PV.int (lo + 1 * (i : Int)) = _; rw [Int.one_mul]⟩
  · rw [List.getElem?_eq_none (by simpa using Nat.le_of_not_lt hi)] at h
    cases h
theorem itb_range {mg : MG} {lo hi : Int} {S : Hp} : ItB mg (Itr lo (hi - lo).toNat) (rangeL lo hi 1) S := fun S1 H1 s1 sh => by
  have e : rangeL lo hi 1 = (List.range (hi - lo).toNat).map fun (k : Nat) => PV.int (lo + 1 * (k : Int)) := by
    unfold rangeL
    rw [if_pos (by decide), show (hi - lo + 1 - 1) / 1 = hi - lo by omega]
  rw [e]
  refine ⟨fun i x hx => ?_, fun i h => by simpa [Itr] using h⟩
  obtain ⟨h1, rfl⟩ := rangeL_get' hx
  exact ⟨h1, fun v H2 ⟨e1, e2⟩ => by subst e1 e2; exact ⟨S1, Ext.refl sh, rfl⟩⟩
section
variable {X : Cx} {Γ : List Own} {tg l a b : Expr} {f g : Ev} {p pos : Pos}
/-- a list, a tuple, a text -/
theorem i_V (he : PEB X Γ l .s f) : PIB X Γ tg l (iV f) := .mk fun W pins s σ H R I ⟨S₀, H₀, env, S, r, q⟩ => by
  refine thn (he W pins s σ H (fun v H1 => ∃ y S1, f env = .ok y ∧ Ext S H S1 H1 ∧ Rep X.mg S1 y v) I ⟨S₀, H₀, env, S, r, ?_⟩) fun u s1 ⟨v, H1, I1, rv, y, S1, hy, x1, ry⟩ => ?_
  · unfold iV at q
    cases hf : f env with
    | no => rw [hf] at q; exact q
    | err c => rw [hf] at q; exact q
    | ok y => exact Good.of fun v H' S' x rv => ⟨y, S', rfl, x, rv⟩
  · unfold iV at q
    rw [hy, B.R.bind_ok] at q
    cases y with
    | lst ys =>
      obtain ⟨a, vs, rfl, q1, rs⟩ := ry
      cases rv
      have hq : SqL X.K H1 a vs := .inl (Rd.mono x1.sh q1)
      obtain ⟨its, rvv, pl, hz⟩ := I1.list hq
      refine wpAny_pyIter_list pl.isList ?_
      refine ⟨s1.heap.objs.size, [s1.heap.objs.size], _, _, H1, rfl, I1.kept (t' := s1.toks) fun b o e => Heap.get?_push_of_some _ e, turn_list a _, ⟨_, Heap.get?_push_size _ rfl, rfl, rfl⟩, fun b hb => ?_, q _ H1 S1 x1 (itb_list q1 rs)⟩
      have e : b = s1.heap.objs.size := by simpa using hb
      subst e
      exact I1.fpOk (Nat.le_refl _) (I1.hok.fresh (Nat.le_refl _))
    | tup ys =>
      obtain ⟨a, vs, rfl, q1, rs⟩ := ry
      cases rv
      obtain ⟨its, rvv, pl, hz⟩ := I1.tuple (SqT.of (x1.sh _ _ q1))
      refine wpAny_pyIter_tuple (show s1.heap.IsTuple a its.toArray from pl) ?_
      refine ⟨s1.heap.objs.size, [s1.heap.objs.size], _, _, H1, rfl, I1.kept (t' := s1.toks) fun b o e => Heap.get?_push_of_some _ e, turn_tuple a _, ⟨_, Heap.get?_push_size _ rfl, rfl, rfl⟩, fun b hb => ?_, q _ H1 S1 x1 (itb_tup q1 rs)⟩
      have e : b = s1.heap.objs.size := by simpa using hb
      subst e
      exact I1.fpOk (Nat.le_refl _) (I1.hok.fresh (Nat.le_refl _))
    | str x =>
      cases (show v = .str x from ry)
      obtain ⟨t, rfl⟩ := rv
      have fin : ∀ ty, (ty = "str_ascii_iterator" ∨ ty = "str_iterator") → PIE (XB X W) pins σ tg R (.ref s1.heap.objs.size) { s1 with heap := s1.heap.push { cls := .type ty, data := .fields #[.str x t, .int 0 0] } } := fun ty hty => by
        refine ⟨s1.heap.objs.size, [s1.heap.objs.size], _, _, H1, rfl, I1.kept (t' := s1.toks) fun b o e => Heap.get?_push_of_some _ e, turn_str _ x t ty hty, ⟨_, Heap.get?_push_size _ rfl, rfl, rfl⟩, fun b hb => ?_, q _ H1 S1 x1 itb_str⟩
        have e : b = s1.heap.objs.size := by simpa using hb
        subst e
        exact I1.fpOk (Nat.le_refl _) (I1.hok.fresh (Nat.le_refl _))
      cases ha : x.cps.all (· < 128)
      · exact wpAny_pyIter_wide ha (fin _ (.inr rfl))
      · exact wpAny_pyIter_ascii ha (fin _ (.inl rfl))
    | _ => exact q.elim
theorem i_range1 (hg : Gl X "range") (hm : X.mg "range" = none) (ha : PAB X Γ [a] [] [f]) (hs : starEach [a] X.env = [(false, eval a X.env)] := by rfl) : PIB X Γ tg (.Call (.Name "range" p) [a] [] pos) (iR (eK (.int 0)) f (eK (.int 1))) := .mk fun W =>
  piimp (pi_range1 (X := XB X W) hg hm (ha W) hs) fun σ H R ⟨S₀, H₀, env, S, r, q⟩ => by
    refine ⟨S₀, H₀, env, S, r, ?_⟩
    unfold iR eK at q
    rw [B.R.bind_ok] at q
    unfold evs evs
    cases hf : f env with
    | no => rw [hf] at q; exact q.elim
    | err c => rw [hf] at q; exact q
    | ok y =>
      rw [hf, B.R.bind_ok, B.R.bind_ok] at q
      rw [B.R.bind_ok, B.R.map_ok]
      intro vs H1 S1 as x1 ⟨_, v, rr, e1, rv, e2⟩ _ _
      subst e1
      cases (show rr = [] from e2)
      cases y with
      | int j =>
        cases (show v = .int j from rv)
        rw [rngV_i] at q
        cases hb : (decide ((0 : Int) < 1) && decide ((-1000000 : Int) < 0) && decide ((0 : Int) < 1000000) && decide (-1000000 < j) && decide (j < 1000000) && decide ((1 : Int) < 1000000)) with
        | false => rw [hb] at q; exact q.elim
        | true =>
          rw [hb] at q
          simp only [Bool.and_eq_true, decide_eq_true_eq] at hb
          refine ⟨j, rfl, by omega, by omega, ?_⟩
          have z := q (Itr 0 (j - 0).toNat) H1 S1 x1 itb_range
          rwa [Int.sub_zero] at z
      | _ => exact q.elim
theorem i_range2 (hg : Gl X "range") (hm : X.mg "range" = none) (ha : PAB X Γ [a, b] [] [f, g]) (hs : starEach [a, b] X.env = [(false, eval a X.env), (false, eval b X.env)] := by rfl) (hs2 : starEach [b] X.env = [(false, eval b X.env)] := by rfl) : PIB X Γ tg (.Call (.Name "range" p) [a, b] [] pos) (iR f g (eK (.int 1))) := .mk fun W =>
  piimp (pi_range2 (X := XB X W) hg hm (ha W) hs hs2) fun σ H R ⟨S₀, H₀, env, S, r, q⟩ => by
    refine ⟨S₀, H₀, env, S, r, ?_⟩
    unfold iR eK at q
    unfold evs evs evs
    cases hf : f env with
    | no => rw [hf] at q; exact q.elim
    | err c => rw [hf] at q; exact q
    | ok y =>
      cases hg : g env with
      | no => rw [hf, hg] at q; exact q.elim
      | err c => rw [hf, hg] at q; exact q
      | ok z =>
        rw [hf, hg, B.R.bind_ok, B.R.bind_ok, B.R.bind_ok] at q
        rw [B.R.bind_ok, B.R.bind_ok, B.R.map_ok, B.R.map_ok]
        intro vs H1 S1 as x1 ⟨_, v, rr, e1, rv, v2, rr2, e2, rv2, e3⟩ _ _
        subst e1 e2
        cases (show rr2 = [] from e3)
        cases y with
        | int i =>
          cases z with
          | int j =>
            cases (show v = .int i from rv)
            cases (show v2 = .int j from rv2)
            rw [rngV_i] at q
            cases hb : (decide ((0 : Int) < 1) && decide ((-1000000 : Int) < i) && decide (i < 1000000) && decide (-1000000 < j) && decide (j < 1000000) && decide ((1 : Int) < 1000000)) with
            | false => rw [hb] at q; exact q.elim
            | true =>
              rw [hb] at q
              simp only [Bool.and_eq_true, decide_eq_true_eq] at hb
              exact ⟨i, j, rfl, ⟨by omega, by omega, by omega, by omega⟩, q (Itr i (j - i).toNat) H1 S1 x1 itb_range⟩
          | _ => exact q.elim
        | _ => cases z <;> exact q.elim
end
end B

namespace B
open PySem PySem.Spec PyProof.Rows L2
/-! ### comprehensions -/
theorem closure_of {env : PySem.Env} : ∀ (names : List (Str × NameKind)) (cs : List (Str × Addr)), (∀ y ∈ names, y.2 = .free → ∃ c, env.cells.lookup y.1 = some c) →
    ∃ cl, (forIn names cs fun (x : Str × NameKind) (r : List (Str × Addr)) => (if (x.2 == NameKind.free) = true then (cellOf env x.1 >>= fun a => pure (ForInStep.yield ((x.1, a) :: r))) else pure (ForInStep.yield r) : Sem (ForInStep (List (Str × Addr))))) = pure cl ∧
      (∀ y c, cl.lookup y = some c → env.cells.lookup y = some c ∨ cs.lookup y = some c) ∧ (∀ y, (y, NameKind.free) ∈ names → ∃ c, cl.lookup y = some c) ∧ (∀ y c, cs.lookup y = some c → ∃ c', cl.lookup y = some c')
  | [], cs, _ => ⟨cs, rfl, fun y c h => .inr h, fun y h => by simp at h, fun y c h => ⟨c, h⟩⟩
  | (n, k) :: r, cs, h => by
    by_cases hk : k = .free
    · subst hk
      obtain ⟨c, hc⟩ := h (n, .free) List.mem_cons_self rfl
      obtain ⟨cl, e, h1, h2, h3⟩ := closure_of (env := env) r ((n, c) :: cs) fun y hy => h y (List.mem_cons_of_mem _ hy)
      refine ⟨cl, ?_, fun y c' q => ?_, fun y q => ?_, fun y c' q => ?_⟩
      · rw [List.forIn_cons]
        have e1 : cellOf env n = pure c := by unfold cellOf; rw [hc]
        simp only [beq_self_eq_true, if_true, e1, pure_bind]
        exact e
      · rcases h1 y c' q with z | z
        · exact .inl z
        · rw [List.lookup_cons] at z
          cases hy : y == n with
          | true =>
            rw [hy] at z
            cases z
            rw [eq_of_beq hy]
            exact .inl hc
          | false => rw [hy] at z; exact .inr z
      · rcases List.mem_cons.mp q with z | z
        · cases z
          exact h3 n c (by simp [List.lookup_cons])
        · exact h2 y z
      · cases hy : y == n with
        | true => exact h3 y c (by rw [List.lookup_cons, hy])
        | false => exact h3 y c' (by rw [List.lookup_cons, hy]; exact q)
    · obtain ⟨cl, e, h1, h2, h3⟩ := closure_of (env := env) r cs fun y hy => h y (List.mem_cons_of_mem _ hy)
      refine ⟨cl, ?_, h1, fun y q => ?_, h3⟩
      · rw [List.forIn_cons]
        have hb : (k == NameKind.free) = false := by simpa using hk
        simp only [hb, Bool.false_eq_true, if_false, pure_bind]
        exact e
      · rcases List.mem_cons.mp q with z | z
        · cases z; exact absurd rfl hk
        · exact h2 y z
theorem closureFor_of {env : PySem.Env} {scope : Scope} (h : ∀ y ∈ scope.names, y.2 = .free → ∃ c, env.cells.lookup y.1 = some c) :
    ∃ cl, closureFor scope env = pure cl ∧ (∀ y c, cl.lookup y = some c → env.cells.lookup y = some c) ∧ (∀ y, (y, NameKind.free) ∈ scope.names → ∃ c, cl.lookup y = some c) := by
  obtain ⟨cl, e, h1, h2, _⟩ := closure_of (env := env) scope.names [] h
  refine ⟨cl, ?_, fun y c q => (h1 y c q).elim id fun z => by simp at z, h2⟩
  unfold closureFor
  have e' := e
  simp only [bind_pure_comp] at e' ⊢
  rw [e']
  rfl
/-- the block of a comprehension -/
def compX (X : Cx) (N' : List Str) (scope : Scope) (cl : List (Str × Addr)) (C : Addr) (s₀ : Shared) (H₀ : Hp) (ex : List Addr) : Cx :=
  { X with N := N', s₀ := s₀, H₀ := H₀, env := compEnvC scope cl C X.env, outer := X.stack, ex := ex, fn := fun _ => false, pn := [], xe := fun _ _ => False }
/-- the block's names as it sees them -/
def relS (scope sc : Scope) : List (Str × NameKind) := scope.names.map fun (n, k) => if (k == .free && sc.kind == .function && sc.names.lookup n == some .cell) then (n, .cell) else (n, k)
/-- what is asked of the block's names: its variable last, the others as they stand around it, where it sees them -/
def seen (scope sc : Scope) : Str × Str → Bool := fun p => match (relS scope sc).lookup p.1 with
  | some .cell => decide (p.1 = p.2) && decide ((p.1, NameKind.free) ∈ scope.names)
  | some .free => decide (p.1 = p.2) && decide ((p.1, NameKind.free) ∈ scope.names)
  | some .local => false
  | _ => true
structure CompN (N N' : List Str) (x : Str) (scope sc : Scope) : Prop where
  kind : scope.kind = .function
  cell : ∀ y ∈ scope.names, y.2 ≠ .cell
  locs : ∀ y ∈ scope.names, y.2 = .local → scope.names.lookup y.1 = some .local
  var : scope.names.lookup x = some .local
  free : ∀ y ∈ scope.names, y.2 = .free → sc.names.lookup y.1 = some .cell
  nd : N'.Nodup
  len : N'.length = N.length + 1
  last : N'[N.length]? = some x
  same : (N'.zip N).all (seen scope sc) = true
theorem lookup_rel {sc : Scope} : ∀ {names : List (Str × NameKind)} {x : Str} {k : NameKind}, (names.map fun (n, k) => if (k == NameKind.free && sc.kind == .function && sc.names.lookup n == some .cell) then (n, NameKind.cell) else (n, k)).lookup x = some k →
    names.lookup x = some k ∨ (k = .cell ∧ names.lookup x = some .free)
  | [], _, _, h => by simp at h
  | (n, k0) :: r, x, k, h => by
    have h' : List.lookup x ((if (k0 == NameKind.free && sc.kind == .function && sc.names.lookup n == some .cell) = true then (n, NameKind.cell) else (n, k0)) :: (r.map fun (n, k) => if (k == NameKind.free && sc.kind == .function && sc.names.lookup n == some .cell) then (n, NameKind.cell) else (n, k))) = some k := h
    by_cases hc : (k0 == NameKind.free && sc.kind == .function && sc.names.lookup n == some .cell) = true
    · rw [if_pos hc] at h'
      cases hx : x == n with
      | true =>
        rw [List.lookup_cons, hx] at h'
        cases h'
        rw [List.lookup_cons, hx]
        simp only [Bool.and_eq_true, beq_iff_eq] at hc
        exact .inr ⟨rfl, by rw [hc.1.1]⟩
      | false =>
        rw [List.lookup_cons, hx] at h'
        rw [List.lookup_cons, hx]
        exact lookup_rel h'
    · rw [if_neg hc] at h'
      cases hx : x == n with
      | true =>
        rw [List.lookup_cons, hx] at h'
        cases h'
        rw [List.lookup_cons, hx]
        exact .inl rfl
      | false =>
        rw [List.lookup_cons, hx] at h'
        rw [List.lookup_cons, hx]
        exact lookup_rel h'
theorem zip_get {α β : Type} : ∀ {l : List α} {m : List β} {i : Nat} {x : α} {y : β}, l[i]? = some x → m[i]? = some y → (x, y) ∈ l.zip m
  | [], _, _, _, _, h, _ => by simp at h
  | _ :: _, [], _, _, _, _, h => by simp at h
  | a :: l, b :: m, 0, x, y, h, h' => by simp at h h'; subst h h'; exact List.mem_cons_self
  | a :: l, b :: m, i + 1, x, y, h, h' => List.mem_cons_of_mem _ (zip_get (i := i) (by simpa using h) (by simpa using h'))
section
variable {X : Cx} {N' : List Str} {x : Str} {scope : Scope}
theorem CompN.at {N : List Str} {sc : Scope} (n : CompN N N' x scope sc) {i : Nat} {y : Str} (hi : i < N.length) (h : N'[i]? = some y) (v : (relS scope sc).lookup y = some .local ∨ (relS scope sc).lookup y = some .cell ∨ (relS scope sc).lookup y = some .free) :
    N[i]? = some y ∧ (y, NameKind.free) ∈ scope.names ∧ ((relS scope sc).lookup y = some .cell ∨ (relS scope sc).lookup y = some .free) := by
  have m := zip_get h (show N[i]? = some N[i] by simp [hi])
  have c := List.all_eq_true.mp n.same _ m
  unfold seen at c
  rcases v with v | v | v
  · simp only [v] at c; cases c
  · simp only [v, Bool.and_eq_true, decide_eq_true_eq] at c
    exact ⟨by rw [List.getElem?_eq_getElem hi, ← c.1], c.2, .inl v⟩
  · simp only [v, Bool.and_eq_true, decide_eq_true_eq] at c
    exact ⟨by rw [List.getElem?_eq_getElem hi, ← c.1], c.2, .inr v⟩
/-- the block begins -/
theorem comp_inv {pins : List (Addr × Obj)} {σ : L2.St} {H : Hp} {s : Shared} {cl : List (Str × Addr)} {fp : List Addr} {h1 : Heap} {tk : Nat} (I : Inv X pins σ H s) (n : CompN X.N N' x scope X.env.scope)
    (c1 : ∀ y c, cl.lookup y = some c → X.env.cells.lookup y = some c) (c2 : ∀ y, (y, NameKind.free) ∈ scope.names → ∃ c, cl.lookup y = some c) (hfp : ∀ b ∈ fp, FpOk X pins H b) (hob : ∀ b ∈ fp, ∃ o, s.heap.get? b = some o)
    {m0 : Str → Option Value} (hns : h1.Ns s.heap.objs.size m0) (hk : ∀ b o, s.heap.get? b = some o → h1.get? b = some o) :
    Inv (compX X N' scope cl s.heap.objs.size s H fp) [] (σ ++ [none]) H { s with heap := h1, toks := tk } := by
  have kf : ∀ y, (relS scope X.env.scope).lookup y = some .cell ∨ (relS scope X.env.scope).lookup y = some .free → (y, NameKind.free) ∈ scope.names := fun y h => by
    rcases h with h | h
    · rcases lookup_rel h with z | ⟨_, z⟩
      · exact absurd rfl (n.cell _ (PySem.mem_of_lookup z))
      · exact PySem.mem_of_lookup z
    · rcases lookup_rel h with z | ⟨z, _⟩
      · exact PySem.mem_of_lookup z
      · cases z
  refine ⟨⟨I.ok.mod, n.kind, I.ok.glob, I.ok.blt, Nat.le_refl _, fun y z c h1 h2 => I.ok.inj y z c (c1 y c h1) (c1 z c h2), fun y h => c2 y (kf y h), fun y c h => (by cases h), I.ok.hd, I.ok.frames, .inl rfl, fun b hb => ⟨?_, fun y c h => (hfp b hb).2.2.2.2.1 y c (c1 y c h)⟩, I.bs, Nat.le_trans I.ok.bsz I.sz, fun b o q hb => ?_, fun b hb z => ?_, I.stack, I.stkFree⟩,
    rfl, I.bare, Un.kept hk, ⟨_, hns, fun i y v h1' h2 h3 => ?_⟩, fun y c h => ?_, I.fresh, fun y c h => I.freeC y c (c1 y c h), fun p hp => (by simp [compX] at hp), I.hok.kept hk, ?_⟩
  · obtain ⟨o, ho⟩ := hob b hb
    exact Nat.ne_of_lt (Heap.lt_size ho)
  · obtain ⟨_, _, _, z, _⟩ := hfp b hb
    rcases z with z | z
    · exact I.ok.noex b o q z
    · exact absurd (Nat.lt_of_lt_of_le (Heap.lt_size (I.ok.bs b o q).1) z) (Nat.lt_irrefl _)
  · obtain ⟨_, f1, f2, _⟩ := hfp b hb
    rcases List.mem_cons.mp (I.stkSub b z) with q | q
    · exact f1 q
    · exact f2 q
  · have h2 : (σ ++ [none])[i]? = some (some v) := h2
    have hl := I.len
    by_cases hi : i < X.N.length
    · obtain ⟨e1, e2, e4⟩ := n.at hi h1' h3
      rw [List.getElem?_append_left (by omega)] at h2
      obtain ⟨m, _, q⟩ := I.loc
      have ky := n.free _ e2 rfl
      obtain ⟨u, ru, lk⟩ := q i y v e1 h2 (.inr (.inl ky))
      refine ⟨u, ru, ?_⟩
      rcases lk with ⟨z, _⟩ | ⟨_, c, hc, o, ho, hd⟩
      · rw [show X.env.kindOf y = some .cell from ky] at z; cases z
      · obtain ⟨c', hc'⟩ := c2 y e2
        have e3 := c1 y c' hc'
        rw [hc] at e3
        cases e3
        exact .inr ⟨e4, c, hc', o, hk c o ho, hd⟩
    · by_cases hi' : i = X.N.length
      · subst hi'
        rw [List.getElem?_append_right (by omega), hl, Nat.sub_self] at h2
        simp at h2
      · rw [List.getElem?_eq_none (by rw [List.length_append, List.length_singleton]; omega)] at h2
        cases h2
  · obtain ⟨v, o, ho, hd⟩ := I.cell y c (c1 y c h)
    exact ⟨v, o, hk c o ho, hd⟩
  · show (σ ++ [none]).length = N'.length
    rw [List.length_append, List.length_singleton, I.len, n.len]
end
/-- the block's turns, where nothing is raised -/
theorem comp_loop {prog : Program} {w : World} {A : Around} {R : Result → Shared → Prop} {s : Shared} {elt target iter : Expr} {ifs : List Expr} {scope : Scope} {pos : Pos} {it acc : Value} {env : PySem.Env} (I : Nat → Shared → Prop)
    (turn : ∀ n s, I n s → wpAny (model prog w) A (pyNext it) (fun r s1 => match r with
      | none => R (.ok .next) s1
      | some v => wpAny (model prog w) A (letOwnedTupleGo target it v) (fun _ s2 => wpAny (model prog w) A (assign target env v) (fun _ s3 =>
          wpAny (model prog w) A (forIn ifs true fun c r => if r = true then do let ok ← isTrue c env (eval c env); pure (ForInStep.yield ok) else pure (ForInStep.yield r)) (fun ok s4 =>
            if ok = true then wpAny (model prog w) A (eval elt env) (fun y s5 => wpAny (model prog w) A (call (.builtin "list.append") [acc, y]) (fun _ s6 => ∃ m, m < n ∧ I m s6) (fun _ _ => False) s5) (fun _ _ => False) s4
            else ∃ m, m < n ∧ I m s4) (fun _ _ => False) s3) (fun _ _ => False) s2) (fun _ _ => False) s1) (fun _ _ => False) s)
    (n : Nat) (h : I n s) : codeAny (model prog w) A (.compLoop (.ListComp elt [⟨target, iter, ifs, 0⟩] scope pos) 0 it acc env) R s := by
  refine codeAny_loop rfl I (fun n s hI => ?_) n h
  show wpAny _ A ((compTurn (.ListComp elt [⟨target, iter, ifs, 0⟩] scope pos) 0 it acc env).onRaise (fun x => do noteFrame x env; theTreesLotGoes x)) _ _ s
  refine wpAny_noted (wpAny_noRaise ?_)
  rw [compTurn_list]
  refine wpAny_bind (wpAny_standAt (wpAny_bind (thn (turn n s hI) fun r s1 h1 => ?_)))
  cases r with
  | none => exact wpAny_pure h1
  | some v =>
    refine wpAny_bind (thn h1 fun _ s2 h2 => wpAny_bind (thn h2 fun _ s3 h3 => wpAny_bind (thn h3 fun ok s4 h4 => ?_)))
    cases ok with
    | false => exact wpAny_pure ⟨rfl, h4⟩
    | true => exact wpAny_bind (wpAny_bind (thn h4 fun y s5 h5 => wpAny_bind (thn h5 fun _ s6 h6 => wpAny_pure (wpAny_pure ⟨rfl, h6⟩))))
theorem Slots.snoc {mg : MG} {S H : Hp} {g : Own} {e : Option PV} {v : Option V} {a : List Addr} : ∀ {Γ : List Own} {env : Env} {σ : L2.St} {as : List Addr}, Slots mg S H Γ env σ as → Slot mg S H g e v a → Slots mg S H (Γ ++ [g]) (env ++ [e]) (σ ++ [v]) (as ++ a)
  | [], _, _, _, h, q => by
    obtain ⟨rfl, rfl, rfl⟩ := h
    exact ⟨e, [], v, [], a, [], rfl, rfl, by simp, q, rfl, rfl, rfl⟩
  | _ :: Γ, _, _, _, ⟨e1, er, v1, r, a1, a2, h1, h2, h3, q1, t⟩, q => by
    subst h1 h2 h3
    exact ⟨e1, er ++ [e], v1, r ++ [v], a1, a2 ++ a, rfl, rfl, by simp, q1, Slots.snoc t q⟩
theorem Rel.snoc {mg : MG} {S₀ H₀ S H : Hp} {Γ : List Own} {env : Env} {σ : L2.St} {y : PV} {v : V} (r : Rel mg S₀ H₀ Γ env σ S H) (rv : Rep mg S y v) : Rel mg S₀ H₀ (Γ ++ [.s]) (env ++ [some y]) (σ ++ [some v]) S H := by
  obtain ⟨as, sl, nd, fr⟩ := r.own
  have z := Slots.snoc (g := .s) (e := some y) (v := some v) (a := []) sl ⟨v, rfl, rfl, rv⟩
  rw [List.append_nil] at z
  exact ⟨r.ext, as, z, nd, fr⟩
theorem Ext.less {S H S1 H1 Hm : Hp} {D : Addr} {o : HO} (e0 : H = upd Hm D o) (hm : Hm D = none) (hs : S D = none) (x : Ext S H S1 H1) : ∃ Hm1, Hm1 D = none ∧ Ext S Hm S1 Hm1 ∧ H1 = upd Hm1 D o ∧ S1 D = none := by
  subst e0
  have s1 : S1 D = none := by
    cases z : S1 D with
    | none => rfl
    | some u =>
      rcases x.n D u z with q | q
      · rw [hs] at q; cases q
      · rw [upd_same] at q; cases q
  refine ⟨fun b => if b = D then none else H1 b, if_pos rfl, ⟨fun b u q => ?_, x.s, fun b u q => ?_, fun b u q => ?_⟩, ?_, s1⟩
  · have nb : b ≠ D := by rintro rfl; rw [hm] at q; cases q
    show (if b = D then none else H1 b) = some u
    rw [if_neg nb]
    exact x.h b u (by rw [upd_ne nb]; exact q)
  · have nb : b ≠ D := by rintro rfl; rw [s1] at q; cases q
    show (if b = D then none else H1 b) = some u
    rw [if_neg nb]
    exact x.sh b u q
  · rcases x.n b u q with z | z
    · exact .inl z
    · have nb : b ≠ D := by rintro rfl; rw [s1] at q; cases q
      rw [upd_ne nb] at z
      exact .inr z
  · funext b
    unfold upd
    by_cases nb : b = D
    · subst nb
      rw [if_pos rfl]
      exact x.h b o upd_same
    · rw [if_neg nb]; show H1 b = if b = D then none else H1 b; rw [if_neg nb]
theorem upd_more {Hm : Hp} {D : Addr} {o o' : HO} : upd (upd Hm D o) D o' = upd Hm D o' := by
  funext b
  unfold upd
  by_cases nb : b = D
  · rw [if_pos nb, if_pos nb]
  · rw [if_neg nb, if_neg nb, if_neg nb]
section
variable {X : Cx} {Γ : List Own} {N' : List Str} {x : Str} {scope : Scope} {px pos : Pos} {elt iter : Expr} {ifs : List Expr} {fe : Ev} {ft : Tv}
/-- what the test and the element are worth in the block -/
def CompE (X : Cx) (Γ : List Own) (N' : List Str) (scope : Scope) (ifs : List Expr) (elt : Expr) (ft : Tv) (fe : Ev) : Prop := ∀ cl C s₀ H₀ ex,
  PEB (compX X N' scope cl C s₀ H₀ ex) (Γ ++ [.s]) elt .s fe ∧ ((ifs = [] ∧ ft = tYes) ∨ ∃ c, ifs = [c] ∧ PTB (compX X N' scope cl C s₀ H₀ ex) (Γ ++ [.s]) c ft)
theorem compL_err {ft : Tv} {fe : Ev} {env : Env} : ∀ {xs : List PV} {c : Str}, compL ft fe env xs = .err c → False
  | [], c, h => by cases h
  | x :: r, c, h => by
    unfold compL at h
    cases h1 : ft (env ++ [some x]) with
    | no => rw [h1] at h; cases h
    | err e => rw [h1] at h; cases h
    | ok b =>
      rw [h1] at h
      cases b with
      | false => exact compL_err h
      | true =>
        cases h2 : fe (env ++ [some x]) with
        | no => simp only [h2] at h; cases h
        | err e => simp only [h2] at h; cases h
        | ok y =>
          simp only [h2] at h
          cases h3 : compL ft fe env r with
          | no => rw [h3] at h; cases h
          | err e => exact compL_err h3
          | ok z => rw [h3] at h; cases h
theorem set_last {α : Type} {a b : α} : ∀ {l : List α}, (l ++ [a]).set l.length b = l ++ [b]
  | [] => rfl
  | c :: l => by
    show c :: (l ++ [a]).set l.length b = c :: (l ++ [b])
    rw [set_last]
theorem comp_run (n : CompN X.N N' x scope X.env.scope) (hc : X.calm = true) (hE : CompE X Γ N' scope ifs elt ft fe)
    {pins : List (Addr × Obj)} {σ : L2.St} {H2 : Hp} {s3 : Shared} {it D : Addr} {fp : List Addr} {tn : Nat → Heap → Prop} {J : It} {S₀ H₀ S2 : Hp} {env : Env} {xs tot : List PV} (I3 : Inv X pins σ (upd H2 D (.lst [])) s3) (hD : H2 D = none) (T : Turn X.prog X.w X.K (.Name x px) J fp it tn)
    (st : tn 0 s3.heap) (hfp : ∀ b ∈ fp, FpOk X pins (upd H2 D (.lst [])) b) (rl : Rel X.mg S₀ H₀ Γ env σ S2 H2) (hJ : ItB X.mg J xs S2) (hcomp : compL ft fe env xs = .ok tot) (hlen : xs.length < sizeL)
    {cl : List (Str × Addr)} (c1 : ∀ y c, cl.lookup y = some c → X.env.cells.lookup y = some c) (c2 : ∀ y, (y, NameKind.free) ∈ scope.names → ∃ c, cl.lookup y = some c) {RR : Value → Addr → Result → Shared → Prop} {h1 : Heap} {m0 : Str → Option Value} {tk : Nat}
    (hns : h1.Ns s3.heap.objs.size m0) (hk : ∀ b o, s3.heap.get? b = some o → h1.get? b = some o)
    (fin : ∀ D C s1 S3 Hm vs, H2 D = none → Hm D = none → Ext S2 H2 S3 Hm → Reps X.mg S3 tot vs → Inv X pins σ (upd Hm D (.lst vs)) s1 → FpOk X pins (upd Hm D (.lst vs)) C → (∃ m, s1.heap.Ns C m) → RR (.ref D) C (.ok .next) s1) :
    codeAny (model X.prog X.w) X.A (.compLoop (.ListComp elt [⟨.Name x px, iter, ifs, 0⟩] scope pos) 0 (.ref it) (.ref D) (compEnvC scope cl s3.heap.objs.size X.env)) (RR (.ref D) s3.heap.objs.size) { s3 with heap := h1, toks := tk } := by
  have hob : ∀ b ∈ fp, ∃ o, s3.heap.get? b = some o := fun b hb => let ⟨o, e, _⟩ := T.obj _ _ st b hb; ⟨o, e⟩
  have I4 := comp_inv (tk := tk) I3 n c1 c2 hfp hob hns hk
  have st4 : tn 0 h1 := T.keep _ _ _ st fun b hb o e => hk b o e
  obtain ⟨hEe, hEt⟩ := hE cl s3.heap.objs.size s3 (upd H2 D (.lst [])) fp
  have fpOk' : ∀ {H' : Hp}, (∀ b ∈ fp, H' b = none) → ∀ b ∈ fp, FpOk (compX X N' scope cl s3.heap.objs.size s3 (upd H2 D (.lst [])) fp) [] H' b := fun {H'} hn b hb => by
    obtain ⟨f0, f1, f2, f3, f4, f5⟩ := hfp b hb
    refine ⟨hn b hb, ?_, fun z => ?_, .inl hb, fun y c h => f4 y c (c1 y c h), fun p hp => (by simp [compX] at hp)⟩
    · obtain ⟨o, e⟩ := hob b hb
      exact Nat.ne_of_lt (Heap.lt_size e)
    · rcases List.mem_cons.mp (I3.stkSub b z) with q | q
      · exact f1 q
      · exact f2 q
  refine comp_loop (fun k s' => ∃ i vx Hm S3 ys vs rest, Inv (compX X N' scope cl s3.heap.objs.size s3 (upd H2 D (.lst [])) fp) [] (σ ++ [vx]) (upd Hm D (.lst vs)) s' ∧ tn i s'.heap ∧ (∀ b ∈ fp, (upd Hm D (.lst vs)) b = none) ∧ Hm D = none ∧ Ext S2 H2 S3 Hm ∧
    Reps X.mg S3 ys vs ∧ compL ft fe env (xs.drop i) = .ok rest ∧ ys ++ rest = tot ∧ i ≤ xs.length ∧ k = xs.length + 1 - i ∧ ys.length ≤ i) ?_ (xs.length + 1) ⟨0, none, H2, S2, [], [], tot, I4, st4, fun b hb => (hfp b hb).1, hD, Ext.refl rl.ext.sh, rfl, hcomp, rfl, Nat.zero_le _, rfl, Nat.le_refl _⟩
  rintro k s' ⟨i, vx, Hm, S3, ys, vs, rest, I5, st5, fr5, hm, x5, rs, hcl, htot, hi, rfl, hy⟩
  have s3D : S3 D = none := x5.sh.none hm
  have sub3 : Sub S3 (upd Hm D (.lst vs)) := fun b o q => by rw [upd_ne (ne_of_none (x5.sh b o q) hm)]; exact x5.sh b o q
  obtain ⟨go, stop⟩ := hJ S3 (upd Hm D (.lst vs)) x5.s sub3
  by_cases hlt : i < xs.length
  · obtain ⟨g1, g2⟩ := go i xs[i] (by simp [hlt])
    refine thn (T.item (compX X N' scope cl s3.heap.objs.size s3 (upd H2 D (.lst [])) fp) rfl rfl rfl hc i [] s' _ _ (fun _ _ => False) I5 (fpOk' fr5) st5 g1) fun r s6 ⟨u, hr, h6⟩ => ?_
    subst hr
    refine thn h6 fun _ s7 ⟨v, H7, I7, rv, y7, st7, fr7⟩ => ?_
    obtain ⟨S7, x7, rp⟩ := g2 v H7 y7
    obtain ⟨Hm7, hm7, x7', e7, s7D⟩ := x7.less rfl hm s3D
    subst e7
    have I7' := I7.pinned (fpOk' fr7) (T.obj _ _ st7)
    have pg := pg_name (X := compX X N' scope cl s3.heap.objs.size s3 (upd H2 D (.lst [])) fp) (pos := px) n.nd n.last (.inl (lookup_relabel_local n.var)) (.inr (lookup_relabel_local n.var))
    have el : (σ ++ [vx]).set X.N.length (some v) = σ ++ [some v] := by rw [← I3.len]; exact set_last
    refine thn (wpAny_mono (pg _ s7 _ _ v u (fun σ' H' => σ' = σ ++ [some v] ∧ H' = upd Hm7 D (.lst vs)) I7' rv ⟨el, rfl⟩) (fun _ _ z => z) fun _ _ z => z) fun _ s8 ⟨σ8, H8, I8, e8, e8'⟩ => ?_
    subst e8 e8'
    rw [List.drop_eq_getElem_cons hlt] at hcl
    unfold compL at hcl
    have rel7 : Rel X.mg S₀ H₀ (Γ ++ [.s]) (env ++ [some xs[i]]) (σ ++ [some v]) S7 (upd Hm7 D (.lst vs)) := ((rl.grow (x5.trans x7')).grow (Ext.own x7'.sh hm7)).snoc rp
    -- the test
    have test : wpAny (model X.prog X.w) X.A (forIn ifs true fun c r => if r = true then do let ok ← isTrue c (compEnvC scope cl s3.heap.objs.size X.env) (eval c (compEnvC scope cl s3.heap.objs.size X.env)); pure (ForInStep.yield ok) else pure (ForInStep.yield r))
        (fun ok s9 => ft (env ++ [some xs[i]]) = .ok ok ∧ ∃ S9 H9, Ext S7 (upd Hm7 D (.lst vs)) S9 H9 ∧ Inv (compX X N' scope cl s3.heap.objs.size s3 (upd H2 D (.lst [])) fp) ([] ++ pinsAt fp s7.heap) (σ ++ [some v]) H9 s9) (fun _ _ => False) s8 := by
      rcases hEt with ⟨rfl, rfl⟩ | ⟨c, rfl, pt⟩
      · exact wpAny_tests_nil ⟨rfl, S7, _, Ext.refl rel7.ext.sh, I8⟩
      · cases hb : ft (env ++ [some xs[i]]) with
        | no => rw [hb] at hcl; cases hcl
        | err e => rw [hb] at hcl; cases hcl
        | ok b =>
          refine wpAny_tests_one (wpAny_mono (pt (fun _ _ _ => False) _ s8 _ _ (fun b' H' => b' = b ∧ ∃ S', Ext S7 (upd Hm7 D (.lst vs)) S' H') (I8.wish _) ⟨S₀, H₀, env ++ [some xs[i]], S7, rel7, ?_⟩) (fun ok s9 ⟨H9, I9, e, S9, x9⟩ => ⟨by rw [e], S9, H9, x9, I9.unwish⟩) fun _ _ ⟨_, _, _, _, z⟩ => z)
          rw [hb]
          exact fun H' S' x => ⟨rfl, S', x⟩
    refine thn test fun ok s9 ⟨hft, S9, H9, x9, I9⟩ => ?_
    obtain ⟨Hm9, hm9, x9', e9, s9D⟩ := x9.less rfl hm7 s7D
    subst e9
    rw [hft] at hcl
    have pin9 : ∀ {σ' : L2.St} {H' : Hp} {s' : Shared}, Inv (compX X N' scope cl s3.heap.objs.size s3 (upd H2 D (.lst [])) fp) ([] ++ pinsAt fp s7.heap) σ' H' s' → tn (i + 1) s'.heap ∧ ∀ b ∈ fp, H' b = none := fun {σ' H' s'} J => by
      refine ⟨T.keep _ _ _ st7 fun b hb o e => (J.pin (b, o) (List.mem_append_right _ (List.mem_append_right _ (mem_pinsAt hb e)))).1, fun b hb => ?_⟩
      obtain ⟨o, e, d⟩ := T.obj _ _ st7 b hb
      exact (J.pin (b, o) (List.mem_append_right _ (List.mem_append_right _ (mem_pinsAt hb e)))).2.1
    have x59 := (x5.trans x7').trans x9'
    cases ok with
    | false =>
      obtain ⟨p1, p2⟩ := pin9 I9
      exact ⟨xs.length + 1 - (i + 1), by omega, i + 1, some v, Hm9, S9, ys, vs, rest, I9.unpinned, p1, p2, hm9, x59, rs.mono (x7'.s.trans x9'.s), hcl, htot, hlt, rfl, by omega⟩
    | true =>
      have rel9 : Rel X.mg S₀ H₀ (Γ ++ [.s]) (env ++ [some xs[i]]) (σ ++ [some v]) S9 (upd Hm9 D (.lst vs)) := ((rl.grow x59).grow (Ext.own x59.sh hm9)).snoc (rp.mono x9'.s)
      cases hy' : fe (env ++ [some xs[i]]) with
      | no => simp only [hy'] at hcl; cases hcl
      | err e => simp only [hy'] at hcl; cases hcl
      | ok y =>
        simp only [hy'] at hcl
        show wpAny _ _ (eval elt (compEnvC scope cl s3.heap.objs.size X.env)) _ _ s9
        refine thn (wpAny_mono (hEe (fun _ _ _ => False) _ s9 _ _ (fun vy H' => ∃ S', Ext S9 (upd Hm9 D (.lst vs)) S' H' ∧ Rep X.mg S' y vy) (I9.wish _) ⟨S₀, H₀, env ++ [some xs[i]], S9, rel9, ?_⟩) (fun _ _ z => z) fun _ _ ⟨_, _, _, _, z⟩ => z) fun uy s10 ⟨vy, H10, I10, ry, S10, x10, rpy⟩ => ?_
        · rw [hy']
          exact Good.of fun vy H' S' x r => ⟨S', x, r⟩
        · obtain ⟨Hm10, hm10, x10', e10, s10D⟩ := x10.less rfl hm9 s9D
          subst e10
          have hvl := rs.length
          have hz : vs.length < sizeLine := by rw [sizeL_eq]; omega
          refine thn (wpAny_mono (mt_append (X := compX X N' scope cl s3.heap.objs.size s3 (upd H2 D (.lst [])) fp) _ s10 _ _ (.ref D) [vy] (.ref D) [uy] (fun v' H' => H' = upd Hm10 D (.lst (vs ++ [vy]))) I10.unwish rfl (.cons ry .nil) ⟨D, vs, vy, rfl, rfl, upd_same, hz, upd_more⟩) (fun _ _ z => z) fun _ _ z => z) fun u2 s11 ⟨v2, H11, I11, _, e11⟩ => ?_
          subst e11
          obtain ⟨p1, p2⟩ := pin9 I11
          cases hr : compL ft fe env (List.drop (i + 1) xs) with
          | no => rw [hr] at hcl; cases hcl
          | err e => rw [hr] at hcl; cases hcl
          | ok rest' =>
            rw [hr] at hcl
            cases hcl
            exact ⟨xs.length + 1 - (i + 1), by omega, i + 1, some v, Hm10, S10, ys ++ [y], vs ++ [vy], rest', I11.unpinned, p1, p2, hm10, x59.trans x10', (rs.mono ((x7'.s.trans x9'.s).trans x10'.s)).append ⟨vy, [], rfl, rpy, rfl⟩, hr, by rw [List.append_assoc]; exact htot, hlt, rfl, by rw [List.length_append, List.length_singleton]; omega⟩
  · have e : i = xs.length := by omega
    subst e
    refine thn (T.done (compX X N' scope cl s3.heap.objs.size s3 (upd H2 D (.lst [])) fp) rfl rfl rfl hc _ [] s' _ _ (fun _ _ => False) I5 (fpOk' fr5) st5 (stop _ (Nat.le_refl _))) fun r s6 ⟨hr, I6⟩ => ?_
    subst hr
    rw [List.drop_length] at hcl
    cases hcl
    rw [List.append_nil] at htot
    subst htot
    refine fin D s3.heap.objs.size s6 S3 Hm vs hD hm x5 rs (I3.call' I6.os I6.base I6.hok I6.bare fun b hb => ?_) (I3.fpOk (Nat.le_refl _) I6.free) ?_
    · obtain ⟨f0, f1, f2, f3, f4, f5⟩ := hfp b hb
      exact ⟨f3, f1, f4, f5⟩
    · obtain ⟨m, h, _⟩ := I6.loc
      exact ⟨m, h⟩
theorem comp_block (n : CompN X.N N' x scope X.env.scope) (hc : X.calm = true) (hE : CompE X Γ N' scope ifs elt ft fe)
    {pins : List (Addr × Obj)} {σ : L2.St} {H2 : Hp} {s2 : Shared} {it : Addr} {fp : List Addr} {tn : Nat → Heap → Prop} {J : It} {S₀ H₀ S2 : Hp} {env : Env} {xs tot : List PV} (I2 : Inv X pins σ H2 s2) (T : Turn X.prog X.w X.K (.Name x px) J fp it tn)
    (st : tn 0 s2.heap) (hfp : ∀ b ∈ fp, FpOk X pins H2 b) (rl : Rel X.mg S₀ H₀ Γ env σ S2 H2) (hJ : ItB X.mg J xs S2) (hcomp : compL ft fe env xs = .ok tot) (hlen : xs.length < sizeL)
    {cl : List (Str × Addr)} (c1 : ∀ y c, cl.lookup y = some c → X.env.cells.lookup y = some c) (c2 : ∀ y, (y, NameKind.free) ∈ scope.names → ∃ c, cl.lookup y = some c) {E : Value → Shared → Prop} {RR : Value → Addr → Result → Shared → Prop}
    (fin : ∀ D C s1 S3 Hm vs, H2 D = none → Hm D = none → Ext S2 H2 S3 Hm → Reps X.mg S3 tot vs → Inv X pins σ (upd Hm D (.lst vs)) s1 → FpOk X pins (upd Hm D (.lst vs)) C → (∃ m, s1.heap.Ns C m) → RR (.ref D) C (.ok .next) s1) :
    wpAny (model X.prog X.w) X.A (newList []) (fun acc s3 => wpAny (model X.prog X.w) X.A (newFunctionEnv scope X.env.globals cl [] X.env.qual none .none (some X.env)) (fun cenv s4 =>
      codeAny (model X.prog X.w) X.A (.compStart (.ListComp elt [⟨.Name x px, iter, ifs, 0⟩] scope pos) 0 (.ref it) acc { cenv with scope := relabel scope X.env }) (RR acc cenv.locals) s4) E s3) E s2 := by
  refine wpAny_newObj_type (wpAny_newFunctionEnv n.cell (by intro y hy; simp at hy) (fun h1 hns hsb => ?_) n.kind)
  dsimp only at hns hsb ⊢
  have I3 : Inv X pins σ (upd H2 s2.heap.objs.size (.lst [])) { s2 with heap := s2.heap.push { cls := .type "list", dict := none, data := .seq ([] : List Value).toArray } } :=
    I2.laid (t' := s2.toks) (fun b u e => Heap.get?_push_of_some _ e) (Nat.le_refl _) ⟨Nat.zero_le _, [], 0, .nil, Heap.get?_push_size _ rfl⟩
  have hk : ∀ b o, (s2.heap.push { cls := .type "list", dict := none, data := .seq ([] : List Value).toArray }).get? b = some o → h1.get? b = some o := fun b o e => hsb.extBut b o (Nat.ne_of_lt (Heap.lt_size e)) (Heap.get?_push_of_some _ e)
  have hfp3 : ∀ b ∈ fp, FpOk X pins (upd H2 s2.heap.objs.size (.lst [])) b := fun b hb => by
    obtain ⟨o, e, _⟩ := T.obj _ _ st b hb
    exact ⟨by rw [upd_ne (Nat.ne_of_lt (Heap.lt_size e))]; exact (hfp b hb).1, (hfp b hb).2⟩
  have st3 : tn 0 (s2.heap.push { cls := .type "list", dict := none, data := .seq ([] : List Value).toArray }) := T.keep _ _ _ st fun b hb o e => Heap.get?_push_of_some _ e
  have loop := comp_run (iter := iter) (pos := pos) (tk := s2.toks + ([] : List (Str × Value)).length) (RR := RR) n hc hE I3 I2.fresh T st3 hfp3 rl hJ hcomp hlen c1 c2 hns hk fin
  exact codeAny_compStart_list loop (T.self _ 0 _ _ _ (T.keep _ _ _ st3 fun b hb o e => hk b o e) loop)
/-- [elt for x in iter if test] -/
theorem b_comp {fi : Iv} (n : CompN X.N N' x scope X.env.scope) (hc : X.calm = true) (hit : PIB X Γ (.Name x px) iter fi) (hE : CompE X Γ N' scope ifs elt ft fe) (hs : ∀ x, foldedSetIterable iter X.env x = pure x := by intro _; rfl) :
    PEB X Γ (.ListComp elt [⟨.Name x px, iter, ifs, 0⟩] scope pos) (.o []) (eComp fi ft fe) := .mk fun W pins s σ H Q I ⟨S₀, H₀, env, S, r, q⟩ => by
  obtain ⟨cl, hcl, c1, c2⟩ := closureFor_of (env := X.env) (scope := scope) fun y hy hf => I.ok.has y.1 (.inl (n.free y hy hf))
  rw [eval_ListComp]
  refine wpAny_comprehension_free (use := none) rfl hs hcl n.kind n.locs (thn (hit W pins s σ H (fun J H1 => ∃ xs S1, fi env = .ok xs ∧ Ext S H S1 H1 ∧ ItB X.mg J xs S1) I ⟨S₀, H₀, env, S, r, ?_⟩) fun xv s1 h1 => thn h1 fun itv s2 ⟨it, fp, tn, J, H2, e, I2, T, st2, f2, xs, S2, hxs, x2, hJ⟩ => ?_)
  · unfold eComp at q
    cases hf : fi env with
    | no => rw [hf] at q; exact q
    | err c => rw [hf] at q; exact q
    | ok xs => exact fun J H' S' x z => ⟨xs, S', rfl, x, z⟩
  · subst e
    unfold eComp at q
    rw [hxs, R.bind_ok] at q
    cases hl : decide (xs.length < sizeL) with
    | false => rw [hl] at q; exact q.elim
    | true =>
      rw [hl] at q
      cases ht : compL ft fe env xs with
      | no => rw [ht] at q; exact q.elim
      | err c => rw [ht] at q; exact False.elim (compL_err ht)
      | ok tot =>
        rw [ht] at q
        refine comp_block (RR := fun acc C => compPost (model X.prog X.w) X.A (XB X W).xe none (EP (XB X W) pins σ Q) acc C) n hc hE I2.unwish T st2 f2 (r.grow x2) hJ ht (of_decide_eq_true hl) c1 c2 fun D C s3 S3 Hm vs hD hm x3 rs I3 fC ⟨m, hm2⟩ => ⟨m, hm2, fun h' sb => ?_⟩
        obtain ⟨g0, g1, g2, g3, g4, g5⟩ := fC
        refine ⟨.ref D, upd Hm D (.lst vs), (I3.turned (t' := s3.toks) (fun b o hb e => (sb.2 b hb).trans e) g0 g1 g3 g4 g5).wish _, rfl, ?_⟩
        have x4 := (x2.trans x3).trans (Ext.own (o := .lst vs) x3.sh hm)
        refine q (.ref D) _ S3 [D] x4 ⟨D, vs, [], rfl, upd_same, ⟨rfl, rs⟩, rfl⟩ (by simp) (fun a ma => ?_)
        have e : a = D := by simpa using ma
        subst e
        exact ⟨x2.h.none hD, x3.sh.none hm⟩
end
end B

namespace B
open PySem PySem.Spec PyProof.Rows L2
section
variable {X : Cx} {Γ : List Own} {pos : Pos}
/-- the name in the i-th slot -/
theorem bv (i : Nat) {x : Str} (hN : X.N[i]? = some x := by rfl) (hv : Vis X.env.scope x := by first | exact Or.inl rfl | exact Or.inr (Or.inl rfl) | exact Or.inr (Or.inr rfl)) (hg : Γ[i]? = some .s := by rfl) (hd : (x == ("__debug__" : Str)) = false := by decide)
    (hcd : (x == ("__classdict__" : Str)) = false := by decide) : PEB X Γ (.Name x pos) .s (eV i) := b_var hN hv hg hd hcd
theorem b_disp1 {k : Str} {i : Int} {j1 j2 : Nat} {p1 p2 : Pos} : PEB X Γ (.Dict [some (.Constant (.str k) j1 p1)] [.Constant (.int i) j2 p2] pos) (.o []) (eK (.dct [(.str k, .int i)])) := .mk fun W =>
  pimp (pe_disp (pps_cons pe_str pe_int pps_nil) rfl rfl (by simp) (show 1 ≤ 15 by decide)) fun σ H Q ⟨S₀, H₀, env, S, r, q⟩ p hp => by
    refine ⟨upd_same, [(Sum.inr k, .int i)], rfl, (show 1 ≤ 15 by decide), ?_⟩
    rw [upd_more]
    exact Good.own q r.ext.sh hp ⟨p, rfl, rfl, .inl ⟨[(Sum.inr k, .int i)], upd_same, ⟨_, _, _, rfl, rfl, rfl, rfl⟩⟩⟩
/-! ### all -/
theorem all_range : ∀ (bs : List Bool), (List.range bs.length).all (fun i => (bs[i]?).getD true) = bs.all id := fun bs => by
  rw [Bool.eq_iff_iff, List.all_eq_true, List.all_eq_true]
  constructor
  · intro h b hb
    obtain ⟨i, hi, e⟩ := List.mem_iff_getElem.mp hb
    have z := h i (List.mem_range.mpr hi)
    rw [List.getElem?_eq_getElem hi, e] at z
    exact z
  · intro h i hi
    have hi := List.mem_range.mp hi
    rw [List.getElem?_eq_getElem hi]
    exact h _ (List.getElem_mem hi)
theorem call_allB (hc : X.calm = true) : CallR X (.builtin "all") (fun xs H Q => ∃ (a : Addr) (vs : List V) (bs : List Bool), xs = [V.ref a] ∧ SqL X.K H a vs ∧ vs = bs.map V.bl ∧ Q (.bl (bs.all id)) H) := by
  intro pins s σ H xs us Q I r h
  obtain ⟨a, vs, bs, rfl, hq, hv, q⟩ := h
  obtain ⟨u, rfl, ru⟩ := vals1 r
  cases ru
  obtain ⟨its, rv, pl, hz⟩ := I.list hq
  have hl : its.length = bs.length := by rw [← rv.length, hv, List.length_map]
  have pl2 := pl.isList
  obtain ⟨ob, hob, _⟩ := id pl2
  refine call_all_walk (wpAny_pyIter_list pl.isList ?_)
  refine ⟨s.heap.objs.size, _, _, _, _, _, fun i => (bs[i]?).getD true, rfl, Walks.list (A := X.A.in1) (show X.A.in1.handled = none from I.ok.hd hc) _ a (Nat.ne_of_lt (Heap.lt_size hob)) its.toArray, ⟨⟨_, Heap.get?_push_size _ rfl, rfl, rfl⟩, pl2.at fun o e => Heap.get?_push_of_some _ e⟩, fun i v s' Q' E' hP hQ => ?_, fun h' tk hk => ?_⟩
  · have hP : its[i]? = some v := by simpa using hP
    have hi : i < bs.length := by rw [← hl]; exact (List.getElem?_eq_some_iff.mp hP).1
    obtain ⟨v', e1, e2⟩ := rv.get (i := i) (x := .bl bs[i]) (by rw [hv]; simp [hi])
    rw [hP] at e1
    cases e1
    cases (show v = Value.bool bs[i] from e2)
    refine wpAny_truthy_bool ?_
    have z : (bs[i]?).getD true = bs[i] := by simp [hi]
    have hQ : Q' ((bs[i]?).getD true) s' := hQ
    rw [z] at hQ
    exact hQ
  · refine ⟨.bl (bs.all id), H, I.kept fun b o e => hk b o ?_ (Heap.get?_push_of_some _ e), ?_, q⟩
    · intro z
      have z : b = s.heap.objs.size := by simpa using z
      exact absurd (Heap.lt_size e) (by rw [z]; exact Nat.lt_irrefl _)
    · show Value.bool _ = Value.bool _
      rw [List.size_toArray, hl, all_range]
theorem bools_V {mg : MG} {S : Hp} : ∀ {ys : List PV} {vs : List V} {bs : List Bool}, Reps mg S ys vs → bools ys = .ok bs → vs = bs.map V.bl
  | [], _, _, r, h => by cases (show _ = [] from r); cases h; rfl
  | y :: ys, _, bs, ⟨v, r, e, h1, t⟩, h => by
    subst e
    cases y with
    | bl b =>
      unfold bools at h
      cases hb : bools ys with
      | no => rw [hb] at h; cases h
      | err c => rw [hb] at h; cases h
      | ok bs' =>
        rw [hb] at h
        cases h
        rw [bools_V t hb, show v = .bl b from h1]
        rfl
    | _ => cases h
theorem bools_err : ∀ {ys : List PV} {c : Str}, bools ys = .err c → False
  | [], _, h => by cases h
  | y :: ys, c, h => by
    cases y with
    | bl b =>
      unfold bools at h
      cases hb : bools ys with
      | no => rw [hb] at h; cases h
      | err c => exact bools_err hb
      | ok bs' => rw [hb] at h; cases h
    | _ => cases h
theorem k_all (hc : X.calm = true) : CallB X (.builtin "all") .s cAll := fun W => by
  refine ⟨_, call_allB (X := XB X W) hc, fun ys vs S H hs r => ?_⟩
  match ys, r with
  | [], _ => exact True.intro
  | y :: _ :: _, _ => cases y <;> exact True.intro
  | [.non], _ => exact True.intro
  | [.bl _], _ => exact True.intro
  | [.int _], _ => exact True.intro
  | [.ins _ _], _ => exact True.intro
  | [.exc _], _ => exact True.intro
  | [.str x], _ => exact True.intro
  | [.tup xs], _ => exact True.intro
  | [.dct xs], _ => exact True.intro
  | [.lst xs], ⟨v, _, e1, ⟨a, us, ea, ra, rs⟩, e2⟩ =>
    show OkR ((allB xs).map PV.bl) _
    unfold allB
    cases hb : bools xs with
    | no => exact True.intro
    | err c => exact (bools_err hb).elim
    | ok bs =>
      intro Q g
      subst e1 e2 ea
      exact ⟨a, us, bs, rfl, .inl (Rd.mono hs ra), bools_V rs hb, g.sh (Ext.refl hs) rfl⟩
end
theorem boot_all : bootBuiltins "all" = some (.builtin "all") := by decide +kernel
end B

namespace B
open PySem PySem.Spec PyProof.Rows L2
/-! ### what is owned is changed -/
theorem Rel.mut {mg : MG} {S₀ H₀ S H S1 H1 : Hp} {Γ : List Own} {env : Env} {σ : L2.St} {i : Nat} {g : Own} {y : PV} (r : Rel mg S₀ H₀ Γ env σ S H) (x : Ext S H S1 H1) (hg : Γ[i]? = some g) (he : env[i]? = some (some y)) :
    ∃ u as, σ[i]? = some (some u) ∧ OwnR mg S H g y u as ∧ as.Nodup ∧ (∀ a ∈ as, S1 a = none) ∧ ∀ H2 y2, (∀ b, b ∉ as → H2 b = H1 b) → OwnR mg S1 H2 g y2 u as → Rel mg S₀ H₀ Γ (env.set i (some y2)) σ S1 H2 := by
  obtain ⟨es, sl, nd, fr⟩ := r.own
  obtain ⟨e, v, l1, ai, l2, k1, k2, k3, k4, k5⟩ := sl.at hg
  rw [he] at k1
  cases k1
  obtain ⟨u, rfl, ow⟩ := k4
  subst k3
  obtain ⟨n1, n2, n3⟩ := List.nodup_append.mp nd
  obtain ⟨n4, n5, n6⟩ := List.nodup_append.mp n1
  have s1 : ∀ a ∈ l1 ++ ai ++ l2, S1 a = none := fun a m => by
    cases z : S1 a with
    | none => rfl
    | some o =>
      rcases x.n a o z with q | q
      · rw [(fr a m).1] at q; cases q
      · obtain ⟨o', ho'⟩ := sl.there a m
        rw [q] at ho'; cases ho'
  have ain : ∀ a ∈ ai, a ∈ l1 ++ ai ++ l2 := fun a m => List.mem_append_left _ (List.mem_append_right _ m)
  refine ⟨u, ai, k2, ow, n5, fun a m => s1 a (ain a m), fun H2 y2 h2 ow2 => ⟨⟨fun b o q => ?_, r.ext.s.trans x.s, fun b o q => ?_, (r.ext.trans x).n⟩, l1 ++ ai ++ l2, ?_, nd, fun a m => ⟨s1 a m, (fr a m).2⟩⟩⟩
  · rw [h2 b fun m => by rw [(fr b (ain b m)).2] at q; cases q]
    exact x.h b o (r.ext.h b o q)
  · rw [h2 b fun m => by rw [s1 b (ain b m)] at q; cases q]
    exact x.sh b o q
  · have z := k5 S1 H2 g (some y2) (some u) ai x.s (fun a m o q => ?_) ⟨u, rfl, ow2⟩
    · rw [set_same hg, set_same k2] at z
      exact z
    · rw [h2 a fun m' => ?_]
      · exact x.h a o q
      · rcases List.mem_append.mp m with m | m
        · exact n6 a m a m' rfl
        · exact n3 a (List.mem_append_right _ m') a m rfl
section
variable {X : Cx} {w : Way} {Γ Γ' : List Own} {e k : Expr} {fe fk : Ev} {i : Nat} {x : Str} {p1 p2 p3 pos : Pos}
/-- xs.append(e) -/
theorem s_append (l : LeO w.e Γ) (hN : X.N[i]? = some x) (hv : Vis X.env.scope x) (hg : Γ[i]? = some (.o [])) (he : PEB X Γ e .s fe) (hline : (p2.endLine == p3.line) = true := by rfl)
    (hd : (x == ("__debug__" : Str)) = false := by decide) (hcd : (x == ("__classdict__" : Str)) = false := by decide)
    (hs : starEach [e] X.env = (false, eval e X.env) :: starEach [] X.env := by rfl)
    (hfew : ((backTo p3 (starEach [e] X.env)).all (fun x => !x.1) && (backToKw p3 (keywordEach [] X.env)).all (fun x => x.1.isSome) && decide ([e].length + ([] : List Keyword).length + (if ([] : List Keyword).isEmpty then 0 else 1) < 30)) = true := by rfl)
    (hsw : swapsWith (.Call (.Attribute (.Name x p1) "append" p2) [e] [] p3) none pos.line X.env = pure false := by rfl) :
    PSB X w Γ Γ (.Expr (.Call (.Attribute (.Name x p1) "append" p2) [e] [] p3) pos) (sMod i none (uAppend fe)) := .mk fun W _ =>
  psimp (ps_expr (pe_bm (X := XB X W) PySem.F.plainAttrs_list PySem.F.slot_list_append PySem.F.type_list_append mt_append (pe_var hN hv hd hcd) (pa_cons (he W) pa_nil hs) rfl hfew hline hs rfl) hsw) fun D σ H ⟨S₀, H₀, env, S, r, q⟩ => by
    unfold sMod at q
    cases hy : env[i]? with
    | none => rw [hy] at q; exact q.elim
    | some oy =>
      cases oy with
      | none => rw [hy] at q; exact q.elim
      | some y =>
        rw [hy] at q
        have q : OutB X.mg S₀ H₀ S w Γ W D (on (uAppend fe env y) env fun z => .nx (env.set i (some z))) := q
        unfold uAppend at q
        obtain ⟨u, as, k1, k2, k3, _, _⟩ := r.mut (Ext.refl r.ext.sh) hg hy
        cases y with
        | lst xs =>
          obtain ⟨a, vs, rest, rfl, ha, hr, hasr⟩ := (show ∃ a vs rest, u = .ref a ∧ H a = some (.lst vs) ∧ OwnRs X.mg S H [] xs vs rest ∧ as = a :: rest from k2)
          refine ⟨_, k1, .inl ⟨rfl, _, SqL.of ha⟩, S₀, H₀, env, S, r, ?_⟩
          cases hf : fe env with
          | no => simp only [hf] at q; exact q.elim
          | err c => simp only [hf] at q; exact err_of l r q
          | ok z =>
            simp only [hf, R.bind_ok] at q
            cases hz : decide (xs.length < sizeL) with
            | false => simp only [hz, when_false] at q; exact q.elim
            | true =>
              simp only [hz, when_true] at q
              refine Good.of fun vz H1 S1 x1 rz => ?_
              obtain ⟨u', as', j1, j2, j3, j4, j5⟩ := r.mut x1 hg hy
              rw [k1] at j1
              cases j1
              obtain ⟨a', vs', rest', e1, ha', hr', has'⟩ := (show ∃ a' vs rest, V.ref a = .ref a' ∧ H a' = some (.lst vs) ∧ OwnRs X.mg S H [] xs vs rest ∧ as' = a' :: rest from j2)
              cases e1
              rw [ha] at ha'
              cases ha'
              have hl := hr.2.length
              refine ⟨a, vs, vz, rfl, rfl, x1.h _ _ ha, by rw [sizeL_eq]; have := of_decide_eq_true hz; omega, ?_⟩
              refine q _ _ S1 x1.s (j5 _ _ (fun b hb => upd_ne fun z => hb (by rw [has', z]; exact List.mem_cons_self)) ?_)
              rw [has', hr'.1]
              exact ⟨a, vs ++ [vz], [], rfl, upd_same, ⟨rfl, (hr.2.mono x1.s).append ⟨vz, [], rfl, rz, rfl⟩⟩, rfl⟩
        | _ => exact q.elim
end
end B

namespace B
open PySem PySem.Spec PyProof.Rows L2
/-! ### the law's own head -/
/-- no list stands among the objects that the top has written -/
def noListIn (K : PySem.W.Frag) : Bool := K.all fun p => match p.2.cls with
  | .type n => n != "list"
  | _ => true
theorem lookup_mem {α β : Type} [BEq α] [LawfulBEq α] {a : α} {b : β} : ∀ {l : List (α × β)}, l.lookup a = some b → (a, b) ∈ l
  | [], h => by simp at h
  | (c, d) :: r, h => by
    rw [List.lookup_cons] at h
    cases e : a == c with
    | true =>
      rw [e] at h
      cases h
      rw [eq_of_beq e]
      exact List.mem_cons_self
    | false => rw [e] at h; exact List.mem_cons_of_mem _ (lookup_mem h)
theorem no_list {K : PySem.W.Frag} (h : noListIn K = true) {H : Hp} {a : Addr} {xs : List V} (q : SqL K H a xs) : Rd H a (.lst xs) := by
  rcases q with q | ⟨o, its, n, hk, hc, _⟩
  · exact q
  · have z := List.all_eq_true.mp h _ (lookup_mem hk)
    simp only [hc] at z
    exact absurd z (by decide)
def spLaw : Sp := fun vs H Q _ => ∃ (a : Addr) (ns : List Int), vs = [.ref a] ∧ Rd H a (.lst (ns.map V.int)) ∧ ns.length ≤ 63 ∧ ∀ H', Q (.bl true) H'
theorem reps_ints {mg : MG} {S : Hp} : ∀ (ns : List Int), Reps mg S (ns.map .int) (ns.map V.int)
  | [] => rfl
  | n :: ns => ⟨.int n, ns.map V.int, rfl, rfl, reps_ints ns⟩
theorem sp_law {mg : MG} {g : List PV → R PV} (hl : ∀ ns : List Int, ns.length ≤ 63 → g [.lst (ns.map .int)] = .ok (.bl true)) {vs : List V} {H : Hp} {Q : VK} {E : XK} (h : spLaw vs H Q E) : spB mg 1 .s g vs H Q E := by
  obtain ⟨a, ns, rfl, q, hn, k⟩ := h
  refine ⟨fun b => if b = a then H a else none, [.lst (ns.map .int)], fun b o e => ?_, ⟨.ref a, [], rfl, ⟨a, ns.map V.int, rfl, ?_, reps_ints ns⟩, rfl⟩, rfl, ?_⟩
  · by_cases hb : b = a
    · subst hb; exact (if_pos rfl).symm.trans e
    · exact absurd ((if_neg hb).symm.trans e) (by simp)
  · rcases q with q | ⟨o, q⟩
    · exact .inl ((if_pos rfl).trans q)
    · exact .inr ⟨o, (if_pos rfl).trans q⟩
  · rw [hl ns hn]
    exact Good.of fun v H' S' x rv => by cases (show v = .bl true from rv); exact k H'
theorem walk {l : PySem.W.OpenLaw} {q : Program} {loose : List Str} {XP : (Str → Option Value) → Heap → Prop} {YP : World → Heap → Prop} {d : DefRec} {K : Params → PySem.W.Frag} {k : Nat} (hn : l.most = some 63) (hdf : d.params.defaults = []) (hr : Room k callerA)
    (hY : ∀ (w : World) (h : Heap), YP w h → (K w.params).In h) (hN : ∀ w : World, noListIn (K w.params) = true)
    (F : ∀ (w : World) (mg : Str → Option Value) (fa : Addr) (h : Heap), (K w.params).In h → h.Ns mainGlobals mg → mg d.name = some (.ref fa) →
      ∃ fd : FuncData, (∀ (s : Shared) (u : Value), BindsTo s fd ⟨[u], []⟩ [("script", u)]) ∧ ∀ base : Heap, (K w.params).In base → base.Ns mainGlobals mg → FnOk l.prog w (K w.params) mg base (CXB l.prog w) k fa fd ["script"] spLaw) :
    PySem.W.WalkO q loose XP YP l.row.toRowW d [] (fun f vs => PySem.call f vs) :=
  L2.walk_of (n := 63) (k := k) (x := "script") (CX := fun w => CXB l.prog w) (sp := fun _ => spLaw) hn (by decide) hdf hr hY F (fun w _ a ns hl _ hS => ⟨a, ns, rfl, no_list (hN w) hS, hl, fun _ => rfl⟩) fun _ _ _ _ _ ⟨_, _, _, _, _, z⟩ => z
end B

namespace B
open PySem
/-- the classes of the text -/
def known : List Str := []
/-- 0:thing -/
def y_is_whole : Sv :=
  (sRet (eAnd (e1 (isK known .int) (eV 0)) (e1 oNot (e1 (isK known .bl) (eV 0)))))
def f_is_whole : List PV → R PV := fn 1 y_is_whole
/-- 0:thing -/
def y_is_name : Sv :=
  (sSeq
    (sIf (tNot (tE (e1 (isK known .str) (eV 0))))
      (sRet (eK (.bl false)))
      sNx)
    (sSeq
      (sIf (tOr (tE (e2 oLt (eN cLen [(eV 0)]) (eK (.int 1)))) (tE (e2 oGt (eN cLen [(eV 0)]) (eK (.int 8)))))
        (sRet (eK (.bl false)))
        sNx)
      (sRet (eN cAll [(eComp (iV (eV 0)) tYes (e2 oIn (eV 1) (eK (.str (Str.ofString "abcdefghijklmnopqrstuvwxyz")))))]))))
def f_is_name : List PV → R PV := fn 1 y_is_name
/-- 0:thing -/
def y_is_amount : Sv :=
  (sRet (eAnd (eN f_is_whole [(eV 0)]) (eAnd (e2 oLe (eK (.int 1)) (eV 0)) (e2 oLt (eV 0) (e2 oPow (eK (.int 10)) (eK (.int 60)))))))
def f_is_amount : List PV → R PV := fn 1 y_is_amount
/-- 0:thing -/
def y_is_line : Sv :=
  (sRet (eAnd (eN f_is_whole [(eV 0)]) (eAnd (e2 oLe (eK (.int 0)) (eV 0)) (e2 oLt (eV 0) (e2 oPow (eK (.int 10)) (eK (.int 59)))))))
def f_is_line : List PV → R PV := fn 1 y_is_line
/-- 0:script 1:k -/
def y__law_cell_at : Sv :=
  (sSeq
    (sIf (tE (e2 oLt (eV 1) (eN cLen [(eV 0)])))
      (sRet (e2 oIx (eV 0) (eV 1)))
      sNx)
    (sRet (eK (.int 0))))
def f__law_cell_at : List PV → R PV := fn 2 y__law_cell_at
def b__law_text_1 : Sv :=
  (sSet 4 (e2 oAdd (eV 4) (e2 oIx (eV 2) (e2 oMod (e2 oDiv (eV 3) (e2 oAdd (eV 5) (eK (.int 1)))) (eK (.int 26))))))
/-- 0:cell 1:many 2:letters 3:mixed 4:word 5:k -/
def y__law_text : Sv :=
  (sSeq
    (sSet 2 (eK (.str (Str.ofString "abcdefghijklmnopqrstuvwxyz"))))
    (sSeq
      (sSet 3 (e2 oMod (e2 oMul (eV 0) (eK (.int 48271))) (eK (.int 2147483647))))
      (sSeq
        (sSet 4 (e2 oMul (e2 oIx (eV 2) (e2 oMod (eV 3) (eK (.int 26)))) (eV 1)))
        (sSeq
          (sIf (tE (e2 oEq (e2 oMod (e2 oDiv (eV 3) (eK (.int 26))) (eK (.int 2))) (eK (.int 1))))
            (sSeq
              (sSet 4 (eK (.str (Str.ofString ""))))
              (sFor (iR (eK (.int 0)) (eV 1) (eK (.int 1))) 5 b__law_text_1))
            sNx)
          (sRet (eV 4))))))
def f__law_text : List PV → R PV := fn 6 y__law_text
/-- 0:script 1:way 2:cell 3:other 4:word 5:spot 6:signs 7:some -/
def y__law_thing : Sv :=
  (sSeq
    (sSet 1 (e2 oMod (eN f__law_cell_at [(eV 0), (eK (.int 0))]) (eK (.int 6))))
    (sSeq
      (sSet 2 (eN f__law_cell_at [(eV 0), (eK (.int 1))]))
      (sSeq
        (sSet 3 (eN f__law_cell_at [(eV 0), (eK (.int 2))]))
        (sSeq
          (sIf (tE (e2 oEq (eV 1) (eK (.int 0))))
            (sRet (eN f__law_text [(eV 2), (e2 oAdd (eK (.int 1)) (e2 oMod (eV 3) (eK (.int 8))))]))
            sNx)
          (sSeq
            (sIf (tE (e2 oEq (eV 1) (eK (.int 1))))
              (sSeq
                (sSet 4 (eN f__law_text [(eV 2), (e2 oAdd (eK (.int 1)) (e2 oMod (eV 3) (eK (.int 8))))]))
                (sSeq
                  (sSet 5 (e2 oMod (e2 oDiv (eV 3) (eK (.int 8))) (eN cLen [(eV 4)])))
                  (sSeq
                    (sSet 6 (eLst [(eK (.str (Str.ofString "A"))), (eK (.str (Str.ofString "Z"))), (eK (.str (Str.ofString " "))), (eK (.str (Str.ofString "0"))), (eK (.str (Str.ofString "9"))), (eK (.str (Str.ofString "_"))), (eK (.str (Str.ofString "-"))), (eK (.str (Str.ofString "'"))), (eK (.str (Str.ofString "{"))), (eK (.str (Str.ofString "@"))), (eK (.str (Str.ofString "~"))), (eK (.str (Str.ofString "."))), (eK (.str (Str.ofString "\n"))), (eK (.str (Str.ofString "")))]))
                    (sRet (e2 oAdd (e2 oAdd (eCut none (some (eV 5)) (eV 4)) (e2 oIx (eV 6) (e2 oMod (e2 oDiv (eV 3) (eK (.int 64))) (eK (.int 14))))) (eCut (some (e2 oAdd (eV 5) (eK (.int 1)))) none (eV 4)))))))
              sNx)
            (sSeq
              (sIf (tE (e2 oEq (eV 1) (eK (.int 2))))
                (sRet (eN f__law_text [(eV 2), (e2 oIx (eLst [(eK (.int 0)), (eK (.int 9)), (eK (.int 10)), (eK (.int 11)), (eK (.int 12))]) (e2 oMod (eV 3) (eK (.int 5))))]))
                sNx)
              (sSeq
                (sIf (tE (e2 oEq (eV 1) (eK (.int 3))))
                  (sRet (e2 oSub (e2 oAdd (e2 oIx (eLst [(eK (.int 0)), (e2 oPow (eK (.int 10)) (eK (.int 59))), (e2 oPow (eK (.int 10)) (eK (.int 60)))]) (e2 oMod (eV 2) (eK (.int 3)))) (e2 oMod (eV 3) (eK (.int 5)))) (eK (.int 2))))
                  sNx)
                (sSeq
                  (sIf (tE (e2 oEq (eV 1) (eK (.int 4))))
                    (sRet (e2 oMul (e2 oMod (eV 2) (e2 oPow (eK (.int 10)) (eK (.int 60)))) (e2 oSub (eK (.int 1)) (e2 oMul (eK (.int 2)) (e2 oMod (eV 3) (eK (.int 2)))))))
                    sNx)
                  (sSeq
                    (sSet 7 (eLst [(eK .non), (eK (.bl true)), (eK (.bl false)), (eLst []), (eLst [(eK (.str (Str.ofString "a")))]), (eTup [(eK (.str (Str.ofString "a")))]), (eK (.dct [])), (eTup []), (eK (.str (Str.ofString ""))), (eLst [(eK (.int 1))]), (eTup [(eK (.str (Str.ofString "a"))), (eK (.str (Str.ofString "b")))]), (eK (.dct [((.str (Str.ofString "a")), (.int 1))]))]))
                    (sRet (e2 oIx (eV 7) (e2 oMod (eV 3) (eK (.int 12))))))))))))))
def f__law_thing : List PV → R PV := fn 8 y__law_thing
def b__law_due_name_1 : Sv :=
  (sIf (tE (e2 oNotIn (eV 1) (eK (.str (Str.ofString "abcdefghijklmnopqrstuvwxyz")))))
    (sRet (eK (.bl false)))
    sNx)
/-- 0:thing 1:sign -/
def y__law_due_name : Sv :=
  (sSeq
    (sIf (tOr (tNot (tE (e1 (isK known .str) (eV 0)))) (tOr (tE (e2 oEq (eV 0) (eK (.str (Str.ofString ""))))) (tE (e2 oGt (eN cLen [(eV 0)]) (eK (.int 8))))))
      (sRet (eK (.bl false)))
      sNx)
    (sSeq
      (sFor (iV (eV 0)) 1 b__law_due_name_1)
      (sRet (eK (.bl true)))))
def f__law_due_name : List PV → R PV := fn 2 y__law_due_name
def b_law_1 : Sv :=
  (sIf (tOr (tNot (tE (e1 (isK known .bl) (e2 oIx (eV 4) (eV 5))))) (tE (e2 oNe (e2 oIx (eV 4) (eV 5)) (e2 oIx (eV 3) (eV 5)))))
    (sRet (eK (.bl false)))
    sNx)
/-- 0:script 1:thing 2:whole 3:due 4:found 5:k -/
def y_law : Sv :=
  (sSeq
    (sSet 1 (eN f__law_thing [(eV 0)]))
    (sSeq
      (sSet 2 (eAnd (e1 (isK known .int) (eV 1)) (e1 oNot (e1 (isK known .bl) (eV 1)))))
      (sSeq
        (sSet 3 (eLst [(eN f__law_due_name [(eV 1)]), (eAnd (eV 2) (eChain oLt oLt (eK (.int 0)) (eV 1) (e2 oPow (eK (.int 10)) (eK (.int 60))))), (eAnd (eV 2) (eChain oLe oLt (eK (.int 0)) (eV 1) (e2 oPow (eK (.int 10)) (eK (.int 59)))))]))
        (sSeq
          (sSet 4 (eLst [(eN f_is_name [(eV 1)]), (eN f_is_amount [(eV 1)]), (eN f_is_line [(eV 1)])]))
          (sSeq
            (sFor (iR (eK (.int 0)) (eK (.int 3)) (eK (.int 1))) 5 b_law_1)
            (sRet (eK (.bl true))))))))
def f_law : List PV → R PV := fn 6 y_law

end B

namespace B
open PySem
theorem cell_at (ns : List Int) (k : Nat) : f__law_cell_at [.lst (ns.map .int), .int k] = .ok (.int (ns.getD k 0)) := by
  simp -implicitDefEqProofs only [fn, start, sSeq, sSet, setAll, sIf, sRet, sNx, sExp, sRaise, sFor, sForT, tE, tAnd, tOr, tNot, tYes, e1, e2, eN, evs, eV, eK, eLst, eTup, eAnd, eOr, eIf, eCut, cbound, eChain, eComp, oAdd_int, oAdd_str, oAdd_lst, oSub_int, oMul_int, oMul_str, oDiv_int, oMod_int, oPow_int, oNeg_int, oLt_int, oLe_int, oGt_int, oGe_int, oEq_int, oNe_int, oEq_str, oNe_str, oEq_bl, oNe_bl, oEq_lst, oNe_lst, oIn_lst, oIn_tup, oIn_dct, oIn_str, oNotIn_lst, oNotIn_dct, oNotIn_str, oIx_lst, oIx_tup, oIx_str, oIx_dct, oCut_lst, oCut_str, truth_bl, truth_int, truth_non, asB_bl, asI_int, oNot_bl, oAttr_ins, oIsNon_non, oNotNon_non, cLen_lst, cLen_tup, cLen_dct, cLen_str, cAll_lst, cSum_lst, cMin_int, cMax_int, cInt_bl, cList_lst, cList_tup, cDict_dct, cTuple_lst, cSorted_lst, cSorted_dct, mUpper_str, mGet_2, mGet_3, mCount_lst, iV_eq, walkV_lst, walkV_tup, keysV_dct, iD_eq, walkV_str, iR_eq, R.bind_ok, R.bind_err, R.bind_no, R.map_ok, R.map_err, R.map_no, on_ok, on_err, on_no, then_nx, then_ret, then_err, then_bk, then_ct, then_no, fin_ret, fin_nx, fin_err, fin_no, ofOpt_some, ofOpt_none, when_true, when_false, List.map_cons, List.map_nil, List.length_cons, List.length_nil, List.getElem?_cons_zero, List.getElem?_cons_succ, List.cons_append, List.nil_append, List.set_cons_zero, List.set_cons_succ, List.length_map, if_true, if_false, Bool.false_eq_true, reduceIte, decide_true, decide_false, Bool.and_true, Bool.true_and, Bool.not_true, Bool.not_false, isK_int_non, isK_int_bl, isK_int_int, isK_int_str, isK_int_tup, isK_int_lst, isK_int_dct, isK_int_exc, isK_int_ins, isK_bl_non, isK_bl_bl, isK_bl_int, isK_bl_str, isK_bl_tup, isK_bl_lst, isK_bl_dct, isK_bl_exc, isK_bl_ins, isK_str_non, isK_str_bl, isK_str_int, isK_str_str, isK_str_tup, isK_str_lst, isK_str_dct, isK_str_exc, isK_str_ins, isK_tup_non, isK_tup_bl, isK_tup_int, isK_tup_str, isK_tup_tup, isK_tup_lst, isK_tup_dct, isK_tup_exc, isK_tup_ins, isK_lst_non, isK_lst_bl, isK_lst_int, isK_lst_str, isK_lst_tup, isK_lst_lst, isK_lst_dct, isK_lst_exc, isK_lst_ins, isK_dct_non, isK_dct_bl, isK_dct_int, isK_dct_str, isK_dct_tup, isK_dct_lst, isK_dct_dct, isK_dct_exc, isK_dct_ins, isC_non, isC_bl, isC_int, isC_str, isC_tup, isC_lst, isC_dct, isC_ins, isC_exc, Int.reduceLT, Int.reduceLE, Nat.reduceLT, Nat.reduceLeDiff, Int.reduceToNat, Int.reduceNeg, Int.reduceEq, Int.reduceBEq, Nat.reduceAdd, Int.reduceAdd, Int.reduceSub, Bool.false_and, Bool.and_false, Bool.true_or, Bool.false_or, Nat.reduceEqDiff, Nat.reduceLT, f__law_cell_at, y__law_cell_at, atI_nat]
  by_cases h : k < ns.length
  · rw [if_pos (by simp; omega)]
    simp [h]
  · rw [if_neg (by simp; omega)]
    simp -implicitDefEqProofs only [fn, start, sSeq, sSet, setAll, sIf, sRet, sNx, sExp, sRaise, sFor, sForT, tE, tAnd, tOr, tNot, tYes, e1, e2, eN, evs, eV, eK, eLst, eTup, eAnd, eOr, eIf, eCut, cbound, eChain, eComp, oAdd_int, oAdd_str, oAdd_lst, oSub_int, oMul_int, oMul_str, oDiv_int, oMod_int, oPow_int, oNeg_int, oLt_int, oLe_int, oGt_int, oGe_int, oEq_int, oNe_int, oEq_str, oNe_str, oEq_bl, oNe_bl, oEq_lst, oNe_lst, oIn_lst, oIn_tup, oIn_dct, oIn_str, oNotIn_lst, oNotIn_dct, oNotIn_str, oIx_lst, oIx_tup, oIx_str, oIx_dct, oCut_lst, oCut_str, truth_bl, truth_int, truth_non, asB_bl, asI_int, oNot_bl, oAttr_ins, oIsNon_non, oNotNon_non, cLen_lst, cLen_tup, cLen_dct, cLen_str, cAll_lst, cSum_lst, cMin_int, cMax_int, cInt_bl, cList_lst, cList_tup, cDict_dct, cTuple_lst, cSorted_lst, cSorted_dct, mUpper_str, mGet_2, mGet_3, mCount_lst, iV_eq, walkV_lst, walkV_tup, keysV_dct, iD_eq, walkV_str, iR_eq, R.bind_ok, R.bind_err, R.bind_no, R.map_ok, R.map_err, R.map_no, on_ok, on_err, on_no, then_nx, then_ret, then_err, then_bk, then_ct, then_no, fin_ret, fin_nx, fin_err, fin_no, ofOpt_some, ofOpt_none, when_true, when_false, List.map_cons, List.map_nil, List.length_cons, List.length_nil, List.getElem?_cons_zero, List.getElem?_cons_succ, List.cons_append, List.nil_append, List.set_cons_zero, List.set_cons_succ, List.length_map, if_true, if_false, Bool.false_eq_true, reduceIte, decide_true, decide_false, Bool.and_true, Bool.true_and, Bool.not_true, Bool.not_false, isK_int_non, isK_int_bl, isK_int_int, isK_int_str, isK_int_tup, isK_int_lst, isK_int_dct, isK_int_exc, isK_int_ins, isK_bl_non, isK_bl_bl, isK_bl_int, isK_bl_str, isK_bl_tup, isK_bl_lst, isK_bl_dct, isK_bl_exc, isK_bl_ins, isK_str_non, isK_str_bl, isK_str_int, isK_str_str, isK_str_tup, isK_str_lst, isK_str_dct, isK_str_exc, isK_str_ins, isK_tup_non, isK_tup_bl, isK_tup_int, isK_tup_str, isK_tup_tup, isK_tup_lst, isK_tup_dct, isK_tup_exc, isK_tup_ins, isK_lst_non, isK_lst_bl, isK_lst_int, isK_lst_str, isK_lst_tup, isK_lst_lst, isK_lst_dct, isK_lst_exc, isK_lst_ins, isK_dct_non, isK_dct_bl, isK_dct_int, isK_dct_str, isK_dct_tup, isK_dct_lst, isK_dct_dct, isK_dct_exc, isK_dct_ins, isC_non, isC_bl, isC_int, isC_str, isC_tup, isC_lst, isC_dct, isC_ins, isC_exc, Int.reduceLT, Int.reduceLE, Nat.reduceLT, Nat.reduceLeDiff, Int.reduceToNat, Int.reduceNeg, Int.reduceEq, Int.reduceBEq, Nat.reduceAdd, Int.reduceAdd, Int.reduceSub, Bool.false_and, Bool.and_false, Bool.true_or, Bool.false_or, Nat.reduceEqDiff, Nat.reduceLT]
    simp [List.getD, List.getElem?_eq_none (Nat.le_of_not_lt h)]
theorem cell0 (ns : List Int) : f__law_cell_at [.lst (ns.map .int), .int 0] = .ok (.int (ns.getD 0 0)) := cell_at ns 0
theorem cell1 (ns : List Int) : f__law_cell_at [.lst (ns.map .int), .int 1] = .ok (.int (ns.getD 1 0)) := cell_at ns 1
theorem cell2 (ns : List Int) : f__law_cell_at [.lst (ns.map .int), .int 2] = .ok (.int (ns.getD 2 0)) := cell_at ns 2

theorem text_ok (cell : Int) (many : Int) (h0 : 0 ≤ many) (h : many ≤ 12) : ∃ s : Str, f__law_text [.int cell, .int many] = .ok (.str s) ∧ s.length = many.toNat := by
  obtain ⟨n, rfl⟩ : ∃ n : Nat, many = n := ⟨many.toNat, by omega⟩
  simp -implicitDefEqProofs only [fn, start, sSeq, sSet, setAll, sIf, sRet, sNx, sExp, sRaise, sFor, sForT, tE, tAnd, tOr, tNot, tYes, e1, e2, eN, evs, eV, eK, eLst, eTup, eAnd, eOr, eIf, eCut, cbound, eChain, eComp, oAdd_int, oAdd_str, oAdd_lst, oSub_int, oMul_int, oMul_str, oDiv_int, oMod_int, oPow_int, oNeg_int, oLt_int, oLe_int, oGt_int, oGe_int, oEq_int, oNe_int, oEq_str, oNe_str, oEq_bl, oNe_bl, oEq_lst, oNe_lst, oIn_lst, oIn_tup, oIn_dct, oIn_str, oNotIn_lst, oNotIn_dct, oNotIn_str, oIx_lst, oIx_tup, oIx_str, oIx_dct, oCut_lst, oCut_str, truth_bl, truth_int, truth_non, asB_bl, asI_int, oNot_bl, oAttr_ins, oIsNon_non, oNotNon_non, cLen_lst, cLen_tup, cLen_dct, cLen_str, cAll_lst, cSum_lst, cMin_int, cMax_int, cInt_bl, cList_lst, cList_tup, cDict_dct, cTuple_lst, cSorted_lst, cSorted_dct, mUpper_str, mGet_2, mGet_3, mCount_lst, iV_eq, walkV_lst, walkV_tup, keysV_dct, iD_eq, walkV_str, iR_eq, R.bind_ok, R.bind_err, R.bind_no, R.map_ok, R.map_err, R.map_no, on_ok, on_err, on_no, then_nx, then_ret, then_err, then_bk, then_ct, then_no, fin_ret, fin_nx, fin_err, fin_no, ofOpt_some, ofOpt_none, when_true, when_false, List.map_cons, List.map_nil, List.length_cons, List.length_nil, List.getElem?_cons_zero, List.getElem?_cons_succ, List.cons_append, List.nil_append, List.set_cons_zero, List.set_cons_succ, List.length_map, if_true, if_false, Bool.false_eq_true, reduceIte, decide_true, decide_false, Bool.and_true, Bool.true_and, Bool.not_true, Bool.not_false, isK_int_non, isK_int_bl, isK_int_int, isK_int_str, isK_int_tup, isK_int_lst, isK_int_dct, isK_int_exc, isK_int_ins, isK_bl_non, isK_bl_bl, isK_bl_int, isK_bl_str, isK_bl_tup, isK_bl_lst, isK_bl_dct, isK_bl_exc, isK_bl_ins, isK_str_non, isK_str_bl, isK_str_int, isK_str_str, isK_str_tup, isK_str_lst, isK_str_dct, isK_str_exc, isK_str_ins, isK_tup_non, isK_tup_bl, isK_tup_int, isK_tup_str, isK_tup_tup, isK_tup_lst, isK_tup_dct, isK_tup_exc, isK_tup_ins, isK_lst_non, isK_lst_bl, isK_lst_int, isK_lst_str, isK_lst_tup, isK_lst_lst, isK_lst_dct, isK_lst_exc, isK_lst_ins, isK_dct_non, isK_dct_bl, isK_dct_int, isK_dct_str, isK_dct_tup, isK_dct_lst, isK_dct_dct, isK_dct_exc, isK_dct_ins, isC_non, isC_bl, isC_int, isC_str, isC_tup, isC_lst, isC_dct, isC_ins, isC_exc, Int.reduceLT, Int.reduceLE, Nat.reduceLT, Nat.reduceLeDiff, Int.reduceToNat, Int.reduceNeg, Int.reduceEq, Int.reduceBEq, Nat.reduceAdd, Int.reduceAdd, Int.reduceSub, Bool.false_and, Bool.and_false, Bool.true_or, Bool.false_or, Nat.reduceEqDiff, Nat.reduceLT, f__law_text, y__law_text, abc_eq, cmul_r _ 48271 (by omega) (by omega)]
  generalize cell * 48271 % 2147483647 = m
  obtain ⟨c, hc, _⟩ := letter_at m
  simp -implicitDefEqProofs only [fn, start, sSeq, sSet, setAll, sIf, sRet, sNx, sExp, sRaise, sFor, sForT, tE, tAnd, tOr, tNot, tYes, e1, e2, eN, evs, eV, eK, eLst, eTup, eAnd, eOr, eIf, eCut, cbound, eChain, eComp, oAdd_int, oAdd_str, oAdd_lst, oSub_int, oMul_int, oMul_str, oDiv_int, oMod_int, oPow_int, oNeg_int, oLt_int, oLe_int, oGt_int, oGe_int, oEq_int, oNe_int, oEq_str, oNe_str, oEq_bl, oNe_bl, oEq_lst, oNe_lst, oIn_lst, oIn_tup, oIn_dct, oIn_str, oNotIn_lst, oNotIn_dct, oNotIn_str, oIx_lst, oIx_tup, oIx_str, oIx_dct, oCut_lst, oCut_str, truth_bl, truth_int, truth_non, asB_bl, asI_int, oNot_bl, oAttr_ins, oIsNon_non, oNotNon_non, cLen_lst, cLen_tup, cLen_dct, cLen_str, cAll_lst, cSum_lst, cMin_int, cMax_int, cInt_bl, cList_lst, cList_tup, cDict_dct, cTuple_lst, cSorted_lst, cSorted_dct, mUpper_str, mGet_2, mGet_3, mCount_lst, iV_eq, walkV_lst, walkV_tup, keysV_dct, iD_eq, walkV_str, iR_eq, R.bind_ok, R.bind_err, R.bind_no, R.map_ok, R.map_err, R.map_no, on_ok, on_err, on_no, then_nx, then_ret, then_err, then_bk, then_ct, then_no, fin_ret, fin_nx, fin_err, fin_no, ofOpt_some, ofOpt_none, when_true, when_false, List.map_cons, List.map_nil, List.length_cons, List.length_nil, List.getElem?_cons_zero, List.getElem?_cons_succ, List.cons_append, List.nil_append, List.set_cons_zero, List.set_cons_succ, List.length_map, if_true, if_false, Bool.false_eq_true, reduceIte, decide_true, decide_false, Bool.and_true, Bool.true_and, Bool.not_true, Bool.not_false, isK_int_non, isK_int_bl, isK_int_int, isK_int_str, isK_int_tup, isK_int_lst, isK_int_dct, isK_int_exc, isK_int_ins, isK_bl_non, isK_bl_bl, isK_bl_int, isK_bl_str, isK_bl_tup, isK_bl_lst, isK_bl_dct, isK_bl_exc, isK_bl_ins, isK_str_non, isK_str_bl, isK_str_int, isK_str_str, isK_str_tup, isK_str_lst, isK_str_dct, isK_str_exc, isK_str_ins, isK_tup_non, isK_tup_bl, isK_tup_int, isK_tup_str, isK_tup_tup, isK_tup_lst, isK_tup_dct, isK_tup_exc, isK_tup_ins, isK_lst_non, isK_lst_bl, isK_lst_int, isK_lst_str, isK_lst_tup, isK_lst_lst, isK_lst_dct, isK_lst_exc, isK_lst_ins, isK_dct_non, isK_dct_bl, isK_dct_int, isK_dct_str, isK_dct_tup, isK_dct_lst, isK_dct_dct, isK_dct_exc, isK_dct_ins, isC_non, isC_bl, isC_int, isC_str, isC_tup, isC_lst, isC_dct, isC_ins, isC_exc, Int.reduceLT, Int.reduceLE, Nat.reduceLT, Nat.reduceLeDiff, Int.reduceToNat, Int.reduceNeg, Int.reduceEq, Int.reduceBEq, Nat.reduceAdd, Int.reduceAdd, Int.reduceSub, Bool.false_and, Bool.and_false, Bool.true_or, Bool.false_or, Nat.reduceEqDiff, Nat.reduceLT, hc, abc_fits, len_one, Int.toNat_natCast, yes (Int.natCast_nonneg n), Nat.one_mul, yes (show n ≤ 1000 by omega), yes (show (n : Int) ≤ 1000 by omega)]
  by_cases h1 : m / 26 % 2 = 1
  · simp -implicitDefEqProofs only [fn, start, sSeq, sSet, setAll, sIf, sRet, sNx, sExp, sRaise, sFor, sForT, tE, tAnd, tOr, tNot, tYes, e1, e2, eN, evs, eV, eK, eLst, eTup, eAnd, eOr, eIf, eCut, cbound, eChain, eComp, oAdd_int, oAdd_str, oAdd_lst, oSub_int, oMul_int, oMul_str, oDiv_int, oMod_int, oPow_int, oNeg_int, oLt_int, oLe_int, oGt_int, oGe_int, oEq_int, oNe_int, oEq_str, oNe_str, oEq_bl, oNe_bl, oEq_lst, oNe_lst, oIn_lst, oIn_tup, oIn_dct, oIn_str, oNotIn_lst, oNotIn_dct, oNotIn_str, oIx_lst, oIx_tup, oIx_str, oIx_dct, oCut_lst, oCut_str, truth_bl, truth_int, truth_non, asB_bl, asI_int, oNot_bl, oAttr_ins, oIsNon_non, oNotNon_non, cLen_lst, cLen_tup, cLen_dct, cLen_str, cAll_lst, cSum_lst, cMin_int, cMax_int, cInt_bl, cList_lst, cList_tup, cDict_dct, cTuple_lst, cSorted_lst, cSorted_dct, mUpper_str, mGet_2, mGet_3, mCount_lst, iV_eq, walkV_lst, walkV_tup, keysV_dct, iD_eq, walkV_str, iR_eq, R.bind_ok, R.bind_err, R.bind_no, R.map_ok, R.map_err, R.map_no, on_ok, on_err, on_no, then_nx, then_ret, then_err, then_bk, then_ct, then_no, fin_ret, fin_nx, fin_err, fin_no, ofOpt_some, ofOpt_none, when_true, when_false, List.map_cons, List.map_nil, List.length_cons, List.length_nil, List.getElem?_cons_zero, List.getElem?_cons_succ, List.cons_append, List.nil_append, List.set_cons_zero, List.set_cons_succ, List.length_map, if_true, if_false, Bool.false_eq_true, reduceIte, decide_true, decide_false, Bool.and_true, Bool.true_and, Bool.not_true, Bool.not_false, isK_int_non, isK_int_bl, isK_int_int, isK_int_str, isK_int_tup, isK_int_lst, isK_int_dct, isK_int_exc, isK_int_ins, isK_bl_non, isK_bl_bl, isK_bl_int, isK_bl_str, isK_bl_tup, isK_bl_lst, isK_bl_dct, isK_bl_exc, isK_bl_ins, isK_str_non, isK_str_bl, isK_str_int, isK_str_str, isK_str_tup, isK_str_lst, isK_str_dct, isK_str_exc, isK_str_ins, isK_tup_non, isK_tup_bl, isK_tup_int, isK_tup_str, isK_tup_tup, isK_tup_lst, isK_tup_dct, isK_tup_exc, isK_tup_ins, isK_lst_non, isK_lst_bl, isK_lst_int, isK_lst_str, isK_lst_tup, isK_lst_lst, isK_lst_dct, isK_lst_exc, isK_lst_ins, isK_dct_non, isK_dct_bl, isK_dct_int, isK_dct_str, isK_dct_tup, isK_dct_lst, isK_dct_dct, isK_dct_exc, isK_dct_ins, isC_non, isC_bl, isC_int, isC_str, isC_tup, isC_lst, isC_dct, isC_ins, isC_exc, Int.reduceLT, Int.reduceLE, Nat.reduceLT, Nat.reduceLeDiff, Int.reduceToNat, Int.reduceNeg, Int.reduceEq, Int.reduceBEq, Nat.reduceAdd, Int.reduceAdd, Int.reduceSub, Bool.false_and, Bool.and_false, Bool.true_or, Bool.false_or, Nat.reduceEqDiff, Nat.reduceLT, h1, beq_t (a := 1) (b := 1) rfl, iR_eq, rng_ok 0 n 1 (by omega) (by omega) (by omega) (by omega) (by omega) (by omega)]
    obtain ⟨s', hs, w, k, e, hw⟩ := forL_inv0 (body := at_ 5 b__law_text_1)
      (fun i s => ∃ (w : Str) (k : Option PV), s = [some (.int cell), some (.int n), some (.str abc), some (.int m), some (.str w), k] ∧ w.length = i)
      (rangeL 0 n 1) [some (.int cell), some (.int n), some (.str abc), some (.int m), some (.str (Str.ofString "")), none] ⟨_, _, rfl, by decide +kernel⟩ (by
        rintro i x s hx ⟨w, k, rfl, hw⟩
        obtain ⟨rfl, hi, _⟩ := rangeL_get hx
        have hi' : i < 12 := by omega
        obtain ⟨c', hc', _⟩ := letter_at (m / (0 + 1 * (i : Int) + 1))
        refine ⟨_, .inl ?_, ⟨w ++ ⟨#[c']⟩, some (.int (0 + 1 * (i : Int))), rfl, ?_⟩⟩
        · simp -implicitDefEqProofs only [fn, start, sSeq, sSet, setAll, sIf, sRet, sNx, sExp, sRaise, sFor, sForT, tE, tAnd, tOr, tNot, tYes, e1, e2, eN, evs, eV, eK, eLst, eTup, eAnd, eOr, eIf, eCut, cbound, eChain, eComp, oAdd_int, oAdd_str, oAdd_lst, oSub_int, oMul_int, oMul_str, oDiv_int, oMod_int, oPow_int, oNeg_int, oLt_int, oLe_int, oGt_int, oGe_int, oEq_int, oNe_int, oEq_str, oNe_str, oEq_bl, oNe_bl, oEq_lst, oNe_lst, oIn_lst, oIn_tup, oIn_dct, oIn_str, oNotIn_lst, oNotIn_dct, oNotIn_str, oIx_lst, oIx_tup, oIx_str, oIx_dct, oCut_lst, oCut_str, truth_bl, truth_int, truth_non, asB_bl, asI_int, oNot_bl, oAttr_ins, oIsNon_non, oNotNon_non, cLen_lst, cLen_tup, cLen_dct, cLen_str, cAll_lst, cSum_lst, cMin_int, cMax_int, cInt_bl, cList_lst, cList_tup, cDict_dct, cTuple_lst, cSorted_lst, cSorted_dct, mUpper_str, mGet_2, mGet_3, mCount_lst, iV_eq, walkV_lst, walkV_tup, keysV_dct, iD_eq, walkV_str, iR_eq, R.bind_ok, R.bind_err, R.bind_no, R.map_ok, R.map_err, R.map_no, on_ok, on_err, on_no, then_nx, then_ret, then_err, then_bk, then_ct, then_no, fin_ret, fin_nx, fin_err, fin_no, ofOpt_some, ofOpt_none, when_true, when_false, List.map_cons, List.map_nil, List.length_cons, List.length_nil, List.getElem?_cons_zero, List.getElem?_cons_succ, List.cons_append, List.nil_append, List.set_cons_zero, List.set_cons_succ, List.length_map, if_true, if_false, Bool.false_eq_true, reduceIte, decide_true, decide_false, Bool.and_true, Bool.true_and, Bool.not_true, Bool.not_false, isK_int_non, isK_int_bl, isK_int_int, isK_int_str, isK_int_tup, isK_int_lst, isK_int_dct, isK_int_exc, isK_int_ins, isK_bl_non, isK_bl_bl, isK_bl_int, isK_bl_str, isK_bl_tup, isK_bl_lst, isK_bl_dct, isK_bl_exc, isK_bl_ins, isK_str_non, isK_str_bl, isK_str_int, isK_str_str, isK_str_tup, isK_str_lst, isK_str_dct, isK_str_exc, isK_str_ins, isK_tup_non, isK_tup_bl, isK_tup_int, isK_tup_str, isK_tup_tup, isK_tup_lst, isK_tup_dct, isK_tup_exc, isK_tup_ins, isK_lst_non, isK_lst_bl, isK_lst_int, isK_lst_str, isK_lst_tup, isK_lst_lst, isK_lst_dct, isK_lst_exc, isK_lst_ins, isK_dct_non, isK_dct_bl, isK_dct_int, isK_dct_str, isK_dct_tup, isK_dct_lst, isK_dct_dct, isK_dct_exc, isK_dct_ins, isC_non, isC_bl, isC_int, isC_str, isC_tup, isC_lst, isC_dct, isC_ins, isC_exc, Int.reduceLT, Int.reduceLE, Nat.reduceLT, Nat.reduceLeDiff, Int.reduceToNat, Int.reduceNeg, Int.reduceEq, Int.reduceBEq, Nat.reduceAdd, Int.reduceAdd, Int.reduceSub, Bool.false_and, Bool.and_false, Bool.true_or, Bool.false_or, Nat.reduceEqDiff, Nat.reduceLT, at_, b__law_text_1, hc', abc_fits, len_one, hw, pos_ (0 + 1 * (i : Int) + 1) (by omega), yes (show (0 + 1 * (i : Int) + 1) < 1073741824 by omega), fits (show i + 1 ≤ 100000 by omega)]
        · rw [len_app, len_one, hw])
    subst e
    simp -implicitDefEqProofs only [fn, start, sSeq, sSet, setAll, sIf, sRet, sNx, sExp, sRaise, sFor, sForT, tE, tAnd, tOr, tNot, tYes, e1, e2, eN, evs, eV, eK, eLst, eTup, eAnd, eOr, eIf, eCut, cbound, eChain, eComp, oAdd_int, oAdd_str, oAdd_lst, oSub_int, oMul_int, oMul_str, oDiv_int, oMod_int, oPow_int, oNeg_int, oLt_int, oLe_int, oGt_int, oGe_int, oEq_int, oNe_int, oEq_str, oNe_str, oEq_bl, oNe_bl, oEq_lst, oNe_lst, oIn_lst, oIn_tup, oIn_dct, oIn_str, oNotIn_lst, oNotIn_dct, oNotIn_str, oIx_lst, oIx_tup, oIx_str, oIx_dct, oCut_lst, oCut_str, truth_bl, truth_int, truth_non, asB_bl, asI_int, oNot_bl, oAttr_ins, oIsNon_non, oNotNon_non, cLen_lst, cLen_tup, cLen_dct, cLen_str, cAll_lst, cSum_lst, cMin_int, cMax_int, cInt_bl, cList_lst, cList_tup, cDict_dct, cTuple_lst, cSorted_lst, cSorted_dct, mUpper_str, mGet_2, mGet_3, mCount_lst, iV_eq, walkV_lst, walkV_tup, keysV_dct, iD_eq, walkV_str, iR_eq, R.bind_ok, R.bind_err, R.bind_no, R.map_ok, R.map_err, R.map_no, on_ok, on_err, on_no, then_nx, then_ret, then_err, then_bk, then_ct, then_no, fin_ret, fin_nx, fin_err, fin_no, ofOpt_some, ofOpt_none, when_true, when_false, List.map_cons, List.map_nil, List.length_cons, List.length_nil, List.getElem?_cons_zero, List.getElem?_cons_succ, List.cons_append, List.nil_append, List.set_cons_zero, List.set_cons_succ, List.length_map, if_true, if_false, Bool.false_eq_true, reduceIte, decide_true, decide_false, Bool.and_true, Bool.true_and, Bool.not_true, Bool.not_false, isK_int_non, isK_int_bl, isK_int_int, isK_int_str, isK_int_tup, isK_int_lst, isK_int_dct, isK_int_exc, isK_int_ins, isK_bl_non, isK_bl_bl, isK_bl_int, isK_bl_str, isK_bl_tup, isK_bl_lst, isK_bl_dct, isK_bl_exc, isK_bl_ins, isK_str_non, isK_str_bl, isK_str_int, isK_str_str, isK_str_tup, isK_str_lst, isK_str_dct, isK_str_exc, isK_str_ins, isK_tup_non, isK_tup_bl, isK_tup_int, isK_tup_str, isK_tup_tup, isK_tup_lst, isK_tup_dct, isK_tup_exc, isK_tup_ins, isK_lst_non, isK_lst_bl, isK_lst_int, isK_lst_str, isK_lst_tup, isK_lst_lst, isK_lst_dct, isK_lst_exc, isK_lst_ins, isK_dct_non, isK_dct_bl, isK_dct_int, isK_dct_str, isK_dct_tup, isK_dct_lst, isK_dct_dct, isK_dct_exc, isK_dct_ins, isC_non, isC_bl, isC_int, isC_str, isC_tup, isC_lst, isC_dct, isC_ins, isC_exc, Int.reduceLT, Int.reduceLE, Nat.reduceLT, Nat.reduceLeDiff, Int.reduceToNat, Int.reduceNeg, Int.reduceEq, Int.reduceBEq, Nat.reduceAdd, Int.reduceAdd, Int.reduceSub, Bool.false_and, Bool.and_false, Bool.true_or, Bool.false_or, Nat.reduceEqDiff, Nat.reduceLT, hs]
    refine ⟨w, rfl, ?_⟩
    rw [hw, rangeL_one]; simp
  · simp -implicitDefEqProofs only [fn, start, sSeq, sSet, setAll, sIf, sRet, sNx, sExp, sRaise, sFor, sForT, tE, tAnd, tOr, tNot, tYes, e1, e2, eN, evs, eV, eK, eLst, eTup, eAnd, eOr, eIf, eCut, cbound, eChain, eComp, oAdd_int, oAdd_str, oAdd_lst, oSub_int, oMul_int, oMul_str, oDiv_int, oMod_int, oPow_int, oNeg_int, oLt_int, oLe_int, oGt_int, oGe_int, oEq_int, oNe_int, oEq_str, oNe_str, oEq_bl, oNe_bl, oEq_lst, oNe_lst, oIn_lst, oIn_tup, oIn_dct, oIn_str, oNotIn_lst, oNotIn_dct, oNotIn_str, oIx_lst, oIx_tup, oIx_str, oIx_dct, oCut_lst, oCut_str, truth_bl, truth_int, truth_non, asB_bl, asI_int, oNot_bl, oAttr_ins, oIsNon_non, oNotNon_non, cLen_lst, cLen_tup, cLen_dct, cLen_str, cAll_lst, cSum_lst, cMin_int, cMax_int, cInt_bl, cList_lst, cList_tup, cDict_dct, cTuple_lst, cSorted_lst, cSorted_dct, mUpper_str, mGet_2, mGet_3, mCount_lst, iV_eq, walkV_lst, walkV_tup, keysV_dct, iD_eq, walkV_str, iR_eq, R.bind_ok, R.bind_err, R.bind_no, R.map_ok, R.map_err, R.map_no, on_ok, on_err, on_no, then_nx, then_ret, then_err, then_bk, then_ct, then_no, fin_ret, fin_nx, fin_err, fin_no, ofOpt_some, ofOpt_none, when_true, when_false, List.map_cons, List.map_nil, List.length_cons, List.length_nil, List.getElem?_cons_zero, List.getElem?_cons_succ, List.cons_append, List.nil_append, List.set_cons_zero, List.set_cons_succ, List.length_map, if_true, if_false, Bool.false_eq_true, reduceIte, decide_true, decide_false, Bool.and_true, Bool.true_and, Bool.not_true, Bool.not_false, isK_int_non, isK_int_bl, isK_int_int, isK_int_str, isK_int_tup, isK_int_lst, isK_int_dct, isK_int_exc, isK_int_ins, isK_bl_non, isK_bl_bl, isK_bl_int, isK_bl_str, isK_bl_tup, isK_bl_lst, isK_bl_dct, isK_bl_exc, isK_bl_ins, isK_str_non, isK_str_bl, isK_str_int, isK_str_str, isK_str_tup, isK_str_lst, isK_str_dct, isK_str_exc, isK_str_ins, isK_tup_non, isK_tup_bl, isK_tup_int, isK_tup_str, isK_tup_tup, isK_tup_lst, isK_tup_dct, isK_tup_exc, isK_tup_ins, isK_lst_non, isK_lst_bl, isK_lst_int, isK_lst_str, isK_lst_tup, isK_lst_lst, isK_lst_dct, isK_lst_exc, isK_lst_ins, isK_dct_non, isK_dct_bl, isK_dct_int, isK_dct_str, isK_dct_tup, isK_dct_lst, isK_dct_dct, isK_dct_exc, isK_dct_ins, isC_non, isC_bl, isC_int, isC_str, isC_tup, isC_lst, isC_dct, isC_ins, isC_exc, Int.reduceLT, Int.reduceLE, Nat.reduceLT, Nat.reduceLeDiff, Int.reduceToNat, Int.reduceNeg, Int.reduceEq, Int.reduceBEq, Nat.reduceAdd, Int.reduceAdd, Int.reduceSub, Bool.false_and, Bool.and_false, Bool.true_or, Bool.false_or, Nat.reduceEqDiff, Nat.reduceLT, beq_f h1]
    refine ⟨_, rfl, ?_⟩
    rw [len_rep, len_one, Nat.mul_one]
/-- what the law asks of: a text that is not long, an int, or a thing that is none -/
def Thing : PV → Prop
  | .str s => s.length ≤ 40
  | .ins _ _ => False
  | .exc _ => False
  | _ => True
theorem thing_ok (ns : List Int) : ∃ x, f__law_thing [.lst (ns.map .int)] = .ok x ∧ Thing x := by
  simp -implicitDefEqProofs only [fn, start, sSeq, sSet, setAll, sIf, sRet, sNx, sExp, sRaise, sFor, sForT, tE, tAnd, tOr, tNot, tYes, e1, e2, eN, evs, eV, eK, eLst, eTup, eAnd, eOr, eIf, eCut, cbound, eChain, eComp, oAdd_int, oAdd_str, oAdd_lst, oSub_int, oMul_int, oMul_str, oDiv_int, oMod_int, oPow_int, oNeg_int, oLt_int, oLe_int, oGt_int, oGe_int, oEq_int, oNe_int, oEq_str, oNe_str, oEq_bl, oNe_bl, oEq_lst, oNe_lst, oIn_lst, oIn_tup, oIn_dct, oIn_str, oNotIn_lst, oNotIn_dct, oNotIn_str, oIx_lst, oIx_tup, oIx_str, oIx_dct, oCut_lst, oCut_str, truth_bl, truth_int, truth_non, asB_bl, asI_int, oNot_bl, oAttr_ins, oIsNon_non, oNotNon_non, cLen_lst, cLen_tup, cLen_dct, cLen_str, cAll_lst, cSum_lst, cMin_int, cMax_int, cInt_bl, cList_lst, cList_tup, cDict_dct, cTuple_lst, cSorted_lst, cSorted_dct, mUpper_str, mGet_2, mGet_3, mCount_lst, iV_eq, walkV_lst, walkV_tup, keysV_dct, iD_eq, walkV_str, iR_eq, R.bind_ok, R.bind_err, R.bind_no, R.map_ok, R.map_err, R.map_no, on_ok, on_err, on_no, then_nx, then_ret, then_err, then_bk, then_ct, then_no, fin_ret, fin_nx, fin_err, fin_no, ofOpt_some, ofOpt_none, when_true, when_false, List.map_cons, List.map_nil, List.length_cons, List.length_nil, List.getElem?_cons_zero, List.getElem?_cons_succ, List.cons_append, List.nil_append, List.set_cons_zero, List.set_cons_succ, List.length_map, if_true, if_false, Bool.false_eq_true, reduceIte, decide_true, decide_false, Bool.and_true, Bool.true_and, Bool.not_true, Bool.not_false, isK_int_non, isK_int_bl, isK_int_int, isK_int_str, isK_int_tup, isK_int_lst, isK_int_dct, isK_int_exc, isK_int_ins, isK_bl_non, isK_bl_bl, isK_bl_int, isK_bl_str, isK_bl_tup, isK_bl_lst, isK_bl_dct, isK_bl_exc, isK_bl_ins, isK_str_non, isK_str_bl, isK_str_int, isK_str_str, isK_str_tup, isK_str_lst, isK_str_dct, isK_str_exc, isK_str_ins, isK_tup_non, isK_tup_bl, isK_tup_int, isK_tup_str, isK_tup_tup, isK_tup_lst, isK_tup_dct, isK_tup_exc, isK_tup_ins, isK_lst_non, isK_lst_bl, isK_lst_int, isK_lst_str, isK_lst_tup, isK_lst_lst, isK_lst_dct, isK_lst_exc, isK_lst_ins, isK_dct_non, isK_dct_bl, isK_dct_int, isK_dct_str, isK_dct_tup, isK_dct_lst, isK_dct_dct, isK_dct_exc, isK_dct_ins, isC_non, isC_bl, isC_int, isC_str, isC_tup, isC_lst, isC_dct, isC_ins, isC_exc, Int.reduceLT, Int.reduceLE, Nat.reduceLT, Nat.reduceLeDiff, Int.reduceToNat, Int.reduceNeg, Int.reduceEq, Int.reduceBEq, Nat.reduceAdd, Int.reduceAdd, Int.reduceSub, Bool.false_and, Bool.and_false, Bool.true_or, Bool.false_or, Nat.reduceEqDiff, Nat.reduceLT, f__law_thing, y__law_thing, cell0, cell1, cell2]
  generalize ns.getD 0 0 % 6 = way
  generalize ns.getD 1 0 = cell
  generalize ns.getD 2 0 = other
  by_cases w0 : way = 0
  · obtain ⟨s, hs, hl⟩ := text_ok cell (1 + other % 8) (by omega) (by omega)
    simp -implicitDefEqProofs only [fn, start, sSeq, sSet, setAll, sIf, sRet, sNx, sExp, sRaise, sFor, sForT, tE, tAnd, tOr, tNot, tYes, e1, e2, eN, evs, eV, eK, eLst, eTup, eAnd, eOr, eIf, eCut, cbound, eChain, eComp, oAdd_int, oAdd_str, oAdd_lst, oSub_int, oMul_int, oMul_str, oDiv_int, oMod_int, oPow_int, oNeg_int, oLt_int, oLe_int, oGt_int, oGe_int, oEq_int, oNe_int, oEq_str, oNe_str, oEq_bl, oNe_bl, oEq_lst, oNe_lst, oIn_lst, oIn_tup, oIn_dct, oIn_str, oNotIn_lst, oNotIn_dct, oNotIn_str, oIx_lst, oIx_tup, oIx_str, oIx_dct, oCut_lst, oCut_str, truth_bl, truth_int, truth_non, asB_bl, asI_int, oNot_bl, oAttr_ins, oIsNon_non, oNotNon_non, cLen_lst, cLen_tup, cLen_dct, cLen_str, cAll_lst, cSum_lst, cMin_int, cMax_int, cInt_bl, cList_lst, cList_tup, cDict_dct, cTuple_lst, cSorted_lst, cSorted_dct, mUpper_str, mGet_2, mGet_3, mCount_lst, iV_eq, walkV_lst, walkV_tup, keysV_dct, iD_eq, walkV_str, iR_eq, R.bind_ok, R.bind_err, R.bind_no, R.map_ok, R.map_err, R.map_no, on_ok, on_err, on_no, then_nx, then_ret, then_err, then_bk, then_ct, then_no, fin_ret, fin_nx, fin_err, fin_no, ofOpt_some, ofOpt_none, when_true, when_false, List.map_cons, List.map_nil, List.length_cons, List.length_nil, List.getElem?_cons_zero, List.getElem?_cons_succ, List.cons_append, List.nil_append, List.set_cons_zero, List.set_cons_succ, List.length_map, if_true, if_false, Bool.false_eq_true, reduceIte, decide_true, decide_false, Bool.and_true, Bool.true_and, Bool.not_true, Bool.not_false, isK_int_non, isK_int_bl, isK_int_int, isK_int_str, isK_int_tup, isK_int_lst, isK_int_dct, isK_int_exc, isK_int_ins, isK_bl_non, isK_bl_bl, isK_bl_int, isK_bl_str, isK_bl_tup, isK_bl_lst, isK_bl_dct, isK_bl_exc, isK_bl_ins, isK_str_non, isK_str_bl, isK_str_int, isK_str_str, isK_str_tup, isK_str_lst, isK_str_dct, isK_str_exc, isK_str_ins, isK_tup_non, isK_tup_bl, isK_tup_int, isK_tup_str, isK_tup_tup, isK_tup_lst, isK_tup_dct, isK_tup_exc, isK_tup_ins, isK_lst_non, isK_lst_bl, isK_lst_int, isK_lst_str, isK_lst_tup, isK_lst_lst, isK_lst_dct, isK_lst_exc, isK_lst_ins, isK_dct_non, isK_dct_bl, isK_dct_int, isK_dct_str, isK_dct_tup, isK_dct_lst, isK_dct_dct, isK_dct_exc, isK_dct_ins, isC_non, isC_bl, isC_int, isC_str, isC_tup, isC_lst, isC_dct, isC_ins, isC_exc, Int.reduceLT, Int.reduceLE, Nat.reduceLT, Nat.reduceLeDiff, Int.reduceToNat, Int.reduceNeg, Int.reduceEq, Int.reduceBEq, Nat.reduceAdd, Int.reduceAdd, Int.reduceSub, Bool.false_and, Bool.and_false, Bool.true_or, Bool.false_or, Nat.reduceEqDiff, Nat.reduceLT, beq_t w0, hs]
    exact ⟨_, rfl, by show s.length ≤ 40; omega⟩
  simp -implicitDefEqProofs only [fn, start, sSeq, sSet, setAll, sIf, sRet, sNx, sExp, sRaise, sFor, sForT, tE, tAnd, tOr, tNot, tYes, e1, e2, eN, evs, eV, eK, eLst, eTup, eAnd, eOr, eIf, eCut, cbound, eChain, eComp, oAdd_int, oAdd_str, oAdd_lst, oSub_int, oMul_int, oMul_str, oDiv_int, oMod_int, oPow_int, oNeg_int, oLt_int, oLe_int, oGt_int, oGe_int, oEq_int, oNe_int, oEq_str, oNe_str, oEq_bl, oNe_bl, oEq_lst, oNe_lst, oIn_lst, oIn_tup, oIn_dct, oIn_str, oNotIn_lst, oNotIn_dct, oNotIn_str, oIx_lst, oIx_tup, oIx_str, oIx_dct, oCut_lst, oCut_str, truth_bl, truth_int, truth_non, asB_bl, asI_int, oNot_bl, oAttr_ins, oIsNon_non, oNotNon_non, cLen_lst, cLen_tup, cLen_dct, cLen_str, cAll_lst, cSum_lst, cMin_int, cMax_int, cInt_bl, cList_lst, cList_tup, cDict_dct, cTuple_lst, cSorted_lst, cSorted_dct, mUpper_str, mGet_2, mGet_3, mCount_lst, iV_eq, walkV_lst, walkV_tup, keysV_dct, iD_eq, walkV_str, iR_eq, R.bind_ok, R.bind_err, R.bind_no, R.map_ok, R.map_err, R.map_no, on_ok, on_err, on_no, then_nx, then_ret, then_err, then_bk, then_ct, then_no, fin_ret, fin_nx, fin_err, fin_no, ofOpt_some, ofOpt_none, when_true, when_false, List.map_cons, List.map_nil, List.length_cons, List.length_nil, List.getElem?_cons_zero, List.getElem?_cons_succ, List.cons_append, List.nil_append, List.set_cons_zero, List.set_cons_succ, List.length_map, if_true, if_false, Bool.false_eq_true, reduceIte, decide_true, decide_false, Bool.and_true, Bool.true_and, Bool.not_true, Bool.not_false, isK_int_non, isK_int_bl, isK_int_int, isK_int_str, isK_int_tup, isK_int_lst, isK_int_dct, isK_int_exc, isK_int_ins, isK_bl_non, isK_bl_bl, isK_bl_int, isK_bl_str, isK_bl_tup, isK_bl_lst, isK_bl_dct, isK_bl_exc, isK_bl_ins, isK_str_non, isK_str_bl, isK_str_int, isK_str_str, isK_str_tup, isK_str_lst, isK_str_dct, isK_str_exc, isK_str_ins, isK_tup_non, isK_tup_bl, isK_tup_int, isK_tup_str, isK_tup_tup, isK_tup_lst, isK_tup_dct, isK_tup_exc, isK_tup_ins, isK_lst_non, isK_lst_bl, isK_lst_int, isK_lst_str, isK_lst_tup, isK_lst_lst, isK_lst_dct, isK_lst_exc, isK_lst_ins, isK_dct_non, isK_dct_bl, isK_dct_int, isK_dct_str, isK_dct_tup, isK_dct_lst, isK_dct_dct, isK_dct_exc, isK_dct_ins, isC_non, isC_bl, isC_int, isC_str, isC_tup, isC_lst, isC_dct, isC_ins, isC_exc, Int.reduceLT, Int.reduceLE, Nat.reduceLT, Nat.reduceLeDiff, Int.reduceToNat, Int.reduceNeg, Int.reduceEq, Int.reduceBEq, Nat.reduceAdd, Int.reduceAdd, Int.reduceSub, Bool.false_and, Bool.and_false, Bool.true_or, Bool.false_or, Nat.reduceEqDiff, Nat.reduceLT, beq_f w0]
  by_cases w1 : way = 1
  · obtain ⟨s, hs, hl⟩ := text_ok cell (1 + other % 8) (by omega) (by omega)
    have hpos : (0 : Int) < s.length := by omega
    simp -implicitDefEqProofs only [fn, start, sSeq, sSet, setAll, sIf, sRet, sNx, sExp, sRaise, sFor, sForT, tE, tAnd, tOr, tNot, tYes, e1, e2, eN, evs, eV, eK, eLst, eTup, eAnd, eOr, eIf, eCut, cbound, eChain, eComp, oAdd_int, oAdd_str, oAdd_lst, oSub_int, oMul_int, oMul_str, oDiv_int, oMod_int, oPow_int, oNeg_int, oLt_int, oLe_int, oGt_int, oGe_int, oEq_int, oNe_int, oEq_str, oNe_str, oEq_bl, oNe_bl, oEq_lst, oNe_lst, oIn_lst, oIn_tup, oIn_dct, oIn_str, oNotIn_lst, oNotIn_dct, oNotIn_str, oIx_lst, oIx_tup, oIx_str, oIx_dct, oCut_lst, oCut_str, truth_bl, truth_int, truth_non, asB_bl, asI_int, oNot_bl, oAttr_ins, oIsNon_non, oNotNon_non, cLen_lst, cLen_tup, cLen_dct, cLen_str, cAll_lst, cSum_lst, cMin_int, cMax_int, cInt_bl, cList_lst, cList_tup, cDict_dct, cTuple_lst, cSorted_lst, cSorted_dct, mUpper_str, mGet_2, mGet_3, mCount_lst, iV_eq, walkV_lst, walkV_tup, keysV_dct, iD_eq, walkV_str, iR_eq, R.bind_ok, R.bind_err, R.bind_no, R.map_ok, R.map_err, R.map_no, on_ok, on_err, on_no, then_nx, then_ret, then_err, then_bk, then_ct, then_no, fin_ret, fin_nx, fin_err, fin_no, ofOpt_some, ofOpt_none, when_true, when_false, List.map_cons, List.map_nil, List.length_cons, List.length_nil, List.getElem?_cons_zero, List.getElem?_cons_succ, List.cons_append, List.nil_append, List.set_cons_zero, List.set_cons_succ, List.length_map, if_true, if_false, Bool.false_eq_true, reduceIte, decide_true, decide_false, Bool.and_true, Bool.true_and, Bool.not_true, Bool.not_false, isK_int_non, isK_int_bl, isK_int_int, isK_int_str, isK_int_tup, isK_int_lst, isK_int_dct, isK_int_exc, isK_int_ins, isK_bl_non, isK_bl_bl, isK_bl_int, isK_bl_str, isK_bl_tup, isK_bl_lst, isK_bl_dct, isK_bl_exc, isK_bl_ins, isK_str_non, isK_str_bl, isK_str_int, isK_str_str, isK_str_tup, isK_str_lst, isK_str_dct, isK_str_exc, isK_str_ins, isK_tup_non, isK_tup_bl, isK_tup_int, isK_tup_str, isK_tup_tup, isK_tup_lst, isK_tup_dct, isK_tup_exc, isK_tup_ins, isK_lst_non, isK_lst_bl, isK_lst_int, isK_lst_str, isK_lst_tup, isK_lst_lst, isK_lst_dct, isK_lst_exc, isK_lst_ins, isK_dct_non, isK_dct_bl, isK_dct_int, isK_dct_str, isK_dct_tup, isK_dct_lst, isK_dct_dct, isK_dct_exc, isK_dct_ins, isC_non, isC_bl, isC_int, isC_str, isC_tup, isC_lst, isC_dct, isC_ins, isC_exc, Int.reduceLT, Int.reduceLE, Nat.reduceLT, Nat.reduceLeDiff, Int.reduceToNat, Int.reduceNeg, Int.reduceEq, Int.reduceBEq, Nat.reduceAdd, Int.reduceAdd, Int.reduceSub, Bool.false_and, Bool.and_false, Bool.true_or, Bool.false_or, Nat.reduceEqDiff, Nat.reduceLT, beq_t w1, hs, fits (show s.length ≤ 100000 by omega), pos_ _ hpos]
    generalize hw : ([PV.str _, PV.str _, PV.str _, PV.str _, PV.str _, PV.str _, PV.str _, PV.str _, PV.str _, PV.str _, PV.str _, PV.str _, PV.str _, PV.str _] : List PV) = signs
    obtain ⟨sg, h1, h2⟩ := atI_lt signs (other / 64 % 14) (by omega) (by subst hw; show _ < (14 : Int); omega)
    obtain ⟨z, rfl, hz⟩ : ∃ z : Str, sg = .str z ∧ z.length ≤ 1 := by
      subst hw
      simp only [List.mem_cons, List.not_mem_nil, or_false] at h2
      rcases h2 with rfl | rfl | rfl | rfl | rfl | rfl | rfl | rfl | rfl | rfl | rfl | rfl | rfl | rfl <;> exact ⟨_, rfl, by decide +kernel⟩
    have l1 := len_cut s none (some (other / 8 % s.length))
    have l2 := len_cut s (some (other / 8 % s.length + 1)) none
    generalize cutS s none (some (other / 8 % s.length)) = u at l1 ⊢
    generalize cutS s (some (other / 8 % s.length + 1)) none = v at l2 ⊢
    have l3 := len_app u z
    simp -implicitDefEqProofs only [fn, start, sSeq, sSet, setAll, sIf, sRet, sNx, sExp, sRaise, sFor, sForT, tE, tAnd, tOr, tNot, tYes, e1, e2, eN, evs, eV, eK, eLst, eTup, eAnd, eOr, eIf, eCut, cbound, eChain, eComp, oAdd_int, oAdd_str, oAdd_lst, oSub_int, oMul_int, oMul_str, oDiv_int, oMod_int, oPow_int, oNeg_int, oLt_int, oLe_int, oGt_int, oGe_int, oEq_int, oNe_int, oEq_str, oNe_str, oEq_bl, oNe_bl, oEq_lst, oNe_lst, oIn_lst, oIn_tup, oIn_dct, oIn_str, oNotIn_lst, oNotIn_dct, oNotIn_str, oIx_lst, oIx_tup, oIx_str, oIx_dct, oCut_lst, oCut_str, truth_bl, truth_int, truth_non, asB_bl, asI_int, oNot_bl, oAttr_ins, oIsNon_non, oNotNon_non, cLen_lst, cLen_tup, cLen_dct, cLen_str, cAll_lst, cSum_lst, cMin_int, cMax_int, cInt_bl, cList_lst, cList_tup, cDict_dct, cTuple_lst, cSorted_lst, cSorted_dct, mUpper_str, mGet_2, mGet_3, mCount_lst, iV_eq, walkV_lst, walkV_tup, keysV_dct, iD_eq, walkV_str, iR_eq, R.bind_ok, R.bind_err, R.bind_no, R.map_ok, R.map_err, R.map_no, on_ok, on_err, on_no, then_nx, then_ret, then_err, then_bk, then_ct, then_no, fin_ret, fin_nx, fin_err, fin_no, ofOpt_some, ofOpt_none, when_true, when_false, List.map_cons, List.map_nil, List.length_cons, List.length_nil, List.getElem?_cons_zero, List.getElem?_cons_succ, List.cons_append, List.nil_append, List.set_cons_zero, List.set_cons_succ, List.length_map, if_true, if_false, Bool.false_eq_true, reduceIte, decide_true, decide_false, Bool.and_true, Bool.true_and, Bool.not_true, Bool.not_false, isK_int_non, isK_int_bl, isK_int_int, isK_int_str, isK_int_tup, isK_int_lst, isK_int_dct, isK_int_exc, isK_int_ins, isK_bl_non, isK_bl_bl, isK_bl_int, isK_bl_str, isK_bl_tup, isK_bl_lst, isK_bl_dct, isK_bl_exc, isK_bl_ins, isK_str_non, isK_str_bl, isK_str_int, isK_str_str, isK_str_tup, isK_str_lst, isK_str_dct, isK_str_exc, isK_str_ins, isK_tup_non, isK_tup_bl, isK_tup_int, isK_tup_str, isK_tup_tup, isK_tup_lst, isK_tup_dct, isK_tup_exc, isK_tup_ins, isK_lst_non, isK_lst_bl, isK_lst_int, isK_lst_str, isK_lst_tup, isK_lst_lst, isK_lst_dct, isK_lst_exc, isK_lst_ins, isK_dct_non, isK_dct_bl, isK_dct_int, isK_dct_str, isK_dct_tup, isK_dct_lst, isK_dct_dct, isK_dct_exc, isK_dct_ins, isC_non, isC_bl, isC_int, isC_str, isC_tup, isC_lst, isC_dct, isC_ins, isC_exc, Int.reduceLT, Int.reduceLE, Nat.reduceLT, Nat.reduceLeDiff, Int.reduceToNat, Int.reduceNeg, Int.reduceEq, Int.reduceBEq, Nat.reduceAdd, Int.reduceAdd, Int.reduceSub, Bool.false_and, Bool.and_false, Bool.true_or, Bool.false_or, Nat.reduceEqDiff, Nat.reduceLT, h1, fits (show u.length + z.length ≤ 100000 by omega), fits (show (u ++ z).length + v.length ≤ 100000 by omega)]
    exact ⟨_, rfl, by show (u ++ z ++ v).length ≤ 40; rw [len_app]; omega⟩
  simp -implicitDefEqProofs only [fn, start, sSeq, sSet, setAll, sIf, sRet, sNx, sExp, sRaise, sFor, sForT, tE, tAnd, tOr, tNot, tYes, e1, e2, eN, evs, eV, eK, eLst, eTup, eAnd, eOr, eIf, eCut, cbound, eChain, eComp, oAdd_int, oAdd_str, oAdd_lst, oSub_int, oMul_int, oMul_str, oDiv_int, oMod_int, oPow_int, oNeg_int, oLt_int, oLe_int, oGt_int, oGe_int, oEq_int, oNe_int, oEq_str, oNe_str, oEq_bl, oNe_bl, oEq_lst, oNe_lst, oIn_lst, oIn_tup, oIn_dct, oIn_str, oNotIn_lst, oNotIn_dct, oNotIn_str, oIx_lst, oIx_tup, oIx_str, oIx_dct, oCut_lst, oCut_str, truth_bl, truth_int, truth_non, asB_bl, asI_int, oNot_bl, oAttr_ins, oIsNon_non, oNotNon_non, cLen_lst, cLen_tup, cLen_dct, cLen_str, cAll_lst, cSum_lst, cMin_int, cMax_int, cInt_bl, cList_lst, cList_tup, cDict_dct, cTuple_lst, cSorted_lst, cSorted_dct, mUpper_str, mGet_2, mGet_3, mCount_lst, iV_eq, walkV_lst, walkV_tup, keysV_dct, iD_eq, walkV_str, iR_eq, R.bind_ok, R.bind_err, R.bind_no, R.map_ok, R.map_err, R.map_no, on_ok, on_err, on_no, then_nx, then_ret, then_err, then_bk, then_ct, then_no, fin_ret, fin_nx, fin_err, fin_no, ofOpt_some, ofOpt_none, when_true, when_false, List.map_cons, List.map_nil, List.length_cons, List.length_nil, List.getElem?_cons_zero, List.getElem?_cons_succ, List.cons_append, List.nil_append, List.set_cons_zero, List.set_cons_succ, List.length_map, if_true, if_false, Bool.false_eq_true, reduceIte, decide_true, decide_false, Bool.and_true, Bool.true_and, Bool.not_true, Bool.not_false, isK_int_non, isK_int_bl, isK_int_int, isK_int_str, isK_int_tup, isK_int_lst, isK_int_dct, isK_int_exc, isK_int_ins, isK_bl_non, isK_bl_bl, isK_bl_int, isK_bl_str, isK_bl_tup, isK_bl_lst, isK_bl_dct, isK_bl_exc, isK_bl_ins, isK_str_non, isK_str_bl, isK_str_int, isK_str_str, isK_str_tup, isK_str_lst, isK_str_dct, isK_str_exc, isK_str_ins, isK_tup_non, isK_tup_bl, isK_tup_int, isK_tup_str, isK_tup_tup, isK_tup_lst, isK_tup_dct, isK_tup_exc, isK_tup_ins, isK_lst_non, isK_lst_bl, isK_lst_int, isK_lst_str, isK_lst_tup, isK_lst_lst, isK_lst_dct, isK_lst_exc, isK_lst_ins, isK_dct_non, isK_dct_bl, isK_dct_int, isK_dct_str, isK_dct_tup, isK_dct_lst, isK_dct_dct, isK_dct_exc, isK_dct_ins, isC_non, isC_bl, isC_int, isC_str, isC_tup, isC_lst, isC_dct, isC_ins, isC_exc, Int.reduceLT, Int.reduceLE, Nat.reduceLT, Nat.reduceLeDiff, Int.reduceToNat, Int.reduceNeg, Int.reduceEq, Int.reduceBEq, Nat.reduceAdd, Int.reduceAdd, Int.reduceSub, Bool.false_and, Bool.and_false, Bool.true_or, Bool.false_or, Nat.reduceEqDiff, Nat.reduceLT, beq_f w1]
  by_cases w2 : way = 2
  · simp -implicitDefEqProofs only [fn, start, sSeq, sSet, setAll, sIf, sRet, sNx, sExp, sRaise, sFor, sForT, tE, tAnd, tOr, tNot, tYes, e1, e2, eN, evs, eV, eK, eLst, eTup, eAnd, eOr, eIf, eCut, cbound, eChain, eComp, oAdd_int, oAdd_str, oAdd_lst, oSub_int, oMul_int, oMul_str, oDiv_int, oMod_int, oPow_int, oNeg_int, oLt_int, oLe_int, oGt_int, oGe_int, oEq_int, oNe_int, oEq_str, oNe_str, oEq_bl, oNe_bl, oEq_lst, oNe_lst, oIn_lst, oIn_tup, oIn_dct, oIn_str, oNotIn_lst, oNotIn_dct, oNotIn_str, oIx_lst, oIx_tup, oIx_str, oIx_dct, oCut_lst, oCut_str, truth_bl, truth_int, truth_non, asB_bl, asI_int, oNot_bl, oAttr_ins, oIsNon_non, oNotNon_non, cLen_lst, cLen_tup, cLen_dct, cLen_str, cAll_lst, cSum_lst, cMin_int, cMax_int, cInt_bl, cList_lst, cList_tup, cDict_dct, cTuple_lst, cSorted_lst, cSorted_dct, mUpper_str, mGet_2, mGet_3, mCount_lst, iV_eq, walkV_lst, walkV_tup, keysV_dct, iD_eq, walkV_str, iR_eq, R.bind_ok, R.bind_err, R.bind_no, R.map_ok, R.map_err, R.map_no, on_ok, on_err, on_no, then_nx, then_ret, then_err, then_bk, then_ct, then_no, fin_ret, fin_nx, fin_err, fin_no, ofOpt_some, ofOpt_none, when_true, when_false, List.map_cons, List.map_nil, List.length_cons, List.length_nil, List.getElem?_cons_zero, List.getElem?_cons_succ, List.cons_append, List.nil_append, List.set_cons_zero, List.set_cons_succ, List.length_map, if_true, if_false, Bool.false_eq_true, reduceIte, decide_true, decide_false, Bool.and_true, Bool.true_and, Bool.not_true, Bool.not_false, isK_int_non, isK_int_bl, isK_int_int, isK_int_str, isK_int_tup, isK_int_lst, isK_int_dct, isK_int_exc, isK_int_ins, isK_bl_non, isK_bl_bl, isK_bl_int, isK_bl_str, isK_bl_tup, isK_bl_lst, isK_bl_dct, isK_bl_exc, isK_bl_ins, isK_str_non, isK_str_bl, isK_str_int, isK_str_str, isK_str_tup, isK_str_lst, isK_str_dct, isK_str_exc, isK_str_ins, isK_tup_non, isK_tup_bl, isK_tup_int, isK_tup_str, isK_tup_tup, isK_tup_lst, isK_tup_dct, isK_tup_exc, isK_tup_ins, isK_lst_non, isK_lst_bl, isK_lst_int, isK_lst_str, isK_lst_tup, isK_lst_lst, isK_lst_dct, isK_lst_exc, isK_lst_ins, isK_dct_non, isK_dct_bl, isK_dct_int, isK_dct_str, isK_dct_tup, isK_dct_lst, isK_dct_dct, isK_dct_exc, isK_dct_ins, isC_non, isC_bl, isC_int, isC_str, isC_tup, isC_lst, isC_dct, isC_ins, isC_exc, Int.reduceLT, Int.reduceLE, Nat.reduceLT, Nat.reduceLeDiff, Int.reduceToNat, Int.reduceNeg, Int.reduceEq, Int.reduceBEq, Nat.reduceAdd, Int.reduceAdd, Int.reduceSub, Bool.false_and, Bool.and_false, Bool.true_or, Bool.false_or, Nat.reduceEqDiff, Nat.reduceLT, beq_t w2]
    obtain ⟨n, h1, h2⟩ := atI_lt [PV.int 0, .int 9, .int 10, .int 11, .int 12] (other % 5) (by omega) (by show _ < (5 : Int); omega)
    obtain ⟨m, rfl, hm, hm'⟩ : ∃ m : Int, n = .int m ∧ 0 ≤ m ∧ m ≤ 12 := by
      simp only [List.mem_cons, List.not_mem_nil, or_false] at h2
      rcases h2 with rfl | rfl | rfl | rfl | rfl <;> exact ⟨_, rfl, by decide, by decide⟩
    obtain ⟨s, hs, hl⟩ := text_ok cell m hm hm'
    simp -implicitDefEqProofs only [fn, start, sSeq, sSet, setAll, sIf, sRet, sNx, sExp, sRaise, sFor, sForT, tE, tAnd, tOr, tNot, tYes, e1, e2, eN, evs, eV, eK, eLst, eTup, eAnd, eOr, eIf, eCut, cbound, eChain, eComp, oAdd_int, oAdd_str, oAdd_lst, oSub_int, oMul_int, oMul_str, oDiv_int, oMod_int, oPow_int, oNeg_int, oLt_int, oLe_int, oGt_int, oGe_int, oEq_int, oNe_int, oEq_str, oNe_str, oEq_bl, oNe_bl, oEq_lst, oNe_lst, oIn_lst, oIn_tup, oIn_dct, oIn_str, oNotIn_lst, oNotIn_dct, oNotIn_str, oIx_lst, oIx_tup, oIx_str, oIx_dct, oCut_lst, oCut_str, truth_bl, truth_int, truth_non, asB_bl, asI_int, oNot_bl, oAttr_ins, oIsNon_non, oNotNon_non, cLen_lst, cLen_tup, cLen_dct, cLen_str, cAll_lst, cSum_lst, cMin_int, cMax_int, cInt_bl, cList_lst, cList_tup, cDict_dct, cTuple_lst, cSorted_lst, cSorted_dct, mUpper_str, mGet_2, mGet_3, mCount_lst, iV_eq, walkV_lst, walkV_tup, keysV_dct, iD_eq, walkV_str, iR_eq, R.bind_ok, R.bind_err, R.bind_no, R.map_ok, R.map_err, R.map_no, on_ok, on_err, on_no, then_nx, then_ret, then_err, then_bk, then_ct, then_no, fin_ret, fin_nx, fin_err, fin_no, ofOpt_some, ofOpt_none, when_true, when_false, List.map_cons, List.map_nil, List.length_cons, List.length_nil, List.getElem?_cons_zero, List.getElem?_cons_succ, List.cons_append, List.nil_append, List.set_cons_zero, List.set_cons_succ, List.length_map, if_true, if_false, Bool.false_eq_true, reduceIte, decide_true, decide_false, Bool.and_true, Bool.true_and, Bool.not_true, Bool.not_false, isK_int_non, isK_int_bl, isK_int_int, isK_int_str, isK_int_tup, isK_int_lst, isK_int_dct, isK_int_exc, isK_int_ins, isK_bl_non, isK_bl_bl, isK_bl_int, isK_bl_str, isK_bl_tup, isK_bl_lst, isK_bl_dct, isK_bl_exc, isK_bl_ins, isK_str_non, isK_str_bl, isK_str_int, isK_str_str, isK_str_tup, isK_str_lst, isK_str_dct, isK_str_exc, isK_str_ins, isK_tup_non, isK_tup_bl, isK_tup_int, isK_tup_str, isK_tup_tup, isK_tup_lst, isK_tup_dct, isK_tup_exc, isK_tup_ins, isK_lst_non, isK_lst_bl, isK_lst_int, isK_lst_str, isK_lst_tup, isK_lst_lst, isK_lst_dct, isK_lst_exc, isK_lst_ins, isK_dct_non, isK_dct_bl, isK_dct_int, isK_dct_str, isK_dct_tup, isK_dct_lst, isK_dct_dct, isK_dct_exc, isK_dct_ins, isC_non, isC_bl, isC_int, isC_str, isC_tup, isC_lst, isC_dct, isC_ins, isC_exc, Int.reduceLT, Int.reduceLE, Nat.reduceLT, Nat.reduceLeDiff, Int.reduceToNat, Int.reduceNeg, Int.reduceEq, Int.reduceBEq, Nat.reduceAdd, Int.reduceAdd, Int.reduceSub, Bool.false_and, Bool.and_false, Bool.true_or, Bool.false_or, Nat.reduceEqDiff, Nat.reduceLT, h1, hs]
    exact ⟨_, rfl, by show s.length ≤ 40; omega⟩
  simp -implicitDefEqProofs only [fn, start, sSeq, sSet, setAll, sIf, sRet, sNx, sExp, sRaise, sFor, sForT, tE, tAnd, tOr, tNot, tYes, e1, e2, eN, evs, eV, eK, eLst, eTup, eAnd, eOr, eIf, eCut, cbound, eChain, eComp, oAdd_int, oAdd_str, oAdd_lst, oSub_int, oMul_int, oMul_str, oDiv_int, oMod_int, oPow_int, oNeg_int, oLt_int, oLe_int, oGt_int, oGe_int, oEq_int, oNe_int, oEq_str, oNe_str, oEq_bl, oNe_bl, oEq_lst, oNe_lst, oIn_lst, oIn_tup, oIn_dct, oIn_str, oNotIn_lst, oNotIn_dct, oNotIn_str, oIx_lst, oIx_tup, oIx_str, oIx_dct, oCut_lst, oCut_str, truth_bl, truth_int, truth_non, asB_bl, asI_int, oNot_bl, oAttr_ins, oIsNon_non, oNotNon_non, cLen_lst, cLen_tup, cLen_dct, cLen_str, cAll_lst, cSum_lst, cMin_int, cMax_int, cInt_bl, cList_lst, cList_tup, cDict_dct, cTuple_lst, cSorted_lst, cSorted_dct, mUpper_str, mGet_2, mGet_3, mCount_lst, iV_eq, walkV_lst, walkV_tup, keysV_dct, iD_eq, walkV_str, iR_eq, R.bind_ok, R.bind_err, R.bind_no, R.map_ok, R.map_err, R.map_no, on_ok, on_err, on_no, then_nx, then_ret, then_err, then_bk, then_ct, then_no, fin_ret, fin_nx, fin_err, fin_no, ofOpt_some, ofOpt_none, when_true, when_false, List.map_cons, List.map_nil, List.length_cons, List.length_nil, List.getElem?_cons_zero, List.getElem?_cons_succ, List.cons_append, List.nil_append, List.set_cons_zero, List.set_cons_succ, List.length_map, if_true, if_false, Bool.false_eq_true, reduceIte, decide_true, decide_false, Bool.and_true, Bool.true_and, Bool.not_true, Bool.not_false, isK_int_non, isK_int_bl, isK_int_int, isK_int_str, isK_int_tup, isK_int_lst, isK_int_dct, isK_int_exc, isK_int_ins, isK_bl_non, isK_bl_bl, isK_bl_int, isK_bl_str, isK_bl_tup, isK_bl_lst, isK_bl_dct, isK_bl_exc, isK_bl_ins, isK_str_non, isK_str_bl, isK_str_int, isK_str_str, isK_str_tup, isK_str_lst, isK_str_dct, isK_str_exc, isK_str_ins, isK_tup_non, isK_tup_bl, isK_tup_int, isK_tup_str, isK_tup_tup, isK_tup_lst, isK_tup_dct, isK_tup_exc, isK_tup_ins, isK_lst_non, isK_lst_bl, isK_lst_int, isK_lst_str, isK_lst_tup, isK_lst_lst, isK_lst_dct, isK_lst_exc, isK_lst_ins, isK_dct_non, isK_dct_bl, isK_dct_int, isK_dct_str, isK_dct_tup, isK_dct_lst, isK_dct_dct, isK_dct_exc, isK_dct_ins, isC_non, isC_bl, isC_int, isC_str, isC_tup, isC_lst, isC_dct, isC_ins, isC_exc, Int.reduceLT, Int.reduceLE, Nat.reduceLT, Nat.reduceLeDiff, Int.reduceToNat, Int.reduceNeg, Int.reduceEq, Int.reduceBEq, Nat.reduceAdd, Int.reduceAdd, Int.reduceSub, Bool.false_and, Bool.and_false, Bool.true_or, Bool.false_or, Nat.reduceEqDiff, Nat.reduceLT, beq_f w2]
  by_cases w3 : way = 3
  · simp -implicitDefEqProofs only [fn, start, sSeq, sSet, setAll, sIf, sRet, sNx, sExp, sRaise, sFor, sForT, tE, tAnd, tOr, tNot, tYes, e1, e2, eN, evs, eV, eK, eLst, eTup, eAnd, eOr, eIf, eCut, cbound, eChain, eComp, oAdd_int, oAdd_str, oAdd_lst, oSub_int, oMul_int, oMul_str, oDiv_int, oMod_int, oPow_int, oNeg_int, oLt_int, oLe_int, oGt_int, oGe_int, oEq_int, oNe_int, oEq_str, oNe_str, oEq_bl, oNe_bl, oEq_lst, oNe_lst, oIn_lst, oIn_tup, oIn_dct, oIn_str, oNotIn_lst, oNotIn_dct, oNotIn_str, oIx_lst, oIx_tup, oIx_str, oIx_dct, oCut_lst, oCut_str, truth_bl, truth_int, truth_non, asB_bl, asI_int, oNot_bl, oAttr_ins, oIsNon_non, oNotNon_non, cLen_lst, cLen_tup, cLen_dct, cLen_str, cAll_lst, cSum_lst, cMin_int, cMax_int, cInt_bl, cList_lst, cList_tup, cDict_dct, cTuple_lst, cSorted_lst, cSorted_dct, mUpper_str, mGet_2, mGet_3, mCount_lst, iV_eq, walkV_lst, walkV_tup, keysV_dct, iD_eq, walkV_str, iR_eq, R.bind_ok, R.bind_err, R.bind_no, R.map_ok, R.map_err, R.map_no, on_ok, on_err, on_no, then_nx, then_ret, then_err, then_bk, then_ct, then_no, fin_ret, fin_nx, fin_err, fin_no, ofOpt_some, ofOpt_none, when_true, when_false, List.map_cons, List.map_nil, List.length_cons, List.length_nil, List.getElem?_cons_zero, List.getElem?_cons_succ, List.cons_append, List.nil_append, List.set_cons_zero, List.set_cons_succ, List.length_map, if_true, if_false, Bool.false_eq_true, reduceIte, decide_true, decide_false, Bool.and_true, Bool.true_and, Bool.not_true, Bool.not_false, isK_int_non, isK_int_bl, isK_int_int, isK_int_str, isK_int_tup, isK_int_lst, isK_int_dct, isK_int_exc, isK_int_ins, isK_bl_non, isK_bl_bl, isK_bl_int, isK_bl_str, isK_bl_tup, isK_bl_lst, isK_bl_dct, isK_bl_exc, isK_bl_ins, isK_str_non, isK_str_bl, isK_str_int, isK_str_str, isK_str_tup, isK_str_lst, isK_str_dct, isK_str_exc, isK_str_ins, isK_tup_non, isK_tup_bl, isK_tup_int, isK_tup_str, isK_tup_tup, isK_tup_lst, isK_tup_dct, isK_tup_exc, isK_tup_ins, isK_lst_non, isK_lst_bl, isK_lst_int, isK_lst_str, isK_lst_tup, isK_lst_lst, isK_lst_dct, isK_lst_exc, isK_lst_ins, isK_dct_non, isK_dct_bl, isK_dct_int, isK_dct_str, isK_dct_tup, isK_dct_lst, isK_dct_dct, isK_dct_exc, isK_dct_ins, isC_non, isC_bl, isC_int, isC_str, isC_tup, isC_lst, isC_dct, isC_ins, isC_exc, Int.reduceLT, Int.reduceLE, Nat.reduceLT, Nat.reduceLeDiff, Int.reduceToNat, Int.reduceNeg, Int.reduceEq, Int.reduceBEq, Nat.reduceAdd, Int.reduceAdd, Int.reduceSub, Bool.false_and, Bool.and_false, Bool.true_or, Bool.false_or, Nat.reduceEqDiff, Nat.reduceLT, beq_t w3]
    obtain ⟨n, h1, h2⟩ := atI_lt [PV.int 0, .int (10 ^ 59), .int (10 ^ 60)] (cell % 3) (by omega) (by show _ < (3 : Int); omega)
    obtain ⟨m, rfl⟩ : ∃ m : Int, n = .int m := by
      simp only [List.mem_cons, List.not_mem_nil, or_false] at h2
      rcases h2 with rfl | rfl | rfl <;> exact ⟨_, rfl⟩
    simp -implicitDefEqProofs only [fn, start, sSeq, sSet, setAll, sIf, sRet, sNx, sExp, sRaise, sFor, sForT, tE, tAnd, tOr, tNot, tYes, e1, e2, eN, evs, eV, eK, eLst, eTup, eAnd, eOr, eIf, eCut, cbound, eChain, eComp, oAdd_int, oAdd_str, oAdd_lst, oSub_int, oMul_int, oMul_str, oDiv_int, oMod_int, oPow_int, oNeg_int, oLt_int, oLe_int, oGt_int, oGe_int, oEq_int, oNe_int, oEq_str, oNe_str, oEq_bl, oNe_bl, oEq_lst, oNe_lst, oIn_lst, oIn_tup, oIn_dct, oIn_str, oNotIn_lst, oNotIn_dct, oNotIn_str, oIx_lst, oIx_tup, oIx_str, oIx_dct, oCut_lst, oCut_str, truth_bl, truth_int, truth_non, asB_bl, asI_int, oNot_bl, oAttr_ins, oIsNon_non, oNotNon_non, cLen_lst, cLen_tup, cLen_dct, cLen_str, cAll_lst, cSum_lst, cMin_int, cMax_int, cInt_bl, cList_lst, cList_tup, cDict_dct, cTuple_lst, cSorted_lst, cSorted_dct, mUpper_str, mGet_2, mGet_3, mCount_lst, iV_eq, walkV_lst, walkV_tup, keysV_dct, iD_eq, walkV_str, iR_eq, R.bind_ok, R.bind_err, R.bind_no, R.map_ok, R.map_err, R.map_no, on_ok, on_err, on_no, then_nx, then_ret, then_err, then_bk, then_ct, then_no, fin_ret, fin_nx, fin_err, fin_no, ofOpt_some, ofOpt_none, when_true, when_false, List.map_cons, List.map_nil, List.length_cons, List.length_nil, List.getElem?_cons_zero, List.getElem?_cons_succ, List.cons_append, List.nil_append, List.set_cons_zero, List.set_cons_succ, List.length_map, if_true, if_false, Bool.false_eq_true, reduceIte, decide_true, decide_false, Bool.and_true, Bool.true_and, Bool.not_true, Bool.not_false, isK_int_non, isK_int_bl, isK_int_int, isK_int_str, isK_int_tup, isK_int_lst, isK_int_dct, isK_int_exc, isK_int_ins, isK_bl_non, isK_bl_bl, isK_bl_int, isK_bl_str, isK_bl_tup, isK_bl_lst, isK_bl_dct, isK_bl_exc, isK_bl_ins, isK_str_non, isK_str_bl, isK_str_int, isK_str_str, isK_str_tup, isK_str_lst, isK_str_dct, isK_str_exc, isK_str_ins, isK_tup_non, isK_tup_bl, isK_tup_int, isK_tup_str, isK_tup_tup, isK_tup_lst, isK_tup_dct, isK_tup_exc, isK_tup_ins, isK_lst_non, isK_lst_bl, isK_lst_int, isK_lst_str, isK_lst_tup, isK_lst_lst, isK_lst_dct, isK_lst_exc, isK_lst_ins, isK_dct_non, isK_dct_bl, isK_dct_int, isK_dct_str, isK_dct_tup, isK_dct_lst, isK_dct_dct, isK_dct_exc, isK_dct_ins, isC_non, isC_bl, isC_int, isC_str, isC_tup, isC_lst, isC_dct, isC_ins, isC_exc, Int.reduceLT, Int.reduceLE, Nat.reduceLT, Nat.reduceLeDiff, Int.reduceToNat, Int.reduceNeg, Int.reduceEq, Int.reduceBEq, Nat.reduceAdd, Int.reduceAdd, Int.reduceSub, Bool.false_and, Bool.and_false, Bool.true_or, Bool.false_or, Nat.reduceEqDiff, Nat.reduceLT, h1]
    exact ⟨_, rfl, trivial⟩
  simp -implicitDefEqProofs only [fn, start, sSeq, sSet, setAll, sIf, sRet, sNx, sExp, sRaise, sFor, sForT, tE, tAnd, tOr, tNot, tYes, e1, e2, eN, evs, eV, eK, eLst, eTup, eAnd, eOr, eIf, eCut, cbound, eChain, eComp, oAdd_int, oAdd_str, oAdd_lst, oSub_int, oMul_int, oMul_str, oDiv_int, oMod_int, oPow_int, oNeg_int, oLt_int, oLe_int, oGt_int, oGe_int, oEq_int, oNe_int, oEq_str, oNe_str, oEq_bl, oNe_bl, oEq_lst, oNe_lst, oIn_lst, oIn_tup, oIn_dct, oIn_str, oNotIn_lst, oNotIn_dct, oNotIn_str, oIx_lst, oIx_tup, oIx_str, oIx_dct, oCut_lst, oCut_str, truth_bl, truth_int, truth_non, asB_bl, asI_int, oNot_bl, oAttr_ins, oIsNon_non, oNotNon_non, cLen_lst, cLen_tup, cLen_dct, cLen_str, cAll_lst, cSum_lst, cMin_int, cMax_int, cInt_bl, cList_lst, cList_tup, cDict_dct, cTuple_lst, cSorted_lst, cSorted_dct, mUpper_str, mGet_2, mGet_3, mCount_lst, iV_eq, walkV_lst, walkV_tup, keysV_dct, iD_eq, walkV_str, iR_eq, R.bind_ok, R.bind_err, R.bind_no, R.map_ok, R.map_err, R.map_no, on_ok, on_err, on_no, then_nx, then_ret, then_err, then_bk, then_ct, then_no, fin_ret, fin_nx, fin_err, fin_no, ofOpt_some, ofOpt_none, when_true, when_false, List.map_cons, List.map_nil, List.length_cons, List.length_nil, List.getElem?_cons_zero, List.getElem?_cons_succ, List.cons_append, List.nil_append, List.set_cons_zero, List.set_cons_succ, List.length_map, if_true, if_false, Bool.false_eq_true, reduceIte, decide_true, decide_false, Bool.and_true, Bool.true_and, Bool.not_true, Bool.not_false, isK_int_non, isK_int_bl, isK_int_int, isK_int_str, isK_int_tup, isK_int_lst, isK_int_dct, isK_int_exc, isK_int_ins, isK_bl_non, isK_bl_bl, isK_bl_int, isK_bl_str, isK_bl_tup, isK_bl_lst, isK_bl_dct, isK_bl_exc, isK_bl_ins, isK_str_non, isK_str_bl, isK_str_int, isK_str_str, isK_str_tup, isK_str_lst, isK_str_dct, isK_str_exc, isK_str_ins, isK_tup_non, isK_tup_bl, isK_tup_int, isK_tup_str, isK_tup_tup, isK_tup_lst, isK_tup_dct, isK_tup_exc, isK_tup_ins, isK_lst_non, isK_lst_bl, isK_lst_int, isK_lst_str, isK_lst_tup, isK_lst_lst, isK_lst_dct, isK_lst_exc, isK_lst_ins, isK_dct_non, isK_dct_bl, isK_dct_int, isK_dct_str, isK_dct_tup, isK_dct_lst, isK_dct_dct, isK_dct_exc, isK_dct_ins, isC_non, isC_bl, isC_int, isC_str, isC_tup, isC_lst, isC_dct, isC_ins, isC_exc, Int.reduceLT, Int.reduceLE, Nat.reduceLT, Nat.reduceLeDiff, Int.reduceToNat, Int.reduceNeg, Int.reduceEq, Int.reduceBEq, Nat.reduceAdd, Int.reduceAdd, Int.reduceSub, Bool.false_and, Bool.and_false, Bool.true_or, Bool.false_or, Nat.reduceEqDiff, Nat.reduceLT, beq_f w3]
  by_cases w4 : way = 4
  · simp -implicitDefEqProofs only [fn, start, sSeq, sSet, setAll, sIf, sRet, sNx, sExp, sRaise, sFor, sForT, tE, tAnd, tOr, tNot, tYes, e1, e2, eN, evs, eV, eK, eLst, eTup, eAnd, eOr, eIf, eCut, cbound, eChain, eComp, oAdd_int, oAdd_str, oAdd_lst, oSub_int, oMul_int, oMul_str, oDiv_int, oMod_int, oPow_int, oNeg_int, oLt_int, oLe_int, oGt_int, oGe_int, oEq_int, oNe_int, oEq_str, oNe_str, oEq_bl, oNe_bl, oEq_lst, oNe_lst, oIn_lst, oIn_tup, oIn_dct, oIn_str, oNotIn_lst, oNotIn_dct, oNotIn_str, oIx_lst, oIx_tup, oIx_str, oIx_dct, oCut_lst, oCut_str, truth_bl, truth_int, truth_non, asB_bl, asI_int, oNot_bl, oAttr_ins, oIsNon_non, oNotNon_non, cLen_lst, cLen_tup, cLen_dct, cLen_str, cAll_lst, cSum_lst, cMin_int, cMax_int, cInt_bl, cList_lst, cList_tup, cDict_dct, cTuple_lst, cSorted_lst, cSorted_dct, mUpper_str, mGet_2, mGet_3, mCount_lst, iV_eq, walkV_lst, walkV_tup, keysV_dct, iD_eq, walkV_str, iR_eq, R.bind_ok, R.bind_err, R.bind_no, R.map_ok, R.map_err, R.map_no, on_ok, on_err, on_no, then_nx, then_ret, then_err, then_bk, then_ct, then_no, fin_ret, fin_nx, fin_err, fin_no, ofOpt_some, ofOpt_none, when_true, when_false, List.map_cons, List.map_nil, List.length_cons, List.length_nil, List.getElem?_cons_zero, List.getElem?_cons_succ, List.cons_append, List.nil_append, List.set_cons_zero, List.set_cons_succ, List.length_map, if_true, if_false, Bool.false_eq_true, reduceIte, decide_true, decide_false, Bool.and_true, Bool.true_and, Bool.not_true, Bool.not_false, isK_int_non, isK_int_bl, isK_int_int, isK_int_str, isK_int_tup, isK_int_lst, isK_int_dct, isK_int_exc, isK_int_ins, isK_bl_non, isK_bl_bl, isK_bl_int, isK_bl_str, isK_bl_tup, isK_bl_lst, isK_bl_dct, isK_bl_exc, isK_bl_ins, isK_str_non, isK_str_bl, isK_str_int, isK_str_str, isK_str_tup, isK_str_lst, isK_str_dct, isK_str_exc, isK_str_ins, isK_tup_non, isK_tup_bl, isK_tup_int, isK_tup_str, isK_tup_tup, isK_tup_lst, isK_tup_dct, isK_tup_exc, isK_tup_ins, isK_lst_non, isK_lst_bl, isK_lst_int, isK_lst_str, isK_lst_tup, isK_lst_lst, isK_lst_dct, isK_lst_exc, isK_lst_ins, isK_dct_non, isK_dct_bl, isK_dct_int, isK_dct_str, isK_dct_tup, isK_dct_lst, isK_dct_dct, isK_dct_exc, isK_dct_ins, isC_non, isC_bl, isC_int, isC_str, isC_tup, isC_lst, isC_dct, isC_ins, isC_exc, Int.reduceLT, Int.reduceLE, Nat.reduceLT, Nat.reduceLeDiff, Int.reduceToNat, Int.reduceNeg, Int.reduceEq, Int.reduceBEq, Nat.reduceAdd, Int.reduceAdd, Int.reduceSub, Bool.false_and, Bool.and_false, Bool.true_or, Bool.false_or, Nat.reduceEqDiff, Nat.reduceLT, beq_t w4, pos_ (10 ^ 60) (by decide), cmul_l 2 _ (by omega) (by omega), cmul_r _ (1 - 2 * (other % 2)) (by omega) (by omega)]
    exact ⟨_, rfl, trivial⟩
  simp -implicitDefEqProofs only [fn, start, sSeq, sSet, setAll, sIf, sRet, sNx, sExp, sRaise, sFor, sForT, tE, tAnd, tOr, tNot, tYes, e1, e2, eN, evs, eV, eK, eLst, eTup, eAnd, eOr, eIf, eCut, cbound, eChain, eComp, oAdd_int, oAdd_str, oAdd_lst, oSub_int, oMul_int, oMul_str, oDiv_int, oMod_int, oPow_int, oNeg_int, oLt_int, oLe_int, oGt_int, oGe_int, oEq_int, oNe_int, oEq_str, oNe_str, oEq_bl, oNe_bl, oEq_lst, oNe_lst, oIn_lst, oIn_tup, oIn_dct, oIn_str, oNotIn_lst, oNotIn_dct, oNotIn_str, oIx_lst, oIx_tup, oIx_str, oIx_dct, oCut_lst, oCut_str, truth_bl, truth_int, truth_non, asB_bl, asI_int, oNot_bl, oAttr_ins, oIsNon_non, oNotNon_non, cLen_lst, cLen_tup, cLen_dct, cLen_str, cAll_lst, cSum_lst, cMin_int, cMax_int, cInt_bl, cList_lst, cList_tup, cDict_dct, cTuple_lst, cSorted_lst, cSorted_dct, mUpper_str, mGet_2, mGet_3, mCount_lst, iV_eq, walkV_lst, walkV_tup, keysV_dct, iD_eq, walkV_str, iR_eq, R.bind_ok, R.bind_err, R.bind_no, R.map_ok, R.map_err, R.map_no, on_ok, on_err, on_no, then_nx, then_ret, then_err, then_bk, then_ct, then_no, fin_ret, fin_nx, fin_err, fin_no, ofOpt_some, ofOpt_none, when_true, when_false, List.map_cons, List.map_nil, List.length_cons, List.length_nil, List.getElem?_cons_zero, List.getElem?_cons_succ, List.cons_append, List.nil_append, List.set_cons_zero, List.set_cons_succ, List.length_map, if_true, if_false, Bool.false_eq_true, reduceIte, decide_true, decide_false, Bool.and_true, Bool.true_and, Bool.not_true, Bool.not_false, isK_int_non, isK_int_bl, isK_int_int, isK_int_str, isK_int_tup, isK_int_lst, isK_int_dct, isK_int_exc, isK_int_ins, isK_bl_non, isK_bl_bl, isK_bl_int, isK_bl_str, isK_bl_tup, isK_bl_lst, isK_bl_dct, isK_bl_exc, isK_bl_ins, isK_str_non, isK_str_bl, isK_str_int, isK_str_str, isK_str_tup, isK_str_lst, isK_str_dct, isK_str_exc, isK_str_ins, isK_tup_non, isK_tup_bl, isK_tup_int, isK_tup_str, isK_tup_tup, isK_tup_lst, isK_tup_dct, isK_tup_exc, isK_tup_ins, isK_lst_non, isK_lst_bl, isK_lst_int, isK_lst_str, isK_lst_tup, isK_lst_lst, isK_lst_dct, isK_lst_exc, isK_lst_ins, isK_dct_non, isK_dct_bl, isK_dct_int, isK_dct_str, isK_dct_tup, isK_dct_lst, isK_dct_dct, isK_dct_exc, isK_dct_ins, isC_non, isC_bl, isC_int, isC_str, isC_tup, isC_lst, isC_dct, isC_ins, isC_exc, Int.reduceLT, Int.reduceLE, Nat.reduceLT, Nat.reduceLeDiff, Int.reduceToNat, Int.reduceNeg, Int.reduceEq, Int.reduceBEq, Nat.reduceAdd, Int.reduceAdd, Int.reduceSub, Bool.false_and, Bool.and_false, Bool.true_or, Bool.false_or, Nat.reduceEqDiff, Nat.reduceLT, beq_f w4]
  generalize hw : ([PV.non, _, _, _, _, _, _, _, _, _, _, _] : List PV) = some_
  obtain ⟨sg, h1, h2⟩ := atI_lt some_ (other % 12) (by omega) (by subst hw; show _ < (12 : Int); omega)
  simp -implicitDefEqProofs only [fn, start, sSeq, sSet, setAll, sIf, sRet, sNx, sExp, sRaise, sFor, sForT, tE, tAnd, tOr, tNot, tYes, e1, e2, eN, evs, eV, eK, eLst, eTup, eAnd, eOr, eIf, eCut, cbound, eChain, eComp, oAdd_int, oAdd_str, oAdd_lst, oSub_int, oMul_int, oMul_str, oDiv_int, oMod_int, oPow_int, oNeg_int, oLt_int, oLe_int, oGt_int, oGe_int, oEq_int, oNe_int, oEq_str, oNe_str, oEq_bl, oNe_bl, oEq_lst, oNe_lst, oIn_lst, oIn_tup, oIn_dct, oIn_str, oNotIn_lst, oNotIn_dct, oNotIn_str, oIx_lst, oIx_tup, oIx_str, oIx_dct, oCut_lst, oCut_str, truth_bl, truth_int, truth_non, asB_bl, asI_int, oNot_bl, oAttr_ins, oIsNon_non, oNotNon_non, cLen_lst, cLen_tup, cLen_dct, cLen_str, cAll_lst, cSum_lst, cMin_int, cMax_int, cInt_bl, cList_lst, cList_tup, cDict_dct, cTuple_lst, cSorted_lst, cSorted_dct, mUpper_str, mGet_2, mGet_3, mCount_lst, iV_eq, walkV_lst, walkV_tup, keysV_dct, iD_eq, walkV_str, iR_eq, R.bind_ok, R.bind_err, R.bind_no, R.map_ok, R.map_err, R.map_no, on_ok, on_err, on_no, then_nx, then_ret, then_err, then_bk, then_ct, then_no, fin_ret, fin_nx, fin_err, fin_no, ofOpt_some, ofOpt_none, when_true, when_false, List.map_cons, List.map_nil, List.length_cons, List.length_nil, List.getElem?_cons_zero, List.getElem?_cons_succ, List.cons_append, List.nil_append, List.set_cons_zero, List.set_cons_succ, List.length_map, if_true, if_false, Bool.false_eq_true, reduceIte, decide_true, decide_false, Bool.and_true, Bool.true_and, Bool.not_true, Bool.not_false, isK_int_non, isK_int_bl, isK_int_int, isK_int_str, isK_int_tup, isK_int_lst, isK_int_dct, isK_int_exc, isK_int_ins, isK_bl_non, isK_bl_bl, isK_bl_int, isK_bl_str, isK_bl_tup, isK_bl_lst, isK_bl_dct, isK_bl_exc, isK_bl_ins, isK_str_non, isK_str_bl, isK_str_int, isK_str_str, isK_str_tup, isK_str_lst, isK_str_dct, isK_str_exc, isK_str_ins, isK_tup_non, isK_tup_bl, isK_tup_int, isK_tup_str, isK_tup_tup, isK_tup_lst, isK_tup_dct, isK_tup_exc, isK_tup_ins, isK_lst_non, isK_lst_bl, isK_lst_int, isK_lst_str, isK_lst_tup, isK_lst_lst, isK_lst_dct, isK_lst_exc, isK_lst_ins, isK_dct_non, isK_dct_bl, isK_dct_int, isK_dct_str, isK_dct_tup, isK_dct_lst, isK_dct_dct, isK_dct_exc, isK_dct_ins, isC_non, isC_bl, isC_int, isC_str, isC_tup, isC_lst, isC_dct, isC_ins, isC_exc, Int.reduceLT, Int.reduceLE, Nat.reduceLT, Nat.reduceLeDiff, Int.reduceToNat, Int.reduceNeg, Int.reduceEq, Int.reduceBEq, Nat.reduceAdd, Int.reduceAdd, Int.reduceSub, Bool.false_and, Bool.and_false, Bool.true_or, Bool.false_or, Nat.reduceEqDiff, Nat.reduceLT, h1]
  refine ⟨_, rfl, ?_⟩
  subst hw
  simp only [List.mem_cons, List.not_mem_nil, or_false] at h2
  rcases h2 with rfl | rfl | rfl | rfl | rfl | rfl | rfl | rfl | rfl | rfl | rfl | rfl <;> first | trivial | (show (Str.ofString "").length ≤ 40; decide +kernel)

/-! ### the three questions -/
def isLet (c : Nat) : Bool := inS ⟨#[c]⟩ abc
def nameB (s : Str) : Bool := decide (1 ≤ s.length) && decide (s.length ≤ 8) && s.cps.toList.all isLet
theorem comp_lets (s : Env) (e : Env) : ∀ cs : List Nat, compL tYes (e2 oIn (eV 1) (eK (.str abc))) [e.headD none] (cs.map fun c => .str ⟨#[c]⟩) = .ok (cs.map fun c => .bl (isLet c))
  | [] => rfl
  | c :: r => by
    rw [List.map_cons, List.map_cons]
    unfold compL
    rw [comp_lets s e r]
    simp -implicitDefEqProofs only [fn, start, sSeq, sSet, setAll, sIf, sRet, sNx, sExp, sRaise, sFor, sForT, tE, tAnd, tOr, tNot, tYes, e1, e2, eN, evs, eV, eK, eLst, eTup, eAnd, eOr, eIf, eCut, cbound, eChain, eComp, oAdd_int, oAdd_str, oAdd_lst, oSub_int, oMul_int, oMul_str, oDiv_int, oMod_int, oPow_int, oNeg_int, oLt_int, oLe_int, oGt_int, oGe_int, oEq_int, oNe_int, oEq_str, oNe_str, oEq_bl, oNe_bl, oEq_lst, oNe_lst, oIn_lst, oIn_tup, oIn_dct, oIn_str, oNotIn_lst, oNotIn_dct, oNotIn_str, oIx_lst, oIx_tup, oIx_str, oIx_dct, oCut_lst, oCut_str, truth_bl, truth_int, truth_non, asB_bl, asI_int, oNot_bl, oAttr_ins, oIsNon_non, oNotNon_non, cLen_lst, cLen_tup, cLen_dct, cLen_str, cAll_lst, cSum_lst, cMin_int, cMax_int, cInt_bl, cList_lst, cList_tup, cDict_dct, cTuple_lst, cSorted_lst, cSorted_dct, mUpper_str, mGet_2, mGet_3, mCount_lst, iV_eq, walkV_lst, walkV_tup, keysV_dct, iD_eq, walkV_str, iR_eq, R.bind_ok, R.bind_err, R.bind_no, R.map_ok, R.map_err, R.map_no, on_ok, on_err, on_no, then_nx, then_ret, then_err, then_bk, then_ct, then_no, fin_ret, fin_nx, fin_err, fin_no, ofOpt_some, ofOpt_none, when_true, when_false, List.map_cons, List.map_nil, List.length_cons, List.length_nil, List.getElem?_cons_zero, List.getElem?_cons_succ, List.cons_append, List.nil_append, List.set_cons_zero, List.set_cons_succ, List.length_map, if_true, if_false, Bool.false_eq_true, reduceIte, decide_true, decide_false, Bool.and_true, Bool.true_and, Bool.not_true, Bool.not_false, isK_int_non, isK_int_bl, isK_int_int, isK_int_str, isK_int_tup, isK_int_lst, isK_int_dct, isK_int_exc, isK_int_ins, isK_bl_non, isK_bl_bl, isK_bl_int, isK_bl_str, isK_bl_tup, isK_bl_lst, isK_bl_dct, isK_bl_exc, isK_bl_ins, isK_str_non, isK_str_bl, isK_str_int, isK_str_str, isK_str_tup, isK_str_lst, isK_str_dct, isK_str_exc, isK_str_ins, isK_tup_non, isK_tup_bl, isK_tup_int, isK_tup_str, isK_tup_tup, isK_tup_lst, isK_tup_dct, isK_tup_exc, isK_tup_ins, isK_lst_non, isK_lst_bl, isK_lst_int, isK_lst_str, isK_lst_tup, isK_lst_lst, isK_lst_dct, isK_lst_exc, isK_lst_ins, isK_dct_non, isK_dct_bl, isK_dct_int, isK_dct_str, isK_dct_tup, isK_dct_lst, isK_dct_dct, isK_dct_exc, isK_dct_ins, isC_non, isC_bl, isC_int, isC_str, isC_tup, isC_lst, isC_dct, isC_ins, isC_exc, Int.reduceLT, Int.reduceLE, Nat.reduceLT, Nat.reduceLeDiff, Int.reduceToNat, Int.reduceNeg, Int.reduceEq, Int.reduceBEq, Nat.reduceAdd, Int.reduceAdd, Int.reduceSub, Bool.false_and, Bool.and_false, Bool.true_or, Bool.false_or, Nat.reduceEqDiff, Nat.reduceLT]
    rfl
theorem bools_lets : ∀ bs : List Bool, bools (bs.map .bl) = .ok bs
  | [] => rfl
  | b :: r => by
    rw [List.map_cons]
    unfold bools
    rw [bools_lets r]
    rfl
theorem allB_lets (bs : List Bool) : allB (bs.map .bl) = .ok (bs.all id) := by
  unfold allB
  rw [bools_lets]
  rfl
theorem is_name_str (s : Str) (h : s.length ≤ 40) : f_is_name [.str s] = .ok (.bl (nameB s)) := by
  simp -implicitDefEqProofs only [fn, start, sSeq, sSet, setAll, sIf, sRet, sNx, sExp, sRaise, sFor, sForT, tE, tAnd, tOr, tNot, tYes, e1, e2, eN, evs, eV, eK, eLst, eTup, eAnd, eOr, eIf, eCut, cbound, eChain, eComp, oAdd_int, oAdd_str, oAdd_lst, oSub_int, oMul_int, oMul_str, oDiv_int, oMod_int, oPow_int, oNeg_int, oLt_int, oLe_int, oGt_int, oGe_int, oEq_int, oNe_int, oEq_str, oNe_str, oEq_bl, oNe_bl, oEq_lst, oNe_lst, oIn_lst, oIn_tup, oIn_dct, oIn_str, oNotIn_lst, oNotIn_dct, oNotIn_str, oIx_lst, oIx_tup, oIx_str, oIx_dct, oCut_lst, oCut_str, truth_bl, truth_int, truth_non, asB_bl, asI_int, oNot_bl, oAttr_ins, oIsNon_non, oNotNon_non, cLen_lst, cLen_tup, cLen_dct, cLen_str, cAll_lst, cSum_lst, cMin_int, cMax_int, cInt_bl, cList_lst, cList_tup, cDict_dct, cTuple_lst, cSorted_lst, cSorted_dct, mUpper_str, mGet_2, mGet_3, mCount_lst, iV_eq, walkV_lst, walkV_tup, keysV_dct, iD_eq, walkV_str, iR_eq, R.bind_ok, R.bind_err, R.bind_no, R.map_ok, R.map_err, R.map_no, on_ok, on_err, on_no, then_nx, then_ret, then_err, then_bk, then_ct, then_no, fin_ret, fin_nx, fin_err, fin_no, ofOpt_some, ofOpt_none, when_true, when_false, List.map_cons, List.map_nil, List.length_cons, List.length_nil, List.getElem?_cons_zero, List.getElem?_cons_succ, List.cons_append, List.nil_append, List.set_cons_zero, List.set_cons_succ, List.length_map, if_true, if_false, Bool.false_eq_true, reduceIte, decide_true, decide_false, Bool.and_true, Bool.true_and, Bool.not_true, Bool.not_false, isK_int_non, isK_int_bl, isK_int_int, isK_int_str, isK_int_tup, isK_int_lst, isK_int_dct, isK_int_exc, isK_int_ins, isK_bl_non, isK_bl_bl, isK_bl_int, isK_bl_str, isK_bl_tup, isK_bl_lst, isK_bl_dct, isK_bl_exc, isK_bl_ins, isK_str_non, isK_str_bl, isK_str_int, isK_str_str, isK_str_tup, isK_str_lst, isK_str_dct, isK_str_exc, isK_str_ins, isK_tup_non, isK_tup_bl, isK_tup_int, isK_tup_str, isK_tup_tup, isK_tup_lst, isK_tup_dct, isK_tup_exc, isK_tup_ins, isK_lst_non, isK_lst_bl, isK_lst_int, isK_lst_str, isK_lst_tup, isK_lst_lst, isK_lst_dct, isK_lst_exc, isK_lst_ins, isK_dct_non, isK_dct_bl, isK_dct_int, isK_dct_str, isK_dct_tup, isK_dct_lst, isK_dct_dct, isK_dct_exc, isK_dct_ins, isC_non, isC_bl, isC_int, isC_str, isC_tup, isC_lst, isC_dct, isC_ins, isC_exc, Int.reduceLT, Int.reduceLE, Nat.reduceLT, Nat.reduceLeDiff, Int.reduceToNat, Int.reduceNeg, Int.reduceEq, Int.reduceBEq, Nat.reduceAdd, Int.reduceAdd, Int.reduceSub, Bool.false_and, Bool.and_false, Bool.true_or, Bool.false_or, Nat.reduceEqDiff, Nat.reduceLT, f_is_name, y_is_name, abc_eq, fits (show s.length ≤ 100000 by omega), iV_eq]
  unfold nameB
  by_cases h1 : s.length < 1
  · simp -implicitDefEqProofs only [fn, start, sSeq, sSet, setAll, sIf, sRet, sNx, sExp, sRaise, sFor, sForT, tE, tAnd, tOr, tNot, tYes, e1, e2, eN, evs, eV, eK, eLst, eTup, eAnd, eOr, eIf, eCut, cbound, eChain, eComp, oAdd_int, oAdd_str, oAdd_lst, oSub_int, oMul_int, oMul_str, oDiv_int, oMod_int, oPow_int, oNeg_int, oLt_int, oLe_int, oGt_int, oGe_int, oEq_int, oNe_int, oEq_str, oNe_str, oEq_bl, oNe_bl, oEq_lst, oNe_lst, oIn_lst, oIn_tup, oIn_dct, oIn_str, oNotIn_lst, oNotIn_dct, oNotIn_str, oIx_lst, oIx_tup, oIx_str, oIx_dct, oCut_lst, oCut_str, truth_bl, truth_int, truth_non, asB_bl, asI_int, oNot_bl, oAttr_ins, oIsNon_non, oNotNon_non, cLen_lst, cLen_tup, cLen_dct, cLen_str, cAll_lst, cSum_lst, cMin_int, cMax_int, cInt_bl, cList_lst, cList_tup, cDict_dct, cTuple_lst, cSorted_lst, cSorted_dct, mUpper_str, mGet_2, mGet_3, mCount_lst, iV_eq, walkV_lst, walkV_tup, keysV_dct, iD_eq, walkV_str, iR_eq, R.bind_ok, R.bind_err, R.bind_no, R.map_ok, R.map_err, R.map_no, on_ok, on_err, on_no, then_nx, then_ret, then_err, then_bk, then_ct, then_no, fin_ret, fin_nx, fin_err, fin_no, ofOpt_some, ofOpt_none, when_true, when_false, List.map_cons, List.map_nil, List.length_cons, List.length_nil, List.getElem?_cons_zero, List.getElem?_cons_succ, List.cons_append, List.nil_append, List.set_cons_zero, List.set_cons_succ, List.length_map, if_true, if_false, Bool.false_eq_true, reduceIte, decide_true, decide_false, Bool.and_true, Bool.true_and, Bool.not_true, Bool.not_false, isK_int_non, isK_int_bl, isK_int_int, isK_int_str, isK_int_tup, isK_int_lst, isK_int_dct, isK_int_exc, isK_int_ins, isK_bl_non, isK_bl_bl, isK_bl_int, isK_bl_str, isK_bl_tup, isK_bl_lst, isK_bl_dct, isK_bl_exc, isK_bl_ins, isK_str_non, isK_str_bl, isK_str_int, isK_str_str, isK_str_tup, isK_str_lst, isK_str_dct, isK_str_exc, isK_str_ins, isK_tup_non, isK_tup_bl, isK_tup_int, isK_tup_str, isK_tup_tup, isK_tup_lst, isK_tup_dct, isK_tup_exc, isK_tup_ins, isK_lst_non, isK_lst_bl, isK_lst_int, isK_lst_str, isK_lst_tup, isK_lst_lst, isK_lst_dct, isK_lst_exc, isK_lst_ins, isK_dct_non, isK_dct_bl, isK_dct_int, isK_dct_str, isK_dct_tup, isK_dct_lst, isK_dct_dct, isK_dct_exc, isK_dct_ins, isC_non, isC_bl, isC_int, isC_str, isC_tup, isC_lst, isC_dct, isC_ins, isC_exc, Int.reduceLT, Int.reduceLE, Nat.reduceLT, Nat.reduceLeDiff, Int.reduceToNat, Int.reduceNeg, Int.reduceEq, Int.reduceBEq, Nat.reduceAdd, Int.reduceAdd, Int.reduceSub, Bool.false_and, Bool.and_false, Bool.true_or, Bool.false_or, Nat.reduceEqDiff, Nat.reduceLT, yes (show (s.length : Int) < 1 by omega), nay (show ¬ 1 ≤ s.length by omega), Bool.false_and]
  · by_cases h2 : 8 < s.length
    · simp -implicitDefEqProofs only [fn, start, sSeq, sSet, setAll, sIf, sRet, sNx, sExp, sRaise, sFor, sForT, tE, tAnd, tOr, tNot, tYes, e1, e2, eN, evs, eV, eK, eLst, eTup, eAnd, eOr, eIf, eCut, cbound, eChain, eComp, oAdd_int, oAdd_str, oAdd_lst, oSub_int, oMul_int, oMul_str, oDiv_int, oMod_int, oPow_int, oNeg_int, oLt_int, oLe_int, oGt_int, oGe_int, oEq_int, oNe_int, oEq_str, oNe_str, oEq_bl, oNe_bl, oEq_lst, oNe_lst, oIn_lst, oIn_tup, oIn_dct, oIn_str, oNotIn_lst, oNotIn_dct, oNotIn_str, oIx_lst, oIx_tup, oIx_str, oIx_dct, oCut_lst, oCut_str, truth_bl, truth_int, truth_non, asB_bl, asI_int, oNot_bl, oAttr_ins, oIsNon_non, oNotNon_non, cLen_lst, cLen_tup, cLen_dct, cLen_str, cAll_lst, cSum_lst, cMin_int, cMax_int, cInt_bl, cList_lst, cList_tup, cDict_dct, cTuple_lst, cSorted_lst, cSorted_dct, mUpper_str, mGet_2, mGet_3, mCount_lst, iV_eq, walkV_lst, walkV_tup, keysV_dct, iD_eq, walkV_str, iR_eq, R.bind_ok, R.bind_err, R.bind_no, R.map_ok, R.map_err, R.map_no, on_ok, on_err, on_no, then_nx, then_ret, then_err, then_bk, then_ct, then_no, fin_ret, fin_nx, fin_err, fin_no, ofOpt_some, ofOpt_none, when_true, when_false, List.map_cons, List.map_nil, List.length_cons, List.length_nil, List.getElem?_cons_zero, List.getElem?_cons_succ, List.cons_append, List.nil_append, List.set_cons_zero, List.set_cons_succ, List.length_map, if_true, if_false, Bool.false_eq_true, reduceIte, decide_true, decide_false, Bool.and_true, Bool.true_and, Bool.not_true, Bool.not_false, isK_int_non, isK_int_bl, isK_int_int, isK_int_str, isK_int_tup, isK_int_lst, isK_int_dct, isK_int_exc, isK_int_ins, isK_bl_non, isK_bl_bl, isK_bl_int, isK_bl_str, isK_bl_tup, isK_bl_lst, isK_bl_dct, isK_bl_exc, isK_bl_ins, isK_str_non, isK_str_bl, isK_str_int, isK_str_str, isK_str_tup, isK_str_lst, isK_str_dct, isK_str_exc, isK_str_ins, isK_tup_non, isK_tup_bl, isK_tup_int, isK_tup_str, isK_tup_tup, isK_tup_lst, isK_tup_dct, isK_tup_exc, isK_tup_ins, isK_lst_non, isK_lst_bl, isK_lst_int, isK_lst_str, isK_lst_tup, isK_lst_lst, isK_lst_dct, isK_lst_exc, isK_lst_ins, isK_dct_non, isK_dct_bl, isK_dct_int, isK_dct_str, isK_dct_tup, isK_dct_lst, isK_dct_dct, isK_dct_exc, isK_dct_ins, isC_non, isC_bl, isC_int, isC_str, isC_tup, isC_lst, isC_dct, isC_ins, isC_exc, Int.reduceLT, Int.reduceLE, Nat.reduceLT, Nat.reduceLeDiff, Int.reduceToNat, Int.reduceNeg, Int.reduceEq, Int.reduceBEq, Nat.reduceAdd, Int.reduceAdd, Int.reduceSub, Bool.false_and, Bool.and_false, Bool.true_or, Bool.false_or, Nat.reduceEqDiff, Nat.reduceLT, nay (show ¬ (s.length : Int) < 1 by omega), yes (show (8 : Int) < s.length by omega), nay (show ¬ s.length ≤ 8 by omega), Bool.and_false, Bool.false_and]
    · have e := comp_lets [] [some (.str s)] s.cps.toList
      simp only [List.headD_cons] at e
      simp -implicitDefEqProofs only [fn, start, sSeq, sSet, setAll, sIf, sRet, sNx, sExp, sRaise, sFor, sForT, tE, tAnd, tOr, tNot, tYes, e1, e2, eN, evs, eV, eK, eLst, eTup, eAnd, eOr, eIf, eCut, cbound, eChain, eComp, oAdd_int, oAdd_str, oAdd_lst, oSub_int, oMul_int, oMul_str, oDiv_int, oMod_int, oPow_int, oNeg_int, oLt_int, oLe_int, oGt_int, oGe_int, oEq_int, oNe_int, oEq_str, oNe_str, oEq_bl, oNe_bl, oEq_lst, oNe_lst, oIn_lst, oIn_tup, oIn_dct, oIn_str, oNotIn_lst, oNotIn_dct, oNotIn_str, oIx_lst, oIx_tup, oIx_str, oIx_dct, oCut_lst, oCut_str, truth_bl, truth_int, truth_non, asB_bl, asI_int, oNot_bl, oAttr_ins, oIsNon_non, oNotNon_non, cLen_lst, cLen_tup, cLen_dct, cLen_str, cAll_lst, cSum_lst, cMin_int, cMax_int, cInt_bl, cList_lst, cList_tup, cDict_dct, cTuple_lst, cSorted_lst, cSorted_dct, mUpper_str, mGet_2, mGet_3, mCount_lst, iV_eq, walkV_lst, walkV_tup, keysV_dct, iD_eq, walkV_str, iR_eq, R.bind_ok, R.bind_err, R.bind_no, R.map_ok, R.map_err, R.map_no, on_ok, on_err, on_no, then_nx, then_ret, then_err, then_bk, then_ct, then_no, fin_ret, fin_nx, fin_err, fin_no, ofOpt_some, ofOpt_none, when_true, when_false, List.map_cons, List.map_nil, List.length_cons, List.length_nil, List.getElem?_cons_zero, List.getElem?_cons_succ, List.cons_append, List.nil_append, List.set_cons_zero, List.set_cons_succ, List.length_map, if_true, if_false, Bool.false_eq_true, reduceIte, decide_true, decide_false, Bool.and_true, Bool.true_and, Bool.not_true, Bool.not_false, isK_int_non, isK_int_bl, isK_int_int, isK_int_str, isK_int_tup, isK_int_lst, isK_int_dct, isK_int_exc, isK_int_ins, isK_bl_non, isK_bl_bl, isK_bl_int, isK_bl_str, isK_bl_tup, isK_bl_lst, isK_bl_dct, isK_bl_exc, isK_bl_ins, isK_str_non, isK_str_bl, isK_str_int, isK_str_str, isK_str_tup, isK_str_lst, isK_str_dct, isK_str_exc, isK_str_ins, isK_tup_non, isK_tup_bl, isK_tup_int, isK_tup_str, isK_tup_tup, isK_tup_lst, isK_tup_dct, isK_tup_exc, isK_tup_ins, isK_lst_non, isK_lst_bl, isK_lst_int, isK_lst_str, isK_lst_tup, isK_lst_lst, isK_lst_dct, isK_lst_exc, isK_lst_ins, isK_dct_non, isK_dct_bl, isK_dct_int, isK_dct_str, isK_dct_tup, isK_dct_lst, isK_dct_dct, isK_dct_exc, isK_dct_ins, isC_non, isC_bl, isC_int, isC_str, isC_tup, isC_lst, isC_dct, isC_ins, isC_exc, Int.reduceLT, Int.reduceLE, Nat.reduceLT, Nat.reduceLeDiff, Int.reduceToNat, Int.reduceNeg, Int.reduceEq, Int.reduceBEq, Nat.reduceAdd, Int.reduceAdd, Int.reduceSub, Bool.false_and, Bool.and_false, Bool.true_or, Bool.false_or, Nat.reduceEqDiff, Nat.reduceLT, nay (show ¬ (s.length : Int) < 1 by omega), nay (show ¬ (8 : Int) < s.length by omega), yes (show 1 ≤ s.length by omega), yes (show s.length ≤ 8 by omega), e]
      have hl : s.cps.toList.length < sizeL := by
        have : s.cps.toList.length = s.length := by simp [Str.length]
        rw [this]
        exact Nat.lt_of_le_of_lt h (by decide)
      rw [show (s.cps.toList.map fun c => PV.bl (isLet c)) = (s.cps.toList.map isLet).map PV.bl by simp, yes hl, when_true]
      simp -implicitDefEqProofs only [fn, start, sSeq, sSet, setAll, sIf, sRet, sNx, sExp, sRaise, sFor, sForT, tE, tAnd, tOr, tNot, tYes, e1, e2, eN, evs, eV, eK, eLst, eTup, eAnd, eOr, eIf, eCut, cbound, eChain, eComp, oAdd_int, oAdd_str, oAdd_lst, oSub_int, oMul_int, oMul_str, oDiv_int, oMod_int, oPow_int, oNeg_int, oLt_int, oLe_int, oGt_int, oGe_int, oEq_int, oNe_int, oEq_str, oNe_str, oEq_bl, oNe_bl, oEq_lst, oNe_lst, oIn_lst, oIn_tup, oIn_dct, oIn_str, oNotIn_lst, oNotIn_dct, oNotIn_str, oIx_lst, oIx_tup, oIx_str, oIx_dct, oCut_lst, oCut_str, truth_bl, truth_int, truth_non, asB_bl, asI_int, oNot_bl, oAttr_ins, oIsNon_non, oNotNon_non, cLen_lst, cLen_tup, cLen_dct, cLen_str, cAll_lst, cSum_lst, cMin_int, cMax_int, cInt_bl, cList_lst, cList_tup, cDict_dct, cTuple_lst, cSorted_lst, cSorted_dct, mUpper_str, mGet_2, mGet_3, mCount_lst, iV_eq, walkV_lst, walkV_tup, keysV_dct, iD_eq, walkV_str, iR_eq, R.bind_ok, R.bind_err, R.bind_no, R.map_ok, R.map_err, R.map_no, on_ok, on_err, on_no, then_nx, then_ret, then_err, then_bk, then_ct, then_no, fin_ret, fin_nx, fin_err, fin_no, ofOpt_some, ofOpt_none, when_true, when_false, List.map_cons, List.map_nil, List.length_cons, List.length_nil, List.getElem?_cons_zero, List.getElem?_cons_succ, List.cons_append, List.nil_append, List.set_cons_zero, List.set_cons_succ, List.length_map, if_true, if_false, Bool.false_eq_true, reduceIte, decide_true, decide_false, Bool.and_true, Bool.true_and, Bool.not_true, Bool.not_false, isK_int_non, isK_int_bl, isK_int_int, isK_int_str, isK_int_tup, isK_int_lst, isK_int_dct, isK_int_exc, isK_int_ins, isK_bl_non, isK_bl_bl, isK_bl_int, isK_bl_str, isK_bl_tup, isK_bl_lst, isK_bl_dct, isK_bl_exc, isK_bl_ins, isK_str_non, isK_str_bl, isK_str_int, isK_str_str, isK_str_tup, isK_str_lst, isK_str_dct, isK_str_exc, isK_str_ins, isK_tup_non, isK_tup_bl, isK_tup_int, isK_tup_str, isK_tup_tup, isK_tup_lst, isK_tup_dct, isK_tup_exc, isK_tup_ins, isK_lst_non, isK_lst_bl, isK_lst_int, isK_lst_str, isK_lst_tup, isK_lst_lst, isK_lst_dct, isK_lst_exc, isK_lst_ins, isK_dct_non, isK_dct_bl, isK_dct_int, isK_dct_str, isK_dct_tup, isK_dct_lst, isK_dct_dct, isK_dct_exc, isK_dct_ins, isC_non, isC_bl, isC_int, isC_str, isC_tup, isC_lst, isC_dct, isC_ins, isC_exc, Int.reduceLT, Int.reduceLE, Nat.reduceLT, Nat.reduceLeDiff, Int.reduceToNat, Int.reduceNeg, Int.reduceEq, Int.reduceBEq, Nat.reduceAdd, Int.reduceAdd, Int.reduceSub, Bool.false_and, Bool.and_false, Bool.true_or, Bool.false_or, Nat.reduceEqDiff, Nat.reduceLT, allB_lets]
      simp
theorem due_loop (s : Str) : ∀ (cs : List Nat) (v : Option PV), ∃ v', forL (at_ 1 b__law_due_name_1) (cs.map fun c => .str ⟨#[c]⟩) [some (.str s), v] = if cs.all isLet then .nx [some (.str s), v'] else .ret (.bl false)
  | [], v => ⟨v, rfl⟩
  | c :: r, v => by
    obtain ⟨v', h⟩ := due_loop s r (some (.str ⟨#[c]⟩))
    refine ⟨v', ?_⟩
    rw [List.map_cons]
    unfold forL
    simp -implicitDefEqProofs only [fn, start, sSeq, sSet, setAll, sIf, sRet, sNx, sExp, sRaise, sFor, sForT, tE, tAnd, tOr, tNot, tYes, e1, e2, eN, evs, eV, eK, eLst, eTup, eAnd, eOr, eIf, eCut, cbound, eChain, eComp, oAdd_int, oAdd_str, oAdd_lst, oSub_int, oMul_int, oMul_str, oDiv_int, oMod_int, oPow_int, oNeg_int, oLt_int, oLe_int, oGt_int, oGe_int, oEq_int, oNe_int, oEq_str, oNe_str, oEq_bl, oNe_bl, oEq_lst, oNe_lst, oIn_lst, oIn_tup, oIn_dct, oIn_str, oNotIn_lst, oNotIn_dct, oNotIn_str, oIx_lst, oIx_tup, oIx_str, oIx_dct, oCut_lst, oCut_str, truth_bl, truth_int, truth_non, asB_bl, asI_int, oNot_bl, oAttr_ins, oIsNon_non, oNotNon_non, cLen_lst, cLen_tup, cLen_dct, cLen_str, cAll_lst, cSum_lst, cMin_int, cMax_int, cInt_bl, cList_lst, cList_tup, cDict_dct, cTuple_lst, cSorted_lst, cSorted_dct, mUpper_str, mGet_2, mGet_3, mCount_lst, iV_eq, walkV_lst, walkV_tup, keysV_dct, iD_eq, walkV_str, iR_eq, R.bind_ok, R.bind_err, R.bind_no, R.map_ok, R.map_err, R.map_no, on_ok, on_err, on_no, then_nx, then_ret, then_err, then_bk, then_ct, then_no, fin_ret, fin_nx, fin_err, fin_no, ofOpt_some, ofOpt_none, when_true, when_false, List.map_cons, List.map_nil, List.length_cons, List.length_nil, List.getElem?_cons_zero, List.getElem?_cons_succ, List.cons_append, List.nil_append, List.set_cons_zero, List.set_cons_succ, List.length_map, if_true, if_false, Bool.false_eq_true, reduceIte, decide_true, decide_false, Bool.and_true, Bool.true_and, Bool.not_true, Bool.not_false, isK_int_non, isK_int_bl, isK_int_int, isK_int_str, isK_int_tup, isK_int_lst, isK_int_dct, isK_int_exc, isK_int_ins, isK_bl_non, isK_bl_bl, isK_bl_int, isK_bl_str, isK_bl_tup, isK_bl_lst, isK_bl_dct, isK_bl_exc, isK_bl_ins, isK_str_non, isK_str_bl, isK_str_int, isK_str_str, isK_str_tup, isK_str_lst, isK_str_dct, isK_str_exc, isK_str_ins, isK_tup_non, isK_tup_bl, isK_tup_int, isK_tup_str, isK_tup_tup, isK_tup_lst, isK_tup_dct, isK_tup_exc, isK_tup_ins, isK_lst_non, isK_lst_bl, isK_lst_int, isK_lst_str, isK_lst_tup, isK_lst_lst, isK_lst_dct, isK_lst_exc, isK_lst_ins, isK_dct_non, isK_dct_bl, isK_dct_int, isK_dct_str, isK_dct_tup, isK_dct_lst, isK_dct_dct, isK_dct_exc, isK_dct_ins, isC_non, isC_bl, isC_int, isC_str, isC_tup, isC_lst, isC_dct, isC_ins, isC_exc, Int.reduceLT, Int.reduceLE, Nat.reduceLT, Nat.reduceLeDiff, Int.reduceToNat, Int.reduceNeg, Int.reduceEq, Int.reduceBEq, Nat.reduceAdd, Int.reduceAdd, Int.reduceSub, Bool.false_and, Bool.and_false, Bool.true_or, Bool.false_or, Nat.reduceEqDiff, Nat.reduceLT, at_, b__law_due_name_1, abc_eq]
    rw [show inS ⟨#[c]⟩ abc = isLet c from rfl]
    cases hc : isLet c with
    | true => simp -implicitDefEqProofs only [fn, start, sSeq, sSet, setAll, sIf, sRet, sNx, sExp, sRaise, sFor, sForT, tE, tAnd, tOr, tNot, tYes, e1, e2, eN, evs, eV, eK, eLst, eTup, eAnd, eOr, eIf, eCut, cbound, eChain, eComp, oAdd_int, oAdd_str, oAdd_lst, oSub_int, oMul_int, oMul_str, oDiv_int, oMod_int, oPow_int, oNeg_int, oLt_int, oLe_int, oGt_int, oGe_int, oEq_int, oNe_int, oEq_str, oNe_str, oEq_bl, oNe_bl, oEq_lst, oNe_lst, oIn_lst, oIn_tup, oIn_dct, oIn_str, oNotIn_lst, oNotIn_dct, oNotIn_str, oIx_lst, oIx_tup, oIx_str, oIx_dct, oCut_lst, oCut_str, truth_bl, truth_int, truth_non, asB_bl, asI_int, oNot_bl, oAttr_ins, oIsNon_non, oNotNon_non, cLen_lst, cLen_tup, cLen_dct, cLen_str, cAll_lst, cSum_lst, cMin_int, cMax_int, cInt_bl, cList_lst, cList_tup, cDict_dct, cTuple_lst, cSorted_lst, cSorted_dct, mUpper_str, mGet_2, mGet_3, mCount_lst, iV_eq, walkV_lst, walkV_tup, keysV_dct, iD_eq, walkV_str, iR_eq, R.bind_ok, R.bind_err, R.bind_no, R.map_ok, R.map_err, R.map_no, on_ok, on_err, on_no, then_nx, then_ret, then_err, then_bk, then_ct, then_no, fin_ret, fin_nx, fin_err, fin_no, ofOpt_some, ofOpt_none, when_true, when_false, List.map_cons, List.map_nil, List.length_cons, List.length_nil, List.getElem?_cons_zero, List.getElem?_cons_succ, List.cons_append, List.nil_append, List.set_cons_zero, List.set_cons_succ, List.length_map, if_true, if_false, Bool.false_eq_true, reduceIte, decide_true, decide_false, Bool.and_true, Bool.true_and, Bool.not_true, Bool.not_false, isK_int_non, isK_int_bl, isK_int_int, isK_int_str, isK_int_tup, isK_int_lst, isK_int_dct, isK_int_exc, isK_int_ins, isK_bl_non, isK_bl_bl, isK_bl_int, isK_bl_str, isK_bl_tup, isK_bl_lst, isK_bl_dct, isK_bl_exc, isK_bl_ins, isK_str_non, isK_str_bl, isK_str_int, isK_str_str, isK_str_tup, isK_str_lst, isK_str_dct, isK_str_exc, isK_str_ins, isK_tup_non, isK_tup_bl, isK_tup_int, isK_tup_str, isK_tup_tup, isK_tup_lst, isK_tup_dct, isK_tup_exc, isK_tup_ins, isK_lst_non, isK_lst_bl, isK_lst_int, isK_lst_str, isK_lst_tup, isK_lst_lst, isK_lst_dct, isK_lst_exc, isK_lst_ins, isK_dct_non, isK_dct_bl, isK_dct_int, isK_dct_str, isK_dct_tup, isK_dct_lst, isK_dct_dct, isK_dct_exc, isK_dct_ins, isC_non, isC_bl, isC_int, isC_str, isC_tup, isC_lst, isC_dct, isC_ins, isC_exc, Int.reduceLT, Int.reduceLE, Nat.reduceLT, Nat.reduceLeDiff, Int.reduceToNat, Int.reduceNeg, Int.reduceEq, Int.reduceBEq, Nat.reduceAdd, Int.reduceAdd, Int.reduceSub, Bool.false_and, Bool.and_false, Bool.true_or, Bool.false_or, Nat.reduceEqDiff, Nat.reduceLT, List.all_cons, hc]; exact h
    | false => simp -implicitDefEqProofs only [fn, start, sSeq, sSet, setAll, sIf, sRet, sNx, sExp, sRaise, sFor, sForT, tE, tAnd, tOr, tNot, tYes, e1, e2, eN, evs, eV, eK, eLst, eTup, eAnd, eOr, eIf, eCut, cbound, eChain, eComp, oAdd_int, oAdd_str, oAdd_lst, oSub_int, oMul_int, oMul_str, oDiv_int, oMod_int, oPow_int, oNeg_int, oLt_int, oLe_int, oGt_int, oGe_int, oEq_int, oNe_int, oEq_str, oNe_str, oEq_bl, oNe_bl, oEq_lst, oNe_lst, oIn_lst, oIn_tup, oIn_dct, oIn_str, oNotIn_lst, oNotIn_dct, oNotIn_str, oIx_lst, oIx_tup, oIx_str, oIx_dct, oCut_lst, oCut_str, truth_bl, truth_int, truth_non, asB_bl, asI_int, oNot_bl, oAttr_ins, oIsNon_non, oNotNon_non, cLen_lst, cLen_tup, cLen_dct, cLen_str, cAll_lst, cSum_lst, cMin_int, cMax_int, cInt_bl, cList_lst, cList_tup, cDict_dct, cTuple_lst, cSorted_lst, cSorted_dct, mUpper_str, mGet_2, mGet_3, mCount_lst, iV_eq, walkV_lst, walkV_tup, keysV_dct, iD_eq, walkV_str, iR_eq, R.bind_ok, R.bind_err, R.bind_no, R.map_ok, R.map_err, R.map_no, on_ok, on_err, on_no, then_nx, then_ret, then_err, then_bk, then_ct, then_no, fin_ret, fin_nx, fin_err, fin_no, ofOpt_some, ofOpt_none, when_true, when_false, List.map_cons, List.map_nil, List.length_cons, List.length_nil, List.getElem?_cons_zero, List.getElem?_cons_succ, List.cons_append, List.nil_append, List.set_cons_zero, List.set_cons_succ, List.length_map, if_true, if_false, Bool.false_eq_true, reduceIte, decide_true, decide_false, Bool.and_true, Bool.true_and, Bool.not_true, Bool.not_false, isK_int_non, isK_int_bl, isK_int_int, isK_int_str, isK_int_tup, isK_int_lst, isK_int_dct, isK_int_exc, isK_int_ins, isK_bl_non, isK_bl_bl, isK_bl_int, isK_bl_str, isK_bl_tup, isK_bl_lst, isK_bl_dct, isK_bl_exc, isK_bl_ins, isK_str_non, isK_str_bl, isK_str_int, isK_str_str, isK_str_tup, isK_str_lst, isK_str_dct, isK_str_exc, isK_str_ins, isK_tup_non, isK_tup_bl, isK_tup_int, isK_tup_str, isK_tup_tup, isK_tup_lst, isK_tup_dct, isK_tup_exc, isK_tup_ins, isK_lst_non, isK_lst_bl, isK_lst_int, isK_lst_str, isK_lst_tup, isK_lst_lst, isK_lst_dct, isK_lst_exc, isK_lst_ins, isK_dct_non, isK_dct_bl, isK_dct_int, isK_dct_str, isK_dct_tup, isK_dct_lst, isK_dct_dct, isK_dct_exc, isK_dct_ins, isC_non, isC_bl, isC_int, isC_str, isC_tup, isC_lst, isC_dct, isC_ins, isC_exc, Int.reduceLT, Int.reduceLE, Nat.reduceLT, Nat.reduceLeDiff, Int.reduceToNat, Int.reduceNeg, Int.reduceEq, Int.reduceBEq, Nat.reduceAdd, Int.reduceAdd, Int.reduceSub, Bool.false_and, Bool.and_false, Bool.true_or, Bool.false_or, Nat.reduceEqDiff, Nat.reduceLT, List.all_cons, hc, Bool.false_and]
theorem due_name_str (s : Str) (h : s.length ≤ 40) : f__law_due_name [.str s] = .ok (.bl (nameB s)) := by
  simp -implicitDefEqProofs only [fn, start, sSeq, sSet, setAll, sIf, sRet, sNx, sExp, sRaise, sFor, sForT, tE, tAnd, tOr, tNot, tYes, e1, e2, eN, evs, eV, eK, eLst, eTup, eAnd, eOr, eIf, eCut, cbound, eChain, eComp, oAdd_int, oAdd_str, oAdd_lst, oSub_int, oMul_int, oMul_str, oDiv_int, oMod_int, oPow_int, oNeg_int, oLt_int, oLe_int, oGt_int, oGe_int, oEq_int, oNe_int, oEq_str, oNe_str, oEq_bl, oNe_bl, oEq_lst, oNe_lst, oIn_lst, oIn_tup, oIn_dct, oIn_str, oNotIn_lst, oNotIn_dct, oNotIn_str, oIx_lst, oIx_tup, oIx_str, oIx_dct, oCut_lst, oCut_str, truth_bl, truth_int, truth_non, asB_bl, asI_int, oNot_bl, oAttr_ins, oIsNon_non, oNotNon_non, cLen_lst, cLen_tup, cLen_dct, cLen_str, cAll_lst, cSum_lst, cMin_int, cMax_int, cInt_bl, cList_lst, cList_tup, cDict_dct, cTuple_lst, cSorted_lst, cSorted_dct, mUpper_str, mGet_2, mGet_3, mCount_lst, iV_eq, walkV_lst, walkV_tup, keysV_dct, iD_eq, walkV_str, iR_eq, R.bind_ok, R.bind_err, R.bind_no, R.map_ok, R.map_err, R.map_no, on_ok, on_err, on_no, then_nx, then_ret, then_err, then_bk, then_ct, then_no, fin_ret, fin_nx, fin_err, fin_no, ofOpt_some, ofOpt_none, when_true, when_false, List.map_cons, List.map_nil, List.length_cons, List.length_nil, List.getElem?_cons_zero, List.getElem?_cons_succ, List.cons_append, List.nil_append, List.set_cons_zero, List.set_cons_succ, List.length_map, if_true, if_false, Bool.false_eq_true, reduceIte, decide_true, decide_false, Bool.and_true, Bool.true_and, Bool.not_true, Bool.not_false, isK_int_non, isK_int_bl, isK_int_int, isK_int_str, isK_int_tup, isK_int_lst, isK_int_dct, isK_int_exc, isK_int_ins, isK_bl_non, isK_bl_bl, isK_bl_int, isK_bl_str, isK_bl_tup, isK_bl_lst, isK_bl_dct, isK_bl_exc, isK_bl_ins, isK_str_non, isK_str_bl, isK_str_int, isK_str_str, isK_str_tup, isK_str_lst, isK_str_dct, isK_str_exc, isK_str_ins, isK_tup_non, isK_tup_bl, isK_tup_int, isK_tup_str, isK_tup_tup, isK_tup_lst, isK_tup_dct, isK_tup_exc, isK_tup_ins, isK_lst_non, isK_lst_bl, isK_lst_int, isK_lst_str, isK_lst_tup, isK_lst_lst, isK_lst_dct, isK_lst_exc, isK_lst_ins, isK_dct_non, isK_dct_bl, isK_dct_int, isK_dct_str, isK_dct_tup, isK_dct_lst, isK_dct_dct, isK_dct_exc, isK_dct_ins, isC_non, isC_bl, isC_int, isC_str, isC_tup, isC_lst, isC_dct, isC_ins, isC_exc, Int.reduceLT, Int.reduceLE, Nat.reduceLT, Nat.reduceLeDiff, Int.reduceToNat, Int.reduceNeg, Int.reduceEq, Int.reduceBEq, Nat.reduceAdd, Int.reduceAdd, Int.reduceSub, Bool.false_and, Bool.and_false, Bool.true_or, Bool.false_or, Nat.reduceEqDiff, Nat.reduceLT, f__law_due_name, y__law_due_name, fits (show s.length ≤ 100000 by omega), iV_eq]
  unfold nameB
  by_cases h1 : s = Str.ofString ""
  · subst h1
    simp -implicitDefEqProofs only [fn, start, sSeq, sSet, setAll, sIf, sRet, sNx, sExp, sRaise, sFor, sForT, tE, tAnd, tOr, tNot, tYes, e1, e2, eN, evs, eV, eK, eLst, eTup, eAnd, eOr, eIf, eCut, cbound, eChain, eComp, oAdd_int, oAdd_str, oAdd_lst, oSub_int, oMul_int, oMul_str, oDiv_int, oMod_int, oPow_int, oNeg_int, oLt_int, oLe_int, oGt_int, oGe_int, oEq_int, oNe_int, oEq_str, oNe_str, oEq_bl, oNe_bl, oEq_lst, oNe_lst, oIn_lst, oIn_tup, oIn_dct, oIn_str, oNotIn_lst, oNotIn_dct, oNotIn_str, oIx_lst, oIx_tup, oIx_str, oIx_dct, oCut_lst, oCut_str, truth_bl, truth_int, truth_non, asB_bl, asI_int, oNot_bl, oAttr_ins, oIsNon_non, oNotNon_non, cLen_lst, cLen_tup, cLen_dct, cLen_str, cAll_lst, cSum_lst, cMin_int, cMax_int, cInt_bl, cList_lst, cList_tup, cDict_dct, cTuple_lst, cSorted_lst, cSorted_dct, mUpper_str, mGet_2, mGet_3, mCount_lst, iV_eq, walkV_lst, walkV_tup, keysV_dct, iD_eq, walkV_str, iR_eq, R.bind_ok, R.bind_err, R.bind_no, R.map_ok, R.map_err, R.map_no, on_ok, on_err, on_no, then_nx, then_ret, then_err, then_bk, then_ct, then_no, fin_ret, fin_nx, fin_err, fin_no, ofOpt_some, ofOpt_none, when_true, when_false, List.map_cons, List.map_nil, List.length_cons, List.length_nil, List.getElem?_cons_zero, List.getElem?_cons_succ, List.cons_append, List.nil_append, List.set_cons_zero, List.set_cons_succ, List.length_map, if_true, if_false, Bool.false_eq_true, reduceIte, decide_true, decide_false, Bool.and_true, Bool.true_and, Bool.not_true, Bool.not_false, isK_int_non, isK_int_bl, isK_int_int, isK_int_str, isK_int_tup, isK_int_lst, isK_int_dct, isK_int_exc, isK_int_ins, isK_bl_non, isK_bl_bl, isK_bl_int, isK_bl_str, isK_bl_tup, isK_bl_lst, isK_bl_dct, isK_bl_exc, isK_bl_ins, isK_str_non, isK_str_bl, isK_str_int, isK_str_str, isK_str_tup, isK_str_lst, isK_str_dct, isK_str_exc, isK_str_ins, isK_tup_non, isK_tup_bl, isK_tup_int, isK_tup_str, isK_tup_tup, isK_tup_lst, isK_tup_dct, isK_tup_exc, isK_tup_ins, isK_lst_non, isK_lst_bl, isK_lst_int, isK_lst_str, isK_lst_tup, isK_lst_lst, isK_lst_dct, isK_lst_exc, isK_lst_ins, isK_dct_non, isK_dct_bl, isK_dct_int, isK_dct_str, isK_dct_tup, isK_dct_lst, isK_dct_dct, isK_dct_exc, isK_dct_ins, isC_non, isC_bl, isC_int, isC_str, isC_tup, isC_lst, isC_dct, isC_ins, isC_exc, Int.reduceLT, Int.reduceLE, Nat.reduceLT, Nat.reduceLeDiff, Int.reduceToNat, Int.reduceNeg, Int.reduceEq, Int.reduceBEq, Nat.reduceAdd, Int.reduceAdd, Int.reduceSub, Bool.false_and, Bool.and_false, Bool.true_or, Bool.false_or, Nat.reduceEqDiff, Nat.reduceLT, yes (show Str.ofString "" = Str.ofString "" from rfl), nay (show ¬ 1 ≤ (Str.ofString "").length by decide +kernel), Bool.false_and]
  · have h0 : ¬ s.length = 0 := fun e => h1 (by
      cases s with
      | mk a =>
        have : a = #[] := Array.size_eq_zero_iff.mp e
        subst this
        decide +kernel)
    by_cases h2 : 8 < s.length
    · simp -implicitDefEqProofs only [fn, start, sSeq, sSet, setAll, sIf, sRet, sNx, sExp, sRaise, sFor, sForT, tE, tAnd, tOr, tNot, tYes, e1, e2, eN, evs, eV, eK, eLst, eTup, eAnd, eOr, eIf, eCut, cbound, eChain, eComp, oAdd_int, oAdd_str, oAdd_lst, oSub_int, oMul_int, oMul_str, oDiv_int, oMod_int, oPow_int, oNeg_int, oLt_int, oLe_int, oGt_int, oGe_int, oEq_int, oNe_int, oEq_str, oNe_str, oEq_bl, oNe_bl, oEq_lst, oNe_lst, oIn_lst, oIn_tup, oIn_dct, oIn_str, oNotIn_lst, oNotIn_dct, oNotIn_str, oIx_lst, oIx_tup, oIx_str, oIx_dct, oCut_lst, oCut_str, truth_bl, truth_int, truth_non, asB_bl, asI_int, oNot_bl, oAttr_ins, oIsNon_non, oNotNon_non, cLen_lst, cLen_tup, cLen_dct, cLen_str, cAll_lst, cSum_lst, cMin_int, cMax_int, cInt_bl, cList_lst, cList_tup, cDict_dct, cTuple_lst, cSorted_lst, cSorted_dct, mUpper_str, mGet_2, mGet_3, mCount_lst, iV_eq, walkV_lst, walkV_tup, keysV_dct, iD_eq, walkV_str, iR_eq, R.bind_ok, R.bind_err, R.bind_no, R.map_ok, R.map_err, R.map_no, on_ok, on_err, on_no, then_nx, then_ret, then_err, then_bk, then_ct, then_no, fin_ret, fin_nx, fin_err, fin_no, ofOpt_some, ofOpt_none, when_true, when_false, List.map_cons, List.map_nil, List.length_cons, List.length_nil, List.getElem?_cons_zero, List.getElem?_cons_succ, List.cons_append, List.nil_append, List.set_cons_zero, List.set_cons_succ, List.length_map, if_true, if_false, Bool.false_eq_true, reduceIte, decide_true, decide_false, Bool.and_true, Bool.true_and, Bool.not_true, Bool.not_false, isK_int_non, isK_int_bl, isK_int_int, isK_int_str, isK_int_tup, isK_int_lst, isK_int_dct, isK_int_exc, isK_int_ins, isK_bl_non, isK_bl_bl, isK_bl_int, isK_bl_str, isK_bl_tup, isK_bl_lst, isK_bl_dct, isK_bl_exc, isK_bl_ins, isK_str_non, isK_str_bl, isK_str_int, isK_str_str, isK_str_tup, isK_str_lst, isK_str_dct, isK_str_exc, isK_str_ins, isK_tup_non, isK_tup_bl, isK_tup_int, isK_tup_str, isK_tup_tup, isK_tup_lst, isK_tup_dct, isK_tup_exc, isK_tup_ins, isK_lst_non, isK_lst_bl, isK_lst_int, isK_lst_str, isK_lst_tup, isK_lst_lst, isK_lst_dct, isK_lst_exc, isK_lst_ins, isK_dct_non, isK_dct_bl, isK_dct_int, isK_dct_str, isK_dct_tup, isK_dct_lst, isK_dct_dct, isK_dct_exc, isK_dct_ins, isC_non, isC_bl, isC_int, isC_str, isC_tup, isC_lst, isC_dct, isC_ins, isC_exc, Int.reduceLT, Int.reduceLE, Nat.reduceLT, Nat.reduceLeDiff, Int.reduceToNat, Int.reduceNeg, Int.reduceEq, Int.reduceBEq, Nat.reduceAdd, Int.reduceAdd, Int.reduceSub, Bool.false_and, Bool.and_false, Bool.true_or, Bool.false_or, Nat.reduceEqDiff, Nat.reduceLT, nay h1, yes (show (8 : Int) < s.length by omega), nay (show ¬ s.length ≤ 8 by omega), Bool.and_false, Bool.false_and]
    · obtain ⟨v', e⟩ := due_loop s s.cps.toList none
      simp -implicitDefEqProofs only [fn, start, sSeq, sSet, setAll, sIf, sRet, sNx, sExp, sRaise, sFor, sForT, tE, tAnd, tOr, tNot, tYes, e1, e2, eN, evs, eV, eK, eLst, eTup, eAnd, eOr, eIf, eCut, cbound, eChain, eComp, oAdd_int, oAdd_str, oAdd_lst, oSub_int, oMul_int, oMul_str, oDiv_int, oMod_int, oPow_int, oNeg_int, oLt_int, oLe_int, oGt_int, oGe_int, oEq_int, oNe_int, oEq_str, oNe_str, oEq_bl, oNe_bl, oEq_lst, oNe_lst, oIn_lst, oIn_tup, oIn_dct, oIn_str, oNotIn_lst, oNotIn_dct, oNotIn_str, oIx_lst, oIx_tup, oIx_str, oIx_dct, oCut_lst, oCut_str, truth_bl, truth_int, truth_non, asB_bl, asI_int, oNot_bl, oAttr_ins, oIsNon_non, oNotNon_non, cLen_lst, cLen_tup, cLen_dct, cLen_str, cAll_lst, cSum_lst, cMin_int, cMax_int, cInt_bl, cList_lst, cList_tup, cDict_dct, cTuple_lst, cSorted_lst, cSorted_dct, mUpper_str, mGet_2, mGet_3, mCount_lst, iV_eq, walkV_lst, walkV_tup, keysV_dct, iD_eq, walkV_str, iR_eq, R.bind_ok, R.bind_err, R.bind_no, R.map_ok, R.map_err, R.map_no, on_ok, on_err, on_no, then_nx, then_ret, then_err, then_bk, then_ct, then_no, fin_ret, fin_nx, fin_err, fin_no, ofOpt_some, ofOpt_none, when_true, when_false, List.map_cons, List.map_nil, List.length_cons, List.length_nil, List.getElem?_cons_zero, List.getElem?_cons_succ, List.cons_append, List.nil_append, List.set_cons_zero, List.set_cons_succ, List.length_map, if_true, if_false, Bool.false_eq_true, reduceIte, decide_true, decide_false, Bool.and_true, Bool.true_and, Bool.not_true, Bool.not_false, isK_int_non, isK_int_bl, isK_int_int, isK_int_str, isK_int_tup, isK_int_lst, isK_int_dct, isK_int_exc, isK_int_ins, isK_bl_non, isK_bl_bl, isK_bl_int, isK_bl_str, isK_bl_tup, isK_bl_lst, isK_bl_dct, isK_bl_exc, isK_bl_ins, isK_str_non, isK_str_bl, isK_str_int, isK_str_str, isK_str_tup, isK_str_lst, isK_str_dct, isK_str_exc, isK_str_ins, isK_tup_non, isK_tup_bl, isK_tup_int, isK_tup_str, isK_tup_tup, isK_tup_lst, isK_tup_dct, isK_tup_exc, isK_tup_ins, isK_lst_non, isK_lst_bl, isK_lst_int, isK_lst_str, isK_lst_tup, isK_lst_lst, isK_lst_dct, isK_lst_exc, isK_lst_ins, isK_dct_non, isK_dct_bl, isK_dct_int, isK_dct_str, isK_dct_tup, isK_dct_lst, isK_dct_dct, isK_dct_exc, isK_dct_ins, isC_non, isC_bl, isC_int, isC_str, isC_tup, isC_lst, isC_dct, isC_ins, isC_exc, Int.reduceLT, Int.reduceLE, Nat.reduceLT, Nat.reduceLeDiff, Int.reduceToNat, Int.reduceNeg, Int.reduceEq, Int.reduceBEq, Nat.reduceAdd, Int.reduceAdd, Int.reduceSub, Bool.false_and, Bool.and_false, Bool.true_or, Bool.false_or, Nat.reduceEqDiff, Nat.reduceLT, nay h1, nay (show ¬ (8 : Int) < s.length by omega), yes (show 1 ≤ s.length by omega), yes (show s.length ≤ 8 by omega), e]
      cases s.cps.toList.all isLet <;> simp -implicitDefEqProofs only [fn, start, sSeq, sSet, setAll, sIf, sRet, sNx, sExp, sRaise, sFor, sForT, tE, tAnd, tOr, tNot, tYes, e1, e2, eN, evs, eV, eK, eLst, eTup, eAnd, eOr, eIf, eCut, cbound, eChain, eComp, oAdd_int, oAdd_str, oAdd_lst, oSub_int, oMul_int, oMul_str, oDiv_int, oMod_int, oPow_int, oNeg_int, oLt_int, oLe_int, oGt_int, oGe_int, oEq_int, oNe_int, oEq_str, oNe_str, oEq_bl, oNe_bl, oEq_lst, oNe_lst, oIn_lst, oIn_tup, oIn_dct, oIn_str, oNotIn_lst, oNotIn_dct, oNotIn_str, oIx_lst, oIx_tup, oIx_str, oIx_dct, oCut_lst, oCut_str, truth_bl, truth_int, truth_non, asB_bl, asI_int, oNot_bl, oAttr_ins, oIsNon_non, oNotNon_non, cLen_lst, cLen_tup, cLen_dct, cLen_str, cAll_lst, cSum_lst, cMin_int, cMax_int, cInt_bl, cList_lst, cList_tup, cDict_dct, cTuple_lst, cSorted_lst, cSorted_dct, mUpper_str, mGet_2, mGet_3, mCount_lst, iV_eq, walkV_lst, walkV_tup, keysV_dct, iD_eq, walkV_str, iR_eq, R.bind_ok, R.bind_err, R.bind_no, R.map_ok, R.map_err, R.map_no, on_ok, on_err, on_no, then_nx, then_ret, then_err, then_bk, then_ct, then_no, fin_ret, fin_nx, fin_err, fin_no, ofOpt_some, ofOpt_none, when_true, when_false, List.map_cons, List.map_nil, List.length_cons, List.length_nil, List.getElem?_cons_zero, List.getElem?_cons_succ, List.cons_append, List.nil_append, List.set_cons_zero, List.set_cons_succ, List.length_map, if_true, if_false, Bool.false_eq_true, reduceIte, decide_true, decide_false, Bool.and_true, Bool.true_and, Bool.not_true, Bool.not_false, isK_int_non, isK_int_bl, isK_int_int, isK_int_str, isK_int_tup, isK_int_lst, isK_int_dct, isK_int_exc, isK_int_ins, isK_bl_non, isK_bl_bl, isK_bl_int, isK_bl_str, isK_bl_tup, isK_bl_lst, isK_bl_dct, isK_bl_exc, isK_bl_ins, isK_str_non, isK_str_bl, isK_str_int, isK_str_str, isK_str_tup, isK_str_lst, isK_str_dct, isK_str_exc, isK_str_ins, isK_tup_non, isK_tup_bl, isK_tup_int, isK_tup_str, isK_tup_tup, isK_tup_lst, isK_tup_dct, isK_tup_exc, isK_tup_ins, isK_lst_non, isK_lst_bl, isK_lst_int, isK_lst_str, isK_lst_tup, isK_lst_lst, isK_lst_dct, isK_lst_exc, isK_lst_ins, isK_dct_non, isK_dct_bl, isK_dct_int, isK_dct_str, isK_dct_tup, isK_dct_lst, isK_dct_dct, isK_dct_exc, isK_dct_ins, isC_non, isC_bl, isC_int, isC_str, isC_tup, isC_lst, isC_dct, isC_ins, isC_exc, Int.reduceLT, Int.reduceLE, Nat.reduceLT, Nat.reduceLeDiff, Int.reduceToNat, Int.reduceNeg, Int.reduceEq, Int.reduceBEq, Nat.reduceAdd, Int.reduceAdd, Int.reduceSub, Bool.false_and, Bool.and_false, Bool.true_or, Bool.false_or, Nat.reduceEqDiff, Nat.reduceLT]

/-- the first answers of the law and of the program, of a thing -/
theorem names_same (x : PV) (h : Thing x) : ∃ b, f_is_name [x] = .ok (.bl b) ∧ f__law_due_name [x] = .ok (.bl b) := by
  cases x with
  | str s => exact ⟨_, is_name_str s h, due_name_str s h⟩
  | ins c fs => exact h.elim
  | exc c => exact h.elim
  | _ => exact ⟨false, rfl, rfl⟩
theorem p60 : oPow (.int 10) (.int 60) = .ok (.int (10 ^ 60)) := rfl
theorem p59 : oPow (.int 10) (.int 59) = .ok (.int (10 ^ 59)) := rfl
theorem r3 : rngV (.int 0) (.int 3) (.int 1) = .ok [.int 0, .int 1, .int 2] := rfl
theorem whole_int (i : Int) : f_is_whole [.int i] = .ok (.bl true) := rfl
theorem amount_int (i : Int) : f_is_amount [.int i] = .ok (.bl (decide (0 < i) && decide (i < 10 ^ 60))) := by
  simp -implicitDefEqProofs only [fn, start, sSeq, sSet, setAll, sIf, sRet, sNx, sExp, sRaise, sFor, sForT, tE, tAnd, tOr, tNot, tYes, e1, e2, eN, evs, eV, eK, eLst, eTup, eAnd, eOr, eIf, eCut, cbound, eChain, eComp, oAdd_int, oAdd_str, oAdd_lst, oSub_int, oMul_int, oMul_str, oDiv_int, oMod_int, oPow_int, oNeg_int, oLt_int, oLe_int, oGt_int, oGe_int, oEq_int, oNe_int, oEq_str, oNe_str, oEq_bl, oNe_bl, oEq_lst, oNe_lst, oIn_lst, oIn_tup, oIn_dct, oIn_str, oNotIn_lst, oNotIn_dct, oNotIn_str, oIx_lst, oIx_tup, oIx_str, oIx_dct, oCut_lst, oCut_str, truth_bl, truth_int, truth_non, asB_bl, asI_int, oNot_bl, oAttr_ins, oIsNon_non, oNotNon_non, cLen_lst, cLen_tup, cLen_dct, cLen_str, cAll_lst, cSum_lst, cMin_int, cMax_int, cInt_bl, cList_lst, cList_tup, cDict_dct, cTuple_lst, cSorted_lst, cSorted_dct, mUpper_str, mGet_2, mGet_3, mCount_lst, iV_eq, walkV_lst, walkV_tup, keysV_dct, iD_eq, walkV_str, iR_eq, R.bind_ok, R.bind_err, R.bind_no, R.map_ok, R.map_err, R.map_no, on_ok, on_err, on_no, then_nx, then_ret, then_err, then_bk, then_ct, then_no, fin_ret, fin_nx, fin_err, fin_no, ofOpt_some, ofOpt_none, when_true, when_false, List.map_cons, List.map_nil, List.length_cons, List.length_nil, List.getElem?_cons_zero, List.getElem?_cons_succ, List.cons_append, List.nil_append, List.set_cons_zero, List.set_cons_succ, List.length_map, if_true, if_false, Bool.false_eq_true, reduceIte, decide_true, decide_false, Bool.and_true, Bool.true_and, Bool.not_true, Bool.not_false, isK_int_non, isK_int_bl, isK_int_int, isK_int_str, isK_int_tup, isK_int_lst, isK_int_dct, isK_int_exc, isK_int_ins, isK_bl_non, isK_bl_bl, isK_bl_int, isK_bl_str, isK_bl_tup, isK_bl_lst, isK_bl_dct, isK_bl_exc, isK_bl_ins, isK_str_non, isK_str_bl, isK_str_int, isK_str_str, isK_str_tup, isK_str_lst, isK_str_dct, isK_str_exc, isK_str_ins, isK_tup_non, isK_tup_bl, isK_tup_int, isK_tup_str, isK_tup_tup, isK_tup_lst, isK_tup_dct, isK_tup_exc, isK_tup_ins, isK_lst_non, isK_lst_bl, isK_lst_int, isK_lst_str, isK_lst_tup, isK_lst_lst, isK_lst_dct, isK_lst_exc, isK_lst_ins, isK_dct_non, isK_dct_bl, isK_dct_int, isK_dct_str, isK_dct_tup, isK_dct_lst, isK_dct_dct, isK_dct_exc, isK_dct_ins, isC_non, isC_bl, isC_int, isC_str, isC_tup, isC_lst, isC_dct, isC_ins, isC_exc, Int.reduceLT, Int.reduceLE, Nat.reduceLT, Nat.reduceLeDiff, Int.reduceToNat, Int.reduceNeg, Int.reduceEq, Int.reduceBEq, Nat.reduceAdd, Int.reduceAdd, Int.reduceSub, Bool.false_and, Bool.and_false, Bool.true_or, Bool.false_or, Nat.reduceEqDiff, Nat.reduceLT, f_is_amount, y_is_amount, whole_int, p60]
  by_cases h : 0 < i
  · simp -implicitDefEqProofs only [fn, start, sSeq, sSet, setAll, sIf, sRet, sNx, sExp, sRaise, sFor, sForT, tE, tAnd, tOr, tNot, tYes, e1, e2, eN, evs, eV, eK, eLst, eTup, eAnd, eOr, eIf, eCut, cbound, eChain, eComp, oAdd_int, oAdd_str, oAdd_lst, oSub_int, oMul_int, oMul_str, oDiv_int, oMod_int, oPow_int, oNeg_int, oLt_int, oLe_int, oGt_int, oGe_int, oEq_int, oNe_int, oEq_str, oNe_str, oEq_bl, oNe_bl, oEq_lst, oNe_lst, oIn_lst, oIn_tup, oIn_dct, oIn_str, oNotIn_lst, oNotIn_dct, oNotIn_str, oIx_lst, oIx_tup, oIx_str, oIx_dct, oCut_lst, oCut_str, truth_bl, truth_int, truth_non, asB_bl, asI_int, oNot_bl, oAttr_ins, oIsNon_non, oNotNon_non, cLen_lst, cLen_tup, cLen_dct, cLen_str, cAll_lst, cSum_lst, cMin_int, cMax_int, cInt_bl, cList_lst, cList_tup, cDict_dct, cTuple_lst, cSorted_lst, cSorted_dct, mUpper_str, mGet_2, mGet_3, mCount_lst, iV_eq, walkV_lst, walkV_tup, keysV_dct, iD_eq, walkV_str, iR_eq, R.bind_ok, R.bind_err, R.bind_no, R.map_ok, R.map_err, R.map_no, on_ok, on_err, on_no, then_nx, then_ret, then_err, then_bk, then_ct, then_no, fin_ret, fin_nx, fin_err, fin_no, ofOpt_some, ofOpt_none, when_true, when_false, List.map_cons, List.map_nil, List.length_cons, List.length_nil, List.getElem?_cons_zero, List.getElem?_cons_succ, List.cons_append, List.nil_append, List.set_cons_zero, List.set_cons_succ, List.length_map, if_true, if_false, Bool.false_eq_true, reduceIte, decide_true, decide_false, Bool.and_true, Bool.true_and, Bool.not_true, Bool.not_false, isK_int_non, isK_int_bl, isK_int_int, isK_int_str, isK_int_tup, isK_int_lst, isK_int_dct, isK_int_exc, isK_int_ins, isK_bl_non, isK_bl_bl, isK_bl_int, isK_bl_str, isK_bl_tup, isK_bl_lst, isK_bl_dct, isK_bl_exc, isK_bl_ins, isK_str_non, isK_str_bl, isK_str_int, isK_str_str, isK_str_tup, isK_str_lst, isK_str_dct, isK_str_exc, isK_str_ins, isK_tup_non, isK_tup_bl, isK_tup_int, isK_tup_str, isK_tup_tup, isK_tup_lst, isK_tup_dct, isK_tup_exc, isK_tup_ins, isK_lst_non, isK_lst_bl, isK_lst_int, isK_lst_str, isK_lst_tup, isK_lst_lst, isK_lst_dct, isK_lst_exc, isK_lst_ins, isK_dct_non, isK_dct_bl, isK_dct_int, isK_dct_str, isK_dct_tup, isK_dct_lst, isK_dct_dct, isK_dct_exc, isK_dct_ins, isC_non, isC_bl, isC_int, isC_str, isC_tup, isC_lst, isC_dct, isC_ins, isC_exc, Int.reduceLT, Int.reduceLE, Nat.reduceLT, Nat.reduceLeDiff, Int.reduceToNat, Int.reduceNeg, Int.reduceEq, Int.reduceBEq, Nat.reduceAdd, Int.reduceAdd, Int.reduceSub, Bool.false_and, Bool.and_false, Bool.true_or, Bool.false_or, Nat.reduceEqDiff, Nat.reduceLT, yes (show (1 : Int) ≤ i by omega), yes h]
  · simp -implicitDefEqProofs only [fn, start, sSeq, sSet, setAll, sIf, sRet, sNx, sExp, sRaise, sFor, sForT, tE, tAnd, tOr, tNot, tYes, e1, e2, eN, evs, eV, eK, eLst, eTup, eAnd, eOr, eIf, eCut, cbound, eChain, eComp, oAdd_int, oAdd_str, oAdd_lst, oSub_int, oMul_int, oMul_str, oDiv_int, oMod_int, oPow_int, oNeg_int, oLt_int, oLe_int, oGt_int, oGe_int, oEq_int, oNe_int, oEq_str, oNe_str, oEq_bl, oNe_bl, oEq_lst, oNe_lst, oIn_lst, oIn_tup, oIn_dct, oIn_str, oNotIn_lst, oNotIn_dct, oNotIn_str, oIx_lst, oIx_tup, oIx_str, oIx_dct, oCut_lst, oCut_str, truth_bl, truth_int, truth_non, asB_bl, asI_int, oNot_bl, oAttr_ins, oIsNon_non, oNotNon_non, cLen_lst, cLen_tup, cLen_dct, cLen_str, cAll_lst, cSum_lst, cMin_int, cMax_int, cInt_bl, cList_lst, cList_tup, cDict_dct, cTuple_lst, cSorted_lst, cSorted_dct, mUpper_str, mGet_2, mGet_3, mCount_lst, iV_eq, walkV_lst, walkV_tup, keysV_dct, iD_eq, walkV_str, iR_eq, R.bind_ok, R.bind_err, R.bind_no, R.map_ok, R.map_err, R.map_no, on_ok, on_err, on_no, then_nx, then_ret, then_err, then_bk, then_ct, then_no, fin_ret, fin_nx, fin_err, fin_no, ofOpt_some, ofOpt_none, when_true, when_false, List.map_cons, List.map_nil, List.length_cons, List.length_nil, List.getElem?_cons_zero, List.getElem?_cons_succ, List.cons_append, List.nil_append, List.set_cons_zero, List.set_cons_succ, List.length_map, if_true, if_false, Bool.false_eq_true, reduceIte, decide_true, decide_false, Bool.and_true, Bool.true_and, Bool.not_true, Bool.not_false, isK_int_non, isK_int_bl, isK_int_int, isK_int_str, isK_int_tup, isK_int_lst, isK_int_dct, isK_int_exc, isK_int_ins, isK_bl_non, isK_bl_bl, isK_bl_int, isK_bl_str, isK_bl_tup, isK_bl_lst, isK_bl_dct, isK_bl_exc, isK_bl_ins, isK_str_non, isK_str_bl, isK_str_int, isK_str_str, isK_str_tup, isK_str_lst, isK_str_dct, isK_str_exc, isK_str_ins, isK_tup_non, isK_tup_bl, isK_tup_int, isK_tup_str, isK_tup_tup, isK_tup_lst, isK_tup_dct, isK_tup_exc, isK_tup_ins, isK_lst_non, isK_lst_bl, isK_lst_int, isK_lst_str, isK_lst_tup, isK_lst_lst, isK_lst_dct, isK_lst_exc, isK_lst_ins, isK_dct_non, isK_dct_bl, isK_dct_int, isK_dct_str, isK_dct_tup, isK_dct_lst, isK_dct_dct, isK_dct_exc, isK_dct_ins, isC_non, isC_bl, isC_int, isC_str, isC_tup, isC_lst, isC_dct, isC_ins, isC_exc, Int.reduceLT, Int.reduceLE, Nat.reduceLT, Nat.reduceLeDiff, Int.reduceToNat, Int.reduceNeg, Int.reduceEq, Int.reduceBEq, Nat.reduceAdd, Int.reduceAdd, Int.reduceSub, Bool.false_and, Bool.and_false, Bool.true_or, Bool.false_or, Nat.reduceEqDiff, Nat.reduceLT, nay (show ¬ (1 : Int) ≤ i by omega), nay h, Bool.false_and]
theorem line_int (i : Int) : f_is_line [.int i] = .ok (.bl (decide (0 ≤ i) && decide (i < 10 ^ 59))) := by
  simp -implicitDefEqProofs only [fn, start, sSeq, sSet, setAll, sIf, sRet, sNx, sExp, sRaise, sFor, sForT, tE, tAnd, tOr, tNot, tYes, e1, e2, eN, evs, eV, eK, eLst, eTup, eAnd, eOr, eIf, eCut, cbound, eChain, eComp, oAdd_int, oAdd_str, oAdd_lst, oSub_int, oMul_int, oMul_str, oDiv_int, oMod_int, oPow_int, oNeg_int, oLt_int, oLe_int, oGt_int, oGe_int, oEq_int, oNe_int, oEq_str, oNe_str, oEq_bl, oNe_bl, oEq_lst, oNe_lst, oIn_lst, oIn_tup, oIn_dct, oIn_str, oNotIn_lst, oNotIn_dct, oNotIn_str, oIx_lst, oIx_tup, oIx_str, oIx_dct, oCut_lst, oCut_str, truth_bl, truth_int, truth_non, asB_bl, asI_int, oNot_bl, oAttr_ins, oIsNon_non, oNotNon_non, cLen_lst, cLen_tup, cLen_dct, cLen_str, cAll_lst, cSum_lst, cMin_int, cMax_int, cInt_bl, cList_lst, cList_tup, cDict_dct, cTuple_lst, cSorted_lst, cSorted_dct, mUpper_str, mGet_2, mGet_3, mCount_lst, iV_eq, walkV_lst, walkV_tup, keysV_dct, iD_eq, walkV_str, iR_eq, R.bind_ok, R.bind_err, R.bind_no, R.map_ok, R.map_err, R.map_no, on_ok, on_err, on_no, then_nx, then_ret, then_err, then_bk, then_ct, then_no, fin_ret, fin_nx, fin_err, fin_no, ofOpt_some, ofOpt_none, when_true, when_false, List.map_cons, List.map_nil, List.length_cons, List.length_nil, List.getElem?_cons_zero, List.getElem?_cons_succ, List.cons_append, List.nil_append, List.set_cons_zero, List.set_cons_succ, List.length_map, if_true, if_false, Bool.false_eq_true, reduceIte, decide_true, decide_false, Bool.and_true, Bool.true_and, Bool.not_true, Bool.not_false, isK_int_non, isK_int_bl, isK_int_int, isK_int_str, isK_int_tup, isK_int_lst, isK_int_dct, isK_int_exc, isK_int_ins, isK_bl_non, isK_bl_bl, isK_bl_int, isK_bl_str, isK_bl_tup, isK_bl_lst, isK_bl_dct, isK_bl_exc, isK_bl_ins, isK_str_non, isK_str_bl, isK_str_int, isK_str_str, isK_str_tup, isK_str_lst, isK_str_dct, isK_str_exc, isK_str_ins, isK_tup_non, isK_tup_bl, isK_tup_int, isK_tup_str, isK_tup_tup, isK_tup_lst, isK_tup_dct, isK_tup_exc, isK_tup_ins, isK_lst_non, isK_lst_bl, isK_lst_int, isK_lst_str, isK_lst_tup, isK_lst_lst, isK_lst_dct, isK_lst_exc, isK_lst_ins, isK_dct_non, isK_dct_bl, isK_dct_int, isK_dct_str, isK_dct_tup, isK_dct_lst, isK_dct_dct, isK_dct_exc, isK_dct_ins, isC_non, isC_bl, isC_int, isC_str, isC_tup, isC_lst, isC_dct, isC_ins, isC_exc, Int.reduceLT, Int.reduceLE, Nat.reduceLT, Nat.reduceLeDiff, Int.reduceToNat, Int.reduceNeg, Int.reduceEq, Int.reduceBEq, Nat.reduceAdd, Int.reduceAdd, Int.reduceSub, Bool.false_and, Bool.and_false, Bool.true_or, Bool.false_or, Nat.reduceEqDiff, Nat.reduceLT, f_is_line, y_is_line, whole_int, p59]
  by_cases h : 0 ≤ i
  · simp -implicitDefEqProofs only [fn, start, sSeq, sSet, setAll, sIf, sRet, sNx, sExp, sRaise, sFor, sForT, tE, tAnd, tOr, tNot, tYes, e1, e2, eN, evs, eV, eK, eLst, eTup, eAnd, eOr, eIf, eCut, cbound, eChain, eComp, oAdd_int, oAdd_str, oAdd_lst, oSub_int, oMul_int, oMul_str, oDiv_int, oMod_int, oPow_int, oNeg_int, oLt_int, oLe_int, oGt_int, oGe_int, oEq_int, oNe_int, oEq_str, oNe_str, oEq_bl, oNe_bl, oEq_lst, oNe_lst, oIn_lst, oIn_tup, oIn_dct, oIn_str, oNotIn_lst, oNotIn_dct, oNotIn_str, oIx_lst, oIx_tup, oIx_str, oIx_dct, oCut_lst, oCut_str, truth_bl, truth_int, truth_non, asB_bl, asI_int, oNot_bl, oAttr_ins, oIsNon_non, oNotNon_non, cLen_lst, cLen_tup, cLen_dct, cLen_str, cAll_lst, cSum_lst, cMin_int, cMax_int, cInt_bl, cList_lst, cList_tup, cDict_dct, cTuple_lst, cSorted_lst, cSorted_dct, mUpper_str, mGet_2, mGet_3, mCount_lst, iV_eq, walkV_lst, walkV_tup, keysV_dct, iD_eq, walkV_str, iR_eq, R.bind_ok, R.bind_err, R.bind_no, R.map_ok, R.map_err, R.map_no, on_ok, on_err, on_no, then_nx, then_ret, then_err, then_bk, then_ct, then_no, fin_ret, fin_nx, fin_err, fin_no, ofOpt_some, ofOpt_none, when_true, when_false, List.map_cons, List.map_nil, List.length_cons, List.length_nil, List.getElem?_cons_zero, List.getElem?_cons_succ, List.cons_append, List.nil_append, List.set_cons_zero, List.set_cons_succ, List.length_map, if_true, if_false, Bool.false_eq_true, reduceIte, decide_true, decide_false, Bool.and_true, Bool.true_and, Bool.not_true, Bool.not_false, isK_int_non, isK_int_bl, isK_int_int, isK_int_str, isK_int_tup, isK_int_lst, isK_int_dct, isK_int_exc, isK_int_ins, isK_bl_non, isK_bl_bl, isK_bl_int, isK_bl_str, isK_bl_tup, isK_bl_lst, isK_bl_dct, isK_bl_exc, isK_bl_ins, isK_str_non, isK_str_bl, isK_str_int, isK_str_str, isK_str_tup, isK_str_lst, isK_str_dct, isK_str_exc, isK_str_ins, isK_tup_non, isK_tup_bl, isK_tup_int, isK_tup_str, isK_tup_tup, isK_tup_lst, isK_tup_dct, isK_tup_exc, isK_tup_ins, isK_lst_non, isK_lst_bl, isK_lst_int, isK_lst_str, isK_lst_tup, isK_lst_lst, isK_lst_dct, isK_lst_exc, isK_lst_ins, isK_dct_non, isK_dct_bl, isK_dct_int, isK_dct_str, isK_dct_tup, isK_dct_lst, isK_dct_dct, isK_dct_exc, isK_dct_ins, isC_non, isC_bl, isC_int, isC_str, isC_tup, isC_lst, isC_dct, isC_ins, isC_exc, Int.reduceLT, Int.reduceLE, Nat.reduceLT, Nat.reduceLeDiff, Int.reduceToNat, Int.reduceNeg, Int.reduceEq, Int.reduceBEq, Nat.reduceAdd, Int.reduceAdd, Int.reduceSub, Bool.false_and, Bool.and_false, Bool.true_or, Bool.false_or, Nat.reduceEqDiff, Nat.reduceLT, yes h]
  · simp -implicitDefEqProofs only [fn, start, sSeq, sSet, setAll, sIf, sRet, sNx, sExp, sRaise, sFor, sForT, tE, tAnd, tOr, tNot, tYes, e1, e2, eN, evs, eV, eK, eLst, eTup, eAnd, eOr, eIf, eCut, cbound, eChain, eComp, oAdd_int, oAdd_str, oAdd_lst, oSub_int, oMul_int, oMul_str, oDiv_int, oMod_int, oPow_int, oNeg_int, oLt_int, oLe_int, oGt_int, oGe_int, oEq_int, oNe_int, oEq_str, oNe_str, oEq_bl, oNe_bl, oEq_lst, oNe_lst, oIn_lst, oIn_tup, oIn_dct, oIn_str, oNotIn_lst, oNotIn_dct, oNotIn_str, oIx_lst, oIx_tup, oIx_str, oIx_dct, oCut_lst, oCut_str, truth_bl, truth_int, truth_non, asB_bl, asI_int, oNot_bl, oAttr_ins, oIsNon_non, oNotNon_non, cLen_lst, cLen_tup, cLen_dct, cLen_str, cAll_lst, cSum_lst, cMin_int, cMax_int, cInt_bl, cList_lst, cList_tup, cDict_dct, cTuple_lst, cSorted_lst, cSorted_dct, mUpper_str, mGet_2, mGet_3, mCount_lst, iV_eq, walkV_lst, walkV_tup, keysV_dct, iD_eq, walkV_str, iR_eq, R.bind_ok, R.bind_err, R.bind_no, R.map_ok, R.map_err, R.map_no, on_ok, on_err, on_no, then_nx, then_ret, then_err, then_bk, then_ct, then_no, fin_ret, fin_nx, fin_err, fin_no, ofOpt_some, ofOpt_none, when_true, when_false, List.map_cons, List.map_nil, List.length_cons, List.length_nil, List.getElem?_cons_zero, List.getElem?_cons_succ, List.cons_append, List.nil_append, List.set_cons_zero, List.set_cons_succ, List.length_map, if_true, if_false, Bool.false_eq_true, reduceIte, decide_true, decide_false, Bool.and_true, Bool.true_and, Bool.not_true, Bool.not_false, isK_int_non, isK_int_bl, isK_int_int, isK_int_str, isK_int_tup, isK_int_lst, isK_int_dct, isK_int_exc, isK_int_ins, isK_bl_non, isK_bl_bl, isK_bl_int, isK_bl_str, isK_bl_tup, isK_bl_lst, isK_bl_dct, isK_bl_exc, isK_bl_ins, isK_str_non, isK_str_bl, isK_str_int, isK_str_str, isK_str_tup, isK_str_lst, isK_str_dct, isK_str_exc, isK_str_ins, isK_tup_non, isK_tup_bl, isK_tup_int, isK_tup_str, isK_tup_tup, isK_tup_lst, isK_tup_dct, isK_tup_exc, isK_tup_ins, isK_lst_non, isK_lst_bl, isK_lst_int, isK_lst_str, isK_lst_tup, isK_lst_lst, isK_lst_dct, isK_lst_exc, isK_lst_ins, isK_dct_non, isK_dct_bl, isK_dct_int, isK_dct_str, isK_dct_tup, isK_dct_lst, isK_dct_dct, isK_dct_exc, isK_dct_ins, isC_non, isC_bl, isC_int, isC_str, isC_tup, isC_lst, isC_dct, isC_ins, isC_exc, Int.reduceLT, Int.reduceLE, Nat.reduceLT, Nat.reduceLeDiff, Int.reduceToNat, Int.reduceNeg, Int.reduceEq, Int.reduceBEq, Nat.reduceAdd, Int.reduceAdd, Int.reduceSub, Bool.false_and, Bool.and_false, Bool.true_or, Bool.false_or, Nat.reduceEqDiff, Nat.reduceLT, nay h, Bool.false_and]
/-- the last loop: three answers that are alike -/
theorem last_loop (a b c : Bool) (x y w : Option PV) : forL (at_ 5 b_law_1) [.int 0, .int 1, .int 2] [x, y, w, some (.lst [.bl a, .bl b, .bl c]), some (.lst [.bl a, .bl b, .bl c]), none] = .nx [x, y, w, some (.lst [.bl a, .bl b, .bl c]), some (.lst [.bl a, .bl b, .bl c]), some (.int 2)] := by
  have a0 : atI [PV.bl a, .bl b, .bl c] 0 = some (.bl a) := rfl
  have a1 : atI [PV.bl a, .bl b, .bl c] 1 = some (.bl b) := rfl
  have a2 : atI [PV.bl a, .bl b, .bl c] 2 = some (.bl c) := rfl
  simp -implicitDefEqProofs only [fn, start, sSeq, sSet, setAll, sIf, sRet, sNx, sExp, sRaise, sFor, sForT, tE, tAnd, tOr, tNot, tYes, e1, e2, eN, evs, eV, eK, eLst, eTup, eAnd, eOr, eIf, eCut, cbound, eChain, eComp, oAdd_int, oAdd_str, oAdd_lst, oSub_int, oMul_int, oMul_str, oDiv_int, oMod_int, oPow_int, oNeg_int, oLt_int, oLe_int, oGt_int, oGe_int, oEq_int, oNe_int, oEq_str, oNe_str, oEq_bl, oNe_bl, oEq_lst, oNe_lst, oIn_lst, oIn_tup, oIn_dct, oIn_str, oNotIn_lst, oNotIn_dct, oNotIn_str, oIx_lst, oIx_tup, oIx_str, oIx_dct, oCut_lst, oCut_str, truth_bl, truth_int, truth_non, asB_bl, asI_int, oNot_bl, oAttr_ins, oIsNon_non, oNotNon_non, cLen_lst, cLen_tup, cLen_dct, cLen_str, cAll_lst, cSum_lst, cMin_int, cMax_int, cInt_bl, cList_lst, cList_tup, cDict_dct, cTuple_lst, cSorted_lst, cSorted_dct, mUpper_str, mGet_2, mGet_3, mCount_lst, iV_eq, walkV_lst, walkV_tup, keysV_dct, iD_eq, walkV_str, iR_eq, R.bind_ok, R.bind_err, R.bind_no, R.map_ok, R.map_err, R.map_no, on_ok, on_err, on_no, then_nx, then_ret, then_err, then_bk, then_ct, then_no, fin_ret, fin_nx, fin_err, fin_no, ofOpt_some, ofOpt_none, when_true, when_false, List.map_cons, List.map_nil, List.length_cons, List.length_nil, List.getElem?_cons_zero, List.getElem?_cons_succ, List.cons_append, List.nil_append, List.set_cons_zero, List.set_cons_succ, List.length_map, if_true, if_false, Bool.false_eq_true, reduceIte, decide_true, decide_false, Bool.and_true, Bool.true_and, Bool.not_true, Bool.not_false, isK_int_non, isK_int_bl, isK_int_int, isK_int_str, isK_int_tup, isK_int_lst, isK_int_dct, isK_int_exc, isK_int_ins, isK_bl_non, isK_bl_bl, isK_bl_int, isK_bl_str, isK_bl_tup, isK_bl_lst, isK_bl_dct, isK_bl_exc, isK_bl_ins, isK_str_non, isK_str_bl, isK_str_int, isK_str_str, isK_str_tup, isK_str_lst, isK_str_dct, isK_str_exc, isK_str_ins, isK_tup_non, isK_tup_bl, isK_tup_int, isK_tup_str, isK_tup_tup, isK_tup_lst, isK_tup_dct, isK_tup_exc, isK_tup_ins, isK_lst_non, isK_lst_bl, isK_lst_int, isK_lst_str, isK_lst_tup, isK_lst_lst, isK_lst_dct, isK_lst_exc, isK_lst_ins, isK_dct_non, isK_dct_bl, isK_dct_int, isK_dct_str, isK_dct_tup, isK_dct_lst, isK_dct_dct, isK_dct_exc, isK_dct_ins, isC_non, isC_bl, isC_int, isC_str, isC_tup, isC_lst, isC_dct, isC_ins, isC_exc, Int.reduceLT, Int.reduceLE, Nat.reduceLT, Nat.reduceLeDiff, Int.reduceToNat, Int.reduceNeg, Int.reduceEq, Int.reduceBEq, Nat.reduceAdd, Int.reduceAdd, Int.reduceSub, Bool.false_and, Bool.and_false, Bool.true_or, Bool.false_or, Nat.reduceEqDiff, Nat.reduceLT, forL, at_, b_law_1, a0, a1, a2, beq_self_eq_true]
theorem law_holds (ns : List Int) (_ : ns.length ≤ 63) : f_law [.lst (ns.map .int)] = .ok (.bl true) := by
  obtain ⟨x, hx, ht⟩ := thing_ok ns
  obtain ⟨b, h1, h2⟩ := names_same x ht
  cases x with
  | int i =>
    simp -implicitDefEqProofs only [fn, start, sSeq, sSet, setAll, sIf, sRet, sNx, sExp, sRaise, sFor, sForT, tE, tAnd, tOr, tNot, tYes, e1, e2, eN, evs, eV, eK, eLst, eTup, eAnd, eOr, eIf, eCut, cbound, eChain, eComp, oAdd_int, oAdd_str, oAdd_lst, oSub_int, oMul_int, oMul_str, oDiv_int, oMod_int, oPow_int, oNeg_int, oLt_int, oLe_int, oGt_int, oGe_int, oEq_int, oNe_int, oEq_str, oNe_str, oEq_bl, oNe_bl, oEq_lst, oNe_lst, oIn_lst, oIn_tup, oIn_dct, oIn_str, oNotIn_lst, oNotIn_dct, oNotIn_str, oIx_lst, oIx_tup, oIx_str, oIx_dct, oCut_lst, oCut_str, truth_bl, truth_int, truth_non, asB_bl, asI_int, oNot_bl, oAttr_ins, oIsNon_non, oNotNon_non, cLen_lst, cLen_tup, cLen_dct, cLen_str, cAll_lst, cSum_lst, cMin_int, cMax_int, cInt_bl, cList_lst, cList_tup, cDict_dct, cTuple_lst, cSorted_lst, cSorted_dct, mUpper_str, mGet_2, mGet_3, mCount_lst, iV_eq, walkV_lst, walkV_tup, keysV_dct, iD_eq, walkV_str, iR_eq, R.bind_ok, R.bind_err, R.bind_no, R.map_ok, R.map_err, R.map_no, on_ok, on_err, on_no, then_nx, then_ret, then_err, then_bk, then_ct, then_no, fin_ret, fin_nx, fin_err, fin_no, ofOpt_some, ofOpt_none, when_true, when_false, List.map_cons, List.map_nil, List.length_cons, List.length_nil, List.getElem?_cons_zero, List.getElem?_cons_succ, List.cons_append, List.nil_append, List.set_cons_zero, List.set_cons_succ, List.length_map, if_true, if_false, Bool.false_eq_true, reduceIte, decide_true, decide_false, Bool.and_true, Bool.true_and, Bool.not_true, Bool.not_false, isK_int_non, isK_int_bl, isK_int_int, isK_int_str, isK_int_tup, isK_int_lst, isK_int_dct, isK_int_exc, isK_int_ins, isK_bl_non, isK_bl_bl, isK_bl_int, isK_bl_str, isK_bl_tup, isK_bl_lst, isK_bl_dct, isK_bl_exc, isK_bl_ins, isK_str_non, isK_str_bl, isK_str_int, isK_str_str, isK_str_tup, isK_str_lst, isK_str_dct, isK_str_exc, isK_str_ins, isK_tup_non, isK_tup_bl, isK_tup_int, isK_tup_str, isK_tup_tup, isK_tup_lst, isK_tup_dct, isK_tup_exc, isK_tup_ins, isK_lst_non, isK_lst_bl, isK_lst_int, isK_lst_str, isK_lst_tup, isK_lst_lst, isK_lst_dct, isK_lst_exc, isK_lst_ins, isK_dct_non, isK_dct_bl, isK_dct_int, isK_dct_str, isK_dct_tup, isK_dct_lst, isK_dct_dct, isK_dct_exc, isK_dct_ins, isC_non, isC_bl, isC_int, isC_str, isC_tup, isC_lst, isC_dct, isC_ins, isC_exc, Int.reduceLT, Int.reduceLE, Nat.reduceLT, Nat.reduceLeDiff, Int.reduceToNat, Int.reduceNeg, Int.reduceEq, Int.reduceBEq, Nat.reduceAdd, Int.reduceAdd, Int.reduceSub, Bool.false_and, Bool.and_false, Bool.true_or, Bool.false_or, Nat.reduceEqDiff, Nat.reduceLT, f_law, y_law, hx, h1, h2, p59, p60, amount_int, line_int, iR_eq, r3]
    have e1 : (if decide (0 < i) = true then R.ok (PV.bl (decide (i < 10 ^ 60))) else R.ok (PV.bl false)) = .ok (.bl (decide (0 < i) && decide (i < 10 ^ 60))) := by by_cases h : 0 < i <;> simp [h]
    have e2 : (if decide (0 ≤ i) = true then R.ok (PV.bl (decide (i < 10 ^ 59))) else R.ok (PV.bl false)) = .ok (.bl (decide (0 ≤ i) && decide (i < 10 ^ 59))) := by by_cases h : 0 ≤ i <;> simp [h]
    simp -implicitDefEqProofs only [fn, start, sSeq, sSet, setAll, sIf, sRet, sNx, sExp, sRaise, sFor, sForT, tE, tAnd, tOr, tNot, tYes, e1, e2, eN, evs, eV, eK, eLst, eTup, eAnd, eOr, eIf, eCut, cbound, eChain, eComp, oAdd_int, oAdd_str, oAdd_lst, oSub_int, oMul_int, oMul_str, oDiv_int, oMod_int, oPow_int, oNeg_int, oLt_int, oLe_int, oGt_int, oGe_int, oEq_int, oNe_int, oEq_str, oNe_str, oEq_bl, oNe_bl, oEq_lst, oNe_lst, oIn_lst, oIn_tup, oIn_dct, oIn_str, oNotIn_lst, oNotIn_dct, oNotIn_str, oIx_lst, oIx_tup, oIx_str, oIx_dct, oCut_lst, oCut_str, truth_bl, truth_int, truth_non, asB_bl, asI_int, oNot_bl, oAttr_ins, oIsNon_non, oNotNon_non, cLen_lst, cLen_tup, cLen_dct, cLen_str, cAll_lst, cSum_lst, cMin_int, cMax_int, cInt_bl, cList_lst, cList_tup, cDict_dct, cTuple_lst, cSorted_lst, cSorted_dct, mUpper_str, mGet_2, mGet_3, mCount_lst, iV_eq, walkV_lst, walkV_tup, keysV_dct, iD_eq, walkV_str, iR_eq, R.bind_ok, R.bind_err, R.bind_no, R.map_ok, R.map_err, R.map_no, on_ok, on_err, on_no, then_nx, then_ret, then_err, then_bk, then_ct, then_no, fin_ret, fin_nx, fin_err, fin_no, ofOpt_some, ofOpt_none, when_true, when_false, List.map_cons, List.map_nil, List.length_cons, List.length_nil, List.getElem?_cons_zero, List.getElem?_cons_succ, List.cons_append, List.nil_append, List.set_cons_zero, List.set_cons_succ, List.length_map, if_true, if_false, Bool.false_eq_true, reduceIte, decide_true, decide_false, Bool.and_true, Bool.true_and, Bool.not_true, Bool.not_false, isK_int_non, isK_int_bl, isK_int_int, isK_int_str, isK_int_tup, isK_int_lst, isK_int_dct, isK_int_exc, isK_int_ins, isK_bl_non, isK_bl_bl, isK_bl_int, isK_bl_str, isK_bl_tup, isK_bl_lst, isK_bl_dct, isK_bl_exc, isK_bl_ins, isK_str_non, isK_str_bl, isK_str_int, isK_str_str, isK_str_tup, isK_str_lst, isK_str_dct, isK_str_exc, isK_str_ins, isK_tup_non, isK_tup_bl, isK_tup_int, isK_tup_str, isK_tup_tup, isK_tup_lst, isK_tup_dct, isK_tup_exc, isK_tup_ins, isK_lst_non, isK_lst_bl, isK_lst_int, isK_lst_str, isK_lst_tup, isK_lst_lst, isK_lst_dct, isK_lst_exc, isK_lst_ins, isK_dct_non, isK_dct_bl, isK_dct_int, isK_dct_str, isK_dct_tup, isK_dct_lst, isK_dct_dct, isK_dct_exc, isK_dct_ins, isC_non, isC_bl, isC_int, isC_str, isC_tup, isC_lst, isC_dct, isC_ins, isC_exc, Int.reduceLT, Int.reduceLE, Nat.reduceLT, Nat.reduceLeDiff, Int.reduceToNat, Int.reduceNeg, Int.reduceEq, Int.reduceBEq, Nat.reduceAdd, Int.reduceAdd, Int.reduceSub, Bool.false_and, Bool.and_false, Bool.true_or, Bool.false_or, Nat.reduceEqDiff, Nat.reduceLT, e1, e2, h1, amount_int, line_int, last_loop, iR_eq, r3]
  | ins c fs => exact ht.elim
  | exc c => exact ht.elim
  | bl v =>
    have k1 : f_is_amount [.bl v] = .ok (.bl false) := rfl
    have k2 : f_is_line [.bl v] = .ok (.bl false) := rfl
    simp -implicitDefEqProofs only [fn, start, sSeq, sSet, setAll, sIf, sRet, sNx, sExp, sRaise, sFor, sForT, tE, tAnd, tOr, tNot, tYes, e1, e2, eN, evs, eV, eK, eLst, eTup, eAnd, eOr, eIf, eCut, cbound, eChain, eComp, oAdd_int, oAdd_str, oAdd_lst, oSub_int, oMul_int, oMul_str, oDiv_int, oMod_int, oPow_int, oNeg_int, oLt_int, oLe_int, oGt_int, oGe_int, oEq_int, oNe_int, oEq_str, oNe_str, oEq_bl, oNe_bl, oEq_lst, oNe_lst, oIn_lst, oIn_tup, oIn_dct, oIn_str, oNotIn_lst, oNotIn_dct, oNotIn_str, oIx_lst, oIx_tup, oIx_str, oIx_dct, oCut_lst, oCut_str, truth_bl, truth_int, truth_non, asB_bl, asI_int, oNot_bl, oAttr_ins, oIsNon_non, oNotNon_non, cLen_lst, cLen_tup, cLen_dct, cLen_str, cAll_lst, cSum_lst, cMin_int, cMax_int, cInt_bl, cList_lst, cList_tup, cDict_dct, cTuple_lst, cSorted_lst, cSorted_dct, mUpper_str, mGet_2, mGet_3, mCount_lst, iV_eq, walkV_lst, walkV_tup, keysV_dct, iD_eq, walkV_str, iR_eq, R.bind_ok, R.bind_err, R.bind_no, R.map_ok, R.map_err, R.map_no, on_ok, on_err, on_no, then_nx, then_ret, then_err, then_bk, then_ct, then_no, fin_ret, fin_nx, fin_err, fin_no, ofOpt_some, ofOpt_none, when_true, when_false, List.map_cons, List.map_nil, List.length_cons, List.length_nil, List.getElem?_cons_zero, List.getElem?_cons_succ, List.cons_append, List.nil_append, List.set_cons_zero, List.set_cons_succ, List.length_map, if_true, if_false, Bool.false_eq_true, reduceIte, decide_true, decide_false, Bool.and_true, Bool.true_and, Bool.not_true, Bool.not_false, isK_int_non, isK_int_bl, isK_int_int, isK_int_str, isK_int_tup, isK_int_lst, isK_int_dct, isK_int_exc, isK_int_ins, isK_bl_non, isK_bl_bl, isK_bl_int, isK_bl_str, isK_bl_tup, isK_bl_lst, isK_bl_dct, isK_bl_exc, isK_bl_ins, isK_str_non, isK_str_bl, isK_str_int, isK_str_str, isK_str_tup, isK_str_lst, isK_str_dct, isK_str_exc, isK_str_ins, isK_tup_non, isK_tup_bl, isK_tup_int, isK_tup_str, isK_tup_tup, isK_tup_lst, isK_tup_dct, isK_tup_exc, isK_tup_ins, isK_lst_non, isK_lst_bl, isK_lst_int, isK_lst_str, isK_lst_tup, isK_lst_lst, isK_lst_dct, isK_lst_exc, isK_lst_ins, isK_dct_non, isK_dct_bl, isK_dct_int, isK_dct_str, isK_dct_tup, isK_dct_lst, isK_dct_dct, isK_dct_exc, isK_dct_ins, isC_non, isC_bl, isC_int, isC_str, isC_tup, isC_lst, isC_dct, isC_ins, isC_exc, Int.reduceLT, Int.reduceLE, Nat.reduceLT, Nat.reduceLeDiff, Int.reduceToNat, Int.reduceNeg, Int.reduceEq, Int.reduceBEq, Nat.reduceAdd, Int.reduceAdd, Int.reduceSub, Bool.false_and, Bool.and_false, Bool.true_or, Bool.false_or, Nat.reduceEqDiff, Nat.reduceLT, f_law, y_law, hx, h1, h2, k1, k2, last_loop, iR_eq, r3]
  | non =>
    have k1 : f_is_amount [.non] = .ok (.bl false) := rfl
    have k2 : f_is_line [.non] = .ok (.bl false) := rfl
    simp -implicitDefEqProofs only [fn, start, sSeq, sSet, setAll, sIf, sRet, sNx, sExp, sRaise, sFor, sForT, tE, tAnd, tOr, tNot, tYes, e1, e2, eN, evs, eV, eK, eLst, eTup, eAnd, eOr, eIf, eCut, cbound, eChain, eComp, oAdd_int, oAdd_str, oAdd_lst, oSub_int, oMul_int, oMul_str, oDiv_int, oMod_int, oPow_int, oNeg_int, oLt_int, oLe_int, oGt_int, oGe_int, oEq_int, oNe_int, oEq_str, oNe_str, oEq_bl, oNe_bl, oEq_lst, oNe_lst, oIn_lst, oIn_tup, oIn_dct, oIn_str, oNotIn_lst, oNotIn_dct, oNotIn_str, oIx_lst, oIx_tup, oIx_str, oIx_dct, oCut_lst, oCut_str, truth_bl, truth_int, truth_non, asB_bl, asI_int, oNot_bl, oAttr_ins, oIsNon_non, oNotNon_non, cLen_lst, cLen_tup, cLen_dct, cLen_str, cAll_lst, cSum_lst, cMin_int, cMax_int, cInt_bl, cList_lst, cList_tup, cDict_dct, cTuple_lst, cSorted_lst, cSorted_dct, mUpper_str, mGet_2, mGet_3, mCount_lst, iV_eq, walkV_lst, walkV_tup, keysV_dct, iD_eq, walkV_str, iR_eq, R.bind_ok, R.bind_err, R.bind_no, R.map_ok, R.map_err, R.map_no, on_ok, on_err, on_no, then_nx, then_ret, then_err, then_bk, then_ct, then_no, fin_ret, fin_nx, fin_err, fin_no, ofOpt_some, ofOpt_none, when_true, when_false, List.map_cons, List.map_nil, List.length_cons, List.length_nil, List.getElem?_cons_zero, List.getElem?_cons_succ, List.cons_append, List.nil_append, List.set_cons_zero, List.set_cons_succ, List.length_map, if_true, if_false, Bool.false_eq_true, reduceIte, decide_true, decide_false, Bool.and_true, Bool.true_and, Bool.not_true, Bool.not_false, isK_int_non, isK_int_bl, isK_int_int, isK_int_str, isK_int_tup, isK_int_lst, isK_int_dct, isK_int_exc, isK_int_ins, isK_bl_non, isK_bl_bl, isK_bl_int, isK_bl_str, isK_bl_tup, isK_bl_lst, isK_bl_dct, isK_bl_exc, isK_bl_ins, isK_str_non, isK_str_bl, isK_str_int, isK_str_str, isK_str_tup, isK_str_lst, isK_str_dct, isK_str_exc, isK_str_ins, isK_tup_non, isK_tup_bl, isK_tup_int, isK_tup_str, isK_tup_tup, isK_tup_lst, isK_tup_dct, isK_tup_exc, isK_tup_ins, isK_lst_non, isK_lst_bl, isK_lst_int, isK_lst_str, isK_lst_tup, isK_lst_lst, isK_lst_dct, isK_lst_exc, isK_lst_ins, isK_dct_non, isK_dct_bl, isK_dct_int, isK_dct_str, isK_dct_tup, isK_dct_lst, isK_dct_dct, isK_dct_exc, isK_dct_ins, isC_non, isC_bl, isC_int, isC_str, isC_tup, isC_lst, isC_dct, isC_ins, isC_exc, Int.reduceLT, Int.reduceLE, Nat.reduceLT, Nat.reduceLeDiff, Int.reduceToNat, Int.reduceNeg, Int.reduceEq, Int.reduceBEq, Nat.reduceAdd, Int.reduceAdd, Int.reduceSub, Bool.false_and, Bool.and_false, Bool.true_or, Bool.false_or, Nat.reduceEqDiff, Nat.reduceLT, f_law, y_law, hx, h1, h2, k1, k2, last_loop, iR_eq, r3]
  | str v =>
    have k1 : f_is_amount [.str v] = .ok (.bl false) := rfl
    have k2 : f_is_line [.str v] = .ok (.bl false) := rfl
    simp -implicitDefEqProofs only [fn, start, sSeq, sSet, setAll, sIf, sRet, sNx, sExp, sRaise, sFor, sForT, tE, tAnd, tOr, tNot, tYes, e1, e2, eN, evs, eV, eK, eLst, eTup, eAnd, eOr, eIf, eCut, cbound, eChain, eComp, oAdd_int, oAdd_str, oAdd_lst, oSub_int, oMul_int, oMul_str, oDiv_int, oMod_int, oPow_int, oNeg_int, oLt_int, oLe_int, oGt_int, oGe_int, oEq_int, oNe_int, oEq_str, oNe_str, oEq_bl, oNe_bl, oEq_lst, oNe_lst, oIn_lst, oIn_tup, oIn_dct, oIn_str, oNotIn_lst, oNotIn_dct, oNotIn_str, oIx_lst, oIx_tup, oIx_str, oIx_dct, oCut_lst, oCut_str, truth_bl, truth_int, truth_non, asB_bl, asI_int, oNot_bl, oAttr_ins, oIsNon_non, oNotNon_non, cLen_lst, cLen_tup, cLen_dct, cLen_str, cAll_lst, cSum_lst, cMin_int, cMax_int, cInt_bl, cList_lst, cList_tup, cDict_dct, cTuple_lst, cSorted_lst, cSorted_dct, mUpper_str, mGet_2, mGet_3, mCount_lst, iV_eq, walkV_lst, walkV_tup, keysV_dct, iD_eq, walkV_str, iR_eq, R.bind_ok, R.bind_err, R.bind_no, R.map_ok, R.map_err, R.map_no, on_ok, on_err, on_no, then_nx, then_ret, then_err, then_bk, then_ct, then_no, fin_ret, fin_nx, fin_err, fin_no, ofOpt_some, ofOpt_none, when_true, when_false, List.map_cons, List.map_nil, List.length_cons, List.length_nil, List.getElem?_cons_zero, List.getElem?_cons_succ, List.cons_append, List.nil_append, List.set_cons_zero, List.set_cons_succ, List.length_map, if_true, if_false, Bool.false_eq_true, reduceIte, decide_true, decide_false, Bool.and_true, Bool.true_and, Bool.not_true, Bool.not_false, isK_int_non, isK_int_bl, isK_int_int, isK_int_str, isK_int_tup, isK_int_lst, isK_int_dct, isK_int_exc, isK_int_ins, isK_bl_non, isK_bl_bl, isK_bl_int, isK_bl_str, isK_bl_tup, isK_bl_lst, isK_bl_dct, isK_bl_exc, isK_bl_ins, isK_str_non, isK_str_bl, isK_str_int, isK_str_str, isK_str_tup, isK_str_lst, isK_str_dct, isK_str_exc, isK_str_ins, isK_tup_non, isK_tup_bl, isK_tup_int, isK_tup_str, isK_tup_tup, isK_tup_lst, isK_tup_dct, isK_tup_exc, isK_tup_ins, isK_lst_non, isK_lst_bl, isK_lst_int, isK_lst_str, isK_lst_tup, isK_lst_lst, isK_lst_dct, isK_lst_exc, isK_lst_ins, isK_dct_non, isK_dct_bl, isK_dct_int, isK_dct_str, isK_dct_tup, isK_dct_lst, isK_dct_dct, isK_dct_exc, isK_dct_ins, isC_non, isC_bl, isC_int, isC_str, isC_tup, isC_lst, isC_dct, isC_ins, isC_exc, Int.reduceLT, Int.reduceLE, Nat.reduceLT, Nat.reduceLeDiff, Int.reduceToNat, Int.reduceNeg, Int.reduceEq, Int.reduceBEq, Nat.reduceAdd, Int.reduceAdd, Int.reduceSub, Bool.false_and, Bool.and_false, Bool.true_or, Bool.false_or, Nat.reduceEqDiff, Nat.reduceLT, f_law, y_law, hx, h1, h2, k1, k2, last_loop, iR_eq, r3]
  | tup v =>
    have k1 : f_is_amount [.tup v] = .ok (.bl false) := rfl
    have k2 : f_is_line [.tup v] = .ok (.bl false) := rfl
    simp -implicitDefEqProofs only [fn, start, sSeq, sSet, setAll, sIf, sRet, sNx, sExp, sRaise, sFor, sForT, tE, tAnd, tOr, tNot, tYes, e1, e2, eN, evs, eV, eK, eLst, eTup, eAnd, eOr, eIf, eCut, cbound, eChain, eComp, oAdd_int, oAdd_str, oAdd_lst, oSub_int, oMul_int, oMul_str, oDiv_int, oMod_int, oPow_int, oNeg_int, oLt_int, oLe_int, oGt_int, oGe_int, oEq_int, oNe_int, oEq_str, oNe_str, oEq_bl, oNe_bl, oEq_lst, oNe_lst, oIn_lst, oIn_tup, oIn_dct, oIn_str, oNotIn_lst, oNotIn_dct, oNotIn_str, oIx_lst, oIx_tup, oIx_str, oIx_dct, oCut_lst, oCut_str, truth_bl, truth_int, truth_non, asB_bl, asI_int, oNot_bl, oAttr_ins, oIsNon_non, oNotNon_non, cLen_lst, cLen_tup, cLen_dct, cLen_str, cAll_lst, cSum_lst, cMin_int, cMax_int, cInt_bl, cList_lst, cList_tup, cDict_dct, cTuple_lst, cSorted_lst, cSorted_dct, mUpper_str, mGet_2, mGet_3, mCount_lst, iV_eq, walkV_lst, walkV_tup, keysV_dct, iD_eq, walkV_str, iR_eq, R.bind_ok, R.bind_err, R.bind_no, R.map_ok, R.map_err, R.map_no, on_ok, on_err, on_no, then_nx, then_ret, then_err, then_bk, then_ct, then_no, fin_ret, fin_nx, fin_err, fin_no, ofOpt_some, ofOpt_none, when_true, when_false, List.map_cons, List.map_nil, List.length_cons, List.length_nil, List.getElem?_cons_zero, List.getElem?_cons_succ, List.cons_append, List.nil_append, List.set_cons_zero, List.set_cons_succ, List.length_map, if_true, if_false, Bool.false_eq_true, reduceIte, decide_true, decide_false, Bool.and_true, Bool.true_and, Bool.not_true, Bool.not_false, isK_int_non, isK_int_bl, isK_int_int, isK_int_str, isK_int_tup, isK_int_lst, isK_int_dct, isK_int_exc, isK_int_ins, isK_bl_non, isK_bl_bl, isK_bl_int, isK_bl_str, isK_bl_tup, isK_bl_lst, isK_bl_dct, isK_bl_exc, isK_bl_ins, isK_str_non, isK_str_bl, isK_str_int, isK_str_str, isK_str_tup, isK_str_lst, isK_str_dct, isK_str_exc, isK_str_ins, isK_tup_non, isK_tup_bl, isK_tup_int, isK_tup_str, isK_tup_tup, isK_tup_lst, isK_tup_dct, isK_tup_exc, isK_tup_ins, isK_lst_non, isK_lst_bl, isK_lst_int, isK_lst_str, isK_lst_tup, isK_lst_lst, isK_lst_dct, isK_lst_exc, isK_lst_ins, isK_dct_non, isK_dct_bl, isK_dct_int, isK_dct_str, isK_dct_tup, isK_dct_lst, isK_dct_dct, isK_dct_exc, isK_dct_ins, isC_non, isC_bl, isC_int, isC_str, isC_tup, isC_lst, isC_dct, isC_ins, isC_exc, Int.reduceLT, Int.reduceLE, Nat.reduceLT, Nat.reduceLeDiff, Int.reduceToNat, Int.reduceNeg, Int.reduceEq, Int.reduceBEq, Nat.reduceAdd, Int.reduceAdd, Int.reduceSub, Bool.false_and, Bool.and_false, Bool.true_or, Bool.false_or, Nat.reduceEqDiff, Nat.reduceLT, f_law, y_law, hx, h1, h2, k1, k2, last_loop, iR_eq, r3]
  | lst v =>
    have k1 : f_is_amount [.lst v] = .ok (.bl false) := rfl
    have k2 : f_is_line [.lst v] = .ok (.bl false) := rfl
    simp -implicitDefEqProofs only [fn, start, sSeq, sSet, setAll, sIf, sRet, sNx, sExp, sRaise, sFor, sForT, tE, tAnd, tOr, tNot, tYes, e1, e2, eN, evs, eV, eK, eLst, eTup, eAnd, eOr, eIf, eCut, cbound, eChain, eComp, oAdd_int, oAdd_str, oAdd_lst, oSub_int, oMul_int, oMul_str, oDiv_int, oMod_int, oPow_int, oNeg_int, oLt_int, oLe_int, oGt_int, oGe_int, oEq_int, oNe_int, oEq_str, oNe_str, oEq_bl, oNe_bl, oEq_lst, oNe_lst, oIn_lst, oIn_tup, oIn_dct, oIn_str, oNotIn_lst, oNotIn_dct, oNotIn_str, oIx_lst, oIx_tup, oIx_str, oIx_dct, oCut_lst, oCut_str, truth_bl, truth_int, truth_non, asB_bl, asI_int, oNot_bl, oAttr_ins, oIsNon_non, oNotNon_non, cLen_lst, cLen_tup, cLen_dct, cLen_str, cAll_lst, cSum_lst, cMin_int, cMax_int, cInt_bl, cList_lst, cList_tup, cDict_dct, cTuple_lst, cSorted_lst, cSorted_dct, mUpper_str, mGet_2, mGet_3, mCount_lst, iV_eq, walkV_lst, walkV_tup, keysV_dct, iD_eq, walkV_str, iR_eq, R.bind_ok, R.bind_err, R.bind_no, R.map_ok, R.map_err, R.map_no, on_ok, on_err, on_no, then_nx, then_ret, then_err, then_bk, then_ct, then_no, fin_ret, fin_nx, fin_err, fin_no, ofOpt_some, ofOpt_none, when_true, when_false, List.map_cons, List.map_nil, List.length_cons, List.length_nil, List.getElem?_cons_zero, List.getElem?_cons_succ, List.cons_append, List.nil_append, List.set_cons_zero, List.set_cons_succ, List.length_map, if_true, if_false, Bool.false_eq_true, reduceIte, decide_true, decide_false, Bool.and_true, Bool.true_and, Bool.not_true, Bool.not_false, isK_int_non, isK_int_bl, isK_int_int, isK_int_str, isK_int_tup, isK_int_lst, isK_int_dct, isK_int_exc, isK_int_ins, isK_bl_non, isK_bl_bl, isK_bl_int, isK_bl_str, isK_bl_tup, isK_bl_lst, isK_bl_dct, isK_bl_exc, isK_bl_ins, isK_str_non, isK_str_bl, isK_str_int, isK_str_str, isK_str_tup, isK_str_lst, isK_str_dct, isK_str_exc, isK_str_ins, isK_tup_non, isK_tup_bl, isK_tup_int, isK_tup_str, isK_tup_tup, isK_tup_lst, isK_tup_dct, isK_tup_exc, isK_tup_ins, isK_lst_non, isK_lst_bl, isK_lst_int, isK_lst_str, isK_lst_tup, isK_lst_lst, isK_lst_dct, isK_lst_exc, isK_lst_ins, isK_dct_non, isK_dct_bl, isK_dct_int, isK_dct_str, isK_dct_tup, isK_dct_lst, isK_dct_dct, isK_dct_exc, isK_dct_ins, isC_non, isC_bl, isC_int, isC_str, isC_tup, isC_lst, isC_dct, isC_ins, isC_exc, Int.reduceLT, Int.reduceLE, Nat.reduceLT, Nat.reduceLeDiff, Int.reduceToNat, Int.reduceNeg, Int.reduceEq, Int.reduceBEq, Nat.reduceAdd, Int.reduceAdd, Int.reduceSub, Bool.false_and, Bool.and_false, Bool.true_or, Bool.false_or, Nat.reduceEqDiff, Nat.reduceLT, f_law, y_law, hx, h1, h2, k1, k2, last_loop, iR_eq, r3]
  | dct v =>
    have k1 : f_is_amount [.dct v] = .ok (.bl false) := rfl
    have k2 : f_is_line [.dct v] = .ok (.bl false) := rfl
    simp -implicitDefEqProofs only [fn, start, sSeq, sSet, setAll, sIf, sRet, sNx, sExp, sRaise, sFor, sForT, tE, tAnd, tOr, tNot, tYes, e1, e2, eN, evs, eV, eK, eLst, eTup, eAnd, eOr, eIf, eCut, cbound, eChain, eComp, oAdd_int, oAdd_str, oAdd_lst, oSub_int, oMul_int, oMul_str, oDiv_int, oMod_int, oPow_int, oNeg_int, oLt_int, oLe_int, oGt_int, oGe_int, oEq_int, oNe_int, oEq_str, oNe_str, oEq_bl, oNe_bl, oEq_lst, oNe_lst, oIn_lst, oIn_tup, oIn_dct, oIn_str, oNotIn_lst, oNotIn_dct, oNotIn_str, oIx_lst, oIx_tup, oIx_str, oIx_dct, oCut_lst, oCut_str, truth_bl, truth_int, truth_non, asB_bl, asI_int, oNot_bl, oAttr_ins, oIsNon_non, oNotNon_non, cLen_lst, cLen_tup, cLen_dct, cLen_str, cAll_lst, cSum_lst, cMin_int, cMax_int, cInt_bl, cList_lst, cList_tup, cDict_dct, cTuple_lst, cSorted_lst, cSorted_dct, mUpper_str, mGet_2, mGet_3, mCount_lst, iV_eq, walkV_lst, walkV_tup, keysV_dct, iD_eq, walkV_str, iR_eq, R.bind_ok, R.bind_err, R.bind_no, R.map_ok, R.map_err, R.map_no, on_ok, on_err, on_no, then_nx, then_ret, then_err, then_bk, then_ct, then_no, fin_ret, fin_nx, fin_err, fin_no, ofOpt_some, ofOpt_none, when_true, when_false, List.map_cons, List.map_nil, List.length_cons, List.length_nil, List.getElem?_cons_zero, List.getElem?_cons_succ, List.cons_append, List.nil_append, List.set_cons_zero, List.set_cons_succ, List.length_map, if_true, if_false, Bool.false_eq_true, reduceIte, decide_true, decide_false, Bool.and_true, Bool.true_and, Bool.not_true, Bool.not_false, isK_int_non, isK_int_bl, isK_int_int, isK_int_str, isK_int_tup, isK_int_lst, isK_int_dct, isK_int_exc, isK_int_ins, isK_bl_non, isK_bl_bl, isK_bl_int, isK_bl_str, isK_bl_tup, isK_bl_lst, isK_bl_dct, isK_bl_exc, isK_bl_ins, isK_str_non, isK_str_bl, isK_str_int, isK_str_str, isK_str_tup, isK_str_lst, isK_str_dct, isK_str_exc, isK_str_ins, isK_tup_non, isK_tup_bl, isK_tup_int, isK_tup_str, isK_tup_tup, isK_tup_lst, isK_tup_dct, isK_tup_exc, isK_tup_ins, isK_lst_non, isK_lst_bl, isK_lst_int, isK_lst_str, isK_lst_tup, isK_lst_lst, isK_lst_dct, isK_lst_exc, isK_lst_ins, isK_dct_non, isK_dct_bl, isK_dct_int, isK_dct_str, isK_dct_tup, isK_dct_lst, isK_dct_dct, isK_dct_exc, isK_dct_ins, isC_non, isC_bl, isC_int, isC_str, isC_tup, isC_lst, isC_dct, isC_ins, isC_exc, Int.reduceLT, Int.reduceLE, Nat.reduceLT, Nat.reduceLeDiff, Int.reduceToNat, Int.reduceNeg, Int.reduceEq, Int.reduceBEq, Nat.reduceAdd, Int.reduceAdd, Int.reduceSub, Bool.false_and, Bool.and_false, Bool.true_or, Bool.false_or, Nat.reduceEqDiff, Nat.reduceLT, f_law, y_law, hx, h1, h2, k1, k2, last_loop, iR_eq, r3]
end B

namespace B
open PySem PySem.Spec PyProof.Rows L2
def top (i : Nat) : Stmt := PySem.Challenge.pw_trustways_k01_names_amounts_lines.main.body.getD i (.Pass ⟨0, 0, 0, 0⟩)
structure Txt (K : PySem.W.Frag) (mg : MG) where
  b_all : mg "all" = none
  b_range : mg "range" = none
  b_isinstance : mg "isinstance" = none
  b_int : mg "int" = none
  b_str : mg "str" = none
  b_len : mg "len" = none
  b_bool : mg "bool" = none
  t_LETTERS : Tok
  c_LETTERS : mg "LETTERS" = some (.str (Str.ofString "abcdefghijklmnopqrstuvwxyz") t_LETTERS)
  known : ∀ c ∈ B.known, ∀ C, mg c = some (.ref C) → ClsF K C
  a_is_whole : Addr
  fd_is_whole : FuncData
  F_is_whole : Fun K "is_whole" "is_whole" (top 2) a_is_whole fd_is_whole
  m_is_whole : mg "is_whole" = some (.ref a_is_whole)
  b_f_is_whole : Binds K fd_is_whole ["thing"] []
  a_is_name : Addr
  fd_is_name : FuncData
  F_is_name : Fun K "is_name" "is_name" (top 3) a_is_name fd_is_name
  m_is_name : mg "is_name" = some (.ref a_is_name)
  b_f_is_name : Binds K fd_is_name ["thing"] []
  a_is_amount : Addr
  fd_is_amount : FuncData
  F_is_amount : Fun K "is_amount" "is_amount" (top 4) a_is_amount fd_is_amount
  m_is_amount : mg "is_amount" = some (.ref a_is_amount)
  b_f_is_amount : Binds K fd_is_amount ["thing"] []
  a_is_line : Addr
  fd_is_line : FuncData
  F_is_line : Fun K "is_line" "is_line" (top 5) a_is_line fd_is_line
  m_is_line : mg "is_line" = some (.ref a_is_line)
  b_f_is_line : Binds K fd_is_line ["thing"] []
  a__law_cell_at : Addr
  fd__law_cell_at : FuncData
  F__law_cell_at : Fun K "_law_cell_at" "_law_cell_at" (top 7) a__law_cell_at fd__law_cell_at
  m__law_cell_at : mg "_law_cell_at" = some (.ref a__law_cell_at)
  b_f__law_cell_at : Binds K fd__law_cell_at ["script", "k"] []
  a__law_text : Addr
  fd__law_text : FuncData
  F__law_text : Fun K "_law_text" "_law_text" (top 8) a__law_text fd__law_text
  m__law_text : mg "_law_text" = some (.ref a__law_text)
  b_f__law_text : Binds K fd__law_text ["cell", "many"] []
  a__law_thing : Addr
  fd__law_thing : FuncData
  F__law_thing : Fun K "_law_thing" "_law_thing" (top 9) a__law_thing fd__law_thing
  m__law_thing : mg "_law_thing" = some (.ref a__law_thing)
  b_f__law_thing : Binds K fd__law_thing ["script"] []
  a__law_due_name : Addr
  fd__law_due_name : FuncData
  F__law_due_name : Fun K "_law_due_name" "_law_due_name" (top 10) a__law_due_name fd__law_due_name
  m__law_due_name : mg "_law_due_name" = some (.ref a__law_due_name)
  b_f__law_due_name : Binds K fd__law_due_name ["thing"] []
  a_law : Addr
  fd_law : FuncData
  F_law : Fun K "law" "law" (top 11) a_law fd_law
  m_law : mg "law" = some (.ref a_law)
  b_f_law : Binds K fd_law ["script"] []
section
variable {P : Program} {w : World} {K : PySem.W.Frag} {mg : MG} {base : Heap}
theorem Txt.knownE (T : Txt K mg) {X : Cx} {k : Kd} : ∀ c ∈ B.known, ∀ C, X.mg c = some (.ref C) → ∀ (W : WK) (pins : List (Addr × Obj)) (σ : L2.St) (H : Hp) (s : Shared) (a : Addr) (Q : Value → Shared → Prop), Inv (XB X W) pins σ H s → H a = some (.ext (excO a C)) → (∀ tk, Q (.bool false) { s with toks := tk }) → wpAny (model X.prog X.w) X.A (call (.builtin "isinstance") [.ref a, .type (kT k)]) Q (XB X W).xe s := fun c h => by cases h
theorem sc_is_whole : FnScope ["thing"] ["thing"] (defScope (top 2)) := ⟨rfl, rfl, rfl, by decide +kernel, rfl, by decide +kernel, by decide +kernel⟩
set_option maxHeartbeats 0 in
theorem ok_is_whole (T : Txt K mg) : FnB P w K mg base 1 T.a_is_whole T.fd_is_whole ["thing"] .s f_is_whole := by
  refine fn_B (N := ["thing"]) (k := 0) (Γ0 := [.s]) (Γ' := [.s]) (body := y_is_whole) T.F_is_whole sc_is_whole rfl fun cdv A outer s H E hr => ?_
  have hu := hu_of hr
  have nd := sc_is_whole.nd
  refine s_one ?_
  refine (s_ret (.same .nil) (b_and (b_isK (by decide) T.known T.knownE rfl T.b_isinstance rfl T.b_int rfl (bv 0)) (b_one (b_not (b_isK (by decide) T.known T.knownE rfl T.b_isinstance rfl T.b_bool rfl (bv 0))))))
theorem sc_is_name : FnScope ["thing"] ["thing"] (defScope (top 3)) := ⟨rfl, rfl, rfl, by decide +kernel, rfl, by decide +kernel, by decide +kernel⟩
set_option maxHeartbeats 0 in
theorem ok_is_name (T : Txt K mg) : FnB P w K mg base 1 T.a_is_name T.fd_is_name ["thing"] .s f_is_name := by
  refine fn_B (N := ["thing"]) (k := 0) (Γ0 := [.s]) (Γ' := [.s]) (body := y_is_name) T.F_is_name sc_is_name rfl fun cdv A outer s H E hr => ?_
  have hu := hu_of hr
  have nd := sc_is_name.nd
  refine s_cons (Γ1 := [.s]) ?_ ?_
  · refine (s_if (.same .nil) (b_notT (b_test (b_isK (by decide) T.known T.knownE rfl T.b_isinstance rfl T.b_str rfl (bv 0)))) ?_ ?_)
    · refine s_one ?_
      refine (s_ret (.same .nil) b_bl)
    · exact s_nil
  refine s_cons (Γ1 := [.s]) ?_ ?_
  · refine (s_if (.same .nil) (PWB.pt (b_orT (b_cmpT o_lt bl_lt (b_callB k_len rfl T.b_len PySem.boot_len (a_consS (bv 0) a_nil)) b_int (by first | rfl | exact nomark _)) (b_or1T (b_cmpT o_gt bl_gt (b_callB k_len rfl T.b_len PySem.boot_len (a_consS (bv 0) a_nil)) b_int (by first | rfl | exact nomark _))))) ?_ ?_)
    · refine s_one ?_
      refine (s_ret (.same .nil) b_bl)
    · exact s_nil
  refine s_one ?_
  refine (s_ret (.same .nil) (b_callB (k_all rfl) rfl T.b_all B.boot_all (a_consS (b_sh (b_comp (N' := [("thing" : Str), ("letter" : Str)]) (show CompN [("thing" : Str)] _ _ _ (defScope (top 3)) from ⟨by decide +kernel, by decide +kernel, by decide +kernel, by decide +kernel, by decide +kernel, by decide +kernel, by decide +kernel, by decide +kernel, by decide +kernel⟩) rfl (i_V (bv 0)) fun cl C s₀ H₀ ex => ⟨(b_cmp (o_in hu) (bv 1) (b_gstr rfl T.c_LETTERS) (by first | rfl | exact nomark _)), .inl ⟨rfl, rfl⟩⟩)) a_nil)))
theorem sc_is_amount : FnScope ["thing"] ["thing"] (defScope (top 4)) := ⟨rfl, rfl, rfl, by decide +kernel, rfl, by decide +kernel, by decide +kernel⟩
set_option maxHeartbeats 0 in
theorem ok_is_amount (T : Txt K mg) : FnB P w K mg base 2 T.a_is_amount T.fd_is_amount ["thing"] .s f_is_amount := by
  refine fn_B (N := ["thing"]) (k := 1) (Γ0 := [.s]) (Γ' := [.s]) (body := y_is_amount) T.F_is_amount sc_is_amount rfl fun cdv A outer s H E hr => ?_
  have hu := hu_of hr
  have nd := sc_is_amount.nd
  refine s_one ?_
  refine (s_ret (.same .nil) (b_and (b_call (ok_is_whole T) (hr.mono (by decide)) rfl T.m_is_whole T.F_is_whole.kp T.b_f_is_whole (a_consS (bv 0) a_nil)) (b_and (b_cmp o_le b_int (bv 0) (by first | rfl | exact nomark _)) (b_one (b_cmp o_lt (bv 0) (b_bin o_pow b_int b_int) (by first | rfl | exact nomark _))))))
theorem sc_is_line : FnScope ["thing"] ["thing"] (defScope (top 5)) := ⟨rfl, rfl, rfl, by decide +kernel, rfl, by decide +kernel, by decide +kernel⟩
set_option maxHeartbeats 0 in
theorem ok_is_line (T : Txt K mg) : FnB P w K mg base 2 T.a_is_line T.fd_is_line ["thing"] .s f_is_line := by
  refine fn_B (N := ["thing"]) (k := 1) (Γ0 := [.s]) (Γ' := [.s]) (body := y_is_line) T.F_is_line sc_is_line rfl fun cdv A outer s H E hr => ?_
  have hu := hu_of hr
  have nd := sc_is_line.nd
  refine s_one ?_
  refine (s_ret (.same .nil) (b_and (b_call (ok_is_whole T) (hr.mono (by decide)) rfl T.m_is_whole T.F_is_whole.kp T.b_f_is_whole (a_consS (bv 0) a_nil)) (b_and (b_cmp o_le b_int (bv 0) (by first | rfl | exact nomark _)) (b_one (b_cmp o_lt (bv 0) (b_bin o_pow b_int b_int) (by first | rfl | exact nomark _))))))
theorem sc__law_cell_at : FnScope ["script", "k"] ["script", "k"] (defScope (top 7)) := ⟨rfl, rfl, rfl, by decide +kernel, rfl, by decide +kernel, by decide +kernel⟩
set_option maxHeartbeats 0 in
theorem ok__law_cell_at (T : Txt K mg) : FnB P w K mg base 1 T.a__law_cell_at T.fd__law_cell_at ["script", "k"] .s f__law_cell_at := by
  refine fn_B (N := ["script", "k"]) (k := 0) (Γ0 := [.s, .s]) (Γ' := [.s, .s]) (body := y__law_cell_at) T.F__law_cell_at sc__law_cell_at rfl fun cdv A outer s H E hr => ?_
  have hu := hu_of hr
  have nd := sc__law_cell_at.nd
  refine s_cons (Γ1 := [.s, .s]) ?_ ?_
  · refine (s_if (.same (.same .nil)) (b_cmpT o_lt bl_lt (bv 1) (b_callB k_len rfl T.b_len PySem.boot_len (a_consS (bv 0) a_nil)) (by first | rfl | exact nomark _)) ?_ ?_)
    · refine s_one ?_
      refine (s_ret (.same (.same .nil)) (b_ix hu (bv 0) (bv 1)))
    · exact s_nil
  refine s_one ?_
  refine (s_ret (.same (.same .nil)) b_int)
theorem sc__law_text : FnScope ["cell", "many", "letters", "mixed", "word", "k"] ["cell", "many"] (defScope (top 8)) := ⟨rfl, rfl, rfl, by decide +kernel, rfl, by decide +kernel, by decide +kernel⟩
set_option maxHeartbeats 0 in
theorem ok__law_text (T : Txt K mg) : FnB P w K mg base 1 T.a__law_text T.fd__law_text ["cell", "many"] .s f__law_text := by
  refine fn_B (N := ["cell", "many", "letters", "mixed", "word", "k"]) (k := 0) (Γ0 := [.s, .s, .s, .s, .s, .s]) (Γ' := [.s, .s, .s, .s, .s, .s]) (body := y__law_text) T.F__law_text sc__law_text rfl fun cdv A outer s H E hr => ?_
  have hu := hu_of hr
  have nd := sc__law_text.nd
  refine s_cons (Γ1 := [.s, .s, .s, .s, .s, .s]) ?_ ?_
  · refine (s_set (.same (.same (.same (.same (.same (.same .nil)))))) nd rfl (.inl rfl) rfl b_str)
  refine s_cons (Γ1 := [.s, .s, .s, .s, .s, .s]) ?_ ?_
  · refine (s_set (.same (.same (.same (.same (.same (.same .nil)))))) nd rfl (.inl rfl) rfl (b_bin o_mod (b_bin o_mul (bv 0) b_int) b_int))
  refine s_cons (Γ1 := [.s, .s, .s, .s, .s, .s]) ?_ ?_
  · refine (s_set (.same (.same (.same (.same (.same (.same .nil)))))) nd rfl (.inl rfl) rfl (b_bin o_mul (b_ix hu (bv 2) (b_bin o_mod (bv 3) b_int)) (bv 1)))
  refine s_cons (Γ1 := [.s, .s, .s, .s, .s, .s]) ?_ ?_
  · refine (s_if (.same (.same (.same (.same (.same (.same .nil)))))) (b_cmpT (o_eq hu) bl_eq (b_bin o_mod (b_bin o_div (bv 3) b_int) b_int) b_int (by first | rfl | exact nomark _)) ?_ ?_)
    · refine s_cons (Γ1 := [.s, .s, .s, .s, .s, .s]) ?_ ?_
      · refine (s_set (.same (.same (.same (.same (.same (.same .nil)))))) nd rfl (.inl rfl) rfl b_str)
      refine s_one ?_
      refine (s_for (.same (.same (.same (.same (.same (.same .nil)))))) rfl nd rfl (.inl rfl) rfl (i_range1 rfl T.b_range (a_consS (bv 1) a_nil)) ?_)
      · refine s_one ?_
        refine (s_set (.same (.same (.same (.same (.same (.same .nil)))))) nd rfl (.inl rfl) rfl (b_sh (b_bin o_add (bv 4) (b_ix hu (bv 2) (b_bin o_mod (b_bin o_div (bv 3) (b_sh (b_bin o_add (bv 5) b_int))) b_int)))))
    · exact s_nil
  refine s_one ?_
  refine (s_ret (.same (.same (.same (.same (.same (.same .nil)))))) (bv 4))
theorem sc__law_thing : FnScope ["script", "way", "cell", "other", "word", "spot", "signs", "some"] ["script"] (defScope (top 9)) := ⟨rfl, rfl, rfl, by decide +kernel, rfl, by decide +kernel, by decide +kernel⟩
set_option maxHeartbeats 0 in
theorem ok__law_thing (T : Txt K mg) : FnB P w K mg base 2 T.a__law_thing T.fd__law_thing ["script"] .s f__law_thing := by
  refine fn_B (N := ["script", "way", "cell", "other", "word", "spot", "signs", "some"]) (k := 1) (Γ0 := [.s, .s, .s, .s, .s, .s, .s, .s]) (Γ' := [.s, .s, .s, .s, .s, .s, .s, .s]) (body := y__law_thing) T.F__law_thing sc__law_thing rfl fun cdv A outer s H E hr => ?_
  have hu := hu_of hr
  have nd := sc__law_thing.nd
  refine s_cons (Γ1 := [.s, .s, .s, .s, .s, .s, .s, .s]) ?_ ?_
  · refine (s_set (.same (.same (.same (.same (.same (.same (.same (.same .nil)))))))) nd rfl (.inl rfl) rfl (b_bin o_mod (b_call (ok__law_cell_at T) (hr.mono (by decide)) rfl T.m__law_cell_at T.F__law_cell_at.kp T.b_f__law_cell_at (a_consS (bv 0) (a_consS b_int a_nil))) b_int))
  refine s_cons (Γ1 := [.s, .s, .s, .s, .s, .s, .s, .s]) ?_ ?_
  · refine (s_set (.same (.same (.same (.same (.same (.same (.same (.same .nil)))))))) nd rfl (.inl rfl) rfl (b_call (ok__law_cell_at T) (hr.mono (by decide)) rfl T.m__law_cell_at T.F__law_cell_at.kp T.b_f__law_cell_at (a_consS (bv 0) (a_consS b_int a_nil))))
  refine s_cons (Γ1 := [.s, .s, .s, .s, .s, .s, .s, .s]) ?_ ?_
  · refine (s_set (.same (.same (.same (.same (.same (.same (.same (.same .nil)))))))) nd rfl (.inl rfl) rfl (b_call (ok__law_cell_at T) (hr.mono (by decide)) rfl T.m__law_cell_at T.F__law_cell_at.kp T.b_f__law_cell_at (a_consS (bv 0) (a_consS b_int a_nil))))
  refine s_cons (Γ1 := [.s, .s, .s, .s, .s, .s, .s, .s]) ?_ ?_
  · refine (s_if (.same (.same (.same (.same (.same (.same (.same (.same .nil)))))))) (b_cmpT (o_eq hu) bl_eq (bv 1) b_int (by first | rfl | exact nomark _)) ?_ ?_)
    · refine s_one ?_
      refine (s_ret (.same (.same (.same (.same (.same (.same (.same (.same .nil)))))))) (b_call (ok__law_text T) (hr.mono (by decide)) rfl T.m__law_text T.F__law_text.kp T.b_f__law_text (a_consS (bv 2) (a_consS (b_sh (b_bin o_add b_int (b_bin o_mod (bv 3) b_int))) a_nil))))
    · exact s_nil
  refine s_cons (Γ1 := [.s, .s, .s, .s, .s, .s, .s, .s]) ?_ ?_
  · refine (s_if (.same (.same (.same (.same (.same (.same (.same (.same .nil)))))))) (b_cmpT (o_eq hu) bl_eq (bv 1) b_int (by first | rfl | exact nomark _)) ?_ ?_)
    · refine s_cons (Γ1 := [.s, .s, .s, .s, .s, .s, .s, .s]) ?_ ?_
      · refine (s_set (.same (.same (.same (.same (.same (.same (.same (.same .nil)))))))) nd rfl (.inl rfl) rfl (b_call (ok__law_text T) (hr.mono (by decide)) rfl T.m__law_text T.F__law_text.kp T.b_f__law_text (a_consS (bv 2) (a_consS (b_sh (b_bin o_add b_int (b_bin o_mod (bv 3) b_int))) a_nil))))
      refine s_cons (Γ1 := [.s, .s, .s, .s, .s, .s, .s, .s]) ?_ ?_
      · refine (s_set (.same (.same (.same (.same (.same (.same (.same (.same .nil)))))))) nd rfl (.inl rfl) rfl (b_bin o_mod (b_bin o_div (bv 3) b_int) (b_callB k_len rfl T.b_len PySem.boot_len (a_consS (bv 4) a_nil))))
      refine s_cons (Γ1 := [.s, .s, .s, .s, .s, .s, .s, .s]) ?_ ?_
      · refine (s_set (.same (.same (.same (.same (.same (.same (.same (.same .nil)))))))) nd rfl (.inl rfl) rfl (b_sh (b_lst (a_consS b_str (a_consS b_str (a_consS b_str (a_consS b_str (a_consS b_str (a_consS b_str (a_consS b_str (a_consS b_str (a_consS b_str (a_consS b_str (a_consS b_str (a_consS b_str (a_consS b_str (a_consS b_str a_nil)))))))))))))))))
      refine s_one ?_
      refine (s_ret (.same (.same (.same (.same (.same (.same (.same (.same .nil)))))))) (b_sh (b_bin o_add (b_sh (b_bin o_add (b_sh (b_cut (bv 4) p_none (p_some (bv 5)))) (b_ix hu (bv 6) (b_bin o_mod (b_bin o_div (bv 3) b_int) b_int)))) (b_sh (b_cut (bv 4) (p_some (b_sh (b_bin o_add (bv 5) b_int))) p_none)))))
    · exact s_nil
  refine s_cons (Γ1 := [.s, .s, .s, .s, .s, .s, .s, .s]) ?_ ?_
  · refine (s_if (.same (.same (.same (.same (.same (.same (.same (.same .nil)))))))) (b_cmpT (o_eq hu) bl_eq (bv 1) b_int (by first | rfl | exact nomark _)) ?_ ?_)
    · refine s_one ?_
      refine (s_ret (.same (.same (.same (.same (.same (.same (.same (.same .nil)))))))) (b_call (ok__law_text T) (hr.mono (by decide)) rfl T.m__law_text T.F__law_text.kp T.b_f__law_text (a_consS (bv 2) (a_consS (b_ix hu (b_sh (b_lst (a_consS b_int (a_consS b_int (a_consS b_int (a_consS b_int (a_consS b_int a_nil))))))) (b_bin o_mod (bv 3) b_int)) a_nil))))
    · exact s_nil
  refine s_cons (Γ1 := [.s, .s, .s, .s, .s, .s, .s, .s]) ?_ ?_
  · refine (s_if (.same (.same (.same (.same (.same (.same (.same (.same .nil)))))))) (b_cmpT (o_eq hu) bl_eq (bv 1) b_int (by first | rfl | exact nomark _)) ?_ ?_)
    · refine s_one ?_
      refine (s_ret (.same (.same (.same (.same (.same (.same (.same (.same .nil)))))))) (b_bin o_sub (b_sh (b_bin o_add (b_ix hu (b_sh (b_lst (a_consS b_int (a_consS (b_bin o_pow b_int b_int) (a_consS (b_bin o_pow b_int b_int) a_nil))))) (b_bin o_mod (bv 2) b_int)) (b_bin o_mod (bv 3) b_int))) b_int))
    · exact s_nil
  refine s_cons (Γ1 := [.s, .s, .s, .s, .s, .s, .s, .s]) ?_ ?_
  · refine (s_if (.same (.same (.same (.same (.same (.same (.same (.same .nil)))))))) (b_cmpT (o_eq hu) bl_eq (bv 1) b_int (by first | rfl | exact nomark _)) ?_ ?_)
    · refine s_one ?_
      refine (s_ret (.same (.same (.same (.same (.same (.same (.same (.same .nil)))))))) (b_bin o_mul (b_bin o_mod (bv 2) (b_bin o_pow b_int b_int)) (b_bin o_sub b_int (b_bin o_mul b_int (b_bin o_mod (bv 3) b_int)))))
    · exact s_nil
  refine s_cons (Γ1 := [.s, .s, .s, .s, .s, .s, .s, .s]) ?_ ?_
  · refine (s_set (.same (.same (.same (.same (.same (.same (.same (.same .nil)))))))) nd rfl (.inl rfl) rfl (b_sh (b_lst (a_consS b_non (a_consS b_bl (a_consS b_bl (a_consS (b_sh (b_lst a_nil)) (a_consS (b_sh (b_lst (a_consS b_str a_nil))) (a_consS (b_tup (a_consS b_str a_nil)) (a_consS (b_sh b_dnew) (a_consS (b_tup a_nil) (a_consS b_str (a_consS (b_sh (b_lst (a_consS b_int a_nil))) (a_consS (b_tup (a_consS b_str (a_consS b_str a_nil))) (a_consS (b_sh b_disp1) a_nil)))))))))))))))
  refine s_one ?_
  refine (s_ret (.same (.same (.same (.same (.same (.same (.same (.same .nil)))))))) (b_ix hu (bv 7) (b_bin o_mod (bv 3) b_int)))
theorem sc__law_due_name : FnScope ["thing", "sign"] ["thing"] (defScope (top 10)) := ⟨rfl, rfl, rfl, by decide +kernel, rfl, by decide +kernel, by decide +kernel⟩
set_option maxHeartbeats 0 in
theorem ok__law_due_name (T : Txt K mg) : FnB P w K mg base 1 T.a__law_due_name T.fd__law_due_name ["thing"] .s f__law_due_name := by
  refine fn_B (N := ["thing", "sign"]) (k := 0) (Γ0 := [.s, .s]) (Γ' := [.s, .s]) (body := y__law_due_name) T.F__law_due_name sc__law_due_name rfl fun cdv A outer s H E hr => ?_
  have hu := hu_of hr
  have nd := sc__law_due_name.nd
  refine s_cons (Γ1 := [.s, .s]) ?_ ?_
  · refine (s_if (.same (.same .nil)) (PWB.pt (b_orT (b_notT (b_test (b_isK (by decide) T.known T.knownE rfl T.b_isinstance rfl T.b_str rfl (bv 0)))) (b_orT (b_cmpT (o_eq hu) bl_eq (bv 0) b_str (by first | rfl | exact nomark _)) (b_or1T (b_cmpT o_gt bl_gt (b_callB k_len rfl T.b_len PySem.boot_len (a_consS (bv 0) a_nil)) b_int (by first | rfl | exact nomark _)))))) ?_ ?_)
    · refine s_one ?_
      refine (s_ret (.same (.same .nil)) b_bl)
    · exact s_nil
  refine s_cons (Γ1 := [.s, .s]) ?_ ?_
  · refine (s_for (.same (.same .nil)) rfl nd rfl (.inl rfl) rfl (i_V (bv 0)) ?_)
    · refine s_one ?_
      refine (s_if (.same (.same .nil)) (b_cmpT (o_notin hu) bl_notin (bv 1) b_str (by first | rfl | exact nomark _)) ?_ ?_)
      · refine s_one ?_
        refine (s_ret (.same (.same .nil)) b_bl)
      · exact s_nil
  refine s_one ?_
  refine (s_ret (.same (.same .nil)) b_bl)
theorem sc_law : FnScope ["script", "thing", "whole", "due", "found", "k"] ["script"] (defScope (top 11)) := ⟨rfl, rfl, rfl, by decide +kernel, rfl, by decide +kernel, by decide +kernel⟩
set_option maxHeartbeats 0 in
theorem ok_law (T : Txt K mg) : FnB P w K mg base 3 T.a_law T.fd_law ["script"] .s f_law := by
  refine fn_B (N := ["script", "thing", "whole", "due", "found", "k"]) (k := 2) (Γ0 := [.s, .s, .s, .s, .s, .s]) (Γ' := [.s, .s, .s, .s, .s, .s]) (body := y_law) T.F_law sc_law rfl fun cdv A outer s H E hr => ?_
  have hu := hu_of hr
  have nd := sc_law.nd
  refine s_cons (Γ1 := [.s, .s, .s, .s, .s, .s]) ?_ ?_
  · refine (s_set (.same (.same (.same (.same (.same (.same .nil)))))) nd rfl (.inl rfl) rfl (b_call (ok__law_thing T) (hr.mono (by decide)) rfl T.m__law_thing T.F__law_thing.kp T.b_f__law_thing (a_consS (bv 0) a_nil)))
  refine s_cons (Γ1 := [.s, .s, .s, .s, .s, .s]) ?_ ?_
  · refine (s_set (.same (.same (.same (.same (.same (.same .nil)))))) nd rfl (.inl rfl) rfl (b_and (b_isK (by decide) T.known T.knownE rfl T.b_isinstance rfl T.b_int rfl (bv 1)) (b_one (b_not (b_isK (by decide) T.known T.knownE rfl T.b_isinstance rfl T.b_bool rfl (bv 1))))))
  refine s_cons (Γ1 := [.s, .s, .s, .s, .s, .s]) ?_ ?_
  · refine (s_set (.same (.same (.same (.same (.same (.same .nil)))))) nd rfl (.inl rfl) rfl (b_sh (b_lst (a_consS (b_call (ok__law_due_name T) (hr.mono (by decide)) rfl T.m__law_due_name T.F__law_due_name.kp T.b_f__law_due_name (a_consS (bv 1) a_nil)) (a_consS (b_and (bv 2) (b_one (b_chain o_lt o_lt b_int (bv 1) (b_bin o_pow b_int b_int)))) (a_consS (b_and (bv 2) (b_one (b_chain o_le o_lt b_int (bv 1) (b_bin o_pow b_int b_int)))) a_nil))))))
  refine s_cons (Γ1 := [.s, .s, .s, .s, .s, .s]) ?_ ?_
  · refine (s_set (.same (.same (.same (.same (.same (.same .nil)))))) nd rfl (.inl rfl) rfl (b_sh (b_lst (a_consS (b_call (ok_is_name T) (hr.mono (by decide)) rfl T.m_is_name T.F_is_name.kp T.b_f_is_name (a_consS (bv 1) a_nil)) (a_consS (b_call (ok_is_amount T) (hr.mono (by decide)) rfl T.m_is_amount T.F_is_amount.kp T.b_f_is_amount (a_consS (bv 1) a_nil)) (a_consS (b_call (ok_is_line T) (hr.mono (by decide)) rfl T.m_is_line T.F_is_line.kp T.b_f_is_line (a_consS (bv 1) a_nil)) a_nil))))))
  refine s_cons (Γ1 := [.s, .s, .s, .s, .s, .s]) ?_ ?_
  · refine (s_for (.same (.same (.same (.same (.same (.same .nil)))))) rfl nd rfl (.inl rfl) rfl (i_range1 rfl T.b_range (a_consS b_int a_nil)) ?_)
    · refine s_one ?_
      refine (s_if (.same (.same (.same (.same (.same (.same .nil)))))) (PWB.pt (b_orT (b_notT (b_test (b_isK (by decide) T.known T.knownE rfl T.b_isinstance rfl T.b_bool rfl (b_ix hu (bv 4) (bv 5))))) (b_or1T (b_cmpT (o_ne hu) bl_ne (b_ix hu (bv 4) (bv 5)) (b_ix hu (bv 3) (bv 5)) (by first | rfl | exact nomark _))))) ?_ ?_)
      · refine s_one ?_
        refine (s_ret (.same (.same (.same (.same (.same (.same .nil)))))) b_bl)
      · exact s_nil
  refine s_one ?_
  refine (s_ret (.same (.same (.same (.same (.same (.same .nil)))))) b_bl)
end

end B

namespace B
open PySem PySem.Spec PyProof.Rows L2
theorem all_mk {l : PySem.W.OpenLaw} {w : World} {K : PySem.W.Frag} {h : Heap} {mg : MG} {fa : Addr} (X : K.In h) (G : h.Ns mainGlobals mg) (hfa : mg "law" = some (.ref fa))
    {f_is_whole : Addr} {od_is_whole an_is_whole : Option Addr} {sl_is_whole : Array (Option Value)} {oc_is_whole kV_is_whole dc_is_whole pm_is_whole cd_is_whole ct_is_whole : Value}
    {f_is_name : Addr} {od_is_name an_is_name : Option Addr} {sl_is_name : Array (Option Value)} {oc_is_name kV_is_name dc_is_name pm_is_name cd_is_name ct_is_name : Value}
    {f_is_amount : Addr} {od_is_amount an_is_amount : Option Addr} {sl_is_amount : Array (Option Value)} {oc_is_amount kV_is_amount dc_is_amount pm_is_amount cd_is_amount ct_is_amount : Value}
    {f_is_line : Addr} {od_is_line an_is_line : Option Addr} {sl_is_line : Array (Option Value)} {oc_is_line kV_is_line dc_is_line pm_is_line cd_is_line ct_is_line : Value}
    {f__law_cell_at : Addr} {od__law_cell_at an__law_cell_at : Option Addr} {sl__law_cell_at : Array (Option Value)} {oc__law_cell_at kV__law_cell_at dc__law_cell_at pm__law_cell_at cd__law_cell_at ct__law_cell_at : Value}
    {f__law_text : Addr} {od__law_text an__law_text : Option Addr} {sl__law_text : Array (Option Value)} {oc__law_text kV__law_text dc__law_text pm__law_text cd__law_text ct__law_text : Value}
    {f__law_thing : Addr} {od__law_thing an__law_thing : Option Addr} {sl__law_thing : Array (Option Value)} {oc__law_thing kV__law_thing dc__law_thing pm__law_thing cd__law_thing ct__law_thing : Value}
    {f__law_due_name : Addr} {od__law_due_name an__law_due_name : Option Addr} {sl__law_due_name : Array (Option Value)} {oc__law_due_name kV__law_due_name dc__law_due_name pm__law_due_name cd__law_due_name ct__law_due_name : Value}
    {f_law : Addr} {od_law an_law : Option Addr} {sl_law : Array (Option Value)} {oc_law kV_law dc_law pm_law cd_law ct_law : Value}
    {t_LETTERS : Tok}
    (a_is_whole : PySem.W.nsIn K mainGlobals "is_whole" = some (some (.ref f_is_whole))) (l_is_whole : K.lookup f_is_whole = some ⟨oc_is_whole, od_is_whole, .func (PySem.W.fnOf "is_whole" "is_whole" (defArgs (top 2)) (defBody (top 2)) (defScope (top 2)) .none kV_is_whole dc_is_whole pm_is_whole an_is_whole cd_is_whole ct_is_whole), sl_is_whole⟩) (c_is_whole : PySem.W.codeIn K cd_is_whole "is_whole" = true) (k_is_whole : PySem.W.keepIn K (.ref f_is_whole) = true)
    (a_is_name : PySem.W.nsIn K mainGlobals "is_name" = some (some (.ref f_is_name))) (l_is_name : K.lookup f_is_name = some ⟨oc_is_name, od_is_name, .func (PySem.W.fnOf "is_name" "is_name" (defArgs (top 3)) (defBody (top 3)) (defScope (top 3)) .none kV_is_name dc_is_name pm_is_name an_is_name cd_is_name ct_is_name), sl_is_name⟩) (c_is_name : PySem.W.codeIn K cd_is_name "is_name" = true) (k_is_name : PySem.W.keepIn K (.ref f_is_name) = true)
    (a_is_amount : PySem.W.nsIn K mainGlobals "is_amount" = some (some (.ref f_is_amount))) (l_is_amount : K.lookup f_is_amount = some ⟨oc_is_amount, od_is_amount, .func (PySem.W.fnOf "is_amount" "is_amount" (defArgs (top 4)) (defBody (top 4)) (defScope (top 4)) .none kV_is_amount dc_is_amount pm_is_amount an_is_amount cd_is_amount ct_is_amount), sl_is_amount⟩) (c_is_amount : PySem.W.codeIn K cd_is_amount "is_amount" = true) (k_is_amount : PySem.W.keepIn K (.ref f_is_amount) = true)
    (a_is_line : PySem.W.nsIn K mainGlobals "is_line" = some (some (.ref f_is_line))) (l_is_line : K.lookup f_is_line = some ⟨oc_is_line, od_is_line, .func (PySem.W.fnOf "is_line" "is_line" (defArgs (top 5)) (defBody (top 5)) (defScope (top 5)) .none kV_is_line dc_is_line pm_is_line an_is_line cd_is_line ct_is_line), sl_is_line⟩) (c_is_line : PySem.W.codeIn K cd_is_line "is_line" = true) (k_is_line : PySem.W.keepIn K (.ref f_is_line) = true)
    (a__law_cell_at : PySem.W.nsIn K mainGlobals "_law_cell_at" = some (some (.ref f__law_cell_at))) (l__law_cell_at : K.lookup f__law_cell_at = some ⟨oc__law_cell_at, od__law_cell_at, .func (PySem.W.fnOf "_law_cell_at" "_law_cell_at" (defArgs (top 7)) (defBody (top 7)) (defScope (top 7)) .none kV__law_cell_at dc__law_cell_at pm__law_cell_at an__law_cell_at cd__law_cell_at ct__law_cell_at), sl__law_cell_at⟩) (c__law_cell_at : PySem.W.codeIn K cd__law_cell_at "_law_cell_at" = true) (k__law_cell_at : PySem.W.keepIn K (.ref f__law_cell_at) = true)
    (a__law_text : PySem.W.nsIn K mainGlobals "_law_text" = some (some (.ref f__law_text))) (l__law_text : K.lookup f__law_text = some ⟨oc__law_text, od__law_text, .func (PySem.W.fnOf "_law_text" "_law_text" (defArgs (top 8)) (defBody (top 8)) (defScope (top 8)) .none kV__law_text dc__law_text pm__law_text an__law_text cd__law_text ct__law_text), sl__law_text⟩) (c__law_text : PySem.W.codeIn K cd__law_text "_law_text" = true) (k__law_text : PySem.W.keepIn K (.ref f__law_text) = true)
    (a__law_thing : PySem.W.nsIn K mainGlobals "_law_thing" = some (some (.ref f__law_thing))) (l__law_thing : K.lookup f__law_thing = some ⟨oc__law_thing, od__law_thing, .func (PySem.W.fnOf "_law_thing" "_law_thing" (defArgs (top 9)) (defBody (top 9)) (defScope (top 9)) .none kV__law_thing dc__law_thing pm__law_thing an__law_thing cd__law_thing ct__law_thing), sl__law_thing⟩) (c__law_thing : PySem.W.codeIn K cd__law_thing "_law_thing" = true) (k__law_thing : PySem.W.keepIn K (.ref f__law_thing) = true)
    (a__law_due_name : PySem.W.nsIn K mainGlobals "_law_due_name" = some (some (.ref f__law_due_name))) (l__law_due_name : K.lookup f__law_due_name = some ⟨oc__law_due_name, od__law_due_name, .func (PySem.W.fnOf "_law_due_name" "_law_due_name" (defArgs (top 10)) (defBody (top 10)) (defScope (top 10)) .none kV__law_due_name dc__law_due_name pm__law_due_name an__law_due_name cd__law_due_name ct__law_due_name), sl__law_due_name⟩) (c__law_due_name : PySem.W.codeIn K cd__law_due_name "_law_due_name" = true) (k__law_due_name : PySem.W.keepIn K (.ref f__law_due_name) = true)
    (a_law : PySem.W.nsIn K mainGlobals "law" = some (some (.ref f_law))) (l_law : K.lookup f_law = some ⟨oc_law, od_law, .func (PySem.W.fnOf "law" "law" (defArgs (top 11)) (defBody (top 11)) (defScope (top 11)) .none kV_law dc_law pm_law an_law cd_law ct_law), sl_law⟩) (c_law : PySem.W.codeIn K cd_law "law" = true) (k_law : PySem.W.keepIn K (.ref f_law) = true)
    (g_LETTERS : PySem.W.nsIn K mainGlobals "LETTERS" = some (some (.str (Str.ofString "abcdefghijklmnopqrstuvwxyz") t_LETTERS)))
    (z_all : PySem.W.nsIn K mainGlobals "all" = some none)
    (z_range : PySem.W.nsIn K mainGlobals "range" = some none)
    (z_isinstance : PySem.W.nsIn K mainGlobals "isinstance" = some none)
    (z_int : PySem.W.nsIn K mainGlobals "int" = some none)
    (z_str : PySem.W.nsIn K mainGlobals "str" = some none)
    (z_len : PySem.W.nsIn K mainGlobals "len" = some none)
    (z_bool : PySem.W.nsIn K mainGlobals "bool" = some none) :
    ∃ fd : FuncData, (∀ (s : Shared) (v : Value), BindsTo s fd ⟨[v], []⟩ [("script", v)]) ∧ ∀ base : Heap, K.In base → base.Ns mainGlobals mg → FnOk l.prog w K mg base (CXB l.prog w) 3 fa fd ["script"] spLaw := by
  have e := hfa.symm.trans (PySem.W.mg_of X G a_law)
  cases e
  have F_is_whole := fun_mk (st := top 2) l_is_whole c_is_whole k_is_whole
  have F_is_name := fun_mk (st := top 3) l_is_name c_is_name k_is_name
  have F_is_amount := fun_mk (st := top 4) l_is_amount c_is_amount k_is_amount
  have F_is_line := fun_mk (st := top 5) l_is_line c_is_line k_is_line
  have F__law_cell_at := fun_mk (st := top 7) l__law_cell_at c__law_cell_at k__law_cell_at
  have F__law_text := fun_mk (st := top 8) l__law_text c__law_text k__law_text
  have F__law_thing := fun_mk (st := top 9) l__law_thing c__law_thing k__law_thing
  have F__law_due_name := fun_mk (st := top 10) l__law_due_name c__law_due_name k__law_due_name
  have F_law := fun_mk (st := top 11) l_law c_law k_law
  have T : ∃ T : Txt K mg, T.a_law = fa ∧ T.fd_law = PySem.W.fnOf "law" "law" (defArgs (top 11)) (defBody (top 11)) (defScope (top 11)) .none kV_law dc_law pm_law an_law cd_law ct_law := ⟨{
    b_all := PySem.W.mg_none_of X G z_all
    b_range := PySem.W.mg_none_of X G z_range
    b_isinstance := PySem.W.mg_none_of X G z_isinstance
    b_int := PySem.W.mg_none_of X G z_int
    b_str := PySem.W.mg_none_of X G z_str
    b_len := PySem.W.mg_none_of X G z_len
    b_bool := PySem.W.mg_none_of X G z_bool
    t_LETTERS := t_LETTERS
    c_LETTERS := PySem.W.mg_of X G g_LETTERS
    known := fun c h => by cases h
    a_is_whole := f_is_whole
    fd_is_whole := _
    F_is_whole := F_is_whole
    m_is_whole := PySem.W.mg_of X G a_is_whole
    b_f_is_whole := F_is_whole.binds (ps := ["thing"]) fun _ _ _ _ _ _ us hl => match us, hl with | [_], _ => rfl
    a_is_name := f_is_name
    fd_is_name := _
    F_is_name := F_is_name
    m_is_name := PySem.W.mg_of X G a_is_name
    b_f_is_name := F_is_name.binds (ps := ["thing"]) fun _ _ _ _ _ _ us hl => match us, hl with | [_], _ => rfl
    a_is_amount := f_is_amount
    fd_is_amount := _
    F_is_amount := F_is_amount
    m_is_amount := PySem.W.mg_of X G a_is_amount
    b_f_is_amount := F_is_amount.binds (ps := ["thing"]) fun _ _ _ _ _ _ us hl => match us, hl with | [_], _ => rfl
    a_is_line := f_is_line
    fd_is_line := _
    F_is_line := F_is_line
    m_is_line := PySem.W.mg_of X G a_is_line
    b_f_is_line := F_is_line.binds (ps := ["thing"]) fun _ _ _ _ _ _ us hl => match us, hl with | [_], _ => rfl
    a__law_cell_at := f__law_cell_at
    fd__law_cell_at := _
    F__law_cell_at := F__law_cell_at
    m__law_cell_at := PySem.W.mg_of X G a__law_cell_at
    b_f__law_cell_at := F__law_cell_at.binds (ps := ["script", "k"]) fun _ _ _ _ _ _ us hl => match us, hl with | [_, _], _ => rfl
    a__law_text := f__law_text
    fd__law_text := _
    F__law_text := F__law_text
    m__law_text := PySem.W.mg_of X G a__law_text
    b_f__law_text := F__law_text.binds (ps := ["cell", "many"]) fun _ _ _ _ _ _ us hl => match us, hl with | [_, _], _ => rfl
    a__law_thing := f__law_thing
    fd__law_thing := _
    F__law_thing := F__law_thing
    m__law_thing := PySem.W.mg_of X G a__law_thing
    b_f__law_thing := F__law_thing.binds (ps := ["script"]) fun _ _ _ _ _ _ us hl => match us, hl with | [_], _ => rfl
    a__law_due_name := f__law_due_name
    fd__law_due_name := _
    F__law_due_name := F__law_due_name
    m__law_due_name := PySem.W.mg_of X G a__law_due_name
    b_f__law_due_name := F__law_due_name.binds (ps := ["thing"]) fun _ _ _ _ _ _ us hl => match us, hl with | [_], _ => rfl
    a_law := fa
    fd_law := _
    F_law := F_law
    m_law := PySem.W.mg_of X G a_law
    b_f_law := F_law.binds (ps := ["script"]) fun _ _ _ _ _ _ us hl => match us, hl with | [_], _ => rfl
  }, rfl, rfl⟩
  obtain ⟨T, e1, e2⟩ := T
  refine ⟨PySem.W.fnOf "law" "law" (defArgs (top 11)) (defBody (top 11)) (defScope (top 11)) .none kV_law dc_law pm_law an_law cd_law ct_law, fun s v => .of_eq rfl, fun base _ _ => ?_⟩
  have F := ok_law (P := l.prog) (w := w) (base := base) T
  rw [e1, e2] at F
  exact F.imp fun vs H Q E h => sp_law law_holds h
end B
open PySem PySem.W PyProof.Rows
set_option maxRecDepth 100000 in
set_option maxHeartbeats 0 in
theorem PySem.Challenge.cw_trustways_k01_names_amounts_lines_holds : PySem.Challenge.rw_trustways_k01_names_amounts_lines.Holds := by
  w_on; o_law; k_head; (case hw => w_witness2)
  k_fill
  refine B.walk (l := PySem.Challenge.rw_trustways_k01_names_amounts_lines) (k := 3) rfl rfl ⟨rfl, by decide, by decide⟩ (fun w h Y => PySem.W.kIn_of Y) ?kNoL ?kFns
  case kNoL => exact fun w => by first | exact rfl | kernel_rfl | kernel_rfl!
  case kFns =>
    intro w mg fa h KX G hmg
    refine' B.all_mk KX G hmg ?a_is_whole ?l_is_whole ?c_is_whole ?k_is_whole ?a_is_name ?l_is_name ?c_is_name ?k_is_name ?a_is_amount ?l_is_amount ?c_is_amount ?k_is_amount ?a_is_line ?l_is_line ?c_is_line ?k_is_line ?a__law_cell_at ?l__law_cell_at ?c__law_cell_at ?k__law_cell_at ?a__law_text ?l__law_text ?c__law_text ?k__law_text ?a__law_thing ?l__law_thing ?c__law_thing ?k__law_thing ?a__law_due_name ?l__law_due_name ?c__law_due_name ?k__law_due_name ?a_law ?l_law ?c_law ?k_law ?g_LETTERS ?z_all ?z_range ?z_isinstance ?z_int ?z_str ?z_len ?z_bool
    (case a_is_whole => k_is)
    (case l_is_whole => k_is)
    (case c_is_whole => k_is)
    (case k_is_whole => k_is)
    (case a_is_name => k_is)
    (case l_is_name => k_is)
    (case c_is_name => k_is)
    (case k_is_name => k_is)
    (case a_is_amount => k_is)
    (case l_is_amount => k_is)
    (case c_is_amount => k_is)
    (case k_is_amount => k_is)
    (case a_is_line => k_is)
    (case l_is_line => k_is)
    (case c_is_line => k_is)
    (case k_is_line => k_is)
    (case a__law_cell_at => k_is)
    (case l__law_cell_at => k_is)
    (case c__law_cell_at => k_is)
    (case k__law_cell_at => k_is)
    (case a__law_text => k_is)
    (case l__law_text => k_is)
    (case c__law_text => k_is)
    (case k__law_text => k_is)
    (case a__law_thing => k_is)
    (case l__law_thing => k_is)
    (case c__law_thing => k_is)
    (case k__law_thing => k_is)
    (case a__law_due_name => k_is)
    (case l__law_due_name => k_is)
    (case c__law_due_name => k_is)
    (case k__law_due_name => k_is)
    (case a_law => k_is)
    (case l_law => k_is)
    (case c_law => k_is)
    (case k_law => k_is)
    (case g_LETTERS => k_is)
    (case z_all => k_is)
    (case z_range => k_is)
    (case z_isinstance => k_is)
    (case z_int => k_is)
    (case z_str => k_is)
    (case z_len => k_is)
    (case z_bool => k_is)
