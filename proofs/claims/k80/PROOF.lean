import PyProof.Rows.All
import Wide.All
import OpenK.AllK
import Wide.FinOn
import Lean
import PyProof.EqAt
import PyProof.EqKinds
import PyProof.TupleCall
import PySem.Builtin.Str.Common
import PySem.Syntax
import PyProof.Rows.StrMadeLen
import PyProof.StrWalks
import PyProof.CompFree
import PyProof.ConsumeWalk
import PyProof.SumAny
import PyProof.StrBlockL
import KE.IntText
import PyProof.RulesAs
import PyProof.NsDelKeeps
import KE.KTryMore
import KE.KIsAll
import PyProof.IsiH_set
import PyProof.StrBlockH
import KE.KIntText
import PyProof.ExcBaseAll.ValueError
import PyProof.Rows.SetFrom
import PyProof.StrLawsTight
import PyProof.StrLawsIdx
import PyProof.StrLawsIn
import KE.IntTextText
import PySem.Challenge.RW_trustways_k80_rows_read
set_option Elab.async false
set_option linter.all false
set_option maxRecDepth 100000
namespace L2
open PySem PySem.Spec PyProof.Rows
abbrev Key := Sum Int Str
def Z47 : Key -> Value -> Bool
  | .inl k, v => Value.isInt k v
  | .inr x, v => Value.isStrOf x v
def keyH (w : World) : Key -> Int
  | .inl k => hashInt k
  | .inr x => hashStr w x
theorem Zz : ∀ {k : Key} {v : Value}, Z47 k v = true -> (∃ i t, k = Sum.inl i /\ v = Value.int i t) \/ (∃ x t, k = Sum.inr x /\ v = Value.str x t)
  | .inl i, v, h => by
    obtain ⟨t, e⟩ := Value.isInt_shape (k := i) (v := v) h
    exact .inl ⟨i, t, rfl, e⟩
  | .inr x, v, h => by
    obtain ⟨t, e⟩ := Value.isStrOf_shape (x := x) (v := v) h
    exact .inr ⟨x, t, rfl, e⟩
theorem Zbt (i : Int) (t : Tok) : Z47 (.inl i) (.int i t) = true := by simp [Z47, Value.isInt]
theorem Zc6 (x : Str) (t : Tok) : Z47 (.inr x) (.str x t) = true := by simp [Z47, Value.isStrOf]
theorem Zco (a b : Int) : decide ((Sum.inl a : Key) = Sum.inl b) = (a == b) := by
  by_cases e : a = b
  . subst e; simp
  . have h : ¬ (Sum.inl a : Key) = Sum.inl b := fun q => e (Sum.inl.inj q)
    rw [decide_eq_false h]
    exact (beq_eq_false_iff_ne.mpr e).symm
theorem Zcw (a b : Str) : decide ((Sum.inr a : Key) = Sum.inr b) = decide (a = b) := by
  by_cases e : a = b
  . subst e; simp
  . have h : ¬ (Sum.inr a : Key) = Sum.inr b := fun q => e (Sum.inr.inj q)
    rw [decide_eq_false h, decide_eq_false e]
theorem Zc2 (a : Int) (b : Str) : decide ((Sum.inl a : Key) = Sum.inr b) = false := decide_eq_false (fun q => nomatch q)
theorem Zb1 (a : Str) (b : Int) : decide ((Sum.inr a : Key) = Sum.inl b) = false := decide_eq_false (fun q => nomatch q)
def Z14 (prog : Program) (w : World) : PySem.KeyKind prog w Key where
  is := Z47
  hash := keyH w
  inj := fun v a b ha hb => by
    rcases Zz ha with ⟨i, t, rfl, rfl⟩ | ⟨x, t, rfl, rfl⟩
    . rcases Zz hb with ⟨j, u, rfl, e⟩ | ⟨y, u, rfl, e⟩
      . injection e with e1 _; rw [e1]
      . exact nomatch e
    . rcases Zz hb with ⟨j, u, rfl, e⟩ | ⟨y, u, rfl, e⟩
      . exact nomatch e
      . injection e with e1 _; rw [e1]
  byValue := fun k v h => by
    rcases Zz h with ⟨i, t, rfl, rfl⟩ | ⟨x, t, rfl, rfl⟩ <;> rfl
  pyHash := fun hv h => by
    rcases Zz hv with ⟨i, t, rfl, rfl⟩ | ⟨x, t, rfl, rfl⟩
    . exact wpAny_pyHash_int h
    . exact wpAny_pyHash_str h
  eqBool := fun hu hv h => by
    rcases Zz hu with ⟨i, t, rfl, rfl⟩ | ⟨x, t, rfl, rfl⟩
    . rcases Zz hv with ⟨j, u, rfl, rfl⟩ | ⟨y, u, rfl, rfl⟩
      . rw [Zco] at h; exact wpAny_eqBool_int h
      . rw [Zc2] at h; exact SeqAt.EqAt.int_str i t y u _ _ _ _ h
    . rcases Zz hv with ⟨j, u, rfl, rfl⟩ | ⟨y, u, rfl, rfl⟩
      . rw [Zb1] at h; exact SeqAt.EqAt.str_int x t j u _ _ _ _ h
      . rw [Zcw] at h; exact wpAny_eqBool_str h
  «strs» := fun k x t v h => by
    rcases Zz h with ⟨i, u, rfl, e⟩ | ⟨y, u, rfl, e⟩
    . exact nomatch e
    . injection e with e1 _
      subst e1
      cases v <;> rfl
theorem Z91 (prog : Program) (w : World) (i : Int) (t : Tok) : (Z14 prog w).is (.inl i) (.int i t) = true := Zbt i t
theorem Z8w (prog : Program) (w : World) (x : Str) (t : Tok) : (Z14 prog w).is (.inr x) (.str x t) = true := Zc6 x t
end L2
namespace L2
open PySem PySem.Spec PyProof.Rows
inductive V where
  | non | bl (b : Bool) | int (i : Int) | str (x : Str) | byt (b : Array UInt8) | flt (b : UInt64) | ref (a : Addr) | ty (n : String)
  deriving DecidableEq
def RelV : V -> Value -> Prop
  | .non, u => u = Value.none
  | .bl b, u => u = Value.bool b
  | .int i, u => ∃ t, u = Value.int i t
  | .str x, u => ∃ t, u = Value.str x t
  | .byt b, u => ∃ t, u = Value.bytes b t
  | .flt b, u => ∃ t, u = Value.float b t
  | .ref a, u => u = Value.ref a
  | .ty n, u => u = Value.type n
abbrev Vals : List V -> List Value -> Prop := Paired RelV
theorem Vals.length {xs : List V} {us : List Value} (r : Vals xs us) : xs.length = us.length := Paired.length r
theorem Vals.get : ∀ {xs : List V} {us : List Value} {i : Nat} {x : V}, Vals xs us -> xs[i]? = some x -> ∃ u, us[i]? = some u /\ RelV x u
  | _, _, _, _, .nil, e => by simp at e
  | _, _, 0, _, .cons r _, e => by simp at e; subst e; exact ⟨_, rfl, r⟩
  | _, _, i + 1, x, .cons _ t, e => by
    obtain ⟨u, h1, h2⟩ := Vals.get (i := i) (x := x) t (by simpa using e)
    exact ⟨u, by simpa using h1, h2⟩
theorem Vals.append : ∀ {xs ys : List V} {us ws : List Value}, Vals xs us -> Vals ys ws -> Vals (xs ++ ys) (us ++ ws)
  | _, _, _, _, .nil, s => s
  | _, _, _, _, .cons r t, s => .cons r (Vals.append t s)
theorem Vals.take : ∀ {xs : List V} {us : List Value} (n : Nat), Vals xs us -> Vals (xs.take n) (us.take n)
  | _, _, 0, _ => .nil
  | _, _, _ + 1, .nil => .nil
  | _, _, n + 1, .cons r t => .cons r (Vals.take n t)
theorem Vals.drop : ∀ {xs : List V} {us : List Value} (n : Nat), Vals xs us -> Vals (xs.drop n) (us.drop n)
  | _, _, 0, r => r
  | _, _, _ + 1, .nil => .nil
  | _, _, n + 1, .cons _ t => Vals.drop n t
def RelO : Option V -> Option Value -> Prop
  | some v, some u => RelV v u
  | none, none => True
  | _, _ => False
def KV {κ : Type} : List (κ × V) -> List (κ × Value) -> Prop := Paired fun (p : κ × V) (q : κ × Value) => p.1 = q.1 /\ RelV p.2 q.2
def kV : Key -> V
  | .inl i => .int i
  | .inr x => .str x
inductive HO where
  | lst (xs : List V)
  | tup (xs : List V)
  | dK (kvs : List (Key × V)) | dT (kvs : List (List Key × V))
  | set (S : Int -> Bool) (n : Nat)
  | ins (C dx : Addr) (fs : List (Str × V))
  | own (x : Addr)
  | xd (fs : List (Str × V))
  | met (f x : Addr)
  | rng (lo hi : Int)
  | frz (o : Obj) (u : HO)
  | tbl (ps : Array Value)
  | ext (φ : Heap -> Prop)
abbrev Hp := Addr -> Option HO
def upd (H : Hp) (a : Addr) (o : HO) : Hp := fun b => if b = a then some o else H b
theorem Zg {H : Hp} {a : Addr} {o : HO} : upd H a o a = some o := by unfold upd; rw [if_pos rfl]
theorem Z8 {H : Hp} {a b : Addr} {o : HO} (h : b ≠ a) : upd H a o b = H b := by unfold upd; rw [if_neg h]
theorem Z10 {H : Hp} {a b : Addr} {o : HO} (h : H a = some o) (h' : H b = none) : a ≠ b := by
  intro e; subst e; rw [h] at h'; cases h'
section
variable (P : Program) (w : World)
def Zq (H : Hp) (h : Heap) (a : Addr) : HO -> Prop
  | .lst xs => xs.length <= sizeLine /\ ∃ (its : List Value) (n : Nat), Vals xs its /\ h.get? a = some { cls := .type "list", data := .seq its.toArray n }
  | .tup xs => xs.length <= sizeLine /\ ∃ its : List Value, Vals xs its /\ IsTup h a its.toArray
  | .dK kvs => kvs.length <= sizeLine /\ (a == sysModules) = false /\ ∃ vs, KV kvs vs /\ h.DictOf (Z14 P w) a vs
  | .dT kvs => kvs.length <= sizeLine /\ (a == sysModules) = false /\ ∃ xs : List (List Key × Addr × Value),
      Paired (fun (p : List Key × V) (q : List Key × Addr × Value) => p.1 = q.1 /\ H q.2.1 = some (.tup (p.1.map kV)) /\ RelV p.2 q.2.2) kvs xs /\
      ∃ o es ep, h.get? a = some o /\ o.ExactDict /\ o.data = .dict es ep /\ es.toList = xs.map (entryOfKey (tupleKind (Z14 P w))) /\ (xs.map (·.1)).Nodup
  | .set S n => h.SetOf (intKind P w) a S n
  | .ins C dx fs => H dx = some (.own a) /\ fs.length <= 1000 /\ dx ≠ a /\ h.get? a = some (PySem.W.instObj C dx) /\
      ∃ mA, h.Ns1 dx mA /\ (∀ f, RelO (fs.lookup f) (mA f)) /\ PySem.Within mA (fs.map (·.1))
  | .own _ => ∃ o, h.get? a = some o
  | .xd fs => ∃ mA, h.Ns1 a mA /\ ∀ f, RelO (fs.lookup f) (mA f)
  | .rng lo hi => ∃ t u v, h.get? a = some { cls := .type "range", data := .fields #[.int lo t, .int hi u, .int 1 v] }
  | .frz o u => h.get? a = some o /\ Zq H h a u
  | .tbl ps => h.get? a = some { cls := .none, data := .fields ps }
  | .met f x => h.get? a = some (PySem.W.methodObj (.ref f) (.ref x))
  | .ext φ => φ h /\ (∃ o, h.get? a = some o) /\ ∀ h1 h2 : Heap, φ h1 -> (∀ o, h1.get? a = some o -> h2.get? a = some o) -> φ h2
def HOk (H : Hp) (h : Heap) : Prop := ∀ a o, H a = some o -> Zq P w H h a o
end
section
variable {P : Program} {w : World} {H H' : Hp} {h h' : Heap} {a : Addr} {o : HO}
theorem Zq.lt (x : Zq P w H h a o) : a < h.objs.size := by
  cases o with
  | lst xs => obtain ⟨_, _, _, _, e⟩ := x; exact Heap.lt_size e
  | tup xs => obtain ⟨_, _, _, p⟩ := x; exact p.lt
  | dK kvs => obtain ⟨_, _, _, _, o, _, _, e, _⟩ := x; exact Heap.lt_size e
  | dT kvs => obtain ⟨_, _, _, _, o, _, _, e, _⟩ := x; exact Heap.lt_size e
  | set S n => obtain ⟨o, _, _, _, e, _⟩ := x; exact Heap.lt_size e
  | ins C dx fs => obtain ⟨_, _, _, e, _⟩ := x; exact Heap.lt_size e
  | own y => obtain ⟨_, e⟩ := x; exact Heap.lt_size e
  | xd fs => obtain ⟨_, ⟨_, _, _, e, _⟩, _⟩ := x; exact Heap.lt_size e
  | rng lo hi => obtain ⟨_, _, _, e⟩ := x; exact Heap.lt_size e
  | frz ob u => obtain ⟨e, _⟩ := x; exact Heap.lt_size e
  | tbl ps => exact Heap.lt_size (show h.get? a = some _ from x)
  | met f y => exact Heap.lt_size (show h.get? a = some _ from x)
  | ext φ => obtain ⟨_, ⟨_, e⟩, _⟩ := x; exact Heap.lt_size e
theorem Paired.mapP {α β : Type} {F G : α -> β -> Prop} : ∀ {l₁ : List α} {l₂ : List β}, Paired F l₁ l₂ -> (∀ a b, F a b -> G a b) -> Paired G l₁ l₂
  | _, _, .nil, _ => .nil
  | _, _, .cons r t, f => .cons (f _ _ r) (Paired.mapP t f)
theorem Zq.stay (x : Zq P w H h a o) (k : ∀ b u, (b = a \/ H b = some (.own a)) -> h.get? b = some u -> h'.get? b = some u)
    (ho : ∀ b, H b = some (.own a) -> H' b = some (.own a)) (ht : ∀ b xs, H b = some (.tup xs) -> H' b = some (.tup xs)) : Zq P w H' h' a o := by
  induction o with
  | lst xs => obtain ⟨z, its, n, r, e⟩ := x; exact ⟨z, its, n, r, k _ _ (.inl rfl) e⟩
  | tup xs => obtain ⟨z, its, r, ob, e, c⟩ := x; exact ⟨z, its, r, ob, k _ _ (.inl rfl) e, c⟩
  | dK kvs => obtain ⟨z, y, vs, r, ob, es, ep, e, c⟩ := x; exact ⟨z, y, vs, r, ob, es, ep, k _ _ (.inl rfl) e, c⟩
  | dT kvs =>
    obtain ⟨z, y, xs, r, ob, es, ep, e, c⟩ := x
    exact ⟨z, y, xs, Paired.mapP r fun p q z => ⟨z.1, ht _ _ z.2.1, z.2.2⟩, ob, es, ep, k _ _ (.inl rfl) e, c⟩
  | set S n => obtain ⟨ob, es, ep, t, e, c⟩ := x; exact ⟨ob, es, ep, t, k _ _ (.inl rfl) e, c⟩
  | ins C dx fs =>
    obtain ⟨d, z, ne, e, mA, ⟨od, es, ep, e2, c⟩, r⟩ := x
    exact ⟨ho _ d, z, ne, k _ _ (.inl rfl) e, mA, ⟨od, es, ep, k _ _ (.inr d) e2, c⟩, r⟩
  | own y => obtain ⟨ob, e⟩ := x; exact ⟨ob, k _ _ (.inl rfl) e⟩
  | xd fs => obtain ⟨mA, ⟨od, es, ep, e, c⟩, r⟩ := x; exact ⟨mA, ⟨od, es, ep, k _ _ (.inl rfl) e, c⟩, r⟩
  | rng lo hi => obtain ⟨t, u, v, e⟩ := x; exact ⟨t, u, v, k _ _ (.inl rfl) e⟩
  | frz ob u ih => obtain ⟨e, q⟩ := x; exact ⟨k _ _ (.inl rfl) e, ih q⟩
  | tbl ps =>
    have e : h.get? a = some { cls := .none, data := .fields ps } := x
    show h'.get? a = some { cls := .none, data := .fields ps }
    exact k a _ (.inl rfl) e
  | met f y =>
    have e : h.get? a = some (PySem.W.methodObj (.ref f) (.ref y)) := x
    show h'.get? a = some (PySem.W.methodObj (.ref f) (.ref y))
    exact k a _ (.inl rfl) e
  | ext φ => obtain ⟨p, ⟨o, e⟩, st⟩ := x; exact ⟨st _ _ p fun o q => k _ _ (.inl rfl) q, ⟨o, k _ _ (.inl rfl) e⟩, st⟩
theorem HOk.lt (x : HOk P w H h) (e : H a = some o) : a < h.objs.size := (x a o e).lt
theorem HOk.fresh (x : HOk P w H h) (e : h.objs.size <= a) : H a = none := by
  cases q : H a with
  | none => rfl
  | some u => exact absurd (Nat.lt_of_lt_of_le (x.lt q) e) (Nat.lt_irrefl _)
theorem HOk.kept (x : HOk P w H h) (k : ∀ b u, h.get? b = some u -> h'.get? b = some u) : HOk P w H h' := fun a o e =>
  (x a o e).stay (fun b u _ q => k b u q) (fun _ q => q) fun _ _ q => q
theorem HOk.laid (x : HOk P w H h) (k : ∀ b u, h.get? b = some u -> h'.get? b = some u) (hp : h.objs.size <= a) (new : Zq P w (upd H a o) h' a o) : HOk P w (upd H a o) h' := fun b u e => by
  have hn := x.fresh hp
  by_cases hb : b = a
  . subst hb; rw [Zg] at e; cases e; exact new
  . rw [Z8 hb] at e
    exact (x b u e).stay (fun c v _ q => k c v q) (fun c q => by rw [Z8 (Z10 q hn)]; exact q) fun c xs q => by rw [Z8 (Z10 q hn)]; exact q
end
def Rd (H : Hp) (a : Addr) (u : HO) : Prop := H a = some u \/ ∃ o, H a = some (.frz o u)
theorem Rd.ok {P : Program} {w : World} {H : Hp} {h : Heap} {a : Addr} {u : HO} (r : Rd H a u) (x : HOk P w H h) : Zq P w H h a u := by
  rcases r with r | ⟨o, r⟩
  . exact x a u r
  . obtain ⟨_, q⟩ := x a _ r
    exact q
def Mut : Option HO -> Prop
  | some (.lst _) => True
  | some (.dK _) => True
  | some (.dT _) => True
  | some (.set _ _) => True
  | some (.ins _ _ _) => True
  | some (.ext _) => True
  | _ => False
section
variable {P : Program} {w : World} {H : Hp} {h h' : Heap} {x e : Addr} {o' : HO}
theorem HOk.write (ok : HOk P w H h) (mu : Mut (H x)) (he : e = x \/ H e = some (.own x)) (k : ∀ b u, b ≠ e -> h.get? b = some u -> h'.get? b = some u) (heo : ∃ u, h'.get? e = some u)
    (new : Zq P w (upd H x o') h' x o') : HOk P w (upd H x o') h' := fun b u q => by
  have nown : ∀ c y, H c = some (.own y) -> c ≠ x := fun c y r z => by subst z; rw [r] at mu; exact mu
  have ntup : ∀ c xs, H c = some (.tup xs) -> c ≠ x := fun c xs r z => by subst z; rw [r] at mu; exact mu
  by_cases hb : b = x
  . subst hb; rw [Zg] at q; cases q; exact new
  . rw [Z8 hb] at q
    by_cases hbe : b = e
    . have q' : H b = some (.own x) := by
        rcases he with z | z
        . exact absurd (hbe.trans z) hb
        . rw [hbe]; exact z
      rw [q] at q'; cases q'
      obtain ⟨v, hv⟩ := heo
      exact ⟨v, by rw [hbe]; exact hv⟩
    . refine (ok b u q).stay (fun c v hc r => k c v ?_ r) (fun c r => by rw [Z8 (nown c b r)]; exact r) fun c xs r => by rw [Z8 (ntup c xs r)]; exact r
      rcases hc with rfl | hc
      . exact hbe
      . rintro rfl
        rcases he with z | z
        . exact nown c b hc z
        . rw [hc] at z; cases z; exact hb rfl
end
structure Un (fs ex : List Addr) (H H' : Hp) (h h' : Heap) : Prop where
  keep : ∀ b o, h.get? b = some o -> H b = none -> b ∉ fs -> b ∉ ex -> h'.get? b = some o
  slot : ∀ b o, h.get? b = some o -> H b = none -> b ∈ fs -> b ∉ ex -> ∃ sl, h'.get? b = some { o with slots := sl }
  free : ∀ b o, h.get? b = some o -> H b = none -> b ∉ ex -> H' b = none
  there : ∀ b o, h.get? b = some o -> b ∉ ex -> ∃ o', h'.get? b = some o'
  tups : ∀ b xs, H b = some (.tup xs) -> H' b = some (.tup xs)
  frzs : ∀ b o u, H b = some (.frz o u) -> H' b = some (.frz o u)
  tbls : ∀ b ps, H b = some (.tbl ps) -> ∃ more, H' b = some (.tbl (ps ++ more))
section
variable {fs fs' ex ex' : List Addr} {H H1 H2 : Hp} {h h1 h2 h' : Heap} {a x e : Addr} {o : HO}
theorem Un.any (u : Un fs ex H H1 h h1) {b : Addr} {ob : Obj} (q : h.get? b = some ob) (n : H b = none) (hx : b ∉ ex) : ∃ sl, h1.get? b = some { ob with slots := sl } := by
  by_cases hb : b ∈ fs
  . exact u.slot b ob q n hb hx
  . exact ⟨ob.slots, u.keep b ob q n hb hx⟩
theorem Un.kept (k : ∀ b u, h.get? b = some u -> h'.get? b = some u) : Un fs ex H H h h' :=
  ⟨fun b ob q _ _ _ => k b ob q, fun b ob q _ _ _ => ⟨ob.slots, k b ob q⟩, fun _ _ _ n _ => n, fun b ob q _ => ⟨ob, k b ob q⟩, fun _ _ q => q, fun _ _ _ q => q, fun _ ps q => ⟨#[], by rw [q]; simp⟩⟩
theorem Un.refl : Un fs ex H H h h := Un.kept fun _ _ q => q
theorem Un.laid (k : ∀ b u, h.get? b = some u -> h'.get? b = some u) (hp : h.objs.size <= a) (hn : H a = none) : Un fs ex H (upd H a o) h h' where
  keep := fun b u q _ _ _ => k b u q
  slot := fun b u q _ _ _ => ⟨u.slots, k b u q⟩
  free := fun b u q n _ => by rw [Z8 (Nat.ne_of_lt (Nat.lt_of_lt_of_le (Heap.lt_size q) hp))]; exact n
  there := fun b u q _ => ⟨u, k b u q⟩
  tups := fun b xs q => by rw [Z8 (Z10 q hn)]; exact q
  frzs := fun b u xs q => by rw [Z8 (Z10 q hn)]; exact q
  tbls := fun b ps q => ⟨#[], by rw [Z8 (Z10 q hn), q]; simp⟩
theorem Un.write (mu : Mut (H x)) (he : e = x \/ H e = some (.own x)) (k : ∀ b u, b ≠ e -> h.get? b = some u -> h'.get? b = some u) (heo : ∃ u, h'.get? e = some u) : Un fs ex H (upd H x o) h h' := by
  have hx : ∀ b, H b = none -> b ≠ x := fun b n z => by subst z; rw [n] at mu; exact mu
  have hb : ∀ b, H b = none -> b ≠ e := fun b n z => by
    subst z
    rcases he with r | r
    . exact hx b n r
    . rw [n] at r; cases r
  have hm : ∀ b u, H b = some u -> ¬ Mut (some u) -> b ≠ x := fun b u q nm z => by subst z; rw [q] at mu; exact nm mu
  refine ⟨fun b u q n _ _ => k b u (hb b n) q, fun b u q n _ _ => ⟨u.slots, k b u (hb b n) q⟩, fun b u q n _ => by rw [Z8 (hx b n)]; exact n, fun b u q _ => ?_,
    fun b xs q => by rw [Z8 (hm b _ q fun z => z)]; exact q, fun b u xs q => by rw [Z8 (hm b _ q fun z => z)]; exact q, fun b ps q => ⟨#[], by rw [Z8 (hm b _ q fun z => z), q]; simp⟩⟩
  by_cases hbe : b = e
  . subst hbe; exact heo
  . exact ⟨u, k b u hbe q⟩
end
def trk (h : Heap) (H : Hp) : List Addr := (List.range h.objs.size).filter fun a => (H a).isSome
def hidT (h : Heap) (H : Hp) : Heap := PySem.W.hideAll h (trk h H)
theorem Zcb (h : Heap) (H : Hp) : (hidT h H).objs.size = h.objs.size := PySem.W.hideAll_size _ _
theorem Zda {h : Heap} {H : Hp} {b : Addr} {o : Obj} (e : h.get? b = some o) (n : H b = none) : (hidT h H).get? b = some o :=
  PySem.W.hideAll_get _ e fun hm => by
    have q : (H b).isSome = true := (List.mem_filter.mp hm).2
    rw [n] at q; simp at q
theorem Zeq {h : Heap} {H : Hp} {b : Addr} {o : Obj} (e : (hidT h H).get? b = some o) : h.get? b = some o /\ H b = none := by
  have e' : h.get? b = some o := PySem.W.of_hideAll (trk h H) e
  refine ⟨e', ?_⟩
  cases q : H b with
  | none => rfl
  | some x =>
    have hm : b ∈ trk h H := List.mem_filter.mpr ⟨List.mem_range.mpr (Heap.lt_size e'), by simp [q]⟩
    have z : (hidT h H).get? b = none := PySem.W.hideAll_none (trk h H) hm
    rw [z] at e; cases e
def Zfq (g h : Heap) (L : Addr) : List (Addr × Obj) := (List.range h.objs.size).filterMap fun a => if a = L \/ (g.get? a).isSome = true then none else (h.get? a).map fun o => (a, o)
def rest (g h : Heap) (L d : Addr) : List (Addr × Obj) := (Zfq g h L).filter fun p => decide (p.1 ≠ d)
end L2
namespace L2
open PySem PySem.Spec PyProof.Rows
structure Mod (K : PySem.W.Frag) (mg : Str -> Option Value) (base : Heap) : Prop where
  kin : K.In base
  glob : base.Ns mainGlobals mg
  blt : ∃ mb, base.Ns builtinsNs mb /\ ∀ x : Str, x ≠ "__name__" -> mb x = bootBuiltins x
  nolimit : base.NoLimit
structure Cx where
  prog : Program
  w : World
  K : PySem.W.Frag
  mg : Str -> Option Value
  base : Heap
  A : Around
  N : List Str
  s₀ : Shared
  H₀ : Hp
  env : Env
  outer : List Env
  stack : List Env
  ex : List Addr
  fn : Str -> Bool
  calm : Bool
  pn : List (Addr × Obj)
  xe : Value -> Shared -> Prop
def frs (l : List Env) : List Addr := l.filterMap (·.frame)
abbrev Cx.fs (X : Cx) : List Addr := frs X.outer
def Vis (sc : Scope) (x : Str) : Prop := sc.names.lookup x = some .local \/ sc.names.lookup x = some .cell \/ sc.names.lookup x = some .free
def Loc (sc : Scope) (x : Str) : Prop := sc.names.lookup x = some .local \/ sc.names.lookup x = some .cell
def Look (env : Env) (h : Heap) (m : Str -> Option Value) (x : Str) (u : Value) : Prop :=
  (env.kindOf x = some .local /\ m x = some u) \/ ((env.kindOf x = some .cell \/ env.kindOf x = some .free) /\ ∃ c, env.cells.lookup x = some c /\ h.IsCell c (some u))
structure Cx.Ok (X : Cx) : Prop where
  mod : Mod X.K X.mg X.base
  kind : X.env.scope.kind = .function
  glob : X.env.globals = mainGlobals
  blt : X.env.builtins = builtinsNs
  above : X.s₀.heap.objs.size <= X.env.locals
  inj : ∀ x y c, X.env.cells.lookup x = some c -> X.env.cells.lookup y = some c -> x = y
  has : ∀ x, (X.env.kindOf x = some .cell \/ X.env.kindOf x = some .free) -> ∃ c, X.env.cells.lookup x = some c
  cab : ∀ x c, X.fn x = true -> X.env.cells.lookup x = some c -> X.s₀.heap.objs.size <= c
  hd : X.calm = true -> X.A.handled = none
  frames : X.A.frames = some X.stack
  stk : X.stack = X.outer \/ (X.stack = X.env :: X.outer /\ X.env.frame = some X.env.locals)
  exf : ∀ b ∈ X.ex, b ≠ X.env.locals /\ ∀ x c, X.env.cells.lookup x = some c -> c ≠ b
  bs : ∀ b o, X.base.get? b = some o -> X.s₀.heap.get? b = some o /\ X.H₀ b = none
  bsz : X.base.objs.size <= X.s₀.heap.objs.size
  noex : ∀ b o, X.base.get? b = some o -> b ∉ X.ex
  exfs : ∀ b ∈ X.ex, b ∉ X.fs
  funs : X.s₀.heap.FunFrames X.base X.outer
  frf : ∀ b ∈ X.fs, X.H₀ b = none
structure Inv (X : Cx) (pins : List (Addr × Obj)) (σ : List (Option V)) (H : Hp) (s : Shared) : Prop where
  ok : X.Ok
  os : s.os = X.s₀.os
  bare : AllBare s.gens
  base : Un X.fs X.ex X.H₀ H X.s₀.heap s.heap
  loc : ∃ m, s.heap.Ns X.env.locals m /\ ∀ (i : Nat) (x : Str) (v : V), X.N[i]? = some x -> σ[i]? = some (some v) -> Vis X.env.scope x -> ∃ u, RelV v u /\ Look X.env s.heap m x u
  cell : ∀ x c, X.env.cells.lookup x = some c -> ∃ v, s.heap.IsCell c v
  free : H X.env.locals = none
  freeC : ∀ x c, X.env.cells.lookup x = some c -> H c = none
  pin : ∀ p ∈ X.pn ++ pins, s.heap.get? p.1 = some p.2 /\ H p.1 = none /\ p.1 ≠ X.env.locals /\ p.1 ∉ X.fs /\ ∀ v, p.2.data ≠ .cell v
  hok : HOk X.prog X.w H s.heap
  len : σ.length = X.N.length
section
variable {X : Cx} {pins : List (Addr × Obj)} {σ : List (Option V)} {H H' : Hp} {s : Shared} {h' : Heap}
theorem Cx.Ok.nofr (ok : X.Ok) {b : Addr} {o : Obj} (e : X.base.get? b = some o) : b ∉ X.fs := fun hb => by
  have := (ok.funs.mem hb).1
  rw [e] at this; cases this
theorem Inv.bs (I : Inv X pins σ H s) : ∀ b o, X.base.get? b = some o -> s.heap.get? b = some o /\ H b = none := fun b o e =>
  ⟨I.base.keep b o (I.ok.bs b o e).1 (I.ok.bs b o e).2 (I.ok.nofr e) (I.ok.noex b o e), I.base.free b o (I.ok.bs b o e).1 (I.ok.bs b o e).2 (I.ok.noex b o e)⟩
theorem Inv.bk (I : Inv X pins σ H s) : ∀ b o, X.base.get? b = some o -> s.heap.get? b = some o := fun b o e => (I.bs b o e).1
theorem Inv.mod (I : Inv X pins σ H s) : Mod X.K X.mg X.base := I.ok.mod
theorem Inv.kIn (I : Inv X pins σ H s) : X.K.In s.heap := I.ok.mod.kin.keeps I.bk
theorem Inv.lt (I : Inv X pins σ H s) : X.env.locals < s.heap.objs.size := let ⟨_, hn, _⟩ := I.loc; hn.lt
theorem Inv.sz (I : Inv X pins σ H s) : X.s₀.heap.objs.size <= s.heap.objs.size := Nat.le_trans I.ok.above (Nat.le_of_lt I.lt)
theorem Inv.nofs (I : Inv X pins σ H s) {a : Addr} (h : s.heap.objs.size <= a) : a ∉ X.fs := fun hb => by
  obtain ⟨_, o, ho, _⟩ := I.ok.funs.mem hb
  exact absurd (Nat.lt_of_lt_of_le (Heap.lt_size ho) (Nat.le_trans I.sz h)) (Nat.lt_irrefl _)
theorem Inv.cne (I : Inv X pins σ H s) : ∀ x c, X.env.cells.lookup x = some c -> c ≠ X.env.locals := fun x c e z => by
  obtain ⟨v, o, ho, hd⟩ := I.cell x c e
  obtain ⟨m, ⟨o', es, ep, ho', hd', _⟩, _⟩ := I.loc
  rw [z, ho'] at ho; cases ho; rw [hd'] at hd; cases hd
theorem Inv.funs (I : Inv X pins σ H s) : s.heap.FunFrames X.base X.outer := by
  have all : ∀ (l : List Env), (∀ b ∈ frs l, b ∈ X.fs) -> X.s₀.heap.FunFrames X.base l -> s.heap.FunFrames X.base l := by
    intro l
    induction l with
    | nil => intro _ _; trivial
    | cons env r ih =>
      intro hs hl
      obtain ⟨hk, ⟨L, o, hf, hn, ho, hd⟩, hr⟩ := hl
      have hL : L ∈ X.fs := hs L (by unfold frs; rw [List.filterMap_cons, hf]; exact List.mem_cons_self)
      obtain ⟨sl, e⟩ := I.base.slot L o ho (I.ok.frf L hL) hL fun z => I.ok.exfs L z hL
      exact ⟨hk, ⟨L, _, hf, hn, e, hd⟩, ih (fun b hb => hs b (by unfold frs; rw [List.filterMap_cons, hf]; exact List.mem_cons_of_mem _ hb)) hr⟩
  exact all X.outer (fun _ hb => hb) I.ok.funs
theorem Inv.stack (I : Inv X pins σ H s) : s.heap.FunFrames X.base X.stack := by
  rcases I.ok.stk with e | ⟨e, hf⟩
  . rw [e]; exact I.funs
  . rw [e]
    obtain ⟨m, hn, _⟩ := I.loc
    refine .cons (by rw [I.ok.kind]; decide) hf hn ?_ I.funs
    exact Heap.get?_none_of_le (Nat.le_trans I.ok.bsz I.ok.above)
theorem Inv.stkSub (I : Inv X pins σ H s) : ∀ b ∈ frs X.stack, b ∈ X.env.locals :: X.fs := fun b hb => by
  rcases I.ok.stk with e | ⟨e, hf⟩
  . rw [e] at hb; exact List.mem_cons_of_mem _ hb
  . rw [e] at hb
    unfold frs at hb
    rw [List.filterMap_cons, hf] at hb
    exact hb
theorem Inv.stkFree (I : Inv X pins σ H s) : ∀ b ∈ frs X.stack, H b = none := fun b hb => by
  rcases List.mem_cons.mp (I.stkSub b hb) with e | hb
  . rw [e]; exact I.free
  . obtain ⟨_, o, ho, _⟩ := I.ok.funs.mem hb
    exact I.base.free b o ho (I.ok.frf b hb) fun z => I.ok.exfs b z hb
theorem Inv.step {g' : Array GenState} {t' : Nat} {d' : Drawn} {ch : List Addr} (I : Inv X pins σ H s)
    (hch : ∀ b ∈ ch, (b ∈ X.ex \/ X.s₀.heap.objs.size <= b) /\ b ≠ X.env.locals /\ (∀ x c, X.env.cells.lookup x = some c -> c ≠ b) /\ ∀ p ∈ X.pn ++ pins, p.1 ≠ b)
    (keep : ∀ b o, b ≠ X.env.locals -> b ∉ X.fs -> b ∉ ch -> s.heap.get? b = some o -> H b = none -> h'.get? b = some o)
    (slot : ∀ b o, b ≠ X.env.locals -> b ∈ X.fs -> b ∉ ch -> s.heap.get? b = some o -> H b = none -> ∃ sl, h'.get? b = some { o with slots := sl }) (free : ∀ b o, b ∉ ch -> s.heap.get? b = some o -> H b = none -> H' b = none)
    (there : ∀ b o, b ∉ ch -> s.heap.get? b = some o -> ∃ o', h'.get? b = some o')
    (tups : ∀ b xs, H b = some (.tup xs) -> H' b = some (.tup xs)) (frzs : ∀ b o u, H b = some (.frz o u) -> H' b = some (.frz o u)) (tbls : ∀ b ps, H b = some (.tbl ps) -> ∃ more, H' b = some (.tbl (ps ++ more)))
    (ns : ∀ m, s.heap.Ns X.env.locals m -> h'.Ns X.env.locals m) (hok : HOk X.prog X.w H' h') (hg : AllBare g') :
    Inv X pins σ H' { s with heap := h', gens := g', drawn := d', toks := t' } := by
  have neL : ∀ b o, X.s₀.heap.get? b = some o -> b ≠ X.env.locals := fun b o e => Nat.ne_of_lt (Nat.lt_of_lt_of_le (Heap.lt_size e) I.ok.above)
  have neC : ∀ b o, X.s₀.heap.get? b = some o -> b ∉ X.ex -> b ∉ ch := fun b o e hx hb => by
    rcases (hch b hb).1 with z | z
    . exact hx z
    . exact absurd (Nat.lt_of_lt_of_le (Heap.lt_size e) z) (Nat.lt_irrefl _)
  have cellK : ∀ x c, X.env.cells.lookup x = some c -> ∀ v, s.heap.IsCell c v -> h'.IsCell c v := fun x c e v ⟨o, ho, hd⟩ => by
    have nch : c ∉ ch := fun z => (hch c z).2.2.1 x c e rfl
    by_cases hc : c ∈ X.fs
    . obtain ⟨sl, q⟩ := slot c o (I.cne x c e) hc nch ho (I.freeC x c e)
      exact ⟨_, q, hd⟩
    . exact ⟨o, keep c o (I.cne x c e) hc nch ho (I.freeC x c e), hd⟩
  refine ⟨I.ok, I.os, hg, ⟨fun b o e n hb hx => ?_, fun b o e n hb hx => ?_, fun b o e n hx => ?_, fun b o e hx => ?_, fun b xs e => tups b xs (I.base.tups b xs e), fun b o xs e => frzs b o xs (I.base.frzs b o xs e), fun b ps e => ?_⟩, ?_, fun x c e => ?_, ?_, fun x c e => ?_, fun p hp => ?_, hok, I.len⟩
  . exact keep b o (neL b o e) hb (neC b o e hx) (I.base.keep b o e n hb hx) (I.base.free b o e n hx)
  . obtain ⟨sl, e1⟩ := I.base.slot b o e n hb hx
    obtain ⟨sl', e2⟩ := slot b _ (neL b o e) hb (neC b o e hx) e1 (I.base.free b o e n hx)
    exact ⟨sl', e2⟩
  . obtain ⟨o', e1⟩ := I.base.there b o e hx
    exact free b o' (neC b o e hx) e1 (I.base.free b o e n hx)
  . obtain ⟨o', e1⟩ := I.base.there b o e hx
    exact there b o' (neC b o e hx) e1
  . obtain ⟨m1, e1⟩ := I.base.tbls b ps e
    obtain ⟨m2, e2⟩ := tbls b _ e1
    exact ⟨m1 ++ m2, by rw [e2, Array.append_assoc]⟩
  . obtain ⟨m, hn, hl⟩ := I.loc
    refine ⟨m, ns m hn, fun i x v e1 e2 e3 => ?_⟩
    obtain ⟨u, r, l⟩ := hl i x v e1 e2 e3
    refine ⟨u, r, ?_⟩
    rcases l with l | ⟨k, c, e, z⟩
    . exact .inl l
    . exact .inr ⟨k, c, e, cellK x c e _ z⟩
  . obtain ⟨v, z⟩ := I.cell x c e
    exact ⟨v, cellK x c e v z⟩
  . obtain ⟨m, ⟨o, _, _, ho, _⟩, _⟩ := I.loc
    exact free _ o (fun z => (hch _ z).2.1 rfl) ho I.free
  . obtain ⟨v, o, ho, hd⟩ := I.cell x c e
    exact free c o (fun z => (hch c z).2.2.1 x c e rfl) ho (I.freeC x c e)
  . obtain ⟨e, n, ne, nf, d⟩ := I.pin p hp
    have nch : p.1 ∉ ch := fun z => (hch p.1 z).2.2.2 p hp rfl
    exact ⟨keep p.1 p.2 ne nf nch e n, free p.1 p.2 nch e n, ne, nf, d⟩
theorem Inv.un {t' : Nat} (I : Inv X pins σ H s) (u : Un X.fs [] H H' s.heap h') (hok : HOk X.prog X.w H' h') : Inv X pins σ H' { s with heap := h', toks := t' } := by
  obtain ⟨m, ⟨o, es, ep, ho, r⟩, _⟩ := id I.loc
  obtain ⟨sl, hL⟩ := u.any ho I.free (by simp)
  exact I.step (g' := s.gens) (d' := s.drawn) (ch := []) (fun _ z => nomatch z) (fun b o _ hb _ e n => u.keep b o e n hb (by simp)) (fun b o _ hb _ e n => u.slot b o e n hb (by simp)) (fun b o _ e n => u.free b o e n (by simp)) (fun b o _ e => u.there b o e (by simp)) u.tups u.frzs u.tbls (fun m' hm => by
    obtain ⟨o', es', ep', ho', r'⟩ := hm
    rw [ho] at ho'; cases ho'
    exact ⟨_, es', ep', hL, r'⟩) hok I.bare
theorem Inv.call {g' : Array GenState} {t' : Nat} {d' : Drawn} {ch : List Addr} (I : Inv X pins σ H s) (u : Un (frs X.stack) ch H H' s.heap h') (hok : HOk X.prog X.w H' h') (hg : AllBare g')
    (hch : ∀ b ∈ ch, (b ∈ X.ex \/ X.s₀.heap.objs.size <= b) /\ b ≠ X.env.locals /\ (∀ x c, X.env.cells.lookup x = some c -> c ≠ b) /\ ∀ p ∈ X.pn ++ pins, p.1 ≠ b) :
    Inv X pins σ H' { s with heap := h', gens := g', drawn := d', toks := t' } := by
  obtain ⟨m, ⟨o, es, ep, ho, r⟩, _⟩ := id I.loc
  obtain ⟨sl, hL⟩ := u.any ho I.free fun z => (hch _ z).2.1 rfl
  exact I.step (ch := ch) hch (fun b o hL hb hc e n => u.keep b o e n (fun z => (List.mem_cons.mp (I.stkSub b z)).elim hL hb) hc) (fun b o _ _ hc e n => u.any e n hc) (fun b o hc e n => u.free b o e n hc) (fun b o hc e => u.there b o e hc) u.tups u.frzs u.tbls (fun m' hm => by
    obtain ⟨o', es', ep', ho', r'⟩ := hm
    rw [ho] at ho'; cases ho'
    exact ⟨_, es', ep', hL, r'⟩) hok hg
theorem Inv.turned {t' : Nat} {it : Addr} (I : Inv X pins σ H s) (k : ∀ b o, b ≠ it -> s.heap.get? b = some o -> h'.get? b = some o) (hn : H it = none) (hL : it ≠ X.env.locals)
    (h1 : it ∈ X.ex \/ X.s₀.heap.objs.size <= it) (h2 : ∀ x c, X.env.cells.lookup x = some c -> c ≠ it) (h3 : ∀ p ∈ X.pn ++ pins, p.1 ≠ it) : Inv X pins σ H { s with heap := h', toks := t' } := by
  have nit : ∀ b u, H b = some u -> b ≠ it := fun b u e z => by rw [z, hn] at e; cases e
  refine I.step (g' := s.gens) (d' := s.drawn) (ch := [it]) (fun b hb => ?_) (fun b o _ _ hc e _ => k b o (fun z => hc (by simp [z])) e) (fun b o _ _ hc e _ => ⟨o.slots, k b o (fun z => hc (by simp [z])) e⟩) (fun _ _ _ _ n => n)
    (fun b o hc e => ⟨o, k b o (fun z => hc (by simp [z])) e⟩) (fun _ _ e => e) (fun _ _ _ e => e) (fun b ps e => ⟨#[], by rw [e]; simp⟩) (fun m hm => ?_) (fun b u e => ?_) I.bare
  . have e : b = it := by simpa using hb
    subst e
    exact ⟨h1, hL, h2, h3⟩
  . obtain ⟨o, es, ep, ho, r⟩ := hm
    exact ⟨o, es, ep, k _ o (Ne.symm hL) ho, r⟩
  . refine (I.hok b u e).stay (fun c v hc q => k c v ?_ q) (fun _ q => q) fun _ _ q => q
    rcases hc with z | z
    . rw [z]; exact nit b u e
    . exact nit c _ z
theorem Inv.tok (I : Inv X pins σ H s) (t : Nat) : Inv X pins σ H { s with toks := t } := I.un (h' := s.heap) (t' := t) Un.refl I.hok
theorem Inv.kept {t' : Nat} (I : Inv X pins σ H s) (k : ∀ b u, s.heap.get? b = some u -> h'.get? b = some u) : Inv X pins σ H { s with heap := h', toks := t' } := I.un (Un.kept k) (I.hok.kept k)
theorem Inv.laid {a : Addr} {o : HO} {t' : Nat} (I : Inv X pins σ H s) (k : ∀ b u, s.heap.get? b = some u -> h'.get? b = some u) (hp : s.heap.objs.size <= a) (new : Zq X.prog X.w (upd H a o) h' a o) :
    Inv X pins σ (upd H a o) { s with heap := h', toks := t' } := I.un (Un.laid k hp (I.hok.fresh hp)) (I.hok.laid k hp new)
theorem Inv.write {x e : Addr} {o : HO} {t' : Nat} (I : Inv X pins σ H s) (mu : Mut (H x)) (he : e = x \/ H e = some (.own x)) (k : ∀ b u, b ≠ e -> s.heap.get? b = some u -> h'.get? b = some u) (heo : ∃ u, h'.get? e = some u)
    (new : Zq X.prog X.w (upd H x o) h' x o) : Inv X pins σ (upd H x o) { s with heap := h', toks := t' } := I.un (Un.write mu he k heo) (I.hok.write mu he k heo new)
theorem Inv.pins_of {pins' : List (Addr × Obj)} (I : Inv X pins σ H s) (h : ∀ p ∈ pins', s.heap.get? p.1 = some p.2 /\ H p.1 = none /\ p.1 ≠ X.env.locals /\ p.1 ∉ X.fs /\ ∀ v, p.2.data ≠ .cell v) : Inv X pins' σ H s :=
  ⟨I.ok, I.os, I.bare, I.base, I.loc, I.cell, I.free, I.freeC, fun p hp => (List.mem_append.mp hp).elim (fun z => I.pin p (List.mem_append_left _ z)) (h p), I.hok, I.len⟩
theorem Z7p {N : List Str} (hN : N.Nodup) {i j : Nat} {x : Str} (a : N[i]? = some x) (b : N[j]? = some x) : i = j := by
  obtain ⟨h1, e1⟩ := List.getElem?_eq_some_iff.mp a
  obtain ⟨h2, e2⟩ := List.getElem?_eq_some_iff.mp b
  exact (List.getElem_inj hN).mp (e1.trans e2.symm)
theorem Z67 {M : Model} {A : Around} {E : Value -> Shared -> Prop} {i : Nat} {x : Str} {v : V} {u : Value} {Q : Unit -> Shared -> Prop} (I : Inv X pins σ H s) (hN : X.N.Nodup) (hi : X.N[i]? = some x) (hx : Loc X.env.scope x) (r : RelV v u)
    (h : ∀ s', Inv X pins (σ.set i (some v)) H s' -> (∃ a, Heap.SameBut a s.heap s'.heap /\ (a = X.env.locals \/ X.env.cells.lookup x = some a)) -> Q () s') (hf : X.fn x = true \/ X.env.scope.names.lookup x = some .local := by first | exact .inl rfl | exact .inr rfl | assumption) : wpAny M A (storeName X.env x u) Q E s := by
  obtain ⟨m, hn, hl⟩ := id I.loc
  have hcls : (X.env.scope.kind == .class || (X.env.scope.kind == .module && X.env.locals != X.env.globals)) = false := by rw [I.ok.kind]; rfl
  have hiσ : i < σ.length := by rw [I.len]; exact (List.getElem?_eq_some_iff.mp hi).1
  have cne := I.cne
  have tracked : ∀ {a : Addr} {h' : Heap}, (∃ o, s.heap.get? a = some o /\ H a = none) -> Heap.SameBut a s.heap h' -> HOk X.prog X.w H h' := fun {a h'} ha hs b ob e => by
    obtain ⟨_, _, hfree⟩ := ha
    refine (I.hok b ob e).stay (fun c w' hc q => (hs.2 c ?_).trans q) (fun _ q => q) fun _ _ q => q
    rintro rfl
    rcases hc with rfl | hc
    . rw [hfree] at e; cases e
    . rw [hfree] at hc; cases hc
  rcases hx with hk | hk
  . refine wpAny_storeName_local hk hn (fun h' hn' hs => ?_) hcls
    obtain ⟨oL, _, _, hoL, _⟩ := id hn
    refine h _ ⟨I.ok, I.os, I.bare, ⟨fun b o e n hb hx => ?_, fun b o e n hb hx => ?_, I.base.free, fun b o e hx => ?_, I.base.tups, I.base.frzs, I.base.tbls⟩, ⟨_, hn', fun j y v' e1 e2 e3 => ?_⟩, fun y c e => ?_, I.free, I.freeC, fun p hp => ?_, tracked ⟨oL, hoL, I.free⟩ hs, by simpa using I.len⟩ ⟨_, hs, .inl rfl⟩
    . exact (hs.2 b (Nat.ne_of_lt (Nat.lt_of_lt_of_le (Heap.lt_size e) I.ok.above))).trans (I.base.keep b o e n hb hx)
    . obtain ⟨sl, e1⟩ := I.base.slot b o e n hb hx
      exact ⟨sl, (hs.2 b (Nat.ne_of_lt (Nat.lt_of_lt_of_le (Heap.lt_size e) I.ok.above))).trans e1⟩
    . obtain ⟨o', e1⟩ := I.base.there b o e hx
      exact ⟨o', (hs.2 b (Nat.ne_of_lt (Nat.lt_of_lt_of_le (Heap.lt_size e) I.ok.above))).trans e1⟩
    . by_cases hj : j = i
      . subst hj
        rw [hi] at e1; cases e1
        rw [List.getElem?_set_self hiσ] at e2
        cases e2
        exact ⟨u, r, .inl ⟨hk, by simp⟩⟩
      . rw [List.getElem?_set_ne (Ne.symm hj)] at e2
        obtain ⟨u', r', q⟩ := hl j y v' e1 e2 e3
        refine ⟨u', r', ?_⟩
        rcases q with ⟨k, e⟩ | ⟨k, c, e, z⟩
        . refine .inl ⟨k, ?_⟩
          have : y ≠ x := fun e => hj (Z7p hN e1 (e ▸ hi))
          simp [this, e]
        . exact .inr ⟨k, c, e, z.sameBut hs (cne y c e)⟩
    . obtain ⟨w', z⟩ := I.cell y c e
      exact ⟨w', z.sameBut hs (cne y c e)⟩
    . obtain ⟨e, n, ne, nf, d⟩ := I.pin p hp
      exact ⟨(hs.2 p.1 ne).trans e, n, ne, nf, d⟩
  . have hfn : X.fn x = true := by
      rcases hf with z | z
      . exact z
      . rw [z] at hk; cases hk
    obtain ⟨c, hc⟩ := I.ok.has x (.inl hk)
    obtain ⟨w', z⟩ := I.cell x c hc
    refine wpAny_storeName_cell I.ok.kind hk hc z (fun h' hc' hs => ?_)
    obtain ⟨oc, hoc, hocd⟩ := id z
    refine h { s with heap := h' } ⟨I.ok, I.os, I.bare, ⟨fun b o e n hb hx => ?_, fun b o e n hb hx => ?_, I.base.free, fun b o e hx => ?_, I.base.tups, I.base.frzs, I.base.tbls⟩, ⟨m, hn.sameBut hs (Ne.symm (cne x c hc)), fun j y v' e1 e2 e3 => ?_⟩, fun y c' e => ?_, I.free, I.freeC, fun p hp => ?_, tracked ⟨oc, hoc, I.freeC x c hc⟩ hs, by simpa using I.len⟩ ⟨c, hs, .inr hc⟩
    . exact (hs.2 b (Nat.ne_of_lt (Nat.lt_of_lt_of_le (Heap.lt_size e) (I.ok.cab x c hfn hc)))).trans (I.base.keep b o e n hb hx)
    . obtain ⟨sl, e1⟩ := I.base.slot b o e n hb hx
      exact ⟨sl, (hs.2 b (Nat.ne_of_lt (Nat.lt_of_lt_of_le (Heap.lt_size e) (I.ok.cab x c hfn hc)))).trans e1⟩
    . obtain ⟨o', e1⟩ := I.base.there b o e hx
      exact ⟨o', (hs.2 b (Nat.ne_of_lt (Nat.lt_of_lt_of_le (Heap.lt_size e) (I.ok.cab x c hfn hc)))).trans e1⟩
    . by_cases hj : j = i
      . subst hj
        rw [hi] at e1; cases e1
        rw [List.getElem?_set_self hiσ] at e2
        cases e2
        exact ⟨u, r, .inr ⟨.inl hk, c, hc, hc'⟩⟩
      . rw [List.getElem?_set_ne (Ne.symm hj)] at e2
        obtain ⟨u', r', q⟩ := hl j y v' e1 e2 e3
        refine ⟨u', r', ?_⟩
        rcases q with q | ⟨k, c', e, z'⟩
        . exact .inl q
        . refine .inr ⟨k, c', e, z'.sameBut hs ?_⟩
          rintro rfl
          exact hj (Z7p hN e1 (I.ok.inj _ _ _ e hc ▸ hi))
    . by_cases hcc : c' = c
      . subst hcc; exact ⟨_, hc'⟩
      . obtain ⟨w2, z2⟩ := I.cell y c' e
        exact ⟨w2, z2.sameBut hs hcc⟩
    . obtain ⟨e, n, ne, nf, d⟩ := I.pin p hp
      refine ⟨(hs.2 p.1 ?_).trans e, n, ne, nf, d⟩
      intro q
      rw [q, hoc] at e
      have q' : oc = p.2 := Option.some.inj e
      exact d w' (by rw [<- q']; exact hocd)
theorem Z74 {M : Model} {A : Around} {E : Value -> Shared -> Prop} {i : Nat} {x : Str} {v : V} {u : Value} {Q : Unit -> Shared -> Prop} (I : Inv X pins σ H s) (hN : X.N.Nodup) (hi : X.N[i]? = some x) (hx : Loc X.env.scope x) (r : RelV v u)
    (h : ∀ s', Inv X pins (σ.set i (some v)) H s' -> Q () s') (hf : X.fn x = true \/ X.env.scope.names.lookup x = some .local := by first | exact .inl rfl | exact .inr rfl | assumption) : wpAny M A (storeName X.env x u) Q E s :=
  Z67 I hN hi hx r (fun s' I' _ => h s' I') hf
theorem Inv.call' {s' : Shared} {ch : List Addr} (I : Inv X pins σ H s) (ho : s'.os = s.os) (u : Un (frs X.stack) ch H H' s.heap s'.heap) (hok : HOk X.prog X.w H' s'.heap) (hg : AllBare s'.gens)
    (hch : ∀ b ∈ ch, (b ∈ X.ex \/ X.s₀.heap.objs.size <= b) /\ b ≠ X.env.locals /\ (∀ x c, X.env.cells.lookup x = some c -> c ≠ b) /\ ∀ p ∈ X.pn ++ pins, p.1 ≠ b) : Inv X pins σ H' s' := by
  obtain ⟨h', g', d', t', o'⟩ := s'
  have e : o' = s.os := ho
  subst e
  exact I.call (g' := g') (t' := t') (d' := d') u hok hg hch
end
abbrev XK := Value -> Option Addr -> Hp -> Prop
abbrev St := List (Option V)
abbrev VK := V -> Hp -> Prop
abbrev TE := St -> Hp -> VK -> Prop
abbrev TT := St -> Hp -> (Bool -> Hp -> Prop) -> Prop
abbrev TA := St -> Hp -> (List V -> Hp -> Prop) -> Prop
structure Ends where
  nx : St -> Hp -> Prop
  rt : VK
  bk : St -> Hp -> Prop := fun _ _ => False
  ct : St -> Hp -> Prop := fun _ _ => False
abbrev TS := Ends -> St -> Hp -> Prop
def EP (X : Cx) (pins : List (Addr × Obj)) (σ : St) (Q : VK) (u : Value) (s' : Shared) : Prop := ∃ v H', Inv X pins σ H' s' /\ RelV v u /\ Q v H'
def TP (X : Cx) (pins : List (Addr × Obj)) (σ : St) (Q : Bool -> Hp -> Prop) (b : Bool) (s' : Shared) : Prop := ∃ H', Inv X pins σ H' s' /\ Q b H'
def AP (X : Cx) (pins : List (Addr × Obj)) (σ : St) (Q : List V -> Hp -> Prop) (us : List Value) (s' : Shared) : Prop := ∃ vs H', Inv X pins σ H' s' /\ Vals vs us /\ Q vs H'
def SP (X : Cx) (pins : List (Addr × Obj)) (D : Ends) (f : Flow) (s' : Shared) : Prop :=
  match f with
  | .next => ∃ σ' H', Inv X pins σ' H' s' /\ D.nx σ' H'
  | .brk => ∃ σ' H', Inv X pins σ' H' s' /\ D.bk σ' H'
  | .cont => ∃ σ' H', Inv X pins σ' H' s' /\ D.ct σ' H'
  | .ret u => ∃ v σ' H', Inv X pins σ' H' s' /\ RelV v u /\ D.rt v H'
def PE (X : Cx) (e : Expr) (t : TE) : Prop :=
  ∀ (pins : List (Addr × Obj)) (s : Shared) (σ : St) (H : Hp) (Q : VK), Inv X pins σ H s -> t σ H Q -> wpAny (model X.prog X.w) X.A (eval e X.env) (EP X pins σ Q) X.xe s
def PT (X : Cx) (e : Expr) (t : TT) : Prop :=
  ∀ (pins : List (Addr × Obj)) (s : Shared) (σ : St) (H : Hp) (Q : Bool -> Hp -> Prop), Inv X pins σ H s -> t σ H Q -> wpAny (model X.prog X.w) X.A (isTrue e X.env (eval e X.env)) (TP X pins σ Q) X.xe s
def PW (X : Cx) (e : Expr) (t : TT) : Prop :=
  ∀ (whole : Sem Value) (pins : List (Addr × Obj)) (s : Shared) (σ : St) (H : Hp) (Q : Bool -> Hp -> Prop), Inv X pins σ H s -> t σ H Q -> wpAny (model X.prog X.w) X.A (isTrue e X.env whole) (TP X pins σ Q) X.xe s
theorem PW.pt {X : Cx} {e : Expr} {t : TT} (h : PW X e t) : PT X e t := h _
def PA (X : Cx) (es : List Expr) (t : TA) : Prop :=
  ∀ (pos : Pos) (pins : List (Addr × Obj)) (s : Shared) (σ : St) (H : Hp) (Q : List V -> Hp -> Prop), Inv X pins σ H s -> t σ H Q -> wpAny (model X.prog X.w) X.A (spliced (backTo pos (starEach es X.env))) (AP X pins σ Q) X.xe s
def PS (X : Cx) (st : Stmt) (t : TS) : Prop :=
  ∀ (pins : List (Addr × Obj)) (s : Shared) (σ : St) (H : Hp) (D : Ends), Inv X pins σ H s -> t D σ H -> wpAny (model X.prog X.w) X.A (exec st X.env) (SP X pins D) X.xe s
def PSs (X : Cx) (st : List Stmt) (t : TS) : Prop :=
  ∀ (pins : List (Addr × Obj)) (s : Shared) (σ : St) (H : Hp) (D : Ends), Inv X pins σ H s -> t D σ H -> wpAny (model X.prog X.w) X.A (execs st X.env) (SP X pins D) X.xe s
theorem thn {α : Type} {t : Sem α} {Q Q' : α -> Shared -> Prop} {M : Model} {A : Around} {E : Value -> Shared -> Prop} {s : Shared} (h : wpAny M A t Q E s) (hQ : ∀ a s, Q a s -> Q' a s) : wpAny M A t Q' E s := wpAny_mono h hQ fun _ _ x => x
end L2
namespace L2
open PySem PySem.Spec PyProof.Rows
section
variable {X : Cx}
theorem bin {a b : Expr} {ta tb : TE} (ha : PE X a ta) (hb : PE X b tb) {pins : List (Addr × Obj)} {s : Shared} {σ : St} {H : Hp} {R : V -> V -> Hp -> Prop} (I : Inv X pins σ H s) (h : ta σ H fun x H1 => tb σ H1 fun y H2 => R x y H2)
    {α : Type} {Q : α -> Shared -> Prop} {f : Value -> Value -> Sem α}
    (hf : ∀ v u s2 x y H2, Inv X pins σ H2 s2 -> RelV x v -> RelV y u -> R x y H2 -> wpAny (model X.prog X.w) X.A (f v u) Q X.xe s2) :
    wpAny (model X.prog X.w) X.A (eval a X.env) (fun v s₁ => wpAny (model X.prog X.w) X.A (eval b X.env) (fun u s₂ => wpAny (model X.prog X.w) X.A (f v u) Q X.xe s₂) X.xe s₁) X.xe s := by
  refine thn (ha pins s σ H _ I h) fun v s1 ⟨x, H1, I1, r1, q1⟩ => ?_
  refine thn (hb pins s1 σ H1 _ I1 q1) fun u s2 ⟨y, H2, I2, r2, q2⟩ => ?_
  exact hf v u s2 x y H2 I2 r1 r2 q2
def tVar (i : Nat) : TE := fun σ H Q => ∃ v, σ[i]? = some (some v) /\ Q v H
def tC (v : V) : TE := fun _ H Q => Q v H
theorem Z71 {i : Nat} {x : Str} {pos : Pos} (hN : X.N[i]? = some x) (hv : Vis X.env.scope x) (hd : (x == ("__debug__" : Str)) = false := by decide) (hcd : (x == ("__classdict__" : Str)) = false := by decide) : PE X (.Name x pos) (tVar i) := by
  intro pins s σ H Q I h
  obtain ⟨v, e, h⟩ := h
  obtain ⟨m, hn, hl⟩ := I.loc
  obtain ⟨u, r, l⟩ := hl i x v hN e hv
  have fin : EP X pins σ Q u s := ⟨v, H, I, r, h⟩
  rcases l with ⟨hk, hm⟩ | ⟨hk, c, hc, hcell⟩
  . exact wpAny_Name (wpAny_loadName_local I.ok.kind hk hn hm fin) hd
  . rcases hk with hk | hk
    . exact wpAny_Name (wpAny_loadName_cell I.ok.kind hk hc hcell fin) hd
    . exact wpAny_Name (wpAny_loadName_free I.ok.kind hk hc hcell fin hcd) hd
theorem pe_int {i j pos} : PE X (.Constant (.int i) j pos) (tC (.int i)) := fun _ _ _ H _ I h => wpAny_Constant_int ⟨.int i, H, I.tok _, ⟨_, rfl⟩, h⟩
theorem pe_bl {b j pos} : PE X (.Constant (.bool b) j pos) (tC (.bl b)) := fun _ _ _ H _ I h => Constant_bool ⟨.bl b, H, I, rfl, h⟩
theorem pe_non {j pos} : PE X (.Constant .none j pos) (tC .non) := fun _ _ _ H _ I h => Constant_none ⟨.non, H, I, rfl, h⟩
theorem Zcx {x j pos} : PE X (.Constant (.str x) j pos) (tC (.str x)) := fun _ _ _ H _ I h => Calls.Constant_str ⟨.str x, H, I.tok _, ⟨_, rfl⟩, h⟩
def Gl (X : Cx) (x : Str) : Prop := X.env.kindOf x = some .globalImplicit
theorem Z38 {E : Value -> Shared -> Prop} {pins : List (Addr × Obj)} {s : Shared} {σ : St} {H : Hp} {x : Str} {u : Value} {pos : Pos} {Q : Value -> Shared -> Prop} (I : Inv X pins σ H s) (hg : Gl X x) (hm : X.mg x = some u) (h : Q u s)
    (hd : (x == ("__debug__" : Str)) = false := by decide) : wpAny (model X.prog X.w) X.A (eval (.Name x pos) X.env) Q E s :=
  Calls.Name_function_global I.ok.kind hg (Calls.loadGlobal_global (by rw [I.ok.glob]; exact I.mod.glob.keeps I.bk) hm h) hd
theorem Z3v {E : Value -> Shared -> Prop} {pins : List (Addr × Obj)} {s : Shared} {σ : St} {H : Hp} {x : Str} {u : Value} {pos : Pos} {Q : Value -> Shared -> Prop} (I : Inv X pins σ H s) (hg : Gl X x) (hm : X.mg x = none) (hv : bootBuiltins x = some u) (h : Q u s)
    (hn : x ≠ "__name__" := by decide) (hd : (x == ("__debug__" : Str)) = false := by decide) : wpAny (model X.prog X.w) X.A (eval (.Name x pos) X.env) Q E s := by
  obtain ⟨mb, h1, h2⟩ := I.mod.blt
  exact Calls.Name_function_global I.ok.kind hg (Calls.loadGlobal_builtin (by rw [I.ok.glob]; exact I.mod.glob.keeps I.bk) hm (by rw [I.ok.blt]; exact h1.keeps I.bk) ((h2 x hn).trans hv) h) hd
theorem Z27 {x : Str} {v : V} {u : Value} {pos : Pos} (hg : Gl X x) (hm : X.mg x = some u) (r : RelV v u) (hd : (x == ("__debug__" : Str)) = false := by decide) : PE X (.Name x pos) (tC v) :=
  fun _ _ _ H _ I h => Z38 I hg hm ⟨v, H, I, r, h⟩ hd
theorem Z1l {x : Str} {v : V} {u : Value} {pos : Pos} (hg : Gl X x) (hm : X.mg x = none) (hv : bootBuiltins x = some u) (r : RelV v u) (hn : x ≠ "__name__" := by decide) (hd : (x == ("__debug__" : Str)) = false := by decide) : PE X (.Name x pos) (tC v) :=
  fun _ _ _ H _ I h => Z3v I hg hm hv ⟨v, H, I, r, h⟩ hn hd
variable {a b : Expr} {ta tb : TE} {pos : Pos}
def tB (t : TE) : TT := fun σ H Q => t σ H fun x H1 => ∃ c, x = .bl c /\ Q c H1
variable {tA tB' : TT} {rest : List Expr}
def tAnd (t u : TT) : TT := fun σ H Q => t σ H fun c H1 => if c = true then u σ H1 Q else Q false H1
def tOr (t u : TT) : TT := fun σ H Q => t σ H fun c H1 => if c = true then Q true H1 else u σ H1 Q
def tNot (t : TT) : TT := fun σ H Q => t σ H fun c H1 => Q (!c) H1
theorem Zf7 (ha : PT X a tA) : PW X (.BoolOp .And [a] pos) tA := by
  intro wh pins s σ H Q I h
  refine isTrue_and (thn (ha pins s σ H Q I h) fun c s1 e => ?_)
  cases c with
  | true => exact isTrue_and_nil e
  | false => exact e
theorem pw_or1 (ha : PT X a tA) : PW X (.BoolOp .Or [a] pos) tA := by
  intro wh pins s σ H Q I h
  refine isTrue_or (thn (ha pins s σ H Q I h) fun c s1 e => ?_)
  cases c with
  | false => exact isTrue_or_nil e
  | true => exact e
theorem pw_and (ha : PT X a tA) (hb : PW X (.BoolOp .And (b :: rest) pos) tB') : PW X (.BoolOp .And (a :: b :: rest) pos) (tAnd tA tB') := by
  intro wh pins s σ H Q I h
  refine isTrue_and (thn (ha pins s σ H _ I h) fun c s1 ⟨H1, I1, q1⟩ => ?_)
  cases c with
  | true => exact hb wh pins s1 σ H1 Q I1 q1
  | false => exact ⟨H1, I1, q1⟩
theorem pw_or (ha : PT X a tA) (hb : PW X (.BoolOp .Or (b :: rest) pos) tB') : PW X (.BoolOp .Or (a :: b :: rest) pos) (tOr tA tB') := by
  intro wh pins s σ H Q I h
  refine isTrue_or (thn (ha pins s σ H _ I h) fun c s1 ⟨H1, I1, q1⟩ => ?_)
  cases c with
  | true => exact ⟨H1, I1, q1⟩
  | false => exact hb wh pins s1 σ H1 Q I1 q1
theorem pt_not (ha : PT X a tA) : PT X (.UnaryOp .Not a pos) (tNot tA) := by
  intro pins s σ H Q I h
  exact isTrue_not (ha pins s σ H (fun c H1 => Q (!c) H1) I h)
def tAndV (ta tb : TE) : TE := fun σ H Q => ta σ H fun x H1 => ∃ c, x = .bl c /\ if c = true then tb σ H1 Q else Q (.bl false) H1
def tNotV (ta : TE) : TE := fun σ H Q => ta σ H fun x H1 => ∃ c, x = .bl c /\ Q (.bl (!c)) H1
theorem pe_one {op} {t : TE} (h : PE X a t) : PE X (.BoolOp op [a] pos) t := fun pins s σ H Q I hw => BoolOp_one (h pins s σ H Q I hw)
theorem pe_and (ha : PE X a ta) (hb : PE X (.BoolOp .And (b :: rest) pos) tb) : PE X (.BoolOp .And (a :: b :: rest) pos) (tAndV ta tb) := by
  intro pins s σ H Q I h
  refine BoolOp_and (thn (ha pins s σ H _ I h) fun v s1 ⟨x, H1, I1, r1, q1⟩ => ?_)
  obtain ⟨c, rfl, q1⟩ := q1
  cases r1
  refine wpAny_truthy_bool ?_
  cases c with
  | true => exact hb pins s1 σ H1 Q I1 q1
  | false => exact ⟨.bl false, H1, I1, rfl, q1⟩
theorem pe_not (ha : PE X a ta) : PE X (.UnaryOp .Not a pos) (tNotV ta) := by
  intro pins s σ H Q I h
  refine UnaryOp_ (thn (ha pins s σ H _ I h) fun v s1 ⟨x, H1, I1, r1, q1⟩ => ?_)
  obtain ⟨c, rfl, q1⟩ := q1
  cases r1
  exact not_of (wpAny_truthy_bool ⟨.bl (!c), H1, I1, rfl, q1⟩)
def tIf (t : TT) (ta tb : TE) : TE := fun σ H Q => t σ H fun c H1 => if c = true then ta σ H1 Q else tb σ H1 Q
theorem Zdc {c : Expr} (hc : PT X c tA) (ha : PE X a ta) (hb : PE X b tb) : PE X (.IfExp c a b pos) (tIf tA ta tb) := by
  intro pins s σ H Q I h
  refine wpAny_IfExp (thn (hc pins s σ H _ I h) fun d s1 ⟨H1, I1, q1⟩ => ?_)
  cases d with
  | true => exact ha pins s1 σ H1 Q I1 q1
  | false => exact hb pins s1 σ H1 Q I1 q1
end
end L2
namespace L2
open PySem PySem.Spec PyProof.Rows
def SqL (K : PySem.W.Frag) (H : Hp) (a : Addr) (xs : List V) : Prop :=
  Rd H a (.lst xs) \/
    ∃ (o : Obj) (its : Array Value) (n : Nat), K.lookup a = some o /\ o.cls = .type "list" /\ o.dict = none /\ o.data = .seq its n /\ its.size <= sizeLine /\ Vals xs its.toList
def SqT (K : PySem.W.Frag) (H : Hp) (a : Addr) (xs : List V) : Prop :=
  Rd H a (.tup xs) \/
    ∃ (o : Obj) (its : Array Value) (n : Nat), K.lookup a = some o /\ o.cls = .type "tuple" /\ o.data = .seq its n /\ its.size <= sizeLine /\ Vals xs its.toList
def absV : Value -> Option V
  | .none => some .non
  | .bool b => some (.bl b)
  | .int i _ => some (.int i)
  | .str x _ => some (.str x)
  | .bytes b _ => some (.byt b)
  | .float b _ => some (.flt b)
  | .ref a => some (.ref a)
  | .type n => some (.ty n)
  | _ => none
theorem RelV.abs {x : V} {u : Value} (r : RelV x u) : absV u = some x := by
  cases x with
  | non => cases r; rfl
  | bl _ => cases r; rfl
  | int _ => obtain ⟨t, rfl⟩ := r; rfl
  | str _ => obtain ⟨t, rfl⟩ := r; rfl
  | byt _ => obtain ⟨t, rfl⟩ := r; rfl
  | flt _ => obtain ⟨t, rfl⟩ := r; rfl
  | ref _ => cases r; rfl
  | ty _ => cases r; rfl
theorem RelV.inj {x y : V} {u : Value} (r : RelV x u) (q : RelV y u) : x = y := Option.some.inj (r.abs.symm.trans q.abs)
theorem Vals.inj : ∀ {xs ys : List V} {us : List Value}, Vals xs us -> Vals ys us -> xs = ys
  | _, _, _, .nil, .nil => rfl
  | _, _, _, .cons r t, .cons r' t' => by rw [r.inj r', Vals.inj t t']
section
variable {X : Cx} {pins : List (Addr × Obj)} {σ : St} {H : Hp} {s : Shared} {a : Addr} {xs ys : List V}
theorem SqL.of {K : PySem.W.Frag} (h : H a = some (.lst xs)) : SqL K H a xs := .inl (.inl h)
theorem SqT.of {K : PySem.W.Frag} (h : H a = some (.tup xs)) : SqT K H a xs := .inl (.inl h)
theorem Inv.list (I : Inv X pins σ H s) (h : SqL X.K H a xs) : ∃ its : List Value, Vals xs its /\ PlainL s.heap a its.toArray /\ xs.length <= sizeLine := by
  rcases h with h | ⟨o, its, n, hk, hc, hd, hs, hz, r⟩
  . obtain ⟨z, its, n, r, e⟩ := h.ok I.hok
    exact ⟨its, r, ⟨_, n, e, rfl, rfl, rfl⟩, z⟩
  . refine ⟨its.toList, r, ⟨o, n, I.kIn a o hk, hc, hd, by simpa using hs⟩, ?_⟩
    have e := r.length
    simp only [Array.length_toList] at e
    omega
theorem Inv.tuple (I : Inv X pins σ H s) (h : SqT X.K H a xs) : ∃ its : List Value, Vals xs its /\ IsTup s.heap a its.toArray /\ xs.length <= sizeLine := by
  rcases h with h | ⟨o, its, n, hk, hc, hs, hz, r⟩
  . obtain ⟨z, its, r, p⟩ := h.ok I.hok
    exact ⟨its, r, p, z⟩
  . refine ⟨its.toList, r, ⟨o, I.kIn a o hk, hc, n, by simpa using hs⟩, ?_⟩
    have e := r.length
    simp only [Array.length_toList] at e
    omega
theorem Inv.list_inj (I : Inv X pins σ H s) (h : SqL X.K H a xs) (h' : SqL X.K H a ys) : xs = ys := by
  obtain ⟨its, r, ⟨o, n, e, _, _, d⟩, _⟩ := I.list h
  obtain ⟨its', r', ⟨o', n', e', _, _, d'⟩, _⟩ := I.list h'
  rw [e] at e'; cases e'
  rw [d] at d'
  injection d' with d1 _
  have : its = its' := by simpa using congrArg Array.toList d1
  subst this
  exact r.inj r'
theorem Inv.tuple_inj (I : Inv X pins σ H s) (h : SqT X.K H a xs) (h' : SqT X.K H a ys) : xs = ys := by
  obtain ⟨its, r, ⟨o, e, _, n, d⟩, _⟩ := I.tuple h
  obtain ⟨its', r', ⟨o', e', _, n', d'⟩, _⟩ := I.tuple h'
  rw [e] at e'; cases e'
  rw [d] at d'
  injection d' with d1 _
  have : its = its' := by simpa using congrArg Array.toList d1
  subst this
  exact r.inj r'
end
abbrev Cx.wish (X : Cx) (E : Value -> Shared -> Prop) : Cx := { X with xe := E }
theorem Cx.Ok.wish {X : Cx} (ok : X.Ok) (E : Value -> Shared -> Prop) : (X.wish E).Ok :=
  ⟨ok.mod, ok.kind, ok.glob, ok.blt, ok.above, ok.inj, ok.has, ok.cab, ok.hd, ok.frames, ok.stk, ok.exf, ok.bs, ok.bsz, ok.noex, ok.exfs, ok.funs, ok.frf⟩
theorem Cx.Ok.unwish {X : Cx} {E : Value -> Shared -> Prop} (ok : (X.wish E).Ok) : X.Ok :=
  ⟨ok.mod, ok.kind, ok.glob, ok.blt, ok.above, ok.inj, ok.has, ok.cab, ok.hd, ok.frames, ok.stk, ok.exf, ok.bs, ok.bsz, ok.noex, ok.exfs, ok.funs, ok.frf⟩
section
variable {X : Cx} {pins : List (Addr × Obj)} {σ : St} {H : Hp} {s : Shared} {E : Value -> Shared -> Prop}
theorem Inv.wish (I : Inv X pins σ H s) (E : Value -> Shared -> Prop) : Inv (X.wish E) pins σ H s := ⟨I.ok.wish E, I.os, I.bare, I.base, I.loc, I.cell, I.free, I.freeC, I.pin, I.hok, I.len⟩
theorem Inv.unwish (I : Inv (X.wish E) pins σ H s) : Inv X pins σ H s := ⟨I.ok.unwish, I.os, I.bare, I.base, I.loc, I.cell, I.free, I.freeC, I.pin, I.hok, I.len⟩
theorem SP.unwish {D : Ends} {f : Flow} {s' : Shared} (h : SP (X.wish E) pins D f s') : SP X pins D f s' := by
  cases f with
  | next => obtain ⟨σ', H', I, q⟩ := h; exact ⟨σ', H', I.unwish, q⟩
  | brk => obtain ⟨σ', H', I, q⟩ := h; exact ⟨σ', H', I.unwish, q⟩
  | cont => obtain ⟨σ', H', I, q⟩ := h; exact ⟨σ', H', I.unwish, q⟩
  | ret u => obtain ⟨v, σ', H', I, r, q⟩ := h; exact ⟨v, σ', H', I.unwish, r, q⟩
end
section
variable {X : Cx} {st : Stmt} {rest : List Stmt} {t u : TS} {e : Expr} {te : TE} {pos : Pos}
def tNext : TS := fun D σ H => D.nx σ H
def tSeq (t u : TS) : TS := fun D σ H => t { D with nx := u D } σ H
theorem Z99 : PSs X [] tNext := fun _ _ σ H _ I h => wpAny_execs_nil ⟨σ, H, I, h⟩
theorem Z8n (h1 : PS X st t) (h2 : PSs X rest u) : PSs X (st :: rest) (tSeq t u) := by
  intro pins s σ H D I h
  refine wpAny_execs_cons (thn (h1 pins s σ H { D with nx := u D } I h) fun f s1 q => ?_)
  cases f with
  | next =>
    obtain ⟨σ', H', I', q⟩ := q
    exact h2 pins s1 σ' H' D I' q
  | ret v => exact q
  | brk => exact q
  | cont => exact q
theorem Zfj (h1 : PS X st t) : PSs X [st] t := by
  intro pins s σ H D I h
  refine wpAny_execs_cons (thn (h1 pins s σ H D I h) fun f s1 q => ?_)
  cases f with
  | next => exact wpAny_execs_nil q
  | ret v => exact q
  | brk => exact q
  | cont => exact q
theorem Inv.quiet {pins : List (Addr × Obj)} {σ : St} {H : Hp} {s : Shared} (I : Inv X pins σ H s) : interactive X.env = false := by simp [interactive, I.ok.kind]
def tDrop (te : TE) : TS := fun D σ H => te σ H fun _ H1 => D.nx σ H1
theorem Za2 (he : PE X e te) (hs : swapsWith e none pos.line X.env = pure false := by rfl) : PS X (.Expr e pos) (tDrop te) := by
  intro pins s σ H D I h
  exact wpAny_Expr_any (thn (he pins s σ H _ I h) fun v s1 ⟨x, H1, I1, r1, q1⟩ => ⟨σ, H1, I1, q1⟩) I.quiet hs
def tRet (te : TE) : TS := fun D σ H => te σ H D.rt
theorem ps_ret (he : PE X e te) : PS X (.Return (some e) pos) (tRet te) := by
  intro pins s σ H D I h
  exact wpAny_Return_some (thn (he pins s σ H _ I h) fun v s1 ⟨x, H1, I1, r1, q1⟩ => ⟨x, σ, H1, I1, r1, q1⟩)
def tIfS (c : TT) (t u : TS) : TS := fun D σ H => c σ H fun b H1 => if b = true then t D σ H1 else u D σ H1
theorem ps_if {c : Expr} {a b : List Stmt} {tc : TT} (hc : PT X c tc) (ha : PSs X a t) (hb : PSs X b u) : PS X (.If c a b pos) (tIfS tc t u) := by
  intro pins s σ H D I h
  refine wpAny_If (thn (hc pins s σ H _ I h) fun d s1 ⟨H1, I1, q1⟩ => ?_)
  cases d with
  | true => exact ha pins s1 σ H1 D I1 q1
  | false => exact hb pins s1 σ H1 D I1 q1
end
abbrev TG := V -> St -> Hp -> (St -> Hp -> Prop) -> Prop
abbrev TGs := List V -> St -> Hp -> (St -> Hp -> Prop) -> Prop
def PG (X : Cx) (target : Expr) (t : TG) : Prop :=
  ∀ (pins : List (Addr × Obj)) (s : Shared) (σ : St) (H : Hp) (v : V) (u : Value) (Q : St -> Hp -> Prop), Inv X pins σ H s -> RelV v u -> t v σ H Q ->
    wpAny (model X.prog X.w) X.A (assign target X.env u) (fun _ s' => ∃ σ' H', Inv X pins σ' H' s' /\ Q σ' H') X.xe s
def PGs (X : Cx) (ts : List Expr) (t : TGs) : Prop :=
  ∀ (pins : List (Addr × Obj)) (s : Shared) (σ : St) (H : Hp) (vs : List V) (us : List Value) (Q : St -> Hp -> Prop), Inv X pins σ H s -> Vals vs us -> t vs σ H Q ->
    wpAny (model X.prog X.w) X.A (assignInOrder ((assignEach ts X.env).map (·.2)) us) (fun _ s' => ∃ σ' H', Inv X pins σ' H' s' /\ Q σ' H') X.xe s
section
variable {X : Cx} {pos : Pos}
def Zb0 (i : Nat) : TG := fun v σ H Q => Q (σ.set i (some v)) H
theorem Z5o {i : Nat} {x : Str} (hN : X.N.Nodup) (hi : X.N[i]? = some x) (hx : Loc X.env.scope x) (hf : X.fn x = true \/ X.env.scope.names.lookup x = some .local := by first | exact .inl rfl | exact .inr rfl | assumption) : PG X (.Name x pos) (Zb0 i) := by
  intro pins s σ H v u Q I r h
  exact wpAny_assign_Name (Z74 I hN hi hx r (fun s' I' => ⟨_, H, I', h⟩) hf)
def gNil : TGs := fun vs σ H Q => vs = [] /\ Q σ H
def gCons (t : TG) (u : TGs) : TGs := fun vs σ H Q => ∃ v r, vs = v :: r /\ t v σ H fun σ' H' => u r σ' H' Q
theorem Zf9 : PGs X [] gNil := by
  intro pins s σ H vs us Q I r h
  obtain ⟨e, h⟩ := h
  subst e
  cases r
  exact assignInOrder_nil ⟨σ, H, I, h⟩
theorem Zee {e : Expr} {es : List Expr} {t : TG} {u : TGs} (h1 : PG X e t) (h2 : PGs X es u)
    (hs : (assignEach (e :: es) X.env).map (·.2) = assign e X.env :: (assignEach es X.env).map (·.2) := by rfl) : PGs X (e :: es) (gCons t u) := by
  intro pins s σ H vs us Q I r h
  obtain ⟨v, vr, e1, h⟩ := h
  subst e1
  cases r with
  | cons r rr =>
    rw [hs]
    refine assignInOrder_cons (thn (h1 pins s σ H _ _ _ I r h) fun _ s1 ⟨σ1, H1, I1, q1⟩ => ?_)
    exact h2 pins s1 σ1 H1 _ _ Q I1 rr q1
def gTup (K : PySem.W.Frag) (n : Nat) (t : TGs) : TG := fun v σ H Q => ∃ a xs, v = .ref a /\ SqT K H a xs /\ xs.length = n /\ t xs σ H Q
theorem pg_tup {es : List Expr} {k : Nat} {t : TGs} {n : Nat} (hc : X.calm = true) (h : PGs X es t)
    (hn : (assignEach es X.env).length = n := by rfl) (hst : (assignEach es X.env).findIdx? (·.1) = none := by rfl) : PG X (.Tuple es k pos) (gTup X.K n t) := by
  intro pins s σ H v u Q I r hw
  obtain ⟨a, xs, e1, hq, hl, hw⟩ := hw
  subst e1
  cases r
  obtain ⟨its, rv, ht, hz⟩ := I.tuple hq
  refine assign_Tuple_tuple (I.ok.hd hc) ht (by simp [hn, <- hl, rv.length]) hst fun h' hx => ?_
  have I1 : Inv X pins σ H { s with heap := h' } := I.kept (t' := s.toks) fun b o e => hx b o (Nat.ne_of_lt (Heap.lt_size e)) e
  exact h pins _ σ H xs _ Q I1 (by simpa using rv) hw
def tAsg (te : TE) (g : TG) : TS := fun D σ H => te σ H fun x H1 => g x σ H1 D.nx
theorem ps_asg {tg e : Expr} {te : TE} {g : TG} (he : PE X e te) (hg : PG X tg g) (hs : swapsWithSole [tg] e pos.line X.env = pure false := by rfl) (hw : swappedStores [tg] e X.env = pure none := by rfl)
    (h1 : (assignEach [tg] X.env).map (·.2) = [assign tg X.env] := by rfl) : PS X (.Assign [tg] e pos) (tAsg te g) := by
  intro pins s σ H D I h
  refine wpAny_Assign_stores (thn (he pins s σ H _ I h) fun v s1 ⟨x, H1, I1, r1, q1⟩ => ?_) hs hw
  rw [h1]
  exact thn (hg pins s1 σ H1 x v _ I1 r1 q1) fun _ s2 q => q
theorem ps_set {i : Nat} {x : Str} {e : Expr} {te : TE} {pos' : Pos} (hN : X.N.Nodup) (hi : X.N[i]? = some x) (hx : Loc X.env.scope x) (he : PE X e te) (hs : swapsWith e (some (.Name x pos')) pos.line X.env = pure false := by rfl) (hf : X.fn x = true \/ X.env.scope.names.lookup x = some .local := by first | exact .inl rfl | exact .inr rfl | assumption) :
    PS X (.Assign [.Name x pos'] e pos) (tAsg te (Zb0 i)) := by
  intro pins s σ H D I h
  refine wpAny_Assign_Name (thn (he pins s σ H _ I h) fun v s1 ⟨y, H1, I1, r1, q1⟩ => ?_) hs
  exact Z74 I1 hN hi hx r1 (fun s2 I2 => ⟨_, H1, I2, q1⟩) hf
end
section
variable {X : Cx} {pos : Pos}
end
structure It where
  go : Nat -> Hp -> Prop
  yld : Nat -> Hp -> V -> Hp -> Prop
  stop : Nat -> Hp -> Prop
def FpOk (X : Cx) (pins : List (Addr × Obj)) (H : Hp) (b : Addr) : Prop :=
  H b = none /\ b ≠ X.env.locals /\ b ∉ X.fs /\ (b ∈ X.ex \/ X.s₀.heap.objs.size <= b) /\ (∀ x c, X.env.cells.lookup x = some c -> c ≠ b) /\ ∀ p ∈ X.pn ++ pins, p.1 ≠ b
theorem Inv.fpOk {X : Cx} {pins : List (Addr × Obj)} {σ : St} {H H' : Hp} {s : Shared} {b : Addr} (I : Inv X pins σ H s) (hb : s.heap.objs.size <= b) (hn : H' b = none) : FpOk X pins H' b := by
  refine ⟨hn, Nat.ne_of_gt (Nat.lt_of_lt_of_le I.lt hb), I.nofs hb, .inr (Nat.le_trans I.sz hb), fun x c e z => ?_, fun p hp z => ?_⟩
  . obtain ⟨v, q⟩ := I.cell x c e
    exact absurd (Nat.lt_of_lt_of_le q.lt (by rw [z]; exact hb)) (Nat.lt_irrefl _)
  . exact absurd (Nat.lt_of_lt_of_le (Heap.lt_size (I.pin p hp).1) (by rw [z]; exact hb)) (Nat.lt_irrefl _)
structure Turn (P : Program) (w : World) (K : PySem.W.Frag) (tg : Expr) (J : It) (fp : List Addr) (it : Addr) (tn : Nat -> Heap -> Prop) : Prop where
  mem : it ∈ fp
  obj : ∀ i h, tn i h -> ∀ b ∈ fp, ∃ o, h.get? b = some o /\ ∀ v, o.data ≠ .cell v
  keep : ∀ i h h', tn i h -> (∀ b ∈ fp, ∀ o, h.get? b = some o -> h'.get? b = some o) -> tn i h'
  item : ∀ (X : Cx), X.prog = P -> X.w = w -> X.K = K -> X.calm = true -> ∀ (i : Nat) (pins : List (Addr × Obj)) (s : Shared) (σ : St) (H : Hp) (E : Value -> Shared -> Prop), Inv X pins σ H s -> (∀ b ∈ fp, FpOk X pins H b) -> tn i s.heap -> J.go i H ->
    wpAny (model P w) X.A (pyNext (.ref it)) (fun r s1 => ∃ u, r = some u /\
      wpAny (model P w) X.A (letOwnedTupleGo tg (.ref it) u) (fun _ s2 => ∃ x H', Inv X pins σ H' s2 /\ RelV x u /\ J.yld i H x H' /\ tn (i + 1) s2.heap /\ ∀ b ∈ fp, H' b = none) E s1) E s
  done : ∀ (X : Cx), X.prog = P -> X.w = w -> X.K = K -> X.calm = true -> ∀ (i : Nat) (pins : List (Addr × Obj)) (s : Shared) (σ : St) (H : Hp) (E : Value -> Shared -> Prop), Inv X pins σ H s -> (∀ b ∈ fp, FpOk X pins H b) -> tn i s.heap -> J.stop i H ->
    wpAny (model P w) X.A (pyNext (.ref it)) (fun r s1 => r = none /\ Inv X pins σ H s1) E s
  self : ∀ (A : Around) (i : Nat) (s : Shared) (Q : Value -> Shared -> Prop) (E : Value -> Shared -> Prop), tn i s.heap -> Q (.ref it) s -> wpAny (model P w) A (pyIter (.ref it)) Q E s
abbrev TI := St -> Hp -> (It -> Hp -> Prop) -> Prop
def PIE (X : Cx) (pins : List (Addr × Obj)) (σ : St) (tg : Expr) (R : It -> Hp -> Prop) (itv : Value) (s2 : Shared) : Prop :=
  ∃ (it : Addr) (fp : List Addr) (tn : Nat -> Heap -> Prop) (J : It) (H' : Hp), itv = .ref it /\ Inv X pins σ H' s2 /\ Turn X.prog X.w X.K tg J fp it tn /\ tn 0 s2.heap /\ (∀ b ∈ fp, FpOk X pins H' b) /\ R J H'
def PI (X : Cx) (tg iter : Expr) (wi : TI) : Prop :=
  ∀ (pins : List (Addr × Obj)) (s : Shared) (σ : St) (H : Hp) (R : It -> Hp -> Prop), Inv X pins σ H s -> wi σ H R ->
    wpAny (model X.prog X.w) X.A (eval iter X.env) (fun v s1 => wpAny (model X.prog X.w) X.A (pyIter v) (PIE X pins σ tg R) X.xe s1) X.xe s
theorem Z54 {M : Model} {A : Around} {E : Value -> Shared -> Prop} {s : Shared} {tg : Expr} {it : Addr} {u : Value} {o : Obj} {n : String} {vs : Array Value} {Q : Unit -> Shared -> Prop} (ho : s.heap.get? it = some o) (hc : o.cls = .type n) (hd : o.data = .fields vs)
    (hn : ["enumerate", "zip", "dict_itemiterator", "dict_reverseitemiterator", "odict_iterator", "itertools.zip_longest", "itertools.pairwise"].contains n = false) (hQ : Q () s) : wpAny M A (letOwnedTupleGo tg (.ref it) u) Q E s := by
  unfold letOwnedTupleGo
  cases tg <;> first
    | exact wpAny_pure hQ
    | (cases u <;> first
        | exact wpAny_pure hQ
        | (refine wpAny_bind (wpAny_load ho ?_)
           rw [hc, hd]
           show wpAny M A (if (["enumerate", "zip", "dict_itemiterator", "dict_reverseitemiterator", "odict_iterator", "itertools.zip_longest", "itertools.pairwise"].contains n && vs[0]? == some (rawInt _)) = true then _ else _) Q E s
           rw [if_neg (by intro h; rw [hn, Bool.false_and] at h; cases h)]
           exact wpAny_pure hQ))
def Itl (K : PySem.W.Frag) (a : Addr) : It :=
  ⟨fun i H => ∃ xs x, SqL K H a xs /\ xs[i]? = some x, fun i H x H' => H' = H /\ ∀ xs, SqL K H a xs -> xs[i]? = some x, fun i H => ∃ xs, SqL K H a xs /\ xs.length <= i⟩
def Itt (K : PySem.W.Frag) (a : Addr) : It :=
  ⟨fun i H => ∃ xs x, SqT K H a xs /\ xs[i]? = some x, fun i H x H' => H' = H /\ ∀ xs, SqT K H a xs -> xs[i]? = some x, fun i H => ∃ xs, SqT K H a xs /\ xs.length <= i⟩
def Itr (lo : Int) (n : Nat) : It := ⟨fun i _ => i < n, fun i H x H' => H' = H /\ x = .int (lo + i), fun i _ => n <= i⟩
theorem Zbg {P : Program} {w : World} {K : PySem.W.Frag} {tg : Expr} (a it : Addr) : Turn P w K tg (Itl K a) [it] it (fun i h => h.IsListIter it a i) where
  mem := by simp
  obj := fun i h st b hb => by
    have e : b = it := by simpa using hb
    subst e
    obtain ⟨o, e, c, d⟩ := st
    exact ⟨o, e, fun v z => by rw [d] at z; cases z⟩
  keep := fun i h h' st k => st.at fun o e => k it (by simp) o e
  item := by
    intro X hP hw hK hc i pins s σ H E I hf st hg
    subst hP hw hK
    obtain ⟨xs, x, hq, hx⟩ := hg
    obtain ⟨its, rv, p, hz⟩ := I.list hq
    obtain ⟨u, hu, ru⟩ := rv.get hx
    obtain ⟨f0, f1, f2, f3, f4, f5⟩ := hf it (by simp)
    refine wpAny_pyNext_list_item st p.isList (x := u) (by simpa using hu) fun h' st' sb => ?_
    have I1 : Inv X pins σ H { s with heap := h' } := I.turned (t' := s.toks) (fun b o hb e => (sb.2 b hb).trans e) f0 f1 f3 f4 f5
    obtain ⟨o, e, c, d⟩ := id st'
    exact ⟨u, rfl, Z54 (s := { s with heap := h' }) e c d (by decide) ⟨x, H, I1, ru, ⟨rfl, fun ys hy => by rw [I.list_inj hy hq]; exact hx⟩, st', fun b hb => (hf b hb).1⟩⟩
  done := by
    intro X hP hw hK hc i pins s σ H E I hf st hg
    subst hP hw hK
    obtain ⟨xs, hq, hx⟩ := hg
    obtain ⟨its, rv, p, hz⟩ := I.list hq
    obtain ⟨f0, f1, f2, f3, f4, f5⟩ := hf it (by simp)
    have hl := rv.length
    exact wpAny_pyNext_list_end (I.ok.hd hc) st p.isList (by simp; omega) fun h' eb => ⟨rfl, I.turned (t' := s.toks) (fun b o hb e => eb b o hb e) f0 f1 f3 f4 f5⟩
  self := fun _ _ _ _ _ st h => wpAny_pyIter_listiter st h
theorem Zas {P : Program} {w : World} {K : PySem.W.Frag} {tg : Expr} (a it : Addr) : Turn P w K tg (Itt K a) [it] it (fun i h => h.IsTupleIter it a i) where
  mem := by simp
  obj := fun i h st b hb => by
    have e : b = it := by simpa using hb
    subst e
    obtain ⟨o, e, c, d⟩ := st
    exact ⟨o, e, fun v z => by rw [d] at z; cases z⟩
  keep := fun i h h' st k => st.at fun o e => k it (by simp) o e
  item := by
    intro X hP hw hK hc i pins s σ H E I hf st hg
    subst hP hw hK
    obtain ⟨xs, x, hq, hx⟩ := hg
    obtain ⟨its, rv, p, hz⟩ := I.tuple hq
    obtain ⟨u, hu, ru⟩ := rv.get hx
    obtain ⟨f0, f1, f2, f3, f4, f5⟩ := hf it (by simp)
    refine wpAny_pyNext_tuple_item st (show s.heap.IsTuple a its.toArray from p) (x := u) (by simpa using hu) fun h' st' sb => ?_
    have I1 : Inv X pins σ H { s with heap := h' } := I.turned (t' := s.toks) (fun b o hb e => (sb.2 b hb).trans e) f0 f1 f3 f4 f5
    obtain ⟨o, e, c, d⟩ := id st'
    exact ⟨u, rfl, Z54 (s := { s with heap := h' }) e c d (by decide) ⟨x, H, I1, ru, ⟨rfl, fun ys hy => by rw [I.tuple_inj hy hq]; exact hx⟩, st', fun b hb => (hf b hb).1⟩⟩
  done := by
    intro X hP hw hK hc i pins s σ H E I hf st hg
    subst hP hw hK
    obtain ⟨xs, hq, hx⟩ := hg
    obtain ⟨its, rv, p, hz⟩ := I.tuple hq
    obtain ⟨f0, f1, f2, f3, f4, f5⟩ := hf it (by simp)
    have hl := rv.length
    exact wpAny_pyNext_tuple_end (I.ok.hd hc) st (show s.heap.IsTuple a its.toArray from p) (by simp; omega) fun h' eb => ⟨rfl, I.turned (t' := s.toks) (fun b o hb e => eb b o hb e) f0 f1 f3 f4 f5⟩
  self := fun _ _ _ _ _ st h => wpAny_pyIter_tupleiter st h
theorem Zac {P : Program} {w : World} {K : PySem.W.Frag} {tg : Expr} (it : Addr) (lo : Int) (n : Nat) : Turn P w K tg (Itr lo n) [it] it (fun i h => IsRangeIter h it (lo + (i : Nat) * 1) ((n : Int) - (i : Nat)) 1) where
  mem := by simp
  obj := fun i h st b hb => by
    have e : b = it := by simpa using hb
    subst e
    exact ⟨_, st, fun v z => by
      have z' : Data.fields _ = Data.cell v := z
      cases z'⟩
  keep := fun i h h' st k => k it (by simp) _ st
  item := by
    intro X hP hw hK hc i pins s σ H E I hf st hg
    subst hP hw hK
    obtain ⟨f0, f1, f2, f3, f4, f5⟩ := hf it (by simp)
    have W := Walks.range (prog := X.prog) (w := X.w) (I.ok.hd hc) it lo 1 n
    refine W.item i s _ _ hg st fun v h' tk hv st' kk => ?_
    obtain ⟨t, rfl⟩ := hv
    have I1 : Inv X pins σ H { s with heap := h', toks := tk } := I.turned (fun b o hb e => kk b o (by simpa using hb) e) f0 f1 f3 f4 f5
    refine ⟨_, rfl, Z54 (s := { s with heap := h', toks := tk }) (n := "range_iterator") st' rfl rfl (by decide) ⟨.int (lo + i), H, I1, ⟨t, ?_⟩, ⟨rfl, rfl⟩, st', fun b hb => (hf b hb).1⟩⟩
    rw [Int.mul_one]
  done := by
    intro X hP hw hK hc i pins s σ H E I hf st hg
    subst hP hw hK
    obtain ⟨f0, f1, f2, f3, f4, f5⟩ := hf it (by simp)
    exact wpAny_pyNext_range_end (I.ok.hd hc) st (by have : n <= i := hg; omega) fun h' eb => ⟨rfl, I.turned (t' := s.toks) (fun b o hb e => eb b o hb e) f0 f1 f3 f4 f5⟩
  self := fun _ _ _ _ _ st h => wpAny_pyIter_rangeiter st h
end L2
namespace L2
open PySem PySem.Spec PyProof.Rows
section
variable {X : Cx} {tg : Expr}
theorem Zd8 {pins : List (Addr × Obj)} {σ : St} {H : Hp} {s : Shared} {R : It -> Hp -> Prop} {E : Value -> Shared -> Prop} {lo hi : Int} {t u v : Tok} {tk : Nat} (I : Inv X pins σ H s) (h1 : -(2 ^ 62) <= lo) (h2 : lo < 2 ^ 62) (h3 : -(2 ^ 62) <= hi) (h4 : hi < 2 ^ 62)
    (q : R (Itr lo (hi - lo).toNat) H) : wpAny (model X.prog X.w) X.A (pyIter (.ref s.heap.objs.size)) (PIE X pins σ tg R) E { s with heap := s.heap.push { cls := .type "range", data := .fields #[.int lo t, .int hi u, .int 1 v] }, toks := tk } := by
  refine wpAny_pyIter_range (IsRange.new ..) (small_one h1 h2 h3 h4) ?_
  have I1 : Inv X pins σ H { s with heap := s.heap.push { cls := .type "range", data := .fields #[.int lo t, .int hi u, .int 1 v] }, toks := tk } := I.kept fun b o e => Heap.get?_push_of_some _ e
  refine ⟨(s.heap.push { cls := .type "range", data := .fields #[.int lo t, .int hi u, .int 1 v] }).objs.size, [(s.heap.push { cls := .type "range", data := .fields #[.int lo t, .int hi u, .int 1 v] }).objs.size], _, _, H, rfl,
    I1.kept (t' := tk) fun b o e => Heap.get?_push_of_some _ e, Zac _ lo (hi - lo).toNat, ?_, fun b hb => ?_, q⟩
  . have e1 : lo + ((0 : Nat) : Int) * 1 = lo := by simp
    have e2 : (((hi - lo).toNat : Nat) : Int) - ((0 : Nat) : Int) = Builtin.Range.rangeSize lo hi 1 := by rw [rangeSize_one]; split <;> omega
    show IsRangeIter _ _ (lo + ((0 : Nat) : Int) * 1) ((((hi - lo).toNat : Nat) : Int) - ((0 : Nat) : Int)) 1
    rw [e1, e2]
    exact Heap.get?_push_size _ rfl
  . have e : b = (s.heap.push { cls := .type "range", data := .fields #[.int lo t, .int hi u, .int 1 v] }).objs.size := by simpa using hb
    subst e
    exact I1.fpOk (Nat.le_refl _) (I1.hok.fresh (Nat.le_refl _))
def iRng1 (ta : TA) : TI := fun σ H R => ta σ H fun vs H1 => ∃ j : Int, vs = [.int j] /\ -(2 ^ 62) <= j /\ j < 2 ^ 62 /\ R (Itr 0 j.toNat) H1
theorem Zb7 {a : Expr} {ta : TA} {p pos : Pos} (hg : Gl X "range") (hm : X.mg "range" = none) (ha : PA X [a] ta) (hs : starEach [a] X.env = [(false, eval a X.env)] := by rfl) : PI X tg (.Call (.Name "range" p) [a] [] pos) (iRng1 ta) := by
  intro pins s σ H R I h
  refine Call_ (Z3v I hg hm boot_range (PyProof.Rows.callWith_type1 (thn (ha pos pins s σ H _ I h) fun us s1 ⟨vs, H1, I1, r1, q1⟩ => ?_) hs rfl))
  obtain ⟨j, e, q1, q2, q⟩ := q1
  subst e
  cases r1 with
  | cons r rr =>
    cases rr
    obtain ⟨t, rfl⟩ := r
    exact call_range_1 (Zd8 I1 (by omega) (by omega) q1 q2 (by simpa using q))
def tFor (wi : TI) (g : TG) (tb : TS) : TS := fun D σ H => wi σ H fun J H1 => ∃ W : Nat -> Nat -> St -> Hp -> Prop, (∃ m, W 0 m σ H1) /\ ∀ i m σ H, W i m σ H ->
  (J.stop i H /\ D.nx σ H) \/ (J.go i H /\ ∃ N : St -> Hp -> Prop, (∀ σ' H', N σ' H' -> ∃ m', m' < m /\ W (i + 1) m' σ' H') /\ ∀ x H', J.yld i H x H' -> g x σ H' fun σ2 H2 => tb { D with nx := N, ct := N, bk := D.nx } σ2 H2)
def Z3h (fp : List Addr) (h : Heap) : List (Addr × Obj) := fp.filterMap fun b => (h.get? b).map fun o => (b, o)
theorem Z2f {fp : List Addr} {h : Heap} {b : Addr} {o : Obj} (hb : b ∈ fp) (e : h.get? b = some o) : (b, o) ∈ Z3h fp h := List.mem_filterMap.mpr ⟨b, hb, by rw [e]; rfl⟩
theorem Zch {fp : List Addr} {h : Heap} {p : Addr × Obj} (hp : p ∈ Z3h fp h) : p.1 ∈ fp /\ h.get? p.1 = some p.2 := by
  obtain ⟨b, hb, e⟩ := List.mem_filterMap.mp hp
  cases q : h.get? b with
  | none => rw [q] at e; cases e
  | some o =>
    rw [q] at e
    have e' : (b, o) = p := Option.some.inj e
    subst e'
    exact ⟨hb, q⟩
theorem Inv.pinned {pins : List (Addr × Obj)} {σ : St} {H : Hp} {s : Shared} {fp : List Addr} (I : Inv X pins σ H s) (hf : ∀ b ∈ fp, FpOk X pins H b) (ho : ∀ b ∈ fp, ∃ o, s.heap.get? b = some o /\ ∀ v, o.data ≠ .cell v) : Inv X (pins ++ Z3h fp s.heap) σ H s :=
  I.pins_of fun p hp => (List.mem_append.mp hp).elim (fun z => I.pin p (List.mem_append_right _ z)) fun z => by
    obtain ⟨hb, e⟩ := Zch z
    obtain ⟨f0, f1, f2, _⟩ := hf p.1 hb
    obtain ⟨o, e', d⟩ := ho p.1 hb
    rw [e] at e'; cases e'
    exact ⟨e, f0, f1, f2, d⟩
theorem Inv.unpinned {pins pl : List (Addr × Obj)} {σ : St} {H : Hp} {s : Shared} (I : Inv X (pins ++ pl) σ H s) : Inv X pins σ H s := I.pins_of fun p hp => I.pin p (List.mem_append_right _ (List.mem_append_left _ hp))
theorem ps_for {iter : Expr} {body : List Stmt} {wi : TI} {g : TG} {tb : TS} {pos : Pos} (hp : PassesOwn (model X.prog X.w) X.A X.env X.xe) (hc : X.calm = true) (hi : PI X tg iter wi) (hg : PG X tg g) (hb : PSs X body tb)
    (hs : ∀ x, foldedSetIterable iter X.env x = pure x := by intro _; rfl) : PS X (.For tg iter body [] pos) (tFor wi g tb) := by
  intro pins s σ H D I h
  refine wpAny_For (thn (hi pins s σ H _ I h) fun v s1 h1 => thn h1 fun itv s2 h2 => ?_) hs
  obtain ⟨it, fp, tn, J, H2, e, I2, T, st2, f2, W, ⟨m0, w0⟩, turn⟩ := h2
  subst e
  have stat : ∀ {H' : Hp}, (∀ b ∈ fp, H' b = none) -> ∀ b ∈ fp, FpOk X pins H' b := fun hn b hb => ⟨hn b hb, (f2 b hb).2⟩
  refine codeAny_forLoop_any (fun n s' => ∃ i σ' H', Inv X pins σ' H' s' /\ tn i s'.heap /\ (∀ b ∈ fp, H' b = none) /\ W i n σ' H') ?_ m0 ⟨0, σ, H2, I2, st2, fun b hb => (f2 b hb).1, w0⟩
  rintro n s3 ⟨i, σ3, H3, I3, st3, fr3, w3⟩
  rcases turn i n σ3 H3 w3 with ⟨stop, qn⟩ | ⟨go, N, hN, step⟩
  . refine wpAny_passesOwn hp (thn (T.done X rfl rfl rfl hc i pins s3 σ3 H3 X.xe I3 (stat fr3) st3 stop) fun r s4 ⟨hr, I4⟩ => ?_)
    subst hr
    exact wpAny_execs_nil ⟨σ3, H3, I4, qn⟩
  . refine wpAny_passesOwn hp (thn (T.item X rfl rfl rfl hc i pins s3 σ3 H3 X.xe I3 (stat fr3) st3 go) fun r s4 ⟨u, hr, h4⟩ => ?_)
    subst hr
    refine wpAny_passesOwn hp (thn h4 fun _ s5 ⟨x, H5, I5, r5, y5, st5, fr5⟩ => ?_)
    have I5' := I5.pinned (stat fr5) (T.obj _ _ st5)
    refine wpAny_passesOwn hp (thn (hg _ s5 σ3 H5 x u _ I5' r5 (step x H5 y5)) fun _ s6 ⟨σ6, H6, I6, q6⟩ => ?_)
    refine wpAny_passesOwn hp (thn (hb _ s6 σ6 H6 _ I6 q6) fun f s7 q7 => ?_)
    have again : ∀ {σ7 : St} {H7 : Hp}, Inv X (pins ++ Z3h fp s5.heap) σ7 H7 s7 -> N σ7 H7 -> ∃ m, m < n /\ ∃ i σ' H', Inv X pins σ' H' s7 /\ tn i s7.heap /\ (∀ b ∈ fp, H' b = none) /\ W i m σ' H' := fun {σ7 H7} I7 n7 => by
      obtain ⟨m', hm, w7⟩ := hN σ7 H7 n7
      refine ⟨m', hm, i + 1, σ7, H7, I7.unpinned, T.keep _ _ _ st5 fun b hb o e => (I7.pin (b, o) (List.mem_append_right _ (List.mem_append_right _ (Z2f hb e)))).1, fun b hb => ?_, w7⟩
      obtain ⟨o, e, d⟩ := T.obj _ _ st5 b hb
      exact (I7.pin (b, o) (List.mem_append_right _ (List.mem_append_right _ (Z2f hb e)))).2.1
    cases f with
    | next => obtain ⟨σ7, H7, I7, n7⟩ := q7; exact again I7 n7
    | cont => obtain ⟨σ7, H7, I7, n7⟩ := q7; exact again I7 n7
    | brk => obtain ⟨σ7, H7, I7, q7⟩ := q7; exact ⟨σ7, H7, I7.unpinned, q7⟩
    | ret v => obtain ⟨x7, σ7, H7, I7, r7, q7⟩ := q7; exact ⟨x7, σ7, H7, I7.unpinned, r7, q7⟩
end
end L2
namespace L2
open PySem PySem.Spec PyProof.Rows
abbrev R2 := V -> V -> Hp -> VK -> Prop
def OpR (X : Cx) (f : Value -> Value -> Sem Value) (r : R2) : Prop :=
  ∀ (pins : List (Addr × Obj)) (s : Shared) (σ : St) (H : Hp) (x y : V) (v u : Value) (Q : VK), Inv X pins σ H s -> RelV x v -> RelV y u -> r x y H Q ->
    wpAny (model X.prog X.w) X.A (f v u) (EP X pins σ Q) X.xe s
def UnR (X : Cx) (f : Value -> Sem Value) (r : V -> Hp -> VK -> Prop) : Prop :=
  ∀ (pins : List (Addr × Obj)) (s : Shared) (σ : St) (H : Hp) (x : V) (v : Value) (Q : VK), Inv X pins σ H s -> RelV x v -> r x H Q ->
    wpAny (model X.prog X.w) X.A (f v) (EP X pins σ Q) X.xe s
def Z11 (X : Cx) (f : Value) (r : List V -> Hp -> VK -> Prop) : Prop :=
  ∀ (pins : List (Addr × Obj)) (s : Shared) (σ : St) (H : Hp) (xs : List V) (us : List Value) (Q : VK), Inv X pins σ H s -> Vals xs us -> r xs H Q ->
    wpAny (model X.prog X.w) X.A (call f us) (EP X pins σ Q) X.xe s
def TruR (X : Cx) (r : V -> Hp -> (Bool -> Hp -> Prop) -> Prop) : Prop :=
  ∀ (pins : List (Addr × Obj)) (s : Shared) (σ : St) (H : Hp) (x : V) (v : Value) (Q : Bool -> Hp -> Prop), Inv X pins σ H s -> RelV x v -> r x H Q ->
    wpAny (model X.prog X.w) X.A (truthy v) (TP X pins σ Q) X.xe s
def tOp (r : R2) (ta tb : TE) : TE := fun σ H Q => ta σ H fun x H1 => tb σ H1 fun y H2 => r x y H2 Q
def tUn (r : V -> Hp -> VK -> Prop) (ta : TE) : TE := fun σ H Q => ta σ H fun x H1 => r x H1 Q
def rI (C : Int -> Int -> Prop) (g : Int -> Int -> V) : R2 := fun x y H Q => ∃ i j, x = .int i /\ y = .int j /\ C i j /\ Q (g i j) H
def rI0 (g : Int -> Int -> V) : R2 := fun x y H Q => ∃ i j, x = .int i /\ y = .int j /\ Q (g i j) H
def rU (g : Int -> V) : V -> Hp -> VK -> Prop := fun x H Q => ∃ i, x = .int i /\ Q (g i) H
section
variable {X : Cx} {a b c : Expr} {ta tb tc : TE} {pos : Pos}
theorem binT (ha : PE X a ta) (hb : PE X b tb) {pins : List (Addr × Obj)} {s : Shared} {σ : St} {H : Hp} {R : V -> V -> Hp -> Prop} (I : Inv X pins σ H s)
    (h : ta σ H fun x H1 => tb σ H1 fun y H2 => R x y H2) {Q : Value -> Shared -> Prop} {f : Value -> Value -> Sem Value}
    (hf : ∀ v u s2 x y H2, Inv X pins σ H2 s2 -> RelV x v -> RelV y u -> R x y H2 -> wpAny (model X.prog X.w) X.A (f v u) Q X.xe s2) :
    wpAny (model X.prog X.w) X.A (eval a X.env) (fun v s₁ => wpAny (model X.prog X.w) X.A (eval b X.env) (fun u s₂ => wpAny (model X.prog X.w) X.A (f v u) Q X.xe s₂) X.xe s₁) X.xe s := by
  refine thn (ha pins s σ H _ I h) fun v s1 ⟨x, H1, I1, r1, q1⟩ => ?_
  refine thn (hb pins s1 σ H1 _ I1 q1) fun u s2 ⟨y, H2, I2, r2, q2⟩ => ?_
  exact hf v u s2 x y H2 I2 r1 r2 q2
theorem pe_op {op : Operator} {r : R2} (ho : OpR X (binaryOp op) r) (ha : PE X a ta) (hb : PE X b tb) : PE X (.BinOp a op b pos) (tOp r ta tb) := by
  intro pins s σ H Q I h
  exact wpAny_BinOp (binT ha hb I h fun v u s2 x y H2 I2 rx ry q => ho pins s2 σ H2 x y v u Q I2 rx ry q)
theorem pe_un {op : UnaryOp} {r : V -> Hp -> VK -> Prop} (ho : UnR X (unaryOp op) r) (ha : PE X a ta) : PE X (.UnaryOp op a pos) (tUn r ta) := by
  intro pins s σ H Q I h
  exact UnaryOp_ (thn (ha pins s σ H _ I h) fun v s1 ⟨x, H1, I1, r1, q1⟩ => ho pins s1 σ H1 x v Q I1 r1 q1)
theorem opI {f : Value -> Value -> Sem Value} {C : Int -> Int -> Prop} {g : Int -> Int -> Int}
    (rule : ∀ (i j : Int) (t u : Tok) (s : Shared) (Q : Value -> Shared -> Prop) (E : Value -> Shared -> Prop), C i j -> Q (.int (g i j) s.toks) { s with toks := s.toks + 1 } -> wpAny (model X.prog X.w) X.A (f (.int i t) (.int j u)) Q E s) :
    OpR X f (rI C fun i j => .int (g i j)) := by
  intro pins s σ H x y v u Q I rx ry h
  obtain ⟨i, j, rfl, rfl, hc, q⟩ := h
  obtain ⟨t, rfl⟩ := rx
  obtain ⟨t', rfl⟩ := ry
  exact rule i j t t' s _ _ hc ⟨.int (g i j), H, I.tok _, ⟨_, rfl⟩, q⟩
theorem opI0 {f : Value -> Value -> Sem Value} {g : Int -> Int -> Int}
    (rule : ∀ (i j : Int) (t u : Tok) (s : Shared) (Q : Value -> Shared -> Prop) (E : Value -> Shared -> Prop), Q (.int (g i j) s.toks) { s with toks := s.toks + 1 } -> wpAny (model X.prog X.w) X.A (f (.int i t) (.int j u)) Q E s) :
    OpR X f (rI0 fun i j => .int (g i j)) := by
  intro pins s σ H x y v u Q I rx ry h
  obtain ⟨i, j, rfl, rfl, q⟩ := h
  obtain ⟨t, rfl⟩ := rx
  obtain ⟨t', rfl⟩ := ry
  exact rule i j t t' s _ _ ⟨.int (g i j), H, I.tok _, ⟨_, rfl⟩, q⟩
theorem opB0 {f : Value -> Value -> Sem Value} {g : Int -> Int -> Bool}
    (rule : ∀ (i j : Int) (t u : Tok) (s : Shared) (Q : Value -> Shared -> Prop) (E : Value -> Shared -> Prop), Q (.bool (g i j)) s -> wpAny (model X.prog X.w) X.A (f (.int i t) (.int j u)) Q E s) :
    OpR X f (rI0 fun i j => .bl (g i j)) := by
  intro pins s σ H x y v u Q I rx ry h
  obtain ⟨i, j, rfl, rfl, q⟩ := h
  obtain ⟨t, rfl⟩ := rx
  obtain ⟨t', rfl⟩ := ry
  exact rule i j t t' s _ _ ⟨.bl (g i j), H, I, rfl, q⟩
def CDiv (i j : Int) : Prop := 0 < j /\ j < 1073741824
def CPow (i j : Int) : Prop := 0 <= j /\ j <= 1000000 /\ i.natAbs < 2 ^ 64
def CMul (i j : Int) : Prop := (-(2 ^ 64) < i /\ i < 2 ^ 64) \/ (-(2 ^ 64) < j /\ j < 2 ^ 64)
theorem CMul.ok {i j : Int} (h : CMul i j) : IntMulOk i j := by
  rcases h with ⟨h1, h2⟩ | ⟨h1, h2⟩
  . exact .of_left (intBits_le_64 h1 h2)
  . exact .of_right (intBits_le_64 h1 h2)
theorem op_add : OpR X (binaryOp .Add) (rI0 fun i j => .int (i + j)) := opI0 fun _ _ _ _ _ _ _ q => add_int q
theorem op_sub : OpR X (binaryOp .Sub) (rI0 fun i j => .int (i - j)) := opI0 fun _ _ _ _ _ _ _ q => sub_int q
theorem op_mul : OpR X (binaryOp .Mult) (rI CMul fun i j => .int (i * j)) := opI fun _ _ _ _ _ _ _ hc q => mul_int q hc.ok
theorem Zfl : OpR X (binaryOp .FloorDiv) (rI CDiv fun i j => .int (i / j)) := opI fun i j _ _ _ _ _ hc q => by
  have h1 : (0 : Int) < j := hc.1
  have h2 : j < 1073741824 := hc.2
  exact floordiv_int (by omega) (by rw [Int.fdiv_eq_ediv_of_nonneg i (by omega)]; exact q) (.inl (PyProof.noPylong_small (by omega)))
theorem op_mod : OpR X (binaryOp .Mod) (rI (fun _ j => 0 < j) fun i j => .int (i % j)) := opI fun i j _ _ _ _ _ hc q => by
  have h1 : (0 : Int) < j := hc
  exact mod_int' (by omega) (by rw [Int.fmod_eq_emod_of_nonneg i (by omega)]; exact q)
theorem op_pow : OpR X (binaryOp .Pow) (rI CPow fun i j => .int (i ^ j.toNat)) := opI fun _ _ _ _ _ _ _ hc q => pow_int_small hc.1 hc.2.1 hc.2.2 q
theorem unI {f : Value -> Sem Value} {g : Int -> Int}
    (rule : ∀ (i : Int) (t : Tok) (s : Shared) (Q : Value -> Shared -> Prop) (E : Value -> Shared -> Prop), Q (.int (g i) s.toks) { s with toks := s.toks + 1 } -> wpAny (model X.prog X.w) X.A (f (.int i t)) Q E s) :
    UnR X f (rU fun i => .int (g i)) := by
  intro pins s σ H x v Q I rx h
  obtain ⟨i, rfl, q⟩ := h
  obtain ⟨t, rfl⟩ := rx
  exact rule i t s _ _ ⟨.int (g i), H, I.tok _, ⟨_, rfl⟩, q⟩
theorem un_neg : UnR X (unaryOp .USub) (rU fun i => .int (-i)) := unI fun _ _ _ _ _ q => neg_int q
end
def scal : V -> V -> Bool
  | .non, .non => true | .non, .int _ => true | .int _, .non => true | .non, .bl _ => true | .bl _, .non => true | .non, .str _ => true | .str _, .non => true
  | .int _, .int _ => true | .bl _, .bl _ => true | .str _, .str _ => true | .byt _, .byt _ => true
  | .int _, .str _ => true | .str _, .int _ => true | .bl _, .str _ => true | .str _, .bl _ => true
  | _, _ => false
def rEq : R2 := fun x y H Q => scal x y = true /\ Q (.bl (decide (x = y))) H
def rNe : R2 := fun x y H Q => scal x y = true /\ Q (.bl (!decide (x = y))) H
theorem Za0 {i j : Int} : decide (V.int i = V.int j) = (i == j) := by
  rw [Bool.eq_iff_iff]
  simp
theorem Zci {i j : Bool} : decide (V.bl i = V.bl j) = (i == j) := by
  rw [Bool.eq_iff_iff]
  simp
theorem Z9b {i j : Str} : decide (V.str i = V.str j) = (i == j) := by
  rw [Bool.eq_iff_iff]
  simp
theorem Z95 {i j : Array UInt8} : decide (V.byt i = V.byt j) = (i.toList == j.toList) := by
  rw [Bool.eq_iff_iff]
  cases i
  cases j
  simp
section
variable {X : Cx} {a b c : Expr} {ta tb tc : TE} {pos : Pos}
theorem Zj {pins : List (Addr × Obj)} {σ : St} {H : Hp} {s : Shared} {Q : VK} {k k' : Bool} (I : Inv X pins σ H s) (q : Q (.bl k) H) (e : k = k') : EP X pins σ Q (.bool k') s := by
  subst e
  exact ⟨.bl k, H, I, rfl, q⟩
theorem op_eq : OpR X (compareOp .Eq) rEq := by
  intro pins s σ H x y v u Q I rx ry h
  obtain ⟨hs, q⟩ := h
  cases x with
  | non =>
    cases rx
    cases y with
    | non => cases ry; exact PySem.EqNone.eq_none_none (Zj I q (by simp))
    | bl j => cases ry; exact PySem.EqNone.eq_none_bool (Zj I q (by simp))
    | int j => obtain ⟨t', rfl⟩ := ry; exact PySem.EqNone.eq_none_int (Zj I q (by simp))
    | str j => obtain ⟨t', rfl⟩ := ry; exact PySem.EqNone.eq_none_str (Zj I q (by simp))
    | _ => exact absurd (show false = true from hs) Bool.false_ne_true
  | bl i =>
    cases rx
    cases y with
    | non => cases ry; exact PySem.EqNone.eq_bool_none (Zj I q (by simp))
    | bl j => cases ry; exact eq_bool (Zj I q Zci)
    | str j => obtain ⟨t', rfl⟩ := ry; exact PySem.EqMixed.eq_bool_str (Zj I q (by simp))
    | _ => exact absurd (show false = true from hs) Bool.false_ne_true
  | int i =>
    obtain ⟨t, rfl⟩ := rx
    cases y with
    | non => cases ry; exact PySem.EqNone.eq_int_none (Zj I q (by simp))
    | int j => obtain ⟨t', rfl⟩ := ry; exact eq_int (Zj I q Za0)
    | str j => obtain ⟨t', rfl⟩ := ry; exact PySem.EqMixed.eq_int_str (Zj I q (by simp))
    | _ => exact absurd (show false = true from hs) Bool.false_ne_true
  | str i =>
    obtain ⟨t, rfl⟩ := rx
    cases y with
    | non => cases ry; exact PySem.EqNone.eq_str_none (Zj I q (by simp))
    | bl j => cases ry; exact PySem.EqMixed.eq_str_bool (Zj I q (by simp))
    | int j => obtain ⟨t', rfl⟩ := ry; exact PySem.EqMixed.eq_str_int (Zj I q (by simp))
    | str j => obtain ⟨t', rfl⟩ := ry; exact eq_str (Zj I q Z9b)
    | _ => exact absurd (show false = true from hs) Bool.false_ne_true
  | byt i =>
    obtain ⟨t, rfl⟩ := rx
    cases y with
    | byt j => obtain ⟨t', rfl⟩ := ry; exact PySem.W.eq_bytes (Zj I q Z95)
    | _ => exact absurd (show false = true from hs) Bool.false_ne_true
  | _ => cases y <;> exact absurd (show false = true from hs) Bool.false_ne_true
theorem op_ne : OpR X (compareOp .NotEq) rNe := by
  intro pins s σ H x y v u Q I rx ry h
  obtain ⟨hs, q⟩ := h
  cases x with
  | non =>
    cases rx
    cases y with
    | non => cases ry; exact PySem.EqNone.ne_none_none (Zj I q (by simp))
    | bl j => cases ry; exact PySem.EqNone.ne_none_bool (Zj I q (by simp))
    | int j => obtain ⟨t', rfl⟩ := ry; exact PySem.EqNone.ne_none_int (Zj I q (by simp))
    | str j => obtain ⟨t', rfl⟩ := ry; exact PySem.EqNone.ne_none_str (Zj I q (by simp))
    | _ => exact absurd (show false = true from hs) Bool.false_ne_true
  | bl i =>
    cases rx
    cases y with
    | non => cases ry; exact PySem.EqNone.ne_bool_none (Zj I q (by simp))
    | bl j => cases ry; exact ne_bool (Zj I q (congrArg not Zci))
    | str j => obtain ⟨t', rfl⟩ := ry; exact PySem.EqMixed.ne_bool_str (Zj I q (by simp))
    | _ => exact absurd (show false = true from hs) Bool.false_ne_true
  | int i =>
    obtain ⟨t, rfl⟩ := rx
    cases y with
    | non => cases ry; exact PySem.EqNone.ne_int_none (Zj I q (by simp))
    | int j => obtain ⟨t', rfl⟩ := ry; exact ne_int (Zj I q (congrArg not Za0))
    | str j => obtain ⟨t', rfl⟩ := ry; exact PySem.EqMixed.ne_int_str (Zj I q (by simp))
    | _ => exact absurd (show false = true from hs) Bool.false_ne_true
  | str i =>
    obtain ⟨t, rfl⟩ := rx
    cases y with
    | non => cases ry; exact PySem.EqNone.ne_str_none (Zj I q (by simp))
    | bl j => cases ry; exact PySem.EqMixed.ne_str_bool (Zj I q (by simp))
    | int j => obtain ⟨t', rfl⟩ := ry; exact PySem.EqMixed.ne_str_int (Zj I q (by simp))
    | str j => obtain ⟨t', rfl⟩ := ry; exact ne_str (Zj I q (congrArg not Z9b))
    | _ => exact absurd (show false = true from hs) Bool.false_ne_true
  | byt i =>
    obtain ⟨t, rfl⟩ := rx
    cases y with
    | byt j => obtain ⟨t', rfl⟩ := ry; exact PySem.W.ne_bytes (Zj I q (congrArg not Z95))
    | _ => exact absurd (show false = true from hs) Bool.false_ne_true
  | _ => cases y <;> exact absurd (show false = true from hs) Bool.false_ne_true
theorem op_lt : OpR X (compareOp .Lt) (rI0 fun i j => .bl (decide (i < j))) := opB0 fun _ _ _ _ _ _ _ q => lt_int q
theorem op_le : OpR X (compareOp .LtE) (rI0 fun i j => .bl (decide (i <= j))) := opB0 fun _ _ _ _ _ _ _ q => le_int q
theorem op_gt : OpR X (compareOp .Gt) (rI0 fun i j => .bl (decide (j < i))) := opB0 fun _ _ _ _ _ _ _ q => gt_int q
theorem op_ge : OpR X (compareOp .GtE) (rI0 fun i j => .bl (decide (j <= i))) := opB0 fun _ _ _ _ _ _ _ q => ge_int q
theorem Zc0 : OpR X (compareOp .In) (fun x y H Q => ∃ i j, x = .str i /\ y = .str j /\ Q (.bl (!(Builtin.Str.occurrences j i 0 j.length 1).isEmpty)) H) := by
  intro pins s σ H x y v u Q I rx ry h
  obtain ⟨i, j, rfl, rfl, q⟩ := h
  obtain ⟨t, rfl⟩ := rx
  obtain ⟨t', rfl⟩ := ry
  exact in_str (Zj I q rfl)
theorem OpR.or {f : Value -> Value -> Sem Value} {r r' : R2} (h : OpR X f r) (h' : OpR X f r') : OpR X f (fun x y H Q => r x y H Q \/ r' x y H Q) := by
  intro pins s σ H x y v u Q I rx ry q
  rcases q with q | q
  . exact h pins s σ H x y v u Q I rx ry q
  . exact h' pins s σ H x y v u Q I rx ry q
theorem Z9 (b : Expr) {op : CmpOp} (h : op ≠ .In := by decide) (h2 : op ≠ .NotIn := by decide) : behindInMarks op b = false := by
  have e1 : (op == CmpOp.In) = false := by cases op <;> first | rfl | exact absurd rfl h
  have e2 : (op == CmpOp.NotIn) = false := by cases op <;> first | rfl | exact absurd rfl h2
  cases b <;> simp [behindInMarks, e1, e2]
theorem Zfd {op : CmpOp} {r : R2} (ho : OpR X (compareOp op) r) (ha : PE X a ta) (hb : PE X b tb) (hm : behindInMarks op b = false) : PE X (.Compare a [op] [b] pos) (tOp r ta tb) := by
  intro pins s σ H Q I h
  exact wpAny_Compare1 (binT ha hb I h fun v u s2 x y H2 I2 rx ry q => ho pins s2 σ H2 x y v u Q I2 rx ry q) hm
def tTest (t : TE) : TT := fun σ H Q => t σ H fun x H' => ∃ k, x = .bl k /\ Q k H'
theorem Zfm {op : CmpOp} {r : R2} (ho : OpR X (compareOp op) r) (ha : PE X a ta) (hb : PE X b tb) (hm : behindInMarks op b = false) : PT X (.Compare a [op] [b] pos) (tTest (tOp r ta tb)) := by
  intro pins s σ H Q I h
  refine wpAny_isTrue_Compare1 (thn (ha pins s σ H _ I h) fun v s1 ⟨x, H1, I1, r1, q1⟩ => thn (hb pins s1 σ H1 _ I1 q1) fun u s2 ⟨y, H2, I2, r2, q2⟩ =>
    thn (ho pins s2 σ H2 x y v u _ I2 r1 r2 q2) fun c s3 ⟨z, H3, I3, r3, k, e, q3⟩ => ?_) hm
  subst e
  cases r3
  exact wpAny_truthy_bool ⟨H3, I3, q3⟩
def TruV (K : PySem.W.Frag) (x : V) (H : Hp) (k : Bool) : Prop :=
  match x with
  | .non => k = false
  | .bl b => k = b
  | .int i => k = (i != 0)
  | .str y => y.length <= sizeLine /\ k = ((y.length : Int) != 0)
  | .byt y => y.size <= sizeLine /\ k = ((y.size : Int) != 0)
  | .ref p => (∃ xs, SqL K H p xs /\ k = !xs.isEmpty) \/ (∃ xs, SqT K H p xs /\ k = !xs.isEmpty) \/ ∃ kvs, H p = some (.dK kvs) /\ k = !kvs.isEmpty
  | _ => False
theorem Zad {κ : Type} {kvs : List (κ × V)} {vs : List (κ × Value)} (r : KV kvs vs) : (!vs.isEmpty) = !kvs.isEmpty := by
  cases r <;> rfl
theorem Z4r {xs : List V} {its : List Value} (r : Vals xs its) : (!its.toArray.isEmpty) = !xs.isEmpty := by
  cases r <;> simp
theorem Z3x : (sizeLine : Nat) < 2 ^ 63 := by rw [sizeLine_eq]; decide
theorem tru_ok : TruR X (fun x H Q => ∃ k, TruV X.K x H k /\ Q k H) := by
  intro pins s σ H x v Q I rx h
  obtain ⟨k, e, q⟩ := h
  have hl := Z3x
  have hs : sizeLine = 16777216 := sizeLine_eq
  cases x with
  | non =>
    cases rx
    have e' : k = false := e
    subst e'
    exact truthy_none ⟨H, I, q⟩
  | bl b =>
    cases rx
    have e' : k = b := e
    subst e'
    exact wpAny_truthy_bool ⟨H, I, q⟩
  | int i =>
    obtain ⟨t, rfl⟩ := rx
    have e' : k = (i != 0) := e
    subst e'
    exact PySem.P.truthy_int ⟨H, I, q⟩
  | str y =>
    obtain ⟨t, rfl⟩ := rx
    obtain ⟨hy, e'⟩ : y.length <= sizeLine /\ k = ((y.length : Int) != 0) := e
    subst e'
    exact PySem.P.truthy_str (by omega) ⟨H, I.tok _, q⟩
  | byt y =>
    obtain ⟨t, rfl⟩ := rx
    obtain ⟨hy, e'⟩ : y.size <= sizeLine /\ k = ((y.size : Int) != 0) := e
    subst e'
    exact PySem.W.truthy_bytes (by omega) ⟨H, I.tok _, q⟩
  | ref p =>
    cases rx
    have e' : (∃ xs, SqL X.K H p xs /\ k = !xs.isEmpty) \/ (∃ xs, SqT X.K H p xs /\ k = !xs.isEmpty) \/ ∃ kvs, H p = some (.dK kvs) /\ k = !kvs.isEmpty := e
    rcases e' with ⟨xs, hx, e'⟩ | ⟨xs, hx, e'⟩ | ⟨kvs, hx, e'⟩
    . subst e'
      obtain ⟨its, r, pl, hz⟩ := I.list hx
      have hlen := r.length
      exact wpAny_truthy_list pl.isList (by simp only [List.size_toArray]; omega) ⟨H, I.tok _, by rw [Z4r r]; exact q⟩
    . subst e'
      obtain ⟨its, r, pl, hz⟩ := I.tuple hx
      have hlen := r.length
      exact truthy_tuple pl (by simp only [List.size_toArray]; omega) ⟨H, I.tok _, by rw [Z4r r]; exact q⟩
    . subst e'
      obtain ⟨hz, hS, vs, r, m⟩ : kvs.length <= sizeLine /\ (p == sysModules) = false /\ ∃ vs, KV kvs vs /\ s.heap.DictOf (Z14 X.prog X.w) p vs := I.hok p _ hx
      have hlen : kvs.length = vs.length := Paired.length r
      exact wpAny_truthy_dict hS m (by omega) ⟨H, I.tok _, by rw [Zad r]; exact q⟩
  | _ => exact (show False from e).elim
theorem Zek (ha : PE X a ta) (he : ∀ whole, isTrue a X.env whole = (do let v <- whole; standAt a.pos; holding [v] (truthy v))) :
    PT X a (fun σ H Q => ta σ H fun x H' => ∃ k, TruV X.K x H' k /\ Q k H') := by
  intro pins s σ H Q I h
  exact isTrue_plain (thn (ha pins s σ H _ I h) fun v s1 ⟨x, H1, I1, r1, q1⟩ => tru_ok pins s1 σ H1 x v Q I1 r1 q1) (he _)
theorem Za6 : OpR X (binaryOp .Add) (fun x y H Q => ∃ i j, x = .str i /\ y = .str j /\ i.length + j.length <= sizeLine /\ Q (.str (i ++ j)) H) := by
  intro pins s σ H x y v u Q I rx ry h
  obtain ⟨i, j, rfl, rfl, hz, q⟩ := h
  obtain ⟨t, rfl⟩ := rx
  obtain ⟨t', rfl⟩ := ry
  exact add_str (fun t' tk => ⟨.str (i ++ j), H, I.tok _, ⟨_, rfl⟩, q⟩) hz
theorem Z1j {x : V} {us : List Value} (r : Vals [x] us) : ∃ u, us = [u] /\ RelV x u := by
  cases r with
  | cons r1 r2 => cases r2; exact ⟨_, rfl, r1⟩
theorem Zap {x y : V} {us : List Value} (r : Vals [x, y] us) : ∃ u w', us = [u, w'] /\ RelV x u /\ RelV y w' := by
  cases r with
  | cons r1 r2 =>
    cases r2 with
    | cons r3 r4 => cases r4; exact ⟨_, _, rfl, r1, r3⟩
theorem Zba (hc : X.calm = true) : Z11 X (.builtin "max") (fun xs H Q => ∃ i j, xs = [.int i, .int j] /\ Q (.int (if j > i then j else i)) H) := by
  intro pins s σ H xs us Q I r h
  obtain ⟨i, j, rfl, q⟩ := h
  obtain ⟨u, w', rfl, ⟨t, rfl⟩, ⟨t', rfl⟩⟩ := Zap r
  refine max_two_ints (I.ok.hd hc) fun h' tk k => ⟨_, H, I.kept k, ?_, q⟩
  by_cases hj : j > i
  . rw [if_pos hj, if_pos hj]; exact ⟨_, rfl⟩
  . rw [if_neg hj, if_neg hj]; exact ⟨_, rfl⟩
theorem Zc4 (hc : X.calm = true) : Z11 X (.builtin "min") (fun xs H Q => ∃ i j, xs = [.int i, .int j] /\ Q (.int (if j < i then j else i)) H) := by
  intro pins s σ H xs us Q I r h
  obtain ⟨i, j, rfl, q⟩ := h
  obtain ⟨u, w', rfl, ⟨t, rfl⟩, ⟨t', rfl⟩⟩ := Zap r
  refine min_two_ints (I.ok.hd hc) fun h' tk k => ⟨_, H, I.kept k, ?_, q⟩
  by_cases hj : j < i
  . rw [if_pos hj, if_pos hj]; exact ⟨_, rfl⟩
  . rw [if_neg hj, if_neg hj]; exact ⟨_, rfl⟩
theorem Zbv : Z11 X (.type "int") (fun xs H Q => (∃ i, xs = [.int i] /\ Q (.int i) H) \/ ∃ k, xs = [.bl k] /\ Q (.int (if k then 1 else 0)) H) := by
  intro pins s σ H xs us Q I r h
  rcases h with ⟨i, rfl, q⟩ | ⟨k, rfl, q⟩
  . obtain ⟨u, rfl, t, rfl⟩ := Z1j r
    exact call_int_int ⟨.int i, H, I, ⟨_, rfl⟩, q⟩
  . obtain ⟨u, rfl, r1⟩ := Z1j r
    cases r1
    exact call_int_bool ⟨.int (if k then 1 else 0), H, I.tok _, ⟨_, rfl⟩, q⟩
theorem Z8c : Z11 X (.type "str") (fun xs H Q => ∃ i, xs = [.int i] /\ i.natAbs.log2 < 1920 /\ Q (.str (toString i)) H) := by
  intro pins s σ H xs us Q I r h
  obtain ⟨i, rfl, hz, q⟩ := h
  obtain ⟨u, rfl, t, rfl⟩ := Z1j r
  exact PySem.P.str_of_int hz ⟨.str _, H, I.tok _, ⟨_, rfl⟩, q⟩
def LenV (K : PySem.W.Frag) (x : V) (H : Hp) (n : Nat) : Prop :=
  match x with
  | .str y => y.length <= sizeLine /\ n = y.length
  | .byt y => y.size <= sizeLine /\ n = y.size
  | .ref p => (∃ xs, SqL K H p xs /\ n = xs.length) \/ ∃ xs, SqT K H p xs /\ n = xs.length
  | _ => False
theorem Zd9 : Z11 X (.builtin "len") (fun xs H Q => ∃ x n, xs = [x] /\ LenV X.K x H n /\ Q (.int n) H) := by
  intro pins s σ H xs us Q I r h
  obtain ⟨x, n, rfl, e, q⟩ := h
  obtain ⟨u, rfl, rx⟩ := Z1j r
  have hl := Z3x
  have hs : sizeLine = 16777216 := sizeLine_eq
  cases x with
  | str y =>
    obtain ⟨t, rfl⟩ := rx
    obtain ⟨hy, e'⟩ : y.length <= sizeLine /\ n = y.length := e
    subst e'
    exact len_str (by omega) ⟨.int _, H, I.tok _, ⟨_, rfl⟩, q⟩
  | byt y =>
    obtain ⟨t, rfl⟩ := rx
    obtain ⟨hy, e'⟩ : y.size <= sizeLine /\ n = y.size := e
    subst e'
    exact PySem.W.len_bytes (by omega) ⟨.int _, H, I.tok _, ⟨_, rfl⟩, q⟩
  | ref p =>
    cases rx
    have e' : (∃ xs, SqL X.K H p xs /\ n = xs.length) \/ ∃ xs, SqT X.K H p xs /\ n = xs.length := e
    rcases e' with ⟨xs, hx, e'⟩ | ⟨xs, hx, e'⟩
    . subst e'
      obtain ⟨its, r', pl, hz⟩ := I.list hx
      have hlen := r'.length
      exact Calls.call_len_list pl.isList (by simp only [List.size_toArray]; omega) ⟨.int xs.length, H, I.tok _, ⟨_, by simp only [List.size_toArray]; rw [hlen]⟩, q⟩
    . subst e'
      obtain ⟨its, r', pl, hz⟩ := I.tuple hx
      have hlen := r'.length
      exact len_tuple pl (by simp only [List.size_toArray]; omega) ⟨.int xs.length, H, I.tok _, ⟨_, by simp only [List.size_toArray]; rw [hlen]⟩, q⟩
  | _ => exact (show False from e).elim
end
end L2
namespace L2
open PySem PySem.Spec PyProof.Rows
structure ObjM (h : Heap) (x dx C : Addr) (mA : Str -> Option Value) : Prop where
  obj : h.get? x = some (PySem.W.instObj C dx)
  ns : h.Ns1 dx mA
  ne : dx ≠ x
theorem Zb8 {h : Heap} {dx : Addr} {mA : Str -> Option Value} (n : h.Ns1 dx mA) : ∃ od, h.get? dx = some od /\ ∀ name, PySem.W.lookIn name od = some (mA name) := by
  obtain ⟨o, es, ep, ho, hd, hk, _, hm⟩ := n
  refine ⟨o, ho, fun name => ?_⟩
  have e := hm name
  unfold nsFind findBy at e
  rw [<- Array.find?_toList] at e
  unfold PySem.W.lookIn
  rw [hd]
  dsimp only
  split
  . rename_i y q
    rw [q] at e
    exact congrArg some e
  . rename_i q
    rw [q] at e
    have a : es.toList.any (·.refKey) = false := by
      rw [List.any_eq_false]
      intro y hy
      obtain ⟨z, t, hkey⟩ := hk y (Array.mem_toList_iff.mp hy)
      simp [DictEntry.refKey, hkey]
    have a' : ¬ es.toList.any (·.refKey) = true := by rw [a]; exact Bool.false_ne_true
    rw [if_neg a']
    exact congrArg some e
theorem ObjM.look {h : Heap} {x dx C : Addr} {mA : Str -> Option Value} (I : ObjM h x dx C mA) : ∃ od, PySem.W.InstAt h x (PySem.W.instObj C dx) C (some od) /\ ∀ name, PySem.W.lookIn name od = some (mA name) :=
  let ⟨od, ho, hl⟩ := Zb8 I.ns
  ⟨od, ⟨I.obj, rfl, rfl, ho⟩, hl⟩
section
variable {prog : Program} {w : World} {A : Around} {E : Value -> Shared -> Prop} {s : Shared} {K : PySem.W.Frag} {x dx C f : Addr} {mA : Str -> Option Value} {name : Str} {v : Value}
theorem Zfr {expr : Bool} {Q : Value -> Shared -> Prop} (X : K.In s.heap) (I : ObjM s.heap x dx C mA) (hg : PySem.W.plainGet K C name = true) (hh : PySem.W.hasDictIn K C = true)
    (ha : PySem.W.findIn K (.ref C) name = some none) (hv : mA name = some v) (hv' : PySem.W.handedIn v = true) (h : Q v { s with toks := s.toks + 1 }) :
    wpAny (model prog w) A (getAttr (.ref x) name expr) Q E s := by
  obtain ⟨od, J, hl⟩ := I.look
  exact PySem.W.get_value X J (PySem.W.plainGet_of hg).1 (PySem.W.findObj_own hh ha rfl (by rw [hl, hv])) hv' h
theorem Zdt {pl : Sem Bool} {Q : Value × List Value -> Shared -> Prop} (X : K.In s.heap) (I : ObjM s.heap x dx C mA) (hg : PySem.W.plainGet K C name = true)
    (hf : PySem.W.findIn K (.ref C) name = some (some (.ref f))) (ht : PySem.W.isFn K (.ref f) = true) (hv : mA name = none) (h : Q (.ref f, [.ref x]) s) :
    wpAny (model prog w) A (getMethod (.ref x) name pl) Q E s := by
  obtain ⟨od, J, hl⟩ := I.look
  exact PySem.W.method_fn X J (PySem.W.plainGet_of hg).1 (PySem.W.plainGet_of hg).2 hf (beq_iff_eq.mp ht) (by show (PySem.W.lookIn name od).map (·.isSome) = some false; rw [hl, hv]; rfl) h
theorem Zft {ns : List Str} {Q : Unit -> Shared -> Prop} (X : K.In s.heap) (I : ObjM s.heap x dx C mA)
    (hs : PySem.W.findIn K (.ref C) "__setattr__" = some (some (.builtin "object.__setattr__"))) (hp : PySem.W.plainOver K C = true) (ht : PySem.W.takerIn K C name = some none) (hh : PySem.W.hasDictIn K C = true)
    (hw : PySem.Within mA ns) (hsz : ns.length <= sizeLine)
    (h : ∀ h', ObjM h' x dx C (fun y => if y = name then some v else mA y) -> Heap.SameBut dx s.heap h' -> Q () { s with heap := h', toks := s.toks + 2 }) :
    wpAny (model prog w) A (setAttr (.ref x) name v) Q E s := by
  obtain ⟨od, J, hl⟩ := I.look
  refine PySem.W.set_plain X J hs (PySem.W.osa_open (s := { s with toks := s.toks + 1 }) (r := none) X J hp ht fun b => ?_)
  obtain ⟨cd, hc, hd'⟩ := PySem.W.any_some hh
  have hx : s.heap.get? x = some ⟨.ref C, some dx, .plain, #[]⟩ := I.obj
  refine wpAny_bind (wpAny_pure (wpAny_bind (wpAny_bind (wpAny_loadPart hx (wpAny_bind (PySem.W.Looks.here (s := { s with toks := s.toks + 1 }) (PySem.W.looks_clsIn X hc) ?_))))))
  rw [hd']
  refine wpAny_pure (a := some dx) (wpAny_bind (wpAny_pure (wpAny_bind ?_)))
  refine wpAny_nsSet1 (s := { s with toks := s.toks + 1 }) I.ns fun h' hn2 hs2 => ?_
  obtain ⟨oD, esD, epD, hoD, hdD, hcD⟩ := hn2.count (PySem.Within.cons name v hw)
  refine wpAny_bind (wpAny_lookBehind hoD (by rw [hdD]; exact pastItsLine_dict (Nat.le_trans hcD (by rw [List.length_cons]; omega))) ?_)
  exact wpAny_pure (h _ ⟨(hs2.2 _ (Ne.symm I.ne)).trans I.obj, hn2, I.ne⟩ hs2)
theorem Zde {R : Result -> Shared -> Prop} {vs : List Value} {kw : List (Str × Value)} (X : K.In s.heap) (hm : PySem.W.makesIn K C = true)
    (hi : PySem.W.findIn K (.ref C) "__init__" = some (some (.ref f))) (hf : PySem.W.typeIn K (.ref f) = some (.type "function"))
    (h : codeAny (model prog w) (A.under (.builtin "type.__call__" ⟨.ref C :: vs, kw⟩)) (.call (.ref f) ⟨.ref (s.heap.objs.size + 1) :: vs, kw⟩) (PySem.W.InitBack (s.heap.objs.size + 1) R)
      { s with heap := (s.heap.push PySem.W.emptyDict).push (PySem.W.instObj C s.heap.objs.size) }) :
    codeAny (model prog w) A (.call (.ref C) ⟨vs, kw⟩) R s := by
  obtain ⟨hh, g, d, t, os⟩ := s
  exact PySem.W.make_core (PySem.W.makes_of X hm) (PySem.W.looks_findIn X hi) (fun self => PySem.W.bind_fn X self hf) (.inl rfl) h
theorem Zb3 {R : Result -> Shared -> Prop} (X : K.In s.heap) (hm : PySem.W.makesIn K C = true)
    (hi : PySem.W.findIn K (.ref C) "__init__" = some (some (.builtin "object.__init__")))
    (hb : ∀ self, PySem.W.Looks (model prog w) s.heap (bindSpecial (.builtin "object.__init__") self) (.builtin "object.__init__", [self]))
    (h : codeAny (model prog w) (A.under (.builtin "type.__call__" ⟨[.ref C], []⟩)) (.call (.builtin "object.__init__") ⟨[.ref (s.heap.objs.size + 1)], []⟩) (PySem.W.InitBack (s.heap.objs.size + 1) R)
      { s with heap := (s.heap.push PySem.W.emptyDict).push (PySem.W.instObj C s.heap.objs.size) }) :
    codeAny (model prog w) A (.call (.ref C) ⟨[], []⟩) R s := by
  obtain ⟨hh, g, d, t, os⟩ := s
  exact PySem.W.make_core (PySem.W.makes_of X hm) (PySem.W.looks_findIn X hi) hb (.inr ⟨rfl, rfl⟩) h
end
def putF (f : Str) (v : V) : List (Str × V) -> List (Str × V)
  | [] => [(f, v)]
  | (g, x) :: r => if g = f then (g, v) :: r else (g, x) :: putF f v r
theorem Z4e (f g : Str) (v : V) : ∀ fs : List (Str × V), (putF f v fs).lookup g = if g = f then some v else fs.lookup g
  | [] => by
    show List.lookup g [(f, v)] = _
    by_cases h : g = f
    . have hb : (g == f) = true := beq_iff_eq.mpr h
      simp only [List.lookup, hb, if_pos h]
    . have hb : (g == f) = false := beq_eq_false_iff_ne.mpr h
      simp only [List.lookup, hb, if_neg h]
  | (k, x) :: r => by
    have ih := Z4e f g v r
    rw [show putF f v ((k, x) :: r) = (if k = f then (k, v) :: r else (k, x) :: putF f v r) from rfl]
    by_cases hk : k = f
    . rw [if_pos hk]
      by_cases h : g = k
      . have hb : (g == k) = true := beq_iff_eq.mpr h
        simp only [List.lookup, hb, if_pos (h.trans hk)]
      . have hb : (g == k) = false := beq_eq_false_iff_ne.mpr h
        simp only [List.lookup, hb, if_neg (fun e : g = f => h (e.trans hk.symm))]
    . rw [if_neg hk]
      by_cases h : g = k
      . have hb : (g == k) = true := beq_iff_eq.mpr h
        simp only [List.lookup, hb, if_neg (fun e : g = f => hk (h.symm.trans e))]
      . have hb : (g == k) = false := beq_eq_false_iff_ne.mpr h
        simp only [List.lookup, hb]
        exact ih
theorem Z3w (f : Str) (v : V) : ∀ fs : List (Str × V), f ∈ (putF f v fs).map (·.1) /\ ∀ g, g ∈ fs.map (·.1) -> g ∈ (putF f v fs).map (·.1)
  | [] => ⟨by simp [putF], fun g h => by simp at h⟩
  | (k, x) :: r => by
    obtain ⟨i1, i2⟩ := Z3w f v r
    rw [show putF f v ((k, x) :: r) = (if k = f then (k, v) :: r else (k, x) :: putF f v r) from rfl]
    by_cases hk : k = f
    . rw [if_pos hk]
      subst hk
      exact ⟨by simp, fun g h => by simpa using h⟩
    . rw [if_neg hk]
      refine ⟨?_, fun g h => ?_⟩
      . rw [List.map_cons]
        exact List.mem_cons_of_mem _ i1
      . rw [List.map_cons] at h ⊢
        rcases List.mem_cons.mp h with e | e
        . exact List.mem_cons.mpr (.inl e)
        . exact List.mem_cons_of_mem _ (i2 g e)
theorem Z4f (f : Str) (v : V) : ∀ fs : List (Str × V), (putF f v fs).length <= fs.length + 1
  | [] => by simp [putF]
  | (k, x) :: r => by
    have ih := Z4f f v r
    rw [show putF f v ((k, x) :: r) = (if k = f then (k, v) :: r else (k, x) :: putF f v r) from rfl]
    by_cases hk : k = f
    . rw [if_pos hk, List.length_cons, List.length_cons]; omega
    . rw [if_neg hk, List.length_cons, List.length_cons]; omega
theorem RelO.some_of {v : V} {o : Option Value} (r : RelO (some v) o) : ∃ u, o = some u /\ RelV v u := by
  cases o with
  | none => exact (show False from r).elim
  | some u => exact ⟨u, rfl, r⟩
theorem RelO.none_of {o : Option Value} (r : RelO none o) : o = none := by
  cases o with
  | none => rfl
  | some u => exact (show False from r).elim
theorem Zb6 {v : V} {u : Value} (r : RelV v u) : PySem.W.handedIn u = true := by
  cases v with
  | non => cases (show u = Value.none from r); rfl
  | bl b => cases (show u = Value.bool b from r); rfl
  | int i => obtain ⟨t, e⟩ := (show ∃ t, u = Value.int i t from r); cases e; rfl
  | str x => obtain ⟨t, e⟩ := (show ∃ t, u = Value.str x t from r); cases e; rfl
  | byt b => obtain ⟨t, e⟩ := (show ∃ t, u = Value.bytes b t from r); cases e; rfl
  | flt b => obtain ⟨t, e⟩ := (show ∃ t, u = Value.float b t from r); cases e; rfl
  | ref a => cases (show u = Value.ref a from r); rfl
  | ty n => cases (show u = Value.type n from r); rfl
section
variable {P : Program} {w : World} {H H' : Hp} {h h' : Heap} {a C dx : Addr} {fs fs' : List (Str × V)}
theorem Z4a (hok : HOk P w H h) (e : H a = some (.ins C dx fs)) : ∃ mA, ObjM h a dx C mA /\ (∀ f, RelO (fs.lookup f) (mA f)) /\ PySem.Within mA (fs.map (·.1)) /\ fs.length <= 1000 /\ H dx = some (.own a) := by
  obtain ⟨d, z, ne, ob, mA, n, r, q⟩ := (show Zq P w H h a (.ins C dx fs) from hok a _ e)
  exact ⟨mA, ⟨ob, n, ne⟩, r, q, z, d⟩
end
structure Cls (K : PySem.W.Frag) (C : Addr) : Prop where
  pg : PySem.W.plainGet K C Str.empty = true
  hd : PySem.W.hasDictIn K C = true
  po : PySem.W.plainOver K C = true
  sa : PySem.W.findIn K (.ref C) "__setattr__" = some (some (.builtin "object.__setattr__"))
theorem Cls.get {K : PySem.W.Frag} {C : Addr} (c : Cls K C) (f : Str) : PySem.W.plainGet K C f = true := c.pg
def Zk (K : PySem.W.Frag) (C : Addr) (f : Str) : Prop := PySem.W.findIn K (.ref C) f = some none
theorem Zk.taker {K : PySem.W.Frag} {C : Addr} {f : Str} (n : Zk K C f) : PySem.W.takerIn K C f = some none := by
  unfold PySem.W.takerIn
  rw [show PySem.W.findIn K (.ref C) f = some none from n]
  rfl
structure Con (K : PySem.W.Frag) (C : Addr) (f : Str) (v : V) (u : Value) : Prop where
  at_ : PySem.W.findIn K (.ref C) f = some (some u)
  rel : RelV v u
  get : PySem.W.specialIn K u "__get__" = some none
  cp : PySem.W.copiedNames.contains f = false
structure Meth (K : PySem.W.Frag) (C : Addr) (m : Str) (f : Addr) : Prop where
  at_ : PySem.W.findIn K (.ref C) m = some (some (.ref f))
  fn : PySem.W.isFn K (.ref f) = true
  kp : PySem.W.keepIn K (.ref f) = true
section
variable {X : Cx} {pins : List (Addr × Obj)} {σ : St} {H : Hp} {s : Shared} {a C dx : Addr} {fs : List (Str × V)} {f : Str} {v : V} {A : Around} {E : Value -> Shared -> Prop}
theorem Zaa {b : Bool} {Q : Value -> Shared -> Prop} (I : Inv X pins σ H s) (e : H a = some (.ins C dx fs)) (c : Cls X.K C) (n : Zk X.K C f) (l : fs.lookup f = some v)
    (h : ∀ u s', Inv X pins σ H s' -> RelV v u -> Q u s') : wpAny (model X.prog X.w) A (getAttr (.ref a) f b) Q E s := by
  obtain ⟨mA, O, r, _, _, _⟩ := Z4a I.hok e
  obtain ⟨u, hu, ru⟩ := RelO.some_of (v := v) (o := mA f) (by rw [<- l]; exact r f)
  exact Zfr I.kIn O (c.get f) c.hd n hu (Zb6 ru) (h u _ (I.tok _) ru)
theorem Zat {m : Str} {g : Addr} {pl : Sem Bool} {Q : Value × List Value -> Shared -> Prop} (I : Inv X pins σ H s) (e : H a = some (.ins C dx fs)) (c : Cls X.K C) (k : Meth X.K C m g) (l : fs.lookup m = none)
    (h : Q (.ref g, [.ref a]) s) : wpAny (model X.prog X.w) A (getMethod (.ref a) m pl) Q E s := by
  obtain ⟨mA, O, r, _, _, _⟩ := Z4a I.hok e
  have hn : mA m = none := RelO.none_of (by rw [<- l]; exact r m)
  exact Zdt I.kIn O (c.get m) k.at_ k.fn hn h
theorem Zam {y : V} {u : Value} {Q : Unit -> Shared -> Prop} (I : Inv X pins σ H s) (e : H a = some (.ins C dx fs)) (c : Cls X.K C) (n : Zk X.K C f) (hl : fs.length < 1000) (ry : RelV y u)
    (h : ∀ s', Inv X pins σ (upd H a (.ins C dx (putF f y fs))) s' -> Q () s') : wpAny (model X.prog X.w) A (setAttr (.ref a) f u) Q E s := by
  obtain ⟨mA, O, r, wi, _, ho⟩ := Z4a I.hok e
  have hz : (fs.map (·.1)).length <= sizeLine := by rw [List.length_map, sizeLine_eq]; omega
  refine Zft I.kIn O c.sa c.po n.taker c.hd wi hz fun h' O' sb => h _ ?_
  have hd : ∃ o, h'.get? dx = some o := let ⟨o, _, _, e', _⟩ := O'.ns; ⟨o, e'⟩
  refine I.write (x := a) (e := dx) (by rw [e]; exact True.intro) (.inr ho) (fun b q hb z => (sb.2 b hb).trans z) hd ?_
  refine ⟨by rw [Z8 O.ne]; exact ho, ?_, O.ne, O'.obj, _, O'.ns, fun g => ?_, fun g hg => ?_⟩
  . have := Z4f f y fs; omega
  . show RelO ((putF f y fs).lookup g) (if g = f then some u else mA g)
    rw [Z4e]
    by_cases q : g = f
    . rw [if_pos q, if_pos q]; exact ry
    . rw [if_neg q, if_neg q]; exact r g
  . by_cases q : g = f
    . rw [q]; exact (Z3w f y fs).1
    . refine (Z3w f y fs).2 g (wi g fun z => hg ?_)
      show (if g = f then some u else mA g) = none
      rw [if_neg q]; exact z
theorem Inv.made (I : Inv X pins σ H s) : Inv X pins σ (upd (upd H s.heap.objs.size (.own (s.heap.objs.size + 1))) (s.heap.objs.size + 1) (.ins C s.heap.objs.size []))
    { s with heap := (s.heap.push PySem.W.emptyDict).push (PySem.W.instObj C s.heap.objs.size) } := by
  have e1 : (s.heap.push PySem.W.emptyDict).get? s.heap.objs.size = some PySem.W.emptyDict := Heap.get?_push_size s.heap rfl
  have e2 : ((s.heap.push PySem.W.emptyDict).push (PySem.W.instObj C s.heap.objs.size)).get? (s.heap.objs.size + 1) = some (PySem.W.instObj C s.heap.objs.size) := by
    have := Heap.get?_push_size (s.heap.push PySem.W.emptyDict) (o := PySem.W.instObj C s.heap.objs.size) rfl
    rwa [Heap.size_push] at this
  have e3 : (s.heap.push PySem.W.emptyDict).Ns s.heap.objs.size (fun _ => none) := ⟨PySem.W.emptyDict, #[], _, e1, rfl, (fun e he => absurd he (by simp)), fun _ => rfl⟩
  have I1 := I.laid (a := s.heap.objs.size) (o := .own (s.heap.objs.size + 1)) (h' := s.heap.push PySem.W.emptyDict) (t' := s.toks) (fun b u q => Heap.get?_push_of_some _ q) (Nat.le_refl _) ⟨_, e1⟩
  refine I1.laid (a := s.heap.objs.size + 1) (o := .ins C s.heap.objs.size []) (t' := s.toks) (fun b u q => Heap.get?_push_of_some _ q) (Nat.le_of_eq (Heap.size_push _ _)) ?_
  have ne : s.heap.objs.size ≠ s.heap.objs.size + 1 := Nat.ne_of_lt (Nat.lt_succ_self _)
  refine ⟨by rw [Z8 ne, Zg], Nat.zero_le _, ne, e2, fun _ => none, (Heap.Ns1.of_empty e3).at fun o q => Heap.get?_push_of_some _ q, fun _ => True.intro, fun y hy => absurd rfl hy⟩
theorem Zf2 {prog : Program} {w : World} {env : Env} {e : Expr} {f : Str} {pos : Pos} {s : Shared} {Q : Value -> Shared -> Prop} (hb : attributeBase e f env (eval e env) = eval e env)
    (h : wpAny (model prog w) A (eval e env) (fun o s₁ => wpAny (model prog w) A (getAttr o f true) Q E s₁) E s) : wpAny (model prog w) A (eval (.Attribute e f pos) env) Q E s :=
  Attribute_any_ h (by rw [arm_eval_Attribute, hb])
end
def tFld (K : PySem.W.Frag) (ta : TE) (f : Str) : TE := fun σ H Q => ta σ H fun x H1 => ∃ a C dx fs v, x = .ref a /\ H1 a = some (.ins C dx fs) /\ Cls K C /\ Zk K C f /\ fs.lookup f = some v /\ Q v H1
def sFld (K : PySem.W.Frag) (ta tv : TE) (f : Str) : TS := fun D σ H => tv σ H fun y H1 => ta σ H1 fun x H2 => ∃ a C dx fs, x = .ref a /\ H2 a = some (.ins C dx fs) /\ Cls K C /\ Zk K C f /\ fs.length < 1000 /\
  D.nx σ (upd H2 a (.ins C dx (putF f y fs)))
section
variable {X : Cx} {o e value : Expr} {f : Str} {pos pos' tpos : Pos} {ta tv : TE}
theorem pe_fld (he : PE X e ta) (hb : attributeBase e f X.env (eval e X.env) = eval e X.env) : PE X (.Attribute e f pos) (tFld X.K ta f) := by
  intro pins s σ H Q I h
  refine Zf2 hb (thn (he pins s σ H _ I h) fun u s1 ⟨x, H1, I1, rx, a, C, dx, fs, v, ex, ea, c, n, l, q⟩ => ?_)
  subst ex
  obtain rfl : u = Value.ref a := rx
  exact Zaa I1 ea c n l fun u' s2 I2 ru => ⟨v, H1, I2, ru, q⟩
theorem ps_fld (ha : PE X o ta) (hv : PE X value tv) (hs : swapsWith value (some (.Attribute o f pos')) pos.line X.env = pure false) : PS X (.Assign [.Attribute o f pos'] value pos) (sFld X.K ta tv f) := by
  intro pins s σ H D I h
  refine plainObj_wpAny_Assign_Attribute (thn (hv pins s σ H _ I h) fun u s1 ⟨y, H1, I1, ry, q⟩ => thn (ha pins s1 σ H1 _ I1 q) fun ov s2 ⟨x, H2, I2, rx, a, C, dx, fs, ex, ea, c, n, l, q2⟩ => ?_) hs
  subst ex
  obtain rfl : ov = Value.ref a := rx
  exact Zam I2 ea c n l ry fun s3 I3 => ⟨σ, _, I3, q2⟩
end
section
variable {X : Cx} {pins : List (Addr × Obj)} {σ : St} {H : Hp} {s : Shared} {A : Around} {E : Value -> Shared -> Prop} {Q : Value -> Shared -> Prop} {c : Value} {b : Bool}
inductive TyOf (K : PySem.W.Frag) (H : Hp) : V -> Value -> Prop where
  | non : TyOf K H .non (.type "NoneType")
  | bl (x : Bool) : TyOf K H (.bl x) (.type "bool")
  | int (i : Int) : TyOf K H (.int i) (.type "int")
  | str (x : Str) : TyOf K H (.str x) (.type "str")
  | flt (x : UInt64) : TyOf K H (.flt x) (.type "float")
  | lst {a : Addr} {xs : List V} (e : H a = some (.lst xs)) : TyOf K H (.ref a) (.type "list")
  | frz {a : Addr} {o : Obj} {xs : List V} (e : H a = some (.frz o (.lst xs))) : TyOf K H (.ref a) (.type "list")
  | tup {a : Addr} {xs : List V} (e : H a = some (.tup xs)) : TyOf K H (.ref a) (.type "tuple")
  | dK {a : Addr} {kvs : List (Key × V)} (e : Rd H a (.dK kvs)) : TyOf K H (.ref a) (.type "dict")
  | dT {a : Addr} {kvs : List (List Key × V)} (e : Rd H a (.dT kvs)) : TyOf K H (.ref a) (.type "dict")
  | ins {a C dx : Addr} {fs : List (Str × V)} (e : H a = some (.ins C dx fs)) (cl : Cls K C) (ha : PySem.W.findIn K (.ref C) "__class__" = some (some (.builtin "object.__class__")))
      (hn : PySem.W.specialIn K (.builtin "object.__class__") "__get__" = some (some (.builtin "getset_descriptor.__get__"))) (htk : PySem.W.takesIn K (.builtin "object.__class__") = some true)
      (hm : PySem.W.mroIn K C (.type "object") = some true) : TyOf K H (.ref a) (.ref C)
end
end L2
namespace L2
open PySem PySem.Spec PyProof.Rows
structure Room (k : Nat) (A : Around) : Prop where
  hd : A.handled = none
  dp : A.depth + 3 * k + 5 < recursionLimit
  un : A.units + 16 * k + 200 < cLine
theorem Room.mono {j k : Nat} {A : Around} (r : Room k A) (h : j <= k) : Room j A := ⟨r.hd, by have := r.dp; omega, by have := r.un; omega⟩
theorem Room.deeper {k : Nat} {A : Around} (r : Room (k + 1) A) (env : Env) : Room k (A.deeper env) :=
  ⟨r.hd, by have := r.dp; show A.depth + 1 + 3 * k + 5 < _; omega, by have := r.un; show A.units + 3 + 16 * k + 200 < _; omega⟩
theorem Zah {A : Around} {C : Addr} {us : List Value} {kw : List (Str × Value)} : (A.under (.builtin "type.__call__" ⟨.ref C :: us, kw⟩)).depth = A.depth + 1 := by
  first | rfl | simp [Around.under, Code.weight, Code.isCreation, Code.isGuard, Code.isCaller, Code.frames, Code.isFrame, guardIds]
theorem Za8 {A : Around} {C : Addr} {us : List Value} {kw : List (Str × Value)} : (A.under (.builtin "type.__call__" ⟨.ref C :: us, kw⟩)).units = A.units + 1 := by
  first | rfl | simp [Around.under, Code.cUnits, Code.frames, Code.isFrame]
theorem Room.make {k : Nat} {A : Around} (r : Room (k + 1) A) (C : Addr) (us : List Value) (kw : List (Str × Value)) : Room k (A.under (.builtin "type.__call__" ⟨.ref C :: us, kw⟩)) :=
  ⟨r.hd, by have := r.dp; rw [Zah]; omega, by have := r.un; rw [Za8]; omega⟩
theorem Room.depth {k : Nat} {A : Around} (r : Room k A) : A.depth < recursionLimit := by have := r.dp; omega
theorem Room.units {k : Nat} {A : Around} (r : Room k A) : A.units + 64 < cLine := by have := r.un; omega
def tNil : TA := fun _ H Q => Q [] H
def tCons (ta : TE) (tr : TA) : TA := fun σ H Q => ta σ H fun x H1 => tr σ H1 fun xs H2 => Q (x :: xs) H2
section
variable {X : Cx} {e : Expr} {es : List Expr} {te : TE} {t : TA} {pos : Pos}
theorem Z3l : PA X [] tNil := fun _ _ _ _ H Q I h => Calls.spliced_nil ⟨[], H, I, .nil, h⟩
theorem Z26 (ha : PE X e te) (hr : PA X es t) (hs : starEach (e :: es) X.env = (false, eval e X.env) :: starEach es X.env := by rfl) : PA X (e :: es) (tCons te t) := by
  intro pos pins s σ H Q I h
  rw [hs]
  show wpAny _ _ (spliced ((false, eval e X.env) :: backTo pos (starEach es X.env))) _ _ s
  refine Calls.spliced_cons (thn (ha pins s σ H _ I h) fun u s1 ⟨x, H1, I1, r1, q1⟩ => ?_)
  exact thn (hr pos pins s1 σ H1 _ I1 q1) fun us s2 ⟨xs, H2, I2, r2, q2⟩ => ⟨x :: xs, H2, I2, .cons r1 r2, q2⟩
def tTup (t : TA) : TE := fun σ H Q => t σ H fun xs H1 => xs.length <= sizeLine /\ ∀ p, H1 p = none -> Q (.ref p) (upd H1 p (.tup xs))
def tLst (t : TA) : TE := fun σ H Q => t σ H fun xs H1 => xs.length <= sizeLine /\ ∀ p, H1 p = none -> Q (.ref p) (upd H1 p (.lst xs))
theorem pe_tup {x1} (h : PA X es t) : PE X (.Tuple es x1 pos) (tTup t) := by
  intro pins s σ H Q I hq
  refine wpAny_Tuple_spliced (thn (h pos pins s σ H _ I hq) fun us s1 ⟨xs, H1, I1, r, z, q⟩ => ⟨by rw [<- r.length]; exact z, ?_⟩)
  have hf : H1 s1.heap.objs.size = none := I1.hok.fresh (Nat.le_refl _)
  refine ⟨.ref s1.heap.objs.size, upd H1 s1.heap.objs.size (.tup xs), I1.laid (t' := s1.toks) (fun b u e => Heap.get?_push_of_some _ e) (Nat.le_refl _) ?_, rfl, q _ hf⟩
  exact ⟨z, us, r, ⟨_, Heap.get?_push_size _ rfl, rfl, _, rfl⟩⟩
theorem pe_lst (h : PA X es t) : PE X (.List es pos) (tLst t) := by
  intro pins s σ H Q I hq
  refine wpAny_List_spliced (thn (h pos pins s σ H _ I hq) fun us s1 ⟨xs, H1, I1, r, z, q⟩ => ⟨by rw [<- r.length]; exact z, ?_⟩)
  have hf : H1 s1.heap.objs.size = none := I1.hok.fresh (Nat.le_refl _)
  refine ⟨.ref s1.heap.objs.size, upd H1 s1.heap.objs.size (.lst xs), I1.laid (t' := s1.toks) (fun b u e => Heap.get?_push_of_some _ e) (Nat.le_refl _) ?_, rfl, q _ hf⟩
  exact ⟨z, us, 0, r, Heap.get?_push_size _ rfl⟩
end
abbrev Sp := List V -> Hp -> VK -> XK -> Prop
abbrev CXT := List Env -> Hp -> Shared -> XK -> Value -> Shared -> Prop
structure Env0 (P : Program) (w : World) (K : PySem.W.Frag) (mg : Str -> Option Value) (base : Heap) (A : Around) (outer : List Env) (s : Shared) (H : Hp) : Prop where
  frames : A.frames = some outer
  mod : Mod K mg base
  bs : ∀ b o, base.get? b = some o -> s.heap.get? b = some o /\ H b = none
  bsz : base.objs.size <= s.heap.objs.size
  funs : s.heap.FunFrames base outer
  frf : ∀ b ∈ frs outer, H b = none
  hok : HOk P w H s.heap
  bare : AllBare s.gens
def CE (outer : List Env) (P : Program) (w : World) (H : Hp) (s : Shared) (Q : VK) (u : Value) (s' : Shared) : Prop :=
  ∃ v H', s'.os = s.os /\ AllBare s'.gens /\ Un (frs outer) [] H H' s.heap s'.heap /\ HOk P w H' s'.heap /\ RelV v u /\ Q v H'
def CR (CX : CXT) (outer : List Env) (P : Program) (w : World) (H : Hp) (s : Shared) (Q : VK) (E : XK) (r : Result) (s' : Shared) : Prop :=
  match r with
  | .ok (.ret u) => CE outer P w H s Q u s'
  | .ok _ => False
  | .error e => CX outer H s E e s'
structure FnOk (P : Program) (w : World) (K : PySem.W.Frag) (mg : Str -> Option Value) (base : Heap) (CX : CXT) (k : Nat) (f : Addr) (fd : FuncData) (ps : List Str) (sp : Sp) : Prop where
  len : ∀ vs H Q E, sp vs H Q E -> vs.length = ps.length
  run : ∀ (A : Around) (outer : List Env) (s : Shared) (H : Hp) (args : Args) (us : List Value) (vs : List V) (Q : VK) (E : XK), Room k A -> Env0 P w K mg base A outer s H -> BindsTo s fd args (ps.zip us) -> Vals vs us -> sp vs H Q E ->
    codeAny (model P w) A (.call (.ref f) args) (CR CX outer P w H s Q E) s
theorem FnOk.mono {P : Program} {w : World} {K : PySem.W.Frag} {mg : Str -> Option Value} {base : Heap} {CX : CXT} {j k : Nat} {f : Addr} {fd : FuncData} {ps : List Str} {sp : Sp} (F : FnOk P w K mg base CX j f fd ps sp) (h : j <= k) :
    FnOk P w K mg base CX k f fd ps sp := ⟨F.len, fun A outer s H args us vs Q E hr => F.run A outer s H args us vs Q E (hr.mono h)⟩
theorem FnOk.imp {P : Program} {w : World} {K : PySem.W.Frag} {mg : Str -> Option Value} {base : Heap} {CX : CXT} {k : Nat} {f : Addr} {fd : FuncData} {ps : List Str} {sp sp' : Sp} (F : FnOk P w K mg base CX k f fd ps sp)
    (h : ∀ vs H Q E, sp' vs H Q E -> sp vs H Q E) : FnOk P w K mg base CX k f fd ps sp' :=
  ⟨fun vs H Q E q => F.len vs H Q E (h _ _ _ _ q), fun A outer s H args us vs Q E hr he hb hv hs => F.run A outer s H args us vs Q E hr he hb hv (h _ _ _ _ hs)⟩
theorem Env0.make {P : Program} {w : World} {K : PySem.W.Frag} {mg : Str -> Option Value} {base : Heap} {A : Around} {outer : List Env} {s : Shared} {H : Hp} (e : Env0 P w K mg base A outer s H) (C : Addr) (us : List Value) (kw : List (Str × Value)) :
    Env0 P w K mg base (A.under (.builtin "type.__call__" ⟨.ref C :: us, kw⟩)) outer s H := ⟨by first | exact e.frames | (simpa [Around.under, Code.envs, Code.isFrame, pushEnvs] using e.frames), e.mod, e.bs, e.bsz, e.funs, e.frf, e.hok, e.bare⟩
section
variable {X : Cx} {pins : List (Addr × Obj)} {σ : St} {H : Hp} {s s' : Shared}
theorem Inv.env0 (I : Inv X pins σ H s) : Env0 X.prog X.w X.K X.mg X.base X.A X.stack s H :=
  ⟨I.ok.frames, I.ok.mod, I.bs, Nat.le_trans I.ok.bsz I.sz, I.stack, I.stkFree, I.hok, I.bare⟩
theorem Inv.after {Q : VK} {u : Value} (I : Inv X pins σ H s) (h : CE X.stack X.prog X.w H s Q u s') : EP X pins σ Q u s' := by
  obtain ⟨v, H', os, bare, un, hok, r, q⟩ := h
  obtain ⟨hh, g, d, t, os'⟩ := s'
  obtain rfl : os' = s.os := os
  exact ⟨v, H', I.call (h' := hh) (g' := g) (d' := d) (t' := t) (ch := []) un hok bare (fun b z => absurd z (by simp)), r, q⟩
end
def tMake (C : Addr) (sp : Sp) (dvs : List V) (E : XK) (t : TA) : TE := fun σ H Q => t σ H fun vs H1 => ∀ x dx, H1 x = none -> H1 dx = none -> dx ≠ x ->
  sp (.ref x :: (vs ++ dvs)) (upd (upd H1 dx (.own x)) x (.ins C dx [])) (fun v H2 => v = .non /\ Q (.ref x) H2) E
def Zf (K : PySem.W.Frag) (fd : FuncData) (ps : List Str) (ds : List Value) : Prop :=
  ∀ (s : Shared) (us : List Value), K.In s.heap -> (us ++ ds).length = ps.length -> BindsTo s fd ⟨us, []⟩ (ps.zip (us ++ ds))
theorem Zf.all {K : PySem.W.Frag} {fd : FuncData} {ps : List Str} (h : ∀ us : List Value, us.length = ps.length -> bindArgs fd ⟨us, []⟩ = pure (ps.zip us)) : Zf K fd ps [] := fun s us _ hl => by
  rw [List.append_nil] at hl ⊢
  exact .of_eq (h us hl)
def Zcu (CX : CXT) (X : Cx) (E : XK) : Prop := ∀ (pins : List (Addr × Obj)) (σ : St) (H : Hp) (s : Shared) (e : Value) (s' : Shared), Inv X pins σ H s -> CX X.stack H s E e s' -> X.xe e s'
section
variable {X : Cx} {CX : CXT} {k : Nat} {f C : Addr} {fd : FuncData} {ps : List Str} {sp : Sp} {dvs : List V} {ds : List Value} {E : XK} {x m : Str} {p pos apos : Pos} {e o : Expr} {es : List Expr} {ta : TE} {t : TA}
structure Mk (K : PySem.W.Frag) (C f : Addr) : Prop where
  makes : PySem.W.makesIn K C = true
  init : PySem.W.findIn K (.ref C) "__init__" = some (some (.ref f))
  fn : PySem.W.isFn K (.ref f) = true
  kp : PySem.W.keepIn K (.ref C) = true
theorem Zdo {pins : List (Addr × Obj)} {σ : St} {H : Hp} {s : Shared} {Q : VK} {us : List Value} {vs : List V} (M : Mk X.K C f) (F : FnOk X.prog X.w X.K X.mg X.base CX k f fd ps sp) (hr : Room (k + 1) X.A) (hb : Zf X.K fd ps ds) (hd : Vals dvs ds)
    (hx : Zcu CX X E) (I : Inv X pins σ H s) (r : Vals vs us)
    (h : ∀ x dx, H x = none -> H dx = none -> dx ≠ x -> sp (.ref x :: (vs ++ dvs)) (upd (upd H dx (.own x)) x (.ins C dx [])) (fun v H2 => v = .non /\ Q (.ref x) H2) E) :
    wpAny (model X.prog X.w) X.A (call (.ref C) us) (EP X pins σ Q) X.xe s := by
  have hq := h (s.heap.objs.size + 1) s.heap.objs.size (I.hok.fresh (Nat.le_succ _)) (I.hok.fresh (Nat.le_refl _)) (Nat.ne_of_lt (Nat.lt_succ_self _))
  have I2 := Inv.made (C := C) I
  have r2 : Vals (V.ref (s.heap.objs.size + 1) :: (vs ++ dvs)) (Value.ref (s.heap.objs.size + 1) :: (us ++ ds)) := .cons rfl (r.append hd)
  have hl : (Value.ref (s.heap.objs.size + 1) :: us ++ ds).length = ps.length := by
    have e := r2.length
    rw [F.len _ _ _ _ hq] at e
    exact e.symm
  refine wpAny_call (Zde (f := f) I.kIn M.makes M.init (beq_iff_eq.mp M.fn) (codeAny_mono (F.run _ X.stack _ _ ⟨Value.ref (s.heap.objs.size + 1) :: us, []⟩ (Value.ref (s.heap.objs.size + 1) :: (us ++ ds)) _ _ E (hr.make C us [])
    (I2.env0.make C us []) (hb _ (Value.ref (s.heap.objs.size + 1) :: us) I2.kIn hl) r2 hq) fun r s' hq' => ?_))
  cases r with
  | error e => exact hx pins σ _ _ e s' I2 hq'
  | ok fl =>
    cases fl with
    | ret u =>
      obtain ⟨v, H', I3, rv, ev, q3⟩ := I2.after hq'
      subst ev
      exact ⟨rv, ⟨V.ref (s.heap.objs.size + 1), H', I3, rfl, q3⟩⟩
    | next => exact False.elim hq'
    | brk => exact False.elim hq'
    | cont => exact False.elim hq'
theorem Zey (M : Mk X.K C f) (F : FnOk X.prog X.w X.K X.mg X.base CX k f fd ps sp) (hr : Room (k + 1) X.A) (hg : Gl X x) (hm : X.mg x = some (.ref C)) (hb : Zf X.K fd ps ds) (hd : Vals dvs ds) (hx : Zcu CX X E)
    (ha : PA X (e :: es) t) (hdb : (x == ("__debug__" : Str)) = false := by decide) (he : starEach (e :: es) X.env = (false, eval e X.env) :: starEach es X.env := by rfl) (hpl : (backTo pos (starEach es X.env)).any (·.1) = false := by rfl) :
    PE X (.Call (.Name x p) (e :: es) [] pos) (tMake C sp dvs E t) := by
  intro pins s σ H Q I h
  refine wpAny_Call_Name_kw (Z38 I hg hm ?_ hdb)
  refine PySem.W.callWith_K (h₀ := X.base) I.ok.mod.kin M.kp (thn (ha pos pins s σ H _ I h) fun us s1 ⟨vs, H1, I1, r, q⟩ => ⟨I1.kIn, ?_⟩) he hpl
  exact Zdo M F hr hb hd hx I1 r q
end
section
variable {X : Cx} {CX : CXT} {k : Nat} {f C : Addr} {fd : FuncData} {ps ks : List Str} {sp : Sp} {E : XK} {x m : Str} {p pos apos kpos : Pos} {e o : Expr} {es : List Expr} {kws : List Keyword} {te ta : TE} {t tk : TA} {nm : Option Str}
structure KBinds (K : PySem.W.Frag) (fd : FuncData) (ps ks : List Str) (g : List Value -> List Value -> List Value) (gV : List V -> List V -> List V) : Prop where
  to : ∀ (s : Shared) (us ws : List Value), K.In s.heap -> (g us ws).length = ps.length -> BindsTo s fd ⟨us, ks.zip ws⟩ (ps.zip (g us ws))
  rel : ∀ {vs : List V} {us : List Value} {zs : List V} {ws : List Value}, Vals vs us -> Vals zs ws -> Vals (gV vs zs) (g us ws)
variable {g : List Value -> List Value -> List Value} {gV : List V -> List V -> List V}
end
structure FnScope (N P : List Str) (sc : Scope) : Prop where
  kind : sc.kind = .function
  co : sc.isCoroutine = false
  gen : sc.isGenerator = false
  nd : N.Nodup
  pre : N.take P.length = P
  par : ∀ x ∈ P, sc.names.lookup x = some .local \/ sc.names.lookup x = some .cell
  nofree : ∀ y ∈ sc.names, y.2 ≠ .free
theorem Z6h {kindOf : Str -> Option NameKind} {x : Str} : ∀ {binds : List (Str × Value)} {m : Str -> Option Value}, (∀ v, (x, v) ∉ binds) -> bindL kindOf binds m x = m x
  | [], _, _ => rfl
  | (n, v) :: r, m, h => by
    unfold bindL
    rw [Z6h fun w hw => h w (List.mem_cons_of_mem _ hw)]
    split
    . have : x ≠ n := by rintro rfl; exact h v List.mem_cons_self
      simp [this]
    . rfl
theorem Z68 {kindOf : Str -> Option NameKind} {x : Str} : ∀ {binds : List (Str × Value)} {m : Str -> Option Value}, (∀ v, (x, v) ∉ binds) -> bindC kindOf binds m x = m x
  | [], _, _ => rfl
  | (n, v) :: r, m, h => by
    unfold bindC
    rw [Z68 fun w hw => h w (List.mem_cons_of_mem _ hw)]
    split
    . rfl
    . have : x ≠ n := by rintro rfl; exact h v List.mem_cons_self
      simp [this]
theorem Z63 {kindOf : Str -> Option NameKind} {x : Str} {v : Value} : ∀ {P : List Str} {vs : List Value} {i : Nat} {m : Str -> Option Value}, P.Nodup -> P[i]? = some x -> vs[i]? = some v -> kindOf x = some .local ->
    bindL kindOf (P.zip vs) m x = some v
  | [], _, _, _, _, h, _, _ => by simp at h
  | _ :: _, [], _, _, _, _, h, _ => by simp at h
  | p :: P, w :: vs, 0, m, nd, h1, h2, hk => by
    simp at h1 h2; subst h1; subst h2
    show bindL kindOf ((p, w) :: P.zip vs) m p = _
    unfold bindL
    rw [Z6h fun v hv => (List.nodup_cons.mp nd).1 (List.of_mem_zip hv).1, if_pos hk]
    simp
  | p :: P, w :: vs, i + 1, m, nd, h1, h2, hk => by
    show bindL kindOf ((p, w) :: P.zip vs) m x = _
    unfold bindL
    exact Z63 (i := i) (List.nodup_cons.mp nd).2 (by simpa using h1) (by simpa using h2) hk
theorem Z62 {kindOf : Str -> Option NameKind} {x : Str} {v : Value} : ∀ {P : List Str} {vs : List Value} {i : Nat} {m : Str -> Option Value}, P.Nodup -> P[i]? = some x -> vs[i]? = some v -> kindOf x ≠ some .local ->
    bindC kindOf (P.zip vs) m x = some v
  | [], _, _, _, _, h, _, _ => by simp at h
  | _ :: _, [], _, _, _, _, h, _ => by simp at h
  | p :: P, w :: vs, 0, m, nd, h1, h2, hk => by
    simp at h1 h2; subst h1; subst h2
    show bindC kindOf ((p, w) :: P.zip vs) m p = _
    unfold bindC
    rw [Z68 fun v hv => (List.nodup_cons.mp nd).1 (List.of_mem_zip hv).1, if_neg hk]
    simp
  | p :: P, w :: vs, i + 1, m, nd, h1, h2, hk => by
    show bindC kindOf ((p, w) :: P.zip vs) m x = _
    unfold bindC
    exact Z62 (i := i) (List.nodup_cons.mp nd).2 (by simpa using h1) (by simpa using h2) hk
def start (N : List Str) (vs : List V) : St := vs.map some ++ List.replicate (N.length - vs.length) none
def cxOf (CX : CXT) (P : Program) (w : World) (K : PySem.W.Frag) (mg : Str -> Option Value) (base : Heap) (N : List Str) (qual : Str) (scope : Scope) (f : Addr) (cd : Value) (A : Around) (outer : List Env) (s : Shared) (H : Hp) (E : XK) : Cx where
  prog := P
  w := w
  K := K
  mg := mg
  base := base
  A := A.deeper (envOfC qual scope s.heap.objs.size f cd)
  N := N
  s₀ := s
  H₀ := H
  env := envOfC qual scope s.heap.objs.size f cd
  outer := outer
  stack := envOfC qual scope s.heap.objs.size f cd :: outer
  ex := []
  calm := true
  fn := fun _ => true
  pn := []
  xe := fun e s' => wpAny (model P w) (A.deeper (envOfC qual scope s.heap.objs.size f cd)) (leaving (envOfC qual scope s.heap.objs.size f cd) e) (fun _ s'' => CX outer H s E e s'') (fun e' s'' => CX outer H s E e' s'') s'
theorem Z8i {sc : Scope} {n : Nat} {x : Str} (h : sc.names.lookup x = some .cell) : ∃ c, (cellsFrom n sc.names []).lookup x = some c := by
  have q := PySem.W.cellsFrom_some sc.names n [] (.inl h)
  exact Option.isSome_iff_exists.mp q
theorem Zb2 {CX : CXT} {P : Program} {w : World} {K : PySem.W.Frag} {mg : Str -> Option Value} {base : Heap} {N ps : List Str} {qual : Str} {scope : Scope} {f : Addr} {cd : Value} {A : Around} {outer : List Env} {s s1 : Shared} {H : Hp} {E : XK} {us : List Value} {vs : List V}
    (S : FnScope N ps scope) (hd : A.handled = none) (e0 : Env0 P w K mg base A outer s H) (hl : vs.length = ps.length) (r : Vals vs us)
    (x : InCallC s s.heap.objs.size (bindL (envOfC qual scope s.heap.objs.size f cd).kindOf (ps.zip us) fun _ => none) (cellsFrom (s.heap.objs.size + 1) scope.names []) (bindC (envOfC qual scope s.heap.objs.size f cd).kindOf (ps.zip us) fun _ => none) s1) :
    Inv (cxOf CX P w K mg base N qual scope f cd A outer s H E) [] (start N vs) H s1 := by
  have hpl : ps.length <= N.length := by have := congrArg List.length S.pre; rw [List.length_take] at this; omega
  obtain ⟨h1, tk, rfl, hk⟩ := x.done
  have noA : ∀ b : Addr, b ∉ (cxOf CX P w K mg base N qual scope f cd A outer s H E).ex := fun b z => absurd (show b ∈ ([] : List Addr) from z) (by simp)
  refine ⟨⟨e0.mod, S.kind, rfl, rfl, Nat.le_refl _, fun y z c h1 h2 => ?_, fun y hy => ?_, fun y c _ h => ?_, fun _ => hd, Around.frames_deeper e0.frames, .inr ⟨rfl, rfl⟩, fun b z => absurd z (noA b), e0.bs, e0.bsz, fun b _ _ => noA b, fun b z => absurd z (noA b), e0.funs, e0.frf⟩,
    rfl, e0.bare, Un.kept hk, ⟨_, x.toInCall.ns, fun i y v h1 h2 h3 => ?_⟩, fun y c h => ⟨_, x.cell y c h⟩, e0.hok.fresh (Nat.le_refl _), fun y c h => ?_, fun p hp => absurd (show p ∈ ([] : List (Addr × Obj)) from hp) (by simp), e0.hok.kept hk, ?_⟩
  . exact name_of_addr x.apart (PySem.mem_of_lookup h1) (PySem.mem_of_lookup h2)
  . have hy : scope.names.lookup y = some .cell \/ scope.names.lookup y = some .free := hy
    rcases hy with hy | hy
    . exact Z8i hy
    . exact absurd rfl (S.nofree _ (PySem.mem_of_lookup hy))
  . exact Nat.le_of_lt (x.above y c (PySem.mem_of_lookup h))
  . have hi : i < vs.length := by
      unfold start at h2
      by_cases hi : i < vs.length
      . exact hi
      . rw [List.getElem?_append_right (by simpa using hi)] at h2
        rw [List.getElem?_replicate] at h2
        split at h2 <;> cases h2
    have ha : vs[i]? = some v := by
      unfold start at h2
      rw [List.getElem?_append_left (by simpa using hi), List.getElem?_map] at h2
      cases e : vs[i]? with
      | none => rw [e] at h2; cases h2
      | some a => rw [e] at h2; cases h2; rfl
    obtain ⟨u, hu, rv⟩ := r.get ha
    have hp : ps[i]? = some y := by
      rw [<- S.pre, List.getElem?_take_of_lt (by omega)]; exact h1
    have ndP : ps.Nodup := by rw [<- S.pre]; exact S.nd.sublist (List.take_sublist _ _)
    refine ⟨u, rv, ?_⟩
    rcases S.par y (List.mem_of_getElem? hp) with k | k
    . exact .inl ⟨k, Z63 ndP hp hu k⟩
    . obtain ⟨c, e⟩ := Z8i (n := s.heap.objs.size + 1) k
      refine .inr ⟨.inl k, c, e, ?_⟩
      have q := x.cell y c e
      rw [Z62 ndP hp hu (by show scope.names.lookup y ≠ _; rw [k]; decide)] at q
      exact q
  . exact e0.hok.fresh (Nat.le_of_lt (x.above y c (PySem.mem_of_lookup h)))
  . unfold start
    show _ = N.length
    rw [List.length_append, List.length_map, List.length_replicate]
    omega
theorem fn_of {CX : CXT} {P : Program} {w : World} {K : PySem.W.Frag} {mg : Str -> Option Value} {base : Heap} {k : Nat} {f : Addr} {name qual : Str} {params : Arguments} {body : List Stmt} {scope : Scope} {dV kV doc pm cdv ct oc : Value} {an od : Option Addr}
    {osl : Array (Option Value)} {N ps : List Str} {sp : Sp} (lk : K.lookup f = some ⟨oc, od, .func (PySem.W.fnOf name qual params body scope dV kV doc pm an cdv ct), osl⟩) (hcd : PySem.W.codeIn K cdv qual = true) (S : FnScope N ps scope)
    (len : ∀ vs H Q E, sp vs H Q E -> vs.length = ps.length)
    (hbody : ∀ (A : Around) (outer : List Env) (s : Shared) (H : Hp) (vs : List V) (Q : VK) (E : XK), Room k (A.deeper (envOfC qual scope s.heap.objs.size f cdv)) -> sp vs H Q E ->
      ∃ t, PSs (cxOf CX P w K mg base N qual scope f cdv A outer s H E) body t /\ t { nx := fun _ H' => Q .non H', rt := Q } (start N vs) H) :
    FnOk P w K mg base CX (k + 1) f (PySem.W.fnOf name qual params body scope dV kV doc pm an cdv ct) ps sp := by
  refine ⟨len, fun A outer s H args us vs Q E hr e0 hb r hsp => ?_⟩
  have hl := len _ _ _ _ hsp
  have KX : K.In s.heap := e0.mod.kin.keeps fun b o e => (e0.bs b o e).1
  have lim : s.heap.NoLimit := e0.mod.nolimit.keeps fun b o e => (e0.bs b o e).1
  have hkind : ∀ y ∈ ps.zip us, scope.names.lookup y.1 = some .local \/ (scope.names.lookup y.1 = some .cell /\ ((cellsFrom (s.heap.objs.size + 1) scope.names []).lookup y.1).isSome = true) := fun ⟨n, v⟩ hy => by
    rcases S.par n (List.of_mem_zip hy).1 with q | q
    . exact .inl q
    . exact .inr ⟨q, PySem.W.cellsFrom_some _ _ _ (.inl q)⟩
  refine codeAny_call_function hr.depth (KX _ _ lk) rfl S.co S.gen rfl (PySem.W.codeRec_of KX hcd) (hb _ _ _ _ ?_)
  refine wpAny_newFunctionEnv_cells S.kind hkind fun env he s1 x => ?_
  subst he
  refine ⟨lim.keeps x.toInCall.keep, codeAny_func ?_⟩
  obtain ⟨t, ht, hq⟩ := hbody A outer s H vs Q E (hr.deeper _) hsp
  have I : Inv (cxOf CX P w K mg base N qual scope f cdv A outer s H E) [] (start N vs) H s1 := Zb2 S hr.hd e0 hl r x
  refine wpAny_mono (ht [] s1 (start N vs) H _ I hq) (fun fl s' hs => ?_) fun e s' hs => hs
  have fin : ∀ {σ' : St} {H' : Hp} {v : V} {u : Value}, Inv (cxOf CX P w K mg base N qual scope f cdv A outer s H E) [] σ' H' s' -> RelV v u -> Q v H' -> CE outer P w H s Q u s' :=
    fun {σ' H' v u} J rv q => ⟨v, H', J.os, J.bare, J.base, J.hok, rv, q⟩
  cases fl with
  | ret u =>
    obtain ⟨v, σ', H', J, rv, q⟩ := hs
    exact fin J rv q
  | next =>
    obtain ⟨σ', H', J, q⟩ := hs
    exact fin (v := V.non) (u := Value.none) J rfl q
  | brk =>
    obtain ⟨_, _, _, q⟩ := hs
    exact False.elim q
  | cont =>
    obtain ⟨_, _, _, q⟩ := hs
    exact False.elim q
end L2
namespace L2
open PySem PySem.Spec PyProof.Rows
section
variable {X : Cx} {x : Str} {p pos : Pos} {e : Expr} {es : List Expr} {t : TA} {id T : String} {r : List V -> Hp -> VK -> Prop}
def tCB (r : List V -> Hp -> VK -> Prop) (t : TA) : TE := fun σ H Q => t σ H fun vs H1 => r vs H1 Q
theorem Z4j (hc : Z11 X (.builtin id) r) (hg : Gl X x) (hm : X.mg x = none) (hv : bootBuiltins x = some (.builtin id)) (ha : PA X (e :: es) t) (hn : x ≠ "__name__" := by decide) (hdb : (x == ("__debug__" : Str)) = false := by decide)
    (he : starEach (e :: es) X.env = (false, eval e X.env) :: starEach es X.env := by rfl) (hpl : (backTo pos (starEach es X.env)).any (·.1) = false := by rfl) : PE X (.Call (.Name x p) (e :: es) [] pos) (tCB r t) := by
  intro pins s σ H Q I h
  refine wpAny_Call_Name_kw (Z3v I hg hm hv ?_ hn hdb)
  exact PyProof.Rows.callWith_builtin1 (thn (ha pos pins s σ H _ I h) fun us s1 ⟨vs, H1, I1, r1, q1⟩ => hc pins s1 σ H1 vs us Q I1 r1 q1) he hpl
theorem Z5v (hc : Z11 X (.type T) r) (hg : Gl X x) (hm : X.mg x = none) (hv : bootBuiltins x = some (.type T)) (ha : PA X (e :: es) t) (hn : x ≠ "__name__" := by decide) (hdb : (x == ("__debug__" : Str)) = false := by decide)
    (he : starEach (e :: es) X.env = (false, eval e X.env) :: starEach es X.env := by rfl) (hpl : (backTo pos (starEach es X.env)).any (·.1) = false := by rfl) : PE X (.Call (.Name x p) (e :: es) [] pos) (tCB r t) := by
  intro pins s σ H Q I h
  refine wpAny_Call_Name_kw (Z3v I hg hm hv ?_ hn hdb)
  exact PyProof.Rows.callWith_type1 (thn (ha pos pins s σ H _ I h) fun us s1 ⟨vs, H1, I1, r1, q1⟩ => hc pins s1 σ H1 vs us Q I1 r1 q1) he hpl
end
end L2
namespace L2
open PySem PySem.Spec PyProof.Rows
section
variable {κ : Type} [DecidableEq κ]
def valV (kvs : List (κ × V)) (k : κ) : Option V := (kvs.find? fun kv => decide (kv.1 = k)).map (·.2)
theorem Z7m {p : κ × V} {r : List (κ × V)} {k : κ} (e : p.1 = k) : valV (p :: r) k = some p.2 := by simp [valV, List.find?_cons, e]
theorem Z7v {p : κ × V} {r : List (κ × V)} {k : κ} (e : ¬ p.1 = k) : valV (p :: r) k = valV r k := by simp [valV, List.find?_cons, e]
theorem RelO.isSome_eq {o : Option V} {u : Option Value} (r : RelO o u) : o.isSome = u.isSome := by
  cases o with
  | none => cases u with
    | none => rfl
    | some _ => exact (show False from r).elim
  | some _ => cases u with
    | none => exact (show False from r).elim
    | some _ => rfl
theorem KV.val {kvs : List (κ × V)} {vs : List (κ × Value)} (r : KV kvs vs) (k : κ) : RelO (valV kvs k) (valueAt vs k) := by
  unfold KV at r
  induction r with
  | nil => exact True.intro
  | @cons p q ps qs h t ih =>
    obtain ⟨h1, h2⟩ := h
    by_cases e : p.1 = k
    . have e' : q.1 = k := h1.symm.trans e
      have b : valueAt (q :: qs) k = some q.2 := by simp [valueAt, List.find?_cons, e']
      rw [Z7m e, b]; exact h2
    . have e' : ¬ q.1 = k := fun z => e (h1.trans z)
      have b : valueAt (q :: qs) k = valueAt qs k := by simp [valueAt, List.find?_cons, e']
      rw [Z7v e, b]; exact ih
theorem KV.length {kvs : List (κ × V)} {vs : List (κ × Value)} (r : KV kvs vs) : kvs.length = vs.length := Paired.length r
end
theorem Z6x {P : Program} {w : World} {k : Key} {u : Value} (r : RelV (kV k) u) : (Z14 P w).is k u = true := by
  cases k with
  | inl i => obtain ⟨t, e⟩ := (show ∃ t, u = Value.int i t from r); subst e; exact Z91 P w i t
  | inr x => obtain ⟨t, e⟩ := (show ∃ t, u = Value.str x t from r); subst e; exact Z8w P w x t
theorem Z5z {P : Program} {w : World} : ∀ {ks : List Key} {us : List Value}, Vals (ks.map kV) us -> ItemsAre (Z14 P w) ks us
  | [], _, r => by rw [List.map_nil] at r; cases r; exact .nil
  | k :: ks, _, r => by
    rw [List.map_cons] at r
    cases r with
    | cons h t => exact .cons (Z6x h) (Z5z t)
abbrev KT (H : Hp) : List (List Key × V) -> List (List Key × Addr × Value) -> Prop := Paired fun p q => p.1 = q.1 /\ H q.2.1 = some (.tup (p.1.map kV)) /\ RelV p.2 q.2.2
theorem KT.val {H : Hp} {kvs : List (List Key × V)} {xs : List (List Key × Addr × Value)} (r : KT H kvs xs) (k : List Key) : RelO (valV kvs k) ((atKey xs k).map (·.2)) := by
  induction r with
  | nil => exact True.intro
  | @cons p q ps qs h t ih =>
    obtain ⟨h1, _, h2⟩ := h
    by_cases e : p.1 = k
    . have e' : q.1 = k := h1.symm.trans e
      have b : atKey (q :: qs) k = some q.2 := by simp [atKey, List.find?_cons, e']
      rw [Z7m e, b]; exact h2
    . have e' : ¬ q.1 = k := fun z => e (h1.trans z)
      have b : atKey (q :: qs) k = atKey qs k := by simp [atKey, List.find?_cons, e']
      rw [Z7v e, b]; exact ih
section
variable {P : Program} {w : World} {H : Hp} {h : Heap} {a : Addr}
theorem rd_of {u : HO} (ok : HOk P w H h) (e : Rd H a u) : Zq P w H h a u := e.ok ok
theorem Z56 {kvs : List (Key × V)} (ok : HOk P w H h) (e : Rd H a (.dK kvs)) : kvs.length <= sizeLine /\ (a == sysModules) = false /\ ∃ vs, KV kvs vs /\ h.DictOf (Z14 P w) a vs :=
  show Zq P w H h a (.dK kvs) from rd_of ok e
theorem Z57 {ks : List Key} (ok : HOk P w H h) (e : H a = some (.tup (ks.map kV))) : (tupleKind (Z14 P w)).is h ks a := by
  obtain ⟨_, its, r, o, h1, h2, n, h3⟩ := (show Zq P w H h a (.tup (ks.map kV)) from ok a _ e)
  exact ⟨o, its.toArray, n, h1, h2, h3, by simpa using Z5z r⟩
theorem Z4s {kvs : List (List Key × V)} (ok : HOk P w H h) (e : Rd H a (.dT kvs)) : kvs.length <= sizeLine /\ (a == sysModules) = false /\
    ∃ xs, KT H kvs xs /\ h.DictOfH (tupleKind (Z14 P w)) a xs := by
  obtain ⟨z, y, xs, r, o, es, ep, h1, h2, h3, h4, h5⟩ := (show Zq P w H h a (.dT kvs) from rd_of ok e)
  refine ⟨z, y, xs, r, o, es, ep, h1, h2, h3, h4, fun x hx => ?_, h5⟩
  have all : ∀ {l : List (List Key × V)} {m : List (List Key × Addr × Value)}, KT H l m -> ∀ x ∈ m, (tupleKind (Z14 P w)).is h x.1 x.2.1 := by
    intro l m q
    induction q with
    | nil => intro x hx; exact nomatch hx
    | @cons p q ps qs hq t ih =>
      intro x hx
      rcases List.mem_cons.mp hx with e | hx
      . subst e
        exact Z57 ok (by rw [<- hq.1]; exact hq.2.1)
      . exact ih x hx
  exact all r x hx
end
def DGet (H : Hp) (a : Addr) (y : V) (r : Option V) : Prop :=
  (∃ kvs k, Rd H a (.dK kvs) /\ y = kV k /\ r = valV kvs k) \/ ∃ kvs k b, Rd H a (.dT kvs) /\ y = .ref b /\ H b = some (.tup (k.map kV)) /\ r = valV kvs k
section
variable {X : Cx} {pins : List (Addr × Obj)} {σ : St} {H : Hp} {s : Shared} {a : Addr} {y v : V} {u r : Value} {o : Option V} {A : Around} {E : Value -> Shared -> Prop}
theorem Zc8 {Q : Value -> Shared -> Prop} (hu : A.units + 1 < cLine) (I : Inv X pins σ H s) (g : DGet H a y (some v)) (ry : RelV y u) (h : ∀ w' s', Inv X pins σ H s' -> RelV v w' -> Q w' s') :
    wpAny (model X.prog X.w) A (getItem (.ref a) u) Q E s := by
  rcases g with ⟨kvs, k, e, ey, l⟩ | ⟨kvs, k, b, e, ey, eb, l⟩
  . subst ey
    obtain ⟨z, hd, vs, rel, dd⟩ := Z56 I.hok e
    obtain ⟨w', hw, rw'⟩ := RelO.some_of (v := v) (o := valueAt vs k) (by rw [l]; exact rel.val k)
    exact wpAny_getItem_of (Z6x ry) dd.mapOf hw (h w' _ (I.tok _) rw')
  . subst ey
    cases (show u = Value.ref b from ry)
    obtain ⟨z, hd, xs, rel, dd⟩ := Z4s I.hok e
    obtain ⟨w', hw, rw'⟩ := RelO.some_of (v := v) (o := (atKey xs k).map (·.2)) (by rw [l]; exact rel.val k)
    obtain ⟨p, hp, hp2⟩ := Option.map_eq_some_iff.mp hw
    refine wpAny_getItem_heap (tupleKind_room_in1 hu) (Z57 I.hok eb) dd hp ?_
    rw [hp2]
    exact h w' _ (I.tok _) rw'
theorem d_in {Q : Value -> Shared -> Prop} (hu : A.units + 1 < cLine) (I : Inv X pins σ H s) (g : DGet H a y o) (ry : RelV y u) (h : ∀ s', Inv X pins σ H s' -> Q (.bool o.isSome) s') :
    wpAny (model X.prog X.w) A (compareOp .In u (.ref a)) Q E s := by
  rcases g with ⟨kvs, k, e, ey, l⟩ | ⟨kvs, k, b, e, ey, eb, l⟩
  . subst ey
    obtain ⟨z, hd, vs, rel, dd⟩ := Z56 I.hok e
    refine wpAny_in_of (Z6x ry) hd dd.mapOf ?_
    rw [<- (rel.val k).isSome_eq, <- l]
    exact h _ (I.tok _)
  . subst ey
    cases (show u = Value.ref b from ry)
    obtain ⟨z, hd, xs, rel, dd⟩ := Z4s I.hok e
    refine wpAny_in_heap (tupleKind_room_in1 hu) (Z57 I.hok eb) hd dd ?_
    have q := (rel.val k).isSome_eq
    rw [Option.isSome_map] at q
    rw [<- q, <- l]
    exact h _ (I.tok _)
end
section
variable {X : Cx} {pins : List (Addr × Obj)} {σ : St} {H : Hp} {s : Shared} {a : Addr} {kvs : List (Key × V)} {k : Key} {u : Value} {A : Around} {E : Value -> Shared -> Prop}
theorem d_len {Q : Value -> Shared -> Prop} (I : Inv X pins σ H s) (e : Rd H a (.dK kvs)) (h : ∀ t s', Inv X pins σ H s' -> Q (.int kvs.length t) s') : wpAny (model X.prog X.w) A (call (.builtin "len") [.ref a]) Q E s := by
  obtain ⟨z, hd, vs, rel, dd⟩ := Z56 I.hok e
  refine call_len_dict hd dd (by rw [<- rel.length]; rw [sizeLine_eq] at z; omega) ?_
  rw [<- rel.length]
  exact h _ _ (I.tok _)
end
theorem Z8u {X : Cx} {pins : List (Addr × Obj)} {σ : St} {H : Hp} {s : Shared} {a : Addr} {y : V} {o : Option V} (I : Inv X pins σ H s) (g : DGet H a y o) : s.TypeIs (.ref a) "dict" := by
  rcases g with ⟨kvs, k, e, _, _⟩ | ⟨kvs, k, b, e, _, _, _⟩
  . obtain ⟨_, _, vs, _, dd⟩ := Z56 I.hok e
    exact dd.typeIs
  . obtain ⟨_, _, xs, _, dd⟩ := Z4s I.hok e
    exact dd.typeIs
section
variable {X : Cx} {o i e value : Expr} {pos pos' tpos : Pos} {td ty tv : TE}
end
section
variable {X : Cx} {pos : Pos}
end
structure M1 (X : Cx) (o : Expr) (m : Str) (apos : Pos) (e : Expr) (cpos : Pos) : Prop where
  base : attributeBase o m X.env (eval o X.env) = eval o X.env
  few : ((backTo cpos (starEach [e] X.env)).all (fun x => !x.1) && (backToKw cpos (keywordEach [] X.env)).all (fun x => x.1.isSome)
    && decide (([e] : List Expr).length + ([] : List Keyword).length + (if ([] : List Keyword).isEmpty then 0 else 1) < 30)) = true
  line : (apos.endLine == cpos.line) = true
  trees : backTo cpos (starEach [e] X.env) = [(false, eval e X.env)]
structure M2 (X : Cx) (o : Expr) (m : Str) (apos : Pos) (e f : Expr) (cpos : Pos) : Prop where
  base : attributeBase o m X.env (eval o X.env) = eval o X.env
  few : ((backTo cpos (starEach [e, f] X.env)).all (fun x => !x.1) && (backToKw cpos (keywordEach [] X.env)).all (fun x => x.1.isSome)
    && decide (([e, f] : List Expr).length + ([] : List Keyword).length + (if ([] : List Keyword).isEmpty then 0 else 1) < 30)) = true
  line : (apos.endLine == cpos.line) = true
  trees : backTo cpos (starEach [e, f] X.env) = [(false, eval e X.env), (false, eval f X.env)]
section
variable {X : Cx} {pins : List (Addr × Obj)} {σ : St} {H : Hp} {s : Shared} {a : Addr} {y d : V} {u r : Value} {o : Option V} {A : Around} {E : Value -> Shared -> Prop}
end
section
variable {X : Cx} {o e f : Expr} {apos cpos : Pos} {td ty tx : TE}
end
section
variable {X : Cx} {pins : List (Addr × Obj)} {σ : St} {H : Hp} {s : Shared} {a : Addr} {kvs : List (Key × V)} {A : Around} {E : Value -> Shared -> Prop}
end
section
variable {X : Cx} {pins : List (Addr × Obj)} {σ : St} {H : Hp} {s : Shared} {a : Addr} {y : V} {u : Value} {A : Around} {E : Value -> Shared -> Prop}
end
end L2
namespace Att
open PySem PySem.W PySem.Calls PyProof.Rows
theorem Z5d {P : Params} {h : Heap} : ∀ (ns : List Int) (vs : List Value), WellAll P h vs (ns.map WData.int) -> IntsAre vs ns := by
  intro ns
  induction ns with
  | nil =>
    intro vs w
    rw [List.map_nil] at w
    cases w
    exact .nil
  | cons n ns ih =>
    intro vs w
    rw [List.map_cons] at w
    cases w with
    | cons a b =>
      cases a
      exact .cons _ _ (ih _ b)
theorem Zbn {l : OpenLaw} {n : Nat} (hn : l.most = some n) {P : Params} {h : Heap} {args : List WData} {vals : List Value}
    (hpre : l.row.toRowW.claim.pre args = true) (hwl : WellAll P h vals args) :
    ∃ a vs ns, vals = [Value.ref a] /\ args = [WData.list (ns.map WData.int)] /\ h.get? a = some { cls := .type "list", data := .seq vs.toArray } /\ IntsAre vs ns /\ ns.length <= n := by
  have hsh : WShape.hasAll [] args [.list .int] = true := (pre_splitW hpre).1
  have hc : l.pre.holds [] { args := args } = true := (pre_splitW hpre).2
  obtain ⟨d, r, rfl, h1, h2⟩ := hasAllW_cons hsh
  obtain rfl := hasAllW_nil h2
  obtain ⟨xs, rfl, h3⟩ := hasW_list h1
  obtain ⟨ns, rfl⟩ := items_int h3
  have hlen : ns.length <= n := by
    unfold OpenLaw.pre at hc
    have h4 : (WTm.not (.lt (.lit (.int (n : Int))) (.len (.arg 0)))).holds [] { args := [.list (ns.map .int)] } = true := by
      have h4 := (holds_andW hc).1
      rw [hn] at h4
      exact h4
    have h5 := condW_of h4 (w_not (w_lt w_lit (w_len_list (w_arg rfl))))
    rw [List.length_map] at h5
    refine Nat.le_of_not_lt fun q => ?_
    have q' : (n : Int) < ((ns.length : Nat) : Int) := by omega
    first
      | (rw [decide_eq_true q'] at h5; exact absurd h5 (by decide))
      | (simp at h5; omega)
  cases hwl with
  | cons w1 w2 =>
    cases w2
    cases w1 with
    | list ho hall => exact ⟨_, _, ns, rfl, rfl, ho, Z5d ns _ hall, hlen⟩
theorem Zbb (l : OpenLaw) (args : List WData) : l.row.toRowW.claim.post args (.bool true) args = true :=
  postW_of (r := l.row.toRowW) (X := (true == true))
    (show WShape.has [] (.bool true) .bool = true by first | rfl | decide | simp [WShape.has, WShape.arms, WShape.armsAll])
    (show (WTm.eq .res (.lit (.bool true))).value [] { args := args, res := some (.bool true), after := args } = some (.bool (true == true)) from w_eq_bool (w_res rfl) w_lit) rfl
theorem attach_call {l : OpenLaw} {n : Nat} {q : Program} {loose : List Str} {XP : (Str -> Option Value) -> Heap -> Prop} {YP : World -> Heap -> Prop} {d : DefRec}
    (hn : l.most = some n) (hdf : d.params.defaults = [])
    (call : ∀ (w : World) (s₀ s₁ : Shared) (mg mb : Str -> Option Value) (fa : Addr) (o : Obj) (pm cd doc : Value) (a : Addr) (vs : List Value) (ns : List Int),
      Ground q loose [] XP w s₀ mg mb s₁.heap -> YP w s₁.heap ->
      s₁.heap.get? fa = some o -> o.data = .func (docDef d.name d.params d.body d.scope pm cd doc) -> s₁.heap.CodeRec cd d.name -> mg d.name = some (.ref fa) ->
      s₁.heap.get? a = some { cls := .type "list", data := .seq vs.toArray } -> IntsAre vs ns -> ns.length <= n -> s₁.gens = #[] ->
      codeAny (model l.prog w) callerA (.call (.ref fa) ⟨[.ref a], []⟩) (fun r s' => r = .ok (.ret (.bool true)) /\ OldK s₁.heap s'.heap /\ s'.os = s₁.os /\ AllBare s'.gens) s₁) :
    WalkO q loose XP YP l.row.toRowW d [] (fun f vs => PySem.call f vs) := by
  intro w s₀ s₁ mg mb G Y fa o pm cd doc dV kV ho hd hcd hD hmg hg args vals as hpre hlay hrd hwl hlo
  obtain rfl : dV = .none := Dflts.none hD hdf
  obtain rfl : kV = .none := Dflts.noKw hD
  obtain ⟨a, vs, ns, rfl, rfl, hobj, hints, hlen⟩ := Zbn hn hpre hwl
  refine enter_call (codeAny_mono (call w s₀ s₁ mg mb fa o pm cd doc a vs ns G Y ho (fd_plain hd) hcd hmg hobj hints hlen hg) fun r s' hq => ?_)
  obtain ⟨rfl, h2, h3, h4⟩ := hq
  exact ⟨.inl ⟨.bool true, .bool true, [], rfl, fun _ => rfl, .bool true, Zbb l _, fun _ => ⟨List.Pairwise.nil, fun _ hm => (nomatch hm)⟩⟩, h2, h3, h4⟩
section
variable {prog : Program} {w : World} {A : Around} {E : Value -> Shared -> Prop} {s : Shared} {K : Frag}
end
end Att
namespace L2
open PySem PySem.Spec PyProof.Rows
theorem Z61 : ∀ {vs : List Value} {ns : List Int}, IntsAre vs ns -> Vals (ns.map V.int) vs
  | _, _, .nil => .nil
  | _, _, .cons n t h => .cons ⟨t, rfl⟩ (Z61 h)
def Only (H : Hp) : Prop := ∀ b, H b = none \/ ∃ o xs, H b = some (.frz o (.lst xs))
theorem Zej {P : Program} {w : World} {K : PySem.W.Frag} {mg mb : Str -> Option Value} {CX : CXT} {k : Nat} {fa a : Addr} {fd : FuncData} {x : Str} {sp : Sp} {s₁ : Shared} {vs : List Value} {ns : List Int}
    (KX : K.In s₁.heap) (hns : s₁.heap.Ns mainGlobals mg) (hb : s₁.heap.Ns builtinsNs mb) (hbb : ∀ x : Str, x ≠ "__name__" -> mb x = bootBuiltins x) (hlim : s₁.heap.NoLimit) (hg : s₁.gens = #[])
    (ha : s₁.heap.get? a = some { cls := .type "list", data := .seq vs.toArray }) (hi : IntsAre vs ns) (hl : ns.length <= sizeLine) (hr : Room k callerA)
    (F : ∀ base : Heap, K.In base -> base.Ns mainGlobals mg -> FnOk P w K mg base CX k fa fd [x] sp) (hbind : ∀ (s : Shared) (u : Value), BindsTo s fd ⟨[u], []⟩ [(x, u)])
    (hsp : ∀ H : Hp, Only H -> SqL K H a (ns.map V.int) -> sp [.ref a] H (fun v _ => v = .bl true) fun _ _ _ => False)
    (hCX : ∀ H e s', CX [] H s₁ (fun _ _ _ => False) e s' -> False) :
    codeAny (model P w) callerA (.call (.ref fa) ⟨[.ref a], []⟩) (fun r s' => r = .ok (.ret (.bool true)) /\ OldK s₁.heap s'.heap /\ s'.os = s₁.os /\ AllBare s'.gens) s₁ := by
  have rv := Z61 hi
  have lenV := hi.length
  have core : ∀ H : Hp, Only H -> SqL K H a (ns.map V.int) -> HOk P w H s₁.heap -> (∀ b, H b ≠ none -> b = a) -> (H a ≠ none -> K.lookup a = none) ->
      codeAny (model P w) callerA (.call (.ref fa) ⟨[.ref a], []⟩) (fun r s' => r = .ok (.ret (.bool true)) /\ OldK s₁.heap s'.heap /\ s'.os = s₁.os /\ AllBare s'.gens) s₁ := by
    intro H hO hS hok hA hK
    have base_of : ∀ {b : Addr} {o : Obj}, s₁.heap.get? b = some o -> H b = none -> (hidT s₁.heap H).get? b = some o := fun e n => Zda e n
    have noA : ∀ {b : Addr} {o : Obj} {es : Array DictEntry} {ep : Nat}, s₁.heap.get? b = some o -> o.data = .dict es ep -> H b = none := fun {b o es ep} e d => by
      cases q : H b with
      | none => rfl
      | some u =>
        have e' : b = a := hA b (by rw [q]; simp)
        subst e'
        rw [ha] at e; cases e
        have d' : Data.seq vs.toArray _ = Data.dict es ep := d
        cases d'
    have nsK : ∀ {b : Addr} {m : Str -> Option Value}, s₁.heap.Ns b m -> (hidT s₁.heap H).Ns b m := fun {b m} ⟨o, es, ep, e, d, r⟩ => ⟨o, es, ep, base_of e (noA e d), d, r⟩
    have hKb : K.In (hidT s₁.heap H) := fun b o e => base_of (KX b o e) (by
      cases q : H b with
      | none => rfl
      | some u =>
        have e' : b = a := hA b (by rw [q]; simp)
        subst e'
        rw [hK (by rw [q]; simp)] at e; cases e)
    have hM : Mod K mg (hidT s₁.heap H) := ⟨hKb, nsK hns, ⟨mb, nsK hb, hbb⟩, let ⟨mc, h1, h2⟩ := hlim; ⟨mc, nsK h1, h2⟩⟩
    have e0 : Env0 P w K mg (hidT s₁.heap H) callerA [] s₁ H := ⟨rfl, hM, fun b o e => Zeq e, Nat.le_of_eq (Zcb _ _), trivial, fun b hb => absurd (show b ∈ ([] : List Addr) from hb) (by simp), hok, .of_eq hg⟩
    refine codeAny_mono ((F _ hKb (nsK hns)).run callerA [] s₁ H ⟨[.ref a], []⟩ [.ref a] [.ref a] _ _ hr e0 (hbind s₁ (.ref a)) (.cons rfl .nil) (hsp H hO hS)) fun r s' h => ?_
    cases r with
    | error e => exact (hCX H e s' h).elim
    | ok fl =>
      cases fl with
      | next => exact False.elim h
      | brk => exact False.elim h
      | cont => exact False.elim h
      | ret u =>
        obtain ⟨v, H', os, bare, un, hok', r', q⟩ := h
        have q' : v = .bl true := q
        subst q'
        obtain rfl : u = Value.bool true := r'
        refine ⟨rfl, OldK.of_keep fun b o e => ?_, os, bare⟩
        cases q : H b with
        | none => exact un.keep b o e q (by intro z; exact absurd (show b ∈ ([] : List Addr) from z) (by simp)) (by simp)
        | some u =>
          rcases hO b with z | ⟨ob, xs, z⟩
          . rw [q] at z; cases z
          . have z2 := un.frzs b ob _ z
            obtain ⟨e1, _⟩ := hok b _ z
            obtain ⟨e2, _⟩ := hok' b _ z2
            rw [e] at e1; cases e1
            exact e2
  cases hk : K.lookup a with
  | some o =>
    have e := KX a o hk
    rw [ha] at e
    cases e
    refine core (fun _ => none) (fun _ => .inl rfl) (.inr ⟨_, vs.toArray, _, hk, rfl, rfl, rfl, by rw [List.size_toArray, lenV]; exact hl, by simpa using rv⟩) (fun b u z => by have z' : (none : Option HO) = some u := z; cases z') (fun b z => absurd rfl z) fun z => absurd rfl z
  | none =>
    refine core (fun b => if b = a then some (.frz { cls := .type "list", data := .seq vs.toArray } (.lst (ns.map V.int))) else none) (fun b => ?_) (.inl (.inr ⟨{ cls := .type "list", data := .seq vs.toArray }, if_pos rfl⟩)) (fun b u z => ?_) (fun b z => ?_) fun _ => hk
    . by_cases hb : b = a
      . exact .inr ⟨_, _, if_pos hb⟩
      . exact .inl (if_neg hb)
    . by_cases hb : b = a
      . have z' := (if_pos hb).symm.trans z
        cases z'
        subst hb
        exact ⟨ha, by rw [List.length_map]; exact hl, vs, _, rv, ha⟩
      . have z' := (if_neg hb).symm.trans z
        cases z'
    . by_cases hb : b = a
      . exact hb
      . exact absurd (if_neg hb) z
end L2
namespace L2
open PySem PySem.Spec PyProof.Rows
theorem walk_of {l : PySem.W.OpenLaw} {n k : Nat} {q : Program} {loose : List Str} {XP : (Str -> Option Value) -> Heap -> Prop} {YP : World -> Heap -> Prop} {d : DefRec} {K : Params -> PySem.W.Frag} {CX : World -> CXT} {sp : World -> Sp} {x : Str}
    (hn : l.most = some n) (hn2 : n <= sizeLine) (hdf : d.params.defaults = []) (hr : Room k callerA)
    (hY : ∀ (w : World) (h : Heap), YP w h -> (K w.params).In h)
    (F : ∀ (w : World) (mg : Str -> Option Value) (fa : Addr) (h : Heap), (K w.params).In h -> h.Ns mainGlobals mg -> mg d.name = some (.ref fa) ->
      ∃ fd : FuncData, (∀ (s : Shared) (u : Value), BindsTo s fd ⟨[u], []⟩ [(x, u)]) /\
        ∀ base : Heap, (K w.params).In base -> base.Ns mainGlobals mg -> FnOk l.prog w (K w.params) mg base (CX w) k fa fd [x] (sp w))
    (hsp : ∀ (w : World) (H : Hp) (a : Addr) (ns : List Int), ns.length <= n -> Only H -> SqL (K w.params) H a (ns.map V.int) -> sp w [.ref a] H (fun v _ => v = .bl true) fun _ _ _ => False)
    (hCX : ∀ (w : World) (H : Hp) (s : Shared) (e : Value) (s' : Shared), CX w [] H s (fun _ _ _ => False) e s' -> False) :
    PySem.W.WalkO q loose XP YP l.row.toRowW d [] (fun f vs => PySem.call f vs) := by
  refine Att.attach_call hn hdf fun w s₀ s₁ mg mb fa o pm cd doc a vs ns G Y ho hd hcd hmg hobj hints hlen hg => ?_
  have KX := hY w _ Y
  obtain ⟨fd, hb, hF⟩ := F w mg fa _ KX G.T.g hmg
  exact Zej KX G.T.g G.T.b G.T.builtins G.T.nolimit hg hobj hints (Nat.le_trans hlen hn2) hr hF hb (fun H hO hS => hsp w H a ns hlen hO hS) fun H e s' => hCX w H s₁ e s'
end L2
namespace L2
open PySem PySem.Spec PyProof.Rows
def Z3 (s : Stmt) (j : Nat) : Stmt := match s with
  | .ClassDef _ _ _ body _ _ _ _ _ _ _ => body.getD j (.Pass ⟨0, 0, 0, 0⟩)
  | _ => .Pass ⟨0, 0, 0, 0⟩
def Zc (s : Stmt) : Arguments := match s with
  | .FunctionDef _ a _ _ _ _ _ _ _ _ => a
  | _ => { posonlyargs := [], args := [], vararg := none, kwonlyargs := [], kw_defaults := [], kwarg := none, defaults := [] }
def Za (s : Stmt) : List Stmt := match s with
  | .FunctionDef _ _ b _ _ _ _ _ _ _ => b
  | _ => []
def Z1 (s : Stmt) : Scope := match s with
  | .FunctionDef _ _ _ _ _ _ sc _ _ _ => sc
  | _ => { kind := .function, names := [], isGenerator := false, isCoroutine := false }
structure Fun (K : PySem.W.Frag) (x qual : Str) (st : Stmt) (f : Addr) (fd : FuncData) : Prop where
  ex : ∃ (oc : Value) (od : Option Addr) (kV doc pm : Value) (an : Option Addr) (cdv ct : Value) (osl : Array (Option Value)),
    fd = PySem.W.fnOf x qual (Zc st) (Za st) (Z1 st) .none kV doc pm an cdv ct /\ K.lookup f = some ⟨oc, od, .func fd, osl⟩ /\ PySem.W.codeIn K cdv qual = true
  kp : PySem.W.keepIn K (.ref f) = true
section
variable {P : Program} {w : World} {K : PySem.W.Frag} {mg : Str -> Option Value} {base : Heap}
theorem Fun.binds {x qual : Str} {st : Stmt} {f : Addr} {fd : FuncData} {ps : List Str} (F : Fun K x qual st f fd)
    (h : ∀ (kV doc pm : Value) (an : Option Addr) (cdv ct : Value) (us : List Value), us.length = ps.length -> bindArgs (PySem.W.fnOf x qual (Zc st) (Za st) (Z1 st) .none kV doc pm an cdv ct) ⟨us, []⟩ = pure (ps.zip us)) : Zf K fd ps [] := by
  obtain ⟨oc, od, kV, doc, pm, an, cdv, ct, osl, rfl, lk, hcd⟩ := F.ex
  exact .all (h kV doc pm an cdv ct)
theorem Zh {x qual : Str} {st : Stmt} {f : Addr} {oc : Value} {od an : Option Addr} {osl : Array (Option Value)} {kV doc pm cdv ct : Value} (l : K.lookup f = some ⟨oc, od, .func (PySem.W.fnOf x qual (Zc st) (Za st) (Z1 st) .none kV doc pm an cdv ct), osl⟩)
    (c : PySem.W.codeIn K cdv qual = true) (k : PySem.W.keepIn K (.ref f) = true) : Fun K x qual st f (PySem.W.fnOf x qual (Zc st) (Za st) (Z1 st) .none kV doc pm an cdv ct) := ⟨⟨oc, od, kV, doc, pm, an, cdv, ct, osl, rfl, l, c⟩, k⟩
end
theorem Zl {A : Around} {k : Nat} (hr : Room k A) : A.units + 1 < cLine := Nat.lt_of_le_of_lt (Nat.add_le_add_left (by decide : 1 <= 64) _) hr.units
section
variable {X : Cx}
end
section
variable {κ : Type} [DecidableEq κ]
end
end L2
namespace L2
open PySem PySem.Spec PyProof.Rows
end L2
namespace L2
open PySem PySem.Spec PyProof.Rows
section
variable (P : Program) (w : World)
end
section
variable {P : Program} {w : World} {H H' : Hp} {h h' : Heap} {a : Addr} {o : HO}
end
section
variable {P : Program} {w : World} {H : Hp} {h h' : Heap} {x e : Addr} {o' : HO}
end
section
variable {fs fs' ex ex' : List Addr} {H H1 H2 : Hp} {h h1 h2 h' : Heap} {a x e : Addr} {o : HO}
end
end L2
namespace L2
open PySem PySem.Spec PyProof.Rows
section
variable {X : Cx} {pins : List (Addr × Obj)} {σ : List (Option V)} {H H' : Hp} {s : Shared} {h' : Heap}
end
end L2
namespace L2
open PySem PySem.Spec PyProof.Rows
section
variable {X : Cx}
variable {a b : Expr} {ta tb : TE} {pos : Pos}
variable {tA tB' : TT} {rest : List Expr}
end
end L2
namespace L2
open PySem PySem.Spec PyProof.Rows
section
variable {X : Cx} {pins : List (Addr × Obj)} {σ : St} {H : Hp} {s : Shared} {a : Addr} {xs ys : List V}
end
section
variable {X : Cx} {pins : List (Addr × Obj)} {σ : St} {H : Hp} {s : Shared} {E : Value -> Shared -> Prop}
end
section
variable {X : Cx} {st : Stmt} {rest : List Stmt} {t u : TS} {e : Expr} {te : TE} {pos : Pos}
end
section
variable {X : Cx} {pos : Pos}
end
section
variable {X : Cx} {pos : Pos}
end
end L2
namespace L2
open PySem PySem.Spec PyProof.Rows
section
variable {X : Cx} {tg : Expr}
end
end L2
namespace L2
open PySem PySem.Spec PyProof.Rows
section
variable {X : Cx} {a b c : Expr} {ta tb tc : TE} {pos : Pos}
end
section
variable {X : Cx} {a b c : Expr} {ta tb tc : TE} {pos : Pos}
end
end L2
namespace L2
open PySem PySem.Spec PyProof.Rows
section
variable {prog : Program} {w : World} {A : Around} {E : Value -> Shared -> Prop} {s : Shared} {K : PySem.W.Frag} {x dx C f : Addr} {mA : Str -> Option Value} {name : Str} {v : Value}
end
section
variable {P : Program} {w : World} {H H' : Hp} {h h' : Heap} {a C dx : Addr} {fs fs' : List (Str × V)}
end
section
variable {X : Cx} {pins : List (Addr × Obj)} {σ : St} {H : Hp} {s : Shared} {a C dx : Addr} {fs : List (Str × V)} {f : Str} {v : V} {A : Around} {E : Value -> Shared -> Prop}
end
section
variable {X : Cx} {o e value : Expr} {f : Str} {pos pos' tpos : Pos} {ta tv : TE}
end
section
variable {X : Cx} {pins : List (Addr × Obj)} {σ : St} {H : Hp} {s : Shared} {A : Around} {E : Value -> Shared -> Prop} {Q : Value -> Shared -> Prop} {c : Value} {b : Bool}
end
end L2
namespace L2
open PySem PySem.Spec PyProof.Rows
section
variable {X : Cx} {e : Expr} {es : List Expr} {te : TE} {t : TA} {pos : Pos}
end
section
variable {X : Cx} {pins : List (Addr × Obj)} {σ : St} {H : Hp} {s s' : Shared}
end
section
variable {X : Cx} {CX : CXT} {k : Nat} {f C : Addr} {fd : FuncData} {ps : List Str} {sp : Sp} {dvs : List V} {ds : List Value} {E : XK} {x m : Str} {p pos apos : Pos} {e o : Expr} {es : List Expr} {ta : TE} {t : TA}
end
section
variable {X : Cx} {CX : CXT} {k : Nat} {f C : Addr} {fd : FuncData} {ps ks : List Str} {sp : Sp} {E : XK} {x m : Str} {p pos apos kpos : Pos} {e o : Expr} {es : List Expr} {kws : List Keyword} {te ta : TE} {t tk : TA} {nm : Option Str}
variable {g : List Value -> List Value -> List Value} {gV : List V -> List V -> List V}
end
end L2
namespace L2
open PySem PySem.Spec PyProof.Rows
section
variable {X : Cx} {x : Str} {p pos : Pos} {e : Expr} {es : List Expr} {t : TA} {id T : String} {r : List V -> Hp -> VK -> Prop}
end
end L2
namespace HT
open PySem PyProof.Rows
section
open PySem.SeqAt
open PySem.AutoSeq1 (wpAny_loadPart')
open PySem.MeetsSeq PySem.MeetsSeq2 PySem.MeetsSeq3
end
section
variable {prog : Program} {w : World} {A : Around} {E : Value -> Shared -> Prop} {s : Shared}
def sIx (n d : Nat) : Option Int -> Nat
  | none => d
  | some v => if v < 0 then (v + (n : Int)).toNat else min v.toNat n
end
end HT
namespace L2
open PySem PySem.Spec PyProof.Rows
abbrev TO := St -> Hp -> (Option Int -> Hp -> Prop) -> Prop
def PO (X : Cx) (e : Option Expr) (t : TO) : Prop :=
  ∀ (pins : List (Addr × Obj)) (s : Shared) (σ : St) (H : Hp) (Q : Option Int -> Hp -> Prop), Inv X pins σ H s -> t σ H Q ->
    wpAny (model X.prog X.w) X.A (evalPart e X.env) (fun u s' => ∃ o H', Inv X pins σ H' s' /\ IsPart u o /\ Q o H') X.xe s
def Zes : TO := fun _ H Q => Q none H
def tPart (t : TE) : TO := fun σ H Q => t σ H fun x H1 => ∃ i, x = .int i /\ Q (some i) H1
section
variable {X : Cx} {e : Expr} {te : TE} {lo hi : Option Expr} {tl th : TO} {pos p2 : Pos}
theorem Zfz : PO X none Zes := by
  intro pins s σ H Q I h
  rw [evalPart_none]
  exact wpAny_pure ⟨none, H, I, .none, h⟩
theorem Zew (h : PE X e te) : PO X (some e) (tPart te) := by
  intro pins s σ H Q I hw
  rw [evalPart_some]
  refine thn (h pins s σ H _ I hw) fun u s1 ⟨x, H1, I1, r1, q1⟩ => ?_
  obtain ⟨i, rfl, q⟩ := q1
  obtain ⟨t, rfl⟩ := r1
  exact ⟨some i, H1, I1, .int i t, q⟩
def SlR (X : Cx) (r : V -> Option Int -> Option Int -> Hp -> VK -> Prop) : Prop :=
  ∀ (pins : List (Addr × Obj)) (s : Shared) (σ : St) (H : Hp) (x : V) (v vl vu : Value) (lo hi : Option Int) (sl : Addr) (Q : VK), Inv X pins σ H s -> RelV x v -> s.heap.IsSliceOf sl vl vu .none -> IsPart vl lo -> IsPart vu hi -> r x lo hi H Q ->
    ∃ T id, typeLookup (.type T) "__getitem__" = pure (some (.builtin id)) /\ s.TypeIs v T /\ wpAny (model X.prog X.w) X.A (getItem v (.ref sl)) (EP X pins σ Q) X.xe s
theorem SlR.or {r r' : V -> Option Int -> Option Int -> Hp -> VK -> Prop} (h : SlR X r) (h' : SlR X r') : SlR X (fun x lo hi H Q => r x lo hi H Q \/ r' x lo hi H Q) := by
  intro pins s σ H x v vl vu lo hi sl Q I rx hs pl pu q
  rcases q with q | q
  . exact h pins s σ H x v vl vu lo hi sl Q I rx hs pl pu q
  . exact h' pins s σ H x v vl vu lo hi sl Q I rx hs pl pu q
def tSl (r : V -> Option Int -> Option Int -> Hp -> VK -> Prop) (te : TE) (tl th : TO) : TE := fun σ H Q => te σ H fun x H1 => tl σ H1 fun l H2 => th σ H2 fun u H3 => r x l u H3 Q
theorem Zei {r : V -> Option Int -> Option Int -> Hp -> VK -> Prop} (hr : SlR X r) (he : PE X e te) (hl : PO X lo tl) (hu : PO X hi th) : PE X (.Subscript e (.Slice lo hi none p2) pos) (tSl r te tl th) := by
  intro pins s σ H Q I h
  refine Subscript_ (thn (he pins s σ H _ I h) fun v s1 ⟨x, H1, I1, r1, q1⟩ => ?_)
  refine wpAny_Slice (thn (hl pins s1 σ H1 _ I1 q1) fun vl s2 ⟨l, H2, I2, pl, q2⟩ => thn (hu pins s2 σ H2 _ I2 q2) fun vu s3 ⟨u, H3, I3, pu, q3⟩ => ?_)
  rw [evalPart_none]
  refine wpAny_pure ?_
  have I4 : Inv X pins σ H3 { s3 with heap := s3.heap.push { cls := .type "slice", data := .fields #[vl, vu, .none] } } := I3.kept (t' := s3.toks) fun b ob q => Heap.get?_push_of_some _ q
  obtain ⟨T, id, hT, ht, hg⟩ := hr pins { s3 with heap := s3.heap.push { cls := .type "slice", data := .fields #[vl, vu, .none] } } σ H3 x v vl vu l u s3.heap.objs.size Q I4 r1 (Heap.IsSliceOf.new ..) pl pu q3
  show wpAny (model X.prog X.w) X.A (subscriptTail e (.Slice lo hi none p2) v (.ref s3.heap.objs.size)) (EP X pins σ Q) X.xe { s3 with heap := s3.heap.push { cls := .type "slice", data := .fields #[vl, vu, .none] } }
  exact tail_any (ops := [.ref s3.heap.objs.size, v]) ht hT hg (by with_unfolding_all rfl)
def cutV (xs : List V) (lo hi : Option Int) : List V := (xs.drop (HT.sIx xs.length 0 lo)).take (HT.sIx xs.length xs.length hi - HT.sIx xs.length 0 lo)
theorem Z8q (xs : List V) (lo hi : Option Int) : (cutV xs lo hi).length <= xs.length := by
  unfold cutV
  rw [List.length_take, List.length_drop]
  omega
end
end L2
namespace L2
open PySem PySem.Spec PyProof.Rows
def ixN (n : Nat) (i : Int) : Option Nat := if 0 <= i then (if i < n then some i.toNat else none) else if -(n : Int) <= i then some (i + n).toNat else none
def atI {α : Type} (xs : List α) (i : Int) : Option α := (ixN xs.length i).bind fun j => xs[j]?
theorem Zeu {n : Nat} {i : Int} {j : Nat} (h : ixN n i = some j) : seqIndex? i n = some j /\ j < n /\ -(n : Int) <= i /\ i < n := by
  unfold ixN at h
  by_cases h0 : 0 <= i
  . rw [if_pos h0] at h
    by_cases h1 : i < n
    . rw [if_pos h1] at h
      have e : i.toNat = j := Option.some.inj h
      exact ⟨by rw [seqIndex_of h0 h1, e], by omega, by omega, h1⟩
    . rw [if_neg h1] at h; cases h
  . rw [if_neg h0] at h
    by_cases h1 : -(n : Int) <= i
    . rw [if_pos h1] at h
      have e : (i + n).toNat = j := Option.some.inj h
      exact ⟨by rw [seqIndex_neg (by omega) h1, e], by omega, h1, by omega⟩
    . rw [if_neg h1] at h; cases h
theorem Z5s {α : Type} {xs : List α} {i : Int} {v : α} (h : atI xs i = some v) : ∃ j, seqIndex? i xs.length = some j /\ xs[j]? = some v /\ j < xs.length /\ -(xs.length : Int) <= i /\ i < xs.length := by
  unfold atI at h
  cases e : ixN xs.length i with
  | none => rw [e] at h; cases h
  | some j =>
    rw [e] at h
    obtain ⟨h1, h2, h3, h4⟩ := Zeu e
    exact ⟨j, h1, h, h2, h3, h4⟩
theorem Z1v {α : Type} {xs : List α} {j : Nat} {v : α} (h : xs[j]? = some v) : atI xs (j : Int) = some v := by
  have hj : j < xs.length := (List.getElem?_eq_some_iff.mp h).1
  have e : ixN xs.length (j : Int) = some j := by
    unfold ixN
    rw [if_pos (by omega), if_pos (by omega)]; simp
  unfold atI; rw [e]; exact h
def Z5l (b : Expr) : Prop := ∀ o i, subscripted b false o i = operate [o, i] (getItem o i)
def IxR (X : Cx) (r : R2) : Prop :=
  ∀ (value slice : Expr) (pins : List (Addr × Obj)) (s : Shared) (σ : St) (H : Hp) (x y : V) (v u : Value) (Q : VK), Inv X pins σ H s -> RelV x v -> RelV y u -> r x y H Q ->
    subscripted slice false v u = operate [v, u] (getItem v u) -> wpAny (model X.prog X.w) X.A (subscriptTail value slice v u) (EP X pins σ Q) X.xe s
def MtR (X : Cx) (id : String) (r : V -> List V -> Hp -> VK -> Prop) : Prop :=
  ∀ (pins : List (Addr × Obj)) (s : Shared) (σ : St) (H : Hp) (x : V) (xs : List V) (v : Value) (us : List Value) (Q : VK), Inv X pins σ H s -> RelV x v -> Vals xs us -> r x xs H Q ->
    wpAny (model X.prog X.w) X.A (call (.builtin id) (v :: us)) (EP X pins σ Q) X.xe s
section
variable {X : Cx} {a b : Expr} {ta tb : TE} {pos : Pos}
theorem IxR.or {r r' : R2} (h : IxR X r) (h' : IxR X r') : IxR X (fun x y H Q => r x y H Q \/ r' x y H Q) := by
  intro value slice pins s σ H x y v u Q I rx ry q hs
  rcases q with q | q
  . exact h value slice pins s σ H x y v u Q I rx ry q hs
  . exact h' value slice pins s σ H x y v u Q I rx ry q hs
theorem pe_ix {r : R2} (hr : IxR X r) (ha : PE X a ta) (hb : PE X b tb) (hs : Z5l b) : PE X (.Subscript a b pos) (tOp r ta tb) := by
  intro pins s σ H Q I h
  exact Subscript_ (binT ha hb I h fun v u s2 x y H2 I2 rx ry q => hr a b pins s2 σ H2 x y v u Q I2 rx ry q (hs _ _))
def rIxL (K : PySem.W.Frag) : R2 := fun x y H Q => ∃ p xs i v, x = .ref p /\ y = .int i /\ SqL K H p xs /\ atI xs i = some v /\ Q v H
def rIxT (K : PySem.W.Frag) : R2 := fun x y H Q => ∃ p xs i v, x = .ref p /\ y = .int i /\ SqT K H p xs /\ atI xs i = some v /\ Q v H
def rIxS : R2 := fun x y H Q => ∃ z i c, x = .str z /\ y = .int i /\ z.length <= sizeLine /\ atI z.cps.toList i = some c /\ Q (.str ⟨#[c]⟩) H
theorem Zfb : IxR X (rIxL X.K) := by
  intro value slice pins s σ H x y v u Q I rx ry h hs
  obtain ⟨p, xs, i, z, rfl, rfl, hq, he, q⟩ := h
  cases rx
  obtain ⟨t, rfl⟩ := ry
  obtain ⟨its, r, pl, hz⟩ := I.list hq
  obtain ⟨j, h1, h2, h3, h4, h5⟩ := Z5s he
  obtain ⟨w, ew, rw'⟩ := r.get h2
  have hl := r.length
  have hn := Z3x
  have fin : EP X pins σ Q w s := ⟨z, H, I, rw', q⟩
  by_cases h0 : 0 <= i
  . have hj : i.toNat = j := by
      rw [seqIndex_of h0 h5] at h1
      exact Option.some.inj h1
    exact item_listR pl.isList h0 (by omega) (by rw [hj]; simpa using ew) fin hs
  . have hj : (i + (its.toArray.size : Int)).toNat = j := by
      rw [seqIndex_neg (by omega) h4] at h1
      rw [List.size_toArray, <- hl]
      exact Option.some.inj h1
    exact subscriptTail_builtinR (x := w) pl.isList.typeIs slot_list_getitem.lookup
      (wpAny_getItem_list_neg (Q := fun r s' => r = w /\ EP X pins σ Q r s') pl.isList (by omega) (by rw [List.size_toArray] <;> omega) (by omega) (by rw [hj]; simpa using ew) ⟨rfl, fin⟩) hs
theorem ix_tup : IxR X (rIxT X.K) := by
  intro value slice pins s σ H x y v u Q I rx ry h hs
  obtain ⟨p, xs, i, z, rfl, rfl, hq, he, q⟩ := h
  cases rx
  obtain ⟨t, rfl⟩ := ry
  obtain ⟨its, r, pl, hz⟩ := I.tuple hq
  obtain ⟨j, h1, h2, h3, h4, h5⟩ := Z5s he
  obtain ⟨w, ew, rw'⟩ := r.get h2
  have hl := r.length
  have hn := Z3x
  have fin : EP X pins σ Q w s := ⟨z, H, I, rw', q⟩
  exact subscriptTail_builtinR (x := w) pl.typeIs slot_tuple_getitem.lookup
    (getItem_tuple (j := j) (Q := fun r s' => r = w /\ EP X pins σ Q r s') pl (by omega) (by omega) (by rw [List.size_toArray, <- hl]; exact h1) (by simpa using ew) ⟨rfl, fin⟩) hs
theorem ix_str : IxR X rIxS := by
  intro value slice pins s σ H x y v u Q I rx ry h hs
  obtain ⟨z, i, c, rfl, rfl, hz, he, q⟩ := h
  obtain ⟨t, rfl⟩ := rx
  obtain ⟨t', rfl⟩ := ry
  obtain ⟨j, h1, h2, h3, h4, h5⟩ := Z5s he
  have hl : z.cps.toList.length = z.length := by simp [Str.length]
  rw [hl] at h1 h4 h5
  have hn := Z3x
  exact tail_any (typeIs_str s z t) slot_str_getitem.lookup (getItem_str (c := c) (by
    have e1 : decide (i < -(2 ^ 63 : Int)) = false := decide_eq_false (by omega)
    have e2 : decide (i ≥ 2 ^ 63) = false := decide_eq_false (by omega)
    rw [e1, e2, Bool.or_false]) (by rw [h1]; simpa using h2) ⟨.str ⟨#[c]⟩, H, I.tok _, ⟨_, rfl⟩, q⟩) hs
def rIx (K : PySem.W.Frag) : R2 := fun x y H Q => rIxL K x y H Q \/ rIxT K x y H Q \/ rIxS x y H Q
theorem ix_seq : IxR X (rIx X.K) := Zfb.or (ix_tup.or ix_str)
theorem Z77 (lo hi : Option Int) (n : Nat) : (sliceBounds lo hi none n).1 = ((HT.sIx n 0 lo : Nat) : Int) /\ (sliceBounds lo hi none n).2.1 = ((HT.sIx n n hi : Nat) : Int) /\ (sliceBounds lo hi none n).2.2 = 1 := by
  refine ⟨?_, ?_, rfl⟩
  . cases lo with
    | none => simp [sliceBounds, HT.sIx]
    | some i =>
      simp only [sliceBounds, HT.sIx, Option.getD_none, show (1 : Int) > 0 by decide, if_true]
      by_cases h : i < 0
      . simp only [h, if_true] <;> omega
      . simp only [h, if_false] <;> omega
  . cases hi with
    | none => simp [sliceBounds, HT.sIx]
    | some i =>
      simp only [sliceBounds, HT.sIx, Option.getD_none, show (1 : Int) > 0 by decide, if_true]
      by_cases h : i < 0
      . simp only [h, if_true] <;> omega
      . simp only [h, if_false] <;> omega
theorem Z6q (its : List Value) (lo hi : Option Int) : slicePick its.toArray lo hi none = ((its.drop (HT.sIx its.length 0 lo)).take (HT.sIx its.length its.length hi - HT.sIx its.length 0 lo)).toArray := by
  obtain ⟨h1, h2, h3⟩ := Z77 lo hi its.toArray.size
  unfold slicePick
  rw [h1, h2, h3]
  simp only [sliceRange_one, pick_run, List.size_toArray] <;> rfl
def rSlL (K : PySem.W.Frag) : V -> Option Int -> Option Int -> Hp -> VK -> Prop := fun x lo hi H Q => ∃ a xs, x = .ref a /\ SqL K H a xs /\ ∀ p, H p = none -> Q (.ref p) (upd H p (.lst (cutV xs lo hi)))
theorem Zfh : SlR X (rSlL X.K) := by
  intro pins s σ H x v vl vu lo hi sl Q I rx hs pl pu h
  obtain ⟨a, xs, rfl, hx, q⟩ := h
  cases rx
  obtain ⟨its, r, ht, hz⟩ := I.list hx
  have hlen := r.length
  refine ⟨"list", _, slot_list_getitem.lookup, ht.isList.typeIs, ?_⟩
  refine wpAny_getItem_list_slice ht.isList hs pl pu .none (by simp) ?_ (by rw [List.size_toArray] <;> omega)
  rw [Z6q, <- hlen]
  refine ⟨.ref s.heap.objs.size, _, I.laid (t' := s.toks) (o := .lst (cutV xs lo hi)) (fun b ob q => Heap.get?_push_of_some _ q) (Nat.le_refl _) ?_, rfl, q _ (I.hok.fresh (Nat.le_refl _))⟩
  exact ⟨Nat.le_trans (Z8q xs lo hi) hz, _, 0, (r.drop (HT.sIx xs.length 0 lo)).take (HT.sIx xs.length xs.length hi - HT.sIx xs.length 0 lo), Heap.get?_push_size _ rfl⟩
def Z1a : V -> Bool
  | .non => true
  | .bl _ => true
  | .int _ => true
  | .str _ => true
  | _ => false
def eqV : V -> V -> Bool
  | .non, .non => true
  | .bl a, .bl b => a == b
  | .bl a, .int b => (if a then 1 else 0) == b
  | .int a, .bl b => a == (if b then 1 else 0)
  | .int a, .int b => a == b
  | .str a, .str b => a == b
  | _, _ => false
theorem Z85 {A : Around} {s : Shared} {y x : V} {u v : Value} (ry : RelV y u) (rx : RelV x v) (fy : Z1a y = true) (fx : Z1a x = true) : SeqAt.EqAt A s u v (eqV y x) := by
  cases y with
  | non =>
    cases ry
    cases x with
    | non => cases rx; exact SeqAt.EqAt.same _
    | bl b => cases rx; exact SeqAt.EqAt.none_bool b
    | int b => obtain ⟨t, rfl⟩ := rx; exact SeqAt.EqAt.none_int b t
    | str b => obtain ⟨t, rfl⟩ := rx; exact SeqAt.EqAt.none_str b t
    | _ => exact absurd (show false = true from fx) Bool.false_ne_true
  | bl a =>
    cases ry
    cases x with
    | non => cases rx; exact SeqAt.EqAt.bool_none a
    | bl b => cases rx; exact SeqAt.EqAt.bool_bool a b
    | int b => obtain ⟨t, rfl⟩ := rx; exact SeqAt.EqAt.bool_int a b t
    | str b => obtain ⟨t, rfl⟩ := rx; exact SeqAt.EqAt.bool_str a b t
    | _ => exact absurd (show false = true from fx) Bool.false_ne_true
  | int a =>
    obtain ⟨t', rfl⟩ := ry
    cases x with
    | non => cases rx; exact SeqAt.EqAt.int_none a t'
    | bl b => cases rx; exact SeqAt.EqAt.int_bool a t' b
    | int b => obtain ⟨t, rfl⟩ := rx; exact SeqAt.EqAt.int_int a t' b t
    | str b => obtain ⟨t, rfl⟩ := rx; exact SeqAt.EqAt.int_str a t' b t
    | _ => exact absurd (show false = true from fx) Bool.false_ne_true
  | str a =>
    obtain ⟨t', rfl⟩ := ry
    cases x with
    | non => cases rx; exact SeqAt.EqAt.str_none a t'
    | bl b => cases rx; exact SeqAt.EqAt.str_bool a t' b
    | int b => obtain ⟨t, rfl⟩ := rx; exact SeqAt.EqAt.str_int a t' b t
    | str b => obtain ⟨t, rfl⟩ := rx; exact SeqAt.EqAt.str_str a t' b t
    | _ => exact absurd (show false = true from fx) Bool.false_ne_true
  | _ => exact absurd (show false = true from fy) Bool.false_ne_true
def eqU (x : V) (u : Value) : Bool := match u with
  | .none => eqV .non x
  | .bool b => eqV (.bl b) x
  | .int i _ => eqV (.int i) x
  | .str z _ => eqV (.str z) x
  | _ => false
theorem Zcv {x y : V} {u : Value} (r : RelV y u) (f : Z1a y = true) : eqU x u = eqV y x := by
  cases y with
  | non => cases r; rfl
  | bl b => cases r; rfl
  | int i => obtain ⟨t, rfl⟩ := r; rfl
  | str z => obtain ⟨t, rfl⟩ := r; rfl
  | _ => exact absurd (show false = true from f) Bool.false_ne_true
theorem Z5j {x : V} : ∀ {xs : List V} {us : List Value}, Vals xs us -> xs.all Z1a = true -> us.any (eqU x) = xs.any fun y => eqV y x
  | _, _, .nil, _ => rfl
  | y :: xs, u :: us, .cons r t, f => by
    rw [List.all_cons, Bool.and_eq_true] at f
    rw [List.any_cons, List.any_cons, Zcv r f.1, Z5j t f.2]
theorem Z4h {A : Around} {s : Shared} {x : V} {v : Value} (rx : RelV x v) (fx : Z1a x = true) : ∀ {xs : List V} {us : List Value}, Vals xs us -> xs.all Z1a = true -> ∀ u ∈ us, SeqAt.EqAt A s u v (eqU x u)
  | _, _, .nil, _ => fun u hu => by cases hu
  | y :: xs, u :: us, .cons r t, f => fun u' hu => by
    rw [List.all_cons, Bool.and_eq_true] at f
    rcases List.mem_cons.mp hu with rfl | hu
    . rw [Zcv r f.1]; exact Z85 r rx f.1 fx
    . exact Z4h rx fx t f.2 u' hu
def inV (x : V) (xs : List V) : Bool := xs.any fun y => eqV y x
def rIn (K : PySem.W.Frag) (neg : Bool) : R2 := fun x y H Q => ∃ p xs, y = .ref p /\ (SqL K H p xs \/ SqT K H p xs) /\ Z1a x = true /\ xs.all Z1a = true /\ Q (.bl (if neg then !inV x xs else inV x xs)) H
theorem Zcd : OpR X (compareOp .In) (rIn X.K false) := by
  intro pins s σ H x y v u Q I rx ry h
  obtain ⟨p, xs, rfl, hq, fx, fs, q⟩ := h
  cases ry
  rcases hq with hq | hq
  . obtain ⟨its, r, pl, hz⟩ := I.list hq
    refine SeqAt.in_listAt (eqU x) pl.isList (fun w hw => Z4h rx fx r fs w (by simpa using hw)) ⟨.bl _, H, I, rfl, ?_⟩
    rw [show its.toArray.any (eqU x) = its.any (eqU x) by simp, Z5j r fs]
    exact q
  . obtain ⟨its, r, pl, hz⟩ := I.tuple hq
    refine SeqAt.in_tupleAt (eqU x) pl (fun w hw => Z4h rx fx r fs w (by simpa using hw)) ⟨.bl _, H, I, rfl, ?_⟩
    rw [show its.toArray.any (eqU x) = its.any (eqU x) by simp, Z5j r fs]
    exact q
theorem Z11.or {f : Value} {r r' : List V -> Hp -> VK -> Prop} (h : Z11 X f r) (h' : Z11 X f r') : Z11 X f (fun xs H Q => r xs H Q \/ r' xs H Q) := by
  intro pins s σ H xs us Q I rs q
  rcases q with q | q
  . exact h pins s σ H xs us Q I rs q
  . exact h' pins s σ H xs us Q I rs q
theorem Z8o : Z11 X (.type "list") (fun xs H Q => ∃ p ys, xs = [.ref p] /\ (SqL X.K H p ys \/ SqT X.K H p ys) /\ ∀ l, H l = none -> Q (.ref l) (upd H l (.lst ys))) := by
  intro pins s σ H xs us Q I r h
  obtain ⟨p, ys, rfl, hq, q⟩ := h
  obtain ⟨u, rfl, rx⟩ := Z1j r
  cases rx
  have fin : ∀ (its : List Value), Vals ys its -> ys.length <= sizeLine -> ∀ (h' : Heap) (c' : Nat), (∀ b o', s.heap.get? b = some o' -> h'.get? b = some o') ->
      h'.get? s.heap.objs.size = some { cls := .type "list", dict := none, data := .seq its.toArray c', slots := #[] } -> EP X pins σ Q (.ref s.heap.objs.size) { s with heap := h' } := fun its r' hz h' c' kp e =>
    ⟨.ref s.heap.objs.size, _, I.laid (t' := s.toks) kp (Nat.le_refl _) (show Zq X.prog X.w _ h' _ (.lst ys) from ⟨hz, its, c', r', e⟩), rfl, q _ (I.hok.fresh (Nat.le_refl _))⟩
  rcases hq with hq | hq
  . obtain ⟨its, r', pl, hz⟩ := I.list hq
    have hlen := r'.length
    obtain ⟨o, ho, hc, n, hd⟩ := pl.isList
    exact call_list_seq p (.inl rfl) ho hc hd (fun h' c' kp e => fin its r' hz h' c' kp e) (by simp only [List.size_toArray] <;> omega)
  . obtain ⟨its, r', pl, hz⟩ := I.tuple hq
    have hlen := r'.length
    obtain ⟨o, ho, hc, n, hd⟩ := pl
    exact call_list_seq p (.inr rfl) ho hc hd (fun h' c' kp e => fin its r' hz h' c' kp e) (by simp only [List.size_toArray] <;> omega)
def tyV (K : PySem.W.Frag) (T : String) (x : V) (H : Hp) : Prop := match x with
  | .str _ => T = "str"
  | .int _ => T = "int"
  | .ref p => (T = "list" /\ ∃ xs, SqL K H p xs) \/ (T = "tuple" /\ ∃ o, K.lookup p = some o /\ o.cls = .type "tuple" /\ o.dict = none) \/
      (T = "dict" /\ ((∃ kvs, H p = some (.dK kvs)) \/ ∃ kvs, H p = some (.dT kvs))) \/ (T = "set" /\ ∃ S n, H p = some (.set S n))
  | _ => False
theorem tyV_is {pins : List (Addr × Obj)} {σ : St} {H : Hp} {s : Shared} {T : String} {x : V} {v : Value} (I : Inv X pins σ H s) (r : RelV x v) (ty : tyV X.K T x H) :
    s.TypeIs v T /\ ∀ a, v = .ref a -> ∃ ob, s.heap.get? a = some ob /\ ob.dict = none := by
  cases x with
  | str z =>
    obtain ⟨t, rfl⟩ := r
    cases (show T = "str" from ty)
    exact ⟨typeIs_str s z t, fun _ e => nomatch e⟩
  | int i =>
    obtain ⟨t, rfl⟩ := r
    cases (show T = "int" from ty)
    exact ⟨typeIs_int s i t, fun _ e => nomatch e⟩
  | ref p =>
    cases r
    rcases ty with ⟨rfl, xs, hq⟩ | ⟨rfl, o, hk, hc, hd⟩ | ⟨rfl, hk⟩ | ⟨rfl, S, n, hk⟩
    . obtain ⟨its, _, pl, _⟩ := I.list hq
      refine ⟨pl.isList.typeIs, fun a e => ?_⟩
      cases e
      obtain ⟨o, n, e, c, hd, _⟩ := pl
      exact ⟨o, e, hd⟩
    . refine ⟨⟨o, I.kIn p o hk, hc⟩, fun a e => ?_⟩
      cases e
      exact ⟨o, I.kIn _ o hk, hd⟩
    . have z : ∃ o, s.heap.get? p = some o /\ o.ExactDict := by
        rcases hk with ⟨kvs, hk⟩ | ⟨kvs, hk⟩
        . obtain ⟨_, _, _, _, o, _, _, e, ex, _⟩ := I.hok p _ hk
          exact ⟨o, e, ex⟩
        . obtain ⟨_, _, _, _, o, _, _, e, ex, _⟩ := I.hok p _ hk
          exact ⟨o, e, ex⟩
      obtain ⟨o, e, ex⟩ := z
      refine ⟨⟨o, e, ex.1⟩, fun a e2 => ?_⟩
      cases e2
      exact ⟨o, e, ex.2.1⟩
    . obtain ⟨o, _, _, _, e, ex, _⟩ := I.hok p _ hk
      refine ⟨⟨o, e, ex.1⟩, fun a e2 => ?_⟩
      cases e2
      exact ⟨o, e, ex.2.1⟩
  | _ => exact False.elim ty
def tBM (K : PySem.W.Frag) (T : String) (r : V -> List V -> Hp -> VK -> Prop) (to : TE) (t : TA) : TE := fun σ H Q => to σ H fun x H1 => tyV K T x H1 /\ t σ H1 fun xs H2 => r x xs H2 Q
variable {o e : Expr} {es : List Expr} {to : TE} {t : TA} {name : Str} {apos cpos : Pos} {T id : String} {r : V -> List V -> Hp -> VK -> Prop}
theorem pe_bm (pa : PlainAttrs T) (slot : Slot T name id) (hty : typeOf (.builtin id) = pure (.type "method_descriptor")) (hm : MtR X id r) (ho : PE X o to) (ha : PA X (e :: es) t)
    (hbase : attributeBase o name X.env (eval o X.env) = eval o X.env := by rfl)
    (hfew : ((backTo cpos (starEach (e :: es) X.env)).all (fun x => !x.1) && (backToKw cpos (keywordEach [] X.env)).all (fun x => x.1.isSome)
      && decide ((e :: es).length + ([] : List Keyword).length + (if ([] : List Keyword).isEmpty then 0 else 1) < 30)) = true := by rfl)
    (hline : (apos.endLine == cpos.line) = true := by rfl) (hs : starEach (e :: es) X.env = (false, eval e X.env) :: starEach es X.env := by rfl) (hplain : (backTo cpos (starEach es X.env)).any (·.1) = false := by rfl) :
    PE X (.Call (.Attribute o name apos) (e :: es) [] cpos) (tBM X.K T r to t) := by
  intro pins s σ H Q I h
  refine wpAny_Call_method_late hbase hfew hline rfl (thn (ho pins s σ H _ I h) fun v s1 ⟨x, H1, I1, r1, ty, q1⟩ => ?_)
  obtain ⟨h1, h2⟩ := tyV_is I1 r1 ty
  refine ⟨T, id, pa, slot, hty, h1, h2, ?_⟩
  have hA := ha cpos pins s1 σ H1 _ I1 q1
  rw [hs] at hA ⊢
  refine Calls.callWith_builtin (by show (false || (backTo cpos (starEach es X.env)).any (·.1)) = false; rw [hplain] <;> rfl) (Calls.evalArgs_plain ?_)
  exact thn hA fun us s2 ⟨vs, H2, I2, r2, q2⟩ => hm pins s2 σ H2 x vs v us Q I2 r1 r2 q2
end
end L2
namespace L2
open PySem PySem.Spec PyProof.Rows
def MtM (X : Cx) (id : String) (r : V -> List V -> Hp -> VK -> Prop) : Prop :=
  ∀ (pins : List (Addr × Obj)) (s : Shared) (σ : St) (H : Hp) (x : V) (xs : List V) (v : Value) (us : List Value) (Q : VK), Inv X pins σ H s -> RelV x v -> Vals xs us -> r x xs H Q ->
    wpAny (model X.prog X.w) X.A (call (.builtin id) (v :: us)) (EP X pins σ Q) X.xe s
theorem Vals.one : ∀ {x : V} {us : List Value}, Vals [x] us -> ∃ u, us = [u] /\ RelV x u
  | _, _, .cons r .nil => ⟨_, rfl, r⟩
section
variable {X : Cx} {pins : List (Addr × Obj)} {σ : St} {H : Hp} {s : Shared} {l b : Addr} {xs ys zs : List V}
theorem Inv.lset {its its' : List Value} {n : Nat} {f : Array Value -> Array Value} {t' : Nat} (I : Inv X pins σ H s) (hH : H l = some (.lst xs))
    (e : s.heap.get? l = some { cls := .type "list", data := .seq its.toArray n }) (hf : f its.toArray = its'.toArray) (hv : Vals ys its') (hz : ys.length <= sizeLine) :
    Inv X pins σ (upd H l (.lst ys)) { s with heap := s.heap.update l (Obj.mapSeq f), toks := t' } := by
  have q := PySem.IsL.update e f
  rw [hf] at q
  refine I.write (x := l) (e := l) (by rw [hH]; exact trivial) (.inl rfl) (fun b' u hb hu => (Heap.get?_update_other s.heap (Obj.mapSeq f) (Ne.symm hb)).trans hu) ⟨_, q⟩ ?_
  exact ⟨hz, its', _, hv, q⟩
theorem Inv.lnew {its : List Value} {t' : Nat} (I : Inv X pins σ H s) (hv : Vals ys its) (hz : ys.length <= sizeLine) :
    Inv X pins σ (upd H s.heap.objs.size (.lst ys)) { s with heap := s.heap.push { cls := .type "list", data := .seq its.toArray }, toks := t' } :=
  I.laid (fun _ _ q => Heap.get?_push_of_some _ q) (Nat.le_refl _) ⟨hz, its, 0, hv, Heap.get?_push_size _ rfl⟩
theorem Inv.fresh (I : Inv X pins σ H s) : H s.heap.objs.size = none := I.hok.fresh (Nat.le_refl _)
theorem Inv.lstM (I : Inv X pins σ H s) (hH : H l = some (.lst xs)) : xs.length <= sizeLine /\ ∃ (its : List Value) (n : Nat), Vals xs its /\ xs.length = its.length /\ s.heap.get? l = some { cls := .type "list", data := .seq its.toArray n } := by
  obtain ⟨z, its, n, r, e⟩ := I.hok l _ hH
  exact ⟨z, its, n, r, r.length, e⟩
end
section
variable {X : Cx}
def Zfe : V -> List V -> Hp -> VK -> Prop := fun x vs H Q => ∃ l xs y, x = .ref l /\ vs = [y] /\ H l = some (.lst xs) /\ xs.length < sizeLine /\ Q .non (upd H l (.lst (xs ++ [y])))
theorem Z6f : MtM X "list.append" Zfe := by
  intro pins s σ H x vs v us Q I rx rv h
  obtain ⟨l, xs, y, rfl, rfl, hH, hz, q⟩ := h
  cases rx
  obtain ⟨u, rfl, ru⟩ := rv.one
  obtain ⟨z, its, n, r, hl, e⟩ := I.lstM hH
  refine call_meets F.slot_list_append ⟨_, e, rfl⟩ F.entry_list_append (F.args_list_append_2 _ _) (PySem.list_append l its.toArray n u (by rw [List.size_toArray]; omega)) ⟨e, ?_⟩
  refine ⟨.non, _, I.lset (its' := its ++ [u]) hH e (by simp) (r.append (.cons ru .nil)) ?_, rfl, q⟩
  rw [List.length_append, List.length_singleton]
  omega
theorem Z5n {α : Type} (xs : List α) (k : Nat) : (List.replicate k xs).flatten.length = k * xs.length := by
  induction k with
  | zero => simp
  | succ k ih => rw [List.replicate_succ, List.flatten_cons, List.length_append, ih, Nat.succ_mul, Nat.add_comm]
end
section
variable {prog : Program} {w : World} {A : Around} {E : Value -> Shared -> Prop} {s : Shared}
end
section
variable {X : Cx}
end
end L2
namespace Att
open PySem PySem.W PySem.Calls PyProof.Rows
section
variable {prog : Program} {w : World} {A : Around} {E : Value -> Shared -> Prop} {s : Shared} {K : Frag}
end
end Att
namespace L2
open PySem PySem.Spec PyProof.Rows
end L2
namespace L2
open PySem PySem.Spec PyProof.Rows
end L2
namespace L2
open PySem PySem.Spec PyProof.Rows
section
variable {P : Program} {w : World} {K : PySem.W.Frag} {mg : Str -> Option Value} {base : Heap}
end
section
variable {X : Cx}
end
end L2
namespace B
open PySem
inductive PV where
  | non | bl (b : Bool) | int (i : Int) | str (x : Str)
  | tup (xs : List PV) | lst (xs : List PV) | dct (kvs : List (PV × PV))
  | ins (c : Str) (fs : List (Str × PV)) | exc (c : Str)
  deriving Inhabited, Repr
inductive R (α : Type) where
  | ok (a : α) | err (c : Str) | no
  deriving Repr
namespace R
def bind {α β : Type} : R α -> (α -> R β) -> R β
  | .ok a, f => f a
  | .err c, _ => .err c
  | .no, _ => .no
def map {α β : Type} (f : α -> β) : R α -> R β
  | .ok a => .ok (f a)
  | .err c => .err c
  | .no => .no
@[simp] theorem bind_ok {α β : Type} (a : α) (f : α -> R β) : (R.ok a).bind f = f a := rfl
@[simp] theorem bind_err {α β : Type} (c : Str) (f : α -> R β) : (R.err c).bind f = .err c := rfl
@[simp] theorem bind_no {α β : Type} (f : α -> R β) : (R.no : R α).bind f = .no := rfl
@[simp] theorem map_ok {α β : Type} (a : α) (f : α -> β) : (R.ok a).map f = .ok (f a) := rfl
@[simp] theorem map_err {α β : Type} (c : Str) (f : α -> β) : (R.err c).map f = .err c := rfl
@[simp] theorem map_no {α β : Type} (f : α -> β) : (R.no : R α).map f = .no := rfl
end R
def PV.flat : PV -> Bool
  | .non | .bl _ | .int _ | .str _ => true
  | _ => false
def PV.key1 : PV -> Bool
  | .int _ | .str _ => true
  | _ => false
def PV.keyT : PV -> Bool
  | .tup xs => xs.all PV.key1
  | _ => false
def b2i (b : Bool) : Int := if b then 1 else 0
mutual
def eqd : PV -> PV -> Bool
  | .non, .non => true
  | .bl a, .bl b => a == b
  | .bl a, .int b => b2i a == b
  | .int a, .bl b => a == b2i b
  | .int a, .int b => a == b
  | .str a, .str b => decide (a = b)
  | .tup xs, .tup ys => eqds xs ys
  | .lst xs, .lst ys => eqds xs ys
  | _, _ => false
def eqds : List PV -> List PV -> Bool
  | [], [] => true
  | x :: xs, y :: ys => eqd x y && eqds xs ys
  | _, _ => false
end
def Zn : Nat := 16777216
def dget : List (PV × PV) -> PV -> Option PV
  | [], _ => none
  | (k, v) :: r, x => if eqd k x then some v else dget r x
def Z39 (kvs : List (PV × PV)) (x : PV) : Bool :=
  (x.key1 && kvs.all (·.1.key1)) || (x.keyT && kvs.all (·.1.keyT))
def ixN (n : Nat) (i : Int) : Option Nat := if 0 <= i then (if i < n then some i.toNat else none) else if -(n : Int) <= i then some (i + n).toNat else none
def atI {α : Type} (xs : List α) (i : Int) : Option α := (ixN xs.length i).bind fun j => xs[j]?
def sIx (n d : Nat) : Option Int -> Nat
  | none => d
  | some i => if i < 0 then (i + n).toNat else min i.toNat n
def cut {α : Type} (xs : List α) (lo hi : Option Int) : List α := (xs.drop (sIx xs.length 0 lo)).take (sIx xs.length xs.length hi - sIx xs.length 0 lo)
def Z1b {α : Type} : Option α -> R α
  | some a => .ok a
  | none => .no
@[simp] theorem ofOpt_some {α : Type} (a : α) : Z1b (some a) = .ok a := rfl
@[simp] theorem ofOpt_none {α : Type} : (Z1b none : R α) = .no := rfl
def when {α : Type} (b : Bool) (r : R α) : R α := if b then r else .no
@[simp] theorem when_true {α : Type} (r : R α) : when true r = r := rfl
@[simp] theorem when_false {α : Type} (r : R α) : when false r = .no := rfl
def cmul (i j : Int) : Bool := (decide (-18446744073709551616 < i) && decide (i < 18446744073709551616)) || (decide (-18446744073709551616 < j) && decide (j < 18446744073709551616))
def repS (x : Str) (n : Nat) : Str := ⟨((List.replicate n x.cps.toList).flatten).toArray⟩
def oAdd : PV -> PV -> R PV
  | .int i, .int j => .ok (.int (i + j))
  | .str a, .str b => when (decide (a.length + b.length <= Zn)) (.ok (.str (a ++ b)))
  | .lst a, .lst b => when (decide (a.length + b.length <= Zn)) (.ok (.lst (a ++ b)))
  | _, _ => .no
def oSub : PV -> PV -> R PV
  | .int i, .int j => .ok (.int (i - j))
  | _, _ => .no
def oMul : PV -> PV -> R PV
  | .int i, .int j => when (cmul i j) (.ok (.int (i * j)))
  | .str a, .int k => when (decide (0 <= k) && decide (k <= 1000) && decide (a.length * k.toNat <= 1000)) (.ok (.str (repS a k.toNat)))
  | _, _ => .no
def oDiv : PV -> PV -> R PV
  | .int i, .int j => when (decide (0 < j) && decide (j < 1073741824)) (.ok (.int (i / j)))
  | _, _ => .no
def oMod : PV -> PV -> R PV
  | .int i, .int j => when (decide (0 < j)) (.ok (.int (i % j)))
  | _, _ => .no
def oPow : PV -> PV -> R PV
  | .int i, .int j => when (decide (0 <= j) && decide (j <= 1000) && decide (-1000 < i) && decide (i < 1000)) (.ok (.int (i ^ j.toNat)))
  | _, _ => .no
def oNeg : PV -> R PV
  | .int i => .ok (.int (-i))
  | _ => .no
def oLt : PV -> PV -> R PV
  | .int i, .int j => .ok (.bl (decide (i < j)))
  | _, _ => .no
def oLe : PV -> PV -> R PV
  | .int i, .int j => .ok (.bl (decide (i <= j)))
  | _, _ => .no
def oGt : PV -> PV -> R PV
  | .int i, .int j => .ok (.bl (decide (j < i)))
  | _, _ => .no
def oGe : PV -> PV -> R PV
  | .int i, .int j => .ok (.bl (decide (j <= i)))
  | _, _ => .no
def Z50 : PV -> PV -> Bool
  | .non, .non => true | .non, .int _ => true | .int _, .non => true | .non, .bl _ => true | .bl _, .non => true | .non, .str _ => true | .str _, .non => true
  | .int _, .int _ => true | .bl _, .bl _ => true | .str _, .str _ => true
  | .int _, .str _ => true | .str _, .int _ => true | .bl _, .str _ => true | .str _, .bl _ => true
  | _, _ => false
def oEq : PV -> PV -> R PV
  | .lst xs, .lst ys => when (xs.all PV.flat && ys.all PV.flat) (.ok (.bl (eqds xs ys)))
  | .tup xs, .tup ys => when (xs.all PV.flat && ys.all PV.flat) (.ok (.bl (eqds xs ys)))
  | x, y => when (Z50 x y) (.ok (.bl (eqd x y)))
def oNe : PV -> PV -> R PV
  | .lst xs, .lst ys => when (xs.all PV.flat && ys.all PV.flat) (.ok (.bl (!eqds xs ys)))
  | .tup xs, .tup ys => when (xs.all PV.flat && ys.all PV.flat) (.ok (.bl (!eqds xs ys)))
  | x, y => when (Z50 x y) (.ok (.bl (!eqd x y)))
def inS (x y : Str) : Bool := !(Builtin.Str.occurrences y x 0 y.length 1).isEmpty
def oIn : PV -> PV -> R PV
  | x, .lst ys => when (x.flat && ys.all PV.flat) (.ok (.bl (ys.any fun y => eqd y x)))
  | x, .tup ys => when (x.flat && ys.all PV.flat) (.ok (.bl (ys.any fun y => eqd y x)))
  | x, .dct kvs => when (Z39 kvs x) (.ok (.bl (dget kvs x).isSome))
  | .str x, .str y => .ok (.bl (inS x y))
  | _, _ => .no
def oNotIn (x y : PV) : R PV := (oIn x y).bind fun
  | .bl b => .ok (.bl (!b))
  | _ => .no
def oIx : PV -> PV -> R PV
  | .lst xs, .int i => Z1b (atI xs i)
  | .tup xs, .int i => Z1b (atI xs i)
  | .str x, .int i => when (decide (x.length <= Zn)) ((Z1b (atI x.cps.toList i)).map fun c => .str ⟨#[c]⟩)
  | .dct kvs, k => when (Z39 kvs k) (Z1b (dget kvs k))
  | _, _ => .no
def cutS (x : Str) (lo hi : Option Int) : Str :=
  if ((Builtin.Str.strSliceIndices lo hi 1 x.length).length == x.length) = true then x else ⟨((Builtin.Str.strSliceIndices lo hi 1 x.length).filterMap (x.cps[·]?)).toArray⟩
def oCut (lo hi : Option Int) : PV -> R PV
  | .lst xs => .ok (.lst (cut xs lo hi))
  | .str x => when (decide (x.length <= Zn)) (.ok (.str (cutS x lo hi)))
  | _ => .no
def Z4w : PV -> R Bool
  | .non => .ok false
  | .bl b => .ok b
  | .int i => .ok (i != 0)
  | _ => .no
def asB : PV -> R Bool
  | .bl b => .ok b
  | _ => .no
def oNot (x : PV) : R PV := (asB x).map fun b => .bl (!b)
def fld (fs : List (Str × PV)) (f : Str) : Option PV := fs.lookup f
def oAttr (f : Str) : PV -> R PV
  | .ins _ fs => Z1b (fld fs f)
  | _ => .no
def cLen : List PV -> R PV
  | [.lst xs] => .ok (.int xs.length)
  | [.tup xs] => .ok (.int xs.length)
  | [.dct kvs] => .ok (.int kvs.length)
  | [.str x] => when (decide (x.length <= Zn)) (.ok (.int x.length))
  | _ => .no
inductive Kd where
  | non | bl | int | str | tup | lst | dct | own (c : Str)
  deriving DecidableEq, Repr
def kd : PV -> Kd
  | .non => .non | .bl _ => .bl | .int _ => .int | .str _ => .str | .tup _ => .tup | .lst _ => .lst | .dct _ => .dct | .ins c _ => .own c | .exc c => .own c
def Z1y : List PV -> R (List Bool)
  | [] => .ok []
  | .bl b :: r => (Z1y r).map (b :: ·)
  | _ => .no
def allB (xs : List PV) : R Bool := (Z1y xs).map fun bs => bs.all id
def cAll : List PV -> R PV
  | [.lst xs] => (allB xs).map .bl
  | _ => .no
def cInt : List PV -> R PV
  | [.bl b] => .ok (.int (b2i b))
  | [.int i] => .ok (.int i)
  | _ => .no
def Zaf : List PV -> R PV
  | [.lst xs] => .ok (.lst xs)
  | [.tup xs] => .ok (.lst xs)
  | _ => .no
def Z12 : List PV -> R (List Str)
  | [] => .ok []
  | .str x :: r => (Z12 r).map (x :: ·)
  | _ => .no
abbrev Env := List (Option PV)
abbrev Ev := Env -> R PV
abbrev Tv := Env -> R Bool
def eV (i : Nat) : Ev := fun s => match s[i]? with
  | some (some v) => .ok v
  | _ => .no
def eK (v : PV) : Ev := fun _ => .ok v
def e1 (f : PV -> R PV) (a : Ev) : Ev := fun s => (a s).bind f
def e2 (f : PV -> PV -> R PV) (a b : Ev) : Ev := fun s => (a s).bind fun x => (b s).bind fun y => f x y
def evs : List Ev -> Env -> R (List PV)
  | [], _ => .ok []
  | a :: r, s => (a s).bind fun x => (evs r s).map (x :: ·)
def eN (f : List PV -> R PV) (as : List Ev) : Ev := fun s => (evs as s).bind f
def eLst (as : List Ev) : Ev := fun s => (evs as s).map .lst
def eTup (as : List Ev) : Ev := fun s => (evs as s).map .tup
def eAnd (a b : Ev) : Ev := fun s => (a s).bind fun x => (asB x).bind fun t => if t then b s else .ok (.bl false)
def eIf (t : Tv) (a b : Ev) : Ev := fun s => (t s).bind fun c => if c then a s else b s
def asI : PV -> R (Option Int)
  | .int i => .ok (some i)
  | _ => .no
def Z1d (o : Option Ev) (s : Env) : R (Option Int) := match o with
  | none => .ok none
  | some l => (l s).bind asI
def eCut (lo hi : Option Ev) (a : Ev) : Ev := fun s => (a s).bind fun x => (Z1d lo s).bind fun l => (Z1d hi s).bind fun h => oCut l h x
def tE (a : Ev) : Tv := fun s => (a s).bind Z4w
def tAnd (a b : Tv) : Tv := fun s => (a s).bind fun t => if t then b s else .ok false
def tOr (a b : Tv) : Tv := fun s => (a s).bind fun t => if t then .ok true else b s
def tNot (a : Tv) : Tv := fun s => (a s).map (!·)
abbrev Iv := Env -> R (List PV)
def Z6u : PV -> R (List PV)
  | .lst xs => .ok xs
  | .tup xs => .ok xs
  | .str x => .ok (x.cps.toList.map fun c => .str ⟨#[c]⟩)
  | _ => .no
def iV (a : Ev) : Iv := fun s => (a s).bind Z6u
def Zi (a b c : Int) : List PV := if 0 < c then (List.range ((b - a + c - 1) / c).toNat).map fun (k : Nat) => PV.int (a + c * (k : Int)) else []
def rngV : PV -> PV -> PV -> R (List PV)
  | .int i, .int j, .int k => when (decide (0 < k) && decide (-1000000 < i) && decide (i < 1000000) && decide (-1000000 < j) && decide (j < 1000000) && decide (k < 1000000)) (.ok (Zi i j k))
  | _, _, _ => .no
def iR (a b c : Ev) : Iv := fun s => (a s).bind fun x => (b s).bind fun y => (c s).bind fun z => rngV x y z
def Zt (test : Tv) (elt : Ev) (s : Env) : List PV -> R (List PV)
  | [] => .ok []
  | x :: r => match test (s ++ [some x]) with
    | .ok true => (match elt (s ++ [some x]) with
      | .ok y => (Zt test elt s r).map (y :: ·)
      | _ => .no)
    | .ok false => Zt test elt s r
    | _ => .no
def tYes : Tv := fun _ => .ok true
def Z1g (it : Iv) (test : Tv) (elt : Ev) : Ev := fun s => (it s).bind fun xs => when (decide (xs.length < Zn)) ((Zt test elt s xs).map .lst)
inductive Out where
  | nx (s : Env) | ret (v : PV) | err (c : Str) (s : Env) | bk (s : Env) | ct (s : Env) | no
  deriving Repr
abbrev Sv := Env -> Out
def Z3p (a : Out) (f : Env -> Out) : Out := match a with
  | .nx s => f s
  | o => o
@[simp] theorem then_nx (s : Env) (f : Env -> Out) : Z3p (.nx s) f = f s := rfl
@[simp] theorem then_ret (v : PV) (f : Env -> Out) : Z3p (.ret v) f = .ret v := rfl
@[simp] theorem then_err (c : Str) (s : Env) (f : Env -> Out) : Z3p (.err c s) f = .err c s := rfl
@[simp] theorem then_bk (s : Env) (f : Env -> Out) : Z3p (.bk s) f = .bk s := rfl
@[simp] theorem then_ct (s : Env) (f : Env -> Out) : Z3p (.ct s) f = .ct s := rfl
@[simp] theorem then_no (f : Env -> Out) : Z3p .no f = .no := rfl
def on {α : Type} (r : R α) (s : Env) (f : α -> Out) : Out := match r with
  | .ok a => f a
  | .err c => .err c s
  | .no => .no
@[simp] theorem on_ok {α : Type} (a : α) (s : Env) (f : α -> Out) : on (.ok a) s f = f a := rfl
@[simp] theorem on_err {α : Type} (c : Str) (s : Env) (f : α -> Out) : on (.err c) s f = .err c s := rfl
@[simp] theorem on_no {α : Type} (s : Env) (f : α -> Out) : on (.no : R α) s f = .no := rfl
def sNx : Sv := .nx
def sSeq (a b : Sv) : Sv := fun s => Z3p (a s) b
def sSet (i : Nat) (e : Ev) : Sv := fun s => on (e s) s fun v => .nx (s.set i (some v))
def Z2s : List Nat -> List PV -> Env -> Env
  | i :: is, v :: vs, s => Z2s is vs (s.set i (some v))
  | _, _, s => s
def sUnp (is : List Nat) (e : Ev) : Sv := fun s => on (e s) s fun
  | .tup vs => if vs.length = is.length then .nx (Z2s is vs s) else .no
  | _ => .no
def sExp (e : Ev) : Sv := fun s => on (e s) s fun _ => .nx s
def sRet (e : Ev) : Sv := fun s => on (e s) s .ret
def sIf (t : Tv) (a b : Sv) : Sv := fun s => on (t s) s fun c => if c then a s else b s
def forL (body : PV -> Sv) : List PV -> Sv
  | [], s => .nx s
  | x :: r, s => match body x s with
    | .nx s' => forL body r s'
    | .ct s' => forL body r s'
    | .bk s' => .nx s'
    | o => o
def at_ (i : Nat) (body : Sv) : PV -> Sv := fun x s => body (s.set i (some x))
def sFor (it : Iv) (i : Nat) (body : Sv) : Sv := fun s => on (it s) s fun xs => forL (at_ i body) xs s
def Z41 (c : Str) : Sv := fun s => .err c s
def modAt (f : PV -> R PV) : Option Nat -> PV -> R PV
  | none, v => f v
  | some p, .lst xs => (Z1b xs[p]?).bind fun x => (f x).map fun y => .lst (xs.set p y)
  | some _, _ => .no
def sMod (i : Nat) (p : Option Nat) (f : Env -> PV -> R PV) : Sv := fun s => match s[i]? with
  | some (some v) => on (modAt (f s) p v) s fun w => .nx (s.set i (some w))
  | _ => .no
def Z36 (e : Ev) : Env -> PV -> R PV := fun s v => match v with
  | .lst xs => (e s).bind fun y => when (decide (xs.length < Zn)) (.ok (.lst (xs ++ [y])))
  | _ => .no
def fin : Out -> R PV
  | .ret v => .ok v
  | .nx _ => .ok .non
  | .err c _ => .err c
  | _ => .no
@[simp] theorem fin_ret (v : PV) : fin (.ret v) = .ok v := rfl
@[simp] theorem fin_nx (s : Env) : fin (.nx s) = .ok .non := rfl
@[simp] theorem fin_err (c : Str) (s : Env) : fin (.err c s) = .err c := rfl
@[simp] theorem fin_no : fin .no = .no := rfl
def start : Nat -> List PV -> Env
  | 0, _ => []
  | n + 1, [] => none :: start n []
  | n + 1, a :: r => some a :: start n r
def fn (n : Nat) (body : Sv) : List PV -> R PV := fun args => fin (body (start n args))
def mk (c : Str) (n : Nat) (fs : List (Str × Ev)) : List PV -> R PV := fun args => if args.length = n then
  (evs (fs.map (·.2)) (none :: args.map some)).map fun vs => .ins c ((fs.map (·.1)).zip vs) else .no
def oAtt (own : List Str) (f : Str) : PV -> R PV
  | .ins c fs => when (decide (c ∈ own)) (Z1b (fld fs f))
  | _ => .no
end B
namespace B
open PySem
theorem Z8b (i j : Int) : oAdd (.int i) (.int j) = .ok (.int (i + j)) := rfl
theorem Z86 (a b : Str) : oAdd (.str a) (.str b) = when (decide (a.length + b.length <= Zn)) (.ok (.str (a ++ b))) := rfl
theorem Z8l (a b : List PV) : oAdd (.lst a) (.lst b) = when (decide (a.length + b.length <= Zn)) (.ok (.lst (a ++ b))) := rfl
theorem Z81 (i j : Int) : oSub (.int i) (.int j) = .ok (.int (i - j)) := rfl
theorem Z82 (i j : Int) : oMul (.int i) (.int j) = when (cmul i j) (.ok (.int (i * j))) := rfl
theorem Z7l (a : Str) (k : Int) : oMul (.str a) (.int k) = when (decide (0 <= k) && decide (k <= 1000) && decide (a.length * k.toNat <= 1000)) (.ok (.str (repS a k.toNat))) := rfl
theorem Z7s (i j : Int) : oDiv (.int i) (.int j) = when (decide (0 < j) && decide (j < 1073741824)) (.ok (.int (i / j))) := rfl
theorem Z7u (i j : Int) : oMod (.int i) (.int j) = when (decide (0 < j)) (.ok (.int (i % j))) := rfl
theorem Z4i (i j : Int) : oPow (.int i) (.int j) = when (decide (0 <= j) && decide (j <= 1000) && decide (-1000 < i) && decide (i < 1000)) (.ok (.int (i ^ j.toNat))) := rfl
theorem Z7c (i : Int) : oNeg (.int i) = .ok (.int (-i)) := rfl
theorem Z9f (i j : Int) : oLt (.int i) (.int j) = .ok (.bl (decide (i < j))) := rfl
theorem Z9m (i j : Int) : oLe (.int i) (.int j) = .ok (.bl (decide (i <= j))) := rfl
theorem Z9v (i j : Int) : oGt (.int i) (.int j) = .ok (.bl (decide (j < i))) := rfl
theorem Z97 (i j : Int) : oGe (.int i) (.int j) = .ok (.bl (decide (j <= i))) := rfl
theorem Z9y (i j : Int) : oEq (.int i) (.int j) = .ok (.bl (i == j)) := rfl
theorem Z9g (i j : Str) : oEq (.str i) (.str j) = .ok (.bl (decide (i = j))) := rfl
theorem Z94 (i j : Str) : oNe (.str i) (.str j) = .ok (.bl (!decide (i = j))) := rfl
theorem Za1 (i j : List PV) : oNe (.lst i) (.lst j) = when (i.all PV.flat && j.all PV.flat) (.ok (.bl (!eqds i j))) := rfl
theorem Z9d (x : PV) (ys : List PV) : oIn x (.lst ys) = when (x.flat && ys.all PV.flat) (.ok (.bl (ys.any fun y => eqd y x))) := by cases x <;> rfl
theorem Z96 (xs : List PV) (i : Int) : oIx (.lst xs) (.int i) = Z1b (atI xs i) := rfl
theorem Z9w (xs : List PV) (i : Int) : oIx (.tup xs) (.int i) = Z1b (atI xs i) := rfl
theorem Z9a (x : Str) (i : Int) : oIx (.str x) (.int i) = when (decide (x.length <= Zn)) ((Z1b (atI x.cps.toList i)).map fun c => .str ⟨#[c]⟩) := rfl
theorem Z8j (lo hi : Option Int) (xs : List PV) : oCut lo hi (.lst xs) = .ok (.lst (cut xs lo hi)) := rfl
theorem Z8m (lo hi : Option Int) (x : Str) : oCut lo hi (.str x) = when (decide (x.length <= Zn)) (.ok (.str (cutS x lo hi))) := rfl
theorem Z7e (b : Bool) : Z4w (.bl b) = .ok b := rfl
theorem Z9t (i : Int) : asI (.int i) = .ok (some i) := rfl
theorem Zd5 (b : Bool) : asB (.bl b) = .ok b := rfl
theorem Z9c (b : Bool) : oNot (.bl b) = .ok (.bl (!b)) := rfl
theorem Z8d (xs : List PV) : cLen [.lst xs] = .ok (.int xs.length) := rfl
theorem Z7x (x : Str) : cLen [.str x] = when (decide (x.length <= Zn)) (.ok (.int x.length)) := rfl
theorem Z70 (xs : List PV) : cAll [.lst xs] = (allB xs).map .bl := rfl
theorem iV_eq (a : Ev) (s : Env) : iV a s = (a s).bind Z6u := rfl
theorem Z6i (xs : List PV) : Z6u (.lst xs) = .ok xs := rfl
theorem Z6e (x : Str) : Z6u (.str x) = .ok (x.cps.toList.map fun c => .str ⟨#[c]⟩) := rfl
theorem Z6v (a b c : Ev) (s : Env) : iR a b c s = (a s).bind fun x => (b s).bind fun y => (c s).bind fun z => rngV x y z := rfl
theorem Ze1 (i j k : Int) : rngV (.int i) (.int j) (.int k) = when (decide (0 < k) && decide (-1000000 < i) && decide (i < 1000000) && decide (-1000000 < j) && decide (j < 1000000) && decide (k < 1000000)) (.ok (Zi i j k)) := rfl
theorem Z1v {α : Type} (xs : List α) (k : Nat) : atI xs (k : Int) = xs[k]? := by
  unfold atI ixN
  rw [if_pos (by omega)]
  by_cases h : k < xs.length
  . rw [if_pos (by omega)]; simp
  . rw [if_neg (by omega)]
    simp; omega
theorem Zcq {α : Type} (xs : List α) (i : Int) (h0 : 0 <= i) (h1 : i < xs.length) : ∃ x, atI xs i = some x /\ x ∈ xs := by
  obtain ⟨k, rfl⟩ : ∃ k : Nat, i = k := ⟨i.toNat, by omega⟩
  have hk : k < xs.length := by omega
  exact ⟨xs[k], by rw [Z1v]; simp [hk], by simp⟩
theorem Z7w {body : PV -> Sv} (P : Nat -> Env -> Prop) : ∀ (xs : List PV) (s : Env) (n : Nat), P n s ->
    (∀ i x s, xs[i]? = some x -> P (n + i) s -> ∃ s', (body x s = .nx s' \/ body x s = .ct s') /\ P (n + i + 1) s') -> ∃ s', forL body xs s = .nx s' /\ P (n + xs.length) s'
  | [], s, n, h0, _ => ⟨s, rfl, h0⟩
  | x :: r, s, n, h0, hs => by
    obtain ⟨s1, h1, p1⟩ := hs 0 x s rfl h0
    obtain ⟨s2, h2, p2⟩ := Z7w P r s1 (n + 1) p1 (fun i y t hy pt => by
      have := hs (i + 1) y t (by simpa using hy) (by rw [show n + (i + 1) = n + 1 + i by omega]; exact pt)
      rw [show n + (i + 1) + 1 = n + 1 + i + 1 by omega] at this
      exact this)
    refine ⟨s2, ?_, by rw [show n + (x :: r).length = n + 1 + r.length by simp; omega]; exact p2⟩
    unfold forL
    rcases h1 with h1 | h1 <;> rw [h1] <;> exact h2
theorem Z6j {body : PV -> Sv} (P : Nat -> Env -> Prop) (xs : List PV) (s : Env) (h0 : P 0 s)
    (hs : ∀ i x s, xs[i]? = some x -> P i s -> ∃ s', (body x s = .nx s' \/ body x s = .ct s') /\ P (i + 1) s') : ∃ s', forL body xs s = .nx s' /\ P xs.length s' := by
  obtain ⟨s', h, p⟩ := Z7w P xs s 0 h0 (fun i x s hx p => by simpa using hs i x s hx (by simpa using p))
  exact ⟨s', h, by simpa using p⟩
theorem Z2d (a b : Int) : Zi a b 1 = (List.range (b - a).toNat).map fun (k : Nat) => PV.int (a + k) := by
  unfold Zi
  rw [if_pos (by decide)]
  have : (b - a + 1 - 1) / 1 = b - a := by omega
  rw [this]
  simp
theorem Z3q {a b c : Int} {i : Nat} {x : PV} (h : (Zi a b c)[i]? = some x) : x = .int (a + c * i) /\ i < ((b - a + c - 1) / c).toNat /\ 0 < c := by
  unfold Zi at h
  split at h
  . rename_i hc
    rw [List.getElem?_map] at h
    cases e : (List.range ((b - a + c - 1) / c).toNat)[i]? with
    | none => rw [e] at h; cases h
    | some k =>
      rw [e] at h
      have := List.getElem?_eq_some_iff.mp e
      obtain ⟨hk, hv⟩ := this
      rw [List.getElem_range] at hv
      subst hv
      cases h
      rw [List.length_range] at hk
      exact ⟨rfl, hk, hc⟩
  . simp at h
end B
namespace B
open PySem
theorem bz : type_of% (And.intro @fn.eq_1 <| And.intro @sSeq.eq_1 <| And.intro @sSet.eq_1 <| And.intro @sIf.eq_1 <| And.intro @sRet.eq_1 <| And.intro @sNx.eq_1 <| And.intro @sExp.eq_1 <| And.intro @Z41.eq_1 <| And.intro @sFor.eq_1 <| And.intro @tE.eq_1 <| And.intro @tAnd.eq_1 <| And.intro @tOr.eq_1 <| And.intro @tNot.eq_1 <| And.intro @e1.eq_1 <| And.intro @e2.eq_1 <| And.intro @eN.eq_1 <| And.intro @eV.eq_1 <| And.intro @eK.eq_1 <| And.intro @eLst.eq_1 <| And.intro @eTup.eq_1 <| And.intro @eAnd.eq_1 <| And.intro @eCut.eq_1 <| And.intro @Z1g.eq_1 <| And.intro @Z8b <| And.intro @Z86 <| And.intro @Z8l <| And.intro @Z81 <| And.intro @Z82 <| And.intro @Z7l <| And.intro @Z7s <| And.intro @Z7u <| And.intro @Z4i <| And.intro @Z7c <| And.intro @Z9f <| And.intro @Z9m <| And.intro @Z9v <| And.intro @Z97 <| And.intro @Z9y <| And.intro @Z9g <| And.intro @Z94 <| And.intro @Za1 <| And.intro @Z9d <| And.intro @Z96 <| And.intro @Z9w <| And.intro @Z9a <| And.intro @Z8j <| And.intro @Z8m <| And.intro @Z7e <| And.intro @Zd5 <| And.intro @Z9t <| And.intro @Z9c <| And.intro @Z8d <| And.intro @Z7x <| And.intro @Z70 <| And.intro @iV_eq <| And.intro @Z6i <| And.intro @Z6e <| And.intro @Z6v <| And.intro @R.bind_ok <| And.intro @R.map_ok <| And.intro @on_ok <| And.intro @on_err <| And.intro @on_no <| And.intro @then_nx <| And.intro @then_ret <| And.intro @then_err <| And.intro @then_no <| And.intro @fin_ret <| And.intro @fin_nx <| And.intro @fin_err <| And.intro @fin_no <| And.intro @ofOpt_some <| And.intro @when_true <| And.intro @List.map_cons.{0,0} <| And.intro @List.length_cons.{0} <| And.intro @List.length_nil.{0} <| And.intro @List.getElem?_cons_zero.{0} <| And.intro @List.getElem?_cons_succ.{0} <| And.intro @List.cons_append.{0} <| And.intro @List.nil_append.{0} <| And.intro @List.set_cons_zero.{0} <| And.intro @List.set_cons_succ.{0} <| And.intro @List.length_map.{0,0} <| And.intro @Bool.false_eq_true <| And.intro @Bool.and_true <| And.intro @Bool.true_and <| And.intro @Bool.not_true <| And.intro @Bool.not_false <| And.intro @Bool.false_and <| And.intro @Bool.and_false <| And.intro @Bool.true_or <| @Bool.false_or) := And.intro @fn.eq_1 <| And.intro @sSeq.eq_1 <| And.intro @sSet.eq_1 <| And.intro @sIf.eq_1 <| And.intro @sRet.eq_1 <| And.intro @sNx.eq_1 <| And.intro @sExp.eq_1 <| And.intro @Z41.eq_1 <| And.intro @sFor.eq_1 <| And.intro @tE.eq_1 <| And.intro @tAnd.eq_1 <| And.intro @tOr.eq_1 <| And.intro @tNot.eq_1 <| And.intro @e1.eq_1 <| And.intro @e2.eq_1 <| And.intro @eN.eq_1 <| And.intro @eV.eq_1 <| And.intro @eK.eq_1 <| And.intro @eLst.eq_1 <| And.intro @eTup.eq_1 <| And.intro @eAnd.eq_1 <| And.intro @eCut.eq_1 <| And.intro @Z1g.eq_1 <| And.intro @Z8b <| And.intro @Z86 <| And.intro @Z8l <| And.intro @Z81 <| And.intro @Z82 <| And.intro @Z7l <| And.intro @Z7s <| And.intro @Z7u <| And.intro @Z4i <| And.intro @Z7c <| And.intro @Z9f <| And.intro @Z9m <| And.intro @Z9v <| And.intro @Z97 <| And.intro @Z9y <| And.intro @Z9g <| And.intro @Z94 <| And.intro @Za1 <| And.intro @Z9d <| And.intro @Z96 <| And.intro @Z9w <| And.intro @Z9a <| And.intro @Z8j <| And.intro @Z8m <| And.intro @Z7e <| And.intro @Zd5 <| And.intro @Z9t <| And.intro @Z9c <| And.intro @Z8d <| And.intro @Z7x <| And.intro @Z70 <| And.intro @iV_eq <| And.intro @Z6i <| And.intro @Z6e <| And.intro @Z6v <| And.intro @R.bind_ok <| And.intro @R.map_ok <| And.intro @on_ok <| And.intro @on_err <| And.intro @on_no <| And.intro @then_nx <| And.intro @then_ret <| And.intro @then_err <| And.intro @then_no <| And.intro @fin_ret <| And.intro @fin_nx <| And.intro @fin_err <| And.intro @fin_no <| And.intro @ofOpt_some <| And.intro @when_true <| And.intro @List.map_cons.{0,0} <| And.intro @List.length_cons.{0} <| And.intro @List.length_nil.{0} <| And.intro @List.getElem?_cons_zero.{0} <| And.intro @List.getElem?_cons_succ.{0} <| And.intro @List.cons_append.{0} <| And.intro @List.nil_append.{0} <| And.intro @List.set_cons_zero.{0} <| And.intro @List.set_cons_succ.{0} <| And.intro @List.length_map.{0,0} <| And.intro @Bool.false_eq_true <| And.intro @Bool.and_true <| And.intro @Bool.true_and <| And.intro @Bool.not_true <| And.intro @Bool.not_false <| And.intro @Bool.false_and <| And.intro @Bool.and_false <| And.intro @Bool.true_or <| @Bool.false_or
end B
namespace B
open PySem
def abc : Str := Str.ofString "abcdefghijklmnopqrstuvwxyz"
theorem Z84 : Str.ofString "abcdefghijklmnopqrstuvwxyz" = abc := rfl
theorem Z9x : abc.length = 26 := by decide +kernel
theorem Z4p : decide (abc.length <= Zn) = true := by rw [Z9x]; decide
theorem Zc1 (i : Int) : ∃ c, atI abc.cps.toList (i % 26) = some c /\ c ∈ abc.cps.toList :=
  Zcq abc.cps.toList (i % 26) (by omega) (by have := Z9x; unfold Str.length at this; rw [Array.length_toList, this]; omega)
theorem Z18 (a b : Str) : (a ++ b).length = a.length + b.length := by
  show (a.cps ++ b.cps).size = _
  exact Array.size_append
theorem Z5n (x : Str) (n : Nat) : (repS x n).length = n * x.length := by
  unfold repS Str.length
  simp
theorem Z1n (c : Nat) : (⟨#[c]⟩ : Str).length = 1 := rfl
theorem cmul_r (x j : Int) (h : -18446744073709551616 < j) (h' : j < 18446744073709551616) : cmul x j = true := by unfold cmul; simp [h, h']
theorem Z7t (x j : Int) (h : -18446744073709551616 < x) (h' : x < 18446744073709551616) : cmul x j = true := by unfold cmul; simp [h, h']
theorem pos_ (j : Int) (h : 0 < j) : decide (0 < j) = true := decide_eq_true h
theorem yes {p : Prop} [Decidable p] (h : p) : decide p = true := decide_eq_true h
theorem nay {p : Prop} [Decidable p] (h : ¬ p) : decide p = false := decide_eq_false h
theorem fits {n : Nat} (h : n <= 100000) : decide (n <= Zn) = true := decide_eq_true (Nat.le_trans h (by decide))
theorem Z2g {a b : Int} (h : a = b) : (a == b) = true := by simp [h]
theorem Z2j {a b : Int} (h : ¬ a = b) : (a == b) = false := by simp [h]
theorem Z7i (i j k : Int) (hk : 0 < k) (hi : -1000000 < i) (hi' : i < 1000000) (hj : -1000000 < j) (hj' : j < 1000000) (hk' : k < 1000000) : rngV (.int i) (.int j) (.int k) = .ok (Zi i j k) := by
  rw [Ze1, yes hk, yes hi, yes hi', yes hj, yes hj', yes hk']
  rfl
theorem Z44 (i j : Int) (h1 : 0 <= j) (h2 : j <= 1000) (h3 : -1000 < i) (h4 : i < 1000) : oPow (.int i) (.int j) = .ok (.int (i ^ j.toNat)) := by
  rw [Z4i, yes h1, yes h2, yes h3, yes h4]
  rfl
end B
namespace B
open PySem PySem.Spec PyProof.Rows L2
abbrev MG := Str -> Option Value
def kPV : Key -> PV
  | .inl i => .int i
  | .inr x => .str x
def excO (a C : Addr) : Heap -> Prop := fun h => ∃ o, h.get? a = some o /\ o.cls = .ref C
def Sub (S H : Hp) : Prop := ∀ a o, S a = some o -> H a = some o
theorem Sub.refl {S : Hp} : Sub S S := fun _ _ e => e
theorem Sub.trans {S T U : Hp} (a : Sub S T) (b : Sub T U) : Sub S U := fun x o e => b x o (a x o e)
theorem Sub.none {S T : Hp} (h : Sub S T) {a : Addr} (e : T a = none) : S a = none := by
  cases q : S a with
  | none => rfl
  | some o => rw [h a o q] at e; cases e
structure Ext (S H S' H' : Hp) : Prop where
  h : Sub H H'
  s : Sub S S'
  sh : Sub S' H'
  n : ∀ a o, S' a = some o -> S a = some o \/ H a = none
theorem Ext.refl {S H : Hp} (h : Sub S H) : Ext S H S H := ⟨Sub.refl, Sub.refl, h, fun _ _ e => .inl e⟩
theorem Ext.trans {S H S1 H1 S2 H2 : Hp} (a : Ext S H S1 H1) (b : Ext S1 H1 S2 H2) : Ext S H S2 H2 :=
  ⟨a.h.trans b.h, a.s.trans b.s, b.sh, fun x o e => (b.n x o e).elim (a.n x o) fun z => .inr (a.h.none z)⟩
theorem Ext.new {S H : Hp} (h : Sub S H) {p : Addr} {o : HO} (hp : H p = none) : Ext S H (upd S p o) (upd H p o) := by
  have sp : S p = none := h.none hp
  refine ⟨fun a u e => ?_, fun a u e => ?_, fun a u e => ?_, fun a u e => ?_⟩
  . rw [Z8 (Z10 e hp)]; exact e
  . rw [Z8 (Z10 e sp)]; exact e
  . by_cases q : a = p
    . subst q; rw [Zg] at e ⊢; exact e
    . rw [Z8 q] at e ⊢; exact h a u e
  . by_cases q : a = p
    . subst q; exact .inr hp
    . rw [Z8 q] at e; exact .inl e
theorem Ext.own {S H : Hp} (h : Sub S H) {p : Addr} {o : HO} (hp : H p = none) : Ext S H S (upd H p o) :=
  ⟨fun a u e => by rw [Z8 (Z10 e hp)]; exact e, Sub.refl, fun a u e => by rw [Z8 (Z10 (h a u e) hp)]; exact h a u e, fun _ _ e => .inl e⟩
section
variable (mg : MG)
mutual
def Rep (S : Hp) : PV -> V -> Prop
  | .non, v => v = .non
  | .bl b, v => v = .bl b
  | .int i, v => v = .int i
  | .str x, v => v = .str x
  | .tup ys, v => ∃ a vs, v = .ref a /\ S a = some (.tup vs) /\ Reps S ys vs
  | .lst ys, v => ∃ a vs, v = .ref a /\ Rd S a (.lst vs) /\ Reps S ys vs
  | .dct kvs, v => ∃ a, v = .ref a /\ ((∃ ks, Rd S a (.dK ks) /\ RepK S kvs ks) \/ ∃ ts, Rd S a (.dT ts) /\ RepT S kvs ts)
  | .ins c gs, v => ∃ a C dx fs, v = .ref a /\ S a = some (.ins C dx fs) /\ S dx = some (.own a) /\ mg c = some (.ref C) /\ RepF S gs fs
  | .exc c, v => ∃ a C, v = .ref a /\ mg c = some (.ref C) /\ S a = some (.ext (excO a C))
def Reps (S : Hp) : List PV -> List V -> Prop
  | [], vs => vs = []
  | y :: ys, vs => ∃ v r, vs = v :: r /\ Rep S y v /\ Reps S ys r
def RepK (S : Hp) : List (PV × PV) -> List (Key × V) -> Prop
  | [], ks => ks = []
  | (p, y) :: r, ks => ∃ k v r', ks = (k, v) :: r' /\ p = kPV k /\ Rep S y v /\ RepK S r r'
def RepT (S : Hp) : List (PV × PV) -> List (List Key × V) -> Prop
  | [], ks => ks = []
  | (p, y) :: r, ks => ∃ k v r', ks = (k, v) :: r' /\ p = .tup (k.map kPV) /\ Rep S y v /\ RepT S r r'
def RepF (S : Hp) : List (Str × PV) -> List (Str × V) -> Prop
  | [], fs => fs = []
  | (f, y) :: r, fs => ∃ v r', fs = (f, v) :: r' /\ Rep S y v /\ RepF S r r'
end
end
theorem Rd.mono {S S' : Hp} (h : Sub S S') {a : Addr} {u : HO} (r : Rd S a u) : Rd S' a u := by
  rcases r with e | ⟨o, e⟩
  . exact .inl (h _ _ e)
  . exact .inr ⟨o, h _ _ e⟩
section
variable {mg : MG} {S S' : Hp}
mutual
theorem Rep.mono (h : Sub S S') : ∀ {y : PV} {v : V}, Rep mg S y v -> Rep mg S' y v
  | .non, v, r => r
  | .bl _, v, r => r
  | .int _, v, r => r
  | .str _, v, r => r
  | .tup ys, v, r => by
    simp only [Rep] at r ⊢
    obtain ⟨a, vs, e, q, z⟩ := r
    exact ⟨a, vs, e, h _ _ q, Reps.mono h z⟩
  | .lst ys, v, r => by
    simp only [Rep] at r ⊢
    obtain ⟨a, vs, e, q, z⟩ := r
    exact ⟨a, vs, e, Rd.mono h q, Reps.mono h z⟩
  | .dct kvs, v, r => by
    simp only [Rep] at r ⊢
    obtain ⟨a, e, ⟨ks, q, z⟩ | ⟨ks, q, z⟩⟩ := r
    . exact ⟨a, e, .inl ⟨ks, Rd.mono h q, RepK.mono h z⟩⟩
    . exact ⟨a, e, .inr ⟨ks, Rd.mono h q, RepT.mono h z⟩⟩
  | .ins c gs, v, r => by
    simp only [Rep] at r ⊢
    obtain ⟨a, C, dx, fs, e, q, q2, m, z⟩ := r
    exact ⟨a, C, dx, fs, e, h _ _ q, h _ _ q2, m, RepF.mono h z⟩
  | .exc c, v, r => by
    simp only [Rep] at r ⊢
    obtain ⟨a, C, e, m, q⟩ := r
    exact ⟨a, C, e, m, h _ _ q⟩
theorem Reps.mono (h : Sub S S') : ∀ {ys : List PV} {vs : List V}, Reps mg S ys vs -> Reps mg S' ys vs
  | [], vs, r => r
  | y :: ys, vs, ⟨v, r, e, r1, r2⟩ => ⟨v, r, e, Rep.mono h r1, Reps.mono h r2⟩
theorem RepK.mono (h : Sub S S') : ∀ {ys : List (PV × PV)} {vs : List (Key × V)}, RepK mg S ys vs -> RepK mg S' ys vs
  | [], vs, r => r
  | (p, y) :: ys, vs, ⟨k, v, r, e, ep, r1, r2⟩ => ⟨k, v, r, e, ep, Rep.mono h r1, RepK.mono h r2⟩
theorem RepT.mono (h : Sub S S') : ∀ {ys : List (PV × PV)} {vs : List (List Key × V)}, RepT mg S ys vs -> RepT mg S' ys vs
  | [], vs, r => r
  | (p, y) :: ys, vs, ⟨k, v, r, e, ep, r1, r2⟩ => ⟨k, v, r, e, ep, Rep.mono h r1, RepT.mono h r2⟩
theorem RepF.mono (h : Sub S S') : ∀ {ys : List (Str × PV)} {vs : List (Str × V)}, RepF mg S ys vs -> RepF mg S' ys vs
  | [], vs, r => r
  | (p, y) :: ys, vs, ⟨v, r, e, r1, r2⟩ => ⟨v, r, e, Rep.mono h r1, RepF.mono h r2⟩
end
theorem Reps.length : ∀ {ys : List PV} {vs : List V}, Reps mg S ys vs -> ys.length = vs.length
  | [], _, r => by cases (show _ = [] from r); rfl
  | y :: ys, _, ⟨v, r, e, _, t⟩ => by rw [e]; simp [Reps.length t]
theorem Reps.get : ∀ {ys : List PV} {vs : List V} {i : Nat} {y : PV}, Reps mg S ys vs -> ys[i]? = some y -> ∃ v, vs[i]? = some v /\ Rep mg S y v
  | [], _, i, y, _, e => by simp at e
  | y :: ys, _, 0, z, ⟨v, r, e, q, _⟩, h => by simp at h; subst h; rw [e]; exact ⟨v, rfl, q⟩
  | y :: ys, _, i + 1, z, ⟨v, r, e, _, t⟩, h => by
    obtain ⟨u, h1, h2⟩ := Reps.get (i := i) t (by simpa using h)
    rw [e]; exact ⟨u, by simpa using h1, h2⟩
theorem Reps.append : ∀ {ys zs : List PV} {vs us : List V}, Reps mg S ys vs -> Reps mg S zs us -> Reps mg S (ys ++ zs) (vs ++ us)
  | [], _, _, _, r, q => by cases (show _ = [] from r); exact q
  | y :: ys, _, _, _, ⟨v, r, e, h, t⟩, q => by subst e; exact ⟨v, _, rfl, h, Reps.append t q⟩
theorem Reps.take : ∀ {ys : List PV} {vs : List V} (n : Nat), Reps mg S ys vs -> Reps mg S (ys.take n) (vs.take n)
  | [], _, n, r => by cases (show _ = [] from r); simp [Reps]
  | y :: ys, _, 0, _ => rfl
  | y :: ys, _, n + 1, ⟨v, r, e, h, t⟩ => by subst e; exact ⟨v, _, rfl, h, Reps.take n t⟩
theorem Reps.drop : ∀ {ys : List PV} {vs : List V} (n : Nat), Reps mg S ys vs -> Reps mg S (ys.drop n) (vs.drop n)
  | [], _, n, r => by cases (show _ = [] from r); simp [Reps]
  | y :: ys, _, 0, r => r
  | y :: ys, _, n + 1, ⟨v, r, e, h, t⟩ => by subst e; exact Reps.drop n t
end
inductive Own where
  | s | o (cs : List Own)
section
variable (mg : MG) (S H : Hp)
mutual
def OwnR : Own -> PV -> V -> List Addr -> Prop
  | .s, y, v, as => as = [] /\ Rep mg S y v
  | .o cs, y, v, as => match y with
    | .lst ys => ∃ a vs rest, v = .ref a /\ H a = some (.lst vs) /\ Zu cs ys vs rest /\ as = a :: rest
    | .dct kvs => ∃ a, v = .ref a /\ as = [a] /\ ((∃ ks, H a = some (.dK ks) /\ RepK mg S kvs ks) \/ ∃ ts, H a = some (.dT ts) /\ RepT mg S kvs ts)
    | y => as = [] /\ Rep mg S y v
def Zu : List Own -> List PV -> List V -> List Addr -> Prop
  | [], ys, vs, as => as = [] /\ Reps mg S ys vs
  | c :: cs, ys, vs, as => match ys with
    | [] => vs = [] /\ as = []
    | y :: ys => ∃ v r a1 a2, vs = v :: r /\ OwnR c y v a1 /\ Zu cs ys r a2 /\ as = a1 ++ a2
end
end
section
variable {mg : MG} {S S' H H' : Hp}
mutual
theorem OwnR.keep (hs : Sub S S') : ∀ {o : Own} {y : PV} {v : V} {as : List Addr}, OwnR mg S H o y v as -> (∀ a ∈ as, ∀ u, H a = some u -> H' a = some u) -> OwnR mg S' H' o y v as
  | .s, y, v, as, ⟨e, r⟩, _ => ⟨e, r.mono hs⟩
  | .o cs, y, v, as, r, hh => by
    cases y with
    | lst ys =>
      obtain ⟨a, vs, rest, e, q, z, w⟩ := (show ∃ a vs rest, v = .ref a /\ H a = some (.lst vs) /\ Zu mg S H cs ys vs rest /\ as = a :: rest from r)
      subst w
      exact ⟨a, vs, rest, e, hh a (by simp) _ q, Zu.keep hs z (fun b m => hh b (List.mem_cons_of_mem _ m)), rfl⟩
    | dct kvs =>
      obtain ⟨a, e, w, z⟩ := (show ∃ a, v = .ref a /\ as = [a] /\ ((∃ ks, H a = some (.dK ks) /\ RepK mg S kvs ks) \/ ∃ ts, H a = some (.dT ts) /\ RepT mg S kvs ts) from r)
      subst w
      refine ⟨a, e, rfl, ?_⟩
      rcases z with ⟨ks, q, z⟩ | ⟨ks, q, z⟩
      . exact .inl ⟨ks, hh a (by simp) _ q, z.mono hs⟩
      . exact .inr ⟨ks, hh a (by simp) _ q, z.mono hs⟩
    | non => exact ⟨r.1, r.2.mono hs⟩
    | bl b => exact ⟨r.1, r.2.mono hs⟩
    | int b => exact ⟨r.1, r.2.mono hs⟩
    | str b => exact ⟨r.1, r.2.mono hs⟩
    | tup b => exact ⟨r.1, r.2.mono hs⟩
    | ins b c => exact ⟨r.1, r.2.mono hs⟩
    | exc b => exact ⟨r.1, r.2.mono hs⟩
theorem Zu.keep (hs : Sub S S') : ∀ {os : List Own} {ys : List PV} {vs : List V} {as : List Addr}, Zu mg S H os ys vs as -> (∀ a ∈ as, ∀ u, H a = some u -> H' a = some u) -> Zu mg S' H' os ys vs as
  | [], ys, vs, as, ⟨e, r⟩, _ => ⟨e, r.mono hs⟩
  | c :: cs, [], vs, as, r, _ => r
  | c :: cs, y :: ys, vs, as, ⟨v, r, a1, a2, e, q, z, w⟩, hh => by
    subst w
    exact ⟨v, r, a1, a2, e, OwnR.keep hs q (fun a m => hh a (List.mem_append_left _ m)), Zu.keep hs z (fun a m => hh a (List.mem_append_right _ m)), rfl⟩
end
theorem OwnR.mono (hs : Sub S S') (hh : Sub H H') {o : Own} {y : PV} {v : V} {as : List Addr} (r : OwnR mg S H o y v as) : OwnR mg S' H' o y v as := r.keep hs fun a _ u e => hh a u e
mutual
theorem OwnR.there : ∀ {o : Own} {y : PV} {v : V} {as : List Addr}, OwnR mg S H o y v as -> ∀ a ∈ as, ∃ u, H a = some u
  | .s, y, v, as, ⟨e, r⟩, a, ha => by subst e; cases ha
  | .o cs, y, v, as, r, a, ha => by
    cases y with
    | lst ys =>
      obtain ⟨b, vs, rest, e, q, z, w⟩ := (show ∃ a vs rest, v = .ref a /\ H a = some (.lst vs) /\ Zu mg S H cs ys vs rest /\ as = a :: rest from r)
      subst w
      rcases List.mem_cons.mp ha with rfl | ha
      . exact ⟨_, q⟩
      . exact Zu.there z a ha
    | dct kvs =>
      obtain ⟨b, e, w, z⟩ := (show ∃ a, v = .ref a /\ as = [a] /\ ((∃ ks, H a = some (.dK ks) /\ RepK mg S kvs ks) \/ ∃ ts, H a = some (.dT ts) /\ RepT mg S kvs ts) from r)
      subst w
      rcases List.mem_cons.mp ha with rfl | ha
      . rcases z with ⟨ks, q, z⟩ | ⟨ks, q, z⟩ <;> exact ⟨_, q⟩
      . cases ha
    | non => rw [r.1] at ha; cases ha
    | bl b => rw [r.1] at ha; cases ha
    | int b => rw [r.1] at ha; cases ha
    | str b => rw [r.1] at ha; cases ha
    | tup b => rw [r.1] at ha; cases ha
    | ins b c => rw [r.1] at ha; cases ha
    | exc b => rw [r.1] at ha; cases ha
theorem Zu.there : ∀ {os : List Own} {ys : List PV} {vs : List V} {as : List Addr}, Zu mg S H os ys vs as -> ∀ a ∈ as, ∃ u, H a = some u
  | [], ys, vs, as, ⟨e, r⟩, a, ha => by subst e; cases ha
  | c :: cs, [], vs, as, r, a, ha => by rw [r.2] at ha; cases ha
  | c :: cs, y :: ys, vs, as, ⟨v, r, a1, a2, e, q, z, w⟩, a, ha => by
    subst w
    rcases List.mem_append.mp ha with h | h
    . exact OwnR.there q a h
    . exact Zu.there z a h
end
mutual
theorem OwnR.rep (hs : Sub S S') : ∀ {o : Own} {y : PV} {v : V} {as : List Addr}, OwnR mg S H o y v as -> (∀ a ∈ as, ∀ u, H a = some u -> S' a = some u) -> Rep mg S' y v
  | .s, y, v, as, ⟨e, r⟩, _ => r.mono hs
  | .o cs, y, v, as, r, ha => by
    cases y with
    | lst ys =>
      obtain ⟨b, vs, rest, e, q, z, w⟩ := (show ∃ a vs rest, v = .ref a /\ H a = some (.lst vs) /\ Zu mg S H cs ys vs rest /\ as = a :: rest from r)
      subst w
      simp only [Rep]
      exact ⟨b, vs, e, .inl (ha b (by simp) _ q), Zu.rep hs z fun a m u e => ha a (List.mem_cons_of_mem _ m) u e⟩
    | dct kvs =>
      obtain ⟨b, e, w, z⟩ := (show ∃ a, v = .ref a /\ as = [a] /\ ((∃ ks, H a = some (.dK ks) /\ RepK mg S kvs ks) \/ ∃ ts, H a = some (.dT ts) /\ RepT mg S kvs ts) from r)
      subst w
      simp only [Rep]
      refine ⟨b, e, ?_⟩
      rcases z with ⟨ks, q, z⟩ | ⟨ks, q, z⟩
      . exact .inl ⟨ks, .inl (ha b (by simp) _ q), z.mono hs⟩
      . exact .inr ⟨ks, .inl (ha b (by simp) _ q), z.mono hs⟩
    | non => exact r.2.mono hs
    | bl b => exact r.2.mono hs
    | int b => exact r.2.mono hs
    | str b => exact r.2.mono hs
    | tup b => exact r.2.mono hs
    | ins b c => exact r.2.mono hs
    | exc b => exact r.2.mono hs
theorem Zu.rep (hs : Sub S S') : ∀ {os : List Own} {ys : List PV} {vs : List V} {as : List Addr}, Zu mg S H os ys vs as -> (∀ a ∈ as, ∀ u, H a = some u -> S' a = some u) -> Reps mg S' ys vs
  | [], ys, vs, as, ⟨e, r⟩, _ => r.mono hs
  | c :: cs, [], vs, as, r, _ => r.1
  | c :: cs, y :: ys, vs, as, ⟨v, r, a1, a2, e, q, z, w⟩, ha => by
    subst w
    exact ⟨v, r, e, OwnR.rep hs q fun a m => ha a (List.mem_append_left _ m), Zu.rep hs z fun a m => ha a (List.mem_append_right _ m)⟩
end
end
theorem Zu.length {mg : MG} {S H : Hp} : ∀ {os : List Own} {ys : List PV} {vs : List V} {as : List Addr}, Zu mg S H os ys vs as -> ys.length = vs.length
  | [], ys, vs, as, h => Reps.length h.2
  | c :: cs, [], vs, as, h => by rw [h.1]; rfl
  | c :: cs, y :: ys, vs, as, ⟨v, r, a1, a2, e, q, z, w⟩ => by rw [e]; simp [Zu.length z]
theorem RepK.length {mg : MG} {S : Hp} : ∀ {ys : List (PV × PV)} {vs : List (Key × V)}, RepK mg S ys vs -> ys.length = vs.length
  | [], _, r => by cases (show _ = [] from r); rfl
  | (_, _) :: _, _, ⟨_, _, _, e, _, _, t⟩ => by rw [e]; simp [RepK.length t]
theorem RepT.length {mg : MG} {S : Hp} : ∀ {ys : List (PV × PV)} {vs : List (List Key × V)}, RepT mg S ys vs -> ys.length = vs.length
  | [], _, r => by cases (show _ = [] from r); rfl
  | (_, _) :: _, _, ⟨_, _, _, e, _, _, t⟩ => by rw [e]; simp [RepT.length t]
end B
namespace B
open PySem PySem.Spec PyProof.Rows L2
section
variable (mg : MG) (S H : Hp)
def Slot (g : Own) (e : Option PV) (v : Option V) (as : List Addr) : Prop := match e with
  | none => as = []
  | some y => ∃ u, v = some u /\ OwnR mg S H g y u as
def Zr : List Own -> Env -> L2.St -> List Addr -> Prop
  | [], env, σ, as => env = [] /\ σ = [] /\ as = []
  | g :: Γ, env, σ, as => ∃ e er v r a1 a2, env = e :: er /\ σ = v :: r /\ as = a1 ++ a2 /\ Slot mg S H g e v a1 /\ Zr Γ er r a2
end
section
variable {mg : MG} {S S' H H' : Hp}
theorem Slot.keep (hs : Sub S S') {g : Own} {e : Option PV} {v : Option V} {as : List Addr} (h : Slot mg S H g e v as) (hh : ∀ a ∈ as, ∀ u, H a = some u -> H' a = some u) : Slot mg S' H' g e v as := by
  cases e with
  | none => exact h
  | some y => obtain ⟨u, e, q⟩ := h; exact ⟨u, e, q.keep hs hh⟩
theorem Zr.keep (hs : Sub S S') : ∀ {Γ : List Own} {env : Env} {σ : L2.St} {as : List Addr}, Zr mg S H Γ env σ as -> (∀ a ∈ as, ∀ u, H a = some u -> H' a = some u) -> Zr mg S' H' Γ env σ as
  | [], _, _, _, h, _ => h
  | g :: Γ, _, _, _, ⟨e, er, v, r, a1, a2, h1, h2, h3, q, t⟩, hh => ⟨e, er, v, r, a1, a2, h1, h2, h3, q.keep hs (fun a m => hh a (by rw [h3]; exact List.mem_append_left _ m)), Zr.keep hs t (fun a m => hh a (by rw [h3]; exact List.mem_append_right _ m))⟩
theorem Slot.there {g : Own} {e : Option PV} {v : Option V} {as : List Addr} (h : Slot mg S H g e v as) : ∀ a ∈ as, ∃ u, H a = some u := by
  cases e with
  | none => intro a ha; rw [show as = [] from h] at ha; cases ha
  | some y => obtain ⟨u, e, q⟩ := h; exact q.there
theorem Zr.there : ∀ {Γ : List Own} {env : Env} {σ : L2.St} {as : List Addr}, Zr mg S H Γ env σ as -> ∀ a ∈ as, ∃ u, H a = some u
  | [], _, _, _, h, a, ha => by rw [h.2.2] at ha; cases ha
  | g :: Γ, _, _, _, ⟨e, er, v, r, a1, a2, h1, h2, h3, q, t⟩, a, ha => by
    rw [h3] at ha
    rcases List.mem_append.mp ha with z | z
    . exact q.there a z
    . exact Zr.there t a z
theorem Zr.at : ∀ {Γ : List Own} {env : Env} {σ : L2.St} {as : List Addr} {i : Nat} {g : Own}, Zr mg S H Γ env σ as -> Γ[i]? = some g ->
    ∃ e v l1 ai l2, env[i]? = some e /\ σ[i]? = some v /\ as = l1 ++ ai ++ l2 /\ Slot mg S H g e v ai /\
      (∀ (S' H' : Hp) (g' : Own) (e' : Option PV) (v' : Option V) (ai' : List Addr), Sub S S' -> (∀ a ∈ l1 ++ l2, ∀ u, H a = some u -> H' a = some u) -> Slot mg S' H' g' e' v' ai' -> Zr mg S' H' (Γ.set i g') (env.set i e') (σ.set i v') (l1 ++ ai' ++ l2))
  | [], _, _, _, _, _, _, h => by simp at h
  | g0 :: Γ, _, _, _, 0, g, ⟨e, er, v, r, a1, a2, h1, h2, h3, q, t⟩, h => by
    simp at h; subst h
    refine ⟨e, v, [], a1, a2, by rw [h1]; rfl, by rw [h2]; rfl, by simpa using h3, q, fun S' H' g' e' v' ai' hs hh q' => ?_⟩
    rw [h1, h2]
    exact ⟨e', er, v', r, ai', a2, rfl, rfl, by simp, q', Zr.keep hs t (fun a m u z => hh a (by simpa using m) u z)⟩
  | g0 :: Γ, _, _, _, i + 1, g, ⟨e, er, v, r, a1, a2, h1, h2, h3, q, t⟩, h => by
    obtain ⟨e2, v2, l1, ai, l2, k1, k2, k3, k4, k5⟩ := Zr.at (i := i) t (by simpa using h)
    refine ⟨e2, v2, a1 ++ l1, ai, l2, by rw [h1]; simpa using k1, by rw [h2]; simpa using k2, by rw [h3, k3]; simp, k4, fun S' H' g' e' v' ai' hs hh q' => ?_⟩
    rw [h1, h2]
    refine ⟨e, er.set i e', v, r.set i v', a1, l1 ++ ai' ++ l2, rfl, rfl, by simp, ?_, k5 S' H' g' e' v' ai' hs (fun a m u z => hh a (by rw [List.append_assoc]; exact List.mem_append_right _ m) u z) q'⟩
    exact Slot.keep hs q (fun a m u z => hh a (by rw [List.append_assoc]; exact List.mem_append_left _ m) u z)
inductive LeO : List Own -> List Own -> Prop where
  | nil : LeO [] []
  | same {g : Own} {Γ' Γ : List Own} : LeO Γ' Γ -> LeO (g :: Γ') (g :: Γ)
  | drop {g : Own} {Γ' Γ : List Own} : LeO Γ' Γ -> LeO (.s :: Γ') (g :: Γ)
theorem Zr.weak : ∀ {Γ' Γ : List Own} {env : Env} {σ : L2.St} {as : List Addr}, LeO Γ' Γ -> Zr mg S H Γ env σ as -> as.Nodup ->
    ∃ ks ds : List Addr, ks.Nodup /\ (∀ a ∈ ks, a ∈ as /\ a ∉ ds) /\ (∀ a ∈ ds, a ∈ as) /\ ∀ S', Sub S S' -> (∀ a ∈ ds, ∀ u, H a = some u -> S' a = some u) -> Zr mg S' H Γ' env σ ks
  | [], [], _, _, _, .nil, h, _ => ⟨[], [], List.nodup_nil, (fun a m => by cases m), (fun a m => by cases m), fun S' _ _ => ⟨h.1, h.2.1, rfl⟩⟩
  | g :: Γ', _ :: Γ, _, _, _, .same l, ⟨e, er, v, r, a1, a2, h1, h2, h3, q, t⟩, nd => by
    subst h3
    obtain ⟨n1, n2, n3⟩ := List.nodup_append.mp nd
    obtain ⟨ks, ds, k1, k2, k3, k4⟩ := Zr.weak l t n2
    refine ⟨a1 ++ ks, ds, List.nodup_append.mpr ⟨n1, k1, fun a m b m' => n3 a m b (k2 b m').1⟩, fun a m => ?_, fun a m => List.mem_append_right _ (k3 a m), fun S' hs hd => ⟨e, er, v, r, a1, ks, h1, h2, rfl, q.keep hs fun _ _ _ z => z, k4 S' hs hd⟩⟩
    rcases List.mem_append.mp m with z | z
    . exact ⟨List.mem_append_left _ z, fun y => n3 a z a (k3 a y) rfl⟩
    . exact ⟨List.mem_append_right _ (k2 a z).1, (k2 a z).2⟩
  | _ :: Γ', g :: Γ, _, _, _, .drop l, ⟨e, er, v, r, a1, a2, h1, h2, h3, q, t⟩, nd => by
    subst h3
    obtain ⟨n1, n2, n3⟩ := List.nodup_append.mp nd
    obtain ⟨ks, ds, k1, k2, k3, k4⟩ := Zr.weak l t n2
    refine ⟨ks, a1 ++ ds, k1, fun a m => ⟨List.mem_append_right _ (k2 a m).1, fun y => ?_⟩, fun a m => ?_, fun S' hs hd => ⟨e, er, v, r, [], ks, h1, h2, rfl, ?_, k4 S' hs fun a m => hd a (List.mem_append_right _ m)⟩⟩
    . rcases List.mem_append.mp y with z | z
      . exact n3 a z a (k2 a m).1 rfl
      . exact (k2 a m).2 z
    . rcases List.mem_append.mp m with z | z
      . exact List.mem_append_left _ z
      . exact List.mem_append_right _ (k3 a z)
    . cases e with
      | none => rfl
      | some y =>
        obtain ⟨u, eu, z⟩ := q
        exact ⟨u, eu, rfl, z.rep hs fun a m => hd a (List.mem_append_left _ m)⟩
structure Rel (mg : MG) (S₀ H₀ : Hp) (Γ : List Own) (env : Env) (σ : L2.St) (S H : Hp) : Prop where
  ext : Ext S₀ H₀ S H
  own : ∃ as, Zr mg S H Γ env σ as /\ as.Nodup /\ ∀ a ∈ as, S a = none /\ H₀ a = none
variable {S₀ H₀ : Hp} {Γ Γ' : List Own} {env : Env} {σ : L2.St}
theorem Rel.grow (r : Rel mg S₀ H₀ Γ env σ S H) (x : Ext S H S' H') : Rel mg S₀ H₀ Γ env σ S' H' := by
  obtain ⟨as, sl, nd, fr⟩ := r.own
  refine ⟨r.ext.trans x, as, sl.keep x.s fun a _ u e => x.h a u e, nd, fun a m => ⟨?_, (fr a m).2⟩⟩
  cases q : S' a with
  | none => rfl
  | some o =>
    rcases x.n a o q with z | z
    . rw [(fr a m).1] at z; cases z
    . obtain ⟨u, hu⟩ := sl.there a m
      rw [z] at hu; cases hu
theorem Rel.weak (r : Rel mg S₀ H₀ Γ env σ S H) (l : LeO Γ' Γ) : ∃ S', Sub S S' /\ Rel mg S₀ H₀ Γ' env σ S' H := by
  obtain ⟨as, sl, nd, fr⟩ := r.own
  obtain ⟨ks, ds, k1, k2, k3, k4⟩ := sl.weak l nd
  refine ⟨fun a => if a ∈ ds then H a else S a, fun a o e => ?_, ⟨r.ext.h, fun a o e => ?_, fun a o e => ?_, fun a o e => ?_⟩, ks, k4 _ (fun a o e => ?_) (fun a m u e => ?_), k1, fun a m => ⟨?_, (fr a (k2 a m).1).2⟩⟩
  . show (if a ∈ ds then H a else S a) = some o
    split
    . exact r.ext.sh a o e
    . exact e
  . have e := r.ext.s a o e
    show (if a ∈ ds then H a else S a) = some o
    split
    . exact r.ext.sh a o e
    . exact e
  . have e : (if a ∈ ds then H a else S a) = some o := e
    split at e
    . exact e
    . exact r.ext.sh a o e
  . have e : (if a ∈ ds then H a else S a) = some o := e
    split at e
    . rename_i h
      exact .inr (fr a (k3 a h)).2
    . exact r.ext.n a o e
  . show (if a ∈ ds then H a else S a) = some o
    split
    . exact r.ext.sh a o e
    . exact e
  . show (if a ∈ ds then H a else S a) = some u
    rw [if_pos m]; exact e
  . show (if a ∈ ds then H a else S a) = none
    rw [if_neg (k2 a m).2]
    exact (fr a (k2 a m).1).1
theorem Rel.shared (r : Rel mg S₀ H₀ Γ env σ S H) {i : Nat} {y : PV} (hg : Γ[i]? = some .s) (he : env[i]? = some (some y)) : ∃ v, σ[i]? = some (some v) /\ Rep mg S y v := by
  obtain ⟨as, sl, _, _⟩ := r.own
  obtain ⟨e, v, l1, ai, l2, k1, k2, _, k4, _⟩ := sl.at hg
  rw [he] at k1
  cases k1
  obtain ⟨u, rfl, _, q⟩ := k4
  exact ⟨u, k2, q⟩
theorem Rel.store (r : Rel mg S₀ H₀ Γ env σ S H) (x : Ext S H S' H') {i : Nat} {g g' : Own} (hg : Γ[i]? = some g) {y : PV} {v : V} {as : List Addr} (q : OwnR mg S' H' g' y v as) (nd : as.Nodup) (fr : ∀ a ∈ as, H a = none /\ S' a = none) :
    Rel mg S₀ H₀ (Γ.set i g') (env.set i (some y)) (σ.set i (some v)) S' H' := by
  obtain ⟨es, sl0, ne, fe⟩ := r.own
  have sl : Zr mg S' H' Γ env σ es := sl0.keep x.s fun a _ u e => x.h a u e
  have old : ∀ a ∈ es, ∃ u, H a = some u := sl0.there
  have oldS : ∀ a ∈ es, S' a = none := fun a m => by
    cases z : S' a with
    | none => rfl
    | some o =>
      rcases x.n a o z with w | w
      . rw [(fe a m).1] at w; cases w
      . obtain ⟨u, hu⟩ := old a m
        rw [w] at hu; cases hu
  obtain ⟨e, w, l1, ai, l2, k1, k2, k3, k4, k5⟩ := sl.at hg
  have apart : ∀ a ∈ as, a ∉ es := fun a m z => by
    obtain ⟨u, hu⟩ := old a z
    rw [(fr a m).1] at hu; cases hu
  refine ⟨r.ext.trans x, l1 ++ as ++ l2, k5 S' H' g' (some y) (some v) as Sub.refl (fun a _ u e => e) ⟨v, rfl, q⟩, ?_, fun a m => ?_⟩
  . rw [k3] at ne
    obtain ⟨n1, n2, n3⟩ := List.nodup_append.mp ne
    obtain ⟨n4, n5, n6⟩ := List.nodup_append.mp n1
    refine List.nodup_append.mpr ⟨List.nodup_append.mpr ⟨n4, nd, fun a m b m' z => apart b m' ?_⟩, n2, fun a m b m' z => ?_⟩
    . rw [<- z, k3]; simp [m]
    . rcases List.mem_append.mp m with h | h
      . exact n3 a (List.mem_append_left _ h) b m' z
      . exact apart a h (by rw [z, k3]; simp [m'])
  . have h : a ∈ as \/ a ∈ es := by
      rw [k3]
      simp only [List.mem_append] at m ⊢
      rcases m with (m | m) | m
      . exact .inr (.inl (.inl m))
      . exact .inl m
      . exact .inr (.inr m)
    rcases h with h | h
    . exact ⟨(fr a h).2, r.ext.h.none (fr a h).1⟩
    . exact ⟨oldS a h, (fe a h).2⟩
end
end B
namespace B
open PySem PySem.Spec PyProof.Rows L2
def FlAt (B : Heap) (l : List PySem.Env) (e : Addr) (cls a0 fl : Value) (h : Heap) : Prop :=
  B.StaysIn h /\ B.get? e = none /\ h.FunFrames B l /\ h.TracedAtW B e cls a0 fl
structure FlyAt (P : Program) (w : World) (l : List PySem.Env) (H0 : Hp) (s0 : Shared) (H' : Hp) (C ea : Addr) (fl : Value) (s' : Shared) : Prop where
  os : s'.os = s0.os
  bare : AllBare s'.gens
  un : Un (frs l) [] H0 H' s0.heap s'.heap
  hok : HOk P w H' s'.heap
  fly : ∃ B a0, FlAt B l ea (.ref C) a0 fl s'.heap /\ (∀ b o u, s'.heap.get? b = some o -> H' b = some u -> B.get? b = some o) /\
    (∀ b o o', s0.heap.get? b = some o -> s'.heap.get? b = some o' -> b ∉ frs l -> B.get? b = some o')
def CXB (P : Program) (w : World) : CXT := fun outer H s E e s' => ∃ ea C H', e = .ref ea /\ FlyAt P w outer H s H' C ea .none s' /\ E (.ref C) none H'
def Thr (X : Cx) (σ : L2.St) (c : Str) (H' : Hp) (e : Value) (s' : Shared) : Prop :=
  ∃ ea C, e = .ref ea /\ X.mg c = some (.ref C) /\ ∃ pins Hc sc, Inv X pins σ Hc sc /\ ((∃ fl, (fl = .none \/ fl = rawInt X.env.locals) /\ FlyAt X.prog X.w X.stack Hc sc H' C ea fl s') \/
    (H' = Hc /\ s'.os = sc.os /\ AllBare s'.gens /\ ∃ vs, Heap.MadeExcOf sc.heap s'.heap ea (.ref C) vs))
def Hld (X : Cx) (fl : Value) (σ : L2.St) (c : Str) (H' : Hp) (e : Value) (s' : Shared) : Prop :=
  ∃ ea C, e = .ref ea /\ X.mg c = some (.ref C) /\ ∃ pins Hc sc, Inv X pins σ Hc sc /\ FlyAt X.prog X.w X.stack Hc sc H' C ea fl s'
section
variable {P : Program} {w : World} {H H' H0 : Hp} {h h' B : Heap} {l l' : List PySem.Env} {s0 s' : Shared} {C ea : Addr}
theorem HOk.stays (x : HOk P w H h) (k : ∀ b o u, h.get? b = some o -> H b = some u -> h'.get? b = some o) : HOk P w H h' := fun a o e => by
  refine (x a o e).stay (fun b u hb q => ?_) (fun _ q => q) fun _ _ q => q
  rcases hb with rfl | hb
  . exact k _ u o q e
  . exact k b u _ q hb
end
theorem Zq.there {P : Program} {w : World} {H : Hp} {h : Heap} {a : Addr} : ∀ {o : HO}, Zq P w H h a o -> ∃ ob, h.get? a = some ob
  | .lst xs, x => let ⟨_, _, _, _, e⟩ := x; ⟨_, e⟩
  | .tup xs, x => let ⟨_, _, _, ob, e, _⟩ := x; ⟨ob, e⟩
  | .dK kvs, x => let ⟨_, _, _, _, o, _, _, e, _⟩ := x; ⟨o, e⟩
  | .dT kvs, x => let ⟨_, _, _, _, o, _, _, e, _⟩ := x; ⟨o, e⟩
  | .set S n, x => let ⟨o, _, _, _, e, _⟩ := x; ⟨o, e⟩
  | .ins C dx fs, x => let ⟨_, _, _, e, _⟩ := x; ⟨_, e⟩
  | .own y, x => x
  | .xd fs, x => let ⟨_, ⟨o, _, _, e, _⟩, _⟩ := x; ⟨o, e⟩
  | .rng lo hi, x => let ⟨_, _, _, e⟩ := x; ⟨_, e⟩
  | .frz ob u, x => ⟨ob, x.1⟩
  | .tbl ps, x => ⟨_, x⟩
  | .met f y, x => ⟨_, x⟩
  | .ext φ, x => x.2.1
theorem Zed {env : PySem.Env} {l : List PySem.Env} {L : Addr} (h : env.frame = some L) : frs (env :: l) = L :: frs l := by
  unfold frs
  rw [List.filterMap_cons, h]
theorem FlyAt.step {P : Program} {w : World} {l : List PySem.Env} {H0 H' : Hp} {s0 s' : Shared} {C ea : Addr} {fl fl' a0 : Value} {B h'' : Heap} (F : FlyAt P w l H0 s0 H' C ea fl s')
    (f0 : FlAt B l ea (.ref C) a0 fl s'.heap) (k1 : ∀ b o u, s'.heap.get? b = some o -> H' b = some u -> B.get? b = some o) (k2 : ∀ b o o', s0.heap.get? b = some o -> s'.heap.get? b = some o' -> b ∉ frs l -> B.get? b = some o')
    (f1 : FlAt B l ea (.ref C) a0 fl' h'') (up : s'.heap.UpToSlots h'') : FlyAt P w l H0 s0 H' C ea fl' { s' with heap := h'' } := by
  have nf : ∀ b o, b ∈ frs l -> s'.heap.get? b = some o -> ∀ vs, o.data ≠ .fields vs := fun b o hb q vs z => by
    obtain ⟨_, o', ho', hd⟩ := f0.2.2.1.mem hb
    rw [q] at ho'
    cases ho'
    exact hd vs z
  have thr : ∀ b o, s0.heap.get? b = some o -> ∃ o', h''.get? b = some o' := fun b o q => by
    obtain ⟨o2, e2⟩ := F.un.there b o q (by simp)
    by_cases hb : b ∈ frs l
    . obtain ⟨sl, e3⟩ := up b o2 e2 (nf b o2 hb e2)
      exact ⟨_, e3⟩
    . exact ⟨o2, f1.1 b o2 (k2 b o o2 q e2 hb)⟩
  refine ⟨F.os, F.bare, ⟨fun b o q n hb _ => ?_, fun b o q n hb _ => ?_, F.un.free, fun b o q _ => thr b o q, F.un.tups, F.un.frzs, F.un.tbls⟩, ?_, B, a0, f1, fun b o u q t => ?_, fun b o o' q q' hb => ?_⟩
  . exact f1.1 b o (k2 b o o q (F.un.keep b o q n hb (by simp)) hb)
  . obtain ⟨sl, e⟩ := F.un.slot b o q n hb (by simp)
    obtain ⟨sl2, e2⟩ := up b _ e (nf b _ hb e)
    exact ⟨sl2, e2⟩
  . exact HOk.stays F.hok fun b o u q t => f1.1 b o (k1 b o u q t)
  . obtain ⟨ob, hob⟩ := Zq.there (F.hok b u t)
    have z := f1.1 b ob (k1 b ob u hob t)
    rw [show h''.get? b = some o from q] at z
    cases z
    exact k1 b o u hob t
  . obtain ⟨o2, e2⟩ := F.un.there b o q (by simp)
    have z := k2 b o o2 q e2 hb
    have z2 := f1.1 b o2 z
    rw [show h''.get? b = some o' from q'] at z2
    cases z2
    exact z
theorem setFl {M : Model} {A : Around} {E : Value -> Shared -> Prop} {s : Shared} {B : Heap} {l : List PySem.Env} {e : Addr} {cls a0 fl : Value} {m : Option Addr} {Q : Unit -> Shared -> Prop} (R : FlAt B l e cls a0 fl s.heap)
    (h : ∀ h', FlAt B l e cls a0 (m.elim Value.none fun f => rawInt f) h' -> s.heap.UpToSlots h' -> Q () { s with heap := h' }) : wpAny M A (setFlight (.ref e) m) Q E s := by
  obtain ⟨hkb, hen, hl, oe, vs, T, oT, ts, he, hcls, hd, h1, hnT, hTe, hT, hdT, h3⟩ := R
  have hsz3 : 3 < ts.size := (Array.getElem?_eq_some_iff.mp h3).1
  have other : ∀ b, b ≠ T -> (s.heap.update T (Obj.mapFields (·.setIfInBounds 3 (m.elim Value.none fun f => rawInt f)))).get? b = s.heap.get? b :=
    fun b hb => Heap.get?_update_other _ _ (Ne.symm hb)
  have noRecord : ∀ b o, s.heap.get? b = some o -> (∀ vs, o.data ≠ .fields vs) -> b ≠ T := fun b o hb hnf q => by
    rw [q, hT] at hb; injection hb with hb; subst hb; exact hnf ts hdT
  unfold setFlight
  refine wpAny_bind (wpAny_field he hd h1 ?_)
  rw [if_pos (show (Value.ref T != Value.none) = true from by simp)]
  refine wpAny_setField hT hdT hsz3 (h _ ⟨fun b o hbo => (other b fun q => by rw [q, hnT] at hbo; cases hbo).trans (hkb b o hbo), hen,
    hl.of_keeps fun b o hb hnf => ⟨o, (other b (noRecord b o hb hnf)).trans hb, rfl⟩, ?_⟩ fun b o hb hnf => ⟨o.slots, (other b (noRecord b o hb hnf)).trans hb⟩)
  exact ⟨oe, vs, T, _, _, (other e (Ne.symm hTe)).trans he, hcls, hd, h1, hnT, hTe, Heap.get?_update_self _ hT (Obj.isFreed_of_fields (Obj.data_mapFields hdT _)), Obj.data_mapFields hdT _, by simp [hsz3]⟩
section
variable {X : Cx} {σ : L2.St} {c : Str} {H' : Hp} {e : Value} {s' : Shared}
theorem holdB (hs : X.stack = X.env :: X.outer) (hfr : X.env.frame = some X.env.locals) (T : Thr X σ c H' e s') {E' : Value -> Shared -> Prop} {A : Around} (hA : A.frames = X.A.frames) {M : Model} :
    wpAny M A (noteFrame e X.env) (fun _ s'' => Hld X (rawInt X.env.locals) σ c H' e s'') E' s' := by
  obtain ⟨ea, C, rfl, hc, pins, Hc, sc, I, T⟩ := T
  have frX : A.frames = some (X.env :: X.outer) := by rw [hA, I.ok.frames, hs]
  rcases T with ⟨fl, hfl, F⟩ | ⟨eH, os, bare, vs, Md⟩
  . obtain ⟨B, a0, f, k1, k2⟩ := F.fly
    rcases hfl with rfl | rfl
    . have f' := f
      rw [hs] at f'
      refine wpAny_noteFrame_onW (base := B) frX f'.2.2.1 hfr f'.2.2.2 f'.1 f'.2.1 fun h'' N => ?_
      obtain ⟨n1, n2, n3, n4⟩ := N
      refine ⟨ea, C, rfl, hc, pins, Hc, sc, I, F.step f k1 k2 ⟨n1, f'.2.1, ?_, n3⟩ n4⟩
      rw [hs]; exact n2
    . exact wpAny_noteFrame_againW hfr f.2.2.2 ⟨ea, C, rfl, hc, pins, Hc, sc, I, F⟩
  . obtain ⟨t, he, htn, ht⟩ := Md.there
    have hl : sc.heap.FunFrames (PySem.W.hideAll sc.heap (frs X.stack)) (X.env :: X.outer) := by
      rw [<- hs]
      exact PySem.W.funFrames_hide I.stack fun env he a ha => List.mem_filterMap.mpr ⟨env, he, ha⟩
    have fresh : ∀ b, sc.heap.get? b = none -> (PySem.W.hideAll sc.heap (frs X.stack)).get? b = none := fun b hb => by
      cases hq : (PySem.W.hideAll sc.heap (frs X.stack)).get? b with
      | none => rfl
      | some o' => have := PySem.W.of_hideAll _ hq; rw [hb] at this; cases this
    have hl' : s'.heap.FunFrames (PySem.W.hideAll sc.heap (frs X.stack)) (X.env :: X.outer) := hl.of_keeps fun b o hb _ => ⟨o, Md.keeps b o hb, rfl⟩
    have hkb : (PySem.W.hideAll sc.heap (frs X.stack)).StaysIn s'.heap := fun b o hb => Md.keeps b o (PySem.W.of_hideAll _ hb)
    unfold noteFrame
    simp only [hfr]
    refine wpAny_bind (wpAny_field he rfl (x := .none) rfl ?_)
    rw [if_neg (by decide)]
    refine wpAny_entryW (base := PySem.W.hideAll sc.heap (frs X.stack)) (a0 := .ref t) frX hl' hfr he hkb (fresh ea Md.new) rfl (show 1 < 6 by decide) rfl fun h'' N => ?_
    obtain ⟨n1, n2, n3, n4⟩ := N
    subst eH
    have trfr : ∀ b u, H' b = some u -> b ∉ frs X.stack := fun b u t z => by rw [I.stkFree b z] at t; cases t
    have up : sc.heap.UpToSlots h'' := (Heap.UpToSlots.of_keeps Md.keeps).trans n4
    have keepB : ∀ b o, sc.heap.get? b = some o -> b ∉ frs X.stack -> h''.get? b = some o := fun b o q n => n1 b o (PySem.W.hideAll_get _ q n)
    have nf : ∀ b o, b ∈ frs X.stack -> sc.heap.get? b = some o -> ∀ vs, o.data ≠ .fields vs := fun b o hb q vs z => by
      rw [hs] at hb
      obtain ⟨_, o', ho', hd⟩ := hl.mem hb
      rw [q] at ho'
      cases ho'
      exact hd vs z
    refine ⟨ea, C, rfl, hc, pins, H', sc, I, os, bare, ⟨fun b o q n hb _ => keepB b o q hb, fun b o q n hb _ => up b o q (nf b o hb q), fun b o q n _ => n, fun b o q _ => ?_, fun _ _ q => q, fun _ _ _ q => q, fun b ps q => ⟨#[], by rw [q]; simp⟩⟩, ?_, PySem.W.hideAll sc.heap (frs X.stack), .ref t, ⟨n1, fresh ea Md.new, ?_, n3⟩, fun b o u q t => ?_, fun b o o' q q' hb => ?_⟩
    . by_cases hb : b ∈ frs X.stack
      . obtain ⟨sl, z⟩ := up b o q (nf b o hb q)
        exact ⟨_, z⟩
      . exact ⟨o, keepB b o q hb⟩
    . exact HOk.stays I.hok fun b o u q t => keepB b o q (trfr b u t)
    . exact (congrArg (fun l => h''.FunFrames (PySem.W.hideAll sc.heap (frs X.stack)) l) hs).mpr n2
    . obtain ⟨ob, hob⟩ := Zq.there (I.hok b u t)
      have z := keepB b ob hob (trfr b u t)
      rw [show h''.get? b = some o from q] at z
      cases z
      exact PySem.W.hideAll_get _ hob (trfr b u t)
    . have z := keepB b o q hb
      rw [show h''.get? b = some o' from q'] at z
      cases z
      exact PySem.W.hideAll_get _ q hb
theorem Hld.set {fl : Value} {m : Option Addr} (T : Hld X fl σ c H' e s') {E' : Value -> Shared -> Prop} {A : Around} {M : Model} : wpAny M A (setFlight e m) (fun _ s'' => Hld X (m.elim Value.none fun f => rawInt f) σ c H' e s'') E' s' := by
  obtain ⟨ea, C, rfl, hc, pins, Hc, sc, I, F⟩ := T
  obtain ⟨B, a0, f, k1, k2⟩ := F.fly
  exact setFl f fun h'' f1 up => ⟨ea, C, rfl, hc, pins, Hc, sc, I, F.step f k1 k2 f1 up⟩
theorem Hld.traced {fl : Value} (T : Hld X fl σ c H' e s') : ∃ ea oe vs T, e = .ref ea /\ s'.heap.get? ea = some oe /\ oe.data = .fields vs /\ vs[1]? = some (.ref T) := by
  obtain ⟨ea, C, rfl, hc, pins, Hc, sc, I, F⟩ := T
  obtain ⟨B, a0, ⟨_, _, _, oe, vs, T, _, _, h1, _, h2, h3, _⟩, k1, k2⟩ := F.fly
  exact ⟨ea, oe, vs, T, rfl, h1, h2, h3⟩
theorem pasB (hs : X.stack = X.env :: X.outer) (hfr : X.env.frame = some X.env.locals) (W : Str -> L2.St -> Hp -> Prop) :
    PassesOwn (model X.prog X.w) X.A X.env (fun e s' => ∃ c σ H, Thr X σ c H e s' /\ W c σ H) := fun e s' ⟨c, σ, H, T, q⟩ => by
  refine wpAny_mono (holdB hs hfr T rfl (E' := fun _ _ => False)) (fun _ s1 T1 => ?_) fun _ _ z => z.elim
  obtain ⟨ea, oe, vs, T', rfl, h1, h2, h3⟩ := T1.traced
  unfold cameBackBy
  refine wpAny_bind (wpAny_field h1 h2 h3 ?_)
  rw [if_neg (show ¬ ((Value.ref T' == Value.none) = true) from by simp)]
  have st : wpAny (model X.prog X.w) X.A (setFlight (.ref ea) X.env.frame) (fun _ s'' => ∃ c σ H, Thr X σ c H (.ref ea) s'' /\ W c σ H) (fun e s' => ∃ c σ H, Thr X σ c H e s' /\ W c σ H) s1 := by
    rw [hfr]
    refine wpAny_mono (T1.set (m := some X.env.locals) (E' := fun _ _ => False)) (fun _ s2 T2 => ?_) fun _ _ z => z.elim
    obtain ⟨ea', C, e', hc, pins, Hc, sc, I, F⟩ := T2
    exact ⟨c, σ, H, ⟨ea', C, e', hc, pins, Hc, sc, I, .inl ⟨_, .inr rfl, F⟩⟩, q⟩
  first
    | exact st
    | exact wpAny_bind (wpAny_pure st)
theorem leaveB (hs : X.stack = X.env :: X.outer) (hfr : X.env.frame = some X.env.locals) (hex : X.ex = []) (T : Thr X σ c H' e s') {E' : Value -> Shared -> Prop} :
    wpAny (model X.prog X.w) X.A (leaving X.env e) (fun _ s'' => ∃ ea C, e = .ref ea /\ X.mg c = some (.ref C) /\ FlyAt X.prog X.w X.outer X.H₀ X.s₀ H' C ea .none s'') E' s' := by
  unfold leaving
  refine wpAny_bind (wpAny_mono (holdB hs hfr T rfl) (fun _ s1 T1 => ?_) fun _ _ z => z)
  refine wpAny_mono (T1.set (m := none)) (fun _ s2 T2 => ?_) fun _ _ z => z
  obtain ⟨ea, C, rfl, hc, pins, Hc, sc, I, F⟩ := T2
  refine ⟨ea, C, rfl, hc, ?_⟩
  obtain ⟨B, a0, fl, k1, k2⟩ := F.fly
  have fsX : frs X.stack = X.env.locals :: X.fs := by rw [hs]; exact Zed hfr
  have base := I.base
  rw [hex] at base
  have old : ∀ b o, X.s₀.heap.get? b = some o -> b ≠ X.env.locals := fun b o q => Nat.ne_of_lt (Nat.lt_of_lt_of_le (Heap.lt_size q) I.ok.above)
  have nofr : ∀ b, b ≠ X.env.locals -> b ∉ X.fs -> b ∉ frs X.stack := fun b h1 h2 z => by
    rw [fsX] at z
    rcases List.mem_cons.mp z with z | z
    . exact h1 z
    . exact h2 z
  refine ⟨F.os.trans I.os, F.bare, ⟨fun b o q n hb _ => ?_, fun b o q n hb _ => ?_, fun b o q n _ => ?_, fun b o q _ => ?_, fun b xs q => F.un.tups b xs (base.tups b xs q), fun b o u q => F.un.frzs b o u (base.frzs b o u q), fun b ps q => ?_⟩, F.hok, B, a0, ⟨fl.1, fl.2.1, ?_, fl.2.2.2⟩, k1, fun b o o' q q' hb => ?_⟩
  . exact F.un.keep b o (base.keep b o q n hb (by simp)) (base.free b o q n (by simp)) (nofr b (old b o q) hb) (by simp)
  . obtain ⟨sl, e1⟩ := base.slot b o q n hb (by simp)
    obtain ⟨sl', e2⟩ := F.un.slot b _ e1 (base.free b o q n (by simp)) (by rw [fsX]; exact List.mem_cons_of_mem _ hb) (by simp)
    exact ⟨sl', e2⟩
  . obtain ⟨o1, e1⟩ := base.there b o q (by simp)
    exact F.un.free b o1 e1 (base.free b o q n (by simp)) (by simp)
  . obtain ⟨o1, e1⟩ := base.there b o q (by simp)
    exact F.un.there b o1 e1 (by simp)
  . obtain ⟨m1, e1⟩ := base.tbls b ps q
    obtain ⟨m2, e2⟩ := F.un.tbls b _ e1
    exact ⟨m1 ++ m2, by rw [e2, Array.append_assoc]⟩
  . have z := fl.2.2.1
    rw [hs] at z
    exact z.2.2
  . obtain ⟨o1, e1⟩ := base.there b o q (by simp)
    exact k2 b o1 o' e1 q' (nofr b (old b o q) hb)
end
end B
namespace B
open PySem PySem.Spec PyProof.Rows L2
abbrev WK := Str -> L2.St -> Hp -> Prop
def XB (X : Cx) (W : WK) : Cx := X.wish fun e s' => ∃ c σ H, Thr X σ c H e s' /\ W c σ H
def Good (mg : MG) (S H : Hp) (o : Own) (y : PV) (Q : VK) : Prop :=
  ∀ v H' S' as, Ext S H S' H' -> OwnR mg S' H' o y v as -> as.Nodup -> (∀ a ∈ as, H a = none /\ S' a = none) -> Q v H'
def Err (S H : Hp) (W : Hp -> Prop) : Prop := ∀ H' S', Ext S H S' H' -> W H'
def tB (X : Cx) (Γ : List Own) (o : Own) (f : Ev) (W : WK) : TE := fun σ H Q => ∃ S₀ H₀ env S, Rel X.mg S₀ H₀ Γ env σ S H /\ (match f env with
  | .ok y => Good X.mg S H o y Q
  | .err c => Err S H (W c σ)
  | .no => False)
structure PEB (X : Cx) (Γ : List Own) (e : Expr) (o : Own) (f : Ev) : Prop where mk ::
  run : ∀ W, PE (XB X W) e (tB X Γ o f W)
instance {X : Cx} {Γ : List Own} {e : Expr} {o : Own} {f : Ev} : CoeFun (PEB X Γ e o f) fun _ => ∀ W, PE (XB X W) e (tB X Γ o f W) := ⟨PEB.run⟩
theorem pimp {X : Cx} {e : Expr} {t t' : TE} (h : PE X e t) (i : ∀ σ H Q, t' σ H Q -> t σ H Q) : PE X e t' := fun pins s σ H Q I q => h pins s σ H Q I (i σ H Q q)
section
variable {X : Cx} {Γ : List Own} {a b c e : Expr} {fa fb fc f : Ev} {pos : Pos}
theorem Good.sh {mg : MG} {S H : Hp} {y : PV} {Q : VK} (g : Good mg S H .s y Q) {v : V} {H' S' : Hp} (x : Ext S H S' H') (r : Rep mg S' y v) : Q v H' :=
  g v H' S' [] x ⟨rfl, r⟩ List.nodup_nil (fun a m => by cases m)
theorem Good.of {mg : MG} {S H : Hp} {y : PV} {Q : VK} (g : ∀ v H' S', Ext S H S' H' -> Rep mg S' y v -> Q v H') : Good mg S H .s y Q :=
  fun v H' S' as x ⟨_, r⟩ _ _ => g v H' S' x r
theorem b_var {i : Nat} {x : Str} (hN : X.N[i]? = some x) (hv : Vis X.env.scope x) (hg : Γ[i]? = some .s) (hd : (x == ("__debug__" : Str)) = false := by decide) (hcd : (x == ("__classdict__" : Str)) = false := by decide) : PEB X Γ (.Name x pos) .s (eV i) :=
  .mk fun W => pimp (Z71 (X := XB X W) hN hv hd hcd) fun σ H Q ⟨S₀, H₀, env, S, r, q⟩ => by
    unfold eV at q
    cases he : env[i]? with
    | none => rw [he] at q; exact q.elim
    | some ov =>
      cases ov with
      | none => rw [he] at q; exact q.elim
      | some y =>
        rw [he] at q
        obtain ⟨v, hs, rv⟩ := r.shared hg he
        exact ⟨v, hs, Good.sh q (Ext.refl r.ext.sh) rv⟩
theorem Z4c {v : V} {y : PV} {e : Expr} (h : ∀ X, PE X e (tC v)) (r : ∀ mg S, Rep mg S y v) : PEB X Γ e .s (eK y) :=
  .mk fun W => pimp (h (XB X W)) fun σ H Q ⟨S₀, H₀, env, S, rl, q⟩ => Good.sh q (Ext.refl rl.ext.sh) (r _ _)
theorem b_int {i : Int} {j : Nat} : PEB X Γ (.Constant (.int i) j pos) .s (eK (.int i)) := Z4c (fun _ => pe_int) fun _ _ => rfl
theorem b_bl {i : Bool} {j : Nat} : PEB X Γ (.Constant (.bool i) j pos) .s (eK (.bl i)) := Z4c (fun _ => pe_bl) fun _ _ => rfl
theorem Za7 {j : Nat} : PEB X Γ (.Constant .none j pos) .s (eK .non) := Z4c (fun _ => pe_non) fun _ _ => rfl
theorem b_str {x : Str} {j : Nat} : PEB X Γ (.Constant (.str x) j pos) .s (eK (.str x)) := Z4c (fun _ => Zcx) fun _ _ => rfl
theorem Zcp {x : Str} {z : Str} {t : Tok} (hg : Gl X x) (hm : X.mg x = some (.str z t)) (hd : (x == ("__debug__" : Str)) = false := by decide) : PEB X Γ (.Name x pos) .s (eK (.str z)) :=
  .mk fun W => pimp (Z27 (X := XB X W) (v := .str z) hg hm ⟨t, rfl⟩ hd) fun σ H Q ⟨S₀, H₀, env, S, rl, q⟩ => Good.sh q (Ext.refl rl.ext.sh) rfl
theorem b_sh {o : Own} (h : PEB X Γ e o f) : PEB X Γ e .s f := .mk fun W => pimp (h W) fun σ H Q ⟨S₀, H₀, env, S, r, q⟩ => by
  refine ⟨S₀, H₀, env, S, r, ?_⟩
  cases hf : f env with
  | no => rw [hf] at q; exact q
  | err c => rw [hf] at q; exact q
  | ok y =>
    rw [hf] at q
    intro v H' S' as x w nd fr
    refine Good.sh q (S' := fun a => if a ∈ as then H' a else S' a) ⟨x.h, fun b u z => ?_, fun b u z => ?_, fun b u z => ?_⟩ (w.rep (fun b u z => ?_) fun b m u z => ?_)
    . have z := x.s b u z
      show (if b ∈ as then H' b else S' b) = some u
      split
      . exact x.sh b u z
      . exact z
    . have z : (if b ∈ as then H' b else S' b) = some u := z
      split at z
      . exact z
      . exact x.sh b u z
    . have z : (if b ∈ as then H' b else S' b) = some u := z
      split at z
      . rename_i m
        exact .inr (fr b m).1
      . exact x.n b u z
    . show (if b ∈ as then H' b else S' b) = some u
      split
      . exact x.sh b u z
      . exact z
    . show (if b ∈ as then H' b else S' b) = some u
      rw [if_pos m]; exact z
def OkR {α : Type} (r : R α) (P : α -> Prop) : Prop := match r with
  | .ok z => P z
  | .err _ => False
  | .no => True
theorem OkR.when {α : Type} {b : Bool} {r : R α} {P : α -> Prop} (h : b = true -> OkR r P) : OkR (when b r) P := by
  cases b with
  | true => exact h rfl
  | false => exact True.intro
theorem OkR.opt {α : Type} {r : Option α} {P : α -> Prop} (h : ∀ z, r = some z -> P z) : OkR (Z1b r) P := by
  cases r with
  | none => exact True.intro
  | some z => exact h z rfl
theorem OkR.map {α β : Type} {r : R α} {g : α -> β} {P : β -> Prop} (h : OkR r fun z => P (g z)) : OkR (r.map g) P := by
  cases r with
  | ok z => exact h
  | err c => exact h
  | no => exact True.intro
def OpB (X : Cx) (F : Value -> Value -> Sem Value) (o : Own) (g : PV -> PV -> R PV) : Prop := ∀ W, ∃ r : R2, OpR (XB X W) F r /\ ∀ (x y : PV) (v u : V) (S H : Hp), Sub S H -> Rep X.mg S x v -> Rep X.mg S y u -> OkR (g x y) fun z => ∀ Q : VK, Good X.mg S H o z Q -> r v u H Q
theorem two {r : R2} {g : PV -> PV -> R PV} {o : Own} {W : WK} {σ : L2.St} {H : Hp} {Q : VK}
    (hr : ∀ (x y : PV) (v u : V) (S H : Hp), Sub S H -> Rep X.mg S x v -> Rep X.mg S y u -> OkR (g x y) fun z => ∀ Q : VK, Good X.mg S H o z Q -> r v u H Q)
    (h : tB X Γ o (e2 g fa fb) W σ H Q) : tOp r (tB X Γ .s fa W) (tB X Γ .s fb W) σ H Q := by
  obtain ⟨S₀, H₀, env, S, rl, q⟩ := h
  unfold e2 at q
  refine ⟨S₀, H₀, env, S, rl, ?_⟩
  cases ha : fa env with
  | no => rw [ha] at q; exact q.elim
  | err c => rw [ha] at q; exact q
  | ok x =>
    rw [ha, R.bind_ok] at q
    refine Good.of fun v H1 S1 x1 r1 => ⟨S₀, H₀, env, S1, rl.grow x1, ?_⟩
    cases hb : fb env with
    | no => rw [hb] at q; exact q.elim
    | err c => rw [hb] at q; exact fun H2 S2 x2 => q H2 S2 (x1.trans x2)
    | ok y =>
      rw [hb, R.bind_ok] at q
      refine Good.of fun u H2 S2 x2 r2 => ?_
      have z := hr x y v u S2 H2 x2.sh (r1.mono x2.s) r2
      cases hg : g x y with
      | no => rw [hg] at q; exact q.elim
      | err c => rw [hg] at z; exact z.elim
      | ok w =>
        rw [hg] at z q
        refine z Q fun p H3 S3 as x3 rw nd fr => q p H3 S3 as ((x1.trans x2).trans x3) rw nd fun a m => ⟨(x1.h.trans x2.h).none (fr a m).1, (fr a m).2⟩
theorem Z4 {op : Operator} {o : Own} {g : PV -> PV -> R PV} (ho : OpB X (binaryOp op) o g) (ha : PEB X Γ a .s fa) (hb : PEB X Γ b .s fb) : PEB X Γ (.BinOp a op b pos) o (e2 g fa fb) := .mk fun W => by
  obtain ⟨r, h1, h2⟩ := ho W
  exact pimp (pe_op h1 (ha W) (hb W)) fun σ H Q h => two h2 h
theorem Z1m {op : CmpOp} {g : PV -> PV -> R PV} (ho : OpB X (compareOp op) .s g) (ha : PEB X Γ a .s fa) (hb : PEB X Γ b .s fb) (hm : behindInMarks op b = false) : PEB X Γ (.Compare a [op] [b] pos) .s (e2 g fa fb) := .mk fun W => by
  obtain ⟨r, h1, h2⟩ := ho W
  exact pimp (Zfd h1 (ha W) (hb W) hm) fun σ H Q h => two h2 h
end
end B
namespace B
open PySem PySem.Spec PyProof.Rows L2
theorem Z1u : sizeLine = Zn := by rw [sizeLine_eq]; rfl
section
variable {X : Cx} {Γ : List Own} {a b c e : Expr} {fa fb fc f : Ev} {pos : Pos}
theorem Good.own {mg : MG} {S H : Hp} {y : PV} {Q : VK} {o : Own} (g : Good mg S H o y Q) (hs : Sub S H) {p : Addr} {u : HO} (hp : H p = none) (r : OwnR mg S (upd H p u) o y (.ref p) [p]) : Q (.ref p) (upd H p u) :=
  g (.ref p) (upd H p u) S [p] (Ext.own hs hp) r (by simp) (fun a m => by
    have e : a = p := by simpa using m
    subst e
    exact ⟨hp, hs.none hp⟩)
theorem Good.fl {mg : MG} {S H : Hp} {y : PV} {Q : VK} {cs : List Own} (g : Good mg S H (.o cs) y Q) {v : V} (hs : Sub S H) (r : Rep mg S y v) (hf : y.flat = true) : Q v H := by
  refine g v H S [] (Ext.refl hs) ?_ List.nodup_nil (fun a m => by cases m)
  cases y with
  | non => exact ⟨rfl, r⟩
  | bl b => exact ⟨rfl, r⟩
  | int b => exact ⟨rfl, r⟩
  | str b => exact ⟨rfl, r⟩
  | _ => cases hf
def rCatR : R2 := fun x y H Q => ∃ l b xs zs, x = .ref l /\ y = .ref b /\ Rd H l (.lst xs) /\ Rd H b (.lst zs) /\ xs.length + zs.length <= sizeLine /\ ∀ p, H p = none -> Q (.ref p) (upd H p (.lst (xs ++ zs)))
theorem Zg0 : OpR X (binaryOp .Add) rCatR := by
  intro pins s σ H x y v u Q I rx ry h
  obtain ⟨l, b, xs, zs, rfl, rfl, hH, hB, hz, q⟩ := h
  cases rx
  cases ry
  obtain ⟨z, its, n, r, e⟩ := hH.ok I.hok
  obtain ⟨z2, its2, n2, r2, e2⟩ := hB.ok I.hok
  have hl := r.length
  have hl2 := r2.length
  refine PySem.P.add_list e e2 ?_ (by rw [List.size_toArray, List.size_toArray]; omega)
  have ea : its.toArray ++ its2.toArray = (its ++ its2).toArray := by simp
  rw [ea]
  exact ⟨.ref _, _, I.lnew (t' := s.toks) (r.append r2) (by rw [List.length_append]; omega), rfl, q _ I.fresh⟩
theorem Z69 (x : Array Nat) : ∀ (n : Nat) (acc : Array Nat), (List.replicate n x).foldl (· ++ ·) acc = acc ++ (List.replicate n x.toList).flatten.toArray
  | 0, acc => by simp
  | n + 1, acc => by
    rw [List.replicate_succ, List.foldl_cons, Z69 x n, List.replicate_succ, List.flatten_cons]
    apply Array.ext'
    simp
theorem Zez (x : Str) (k : Int) (h : 0 <= k) : Txt.mul x k = repS x k.toNat := by
  unfold Txt.mul repS
  by_cases h1 : k < 1
  . have : k = 0 := by omega
    subst this
    rfl
  . rw [if_neg h1]
    split
    . rename_i h2
      simp only [Bool.or_eq_true, beq_iff_eq] at h2
      rcases h2 with rfl | h2
      . cases x; simp
      . cases x with
        | mk a =>
          have : a = #[] := Array.size_eq_zero_iff.mp h2
          subst this
          simp
    . rw [Z69]
      simp
def rMulS : R2 := fun x y H Q => ∃ i k, x = .str i /\ y = .int k /\ 0 <= k /\ k <= 1000 /\ i.length * k.toNat <= 1000 /\ Q (.str (repS i k.toNat)) H
theorem Zaj : OpR X (binaryOp .Mult) rMulS := by
  intro pins s σ H x y v u Q I rx ry h
  obtain ⟨i, k, rfl, rfl, h0, h2, h1, q⟩ := h
  obtain ⟨t, rfl⟩ := rx
  obtain ⟨t', rfl⟩ := ry
  refine PySem.SB.mul ⟨?_, fun h3 _ => ?_, fun h3 _ => ?_⟩ fun t2 k2 => ?_
  . rw [decide_eq_false (by omega), decide_eq_false (by omega)]
    rfl
  . intro z
    have h4 : (i.length : Int) <= 1000 := by
      have : i.length <= i.length * k.toNat := Nat.le_mul_of_pos_right _ (by omega)
      omega
    have h5 : (1000 : Int) <= (2 ^ 63 - 1) / k := Int.le_ediv_of_mul_le (by omega) (by omega)
    omega
  . unfold Builtin.Str.tooLong
    rw [sizeLine_eq]
    exact decide_eq_false (by omega)
  . rw [Zez i k h0]
    exact ⟨.str _, H, I.tok _, ⟨_, rfl⟩, q⟩
theorem Zo : OpB X (binaryOp .Add) (.o []) oAdd := fun W => by
  refine ⟨_, op_add.or (Za6.or Zg0), fun x y v u S H hs rx ry => ?_⟩
  cases x <;> cases y <;> first | exact True.intro | skip
  case int.int i j => exact fun Q g => .inl ⟨i, j, rx, ry, g.fl hs rfl rfl⟩
  case str.str i j =>
    refine OkR.when fun h Q g => ?_
    exact .inr (.inl ⟨i, j, rx, ry, by rw [Z1u]; exact of_decide_eq_true h, g.fl hs rfl rfl⟩)
  case lst.lst i j =>
    refine OkR.when fun h Q g => ?_
    obtain ⟨p, vs, e1, q1, r1⟩ := rx
    obtain ⟨p', vs', e2, q2, r2⟩ := ry
    have l1 := r1.length
    have l2 := r2.length
    have h := of_decide_eq_true h
    refine .inr (.inr ⟨p, p', vs, vs', e1, e2, Rd.mono hs q1, Rd.mono hs q2, by rw [Z1u]; omega, fun n hn => g.own hs hn ?_⟩)
    exact ⟨n, vs ++ vs', [], rfl, Zg, ⟨rfl, r1.append r2⟩, rfl⟩
theorem Z4x : OpB X (binaryOp .Sub) .s oSub := fun W => by
  refine ⟨_, op_sub, fun x y v u S H hs rx ry => ?_⟩
  cases x <;> cases y <;> first | exact True.intro | skip
  case int.int i j => exact fun Q g => ⟨i, j, rx, ry, g.sh (Ext.refl hs) rfl⟩
theorem Z4b : OpB X (binaryOp .Mult) .s oMul := fun W => by
  refine ⟨_, op_mul.or Zaj, fun x y v u S H hs rx ry => ?_⟩
  cases x <;> cases y <;> first | exact True.intro | skip
  case int.int i j =>
    refine OkR.when fun h Q g => .inl ⟨i, j, rx, ry, ?_, g.sh (Ext.refl hs) rfl⟩
    unfold cmul at h
    simp only [Bool.or_eq_true, Bool.and_eq_true, decide_eq_true_eq] at h
    exact h
  case str.int i j =>
    refine OkR.when fun h Q g => .inr ?_
    simp only [Bool.and_eq_true, decide_eq_true_eq] at h
    exact ⟨i, j, rx, ry, h.1.1, h.1.2, h.2, g.sh (Ext.refl hs) rfl⟩
theorem Z1e : OpB X (binaryOp .FloorDiv) .s oDiv := fun W => by
  refine ⟨_, Zfl, fun x y v u S H hs rx ry => ?_⟩
  cases x <;> cases y <;> first | exact True.intro | skip
  case int.int i j =>
    refine OkR.when fun h Q g => ?_
    simp only [Bool.and_eq_true, decide_eq_true_eq] at h
    exact ⟨i, j, rx, ry, h, g.sh (Ext.refl hs) rfl⟩
theorem Zv : OpB X (binaryOp .Mod) .s oMod := fun W => by
  refine ⟨_, op_mod, fun x y v u S H hs rx ry => ?_⟩
  cases x <;> cases y <;> first | exact True.intro | skip
  case int.int i j => exact OkR.when fun h Q g => ⟨i, j, rx, ry, of_decide_eq_true h, g.sh (Ext.refl hs) rfl⟩
theorem Z55 : OpB X (binaryOp .Pow) .s oPow := fun W => by
  refine ⟨_, op_pow, fun x y v u S H hs rx ry => ?_⟩
  cases x <;> cases y <;> first | exact True.intro | skip
  case int.int i j =>
    refine OkR.when fun h Q g => ?_
    simp only [Bool.and_eq_true, decide_eq_true_eq] at h
    exact ⟨i, j, rx, ry, ⟨by omega, by omega, by omega⟩, g.sh (Ext.refl hs) rfl⟩
theorem o_lt : OpB X (compareOp .Lt) .s oLt := fun W => by
  refine ⟨_, op_lt, fun x y v u S H hs rx ry => ?_⟩
  cases x <;> cases y <;> first | exact True.intro | skip
  case int.int i j => exact fun Q g => ⟨i, j, rx, ry, g.sh (Ext.refl hs) rfl⟩
theorem o_le : OpB X (compareOp .LtE) .s oLe := fun W => by
  refine ⟨_, op_le, fun x y v u S H hs rx ry => ?_⟩
  cases x <;> cases y <;> first | exact True.intro | skip
  case int.int i j => exact fun Q g => ⟨i, j, rx, ry, g.sh (Ext.refl hs) rfl⟩
theorem o_gt : OpB X (compareOp .Gt) .s oGt := fun W => by
  refine ⟨_, op_gt, fun x y v u S H hs rx ry => ?_⟩
  cases x <;> cases y <;> first | exact True.intro | skip
  case int.int i j => exact fun Q g => ⟨i, j, rx, ry, g.sh (Ext.refl hs) rfl⟩
theorem o_ge : OpB X (compareOp .GtE) .s oGe := fun W => by
  refine ⟨_, op_ge, fun x y v u S H hs rx ry => ?_⟩
  cases x <;> cases y <;> first | exact True.intro | skip
  case int.int i j => exact fun Q g => ⟨i, j, rx, ry, g.sh (Ext.refl hs) rfl⟩
end
end B
namespace B
open PySem PySem.Spec PyProof.Rows L2
def tT (X : Cx) (Γ : List Own) (f : Tv) (W : WK) : TT := fun σ H Q => ∃ S₀ H₀ env S, Rel X.mg S₀ H₀ Γ env σ S H /\ (match f env with
  | .ok b => ∀ H' S', Ext S H S' H' -> Q b H'
  | .err c => Err S H (W c σ)
  | .no => False)
structure PTB (X : Cx) (Γ : List Own) (e : Expr) (f : Tv) : Prop where mk ::
  run : ∀ W, PT (XB X W) e (tT X Γ f W)
instance {X : Cx} {Γ : List Own} {e : Expr} {f : Tv} : CoeFun (PTB X Γ e f) fun _ => ∀ W, PT (XB X W) e (tT X Γ f W) := ⟨PTB.run⟩
structure PWB (X : Cx) (Γ : List Own) (e : Expr) (f : Tv) : Prop where mk ::
  run : ∀ W, PW (XB X W) e (tT X Γ f W)
instance {X : Cx} {Γ : List Own} {e : Expr} {f : Tv} : CoeFun (PWB X Γ e f) fun _ => ∀ W, PW (XB X W) e (tT X Γ f W) := ⟨PWB.run⟩
theorem Zal {X : Cx} {e : Expr} {t t' : TT} (h : PT X e t) (i : ∀ σ H Q, t' σ H Q -> t σ H Q) : PT X e t' := fun pins s σ H Q I q => h pins s σ H Q I (i σ H Q q)
theorem pwimp {X : Cx} {e : Expr} {t t' : TT} (h : PW X e t) (i : ∀ σ H Q, t' σ H Q -> t σ H Q) : PW X e t' := fun wh pins s σ H Q I q => h wh pins s σ H Q I (i σ H Q q)
section
variable {X : Cx} {Γ : List Own} {a b c e : Expr} {fa fb fc f : Ev} {ga gb : Tv} {pos : Pos}
theorem PWB.pt (h : PWB X Γ e ga) : PTB X Γ e ga := .mk fun W => (h W).pt
theorem Zfs {K : PySem.W.Frag} {mg : MG} {S H : Hp} {y : PV} {v : V} {t : Bool} (hs : Sub S H) (r : Rep mg S y v) (h : Z4w y = .ok t) : TruV K v H t := by
  cases y with
  | non => cases h; cases (show v = .non from r); rfl
  | bl b => cases (show v = .bl b from r); cases h; rfl
  | int i => cases (show v = .int i from r); cases h; rfl
  | str i => cases h
  | tup i => cases h
  | lst i => cases h
  | dct i => cases h
  | ins i j => cases h
  | exc i => cases h
theorem Z83 (y : PV) (c : Str) : Z4w y ≠ .err c := by cases y <;> intro h <;> cases h
theorem Z1z (ha : PEB X Γ a .s fa) (he : ∀ whole, isTrue a X.env whole = (do let v <- whole; standAt a.pos; holding [v] (truthy v)) := by intro _; rfl) : PTB X Γ a (tE fa) := .mk fun W =>
  Zal (Zek (ha W) he) fun σ H Q ⟨S₀, H₀, env, S, r, q⟩ => by
    refine ⟨S₀, H₀, env, S, r, ?_⟩
    unfold tE at q
    cases hf : fa env with
    | no => rw [hf] at q; exact q.elim
    | err c => rw [hf] at q; exact q
    | ok y =>
      rw [hf, R.bind_ok] at q
      refine Good.of fun v H' S' x rv => ?_
      cases ht : Z4w y with
      | no => rw [ht] at q; exact q.elim
      | err c => exact (Z83 y c ht).elim
      | ok t =>
        rw [ht] at q
        exact ⟨t, Zfs x.sh rv ht, q H' S' x⟩
theorem two_t {r : R2} {g : PV -> PV -> R PV} {W : WK} {σ : L2.St} {H : Hp} {Q : Bool -> Hp -> Prop}
    (hr : ∀ (x y : PV) (v u : V) (S H : Hp), Sub S H -> Rep X.mg S x v -> Rep X.mg S y u -> OkR (g x y) fun z => ∀ Q : VK, Good X.mg S H .s z Q -> r v u H Q)
    (hb : ∀ x y z, g x y = .ok z -> ∃ k, z = .bl k)
    (h : tT X Γ (tE (e2 g fa fb)) W σ H Q) : tTest (tOp r (tB X Γ .s fa W) (tB X Γ .s fb W)) σ H Q := by
  obtain ⟨S₀, H₀, env, S, rl, q⟩ := h
  refine two (o := .s) (W := W) hr ⟨S₀, H₀, env, S, rl, ?_⟩
  unfold tE at q
  cases hf : e2 g fa fb env with
  | no => rw [hf] at q; exact q.elim
  | err c => rw [hf] at q; exact q
  | ok z =>
    rw [hf, R.bind_ok] at q
    have hz : ∃ k, z = .bl k := by
      unfold e2 at hf
      cases h1 : fa env with
      | no => rw [h1] at hf; cases hf
      | err c => rw [h1] at hf; cases hf
      | ok x =>
        rw [h1, R.bind_ok] at hf
        cases h2 : fb env with
        | no => rw [h2] at hf; cases hf
        | err c => rw [h2] at hf; cases hf
        | ok y => rw [h2, R.bind_ok] at hf; exact hb x y z hf
    obtain ⟨k, rfl⟩ := hz
    exact Good.of fun v H' S' x rv => ⟨k, rv, q H' S' x⟩
theorem Ze {op : CmpOp} {g : PV -> PV -> R PV} (ho : OpB X (compareOp op) .s g) (hg : ∀ x y z, g x y = .ok z -> ∃ k, z = .bl k) (ha : PEB X Γ a .s fa) (hb : PEB X Γ b .s fb) (hm : behindInMarks op b = false) : PTB X Γ (.Compare a [op] [b] pos) (tE (e2 g fa fb)) := .mk fun W => by
  obtain ⟨r, h1, h2⟩ := ho W
  exact Zal (Zfm h1 (ha W) (hb W) hm) fun σ H Q h => two_t h2 hg h
theorem t_seq {W : WK} {σ : L2.St} {H : Hp} {Q : Bool -> Hp -> Prop} {k : Bool -> Tv} {R' : Bool -> Hp -> Prop} {S₀ H₀ S : Hp} {env : Env} (rl : Rel X.mg S₀ H₀ Γ env σ S H)
    (q : match (ga env).bind (fun t => k t env) with | .ok b => ∀ H' S', Ext S H S' H' -> Q b H' | .err c => Err S H (W c σ) | .no => False)
    (h : ∀ t H1 S1, Ext S H S1 H1 -> Rel X.mg S₀ H₀ Γ env σ S1 H1 -> (match k t env with | .ok b => ∀ H' S', Ext S1 H1 S' H' -> Q b H' | .err c => Err S1 H1 (W c σ) | .no => False) -> R' t H1) : tT X Γ ga W σ H R' := by
  refine ⟨S₀, H₀, env, S, rl, ?_⟩
  cases hf : ga env with
  | no => rw [hf] at q; exact q.elim
  | err c => rw [hf] at q; exact q
  | ok t =>
    rw [hf, R.bind_ok] at q
    refine fun H1 S1 x => h t H1 S1 x (rl.grow x) ?_
    cases hk : k t env with
    | no => rw [hk] at q; exact q
    | err c => rw [hk] at q; exact fun H2 S2 x2 => q H2 S2 (x.trans x2)
    | ok b => rw [hk] at q; exact fun H2 S2 x2 => q H2 S2 (x.trans x2)
theorem Z87 {rest : List Expr} (ha : PTB X Γ a ga) (hb : PWB X Γ (.BoolOp .And (b :: rest) pos) gb) : PWB X Γ (.BoolOp .And (a :: b :: rest) pos) (B.tAnd ga gb) := .mk fun W =>
  pwimp (pw_and (ha W) (hb W)) fun σ H Q ⟨S₀, H₀, env, S, r, q⟩ => t_seq (k := fun t s => if t then gb s else .ok false) r q fun t H1 S1 x r1 q1 => by
    cases t with
    | true => rw [if_pos rfl]; exact ⟨S₀, H₀, env, S1, r1, q1⟩
    | false => rw [if_neg Bool.false_ne_true]; exact q1 H1 S1 (Ext.refl r1.ext.sh)
theorem Z2x {rest : List Expr} (ha : PTB X Γ a ga) (hb : PWB X Γ (.BoolOp .Or (b :: rest) pos) gb) : PWB X Γ (.BoolOp .Or (a :: b :: rest) pos) (B.tOr ga gb) := .mk fun W =>
  pwimp (pw_or (ha W) (hb W)) fun σ H Q ⟨S₀, H₀, env, S, r, q⟩ => t_seq (k := fun t s => if t then .ok true else gb s) r q fun t H1 S1 x r1 q1 => by
    cases t with
    | true => rw [if_pos rfl]; exact q1 H1 S1 (Ext.refl r1.ext.sh)
    | false => rw [if_neg Bool.false_ne_true]; exact ⟨S₀, H₀, env, S1, r1, q1⟩
theorem Z5q (ha : PTB X Γ a ga) : PWB X Γ (.BoolOp .And [a] pos) ga := .mk fun W => Zf7 (ha W)
theorem Z2v (ha : PTB X Γ a ga) : PWB X Γ (.BoolOp .Or [a] pos) ga := .mk fun W => pw_or1 (ha W)
theorem Z2c (ha : PTB X Γ a ga) : PTB X Γ (.UnaryOp .Not a pos) (B.tNot ga) := .mk fun W =>
  Zal (pt_not (ha W)) fun σ H Q ⟨S₀, H₀, env, S, r, q⟩ => by
    refine ⟨S₀, H₀, env, S, r, ?_⟩
    unfold B.tNot at q
    cases hf : ga env with
    | no => rw [hf] at q; exact q
    | err c => rw [hf] at q; exact q
    | ok t => rw [hf] at q; exact q
theorem asB_V {mg : MG} {S : Hp} {y : PV} {v : V} {t : Bool} (r : Rep mg S y v) (h : asB y = .ok t) : v = .bl t := by
  cases y with
  | bl b => cases h; exact r
  | _ => cases h
theorem Zab (y : PV) (c : Str) : asB y ≠ .err c := by cases y <;> intro h <;> cases h
theorem v_seq {o : Own} {W : WK} {σ : L2.St} {H : Hp} {Q : VK} {k : Bool -> Ev} {R' : VK} {S₀ H₀ S : Hp} {env : Env} (rl : Rel X.mg S₀ H₀ Γ env σ S H)
    (q : match (fa env).bind (fun x => (asB x).bind fun t => k t env) with | .ok y => Good X.mg S H o y Q | .err c => Err S H (W c σ) | .no => False)
    (h : ∀ t H1 S1, Ext S H S1 H1 -> Rel X.mg S₀ H₀ Γ env σ S1 H1 -> (match k t env with | .ok y => Good X.mg S1 H1 o y Q | .err c => Err S1 H1 (W c σ) | .no => False) -> R' (.bl t) H1) : tB X Γ .s fa W σ H R' := by
  refine ⟨S₀, H₀, env, S, rl, ?_⟩
  cases hf : fa env with
  | no => rw [hf] at q; exact q.elim
  | err c => rw [hf] at q; exact q
  | ok y =>
    rw [hf, R.bind_ok] at q
    refine Good.of fun v H1 S1 x rv => ?_
    cases ht : asB y with
    | no => rw [ht] at q; exact q.elim
    | err c => exact (Zab y c ht).elim
    | ok t =>
      rw [ht, R.bind_ok] at q
      rw [asB_V rv ht]
      refine h t H1 S1 x (rl.grow x) ?_
      cases hk : k t env with
      | no => rw [hk] at q; exact q
      | err c => rw [hk] at q; exact fun H2 S2 x2 => q H2 S2 (x.trans x2)
      | ok b => rw [hk] at q; exact fun w H2 S2 as x2 rw nd fr => q w H2 S2 as (x.trans x2) rw nd fun a m => ⟨x.h.none (fr a m).1, (fr a m).2⟩
theorem Z34 {op} {o : Own} (h : PEB X Γ a o fa) : PEB X Γ (.BoolOp op [a] pos) o fa := .mk fun W => pe_one (h W)
theorem Z23 {rest : List Expr} (ha : PEB X Γ a .s fa) (hb : PEB X Γ (.BoolOp .And (b :: rest) pos) .s fb) : PEB X Γ (.BoolOp .And (a :: b :: rest) pos) .s (eAnd fa fb) := .mk fun W =>
  pimp (pe_and (ha W) (hb W)) fun σ H Q ⟨S₀, H₀, env, S, r, q⟩ => v_seq (k := fun t s => if t then fb s else .ok (.bl false)) r q fun t H1 S1 x r1 q1 => ⟨t, rfl, by
    cases t with
    | true => rw [if_pos rfl]; exact ⟨S₀, H₀, env, S1, r1, q1⟩
    | false => rw [if_neg Bool.false_ne_true]; exact Good.sh q1 (Ext.refl r1.ext.sh) rfl⟩
theorem Zf3 : oNot = fun y => (asB y).bind fun t => .ok (.bl (!t)) := by
  funext y
  unfold oNot
  cases asB y <;> rfl
theorem b_not (ha : PEB X Γ a .s fa) : PEB X Γ (.UnaryOp .Not a pos) .s (e1 oNot fa) := .mk fun W =>
  pimp (pe_not (ha W)) fun σ H Q ⟨S₀, H₀, env, S, r, q⟩ => v_seq (fa := fa) (k := fun t _ => .ok (.bl (!t))) r (by
    unfold e1 at q
    rw [Zf3] at q
    exact q) fun t H1 S1 x r1 q1 => ⟨t, rfl, Good.sh q1 (Ext.refl r1.ext.sh) rfl⟩
theorem b_ifx {o : Own} (hc : PTB X Γ c ga) (ha : PEB X Γ a o fa) (hb : PEB X Γ b o fb) : PEB X Γ (.IfExp c a b pos) o (eIf ga fa fb) := .mk fun W =>
  pimp (Zdc (hc W) (ha W) (hb W)) fun σ H Q ⟨S₀, H₀, env, S, r, q⟩ => by
    refine ⟨S₀, H₀, env, S, r, ?_⟩
    unfold eIf at q
    cases hf : ga env with
    | no => rw [hf] at q; exact q.elim
    | err c => rw [hf] at q; exact q
    | ok t =>
      rw [hf, R.bind_ok] at q
      intro H1 S1 x
      cases t with
      | true =>
        rw [if_pos rfl] at q ⊢
        refine ⟨S₀, H₀, env, S1, r.grow x, ?_⟩
        cases hk : fa env with
        | no => rw [hk] at q; exact q
        | err c => rw [hk] at q; exact fun H2 S2 x2 => q H2 S2 (x.trans x2)
        | ok b => rw [hk] at q; exact fun w H2 S2 as x2 rw nd fr => q w H2 S2 as (x.trans x2) rw nd fun a m => ⟨x.h.none (fr a m).1, (fr a m).2⟩
      | false =>
        rw [if_neg Bool.false_ne_true] at q ⊢
        refine ⟨S₀, H₀, env, S1, r.grow x, ?_⟩
        cases hk : fb env with
        | no => rw [hk] at q; exact q
        | err c => rw [hk] at q; exact fun H2 S2 x2 => q H2 S2 (x.trans x2)
        | ok b => rw [hk] at q; exact fun w H2 S2 as x2 rw nd fr => q w H2 S2 as (x.trans x2) rw nd fun a m => ⟨x.h.none (fr a m).1, (fr a m).2⟩
end
end B
namespace B
open PySem PySem.Spec PyProof.Rows L2
def isSt : Expr -> Bool
  | .Starred _ _ => true
  | _ => false
theorem Z19 {e : Expr} {es : List Expr} {env : PySem.Env} (h : isSt e = false) : starEach (e :: es) env = (false, eval e env) :: starEach es env := by
  cases e <;> first | rfl | cases h
theorem Z1k {pos : Pos} {env : PySem.Env} : ∀ {es : List Expr}, es.all (fun e => !isSt e) = true -> (backTo pos (starEach es env)).any (·.1) = false
  | [], _ => rfl
  | e :: es, h => by
    rw [List.all_cons, Bool.and_eq_true] at h
    have h1 : isSt e = false := by simpa using h.1
    rw [Z19 h1]
    show (false || (backTo pos (starEach es env)).any (·.1)) = false
    rw [Z1k h.2]
    rfl
def tAs (X : Cx) (Γ : List Own) (os : List Own) (fs : List Ev) (W : WK) : TA := fun σ H Q => ∃ S₀ H₀ env S, Rel X.mg S₀ H₀ Γ env σ S H /\ (match evs fs env with
  | .ok ys => ∀ vs H' S' as, Ext S H S' H' -> Zu X.mg S' H' os ys vs as -> as.Nodup -> (∀ a ∈ as, H a = none /\ S' a = none) -> Q vs H'
  | .err c => Err S H (W c σ)
  | .no => False)
structure PAB (X : Cx) (Γ : List Own) (es : List Expr) (os : List Own) (fs : List Ev) : Prop where mk ::
  run : ∀ W, PA (XB X W) es (tAs X Γ os fs W)
instance {X : Cx} {Γ : List Own} {es : List Expr} {os : List Own} {fs : List Ev} : CoeFun (PAB X Γ es os fs) fun _ => ∀ W, PA (XB X W) es (tAs X Γ os fs W) := ⟨PAB.run⟩
theorem paimp {X : Cx} {es : List Expr} {t t' : TA} (h : PA X es t) (i : ∀ σ H Q, t' σ H Q -> t σ H Q) : PA X es t' := fun pos pins s σ H Q I q => h pos pins s σ H Q I (i σ H Q q)
theorem Z3j : ∀ {fs : List Ev} {env : Env} {ys : List PV}, evs fs env = .ok ys -> ys.length = fs.length
  | [], _, _, h => by cases h; rfl
  | f :: fs, env, ys, h => by
    unfold evs at h
    cases h1 : f env with
    | no => rw [h1] at h; cases h
    | err c => rw [h1] at h; cases h
    | ok x =>
      rw [h1, R.bind_ok] at h
      cases h2 : evs fs env with
      | no => rw [h2] at h; cases h
      | err c => rw [h2] at h; cases h
      | ok r => rw [h2] at h; cases h; simp [Z3j h2]
section
variable {X : Cx} {Γ : List Own} {a b c e : Expr} {es : List Expr} {fa fb fc f : Ev} {fs : List Ev} {pos : Pos} {o : Own} {os : List Own}
theorem Z2 : PAB X Γ [] [] [] := .mk fun W => paimp Z3l fun σ H Q ⟨S₀, H₀, env, S, r, q⟩ => q [] H S [] (Ext.refl r.ext.sh) ⟨rfl, rfl⟩ List.nodup_nil (fun a m => by cases m)
theorem Zdq {W : WK} {σ : L2.St} {H : Hp} {Q : List V -> Hp -> Prop} {o' : Own} {os' os'' : List Own}
    (h : ∀ {S1 H1 S2 H2 : Hp} {y : PV} {ys : List PV} {v : V} {vs : List V} {a1 a2 : List Addr}, OwnR X.mg S2 H2 o' y v a1 -> Zu X.mg S2 H2 os' ys vs a2 -> Zu X.mg S2 H2 os'' (y :: ys) (v :: vs) (a1 ++ a2))
    (q : tAs X Γ os'' (f :: fs) W σ H Q) : L2.tCons (tB X Γ o' f W) (tAs X Γ os' fs W) σ H Q := by
  obtain ⟨S₀, H₀, env, S, r, q⟩ := q
  refine ⟨S₀, H₀, env, S, r, ?_⟩
  unfold evs at q
  cases hf : f env with
  | no => rw [hf] at q; exact q.elim
  | err c => rw [hf] at q; exact q
  | ok y =>
    rw [hf, R.bind_ok] at q
    intro v H1 S1 a1 x1 r1 n1 f1
    refine ⟨S₀, H₀, env, S1, r.grow x1, ?_⟩
    cases hs : evs fs env with
    | no => rw [hs] at q; exact q
    | err c => rw [hs] at q; exact fun H2 S2 x2 => q H2 S2 (x1.trans x2)
    | ok ys =>
      rw [hs] at q
      intro vs H2 S2 a2 x2 r2 n2 f2
      have old : ∀ a ∈ a1, ∃ u, H1 a = some u := r1.there
      refine q (v :: vs) H2 S2 (a1 ++ a2) (x1.trans x2) (h (S1 := S1) (H1 := H1) (r1.mono x2.s x2.h) r2) (List.nodup_append.mpr ⟨n1, n2, fun a m b m' z => ?_⟩) fun a m => ?_
      . obtain ⟨u, hu⟩ := old a m
        rw [z, (f2 b m').1] at hu; cases hu
      . rcases List.mem_append.mp m with m | m
        . refine ⟨(f1 a m).1, ?_⟩
          cases z : S2 a with
          | none => rfl
          | some o =>
            rcases x2.n a o z with w | w
            . rw [(f1 a m).2] at w; cases w
            . obtain ⟨u, hu⟩ := old a m
              rw [w] at hu; cases hu
        . exact ⟨x1.h.none (f2 a m).1, (f2 a m).2⟩
theorem Z0 (ha : PEB X Γ e .s f) (hr : PAB X Γ es [] fs) (hs : starEach (e :: es) X.env = (false, eval e X.env) :: starEach es X.env := by exact Z19 rfl) : PAB X Γ (e :: es) [] (f :: fs) := .mk fun W =>
  paimp (Z26 (ha W) (hr W) hs) fun σ H Q q => Zdq (os' := []) (os'' := []) (fun r1 r2 => ⟨by rw [r1.1, r2.1]; rfl, _, _, rfl, r1.2, r2.2⟩) q
theorem Z28 (h : PAB X Γ es os fs) (hl : fs.length <= 1000 := by decide) : PEB X Γ (.List es pos) (.o os) (eLst fs) := .mk fun W =>
  pimp (pe_lst (h W)) fun σ H Q ⟨S₀, H₀, env, S, r, q⟩ => by
    refine ⟨S₀, H₀, env, S, r, ?_⟩
    unfold eLst at q
    cases hf : evs fs env with
    | no => rw [hf] at q; exact q.elim
    | err c => rw [hf] at q; exact q
    | ok ys =>
      rw [hf] at q
      intro vs H' S' as x rv nd fr
      have e1 := Z3j hf
      have e2 := rv.length
      refine ⟨by rw [sizeLine_eq]; omega, fun p hp => ?_⟩
      have ne : ∀ a ∈ as, a ≠ p := fun a m z => by
        obtain ⟨u, hu⟩ := rv.there a m
        rw [z, hp] at hu; cases hu
      refine q (.ref p) (upd H' p (.lst vs)) S' (p :: as) (x.trans (Ext.own x.sh hp)) ⟨p, vs, as, rfl, Zg, rv.keep Sub.refl fun a m u z => by rw [Z8 (ne a m)]; exact z, rfl⟩
        (List.nodup_cons.mpr ⟨fun m => ne p m rfl, nd⟩) fun a m => ?_
      rcases List.mem_cons.mp m with rfl | m
      . exact ⟨x.h.none hp, x.sh.none hp⟩
      . exact fr a m
theorem Z1h {k : Nat} (h : PAB X Γ es [] fs) (hl : fs.length <= 1000 := by decide) : PEB X Γ (.Tuple es k pos) .s (eTup fs) := .mk fun W =>
  pimp (pe_tup (h W)) fun σ H Q ⟨S₀, H₀, env, S, r, q⟩ => by
    refine ⟨S₀, H₀, env, S, r, ?_⟩
    unfold eTup at q
    cases hf : evs fs env with
    | no => rw [hf] at q; exact q.elim
    | err c => rw [hf] at q; exact q
    | ok ys =>
      rw [hf] at q
      intro vs H' S' as x ⟨_, rv⟩ nd fr
      have e1 := Z3j hf
      have e2 := rv.length
      refine ⟨by rw [sizeLine_eq]; omega, fun p hp => ?_⟩
      have x2 := Ext.new (o := .tup vs) x.sh hp
      exact Good.sh q (x.trans x2) ⟨p, vs, rfl, Zg, rv.mono x2.s⟩
def Z2a (X : Cx) (fv : Value) (o : Own) (g : List PV -> R PV) : Prop := ∀ W, ∃ r : List V -> Hp -> VK -> Prop, Z11 (XB X W) fv r /\ ∀ (ys : List PV) (vs : List V) (S H : Hp), Sub S H -> Reps X.mg S ys vs -> OkR (g ys) fun z => ∀ Q : VK, Good X.mg S H o z Q -> r vs H Q
theorem Z3y {g : List PV -> R PV} {r : List V -> Hp -> VK -> Prop} {W : WK} {σ : L2.St} {H : Hp} {Q : VK}
    (hr : ∀ (ys : List PV) (vs : List V) (S H : Hp), Sub S H -> Reps X.mg S ys vs -> OkR (g ys) fun z => ∀ Q : VK, Good X.mg S H o z Q -> r vs H Q)
    (h : tB X Γ o (eN g fs) W σ H Q) : tCB r (tAs X Γ [] fs W) σ H Q := by
  obtain ⟨S₀, H₀, env, S, rl, q⟩ := h
  refine ⟨S₀, H₀, env, S, rl, ?_⟩
  unfold eN at q
  cases hf : evs fs env with
  | no => rw [hf] at q; exact q.elim
  | err c => rw [hf] at q; exact q
  | ok ys =>
    rw [hf, R.bind_ok] at q
    intro vs H1 S1 as x ⟨_, rv⟩ _ _
    have z := hr ys vs S1 H1 x.sh rv
    cases hg : g ys with
    | no => rw [hg] at q; exact q.elim
    | err c => rw [hg] at z; exact z.elim
    | ok y =>
      rw [hg] at z q
      exact z Q fun p H2 S2 as2 x2 rp nd fr => q p H2 S2 as2 (x.trans x2) rp nd fun a m => ⟨x.h.none (fr a m).1, (fr a m).2⟩
theorem Zw {id : String} {x : Str} {p : Pos} {g : List PV -> R PV} (hc : Z2a X (.builtin id) o g) (hg : Gl X x) (hm : X.mg x = none) (hv : bootBuiltins x = some (.builtin id)) (ha : PAB X Γ (e :: es) [] fs) (hn : x ≠ "__name__" := by decide) (hdb : (x == ("__debug__" : Str)) = false := by decide)
    (he : starEach (e :: es) X.env = (false, eval e X.env) :: starEach es X.env := by exact Z19 rfl) (hpl : (backTo pos (starEach es X.env)).any (·.1) = false := by exact Z1k rfl) : PEB X Γ (.Call (.Name x p) (e :: es) [] pos) o (eN g fs) := .mk fun W => by
  obtain ⟨r, h1, h2⟩ := hc W
  exact pimp (Z4j (X := XB X W) h1 hg hm hv (ha W) hn hdb he hpl) fun σ H Q h => Z3y h2 h
theorem Z1t {T : String} {x : Str} {p : Pos} {g : List PV -> R PV} (hc : Z2a X (.type T) o g) (hg : Gl X x) (hm : X.mg x = none) (hv : bootBuiltins x = some (.type T)) (ha : PAB X Γ (e :: es) [] fs) (hn : x ≠ "__name__" := by decide) (hdb : (x == ("__debug__" : Str)) = false := by decide)
    (he : starEach (e :: es) X.env = (false, eval e X.env) :: starEach es X.env := by exact Z19 rfl) (hpl : (backTo pos (starEach es X.env)).any (·.1) = false := by exact Z1k rfl) : PEB X Γ (.Call (.Name x p) (e :: es) [] pos) o (eN g fs) := .mk fun W => by
  obtain ⟨r, h1, h2⟩ := hc W
  exact pimp (Z5v (X := XB X W) h1 hg hm hv (ha W) hn hdb he hpl) fun σ H Q h => Z3y h2 h
theorem Zbs : Z11 X (.builtin "len") (fun xs H Q => ∃ a kvs, xs = [V.ref a] /\ Rd H a (.dK kvs) /\ Q (.int kvs.length) H) := by
  intro pins s σ H xs us Q I r h
  obtain ⟨a, kvs, rfl, ha, q⟩ := h
  obtain ⟨u, rfl, ru⟩ := Z1j r
  cases ru
  exact d_len I ha fun t s' I' => ⟨.int kvs.length, H, I', ⟨t, rfl⟩, q⟩
theorem Za9 {prog : Program} {w : World} (d : Addr) (hd : (d == sysModules) = false) :
    MeetsIn prog w (Builtin.«dict.__len__» ⟨[.ref d], []⟩) (fun _ R s => ∃ o es ep, s.heap.get? d = some o /\ o.data = .dict es ep /\ R (.ok (.ret (.int es.size s.toks))) { s with toks := s.toks + 1 }) :=
  .of_wp fun A R s ⟨o, es, ep, ho, hdat, h⟩ => by
    show wpAny _ _ (dictSize d >>= _) _ _ s
    unfold dictSize
    refine wpAny_bind (wpAny_bind (wpAny_dictEntries ho hdat (wpAny_pure ?_)))
    show wpAny _ _ (Builtin.Dict.pendingCount d >>= _) _ _ s
    refine wpAny_bind (wpAny_pendingCount_other hd ?_)
    refine wpAny_ret_mkInt ?_
    rw [Nat.add_zero]; exact h
theorem Zbe {prog : Program} {w : World} {A : Around} {E : Value -> Shared -> Prop} {s : Shared} {d : Addr} {o : Obj} {es : Array DictEntry} {ep : Nat} {Q : Value -> Shared -> Prop} (hd : (d == sysModules) = false) (hT : s.TypeIs (.ref d) "dict") (ho : s.heap.get? d = some o) (hdat : o.data = .dict es ep) (hfit : (es.size : Int) < 2 ^ 63)
    (h : Q (.int es.size (s.toks + 1)) { s with toks := s.toks + 1 + 1 }) : wpAny (model prog w) A (call (.builtin "len") [.ref d]) Q E s := by
  refine Calls.call_function_entry kind_len plain_len entry_len (args_len1 _) ?_
  unfold Builtin.«len»
  refine wpAny_bind (m := oneArg "len" _) (wpAny_pure ?_)
  refine wpAny_bind (m := callSpecial? (.ref d) (Str.ofString "__len__")) (wpAny_callSpecial?_slot (name := Str.ofString "__len__") hT PySem.F.slot_dict_len
    (call_meetsIn PySem.F.slot_dict_len hT PySem.F.entry_dict_len (PySem.F.args_dict_len_1 _) (Za9 d hd) ⟨o, es, ep, ho, hdat, ?_⟩))
  show wpAny _ _ _ _ _ { s with toks := s.toks + 1 }
  refine wpAny_bind (wpAny_holding (wpAny_pure ?_))
  refine wpAny_bind (wpAny_letGo ?_)
  show wpAny _ _ (if ((es.size : Nat) : Int) < 0 then _ else _) _ _ _
  rw [if_neg (by omega)]
  show wpAny _ _ (if ((es.size : Nat) : Int) ≥ 2 ^ 63 then _ else _) _ _ _
  rw [if_neg (by omega)]
  exact wpAny_bind (wpAny_mkInt (wpAny_pure ⟨_, rfl, h⟩))
theorem Zbp : Z11 X (.builtin "len") (fun xs H Q => ∃ a kvs, xs = [V.ref a] /\ Rd H a (.dT kvs) /\ Q (.int kvs.length) H) := by
  intro pins s σ H xs us Q I r h
  obtain ⟨a, kvs, rfl, ha, q⟩ := h
  obtain ⟨u, rfl, ru⟩ := Z1j r
  cases ru
  obtain ⟨z, hd, ws, rel, dd⟩ := Z4s I.hok ha
  have hT := dd.typeIs
  obtain ⟨o, es, ep, ho, hex, hdat, he, _⟩ := dd
  have hl : es.size = kvs.length := by
    rw [size_of_entries he]
    exact (Paired.length rel).symm
  refine Zbe hd hT ho hdat (by rw [hl]; rw [sizeLine_eq] at z; omega) ?_
  rw [hl]
  exact ⟨.int kvs.length, H, I.tok _, ⟨_, rfl⟩, q⟩
theorem Z1s : Z2a X (.builtin "len") .s cLen := fun W => by
  refine ⟨_, Zd9.or (Zbs.or Zbp), fun ys vs S H hs r => ?_⟩
  match ys, r with
  | [], _ => exact True.intro
  | y :: _ :: _, _ => cases y <;> exact True.intro
  | [.non], _ => exact True.intro
  | [.bl _], _ => exact True.intro
  | [.int _], _ => exact True.intro
  | [.ins _ _], _ => exact True.intro
  | [.exc _], _ => exact True.intro
  | [.str x], ⟨v, _, e1, rv, e2⟩ =>
    refine OkR.when fun h Q g => .inl ⟨.str x, x.length, ?_, ⟨by rw [Z1u]; exact of_decide_eq_true h, rfl⟩, g.sh (Ext.refl hs) rfl⟩
    rw [e1, e2, show v = .str x from rv]
  | [.lst xs], ⟨v, _, e1, ⟨a, us, ea, ra, rs⟩, e2⟩ =>
    intro Q g
    subst e1 e2 ea
    exact .inl ⟨.ref a, us.length, rfl, .inl ⟨us, .inl (Rd.mono hs ra), rfl⟩, g.sh (Ext.refl hs) (by rw [rs.length]; rfl)⟩
  | [.tup xs], ⟨v, _, e1, ⟨a, us, ea, ra, rs⟩, e2⟩ =>
    intro Q g
    subst e1 e2 ea
    exact .inl ⟨.ref a, us.length, rfl, .inr ⟨us, SqT.of (hs _ _ ra), rfl⟩, g.sh (Ext.refl hs) (by rw [rs.length]; rfl)⟩
  | [.dct xs], ⟨v, _, e1, ⟨a, ea, q⟩, e2⟩ =>
    intro Q g
    subst e1 e2 ea
    rcases q with ⟨ks, ra, rs⟩ | ⟨ks, ra, rs⟩
    . exact .inr (.inl ⟨a, ks, rfl, Rd.mono hs ra, g.sh (Ext.refl hs) (by rw [rs.length]; rfl)⟩)
    . exact .inr (.inr ⟨a, ks, rfl, Rd.mono hs ra, g.sh (Ext.refl hs) (by rw [rs.length]; rfl)⟩)
end
end B
namespace B
open PySem PySem.Spec PyProof.Rows L2
theorem Z9e : ∀ (a b : Key), eqd (kPV a) (kPV b) = decide (a = b)
  | .inl a, .inl b => by rw [Zco]; rfl
  | .inr a, .inr b => by rw [Zcw]; rfl
  | .inl a, .inr b => by rw [Zc2]; rfl
  | .inr a, .inl b => by rw [Zb1]; rfl
theorem Z8a : ∀ (a b : List Key), eqds (a.map kPV) (b.map kPV) = decide (a = b)
  | [], [] => by simp [eqds]
  | [], _ :: _ => by simp [eqds]
  | _ :: _, [] => by simp [eqds]
  | a :: as, b :: bs => by
    show (eqd (kPV a) (kPV b) && eqds (as.map kPV) (bs.map kPV)) = _
    rw [Z9e, Z8a as bs, Bool.eq_iff_iff]
    simp
theorem eqd_kT (a b : List Key) : eqd (.tup (a.map kPV)) (.tup (b.map kPV)) = decide (a = b) := Z8a a b
def Z6z (mg : MG) (S : Hp) : Option PV -> Option V -> Prop
  | some y, some v => Rep mg S y v
  | none, none => True
  | _, _ => False
theorem Z6d {κ : Type} [DecidableEq κ] {k0 k : κ} {v : V} {r : List (κ × V)} : valV ((k0, v) :: r) k = if k0 = k then some v else valV r k := by
  unfold valV
  rw [List.find?_cons]
  by_cases h : k0 = k
  . rw [if_pos h]; simp [h]
  . rw [if_neg h]; simp [h]
section
variable {mg : MG} {S H : Hp}
theorem Zcn {k : Key} : ∀ {kvs : List (PV × PV)} {ks : List (Key × V)}, RepK mg S kvs ks -> Z6z mg S (dget kvs (kPV k)) (valV ks k)
  | [], _, r => by cases (show _ = [] from r); exact True.intro
  | (p, y) :: ys, _, ⟨k0, v, r, e, ep, h1, h2⟩ => by
    subst e ep
    rw [Z6d]
    unfold dget
    rw [Z9e]
    by_cases h : k0 = k
    . rw [if_pos (decide_eq_true h), if_pos h]; exact h1
    . rw [if_neg (by simpa using h), if_neg h]; exact Zcn h2
theorem Zcy {k : List Key} : ∀ {kvs : List (PV × PV)} {ks : List (List Key × V)}, RepT mg S kvs ks -> Z6z mg S (dget kvs (.tup (k.map kPV))) (valV ks k)
  | [], _, r => by cases (show _ = [] from r); exact True.intro
  | (p, y) :: ys, _, ⟨k0, v, r, e, ep, h1, h2⟩ => by
    subst e ep
    rw [Z6d]
    unfold dget
    rw [eqd_kT]
    by_cases h : k0 = k
    . rw [if_pos (decide_eq_true h), if_pos h]; exact h1
    . rw [if_neg (by simpa using h), if_neg h]; exact Zcy h2
theorem key_1 {x : PV} {v : V} (r : Rep mg S x v) (h : x.key1 = true) : ∃ k : Key, x = kPV k /\ v = kV k := by
  cases x with
  | int i => exact ⟨.inl i, rfl, r⟩
  | str i => exact ⟨.inr i, rfl, r⟩
  | _ => cases h
theorem Zc5 : ∀ {xs : List PV} {vs : List V}, Reps mg S xs vs -> xs.all PV.key1 = true -> ∃ ks : List Key, xs = ks.map kPV /\ vs = ks.map kV
  | [], _, r, _ => by cases (show _ = [] from r); exact ⟨[], rfl, rfl⟩
  | x :: xs, _, ⟨v, r, e, h1, h2⟩, h => by
    rw [List.all_cons, Bool.and_eq_true] at h
    obtain ⟨k, e1, e2⟩ := key_1 h1 h.1
    obtain ⟨ks, e3, e4⟩ := Zc5 h2 h.2
    subst e e1 e2 e3 e4
    exact ⟨k :: ks, rfl, rfl⟩
theorem key_T {x : PV} {v : V} (r : Rep mg S x v) (h : x.keyT = true) : ∃ (b : Addr) (ks : List Key), x = .tup (ks.map kPV) /\ v = .ref b /\ S b = some (.tup (ks.map kV)) := by
  cases x with
  | tup xs =>
    obtain ⟨b, vs, e, q, rs⟩ := r
    obtain ⟨ks, e1, e2⟩ := Zc5 rs h
    subst e1 e2
    exact ⟨b, ks, rfl, e, q⟩
  | _ => cases h
def DG (H : Hp) (a : Addr) (y : V) (r : Option V) : Prop := DGet H a y r \/ (r = none /\ Rd H a (.dK []) /\ ∃ (b : Addr) (k : List Key), y = .ref b /\ H b = some (.tup (k.map kV))) \/ (r = none /\ Rd H a (.dT []) /\ ∃ k, y = kV k)
theorem no_K : ∀ {kvs : List (PV × PV)} {ks : List (Key × V)}, RepK mg S kvs ks -> (kvs.all (·.1.keyT)) = true -> kvs = [] /\ ks = []
  | [], _, r, _ => ⟨rfl, r⟩
  | (p, y) :: ys, _, ⟨k0, v, r, e, ep, h1, h2⟩, h => by
    subst ep
    rw [List.all_cons, Bool.and_eq_true] at h
    cases k0 <;> cases h.1
theorem no_T : ∀ {kvs : List (PV × PV)} {ks : List (List Key × V)}, RepT mg S kvs ks -> (kvs.all (·.1.key1)) = true -> kvs = [] /\ ks = []
  | [], _, r, _ => ⟨rfl, r⟩
  | (p, y) :: ys, _, ⟨k0, v, r, e, ep, h1, h2⟩, h => by
    subst ep
    rw [List.all_cons, Bool.and_eq_true] at h
    cases h.1
theorem dg_of (hs : Sub S H) {kvs : List (PV × PV)} {x : PV} {u y : V} (rd : Rep mg S (.dct kvs) u) (rx : Rep mg S x y) (hk : Z39 kvs x = true) : ∃ a r, u = .ref a /\ DG H a y r /\ Z6z mg S (dget kvs x) r := by
  obtain ⟨a, rfl, q⟩ := rd
  unfold Z39 at hk
  rw [Bool.or_eq_true, Bool.and_eq_true, Bool.and_eq_true] at hk
  rcases hk with ⟨h1, h2⟩ | ⟨h1, h2⟩
  . obtain ⟨k, rfl, rfl⟩ := key_1 rx h1
    rcases q with ⟨ks, q, rk⟩ | ⟨ts, q, rt⟩
    . exact ⟨a, _, rfl, .inl (.inl ⟨ks, k, Rd.mono hs q, rfl, rfl⟩), Zcn rk⟩
    . obtain ⟨rfl, rfl⟩ := no_T rt h2
      exact ⟨a, none, rfl, .inr (.inr ⟨rfl, Rd.mono hs q, k, rfl⟩), True.intro⟩
  . obtain ⟨b, k, rfl, rfl, hb⟩ := key_T rx h1
    rcases q with ⟨ks, q, rk⟩ | ⟨ts, q, rt⟩
    . obtain ⟨rfl, rfl⟩ := no_K rk h2
      exact ⟨a, none, rfl, .inr (.inl ⟨rfl, Rd.mono hs q, b, k, rfl, hs _ _ hb⟩), True.intro⟩
    . exact ⟨a, _, rfl, .inl (.inr ⟨ts, k, b, Rd.mono hs q, rfl, hs _ _ hb, rfl⟩), Zcy rt⟩
end
section
variable {P : Program} {w : World} {H : Hp} {h : Heap} {a : Addr}
theorem Zg3 (ok : HOk P w H h) (e : Rd H a (.dK [])) : (a == sysModules) = false /\ h.DictOfH (tupleKind (Z14 P w)) a ([] : List (List Key × Addr × Value)) := by
  obtain ⟨_, hd, vs, r, o, es, ep, h1, h2, h3, h4, h5, h6⟩ := Z56 ok e
  cases r
  have e0 : es.toList = [] := by
    cases hE : es.toList with
    | nil => rfl
    | cons d l => rw [hE] at h5; cases h5
  exact ⟨hd, o, es, ep, h1, h2, h3, by rw [e0]; rfl, (fun x m => by simp at m), List.nodup_nil⟩
theorem Zex (ok : HOk P w H h) (e : Rd H a (.dT [])) : (a == sysModules) = false /\ h.DictOf (Z14 P w) a ([] : List (Key × Value)) := by
  obtain ⟨_, hd, xs, r, o, es, ep, h1, h2, h3, h4, h5, h6⟩ := Z4s ok e
  cases r
  have e0 : es = #[] := by
    apply Array.toList_inj.mp
    rw [h4]
    rfl
  subst e0
  exact ⟨hd, o, #[], ep, h1, h2, h3, fun d m => by simp at m, by constructor, List.nodup_nil⟩
end
section
variable {X : Cx} {pins : List (Addr × Obj)} {σ : L2.St} {H : Hp} {s : Shared} {a : Addr} {y v d : V} {u r : Value} {o : Option V} {A : Around} {E : Value -> Shared -> Prop}
theorem dg_in {Q : Value -> Shared -> Prop} (hu : A.units + 1 < cLine) (I : Inv X pins σ H s) (g : DG H a y o) (ry : RelV y u) (h : ∀ s', Inv X pins σ H s' -> Q (.bool o.isSome) s') : wpAny (model X.prog X.w) A (compareOp .In u (.ref a)) Q E s := by
  rcases g with g | ⟨rfl, e, b, k, rfl, hb⟩ | ⟨rfl, e, k, rfl⟩
  . exact d_in hu I g ry h
  . cases (show u = Value.ref b from ry)
    obtain ⟨hd, dd⟩ := Zg3 I.hok e
    exact wpAny_in_heap (tupleKind_room_in1 hu) (Z57 I.hok hb) hd dd (h _ (I.tok _))
  . obtain ⟨hd, dd⟩ := Zex I.hok e
    exact wpAny_in_of (Z6x ry) hd dd.mapOf (h _ (I.tok _))
end
section
variable {X : Cx}
theorem op_inD (hu : X.A.units + 1 < cLine) : OpR X (compareOp .In) (fun x y H Q => ∃ a o, y = .ref a /\ DG H a x o /\ Q (.bl o.isSome) H) := by
  intro pins s σ H x y v u Q I rx ry h
  obtain ⟨a, o, rfl, g, q⟩ := h
  cases ry
  exact dg_in hu I g rx fun s' I' => ⟨.bl o.isSome, H, I', rfl, q⟩
theorem Za5 {mg : MG} {S : Hp} {x : Option PV} {v : Option V} (r : Z6z mg S x v) : x.isSome = v.isSome := by
  cases x <;> cases v <;> first | rfl | exact r.elim
end
end B
namespace B
open PySem PySem.Spec PyProof.Rows L2
section
variable {X : Cx} {Γ : List Own} {a b c e : Expr} {es : List Expr} {fa fb fc f : Ev} {fs : List Ev} {pos : Pos} {o : Own} {os : List Own}
theorem Zd2 {mg : MG} {S : Hp} {x y : PV} {v u : V} (rx : Rep mg S x v) (ry : Rep mg S y u) (h : Z50 x y = true) : scal v u = true /\ decide (v = u) = eqd x y := by
  cases x <;> cases y <;> first | (cases h; done) | skip
  all_goals (cases (show v = _ from rx); cases (show u = _ from ry))
  all_goals refine ⟨rfl, ?_⟩
  all_goals simp [eqd]
  all_goals rfl
theorem Z53 {mg : MG} {S : Hp} {x : PV} {v : V} (r : Rep mg S x v) (h : x.flat = true) : Z1a v = true := by
  cases x <;> first | (cases h; done) | (cases (show v = _ from r); rfl)
theorem Zar {mg : MG} {S : Hp} {x y : PV} {v u : V} (rx : Rep mg S x v) (ry : Rep mg S y u) (hx : x.flat = true) (hy : y.flat = true) : eqV v u = eqd x y := by
  cases x <;> first | (cases hx; done) | skip
  all_goals (cases y <;> first | (cases hy; done) | skip)
  all_goals (cases (show v = _ from rx); cases (show u = _ from ry))
  all_goals simp [eqd, eqV, b2i]
  all_goals rfl
theorem Z17 {mg : MG} {S : Hp} : ∀ {ys : List PV} {vs : List V}, Reps mg S ys vs -> ys.all PV.flat = true -> vs.all Z1a = true
  | [], _, r, _ => by cases (show _ = [] from r); rfl
  | y :: ys, _, ⟨v, r, e, h, t⟩, f => by
    rw [List.all_cons, Bool.and_eq_true] at f
    rw [e, List.all_cons, Z53 h f.1, Z17 t f.2]
    rfl
def eqVs : List V -> List V -> Bool
  | [], [] => true
  | x :: xs, y :: ys => eqV x y && eqVs xs ys
  | _, _ => false
theorem Z2p : ∀ {xs ys : List V}, xs.length ≠ ys.length -> eqVs xs ys = false
  | [], [], h => absurd rfl h
  | [], _ :: _, _ => rfl
  | _ :: _, [], _ => rfl
  | x :: xs, y :: ys, h => by
    show (eqV x y && eqVs xs ys) = false
    rw [Z2p fun e => h (by simp [e]), Bool.and_false]
theorem Z24 : ∀ {xs ys : List V}, xs.length = ys.length -> (List.range xs.length).all (fun j => eqV (xs.getD j .non) (ys.getD j .non)) = eqVs xs ys
  | [], [], _ => rfl
  | [], _ :: _, h => by simp at h
  | _ :: _, [], h => by simp at h
  | x :: xs, y :: ys, h => by
    rw [List.length_cons, List.range_succ_eq_map, List.all_cons, List.all_map]
    show (eqV x y && _) = (eqV x y && eqVs xs ys)
    rw [<- Z24 (xs := xs) (ys := ys) (by simpa using h)]
    rfl
theorem Z3c {mg : MG} {S : Hp} : ∀ {xs ys : List PV} {vs us : List V}, Reps mg S xs vs -> Reps mg S ys us -> xs.all PV.flat = true -> ys.all PV.flat = true -> eqVs vs us = eqds xs ys
  | [], [], _, _, r, q, _, _ => by cases (show _ = [] from r); cases (show _ = [] from q); rfl
  | [], y :: ys, _, _, r, ⟨v, t, e, _, _⟩, _, _ => by cases (show _ = [] from r); rw [e]; rfl
  | x :: xs, [], _, _, ⟨v, t, e, _, _⟩, q, _, _ => by cases (show _ = [] from q); rw [e]; rfl
  | x :: xs, y :: ys, _, _, ⟨v, r, e, h, t⟩, ⟨v', r', e', h', t'⟩, f, f' => by
    rw [List.all_cons, Bool.and_eq_true] at f f'
    subst e e'
    show (eqV v v' && eqVs r r') = (eqd x y && eqds xs ys)
    rw [Zar h h' f.1 f'.1, Z3c t t' f.2 f'.2]
theorem Z2w {A : Around} {s : Shared} {xs ys : List V} {us ws : List Value} (r : Vals xs us) (q : Vals ys ws) (f : xs.all Z1a = true) (g : ys.all Z1a = true) (j : Nat) (h1 : j < us.toArray.size) (h2 : j < ws.toArray.size) :
    SeqAt.EqAt A s us.toArray[j] ws.toArray[j] (eqV (xs.getD j .non) (ys.getD j .non)) := by
  have k1 : j < xs.length := by rw [r.length]; simpa using h1
  have k2 : j < ys.length := by rw [q.length]; simpa using h2
  obtain ⟨u, e1, ru⟩ := r.get (show xs[j]? = some xs[j] by simp [k1])
  obtain ⟨w, e2, rw'⟩ := q.get (show ys[j]? = some ys[j] by simp [k2])
  have h1' : j < us.length := by simpa using h1
  have h2' : j < ws.length := by simpa using h2
  have e1 : us[j] = u := by rw [List.getElem?_eq_getElem h1'] at e1; exact Option.some.inj e1
  have e2 : ws[j] = w := by rw [List.getElem?_eq_getElem h2'] at e2; exact Option.some.inj e2
  have d1 : xs.getD j .non = xs[j] := by simp [List.getD, k1]
  have d2 : ys.getD j .non = ys[j] := by simp [List.getD, k2]
  rw [d1, d2, List.getElem_toArray, List.getElem_toArray, e1, e2]
  exact Z85 ru rw' (List.all_eq_true.mp f _ (List.getElem_mem k1)) (List.all_eq_true.mp g _ (List.getElem_mem k2))
def rEqL (K : PySem.W.Frag) (t : Bool -> Bool) : R2 := fun v u H Q => ∃ a b vs us, v = .ref a /\ u = .ref b /\ ((SqL K H a vs /\ SqL K H b us) \/ (SqT K H a vs /\ SqT K H b us)) /\ vs.all Z1a = true /\ us.all Z1a = true /\ Q (.bl (t (eqVs vs us))) H
theorem Z6g {xs ys : List V} : ((List.range (min xs.length ys.length)).all (fun j => eqV (xs.getD j .non) (ys.getD j .non)) && xs.length == ys.length) = eqVs xs ys := by
  by_cases h : xs.length = ys.length
  . rw [<- h, Nat.min_self, Z24 h]
    simp
  . rw [Z2p h]
    simp [h]
theorem op_eqL (hu : X.A.units < cLine) : OpR X (compareOp .Eq) (rEqL X.K id) := by
  intro pins s σ H x y v u Q I rx ry h
  obtain ⟨a, b, vs, us, rfl, rfl, hq, f, g, q⟩ := h
  cases rx
  cases ry
  have fin : EP X pins σ Q (.bool (eqVs vs us)) s := ⟨.bl (eqVs vs us), H, I, rfl, q⟩
  rcases hq with ⟨h1, h2⟩ | ⟨h1, h2⟩
  . obtain ⟨its, r1, p1, z1⟩ := I.list h1
    obtain ⟨its2, r2, p2, z2⟩ := I.list h2
    by_cases hl : vs.length = us.length
    . refine SeqAt.eq_listAt p1.isList p2.isList (by simp [<- r1.length, <- r2.length, hl]) hu (Z2w r1 r2 f g) ?_
      rw [List.size_toArray, <- r1.length, Z24 hl]
      exact fin
    . refine SeqAt.eq_list_lengthsAt p1.isList p2.isList (by simp [<- r1.length, <- r2.length, hl]) hu ?_
      rw [Z2p hl] at fin
      exact fin
  . obtain ⟨its, r1, p1, z1⟩ := I.tuple h1
    obtain ⟨its2, r2, p2, z2⟩ := I.tuple h2
    refine SeqAt.eq_tupleAt (show s.heap.IsTuple a its.toArray from p1) (show s.heap.IsTuple b its2.toArray from p2) hu (Z2w r1 r2 f g) ?_
    rw [List.size_toArray, List.size_toArray, <- r1.length, <- r2.length, Z6g]
    exact fin
theorem op_neL (hu : X.A.units < cLine) : OpR X (compareOp .NotEq) (rEqL X.K not) := by
  intro pins s σ H x y v u Q I rx ry h
  obtain ⟨a, b, vs, us, rfl, rfl, hq, f, g, q⟩ := h
  cases rx
  cases ry
  have fin : EP X pins σ Q (.bool (!eqVs vs us)) s := ⟨.bl (!eqVs vs us), H, I, rfl, q⟩
  rcases hq with ⟨h1, h2⟩ | ⟨h1, h2⟩
  . obtain ⟨its, r1, p1, z1⟩ := I.list h1
    obtain ⟨its2, r2, p2, z2⟩ := I.list h2
    by_cases hl : vs.length = us.length
    . refine SeqAt.RcNeAt.lists p1.isList p2.isList (by simp [<- r1.length, <- r2.length, hl]) hu (Z2w r1 r2 f g) _ _ _ _ ?_
      rw [List.size_toArray, <- r1.length, Z24 hl]
      exact fin
    . refine SeqAt.RcNeAt.lists_lengths p1.isList p2.isList (by simp [<- r1.length, <- r2.length, hl]) hu _ _ _ _ ?_
      rw [Z2p hl] at fin
      exact fin
  . obtain ⟨its, r1, p1, z1⟩ := I.tuple h1
    obtain ⟨its2, r2, p2, z2⟩ := I.tuple h2
    refine SeqAt.RcNeAt.tuples (show s.heap.IsTuple a its.toArray from p1) (show s.heap.IsTuple b its2.toArray from p2) hu (Z2w r1 r2 f g) _ _ _ _ ?_
    rw [List.size_toArray, List.size_toArray, <- r1.length, <- r2.length, Z6g]
    exact fin
theorem o_eq (hu : X.A.units + 1 < cLine) : OpB X (compareOp .Eq) .s oEq := fun W => by
  refine ⟨_, op_eq.or (op_eqL (X := XB X W) (Nat.lt_of_succ_lt hu)), fun x y v u S H hs rx ry => ?_⟩
  have gen : oEq x y = when (Z50 x y) (.ok (.bl (eqd x y))) -> OkR (oEq x y) fun z => ∀ Q : VK, Good X.mg S H .s z Q -> rEq v u H Q \/ rEqL X.K id v u H Q := fun e => by
    rw [e]
    refine OkR.when fun h Q g => .inl ?_
    obtain ⟨h1, h2⟩ := Zd2 rx ry h
    exact ⟨h1, g.sh (Ext.refl hs) (by rw [h2]; rfl)⟩
  cases x <;> cases y <;> first | exact gen rfl | skip
  case tup.tup xs ys =>
    refine OkR.when fun h Q g => .inr ?_
    rw [Bool.and_eq_true] at h
    obtain ⟨a, vs, rfl, q1, r1⟩ := rx
    obtain ⟨b, us, rfl, q2, r2⟩ := ry
    exact ⟨a, b, vs, us, rfl, rfl, .inr ⟨SqT.of (hs _ _ q1), SqT.of (hs _ _ q2)⟩, Z17 r1 h.1, Z17 r2 h.2, g.sh (Ext.refl hs) (by rw [Z3c r1 r2 h.1 h.2]; rfl)⟩
  case lst.lst xs ys =>
    refine OkR.when fun h Q g => .inr ?_
    rw [Bool.and_eq_true] at h
    obtain ⟨a, vs, rfl, q1, r1⟩ := rx
    obtain ⟨b, us, rfl, q2, r2⟩ := ry
    exact ⟨a, b, vs, us, rfl, rfl, .inl ⟨.inl (Rd.mono hs q1), .inl (Rd.mono hs q2)⟩, Z17 r1 h.1, Z17 r2 h.2, g.sh (Ext.refl hs) (by rw [Z3c r1 r2 h.1 h.2]; rfl)⟩
theorem o_ne (hu : X.A.units + 1 < cLine) : OpB X (compareOp .NotEq) .s oNe := fun W => by
  refine ⟨_, op_ne.or (op_neL (X := XB X W) (Nat.lt_of_succ_lt hu)), fun x y v u S H hs rx ry => ?_⟩
  have gen : oNe x y = when (Z50 x y) (.ok (.bl (!eqd x y))) -> OkR (oNe x y) fun z => ∀ Q : VK, Good X.mg S H .s z Q -> rNe v u H Q \/ rEqL X.K not v u H Q := fun e => by
    rw [e]
    refine OkR.when fun h Q g => .inl ?_
    obtain ⟨h1, h2⟩ := Zd2 rx ry h
    exact ⟨h1, g.sh (Ext.refl hs) (by rw [h2]; rfl)⟩
  cases x <;> cases y <;> first | exact gen rfl | skip
  case tup.tup xs ys =>
    refine OkR.when fun h Q g => .inr ?_
    rw [Bool.and_eq_true] at h
    obtain ⟨a, vs, rfl, q1, r1⟩ := rx
    obtain ⟨b, us, rfl, q2, r2⟩ := ry
    exact ⟨a, b, vs, us, rfl, rfl, .inr ⟨SqT.of (hs _ _ q1), SqT.of (hs _ _ q2)⟩, Z17 r1 h.1, Z17 r2 h.2, g.sh (Ext.refl hs) (by rw [Z3c r1 r2 h.1 h.2]; rfl)⟩
  case lst.lst xs ys =>
    refine OkR.when fun h Q g => .inr ?_
    rw [Bool.and_eq_true] at h
    obtain ⟨a, vs, rfl, q1, r1⟩ := rx
    obtain ⟨b, us, rfl, q2, r2⟩ := ry
    exact ⟨a, b, vs, us, rfl, rfl, .inl ⟨.inl (Rd.mono hs q1), .inl (Rd.mono hs q2)⟩, Z17 r1 h.1, Z17 r2 h.2, g.sh (Ext.refl hs) (by rw [Z3c r1 r2 h.1 h.2]; rfl)⟩
theorem Zx (x y z : PV) (h : oEq x y = .ok z) : ∃ k, z = .bl k := by
  have w : ∀ {b : Bool} {k : Bool}, when b (.ok (.bl k)) = .ok z -> ∃ k, z = .bl k := fun {b k} e => by
    cases b with
    | true => cases e; exact ⟨_, rfl⟩
    | false => cases e
  cases x <;> cases y <;> exact w h
theorem Z6y (x y z : PV) (h : oNe x y = .ok z) : ∃ k, z = .bl k := by
  have w : ∀ {b : Bool} {k : Bool}, when b (.ok (.bl k)) = .ok z -> ∃ k, z = .bl k := fun {b k} e => by
    cases b with
    | true => cases e; exact ⟨_, rfl⟩
    | false => cases e
  cases x <;> cases y <;> exact w h
theorem Za3 (x y z : PV) (h : oLt x y = .ok z) : ∃ k, z = .bl k := by cases x <;> cases y <;> first | (cases h; done) | (cases h; exact ⟨_, rfl⟩)
theorem Zai (x y z : PV) (h : oGt x y = .ok z) : ∃ k, z = .bl k := by cases x <;> cases y <;> first | (cases h; done) | (cases h; exact ⟨_, rfl⟩)
theorem bl_in (x y z : PV) (h : oIn x y = .ok z) : ∃ k, z = .bl k := by
  have w : ∀ {b : Bool} {k : Bool}, when b (.ok (.bl k)) = .ok z -> ∃ k, z = .bl k := fun {b k} e => by
    cases b with
    | true => cases e; exact ⟨_, rfl⟩
    | false => cases e
  cases y <;> cases x <;> first | exact w h | (cases h; done) | (cases h; exact ⟨_, rfl⟩)
theorem Zan {mg : MG} {S : Hp} {x : PV} {v : V} (rx : Rep mg S x v) (hx : x.flat = true) : ∀ {ys : List PV} {vs : List V}, Reps mg S ys vs -> ys.all PV.flat = true -> inV v vs = ys.any fun y => eqd y x
  | [], _, r, _ => by cases (show _ = [] from r); rfl
  | y :: ys, _, ⟨u, r, e, h, t⟩, f => by
    rw [List.all_cons, Bool.and_eq_true] at f
    rw [e]
    show (eqV u v || inV v r) = _
    rw [Zan rx hx t f.2, Zar h rx f.1 hx, List.any_cons]
theorem o_in (hu : X.A.units + 1 < cLine) : OpB X (compareOp .In) .s oIn := fun W => by
  refine ⟨_, Zc0.or (Zcd.or (op_inD (X := XB X W) hu)), fun x y v u S H hs rx ry => ?_⟩
  cases y with
  | lst ys =>
    rw [show oIn x (.lst ys) = when (x.flat && ys.all PV.flat) (.ok (.bl (ys.any fun y => eqd y x))) by cases x <;> rfl]
    refine OkR.when fun h Q g => .inr (.inl ?_)
    rw [Bool.and_eq_true] at h
    obtain ⟨a, vs, ea, ra, rs⟩ := ry
    exact ⟨a, vs, ea, .inl (.inl (Rd.mono hs ra)), Z53 rx h.1, Z17 rs h.2, g.sh (Ext.refl hs) (by rw [Zan rx h.1 rs h.2]; rfl)⟩
  | tup ys =>
    rw [show oIn x (.tup ys) = when (x.flat && ys.all PV.flat) (.ok (.bl (ys.any fun y => eqd y x))) by cases x <;> rfl]
    refine OkR.when fun h Q g => .inr (.inl ?_)
    rw [Bool.and_eq_true] at h
    obtain ⟨a, vs, ea, ra, rs⟩ := ry
    exact ⟨a, vs, ea, .inr (SqT.of (hs _ _ ra)), Z53 rx h.1, Z17 rs h.2, g.sh (Ext.refl hs) (by rw [Zan rx h.1 rs h.2]; rfl)⟩
  | dct kvs =>
    rw [show oIn x (.dct kvs) = when (Z39 kvs x) (.ok (.bl (dget kvs x).isSome)) by cases x <;> rfl]
    refine OkR.when fun h Q g => .inr (.inr ?_)
    obtain ⟨a, r, e, dg, ro⟩ := dg_of hs ry rx h
    exact ⟨a, r, e, dg, g.sh (Ext.refl hs) (by rw [Za5 ro]; rfl)⟩
  | str z =>
    cases x with
    | str w => exact fun Q g => .inl ⟨w, z, rx, ry, g.sh (Ext.refl hs) rfl⟩
    | _ => exact True.intro
  | _ => cases x <;> exact True.intro
def rIxD : R2 := fun x y H Q => ∃ a v, x = .ref a /\ DGet H a y (some v) /\ Q v H
theorem Zev (hu : X.A.units + 1 < cLine) : IxR X rIxD := by
  intro value slice pins s σ H x y v u Q I rx ry h hs
  obtain ⟨a, z, rfl, g, q⟩ := h
  cases rx
  have hT := Z8u I g
  unfold subscriptTail
  refine wpAny_bind ?_
  rw [getitemInPython_of_ne hT.not_modules]
  refine wpAny_bind (wpAny_specialOf hT PySem.F.slot_dict_getitem.lookup ?_)
  have got : wpAny (model X.prog X.w) X.A (subscripted slice false (.ref a) u) (fun r s3 => wpAny (model X.prog X.w) X.A (letTemporaryGo value (.ref a) r >>= fun _ => pure r) (EP X pins σ Q) X.xe s3) X.xe s := by
    rw [hs]
    exact wpAny_operating (Zc8 hu I g ry fun w' s3 I3 rw' => wpAny_bind (wpAny_letTemporaryGo (wpAny_pure ⟨z, H, I3, rw', q⟩)))
  first
    | exact wpAny_pure (wpAny_bind got)
    | exact wpAny_bind (wpAny_pure (wpAny_bind got))
    | exact wpAny_bind got
theorem Zf1 {H : Hp} {a : Addr} {y v : V} (g : DG H a y (some v)) : DGet H a y (some v) := by
  rcases g with g | ⟨e, _⟩ | ⟨e, _⟩
  . exact g
  . cases e
  . cases e
theorem atI_V {mg : MG} {S : Hp} {ys : List PV} {vs : List V} (r : Reps mg S ys vs) {i : Int} {y : PV} (h : B.atI ys i = some y) : ∃ v, L2.atI vs i = some v /\ Rep mg S y v := by
  unfold B.atI at h
  unfold L2.atI
  rw [show L2.ixN vs.length i = B.ixN ys.length i by rw [r.length]; rfl]
  cases e : B.ixN ys.length i with
  | none => rw [e] at h; cases h
  | some j =>
    rw [e] at h
    obtain ⟨v, h1, h2⟩ := r.get (show ys[j]? = some y from h)
    exact ⟨v, h1, h2⟩
theorem two_ix {r : R2} (hr : ∀ (x y : PV) (v u : V) (S H : Hp), Sub S H -> Rep X.mg S x v -> Rep X.mg S y u -> OkR (oIx x y) fun z => ∀ Q : VK, Good X.mg S H .s z Q -> r v u H Q) (hi : ∀ W, IxR (XB X W) r)
    (ha : PEB X Γ a .s fa) (hb : PEB X Γ b .s fb) (hs : Z5l b) : PEB X Γ (.Subscript a b pos) .s (e2 oIx fa fb) := .mk fun W =>
  pimp (pe_ix (hi W) (ha W) (hb W) hs) fun σ H Q h => two hr h
theorem b_ix (hu : X.A.units + 1 < cLine) (ha : PEB X Γ a .s fa) (hb : PEB X Γ b .s fb) (hs : Z5l b := by intro _ _; rfl) : PEB X Γ (.Subscript a b pos) .s (e2 oIx fa fb) := by
  refine two_ix (r := fun x y H Q => rIx X.K x y H Q \/ rIxD x y H Q) (fun x y v u S H hs rx ry => ?_) (fun W => ix_seq.or (Zev (X := XB X W) hu)) ha hb hs
  cases x with
  | lst xs =>
    cases y with
    | int i =>
      refine OkR.opt fun z hz Q g => ?_
      obtain ⟨p, vs, ep, rp, rs⟩ := rx
      obtain ⟨w, h1, h2⟩ := atI_V rs hz
      exact .inl (.inl ⟨p, vs, i, w, ep, ry, .inl (Rd.mono hs rp), h1, g.sh (Ext.refl hs) h2⟩)
    | _ => exact True.intro
  | tup xs =>
    cases y with
    | int i =>
      refine OkR.opt fun z hz Q g => ?_
      obtain ⟨p, vs, ep, rp, rs⟩ := rx
      obtain ⟨w, h1, h2⟩ := atI_V rs hz
      exact .inl (.inr (.inl ⟨p, vs, i, w, ep, ry, SqT.of (hs _ _ rp), h1, g.sh (Ext.refl hs) h2⟩))
    | _ => exact True.intro
  | str x =>
    cases y with
    | int i =>
      refine OkR.when fun h => OkR.map (OkR.opt fun z hz Q g => ?_)
      exact .inl (.inr (.inr ⟨x, i, z, rx, ry, by rw [Z1u]; exact of_decide_eq_true h, hz, g.sh (Ext.refl hs) rfl⟩))
    | _ => exact True.intro
  | dct kvs =>
    rw [show oIx (.dct kvs) y = when (Z39 kvs y) (Z1b (dget kvs y)) by cases y <;> rfl]
    refine OkR.when fun h => OkR.opt fun z hz Q g => .inr ?_
    obtain ⟨a, r, e, dg, ro⟩ := dg_of hs rx ry h
    rw [hz] at ro
    cases r with
    | none => exact ro.elim
    | some w => exact ⟨a, w, e, Zf1 dg, g.sh (Ext.refl hs) ro⟩
  | _ => cases y <;> exact True.intro
end
end B
namespace B
open PySem PySem.Spec PyProof.Rows L2
section
variable {X : Cx} {Γ : List Own} {a b c e : Expr} {es : List Expr} {fa fb fc f : Ev} {fs : List Ev} {pos : Pos} {o : Own} {os : List Own}
def rSlS : V -> Option Int -> Option Int -> Hp -> VK -> Prop := fun x lo hi H Q => ∃ z, x = .str z /\ z.length <= sizeLine /\ Q (.str (cutS z lo hi)) H
theorem Z9p {v : Value} {o : Option Int} (p : IsPart v o) : ∃ q : Option (Int × Tok), v = partValue q /\ q.map (·.1) = o := by
  cases p with
  | none => exact ⟨none, rfl, rfl⟩
  | int i t => exact ⟨some (i, t), rfl, rfl⟩
theorem sl_str : SlR X rSlS := by
  intro pins s σ H x v vl vu lo hi sl Q I rx hs pl pu h
  obtain ⟨z, rfl, hz, q⟩ := h
  obtain ⟨t, rfl⟩ := rx
  obtain ⟨l, rfl, hl⟩ := Z9p pl
  obtain ⟨u, rfl, hu⟩ := Z9p pu
  refine ⟨"str", _, PySem.F.slot_str_getitem.lookup, typeIs_str s z t, wpAny_getItem_str_slice (l := l) (u := u) (st := none) hs rfl ?_⟩
  unfold sliceMade
  refine post_val_or_made (fun _ => ?_) fun t' k => ?_
  . unfold Str.length
    rw [List.size_toArray]
    refine Nat.le_trans (List.length_filterMap_le _ _) (Nat.le_trans (PyProof.Rows.indices_len_le _ _ _) hz)
  . refine ⟨.str (cutS z lo hi), H, I.tok _, ⟨t', ?_⟩, q⟩
    congr 1
    unfold cutS slicePicked
    rw [hl, hu]
    simp
theorem Zb4 (n d : Nat) (o : Option Int) : HT.sIx n d o = B.sIx n d o := by
  cases o with
  | none => rfl
  | some i =>
    rfl
theorem cut_V {mg : MG} {S : Hp} {ys : List PV} {vs : List V} (r : Reps mg S ys vs) (lo hi : Option Int) : Reps mg S (cut ys lo hi) (cutV vs lo hi) := by
  unfold cut cutV
  rw [Zb4, Zb4, r.length]
  exact (r.drop _).take _
def tPB (X : Cx) (Γ : List Own) (f : Option Ev) (W : WK) : TO := fun σ H Q => ∃ S₀ H₀ env S, Rel X.mg S₀ H₀ Γ env σ S H /\ (match Z1d f env with
  | .ok i => ∀ H' S', Ext S H S' H' -> Q i H'
  | .err c => Err S H (W c σ)
  | .no => False)
structure POB (X : Cx) (Γ : List Own) (e : Option Expr) (f : Option Ev) : Prop where mk ::
  run : ∀ W, PO (XB X W) e (tPB X Γ f W)
instance {X : Cx} {Γ : List Own} {e : Option Expr} {f : Option Ev} : CoeFun (POB X Γ e f) fun _ => ∀ W, PO (XB X W) e (tPB X Γ f W) := ⟨POB.run⟩
theorem Z2u : POB X Γ none none := .mk fun W pins s σ H Q I ⟨S₀, H₀, env, S, r, q⟩ => Zfz pins s σ H Q I (q H S (Ext.refl r.ext.sh))
theorem Z22 (h : PEB X Γ e .s f) : POB X Γ (some e) (some f) := .mk fun W pins s σ H Q I ⟨S₀, H₀, env, S, r, q⟩ => Zew (h W) pins s σ H Q I ⟨S₀, H₀, env, S, r, by
  rw [show Z1d (some f) env = (f env).bind asI from rfl] at q
  cases hf : f env with
  | no => rw [hf] at q; exact q.elim
  | err c => rw [hf] at q; exact q
  | ok y =>
    rw [hf, R.bind_ok] at q
    refine Good.of fun v H' S' x rv => ?_
    cases y with
    | int i => exact ⟨i, rv, q H' S' x⟩
    | _ => exact q.elim⟩
theorem Z33 {lo hi : Option Expr} {fl fh : Option Ev} {p2 : Pos} (ha : PEB X Γ a .s fa) (hl : POB X Γ lo fl) (hh : POB X Γ hi fh) : PEB X Γ (.Subscript a (.Slice lo hi none p2) pos) (.o []) (eCut fl fh fa) := .mk fun W =>
  pimp (Zei (sl_str.or Zfh) (ha W) (hl W) (hh W)) fun σ H Q ⟨S₀, H₀, env, S, r, q⟩ => by
    refine ⟨S₀, H₀, env, S, r, ?_⟩
    unfold eCut at q
    cases hf : fa env with
    | no => rw [hf] at q; exact q.elim
    | err c => rw [hf] at q; exact q
    | ok y =>
      rw [hf, R.bind_ok] at q
      refine Good.of fun v H1 S1 x1 r1 => ⟨S₀, H₀, env, S1, r.grow x1, ?_⟩
      cases h2 : Z1d fl env with
      | no => rw [h2] at q; exact q.elim
      | err c => rw [h2] at q; exact fun H2 S2 x2 => q H2 S2 (x1.trans x2)
      | ok l =>
        rw [h2, R.bind_ok] at q
        refine fun H2 S2 x2 => ⟨S₀, H₀, env, S2, (r.grow x1).grow x2, ?_⟩
        cases h3 : Z1d fh env with
        | no => rw [h3] at q; exact q.elim
        | err c => rw [h3] at q; exact fun H3 S3 x3 => q H3 S3 ((x1.trans x2).trans x3)
        | ok h =>
          rw [h3, R.bind_ok] at q
          intro H3 S3 x3
          have x := (x1.trans x2).trans x3
          have r3 := r1.mono (x2.s.trans x3.s)
          cases y with
          | str z =>
            cases hz : decide (z.length <= Zn) with
            | false => rw [show oCut l h (.str z) = .no by show when (decide (z.length <= Zn)) _ = _; rw [hz]; rfl] at q; exact q.elim
            | true =>
              rw [show oCut l h (.str z) = .ok (.str (cutS z l h)) by show when (decide (z.length <= Zn)) _ = _; rw [hz]; rfl] at q
              exact .inl ⟨z, r3, by rw [Z1u]; exact of_decide_eq_true hz, q _ H3 S3 [] x ⟨rfl, rfl⟩ List.nodup_nil (fun a m => by cases m)⟩
          | lst ys =>
            obtain ⟨p, vs, ep, rp, rs⟩ := r3
            refine .inr ⟨p, vs, ep, .inl (Rd.mono x3.sh rp), fun n hn => ?_⟩
            refine q (.ref n) _ S3 [n] (x.trans (Ext.own x3.sh hn)) ⟨n, _, [], rfl, Zg, ⟨rfl, cut_V rs l h⟩, rfl⟩ (by simp) (fun a m => ?_)
            have e : a = n := by simpa using m
            subst e
            exact ⟨x.h.none hn, x.sh.none hn⟩
          | _ => exact q.elim
def kT : Kd -> String
  | .non => "NoneType" | .bl => "bool" | .int => "int" | .str => "str" | .tup => "tuple" | .lst => "list" | .dct => "dict" | .own _ => "object"
structure ClsF (K : PySem.W.Frag) (C : Addr) : Prop where
  ty : ∀ (H : Hp) (a dx : Addr) (fs : List (Str × V)), H a = some (.ins C dx fs) -> TyOf K H (.ref a) (.ref C)
  no : ∀ k ∈ [Kd.bl, .int, .str, .tup, .lst, .dct], PySem.W.kitOne K (.ref C) (.type (kT k)) = some false
def isKb (k t : Kd) : Bool := match k, t with | .int, .bl => true | a, b => decide (a = b)
theorem ty_V {K : PySem.W.Frag} {mg : MG} {S H : Hp} {x : PV} {v : V} (hs : Sub S H) (r : Rep mg S x v) (hi : ∀ c fs, x ≠ .ins c fs) (he : ∀ c, x ≠ .exc c) : TyOf K H v (.type (kT (kd x))) /\ kd x ∈ [Kd.non, .bl, .int, .str, .tup, .lst, .dct] := by
  cases x with
  | non => cases (show v = .non from r); exact ⟨.non, by simp [kd]⟩
  | bl b => cases (show v = .bl b from r); exact ⟨.bl b, by simp [kd]⟩
  | int b => cases (show v = .int b from r); exact ⟨.int b, by simp [kd]⟩
  | str b => cases (show v = .str b from r); exact ⟨.str b, by simp [kd]⟩
  | tup ys => obtain ⟨a, vs, rfl, q, _⟩ := r; exact ⟨.tup (hs _ _ q), by simp [kd]⟩
  | lst ys =>
    obtain ⟨a, vs, rfl, q, _⟩ := r
    refine ⟨?_, by simp [kd]⟩
    rcases q with q | ⟨o, q⟩
    . exact .lst (hs _ _ q)
    . exact .frz (hs _ _ q)
  | dct kvs =>
    obtain ⟨a, rfl, ⟨ks, q, _⟩ | ⟨ks, q, _⟩⟩ := r
    . exact ⟨.dK (Rd.mono hs q), by simp [kd]⟩
    . exact ⟨.dT (Rd.mono hs q), by simp [kd]⟩
  | ins c fs => exact (hi c fs rfl).elim
  | exc c => exact (he c rfl).elim
theorem Z4q : bootBuiltins "isinstance" = some (.builtin "isinstance") := by decide +kernel
end
end B
namespace B
open PySem PySem.Spec PyProof.Rows L2
structure Way where
  e : List Own
  l : List Own
  o : Own
def OutB (mg : MG) (S₀ H₀ S : Hp) (w : Way) (Γ' : List Own) (W : WK) (D : Ends) : Out -> Prop
  | .nx env => ∀ σ H S', Sub S S' -> Rel mg S₀ H₀ Γ' env σ S' H -> D.nx σ H
  | .ret y => ∀ v H S' as, Ext S₀ H₀ S' H -> OwnR mg S' H w.o y v as -> as.Nodup -> (∀ a ∈ as, H₀ a = none /\ S' a = none) -> D.rt v H
  | .err c env => ∀ σ H S', Sub S S' -> Rel mg S₀ H₀ w.e env σ S' H -> W c σ H
  | .bk env => ∀ σ H S', Sub S S' -> Rel mg S₀ H₀ w.l env σ S' H -> D.bk σ H
  | .ct env => ∀ σ H S', Sub S S' -> Rel mg S₀ H₀ w.l env σ S' H -> D.ct σ H
  | .no => False
theorem OutB.mono {mg : MG} {S₀ H₀ S S1 : Hp} {w : Way} {Γ' : List Own} {W : WK} {D : Ends} (h : Sub S S1) : ∀ {r : Out}, OutB mg S₀ H₀ S w Γ' W D r -> OutB mg S₀ H₀ S1 w Γ' W D r
  | .nx _, q => fun σ H S' hs => q σ H S' (h.trans hs)
  | .ret _, q => q
  | .err _ _, q => fun σ H S' hs => q σ H S' (h.trans hs)
  | .bk _, q => fun σ H S' hs => q σ H S' (h.trans hs)
  | .ct _, q => fun σ H S' hs => q σ H S' (h.trans hs)
  | .no, q => q
theorem OutB.weak {mg : MG} {S₀ H₀ S : Hp} {w : Way} {Γ' Γ1 : List Own} {W : WK} {D : Ends} (l : LeO Γ' Γ1) : ∀ {r : Out}, OutB mg S₀ H₀ S w Γ' W D r -> OutB mg S₀ H₀ S w Γ1 W D r
  | .nx _, q => fun σ H S' hs r => let ⟨S2, h2, r2⟩ := r.weak l; q σ H S2 (hs.trans h2) r2
  | .ret _, q => q
  | .err _ _, q => q
  | .bk _, q => q
  | .ct _, q => q
  | .no, q => q
def tSB (X : Cx) (w : Way) (Γ Γ' : List Own) (f : Sv) (W : WK) : TS := fun D σ H => ∃ S₀ H₀ env S, Rel X.mg S₀ H₀ Γ env σ S H /\ OutB X.mg S₀ H₀ S w Γ' W D (f env)
abbrev Pas (X : Cx) (W : WK) : Prop := PassesOwn (model X.prog X.w) X.A X.env (XB X W).xe
structure PSB (X : Cx) (w : Way) (Γ Γ' : List Own) (st : Stmt) (f : Sv) : Prop where mk ::
  run : ∀ W, Pas X W -> PS (XB X W) st (tSB X w Γ Γ' f W)
instance {X : Cx} {w : Way} {Γ Γ' : List Own} {st : Stmt} {f : Sv} : CoeFun (PSB X w Γ Γ' st f) fun _ => ∀ W, Pas X W -> PS (XB X W) st (tSB X w Γ Γ' f W) := ⟨PSB.run⟩
structure PSsB (X : Cx) (w : Way) (Γ Γ' : List Own) (st : List Stmt) (f : Sv) : Prop where mk ::
  run : ∀ W, Pas X W -> PSs (XB X W) st (tSB X w Γ Γ' f W)
instance {X : Cx} {w : Way} {Γ Γ' : List Own} {st : List Stmt} {f : Sv} : CoeFun (PSsB X w Γ Γ' st f) fun _ => ∀ W, Pas X W -> PSs (XB X W) st (tSB X w Γ Γ' f W) := ⟨PSsB.run⟩
theorem Z2e {X : Cx} {e : Stmt} {t t' : TS} (h : PS X e t) (i : ∀ D σ H, t' D σ H -> t D σ H) : PS X e t' := fun pins s σ H D I q => h pins s σ H D I (i D σ H q)
theorem Z5c {X : Cx} {e : List Stmt} {t t' : TS} (h : PSs X e t) (i : ∀ D σ H, t' D σ H -> t D σ H) : PSs X e t' := fun pins s σ H D I q => h pins s σ H D I (i D σ H q)
def isComp : Expr -> Bool
  | .ListComp _ _ _ _ => true
  | .SetComp _ _ _ _ => true
  | .DictComp _ _ _ _ _ => true
  | _ => false
theorem Zy {e : Expr} {t : Option Expr} {n : Nat} {env : PySem.Env} (h : isComp e = false) : swapsWith e t n env = pure false := by
  cases e <;> first | rfl | cases h
section
variable {X : Cx} {w : Way} {Γ Γ' Γ1 Γ2 : List Own} {st : Stmt} {rest a b : List Stmt} {f g : Sv} {e c : Expr} {fe : Ev} {ft : Tv} {pos : Pos}
theorem Zm : PSsB X w Γ Γ [] sNx := .mk fun W _ => Z5c Z99 fun D σ H ⟨S₀, H₀, env, S, r, q⟩ => q σ H S Sub.refl r
theorem Z5 (h1 : PSB X w Γ Γ1 st f) (h2 : PSsB X w Γ1 Γ2 rest g) : PSsB X w Γ Γ2 (st :: rest) (sSeq f g) := .mk fun W hp =>
  Z5c (Z8n (h1 W hp) (h2 W hp)) fun D σ H ⟨S₀, H₀, env, S, r, q⟩ => by
    refine ⟨S₀, H₀, env, S, r, ?_⟩
    unfold sSeq at q
    cases hf : f env with
    | nx env' =>
      rw [hf] at q
      exact fun σ' H' S' hs r' => ⟨S₀, H₀, env', S', r', OutB.mono hs q⟩
    | ret y => rw [hf] at q; exact q
    | err c env' => rw [hf] at q; exact q
    | bk env' => rw [hf] at q; exact q
    | ct env' => rw [hf] at q; exact q
    | no => rw [hf] at q; exact q
theorem Z7 (h1 : PSB X w Γ Γ1 st f) : PSsB X w Γ Γ1 [st] f := .mk fun W hp => Zfj (h1 W hp)
theorem s_weak (l : LeO Γ' Γ1) (h : PSB X w Γ Γ1 st f) : PSB X w Γ Γ' st f := .mk fun W hp => Z2e (h W hp) fun D σ H ⟨S₀, H₀, env, S, r, q⟩ => ⟨S₀, H₀, env, S, r, q.weak l⟩
theorem s_pre (l : LeO Γ1 Γ) (h : PSB X w Γ1 Γ' st f) : PSB X w Γ Γ' st f := .mk fun W hp => Z2e (h W hp) fun D σ H ⟨S₀, H₀, env, S, r, q⟩ => let ⟨S2, h2, r2⟩ := r.weak l; ⟨S₀, H₀, env, S2, r2, OutB.mono h2 q⟩
theorem Z42 {mg : MG} {S₀ H₀ S H : Hp} {env : Env} {σ : L2.St} {c : Str} {W : WK} {D : Ends} (l : LeO w.e Γ) (r : Rel mg S₀ H₀ Γ env σ S H) (q : OutB mg S₀ H₀ S w Γ' W D (.err c env)) : Err S H (W c σ) := fun H' S' x =>
  let ⟨S2, h2, r2⟩ := (r.grow x).weak l
  q σ H' S2 (x.s.trans h2) r2
theorem Z48 {o : Own} {W : WK} {D : Ends} {σ : L2.St} {H : Hp} {S₀ H₀ S : Hp} {env : Env} {Q : VK} {k : PV -> Out} (l : LeO w.e Γ) (r : Rel X.mg S₀ H₀ Γ env σ S H) (q : OutB X.mg S₀ H₀ S w Γ' W D (on (fe env) env k))
    (h : ∀ y, OutB X.mg S₀ H₀ S w Γ' W D (k y) -> Good X.mg S H o y Q) : tB X Γ o fe W σ H Q := by
  refine ⟨S₀, H₀, env, S, r, ?_⟩
  cases hf : fe env with
  | no => rw [hf] at q; exact q
  | err c => rw [hf] at q; exact Z42 l r q
  | ok y => rw [hf] at q; exact h y q
theorem Zs {i : Nat} {x : Str} {p2 : Pos} {o g0 : Own} (l : LeO w.e Γ) (hN : X.N.Nodup) (hi : X.N[i]? = some x) (hx : Loc X.env.scope x) (hg : Γ[i]? = some g0) (he : PEB X Γ e o fe)
    (hs : swapsWith e (some (.Name x p2)) pos.line X.env = pure false := by exact Zy rfl) (hf : X.fn x = true \/ X.env.scope.names.lookup x = some .local := by first | exact .inl rfl | exact .inr rfl) (hΓ : Γ' = Γ.set i o := by rfl) : PSB X w Γ Γ' (.Assign [.Name x p2] e pos) (sSet i fe) := hΓ ▸ .mk fun W _ =>
  Z2e (ps_set (X := XB X W) hN hi hx (he W) hs hf) fun D σ H ⟨S₀, H₀, env, S, r, q⟩ => Z48 (k := fun v => .nx (env.set i (some v))) l r q fun y q v H' S' as x rv nd fr => q _ _ S' x.s (r.store x hg rv nd fr)
theorem Z2t {o : Own} (l : LeO w.e Γ) (he : PEB X Γ e o fe) (hs : swapsWith e none pos.line X.env = pure false := by exact Zy rfl) : PSB X w Γ Γ (.Expr e pos) (sExp fe) := .mk fun W _ =>
  Z2e (Za2 (he W) hs) fun D σ H ⟨S₀, H₀, env, S, r, q⟩ => Z48 (k := fun _ => .nx env) l r q fun y q v H' S' as x rv nd fr => q _ _ S' x.s (r.grow x)
theorem Zb (l : LeO w.e Γ) (he : PEB X Γ e w.o fe) : PSB X w Γ Γ' (.Return (some e) pos) (sRet fe) := .mk fun W _ =>
  Z2e (ps_ret (he W)) fun D σ H ⟨S₀, H₀, env, S, r, q⟩ => Z48 (k := .ret) l r q fun y q v H' S' as x rv nd fr => q v H' S' as (r.ext.trans x) rv nd fun a m => ⟨r.ext.h.none (fr a m).1, (fr a m).2⟩
theorem s_if (l : LeO w.e Γ) (hc : PTB X Γ c ft) (ha : PSsB X w Γ Γ' a f) (hb : PSsB X w Γ Γ' b g) : PSB X w Γ Γ' (.If c a b pos) (sIf ft f g) := .mk fun W hp =>
  Z2e (ps_if (hc W) (ha W hp) (hb W hp)) fun D σ H ⟨S₀, H₀, env, S, r, q⟩ => by
    refine ⟨S₀, H₀, env, S, r, ?_⟩
    unfold sIf at q
    cases hf : ft env with
    | no => rw [hf] at q; exact q
    | err c => rw [hf] at q; exact Z42 l r q
    | ok t =>
      rw [hf] at q
      intro H' S' x
      cases t with
      | true => exact ⟨S₀, H₀, env, S', r.grow x, OutB.mono x.s q⟩
      | false => exact ⟨S₀, H₀, env, S', r.grow x, OutB.mono x.s q⟩
end
def ItB (mg : MG) (J : It) (xs : List PV) (S : Hp) : Prop := ∀ S1 H1, Sub S S1 -> Sub S1 H1 ->
  (∀ i x, xs[i]? = some x -> J.go i H1 /\ ∀ v H2, J.yld i H1 v H2 -> ∃ S2, Ext S1 H1 S2 H2 /\ Rep mg S2 x v) /\ ∀ i, xs.length <= i -> J.stop i H1
def iB (X : Cx) (Γ : List Own) (f : Iv) (W : WK) : TI := fun σ H R => ∃ S₀ H₀ env S, Rel X.mg S₀ H₀ Γ env σ S H /\ (match f env with
  | .ok xs => ∀ J H' S', Ext S H S' H' -> ItB X.mg J xs S' -> R J H'
  | .err c => Err S H (W c σ)
  | .no => False)
structure PIB (X : Cx) (Γ : List Own) (tg iter : Expr) (f : Iv) : Prop where mk ::
  run : ∀ W, PI (XB X W) tg iter (iB X Γ f W)
instance {X : Cx} {Γ : List Own} {tg iter : Expr} {f : Iv} : CoeFun (PIB X Γ tg iter f) fun _ => ∀ W, PI (XB X W) tg iter (iB X Γ f W) := ⟨PIB.run⟩
theorem piimp {X : Cx} {tg e : Expr} {t t' : TI} (h : PI X tg e t) (i : ∀ σ H R, t' σ H R -> t σ H R) : PI X tg e t' := fun pins s σ H R I q => h pins s σ H R I (i σ H R q)
theorem Z2m {α : Type} : ∀ {l : List α} {i : Nat} {x : α}, l[i]? = some x -> l.set i x = l
  | [], _, _, h => by simp at h
  | a :: r, 0, x, h => by simp at h; subst h; rfl
  | a :: r, i + 1, x, h => by rw [List.set_cons_succ, Z2m (by simpa using h)]
section
variable {X : Cx} {w : Way} {Γ Γ' : List Own} {body : List Stmt} {f : Sv} {fi : Iv} {tg iter : Expr} {pos : Pos}
theorem Zff {W : WK} {g : TG} {bd : PV -> Sv} {tb : TS}
    (hg : ∀ {S₀ H₀ S H : Hp} {env : Env} {σ : L2.St} {v : V} {x : PV} {D : Ends}, Rel X.mg S₀ H₀ Γ env σ S H -> Rep X.mg S x v -> OutB X.mg S₀ H₀ S { w with l := Γ } Γ W D (bd x env) -> g v σ H fun σ2 H2 => tb D σ2 H2)
    {D : Ends} {σ : L2.St} {H : Hp} {S₀ H₀ S : Hp} {env : Env} (le : LeO w.e Γ) (r : Rel X.mg S₀ H₀ Γ env σ S H) (q : OutB X.mg S₀ H₀ S w Γ W D (on (fi env) env fun xs => forL bd xs env)) : tFor (iB X Γ fi W) g tb D σ H := by
  refine ⟨S₀, H₀, env, S, r, ?_⟩
  cases hf : fi env with
  | no => rw [hf] at q; exact q
  | err c => rw [hf] at q; exact Z42 le r q
  | ok xs =>
    rw [hf] at q
    have q : OutB X.mg S₀ H₀ S w Γ W D (forL bd xs env) := q
    intro J H1 S1 x1 hJ
    let N : Nat -> L2.St -> Hp -> Prop := fun i σ2 H2 => ∃ env2 S2, Rel X.mg S₀ H₀ Γ env2 σ2 S2 H2 /\ Sub S1 S2 /\ OutB X.mg S₀ H₀ S2 w Γ W D (forL bd (xs.drop i) env2)
    refine ⟨fun i m σ2 H2 => m = xs.length - i /\ i <= xs.length /\ N i σ2 H2, ⟨xs.length, by simp, Nat.zero_le _, env, S1, r.grow x1, Sub.refl, OutB.mono x1.s q⟩, ?_⟩
    rintro i m σ2 H2 ⟨rfl, hi, env2, S2, r2, s2, q2⟩
    obtain ⟨go, stop⟩ := hJ S2 H2 s2 r2.ext.sh
    by_cases hlt : i < xs.length
    . obtain ⟨g1, g2⟩ := go i xs[i] (by simp [hlt])
      refine .inr ⟨g1, N (i + 1), fun σ' H' p' => ⟨xs.length - (i + 1), by omega, rfl, hlt, p'⟩, fun v H3 y => ?_⟩
      obtain ⟨S3, x3, rv⟩ := g2 v H3 y
      refine hg (r2.grow x3) rv ?_
      rw [List.drop_eq_getElem_cons hlt] at q2
      have q3 := OutB.mono x3.s q2
      unfold forL at q3
      have s13 := s2.trans x3.s
      cases hb : bd xs[i] env2 with
      | nx env' => rw [hb] at q3; exact fun σ' H' S' hs r' => ⟨env', S', r', s13.trans hs, OutB.mono hs q3⟩
      | ct env' => rw [hb] at q3; exact fun σ' H' S' hs r' => ⟨env', S', r', s13.trans hs, OutB.mono hs q3⟩
      | bk env' => rw [hb] at q3; exact q3
      | ret y => rw [hb] at q3; exact q3
      | err c env' => rw [hb] at q3; exact q3
      | no => rw [hb] at q3; exact q3
    . have e : i = xs.length := by omega
      subst e
      rw [List.drop_length] at q2
      exact .inl ⟨stop _ (Nat.le_refl _), q2 σ2 H2 S2 Sub.refl r2⟩
theorem s_for {i : Nat} {x : Str} {p2 : Pos} (le : LeO w.e Γ) (hc : X.calm = true) (hN : X.N.Nodup) (hi : X.N[i]? = some x) (hx : Loc X.env.scope x) (hg : Γ[i]? = some .s)
    (hit : PIB X Γ (.Name x p2) iter fi) (hb : PSsB X { w with l := Γ } Γ Γ body f) (hs : ∀ x, foldedSetIterable iter X.env x = pure x := by intro _; rfl)
    (hf : X.fn x = true \/ X.env.scope.names.lookup x = some .local := by first | exact .inl rfl | exact .inr rfl) : PSB X w Γ Γ (.For (.Name x p2) iter body [] pos) (sFor fi i f) := .mk fun W hp =>
  Z2e (ps_for (X := XB X W) hp hc (hit W) (Z5o hN hi hx hf) (hb W hp) hs) fun D σ H ⟨S₀, H₀, env, S, r, q⟩ =>
    Zff (bd := at_ i f) (fun {S₀ H₀ S H env σ v x D} r rv q => ⟨S₀, H₀, env.set i (some x), S, by
      have z := r.store (Ext.refl r.ext.sh) hg (g' := .s) ⟨rfl, rv⟩ List.nodup_nil (fun a m => by cases m)
      rw [Z2m hg] at z
      exact z, q⟩) le r q
end
end B
namespace B
open PySem PySem.Spec PyProof.Rows L2
def spB (mg : MG) (n : Nat) (o : Own) (g : List PV -> R PV) : Sp := fun vs H Q E => ∃ S ys, Sub S H /\ Reps mg S ys vs /\ ys.length = n /\ (match g ys with
  | .ok y => Good mg S H o y Q
  | .err c => ∀ H' S' C, Ext S H S' H' -> mg c = some (.ref C) -> E (.ref C) none H'
  | .no => False)
abbrev FnB (P : Program) (w : World) (K : PySem.W.Frag) (mg : MG) (base : Heap) (k : Nat) (f : Addr) (fd : FuncData) (ps : List Str) (o : Own) (g : List PV -> R PV) : Prop := FnOk P w K mg base (CXB P w) k f fd ps (spB mg ps.length o g)
theorem Good.grow {mg : MG} {S H S1 H1 : Hp} {o : Own} {y : PV} {Q : VK} (x : Ext S H S1 H1) (g : Good mg S H o y Q) : Good mg S1 H1 o y Q := fun v H' S' as x' r nd fr => g v H' S' as (x.trans x') r nd fun a m => ⟨x.h.none (fr a m).1, (fr a m).2⟩
section
variable {X : Cx} {Γ : List Own} {k : Nat} {f : Addr} {fd : FuncData} {ps : List Str} {o : Own} {g : List PV -> R PV} {x : Str} {p pos : Pos} {e : Expr} {es : List Expr} {fs : List Ev}
theorem run_B {W : WK} {pins : List (Addr × Obj)} {σ : L2.St} {H : Hp} {s : Shared} {Q : VK} {us : List Value} {vs : List V} (F : FnB X.prog X.w X.K X.mg X.base k f fd ps o g) (hr : Room k X.A) (hb : Zf X.K fd ps []) (I : Inv (XB X W) pins σ H s) (r : Vals vs us)
    (h : spB X.mg ps.length o g vs H Q (fun cls _ H' => ∃ c, X.mg c = some cls /\ W c σ H')) : wpAny (model X.prog X.w) X.A (call (.ref f) us) (EP (XB X W) pins σ Q) (XB X W).xe s := by
  have hl : us.length = ps.length := by rw [<- r.length]; exact F.len _ _ _ _ h
  have hb' := hb s us I.kIn (by simpa using hl)
  rw [List.append_nil] at hb'
  refine wpAny_call (codeAny_mono (F.run X.A X.stack s H ⟨us, []⟩ us vs Q _ hr I.unwish.env0 hb' r h) fun r s' hq => ?_)
  cases r with
  | error e =>
    obtain ⟨ea, C, H', rfl, fly, c, hc, q⟩ := hq
    exact ⟨c, σ, H', ⟨ea, C, rfl, hc, pins, H, s, I.unwish, .inl ⟨_, .inl rfl, fly⟩⟩, q⟩
  | ok fl =>
    cases fl with
    | ret u => exact I.after hq
    | next => exact False.elim hq
    | brk => exact False.elim hq
    | cont => exact False.elim hq
theorem sp_of {W : WK} {σ : L2.St} {H : Hp} {Q : VK} (hn : fs.length = ps.length) (h : tB X Γ o (eN g fs) W σ H Q) : tAs X Γ [] fs W σ H (fun vs H1 => spB X.mg ps.length o g vs H1 Q (fun cls _ H' => ∃ c, X.mg c = some cls /\ W c σ H')) := by
  obtain ⟨S₀, H₀, env, S, rl, q⟩ := h
  refine ⟨S₀, H₀, env, S, rl, ?_⟩
  unfold eN at q
  cases hf : evs fs env with
  | no => rw [hf] at q; exact q.elim
  | err c => rw [hf] at q; exact q
  | ok ys =>
    rw [hf, R.bind_ok] at q
    intro vs H1 S1 as x1 ⟨_, rv⟩ _ _
    refine ⟨S1, ys, x1.sh, rv, (Z3j hf).trans hn, ?_⟩
    cases hg' : g ys with
    | no => rw [hg'] at q; exact q.elim
    | err c => rw [hg'] at q; exact fun H2 S2 C x2 hC => ⟨c, hC, q H2 S2 (x1.trans x2)⟩
    | ok y => rw [hg'] at q; exact Good.grow x1 q
theorem Zd (F : FnB X.prog X.w X.K X.mg X.base k f fd ps o g) (hr : Room k X.A) (hg : Gl X x) (hm : X.mg x = some (.ref f)) (hk : PySem.W.keepIn X.K (.ref f) = true) (hb : Zf X.K fd ps []) (ha : PAB X Γ (e :: es) [] fs) (hn : fs.length = ps.length := by rfl)
    (hdb : (x == ("__debug__" : Str)) = false := by decide) (he : starEach (e :: es) X.env = (false, eval e X.env) :: starEach es X.env := by exact Z19 rfl) (hpl : (backTo pos (starEach es X.env)).any (·.1) = false := by exact Z1k rfl) :
    PEB X Γ (.Call (.Name x p) (e :: es) [] pos) o (eN g fs) := .mk fun W => by
  intro pins s σ H Q I h
  refine wpAny_Call_Name_kw (Z38 (X := XB X W) I hg hm ?_ hdb)
  exact PySem.W.callWith_K (h₀ := X.base) I.ok.mod.kin hk (thn (ha W pos pins s σ H _ I (sp_of hn h)) fun us s1 ⟨vs, H1, I1, r, q⟩ => ⟨I1.kIn, run_B F hr hb I1 r q⟩) he hpl
end
theorem Zct {X : Cx} {E' : Value -> Shared -> Prop} {st : List Stmt} {t : TS} (h : PSs (X.wish E') st t) (i : ∀ e s', E' e s' -> X.xe e s') : PSs X st t := fun pins s σ H D I q => wpAny_mono (h pins s σ H D (I.wish _) q) (fun _ _ z => z.unwish) i
theorem Z35 {mg : MG} {S H : Hp} : ∀ {n : Nat} {ys : List PV} {vs : List V}, Reps mg S ys vs -> ys.length <= n -> Zr mg S H (List.replicate n .s) (B.start n ys) (vs.map some ++ List.replicate (n - vs.length) none) []
  | 0, [], _, r, _ => by cases (show _ = [] from r); exact ⟨rfl, rfl, rfl⟩
  | 0, _ :: _, _, _, h => by simp at h
  | n + 1, [], _, r, _ => by
    cases (show _ = [] from r)
    have ih := Z35 (mg := mg) (S := S) (H := H) (n := n) (ys := []) (vs := []) rfl (Nat.zero_le _)
    exact ⟨none, start n [], none, List.replicate n none, [], [], rfl, by simp [List.replicate_succ], rfl, rfl, by simpa using ih⟩
  | n + 1, y :: ys, _, ⟨v, r, e, h1, h2⟩, h => by
    subst e
    have ih := Z35 (mg := mg) (S := S) (H := H) (n := n) h2 (by simpa using h)
    exact ⟨some y, _, some v, _, [], [], rfl, by simp, rfl, ⟨v, rfl, rfl, h1⟩, ih⟩
theorem Zfo {mg : MG} {S H : Hp} : ∀ (o : Own), OwnR mg S H o .non .non []
  | .s => ⟨rfl, rfl⟩
  | .o _ => ⟨rfl, rfl⟩
section
variable {P : Program} {w : World} {K : PySem.W.Frag} {mg : MG} {base : Heap}
theorem fn_B {x qual : Str} {st : Stmt} {f : Addr} {fd : FuncData} {N ps : List Str} {k : Nat} {o : Own} {Γ0 Γ' : List Own} {body : Sv} (F : Fun K x qual st f fd) (S : FnScope N ps (Z1 st)) (hΓ : Γ0 = List.replicate N.length .s)
    (hbody : ∀ (cdv : Value) (A : Around) (outer : List PySem.Env) (s : Shared) (H : Hp) (E : XK), Room k (A.deeper (envOfC qual (Z1 st) s.heap.objs.size f cdv)) ->
      PSsB (cxOf (CXB P w) P w K mg base N qual (Z1 st) f cdv A outer s H E) ⟨Γ0, Γ0, o⟩ Γ0 Γ' (Za st) body) : FnB P w K mg base (k + 1) f fd ps o (fn N.length body) := by
  obtain ⟨oc, od, kV, doc, pm, an, cdv, ct, osl, rfl, lk, hcd⟩ := F.ex
  have hpl : ps.length <= N.length := by have := congrArg List.length S.pre; rw [List.length_take] at this; omega
  refine fn_of lk hcd S (fun vs H Q E ⟨S, ys, _, rs, hl, _⟩ => by rw [<- rs.length]; exact hl) fun A outer s H vs Q E hr ⟨S1, ys, hs, rs, hl, hm⟩ => ?_
  have hb := hbody cdv A outer s H E hr (fun c _ H' => ∀ C, mg c = some (.ref C) -> E (.ref C) none H') (pasB rfl rfl _)
  refine ⟨_, Zct hb fun e s' ⟨c, σ, H', T, q⟩ => ?_, ?_⟩
  . exact wpAny_mono (leaveB (X := cxOf (CXB P w) P w K mg base N qual (Z1 st) f cdv A outer s H E) rfl rfl rfl T) (fun _ s'' ⟨ea, C, e1, hc, fl⟩ => ⟨ea, C, H', e1, fl, q C hc⟩) fun _ _ z => z
  . subst hΓ
    refine ⟨S1, H, B.start N.length ys, S1, ⟨Ext.refl hs, [], Z35 rs (by omega), List.nodup_nil, fun a m => by cases m⟩, ?_⟩
    unfold fn at hm
    cases hf : body (B.start N.length ys) with
    | nx env => rw [hf] at hm; exact fun σ H' S' _ rl => hm .non H' S' [] rl.ext (Zfo o) List.nodup_nil (fun a m => by cases m)
    | ret y => rw [hf] at hm; exact fun v H' S' as x r nd fr => hm v H' S' as x r nd fr
    | err c env => rw [hf] at hm; exact fun σ H' S' _ rl C hC => hm H' S' C rl.ext hC
    | bk env => rw [hf] at hm; exact hm.elim
    | ct env => rw [hf] at hm; exact hm.elim
    | no => rw [hf] at hm; exact hm.elim
end
end B
namespace B
open PySem PySem.Spec PyProof.Rows L2
def Its (x : Str) : It := ⟨fun i _ => i < x.cps.size, fun i H v H' => H' = H /\ ∃ c, x.cps[i]? = some c /\ v = .str ⟨#[c]⟩, fun i _ => x.cps.size <= i⟩
theorem Zec {P : Program} {w : World} {K : PySem.W.Frag} {tg : Expr} (it : Addr) (x : Str) (t : Tok) (ty : String) (hty : ty = "str_ascii_iterator" \/ ty = "str_iterator") : Turn P w K tg (Its x) [it] it (fun i h => h.IsStrIter it ty x t i) where
  mem := by simp
  obj := fun i h st b hb => by
    have e : b = it := by simpa using hb
    subst e
    obtain ⟨o, e, c, d⟩ := st
    exact ⟨o, e, fun v z => by rw [d] at z; cases z⟩
  keep := fun i h h' st k => let ⟨o, ho, r⟩ := st; ⟨o, k it (by simp) o ho, r⟩
  item := by
    intro X hP hw hK hc i pins s σ H E I hf st hg
    subst hP hw hK
    obtain ⟨f0, f1, f2, f3, f4, f5⟩ := hf it (by simp)
    have hi : i < x.cps.size := hg
    have fin : ∀ h', h'.IsStrIter it ty x t (i + 1) -> Heap.SameBut it s.heap h' -> ∃ u, (some (Value.str ⟨#[x.cps[i]]⟩ s.toks)) = some u /\
        wpAny (model X.prog X.w) X.A (letOwnedTupleGo tg (.ref it) u) (fun _ s2 => ∃ x_1 H', Inv X pins σ H' s2 /\ RelV x_1 u /\ (Its x).yld i H x_1 H' /\ s2.heap.IsStrIter it ty x t (i + 1) /\ ∀ b ∈ [it], H' b = none) E { s with heap := h', toks := s.toks + 1 } := fun h' st' sb => by
      have I1 : Inv X pins σ H { s with heap := h', toks := s.toks + 1 } := I.turned (fun b o hb e => (sb.2 b hb).trans e) f0 f1 f3 f4 f5
      obtain ⟨o, e, c, d⟩ := id st'
      refine ⟨_, rfl, Z54 (s := { s with heap := h', toks := s.toks + 1 }) (n := ty) e c d ?_ ⟨.str ⟨#[x.cps[i]]⟩, H, I1, ⟨_, rfl⟩, ⟨rfl, x.cps[i], by simp [hi], rfl⟩, st', fun b hb => (hf b hb).1⟩⟩
      rcases hty with rfl | rfl <;> decide
    rcases hty with rfl | rfl
    . exact wpAny_pyNext_ascii_item st (c := x.cps[i]) (by simp [hi]) fun h' st' sb => fin h' st' sb
    . exact wpAny_pyNext_wide_item st (c := x.cps[i]) (by simp [hi]) fun h' st' sb => fin h' st' sb
  done := by
    intro X hP hw hK hc i pins s σ H E I hf st hg
    subst hP hw hK
    obtain ⟨f0, f1, f2, f3, f4, f5⟩ := hf it (by simp)
    have hi : x.cps.size <= i := hg
    have fin : ∀ h', Heap.ExtBut it s.heap h' -> (none : Option Value) = none /\ Inv X pins σ H { s with heap := h' } := fun h' eb => ⟨rfl, I.turned (t' := s.toks) (fun b o hb e => eb b o hb e) f0 f1 f3 f4 f5⟩
    rcases hty with rfl | rfl
    . exact wpAny_pyNext_ascii_end (I.ok.hd hc) st (by simp [hi]) fun h' eb => fin h' eb
    . exact wpAny_pyNext_wide_end (I.ok.hd hc) st (by simp [hi]) fun h' eb => fin h' eb
  self := fun _ _ _ _ _ st h => by
    rcases hty with rfl | rfl
    . exact wpAny_pyIter_striter_ascii st h
    . exact wpAny_pyIter_striter_wide st h
theorem Zdm {mg : MG} {K : PySem.W.Frag} {a : Addr} {ys : List PV} {vs : List V} {S : Hp} (q : Rd S a (.lst vs)) (r : Reps mg S ys vs) : ItB mg (Itl K a) ys S := fun S1 H1 s1 sh => by
  have q1 : SqL K H1 a vs := .inl (Rd.mono (s1.trans sh) q)
  refine ⟨fun i x hx => ?_, fun i hi => ⟨vs, q1, by rw [<- r.length]; exact hi⟩⟩
  obtain ⟨v, h1, h2⟩ := r.get hx
  refine ⟨⟨vs, v, q1, h1⟩, fun v' H2 y => ?_⟩
  obtain ⟨rfl, y⟩ := y
  have e := y vs q1
  rw [h1] at e
  cases e
  exact ⟨S1, Ext.refl sh, h2.mono s1⟩
theorem Zg6 {mg : MG} {K : PySem.W.Frag} {a : Addr} {ys : List PV} {vs : List V} {S : Hp} (q : S a = some (.tup vs)) (r : Reps mg S ys vs) : ItB mg (Itt K a) ys S := fun S1 H1 s1 sh => by
  have q1 : SqT K H1 a vs := SqT.of (sh _ _ (s1 _ _ q))
  refine ⟨fun i x hx => ?_, fun i hi => ⟨vs, q1, by rw [<- r.length]; exact hi⟩⟩
  obtain ⟨v, h1, h2⟩ := r.get hx
  refine ⟨⟨vs, v, q1, h1⟩, fun v' H2 y => ?_⟩
  obtain ⟨rfl, y⟩ := y
  have e := y vs q1
  rw [h1] at e
  cases e
  exact ⟨S1, Ext.refl sh, h2.mono s1⟩
theorem Zf0 {mg : MG} {x : Str} {S : Hp} : ItB mg (Its x) (x.cps.toList.map fun c => .str ⟨#[c]⟩) S := fun S1 H1 s1 sh => by
  refine ⟨fun i y hy => ?_, fun i hi => by simpa [Its] using hi⟩
  rw [List.getElem?_map] at hy
  cases hc : x.cps.toList[i]? with
  | none => rw [hc] at hy; cases hy
  | some c =>
    rw [hc] at hy
    cases hy
    have hi : i < x.cps.size := by
      have := (List.getElem?_eq_some_iff.mp hc).1
      simpa using this
    refine ⟨hi, fun v H2 ⟨e, c', h1, h2⟩ => ?_⟩
    subst e h2
    have : c' = c := by
      have h3 : x.cps.toList[i]? = some c' := by simpa using h1
      rw [hc] at h3
      cases h3
      rfl
    subst this
    exact ⟨S1, Ext.refl sh, rfl⟩
theorem Zbw (i j k : Int) : rngV (.int i) (.int j) (.int k) = when (decide (0 < k) && decide (-1000000 < i) && decide (i < 1000000) && decide (-1000000 < j) && decide (j < 1000000) && decide (k < 1000000)) (.ok (Zi i j k)) := rfl
theorem Z90 {lo : Int} {n : Nat} {i : Nat} {x : PV} (h : ((List.range n).map fun (k : Nat) => PV.int (lo + 1 * (k : Int)))[i]? = some x) : i < n /\ x = .int (lo + i) := by
  rw [List.getElem?_map] at h
  by_cases hi : i < n
  . rw [List.getElem?_range hi] at h
    cases h
    exact ⟨hi, by show PV.int (lo + 1 * (i : Int)) = _; rw [Int.one_mul]⟩
  . rw [List.getElem?_eq_none (by simpa using Nat.le_of_not_lt hi)] at h
    cases h
theorem Zbd {mg : MG} {lo hi : Int} {S : Hp} : ItB mg (Itr lo (hi - lo).toNat) (Zi lo hi 1) S := fun S1 H1 s1 sh => by
  have e : Zi lo hi 1 = (List.range (hi - lo).toNat).map fun (k : Nat) => PV.int (lo + 1 * (k : Int)) := by
    unfold Zi
    rw [if_pos (by decide), show (hi - lo + 1 - 1) / 1 = hi - lo by omega]
  rw [e]
  refine ⟨fun i x hx => ?_, fun i h => by simpa [Itr] using h⟩
  obtain ⟨h1, rfl⟩ := Z90 hx
  exact ⟨h1, fun v H2 ⟨e1, e2⟩ => by subst e1 e2; exact ⟨S1, Ext.refl sh, rfl⟩⟩
section
variable {X : Cx} {Γ : List Own} {tg l a b : Expr} {f g : Ev} {p pos : Pos}
theorem i_V (he : PEB X Γ l .s f) : PIB X Γ tg l (iV f) := .mk fun W pins s σ H R I ⟨S₀, H₀, env, S, r, q⟩ => by
  refine thn (he W pins s σ H (fun v H1 => ∃ y S1, f env = .ok y /\ Ext S H S1 H1 /\ Rep X.mg S1 y v) I ⟨S₀, H₀, env, S, r, ?_⟩) fun u s1 ⟨v, H1, I1, rv, y, S1, hy, x1, ry⟩ => ?_
  . unfold iV at q
    cases hf : f env with
    | no => rw [hf] at q; exact q
    | err c => rw [hf] at q; exact q
    | ok y => exact Good.of fun v H' S' x rv => ⟨y, S', rfl, x, rv⟩
  . unfold iV at q
    rw [hy, B.R.bind_ok] at q
    cases y with
    | lst ys =>
      obtain ⟨a, vs, rfl, q1, rs⟩ := ry
      cases rv
      have hq : SqL X.K H1 a vs := .inl (Rd.mono x1.sh q1)
      obtain ⟨its, rvv, pl, hz⟩ := I1.list hq
      refine wpAny_pyIter_list pl.isList ?_
      refine ⟨s1.heap.objs.size, [s1.heap.objs.size], _, _, H1, rfl, I1.kept (t' := s1.toks) fun b o e => Heap.get?_push_of_some _ e, Zbg a _, ⟨_, Heap.get?_push_size _ rfl, rfl, rfl⟩, fun b hb => ?_, q _ H1 S1 x1 (Zdm q1 rs)⟩
      have e : b = s1.heap.objs.size := by simpa using hb
      subst e
      exact I1.fpOk (Nat.le_refl _) (I1.hok.fresh (Nat.le_refl _))
    | tup ys =>
      obtain ⟨a, vs, rfl, q1, rs⟩ := ry
      cases rv
      obtain ⟨its, rvv, pl, hz⟩ := I1.tuple (SqT.of (x1.sh _ _ q1))
      refine wpAny_pyIter_tuple (show s1.heap.IsTuple a its.toArray from pl) ?_
      refine ⟨s1.heap.objs.size, [s1.heap.objs.size], _, _, H1, rfl, I1.kept (t' := s1.toks) fun b o e => Heap.get?_push_of_some _ e, Zas a _, ⟨_, Heap.get?_push_size _ rfl, rfl, rfl⟩, fun b hb => ?_, q _ H1 S1 x1 (Zg6 q1 rs)⟩
      have e : b = s1.heap.objs.size := by simpa using hb
      subst e
      exact I1.fpOk (Nat.le_refl _) (I1.hok.fresh (Nat.le_refl _))
    | str x =>
      cases (show v = .str x from ry)
      obtain ⟨t, rfl⟩ := rv
      have fin : ∀ ty, (ty = "str_ascii_iterator" \/ ty = "str_iterator") -> PIE (XB X W) pins σ tg R (.ref s1.heap.objs.size) { s1 with heap := s1.heap.push { cls := .type ty, data := .fields #[.str x t, .int 0 0] } } := fun ty hty => by
        refine ⟨s1.heap.objs.size, [s1.heap.objs.size], _, _, H1, rfl, I1.kept (t' := s1.toks) fun b o e => Heap.get?_push_of_some _ e, Zec _ x t ty hty, ⟨_, Heap.get?_push_size _ rfl, rfl, rfl⟩, fun b hb => ?_, q _ H1 S1 x1 Zf0⟩
        have e : b = s1.heap.objs.size := by simpa using hb
        subst e
        exact I1.fpOk (Nat.le_refl _) (I1.hok.fresh (Nat.le_refl _))
      cases ha : x.cps.all (· < 128)
      . exact wpAny_pyIter_wide ha (fin _ (.inr rfl))
      . exact wpAny_pyIter_ascii ha (fin _ (.inl rfl))
    | _ => exact q.elim
theorem Z3o (hg : Gl X "range") (hm : X.mg "range" = none) (ha : PAB X Γ [a] [] [f]) (hs : starEach [a] X.env = [(false, eval a X.env)] := by rfl) : PIB X Γ tg (.Call (.Name "range" p) [a] [] pos) (iR (eK (.int 0)) f (eK (.int 1))) := .mk fun W =>
  piimp (Zb7 (X := XB X W) hg hm (ha W) hs) fun σ H R ⟨S₀, H₀, env, S, r, q⟩ => by
    refine ⟨S₀, H₀, env, S, r, ?_⟩
    unfold iR eK at q
    rw [B.R.bind_ok] at q
    unfold evs evs
    cases hf : f env with
    | no => rw [hf] at q; exact q.elim
    | err c => rw [hf] at q; exact q
    | ok y =>
      rw [hf, B.R.bind_ok, B.R.bind_ok] at q
      rw [B.R.bind_ok, B.R.map_ok]
      intro vs H1 S1 as x1 ⟨_, v, rr, e1, rv, e2⟩ _ _
      subst e1
      cases (show rr = [] from e2)
      cases y with
      | int j =>
        cases (show v = .int j from rv)
        rw [Zbw] at q
        cases hb : (decide ((0 : Int) < 1) && decide ((-1000000 : Int) < 0) && decide ((0 : Int) < 1000000) && decide (-1000000 < j) && decide (j < 1000000) && decide ((1 : Int) < 1000000)) with
        | false => rw [hb] at q; exact q.elim
        | true =>
          rw [hb] at q
          simp only [Bool.and_eq_true, decide_eq_true_eq] at hb
          refine ⟨j, rfl, by omega, by omega, ?_⟩
          have z := q (Itr 0 (j - 0).toNat) H1 S1 x1 Zbd
          rwa [Int.sub_zero] at z
      | _ => exact q.elim
end
end B
namespace B
open PySem PySem.Spec PyProof.Rows L2
theorem Z3t {env : PySem.Env} : ∀ (names : List (Str × NameKind)) (cs : List (Str × Addr)), (∀ y ∈ names, y.2 = .free -> ∃ c, env.cells.lookup y.1 = some c) ->
    ∃ cl, (forIn names cs fun (x : Str × NameKind) (r : List (Str × Addr)) => (if (x.2 == NameKind.free) = true then (cellOf env x.1 >>= fun a => pure (ForInStep.yield ((x.1, a) :: r))) else pure (ForInStep.yield r) : Sem (ForInStep (List (Str × Addr))))) = pure cl /\
      (∀ y c, cl.lookup y = some c -> env.cells.lookup y = some c \/ cs.lookup y = some c) /\ (∀ y, (y, NameKind.free) ∈ names -> ∃ c, cl.lookup y = some c) /\ (∀ y c, cs.lookup y = some c -> ∃ c', cl.lookup y = some c')
  | [], cs, _ => ⟨cs, rfl, fun y c h => .inr h, fun y h => by simp at h, fun y c h => ⟨c, h⟩⟩
  | (n, k) :: r, cs, h => by
    by_cases hk : k = .free
    . subst hk
      obtain ⟨c, hc⟩ := h (n, .free) List.mem_cons_self rfl
      obtain ⟨cl, e, h1, h2, h3⟩ := Z3t (env := env) r ((n, c) :: cs) fun y hy => h y (List.mem_cons_of_mem _ hy)
      refine ⟨cl, ?_, fun y c' q => ?_, fun y q => ?_, fun y c' q => ?_⟩
      . rw [List.forIn_cons]
        have e1 : cellOf env n = pure c := by unfold cellOf; rw [hc]
        simp only [beq_self_eq_true, if_true, e1, pure_bind]
        exact e
      . rcases h1 y c' q with z | z
        . exact .inl z
        . rw [List.lookup_cons] at z
          cases hy : y == n with
          | true =>
            rw [hy] at z
            cases z
            rw [eq_of_beq hy]
            exact .inl hc
          | false => rw [hy] at z; exact .inr z
      . rcases List.mem_cons.mp q with z | z
        . cases z
          exact h3 n c (by simp [List.lookup_cons])
        . exact h2 y z
      . cases hy : y == n with
        | true => exact h3 y c (by rw [List.lookup_cons, hy])
        | false => exact h3 y c' (by rw [List.lookup_cons, hy]; exact q)
    . obtain ⟨cl, e, h1, h2, h3⟩ := Z3t (env := env) r cs fun y hy => h y (List.mem_cons_of_mem _ hy)
      refine ⟨cl, ?_, h1, fun y q => ?_, h3⟩
      . rw [List.forIn_cons]
        have hb : (k == NameKind.free) = false := by simpa using hk
        simp only [hb, Bool.false_eq_true, if_false, pure_bind]
        exact e
      . rcases List.mem_cons.mp q with z | z
        . cases z; exact absurd rfl hk
        . exact h2 y z
theorem Z3u {env : PySem.Env} {scope : Scope} (h : ∀ y ∈ scope.names, y.2 = .free -> ∃ c, env.cells.lookup y.1 = some c) :
    ∃ cl, closureFor scope env = pure cl /\ (∀ y c, cl.lookup y = some c -> env.cells.lookup y = some c) /\ (∀ y, (y, NameKind.free) ∈ scope.names -> ∃ c, cl.lookup y = some c) := by
  obtain ⟨cl, e, h1, h2, _⟩ := Z3t (env := env) scope.names [] h
  refine ⟨cl, ?_, fun y c q => (h1 y c q).elim id fun z => by simp at z, h2⟩
  unfold closureFor
  have e' := e
  simp only [bind_pure_comp] at e' ⊢
  rw [e']
  rfl
def Z1o (X : Cx) (N' : List Str) (scope : Scope) (cl : List (Str × Addr)) (C : Addr) (s₀ : Shared) (H₀ : Hp) (ex : List Addr) : Cx :=
  { X with N := N', s₀ := s₀, H₀ := H₀, env := compEnvC scope cl C X.env, outer := X.stack, ex := ex, fn := fun _ => false, pn := [], xe := fun _ _ => False }
def relS (scope sc : Scope) : List (Str × NameKind) := scope.names.map fun (n, k) => if (k == .free && sc.kind == .function && sc.names.lookup n == some .cell) then (n, .cell) else (n, k)
def seen (scope sc : Scope) : Str × Str -> Bool := fun p => match (relS scope sc).lookup p.1 with
  | some .cell => decide (p.1 = p.2) && decide ((p.1, NameKind.free) ∈ scope.names)
  | some .free => decide (p.1 = p.2) && decide ((p.1, NameKind.free) ∈ scope.names)
  | some .local => false
  | _ => true
structure CompN (N N' : List Str) (x : Str) (scope sc : Scope) : Prop where
  kind : scope.kind = .function
  cell : ∀ y ∈ scope.names, y.2 ≠ .cell
  locs : ∀ y ∈ scope.names, y.2 = .local -> scope.names.lookup y.1 = some .local
  var : scope.names.lookup x = some .local
  free : ∀ y ∈ scope.names, y.2 = .free -> sc.names.lookup y.1 = some .cell
  nd : N'.Nodup
  len : N'.length = N.length + 1
  last : N'[N.length]? = some x
  same : (N'.zip N).all (seen scope sc) = true
theorem Z2h {sc : Scope} : ∀ {names : List (Str × NameKind)} {x : Str} {k : NameKind}, (names.map fun (n, k) => if (k == NameKind.free && sc.kind == .function && sc.names.lookup n == some .cell) then (n, NameKind.cell) else (n, k)).lookup x = some k ->
    names.lookup x = some k \/ (k = .cell /\ names.lookup x = some .free)
  | [], _, _, h => by simp at h
  | (n, k0) :: r, x, k, h => by
    have h' : List.lookup x ((if (k0 == NameKind.free && sc.kind == .function && sc.names.lookup n == some .cell) = true then (n, NameKind.cell) else (n, k0)) :: (r.map fun (n, k) => if (k == NameKind.free && sc.kind == .function && sc.names.lookup n == some .cell) then (n, NameKind.cell) else (n, k))) = some k := h
    by_cases hc : (k0 == NameKind.free && sc.kind == .function && sc.names.lookup n == some .cell) = true
    . rw [if_pos hc] at h'
      cases hx : x == n with
      | true =>
        rw [List.lookup_cons, hx] at h'
        cases h'
        rw [List.lookup_cons, hx]
        simp only [Bool.and_eq_true, beq_iff_eq] at hc
        exact .inr ⟨rfl, by rw [hc.1.1]⟩
      | false =>
        rw [List.lookup_cons, hx] at h'
        rw [List.lookup_cons, hx]
        exact Z2h h'
    . rw [if_neg hc] at h'
      cases hx : x == n with
      | true =>
        rw [List.lookup_cons, hx] at h'
        cases h'
        rw [List.lookup_cons, hx]
        exact .inl rfl
      | false =>
        rw [List.lookup_cons, hx] at h'
        rw [List.lookup_cons, hx]
        exact Z2h h'
theorem Z9u {α β : Type} : ∀ {l : List α} {m : List β} {i : Nat} {x : α} {y : β}, l[i]? = some x -> m[i]? = some y -> (x, y) ∈ l.zip m
  | [], _, _, _, _, h, _ => by simp at h
  | _ :: _, [], _, _, _, _, h => by simp at h
  | a :: l, b :: m, 0, x, y, h, h' => by simp at h h'; subst h h'; exact List.mem_cons_self
  | a :: l, b :: m, i + 1, x, y, h, h' => List.mem_cons_of_mem _ (Z9u (i := i) (by simpa using h) (by simpa using h'))
section
variable {X : Cx} {N' : List Str} {x : Str} {scope : Scope}
theorem CompN.at {N : List Str} {sc : Scope} (n : CompN N N' x scope sc) {i : Nat} {y : Str} (hi : i < N.length) (h : N'[i]? = some y) (v : (relS scope sc).lookup y = some .local \/ (relS scope sc).lookup y = some .cell \/ (relS scope sc).lookup y = some .free) :
    N[i]? = some y /\ (y, NameKind.free) ∈ scope.names /\ ((relS scope sc).lookup y = some .cell \/ (relS scope sc).lookup y = some .free) := by
  have m := Z9u h (show N[i]? = some N[i] by simp [hi])
  have c := List.all_eq_true.mp n.same _ m
  unfold seen at c
  rcases v with v | v | v
  . simp only [v] at c; cases c
  . simp only [v, Bool.and_eq_true, decide_eq_true_eq] at c
    exact ⟨by rw [List.getElem?_eq_getElem hi, <- c.1], c.2, .inl v⟩
  . simp only [v, Bool.and_eq_true, decide_eq_true_eq] at c
    exact ⟨by rw [List.getElem?_eq_getElem hi, <- c.1], c.2, .inr v⟩
theorem Ze7 {pins : List (Addr × Obj)} {σ : L2.St} {H : Hp} {s : Shared} {cl : List (Str × Addr)} {fp : List Addr} {h1 : Heap} {tk : Nat} (I : Inv X pins σ H s) (n : CompN X.N N' x scope X.env.scope)
    (c1 : ∀ y c, cl.lookup y = some c -> X.env.cells.lookup y = some c) (c2 : ∀ y, (y, NameKind.free) ∈ scope.names -> ∃ c, cl.lookup y = some c) (hfp : ∀ b ∈ fp, FpOk X pins H b) (hob : ∀ b ∈ fp, ∃ o, s.heap.get? b = some o)
    {m0 : Str -> Option Value} (hns : h1.Ns s.heap.objs.size m0) (hk : ∀ b o, s.heap.get? b = some o -> h1.get? b = some o) :
    Inv (Z1o X N' scope cl s.heap.objs.size s H fp) [] (σ ++ [none]) H { s with heap := h1, toks := tk } := by
  have kf : ∀ y, (relS scope X.env.scope).lookup y = some .cell \/ (relS scope X.env.scope).lookup y = some .free -> (y, NameKind.free) ∈ scope.names := fun y h => by
    rcases h with h | h
    . rcases Z2h h with z | ⟨_, z⟩
      . exact absurd rfl (n.cell _ (PySem.mem_of_lookup z))
      . exact PySem.mem_of_lookup z
    . rcases Z2h h with z | ⟨z, _⟩
      . exact PySem.mem_of_lookup z
      . cases z
  refine ⟨⟨I.ok.mod, n.kind, I.ok.glob, I.ok.blt, Nat.le_refl _, fun y z c h1 h2 => I.ok.inj y z c (c1 y c h1) (c1 z c h2), fun y h => c2 y (kf y h), fun y c h => (by cases h), I.ok.hd, I.ok.frames, .inl rfl, fun b hb => ⟨?_, fun y c h => (hfp b hb).2.2.2.2.1 y c (c1 y c h)⟩, I.bs, Nat.le_trans I.ok.bsz I.sz, fun b o q hb => ?_, fun b hb z => ?_, I.stack, I.stkFree⟩,
    rfl, I.bare, Un.kept hk, ⟨_, hns, fun i y v h1' h2 h3 => ?_⟩, fun y c h => ?_, I.fresh, fun y c h => I.freeC y c (c1 y c h), fun p hp => (by simp [Z1o] at hp), I.hok.kept hk, ?_⟩
  . obtain ⟨o, ho⟩ := hob b hb
    exact Nat.ne_of_lt (Heap.lt_size ho)
  . obtain ⟨_, _, _, z, _⟩ := hfp b hb
    rcases z with z | z
    . exact I.ok.noex b o q z
    . exact absurd (Nat.lt_of_lt_of_le (Heap.lt_size (I.ok.bs b o q).1) z) (Nat.lt_irrefl _)
  . obtain ⟨_, f1, f2, _⟩ := hfp b hb
    rcases List.mem_cons.mp (I.stkSub b z) with q | q
    . exact f1 q
    . exact f2 q
  . have h2 : (σ ++ [none])[i]? = some (some v) := h2
    have hl := I.len
    by_cases hi : i < X.N.length
    . obtain ⟨e1, e2, e4⟩ := n.at hi h1' h3
      rw [List.getElem?_append_left (by omega)] at h2
      obtain ⟨m, _, q⟩ := I.loc
      have ky := n.free _ e2 rfl
      obtain ⟨u, ru, lk⟩ := q i y v e1 h2 (.inr (.inl ky))
      refine ⟨u, ru, ?_⟩
      rcases lk with ⟨z, _⟩ | ⟨_, c, hc, o, ho, hd⟩
      . rw [show X.env.kindOf y = some .cell from ky] at z; cases z
      . obtain ⟨c', hc'⟩ := c2 y e2
        have e3 := c1 y c' hc'
        rw [hc] at e3
        cases e3
        exact .inr ⟨e4, c, hc', o, hk c o ho, hd⟩
    . by_cases hi' : i = X.N.length
      . subst hi'
        rw [List.getElem?_append_right (by omega), hl, Nat.sub_self] at h2
        simp at h2
      . rw [List.getElem?_eq_none (by rw [List.length_append, List.length_singleton]; omega)] at h2
        cases h2
  . obtain ⟨v, o, ho, hd⟩ := I.cell y c (c1 y c h)
    exact ⟨v, o, hk c o ho, hd⟩
  . show (σ ++ [none]).length = N'.length
    rw [List.length_append, List.length_singleton, I.len, n.len]
end
theorem Zbl {prog : Program} {w : World} {A : Around} {R : Result -> Shared -> Prop} {s : Shared} {elt target iter : Expr} {ifs : List Expr} {scope : Scope} {pos : Pos} {it acc : Value} {env : PySem.Env} (I : Nat -> Shared -> Prop)
    (turn : ∀ n s, I n s -> wpAny (model prog w) A (pyNext it) (fun r s1 => match r with
      | none => R (.ok .next) s1
      | some v => wpAny (model prog w) A (letOwnedTupleGo target it v) (fun _ s2 => wpAny (model prog w) A (assign target env v) (fun _ s3 =>
          wpAny (model prog w) A (forIn ifs true fun c r => if r = true then do let ok <- isTrue c env (eval c env); pure (ForInStep.yield ok) else pure (ForInStep.yield r)) (fun ok s4 =>
            if ok = true then wpAny (model prog w) A (eval elt env) (fun y s5 => wpAny (model prog w) A (call (.builtin "list.append") [acc, y]) (fun _ s6 => ∃ m, m < n /\ I m s6) (fun _ _ => False) s5) (fun _ _ => False) s4
            else ∃ m, m < n /\ I m s4) (fun _ _ => False) s3) (fun _ _ => False) s2) (fun _ _ => False) s1) (fun _ _ => False) s)
    (n : Nat) (h : I n s) : codeAny (model prog w) A (.compLoop (.ListComp elt [⟨target, iter, ifs, 0⟩] scope pos) 0 it acc env) R s := by
  refine codeAny_loop rfl I (fun n s hI => ?_) n h
  show wpAny _ A ((compTurn (.ListComp elt [⟨target, iter, ifs, 0⟩] scope pos) 0 it acc env).onRaise (fun x => do noteFrame x env; theTreesLotGoes x)) _ _ s
  refine wpAny_noted (wpAny_noRaise ?_)
  rw [compTurn_list]
  refine wpAny_bind (wpAny_standAt (wpAny_bind (thn (turn n s hI) fun r s1 h1 => ?_)))
  cases r with
  | none => exact wpAny_pure h1
  | some v =>
    refine wpAny_bind (thn h1 fun _ s2 h2 => wpAny_bind (thn h2 fun _ s3 h3 => wpAny_bind (thn h3 fun ok s4 h4 => ?_)))
    cases ok with
    | false => exact wpAny_pure ⟨rfl, h4⟩
    | true => exact wpAny_bind (wpAny_bind (thn h4 fun y s5 h5 => wpAny_bind (thn h5 fun _ s6 h6 => wpAny_pure (wpAny_pure ⟨rfl, h6⟩))))
theorem Zr.snoc {mg : MG} {S H : Hp} {g : Own} {e : Option PV} {v : Option V} {a : List Addr} : ∀ {Γ : List Own} {env : Env} {σ : L2.St} {as : List Addr}, Zr mg S H Γ env σ as -> Slot mg S H g e v a -> Zr mg S H (Γ ++ [g]) (env ++ [e]) (σ ++ [v]) (as ++ a)
  | [], _, _, _, h, q => by
    obtain ⟨rfl, rfl, rfl⟩ := h
    exact ⟨e, [], v, [], a, [], rfl, rfl, by simp, q, rfl, rfl, rfl⟩
  | _ :: Γ, _, _, _, ⟨e1, er, v1, r, a1, a2, h1, h2, h3, q1, t⟩, q => by
    subst h1 h2 h3
    exact ⟨e1, er ++ [e], v1, r ++ [v], a1, a2 ++ a, rfl, rfl, by simp, q1, Zr.snoc t q⟩
theorem Rel.snoc {mg : MG} {S₀ H₀ S H : Hp} {Γ : List Own} {env : Env} {σ : L2.St} {y : PV} {v : V} (r : Rel mg S₀ H₀ Γ env σ S H) (rv : Rep mg S y v) : Rel mg S₀ H₀ (Γ ++ [.s]) (env ++ [some y]) (σ ++ [some v]) S H := by
  obtain ⟨as, sl, nd, fr⟩ := r.own
  have z := Zr.snoc (g := .s) (e := some y) (v := some v) (a := []) sl ⟨v, rfl, rfl, rv⟩
  rw [List.append_nil] at z
  exact ⟨r.ext, as, z, nd, fr⟩
theorem Ext.less {S H S1 H1 Hm : Hp} {D : Addr} {o : HO} (e0 : H = upd Hm D o) (hm : Hm D = none) (hs : S D = none) (x : Ext S H S1 H1) : ∃ Hm1, Hm1 D = none /\ Ext S Hm S1 Hm1 /\ H1 = upd Hm1 D o /\ S1 D = none := by
  subst e0
  have s1 : S1 D = none := by
    cases z : S1 D with
    | none => rfl
    | some u =>
      rcases x.n D u z with q | q
      . rw [hs] at q; cases q
      . rw [Zg] at q; cases q
  refine ⟨fun b => if b = D then none else H1 b, if_pos rfl, ⟨fun b u q => ?_, x.s, fun b u q => ?_, fun b u q => ?_⟩, ?_, s1⟩
  . have nb : b ≠ D := by rintro rfl; rw [hm] at q; cases q
    show (if b = D then none else H1 b) = some u
    rw [if_neg nb]
    exact x.h b u (by rw [Z8 nb]; exact q)
  . have nb : b ≠ D := by rintro rfl; rw [s1] at q; cases q
    show (if b = D then none else H1 b) = some u
    rw [if_neg nb]
    exact x.sh b u q
  . rcases x.n b u q with z | z
    . exact .inl z
    . have nb : b ≠ D := by rintro rfl; rw [s1] at q; cases q
      rw [Z8 nb] at z
      exact .inr z
  . funext b
    unfold upd
    by_cases nb : b = D
    . subst nb
      rw [if_pos rfl]
      exact x.h b o Zg
    . rw [if_neg nb]; show H1 b = if b = D then none else H1 b; rw [if_neg nb]
theorem Zdi {Hm : Hp} {D : Addr} {o o' : HO} : upd (upd Hm D o) D o' = upd Hm D o' := by
  funext b
  unfold upd
  by_cases nb : b = D
  . rw [if_pos nb, if_pos nb]
  . rw [if_neg nb, if_neg nb, if_neg nb]
section
variable {X : Cx} {Γ : List Own} {N' : List Str} {x : Str} {scope : Scope} {px pos : Pos} {elt iter : Expr} {ifs : List Expr} {fe : Ev} {ft : Tv}
def Z6s (X : Cx) (Γ : List Own) (N' : List Str) (scope : Scope) (ifs : List Expr) (elt : Expr) (ft : Tv) (fe : Ev) : Prop := ∀ cl C s₀ H₀ ex,
  PEB (Z1o X N' scope cl C s₀ H₀ ex) (Γ ++ [.s]) elt .s fe /\ ((ifs = [] /\ ft = tYes) \/ ∃ c, ifs = [c] /\ PTB (Z1o X N' scope cl C s₀ H₀ ex) (Γ ++ [.s]) c ft)
theorem Z30 {ft : Tv} {fe : Ev} {env : Env} : ∀ {xs : List PV} {c : Str}, Zt ft fe env xs = .err c -> False
  | [], c, h => by cases h
  | x :: r, c, h => by
    unfold Zt at h
    cases h1 : ft (env ++ [some x]) with
    | no => rw [h1] at h; cases h
    | err e => rw [h1] at h; cases h
    | ok b =>
      rw [h1] at h
      cases b with
      | false => exact Z30 h
      | true =>
        cases h2 : fe (env ++ [some x]) with
        | no => simp only [h2] at h; cases h
        | err e => simp only [h2] at h; cases h
        | ok y =>
          simp only [h2] at h
          cases h3 : Zt ft fe env r with
          | no => rw [h3] at h; cases h
          | err e => exact Z30 h3
          | ok z => rw [h3] at h; cases h
theorem Z7h {α : Type} {a b : α} : ∀ {l : List α}, (l ++ [a]).set l.length b = l ++ [b]
  | [] => rfl
  | c :: l => by
    show c :: (l ++ [a]).set l.length b = c :: (l ++ [b])
    rw [Z7h]
theorem Zdw (n : CompN X.N N' x scope X.env.scope) (hc : X.calm = true) (hE : Z6s X Γ N' scope ifs elt ft fe)
    {pins : List (Addr × Obj)} {σ : L2.St} {H2 : Hp} {s3 : Shared} {it D : Addr} {fp : List Addr} {tn : Nat -> Heap -> Prop} {J : It} {S₀ H₀ S2 : Hp} {env : Env} {xs tot : List PV} (I3 : Inv X pins σ (upd H2 D (.lst [])) s3) (hD : H2 D = none) (T : Turn X.prog X.w X.K (.Name x px) J fp it tn)
    (st : tn 0 s3.heap) (hfp : ∀ b ∈ fp, FpOk X pins (upd H2 D (.lst [])) b) (rl : Rel X.mg S₀ H₀ Γ env σ S2 H2) (hJ : ItB X.mg J xs S2) (hcomp : Zt ft fe env xs = .ok tot) (hlen : xs.length < Zn)
    {cl : List (Str × Addr)} (c1 : ∀ y c, cl.lookup y = some c -> X.env.cells.lookup y = some c) (c2 : ∀ y, (y, NameKind.free) ∈ scope.names -> ∃ c, cl.lookup y = some c) {RR : Value -> Addr -> Result -> Shared -> Prop} {h1 : Heap} {m0 : Str -> Option Value} {tk : Nat}
    (hns : h1.Ns s3.heap.objs.size m0) (hk : ∀ b o, s3.heap.get? b = some o -> h1.get? b = some o)
    (fin : ∀ D C s1 S3 Hm vs, H2 D = none -> Hm D = none -> Ext S2 H2 S3 Hm -> Reps X.mg S3 tot vs -> Inv X pins σ (upd Hm D (.lst vs)) s1 -> FpOk X pins (upd Hm D (.lst vs)) C -> (∃ m, s1.heap.Ns C m) -> RR (.ref D) C (.ok .next) s1) :
    codeAny (model X.prog X.w) X.A (.compLoop (.ListComp elt [⟨.Name x px, iter, ifs, 0⟩] scope pos) 0 (.ref it) (.ref D) (compEnvC scope cl s3.heap.objs.size X.env)) (RR (.ref D) s3.heap.objs.size) { s3 with heap := h1, toks := tk } := by
  have hob : ∀ b ∈ fp, ∃ o, s3.heap.get? b = some o := fun b hb => let ⟨o, e, _⟩ := T.obj _ _ st b hb; ⟨o, e⟩
  have I4 := Ze7 (tk := tk) I3 n c1 c2 hfp hob hns hk
  have st4 : tn 0 h1 := T.keep _ _ _ st fun b hb o e => hk b o e
  obtain ⟨hEe, hEt⟩ := hE cl s3.heap.objs.size s3 (upd H2 D (.lst [])) fp
  have fpOk' : ∀ {H' : Hp}, (∀ b ∈ fp, H' b = none) -> ∀ b ∈ fp, FpOk (Z1o X N' scope cl s3.heap.objs.size s3 (upd H2 D (.lst [])) fp) [] H' b := fun {H'} hn b hb => by
    obtain ⟨f0, f1, f2, f3, f4, f5⟩ := hfp b hb
    refine ⟨hn b hb, ?_, fun z => ?_, .inl hb, fun y c h => f4 y c (c1 y c h), fun p hp => (by simp [Z1o] at hp)⟩
    . obtain ⟨o, e⟩ := hob b hb
      exact Nat.ne_of_lt (Heap.lt_size e)
    . rcases List.mem_cons.mp (I3.stkSub b z) with q | q
      . exact f1 q
      . exact f2 q
  refine Zbl (fun k s' => ∃ i vx Hm S3 ys vs rest, Inv (Z1o X N' scope cl s3.heap.objs.size s3 (upd H2 D (.lst [])) fp) [] (σ ++ [vx]) (upd Hm D (.lst vs)) s' /\ tn i s'.heap /\ (∀ b ∈ fp, (upd Hm D (.lst vs)) b = none) /\ Hm D = none /\ Ext S2 H2 S3 Hm /\
    Reps X.mg S3 ys vs /\ Zt ft fe env (xs.drop i) = .ok rest /\ ys ++ rest = tot /\ i <= xs.length /\ k = xs.length + 1 - i /\ ys.length <= i) ?_ (xs.length + 1) ⟨0, none, H2, S2, [], [], tot, I4, st4, fun b hb => (hfp b hb).1, hD, Ext.refl rl.ext.sh, rfl, hcomp, rfl, Nat.zero_le _, rfl, Nat.le_refl _⟩
  rintro k s' ⟨i, vx, Hm, S3, ys, vs, rest, I5, st5, fr5, hm, x5, rs, hcl, htot, hi, rfl, hy⟩
  have s3D : S3 D = none := x5.sh.none hm
  have sub3 : Sub S3 (upd Hm D (.lst vs)) := fun b o q => by rw [Z8 (Z10 (x5.sh b o q) hm)]; exact x5.sh b o q
  obtain ⟨go, stop⟩ := hJ S3 (upd Hm D (.lst vs)) x5.s sub3
  by_cases hlt : i < xs.length
  . obtain ⟨g1, g2⟩ := go i xs[i] (by simp [hlt])
    refine thn (T.item (Z1o X N' scope cl s3.heap.objs.size s3 (upd H2 D (.lst [])) fp) rfl rfl rfl hc i [] s' _ _ (fun _ _ => False) I5 (fpOk' fr5) st5 g1) fun r s6 ⟨u, hr, h6⟩ => ?_
    subst hr
    refine thn h6 fun _ s7 ⟨v, H7, I7, rv, y7, st7, fr7⟩ => ?_
    obtain ⟨S7, x7, rp⟩ := g2 v H7 y7
    obtain ⟨Hm7, hm7, x7', e7, s7D⟩ := x7.less rfl hm s3D
    subst e7
    have I7' := I7.pinned (fpOk' fr7) (T.obj _ _ st7)
    have pg := Z5o (X := Z1o X N' scope cl s3.heap.objs.size s3 (upd H2 D (.lst [])) fp) (pos := px) n.nd n.last (.inl (lookup_relabel_local n.var)) (.inr (lookup_relabel_local n.var))
    have el : (σ ++ [vx]).set X.N.length (some v) = σ ++ [some v] := by rw [<- I3.len]; exact Z7h
    refine thn (wpAny_mono (pg _ s7 _ _ v u (fun σ' H' => σ' = σ ++ [some v] /\ H' = upd Hm7 D (.lst vs)) I7' rv ⟨el, rfl⟩) (fun _ _ z => z) fun _ _ z => z) fun _ s8 ⟨σ8, H8, I8, e8, e8'⟩ => ?_
    subst e8 e8'
    rw [List.drop_eq_getElem_cons hlt] at hcl
    unfold Zt at hcl
    have rel7 : Rel X.mg S₀ H₀ (Γ ++ [.s]) (env ++ [some xs[i]]) (σ ++ [some v]) S7 (upd Hm7 D (.lst vs)) := ((rl.grow (x5.trans x7')).grow (Ext.own x7'.sh hm7)).snoc rp
    have test : wpAny (model X.prog X.w) X.A (forIn ifs true fun c r => if r = true then do let ok <- isTrue c (compEnvC scope cl s3.heap.objs.size X.env) (eval c (compEnvC scope cl s3.heap.objs.size X.env)); pure (ForInStep.yield ok) else pure (ForInStep.yield r))
        (fun ok s9 => ft (env ++ [some xs[i]]) = .ok ok /\ ∃ S9 H9, Ext S7 (upd Hm7 D (.lst vs)) S9 H9 /\ Inv (Z1o X N' scope cl s3.heap.objs.size s3 (upd H2 D (.lst [])) fp) ([] ++ Z3h fp s7.heap) (σ ++ [some v]) H9 s9) (fun _ _ => False) s8 := by
      rcases hEt with ⟨rfl, rfl⟩ | ⟨c, rfl, pt⟩
      . exact wpAny_tests_nil ⟨rfl, S7, _, Ext.refl rel7.ext.sh, I8⟩
      . cases hb : ft (env ++ [some xs[i]]) with
        | no => rw [hb] at hcl; cases hcl
        | err e => rw [hb] at hcl; cases hcl
        | ok b =>
          refine wpAny_tests_one (wpAny_mono (pt (fun _ _ _ => False) _ s8 _ _ (fun b' H' => b' = b /\ ∃ S', Ext S7 (upd Hm7 D (.lst vs)) S' H') (I8.wish _) ⟨S₀, H₀, env ++ [some xs[i]], S7, rel7, ?_⟩) (fun ok s9 ⟨H9, I9, e, S9, x9⟩ => ⟨by rw [e], S9, H9, x9, I9.unwish⟩) fun _ _ ⟨_, _, _, _, z⟩ => z)
          rw [hb]
          exact fun H' S' x => ⟨rfl, S', x⟩
    refine thn test fun ok s9 ⟨hft, S9, H9, x9, I9⟩ => ?_
    obtain ⟨Hm9, hm9, x9', e9, s9D⟩ := x9.less rfl hm7 s7D
    subst e9
    rw [hft] at hcl
    have pin9 : ∀ {σ' : L2.St} {H' : Hp} {s' : Shared}, Inv (Z1o X N' scope cl s3.heap.objs.size s3 (upd H2 D (.lst [])) fp) ([] ++ Z3h fp s7.heap) σ' H' s' -> tn (i + 1) s'.heap /\ ∀ b ∈ fp, H' b = none := fun {σ' H' s'} J => by
      refine ⟨T.keep _ _ _ st7 fun b hb o e => (J.pin (b, o) (List.mem_append_right _ (List.mem_append_right _ (Z2f hb e)))).1, fun b hb => ?_⟩
      obtain ⟨o, e, d⟩ := T.obj _ _ st7 b hb
      exact (J.pin (b, o) (List.mem_append_right _ (List.mem_append_right _ (Z2f hb e)))).2.1
    have x59 := (x5.trans x7').trans x9'
    cases ok with
    | false =>
      obtain ⟨p1, p2⟩ := pin9 I9
      exact ⟨xs.length + 1 - (i + 1), by omega, i + 1, some v, Hm9, S9, ys, vs, rest, I9.unpinned, p1, p2, hm9, x59, rs.mono (x7'.s.trans x9'.s), hcl, htot, hlt, rfl, by omega⟩
    | true =>
      have rel9 : Rel X.mg S₀ H₀ (Γ ++ [.s]) (env ++ [some xs[i]]) (σ ++ [some v]) S9 (upd Hm9 D (.lst vs)) := ((rl.grow x59).grow (Ext.own x59.sh hm9)).snoc (rp.mono x9'.s)
      cases hy' : fe (env ++ [some xs[i]]) with
      | no => simp only [hy'] at hcl; cases hcl
      | err e => simp only [hy'] at hcl; cases hcl
      | ok y =>
        simp only [hy'] at hcl
        show wpAny _ _ (eval elt (compEnvC scope cl s3.heap.objs.size X.env)) _ _ s9
        refine thn (wpAny_mono (hEe (fun _ _ _ => False) _ s9 _ _ (fun vy H' => ∃ S', Ext S9 (upd Hm9 D (.lst vs)) S' H' /\ Rep X.mg S' y vy) (I9.wish _) ⟨S₀, H₀, env ++ [some xs[i]], S9, rel9, ?_⟩) (fun _ _ z => z) fun _ _ ⟨_, _, _, _, z⟩ => z) fun uy s10 ⟨vy, H10, I10, ry, S10, x10, rpy⟩ => ?_
        . rw [hy']
          exact Good.of fun vy H' S' x r => ⟨S', x, r⟩
        . obtain ⟨Hm10, hm10, x10', e10, s10D⟩ := x10.less rfl hm9 s9D
          subst e10
          have hvl := rs.length
          have hz : vs.length < sizeLine := by rw [Z1u]; omega
          refine thn (wpAny_mono (Z6f (X := Z1o X N' scope cl s3.heap.objs.size s3 (upd H2 D (.lst [])) fp) _ s10 _ _ (.ref D) [vy] (.ref D) [uy] (fun v' H' => H' = upd Hm10 D (.lst (vs ++ [vy]))) I10.unwish rfl (.cons ry .nil) ⟨D, vs, vy, rfl, rfl, Zg, hz, Zdi⟩) (fun _ _ z => z) fun _ _ z => z) fun u2 s11 ⟨v2, H11, I11, _, e11⟩ => ?_
          subst e11
          obtain ⟨p1, p2⟩ := pin9 I11
          cases hr : Zt ft fe env (List.drop (i + 1) xs) with
          | no => rw [hr] at hcl; cases hcl
          | err e => rw [hr] at hcl; cases hcl
          | ok rest' =>
            rw [hr] at hcl
            cases hcl
            exact ⟨xs.length + 1 - (i + 1), by omega, i + 1, some v, Hm10, S10, ys ++ [y], vs ++ [vy], rest', I11.unpinned, p1, p2, hm10, x59.trans x10', (rs.mono ((x7'.s.trans x9'.s).trans x10'.s)).append ⟨vy, [], rfl, rpy, rfl⟩, hr, by rw [List.append_assoc]; exact htot, hlt, rfl, by rw [List.length_append, List.length_singleton]; omega⟩
  . have e : i = xs.length := by omega
    subst e
    refine thn (T.done (Z1o X N' scope cl s3.heap.objs.size s3 (upd H2 D (.lst [])) fp) rfl rfl rfl hc _ [] s' _ _ (fun _ _ => False) I5 (fpOk' fr5) st5 (stop _ (Nat.le_refl _))) fun r s6 ⟨hr, I6⟩ => ?_
    subst hr
    rw [List.drop_length] at hcl
    cases hcl
    rw [List.append_nil] at htot
    subst htot
    refine fin D s3.heap.objs.size s6 S3 Hm vs hD hm x5 rs (I3.call' I6.os I6.base I6.hok I6.bare fun b hb => ?_) (I3.fpOk (Nat.le_refl _) I6.free) ?_
    . obtain ⟨f0, f1, f2, f3, f4, f5⟩ := hfp b hb
      exact ⟨f3, f1, f4, f5⟩
    . obtain ⟨m, h, _⟩ := I6.loc
      exact ⟨m, h⟩
theorem Z5g (n : CompN X.N N' x scope X.env.scope) (hc : X.calm = true) (hE : Z6s X Γ N' scope ifs elt ft fe)
    {pins : List (Addr × Obj)} {σ : L2.St} {H2 : Hp} {s2 : Shared} {it : Addr} {fp : List Addr} {tn : Nat -> Heap -> Prop} {J : It} {S₀ H₀ S2 : Hp} {env : Env} {xs tot : List PV} (I2 : Inv X pins σ H2 s2) (T : Turn X.prog X.w X.K (.Name x px) J fp it tn)
    (st : tn 0 s2.heap) (hfp : ∀ b ∈ fp, FpOk X pins H2 b) (rl : Rel X.mg S₀ H₀ Γ env σ S2 H2) (hJ : ItB X.mg J xs S2) (hcomp : Zt ft fe env xs = .ok tot) (hlen : xs.length < Zn)
    {cl : List (Str × Addr)} (c1 : ∀ y c, cl.lookup y = some c -> X.env.cells.lookup y = some c) (c2 : ∀ y, (y, NameKind.free) ∈ scope.names -> ∃ c, cl.lookup y = some c) {E : Value -> Shared -> Prop} {RR : Value -> Addr -> Result -> Shared -> Prop}
    (fin : ∀ D C s1 S3 Hm vs, H2 D = none -> Hm D = none -> Ext S2 H2 S3 Hm -> Reps X.mg S3 tot vs -> Inv X pins σ (upd Hm D (.lst vs)) s1 -> FpOk X pins (upd Hm D (.lst vs)) C -> (∃ m, s1.heap.Ns C m) -> RR (.ref D) C (.ok .next) s1) :
    wpAny (model X.prog X.w) X.A (newList []) (fun acc s3 => wpAny (model X.prog X.w) X.A (newFunctionEnv scope X.env.globals cl [] X.env.qual none .none (some X.env)) (fun cenv s4 =>
      codeAny (model X.prog X.w) X.A (.compStart (.ListComp elt [⟨.Name x px, iter, ifs, 0⟩] scope pos) 0 (.ref it) acc { cenv with scope := relabel scope X.env }) (RR acc cenv.locals) s4) E s3) E s2 := by
  refine wpAny_newObj_type (wpAny_newFunctionEnv n.cell (by intro y hy; simp at hy) (fun h1 hns hsb => ?_) n.kind)
  dsimp only at hns hsb ⊢
  have I3 : Inv X pins σ (upd H2 s2.heap.objs.size (.lst [])) { s2 with heap := s2.heap.push { cls := .type "list", dict := none, data := .seq ([] : List Value).toArray } } :=
    I2.laid (t' := s2.toks) (fun b u e => Heap.get?_push_of_some _ e) (Nat.le_refl _) ⟨Nat.zero_le _, [], 0, .nil, Heap.get?_push_size _ rfl⟩
  have hk : ∀ b o, (s2.heap.push { cls := .type "list", dict := none, data := .seq ([] : List Value).toArray }).get? b = some o -> h1.get? b = some o := fun b o e => hsb.extBut b o (Nat.ne_of_lt (Heap.lt_size e)) (Heap.get?_push_of_some _ e)
  have hfp3 : ∀ b ∈ fp, FpOk X pins (upd H2 s2.heap.objs.size (.lst [])) b := fun b hb => by
    obtain ⟨o, e, _⟩ := T.obj _ _ st b hb
    exact ⟨by rw [Z8 (Nat.ne_of_lt (Heap.lt_size e))]; exact (hfp b hb).1, (hfp b hb).2⟩
  have st3 : tn 0 (s2.heap.push { cls := .type "list", dict := none, data := .seq ([] : List Value).toArray }) := T.keep _ _ _ st fun b hb o e => Heap.get?_push_of_some _ e
  have loop := Zdw (iter := iter) (pos := pos) (tk := s2.toks + ([] : List (Str × Value)).length) (RR := RR) n hc hE I3 I2.fresh T st3 hfp3 rl hJ hcomp hlen c1 c2 hns hk fin
  exact codeAny_compStart_list loop (T.self _ 0 _ _ _ (T.keep _ _ _ st3 fun b hb o e => hk b o e) loop)
theorem Z37 {fi : Iv} (n : CompN X.N N' x scope X.env.scope) (hc : X.calm = true) (hit : PIB X Γ (.Name x px) iter fi) (hE : Z6s X Γ N' scope ifs elt ft fe) (hs : ∀ x, foldedSetIterable iter X.env x = pure x := by intro _; rfl) :
    PEB X Γ (.ListComp elt [⟨.Name x px, iter, ifs, 0⟩] scope pos) (.o []) (Z1g fi ft fe) := .mk fun W pins s σ H Q I ⟨S₀, H₀, env, S, r, q⟩ => by
  obtain ⟨cl, hcl, c1, c2⟩ := Z3u (env := X.env) (scope := scope) fun y hy hf => I.ok.has y.1 (.inl (n.free y hy hf))
  rw [eval_ListComp]
  refine wpAny_comprehension_free (use := none) rfl hs hcl n.kind n.locs (thn (hit W pins s σ H (fun J H1 => ∃ xs S1, fi env = .ok xs /\ Ext S H S1 H1 /\ ItB X.mg J xs S1) I ⟨S₀, H₀, env, S, r, ?_⟩) fun xv s1 h1 => thn h1 fun itv s2 ⟨it, fp, tn, J, H2, e, I2, T, st2, f2, xs, S2, hxs, x2, hJ⟩ => ?_)
  . unfold Z1g at q
    cases hf : fi env with
    | no => rw [hf] at q; exact q
    | err c => rw [hf] at q; exact q
    | ok xs => exact fun J H' S' x z => ⟨xs, S', rfl, x, z⟩
  . subst e
    unfold Z1g at q
    rw [hxs, R.bind_ok] at q
    cases hl : decide (xs.length < Zn) with
    | false => rw [hl] at q; exact q.elim
    | true =>
      rw [hl] at q
      cases ht : Zt ft fe env xs with
      | no => rw [ht] at q; exact q.elim
      | err c => rw [ht] at q; exact False.elim (Z30 ht)
      | ok tot =>
        rw [ht] at q
        refine Z5g (RR := fun acc C => compPost (model X.prog X.w) X.A (XB X W).xe none (EP (XB X W) pins σ Q) acc C) n hc hE I2.unwish T st2 f2 (r.grow x2) hJ ht (of_decide_eq_true hl) c1 c2 fun D C s3 S3 Hm vs hD hm x3 rs I3 fC ⟨m, hm2⟩ => ⟨m, hm2, fun h' sb => ?_⟩
        obtain ⟨g0, g1, g2, g3, g4, g5⟩ := fC
        refine ⟨.ref D, upd Hm D (.lst vs), (I3.turned (t' := s3.toks) (fun b o hb e => (sb.2 b hb).trans e) g0 g1 g3 g4 g5).wish _, rfl, ?_⟩
        have x4 := (x2.trans x3).trans (Ext.own (o := .lst vs) x3.sh hm)
        refine q (.ref D) _ S3 [D] x4 ⟨D, vs, [], rfl, Zg, ⟨rfl, rs⟩, rfl⟩ (by simp) (fun a ma => ?_)
        have e : a = D := by simpa using ma
        subst e
        exact ⟨x2.h.none hD, x3.sh.none hm⟩
end
end B
namespace B
open PySem PySem.Spec PyProof.Rows L2
section
variable {X : Cx} {Γ : List Own} {pos : Pos}
theorem bv (i : Nat) {x : Str} (hN : X.N[i]? = some x := by rfl) (hv : Vis X.env.scope x := by first | exact Or.inl rfl | exact Or.inr (Or.inl rfl) | exact Or.inr (Or.inr rfl)) (hg : Γ[i]? = some .s := by rfl) (hd : (x == ("__debug__" : Str)) = false := by decide)
    (hcd : (x == ("__classdict__" : Str)) = false := by decide) : PEB X Γ (.Name x pos) .s (eV i) := b_var hN hv hg hd hcd
theorem Zbo : ∀ (bs : List Bool), (List.range bs.length).all (fun i => (bs[i]?).getD true) = bs.all id := fun bs => by
  rw [Bool.eq_iff_iff, List.all_eq_true, List.all_eq_true]
  constructor
  . intro h b hb
    obtain ⟨i, hi, e⟩ := List.mem_iff_getElem.mp hb
    have z := h i (List.mem_range.mpr hi)
    rw [List.getElem?_eq_getElem hi, e] at z
    exact z
  . intro h i hi
    have hi := List.mem_range.mp hi
    rw [List.getElem?_eq_getElem hi]
    exact h _ (List.getElem_mem hi)
theorem Zd4 (hc : X.calm = true) : Z11 X (.builtin "all") (fun xs H Q => ∃ (a : Addr) (vs : List V) (bs : List Bool), xs = [V.ref a] /\ SqL X.K H a vs /\ vs = bs.map V.bl /\ Q (.bl (bs.all id)) H) := by
  intro pins s σ H xs us Q I r h
  obtain ⟨a, vs, bs, rfl, hq, hv, q⟩ := h
  obtain ⟨u, rfl, ru⟩ := Z1j r
  cases ru
  obtain ⟨its, rv, pl, hz⟩ := I.list hq
  have hl : its.length = bs.length := by rw [<- rv.length, hv, List.length_map]
  have pl2 := pl.isList
  obtain ⟨ob, hob, _⟩ := id pl2
  refine call_all_walk (wpAny_pyIter_list pl.isList ?_)
  refine ⟨s.heap.objs.size, _, _, _, _, _, fun i => (bs[i]?).getD true, rfl, Walks.list (A := X.A.in1) (show X.A.in1.handled = none from I.ok.hd hc) _ a (Nat.ne_of_lt (Heap.lt_size hob)) its.toArray, ⟨⟨_, Heap.get?_push_size _ rfl, rfl, rfl⟩, pl2.at fun o e => Heap.get?_push_of_some _ e⟩, fun i v s' Q' E' hP hQ => ?_, fun h' tk hk => ?_⟩
  . have hP : its[i]? = some v := by simpa using hP
    have hi : i < bs.length := by rw [<- hl]; exact (List.getElem?_eq_some_iff.mp hP).1
    obtain ⟨v', e1, e2⟩ := rv.get (i := i) (x := .bl bs[i]) (by rw [hv]; simp [hi])
    rw [hP] at e1
    cases e1
    cases (show v = Value.bool bs[i] from e2)
    refine wpAny_truthy_bool ?_
    have z : (bs[i]?).getD true = bs[i] := by simp [hi]
    have hQ : Q' ((bs[i]?).getD true) s' := hQ
    rw [z] at hQ
    exact hQ
  . refine ⟨.bl (bs.all id), H, I.kept fun b o e => hk b o ?_ (Heap.get?_push_of_some _ e), ?_, q⟩
    . intro z
      have z : b = s.heap.objs.size := by simpa using z
      exact absurd (Heap.lt_size e) (by rw [z]; exact Nat.lt_irrefl _)
    . show Value.bool _ = Value.bool _
      rw [List.size_toArray, hl, Zbo]
theorem Z98 {mg : MG} {S : Hp} : ∀ {ys : List PV} {vs : List V} {bs : List Bool}, Reps mg S ys vs -> Z1y ys = .ok bs -> vs = bs.map V.bl
  | [], _, _, r, h => by cases (show _ = [] from r); cases h; rfl
  | y :: ys, _, bs, ⟨v, r, e, h1, t⟩, h => by
    subst e
    cases y with
    | bl b =>
      unfold Z1y at h
      cases hb : Z1y ys with
      | no => rw [hb] at h; cases h
      | err c => rw [hb] at h; cases h
      | ok bs' =>
        rw [hb] at h
        cases h
        rw [Z98 t hb, show v = .bl b from h1]
        rfl
    | _ => cases h
theorem Z66 : ∀ {ys : List PV} {c : Str}, Z1y ys = .err c -> False
  | [], _, h => by cases h
  | y :: ys, c, h => by
    cases y with
    | bl b =>
      unfold Z1y at h
      cases hb : Z1y ys with
      | no => rw [hb] at h; cases h
      | err c => exact Z66 hb
      | ok bs' => rw [hb] at h; cases h
    | _ => cases h
theorem Zak (hc : X.calm = true) : Z2a X (.builtin "all") .s cAll := fun W => by
  refine ⟨_, Zd4 (X := XB X W) hc, fun ys vs S H hs r => ?_⟩
  match ys, r with
  | [], _ => exact True.intro
  | y :: _ :: _, _ => cases y <;> exact True.intro
  | [.non], _ => exact True.intro
  | [.bl _], _ => exact True.intro
  | [.int _], _ => exact True.intro
  | [.ins _ _], _ => exact True.intro
  | [.exc _], _ => exact True.intro
  | [.str x], _ => exact True.intro
  | [.tup xs], _ => exact True.intro
  | [.dct xs], _ => exact True.intro
  | [.lst xs], ⟨v, _, e1, ⟨a, us, ea, ra, rs⟩, e2⟩ =>
    show OkR ((allB xs).map PV.bl) _
    unfold allB
    cases hb : Z1y xs with
    | no => exact True.intro
    | err c => exact (Z66 hb).elim
    | ok bs =>
      intro Q g
      subst e1 e2 ea
      exact ⟨a, us, bs, rfl, .inl (Rd.mono hs ra), Z98 rs hb, g.sh (Ext.refl hs) rfl⟩
end
theorem boot_all : bootBuiltins "all" = some (.builtin "all") := by decide +kernel
end B
namespace B
open PySem PySem.Spec PyProof.Rows L2
theorem Rel.mut {mg : MG} {S₀ H₀ S H S1 H1 : Hp} {Γ : List Own} {env : Env} {σ : L2.St} {i : Nat} {g : Own} {y : PV} (r : Rel mg S₀ H₀ Γ env σ S H) (x : Ext S H S1 H1) (hg : Γ[i]? = some g) (he : env[i]? = some (some y)) :
    ∃ u as, σ[i]? = some (some u) /\ OwnR mg S H g y u as /\ as.Nodup /\ (∀ a ∈ as, S1 a = none) /\ ∀ H2 y2, (∀ b, b ∉ as -> H2 b = H1 b) -> OwnR mg S1 H2 g y2 u as -> Rel mg S₀ H₀ Γ (env.set i (some y2)) σ S1 H2 := by
  obtain ⟨es, sl, nd, fr⟩ := r.own
  obtain ⟨e, v, l1, ai, l2, k1, k2, k3, k4, k5⟩ := sl.at hg
  rw [he] at k1
  cases k1
  obtain ⟨u, rfl, ow⟩ := k4
  subst k3
  obtain ⟨n1, n2, n3⟩ := List.nodup_append.mp nd
  obtain ⟨n4, n5, n6⟩ := List.nodup_append.mp n1
  have s1 : ∀ a ∈ l1 ++ ai ++ l2, S1 a = none := fun a m => by
    cases z : S1 a with
    | none => rfl
    | some o =>
      rcases x.n a o z with q | q
      . rw [(fr a m).1] at q; cases q
      . obtain ⟨o', ho'⟩ := sl.there a m
        rw [q] at ho'; cases ho'
  have ain : ∀ a ∈ ai, a ∈ l1 ++ ai ++ l2 := fun a m => List.mem_append_left _ (List.mem_append_right _ m)
  refine ⟨u, ai, k2, ow, n5, fun a m => s1 a (ain a m), fun H2 y2 h2 ow2 => ⟨⟨fun b o q => ?_, r.ext.s.trans x.s, fun b o q => ?_, (r.ext.trans x).n⟩, l1 ++ ai ++ l2, ?_, nd, fun a m => ⟨s1 a m, (fr a m).2⟩⟩⟩
  . rw [h2 b fun m => by rw [(fr b (ain b m)).2] at q; cases q]
    exact x.h b o (r.ext.h b o q)
  . rw [h2 b fun m => by rw [s1 b (ain b m)] at q; cases q]
    exact x.sh b o q
  . have z := k5 S1 H2 g (some y2) (some u) ai x.s (fun a m o q => ?_) ⟨u, rfl, ow2⟩
    . rw [Z2m hg, Z2m k2] at z
      exact z
    . rw [h2 a fun m' => ?_]
      . exact x.h a o q
      . rcases List.mem_append.mp m with m | m
        . exact n6 a m a m' rfl
        . exact n3 a (List.mem_append_right _ m') a m rfl
section
variable {X : Cx} {w : Way} {Γ Γ' : List Own} {e k : Expr} {fe fk : Ev} {i : Nat} {x : Str} {p1 p2 p3 pos : Pos}
theorem Zeb (l : LeO w.e Γ) (hN : X.N[i]? = some x) (hv : Vis X.env.scope x) (hg : Γ[i]? = some (.o [])) (he : PEB X Γ e .s fe) (hline : (p2.endLine == p3.line) = true := by rfl)
    (hd : (x == ("__debug__" : Str)) = false := by decide) (hcd : (x == ("__classdict__" : Str)) = false := by decide)
    (hs : starEach [e] X.env = (false, eval e X.env) :: starEach [] X.env := by rfl)
    (hfew : ((backTo p3 (starEach [e] X.env)).all (fun x => !x.1) && (backToKw p3 (keywordEach [] X.env)).all (fun x => x.1.isSome) && decide ([e].length + ([] : List Keyword).length + (if ([] : List Keyword).isEmpty then 0 else 1) < 30)) = true := by rfl)
    (hsw : swapsWith (.Call (.Attribute (.Name x p1) "append" p2) [e] [] p3) none pos.line X.env = pure false := by rfl) :
    PSB X w Γ Γ (.Expr (.Call (.Attribute (.Name x p1) "append" p2) [e] [] p3) pos) (sMod i none (Z36 fe)) := .mk fun W _ =>
  Z2e (Za2 (pe_bm (X := XB X W) PySem.F.plainAttrs_list PySem.F.slot_list_append PySem.F.type_list_append Z6f (Z71 hN hv hd hcd) (Z26 (he W) Z3l hs) rfl hfew hline hs rfl) hsw) fun D σ H ⟨S₀, H₀, env, S, r, q⟩ => by
    unfold sMod at q
    cases hy : env[i]? with
    | none => rw [hy] at q; exact q.elim
    | some oy =>
      cases oy with
      | none => rw [hy] at q; exact q.elim
      | some y =>
        rw [hy] at q
        have q : OutB X.mg S₀ H₀ S w Γ W D (on (Z36 fe env y) env fun z => .nx (env.set i (some z))) := q
        unfold Z36 at q
        obtain ⟨u, as, k1, k2, k3, _, _⟩ := r.mut (Ext.refl r.ext.sh) hg hy
        cases y with
        | lst xs =>
          obtain ⟨a, vs, rest, rfl, ha, hr, hasr⟩ := (show ∃ a vs rest, u = .ref a /\ H a = some (.lst vs) /\ Zu X.mg S H [] xs vs rest /\ as = a :: rest from k2)
          refine ⟨_, k1, .inl ⟨rfl, _, SqL.of ha⟩, S₀, H₀, env, S, r, ?_⟩
          cases hf : fe env with
          | no => simp only [hf] at q; exact q.elim
          | err c => simp only [hf] at q; exact Z42 l r q
          | ok z =>
            simp only [hf, R.bind_ok] at q
            cases hz : decide (xs.length < Zn) with
            | false => simp only [hz, when_false] at q; exact q.elim
            | true =>
              simp only [hz, when_true] at q
              refine Good.of fun vz H1 S1 x1 rz => ?_
              obtain ⟨u', as', j1, j2, j3, j4, j5⟩ := r.mut x1 hg hy
              rw [k1] at j1
              cases j1
              obtain ⟨a', vs', rest', e1, ha', hr', has'⟩ := (show ∃ a' vs rest, V.ref a = .ref a' /\ H a' = some (.lst vs) /\ Zu X.mg S H [] xs vs rest /\ as' = a' :: rest from j2)
              cases e1
              rw [ha] at ha'
              cases ha'
              have hl := hr.2.length
              refine ⟨a, vs, vz, rfl, rfl, x1.h _ _ ha, by rw [Z1u]; have := of_decide_eq_true hz; omega, ?_⟩
              refine q _ _ S1 x1.s (j5 _ _ (fun b hb => Z8 fun z => hb (by rw [has', z]; exact List.mem_cons_self)) ?_)
              rw [has', hr'.1]
              exact ⟨a, vs ++ [vz], [], rfl, Zg, ⟨rfl, (hr.2.mono x1.s).append ⟨vz, [], rfl, rz, rfl⟩⟩, rfl⟩
        | _ => exact q.elim
end
end B
namespace B
open PySem PySem.Spec PyProof.Rows L2
def Z73 (K : PySem.W.Frag) : Bool := K.all fun p => match p.2.cls with
  | .type n => n != "list"
  | _ => true
theorem Z52 {α β : Type} [BEq α] [LawfulBEq α] {a : α} {b : β} : ∀ {l : List (α × β)}, l.lookup a = some b -> (a, b) ∈ l
  | [], h => by simp at h
  | (c, d) :: r, h => by
    rw [List.lookup_cons] at h
    cases e : a == c with
    | true =>
      rw [e] at h
      cases h
      rw [eq_of_beq e]
      exact List.mem_cons_self
    | false => rw [e] at h; exact List.mem_cons_of_mem _ (Z52 h)
theorem Zfk {K : PySem.W.Frag} (h : Z73 K = true) {H : Hp} {a : Addr} {xs : List V} (q : SqL K H a xs) : Rd H a (.lst xs) := by
  rcases q with q | ⟨o, its, n, hk, hc, _⟩
  . exact q
  . have z := List.all_eq_true.mp h _ (Z52 hk)
    simp only [hc] at z
    exact absurd z (by decide)
def Z6r : Sp := fun vs H Q _ => ∃ (a : Addr) (ns : List Int), vs = [.ref a] /\ Rd H a (.lst (ns.map V.int)) /\ ns.length <= 63 /\ ∀ H', Q (.bl true) H'
theorem Z6c {mg : MG} {S : Hp} : ∀ (ns : List Int), Reps mg S (ns.map .int) (ns.map V.int)
  | [] => rfl
  | n :: ns => ⟨.int n, ns.map V.int, rfl, rfl, Z6c ns⟩
theorem sp_14 {mg : MG} {g : List PV -> R PV} (hl : ∀ ns : List Int, ns.length <= 63 -> g [.lst (ns.map .int)] = .ok (.bl true)) {vs : List V} {H : Hp} {Q : VK} {E : XK} (h : Z6r vs H Q E) : spB mg 1 .s g vs H Q E := by
  obtain ⟨a, ns, rfl, q, hn, k⟩ := h
  refine ⟨fun b => if b = a then H a else none, [.lst (ns.map .int)], fun b o e => ?_, ⟨.ref a, [], rfl, ⟨a, ns.map V.int, rfl, ?_, Z6c ns⟩, rfl⟩, rfl, ?_⟩
  . by_cases hb : b = a
    . subst hb; exact (if_pos rfl).symm.trans e
    . exact absurd ((if_neg hb).symm.trans e) (by simp)
  . rcases q with q | ⟨o, q⟩
    . exact .inl ((if_pos rfl).trans q)
    . exact .inr ⟨o, (if_pos rfl).trans q⟩
  . rw [hl ns hn]
    exact Good.of fun v H' S' x rv => by cases (show v = .bl true from rv); exact k H'
theorem walk {l : PySem.W.OpenLaw} {q : Program} {loose : List Str} {XP : (Str -> Option Value) -> Heap -> Prop} {YP : World -> Heap -> Prop} {d : DefRec} {K : Params -> PySem.W.Frag} {k : Nat} (hn : l.most = some 63) (hdf : d.params.defaults = []) (hr : Room k callerA)
    (hY : ∀ (w : World) (h : Heap), YP w h -> (K w.params).In h) (hN : ∀ w : World, Z73 (K w.params) = true)
    (F : ∀ (w : World) (mg : Str -> Option Value) (fa : Addr) (h : Heap), (K w.params).In h -> h.Ns mainGlobals mg -> mg d.name = some (.ref fa) ->
      ∃ fd : FuncData, (∀ (s : Shared) (u : Value), BindsTo s fd ⟨[u], []⟩ [("script", u)]) /\ ∀ base : Heap, (K w.params).In base -> base.Ns mainGlobals mg -> FnOk l.prog w (K w.params) mg base (CXB l.prog w) k fa fd ["script"] Z6r) :
    PySem.W.WalkO q loose XP YP l.row.toRowW d [] (fun f vs => PySem.call f vs) :=
  L2.walk_of (n := 63) (k := k) (x := "script") (CX := fun w => CXB l.prog w) (sp := fun _ => Z6r) hn (by decide) hdf hr hY F (fun w _ a ns hl _ hS => ⟨a, ns, rfl, Zfk (hN w) hS, hl, fun _ => rfl⟩) fun _ _ _ _ _ ⟨_, _, _, _, _, z⟩ => z
end B
namespace B
open PySem PySem.Spec PyProof.Rows L2
theorem Zcc {K : PySem.W.Frag} {h₀ : Heap} {C : Addr} {bmB : List Value} {newId : String} (X : K.In h₀) (q : PySem.W.excIn K C bmB newId = true) :
    ∃ bm N nm q bs hdct sn sub ab col dd k0 k1 k2 k3 k5 mN, h₀.get? C = some (excClassObj nm q C N bs bm hdct sn sub ab col dd k0 k1 k2 k3 k5 newId) /\ h₀.Ns N mN /\ mN "__init__" = none /\ OwnTail h₀ bmB bm := by
  unfold PySem.W.excIn at q
  split at q
  . rename_i dd cd sl ho
    split at q
    . rename_i C' bm k0 k1 k2 k3 n k5 hm hs
      simp only [Bool.and_eq_true, beq_iff_eq, Bool.not_eq_true'] at q
      obtain ⟨⟨⟨⟨⟨rfl, rfl⟩, hdel⟩, ht⟩, hok⟩, hni⟩ := q
      obtain ⟨nm, bs, mro, ns, qn, hd, sn, sub, ab, col, del⟩ := cd
      dsimp only at hm hdel hok hni
      subst hm hdel
      have hsl : sl = #[k0, k1, k2, k3, some (.builtin n), k5] := by
        obtain ⟨l⟩ := sl
        simp only at hs
        rw [hs]
      subst hsl
      exact ⟨bm, ns, nm, qn, bs, hd, sn, sub, ab, col, dd, k0, k1, k2, k3, k5, _, X _ _ ho, .of_isNs (PySem.W.isNs_of_in X hok), PySem.W.nsMap_none_of_in X hok hni, PySem.W.tail_of_in X ht⟩
    . cases q
  . cases q
def ExcC (K : PySem.W.Frag) (C : Addr) : Prop := ∃ (B newId initId : String) (bmB : List Value), ExcBaseFacts B newId initId bmB /\ PySem.W.excIn K C bmB newId = true
section
variable {X : Cx} {w : Way} {Γ Γ' : List Own} {pos : Pos}
theorem Z9j {c z : Str} {C : Addr} {np p2 cpos : Pos} {j : Nat} (l : LeO w.e Γ) (hc : X.calm = true) (hg : Gl X c) (hm : X.mg c = some (.ref C)) (hC : ExcC X.K C) (hd : (c == ("__debug__" : Str)) = false := by decide) :
    PSB X w Γ Γ' (.Raise (some (.Call (.Name c np) [.Constant (.str z) j p2] [] cpos)) none pos) (Z41 c) := .mk fun W _ => by
  intro pins s σ H D I ⟨S₀, H₀, env, S, r, q⟩
  obtain ⟨B, newId, initId, bmB, FB, hC⟩ := hC
  obtain ⟨bm, N, nm, qn, bs, hdct, sn, sub, ab, col, dd, k0, k1, k2, k3, k5, mN, hCo, hN, hni, T⟩ := Zcc I.ok.mod.kin hC
  refine wpAny_Raise_call_subT (C := C) (nm := nm) (q := qn) (N := N) (bs := bs) (bm := bm) (hdct := hdct) (sn := sn) (sub := sub) (ab := ab) (col := col) (dd := dd) (k0 := k0) (k1 := k1) (k2 := k2) (k3 := k3) (k5 := k5)
    FB (mN := mN) (T.hasType FB.hasBase) (I.ok.hd hc) rfl hni (Z38 (X := XB X W) I hg hm ⟨rfl, ?_⟩ hd)
  have hA : PA (XB X W) [.Constant (.str z) j p2] (tCons (tC (.str z)) tNil) := Z26 Zcx Z3l
  refine Calls.evalArgs_plain (thn (hA cpos pins s σ H (fun vs H1 => H1 = H /\ vs = [.str z]) I ⟨rfl, rfl⟩) fun us s2 ⟨vs, H1, I1, rv, e1, e2⟩ => ?_)
  subst e1 e2
  refine ⟨rfl, by rw [<- rv.length]; exact Nat.le_of_ble_eq_true rfl, I1.bk _ _ hCo, hN.keeps I1.bk, T.keeps I1.bk, fun h' e md => ?_⟩
  obtain ⟨S2, h2, r2⟩ := r.weak l
  exact ⟨c, σ, _, ⟨e, C, rfl, hm, pins, _, s2, I1.unwish, .inr ⟨rfl, rfl, I1.bare, us, md⟩⟩, q σ _ S2 h2 r2⟩
end
end B
namespace B
open PySem PySem.Spec PyProof.Rows L2
theorem k_int {X : Cx} : Z2a X (.type "int") .s cInt := fun W => by
  refine ⟨_, Zbv (X := XB X W), fun ys vs S H hs r => ?_⟩
  match ys, r with
  | [], _ => exact True.intro
  | y :: _ :: _, _ => cases y <;> exact True.intro
  | [.int i], ⟨v, _, e1, rv, e2⟩ =>
    intro Q g
    subst e1 e2
    rw [show v = .int i from rv]
    exact .inl ⟨i, rfl, g.sh (Ext.refl hs) rfl⟩
  | [.bl b], ⟨v, _, e1, rv, e2⟩ =>
    intro Q g
    subst e1 e2
    rw [show v = .bl b from rv]
    exact .inr ⟨b, rfl, g.sh (Ext.refl hs) (by cases b <;> rfl)⟩
  | [.non], _ => exact True.intro
  | [.str _], _ => exact True.intro
  | [.tup _], _ => exact True.intro
  | [.lst _], _ => exact True.intro
  | [.dct _], _ => exact True.intro
  | [.ins _ _], _ => exact True.intro
  | [.exc _], _ => exact True.intro
section
variable {X : Cx} {Γ : List Own} {a : Expr} {fa : Ev} {pos : Pos}
theorem b_neg (ha : PEB X Γ a .s fa) : PEB X Γ (.UnaryOp .USub a pos) .s (e1 oNeg fa) := .mk fun W =>
  pimp (pe_un un_neg (ha W)) fun σ H Q ⟨S₀, H₀, env, S, r, q⟩ => by
    refine ⟨S₀, H₀, env, S, r, ?_⟩
    unfold e1 at q
    cases hf : fa env with
    | no => rw [hf] at q; exact q.elim
    | err c => rw [hf] at q; exact q
    | ok y =>
      rw [hf, R.bind_ok] at q
      cases y with
      | int i => exact Good.of fun v H' S' x rv => ⟨i, rv, Good.sh q x rfl⟩
      | _ => exact q.elim
end
section
variable {X : Cx} {Γ : List Own} {o e f : Expr} {fo fe ff : Ev} {apos cpos : Pos}
end
end B
namespace B
open PySem PySem.Spec PyProof.Rows L2
theorem Z80 {mg : MG} {S : Hp} {f : Str} {y : PV} : ∀ {gs : List (Str × PV)} {fs : List (Str × V)}, RepF mg S gs fs -> fld gs f = some y -> ∃ v, fs.lookup f = some v /\ Rep mg S y v
  | [], _, _, h => by cases h
  | (g, z) :: gs, _, ⟨v, r, e, h1, h2⟩, h => by
    subst e
    unfold fld at h
    rw [List.lookup_cons] at h ⊢
    cases hb : f == g with
    | true => rw [hb] at h; cases h; exact ⟨v, rfl, h1⟩
    | false => rw [hb] at h; exact Z80 h2 h
section
variable {X : Cx} {Γ : List Own} {e : Expr} {fe : Ev} {pos : Pos}
theorem Z13 {own : List Str} {f : Str} (hc : ∀ c ∈ own, ∀ C, X.mg c = some (.ref C) -> Cls X.K C /\ Zk X.K C f) (he : PEB X Γ e .s fe) (hb : attributeBase e f X.env (eval e X.env) = eval e X.env := by rfl) :
    PEB X Γ (.Attribute e f pos) .s (e1 (oAtt own f) fe) := .mk fun W =>
  pimp (pe_fld (he W) hb) fun σ H Q ⟨S₀, H₀, env, S, r, q⟩ => by
    refine ⟨S₀, H₀, env, S, r, ?_⟩
    unfold e1 at q
    cases hf : fe env with
    | no => rw [hf] at q; exact q.elim
    | err c => rw [hf] at q; exact q
    | ok y =>
      rw [hf, R.bind_ok] at q
      cases y with
      | ins c gs =>
        refine Good.of fun v H' S' x rv => ?_
        obtain ⟨a, C, dx, fs, rfl, ra, rd, rm, rf⟩ := rv
        cases hd : decide (c ∈ own) with
        | false => rw [show oAtt own f (.ins c gs) = .no by show when (decide (c ∈ own)) _ = _; rw [hd]; rfl] at q; exact q.elim
        | true =>
          rw [show oAtt own f (.ins c gs) = Z1b (fld gs f) by show when (decide (c ∈ own)) _ = _; rw [hd]; rfl] at q
          cases hv : fld gs f with
          | none => rw [hv] at q; exact q.elim
          | some z =>
            rw [hv] at q
            obtain ⟨u, hu, ru⟩ := Z80 rf hv
            obtain ⟨c1, c2⟩ := hc c (of_decide_eq_true hd) C rm
            exact ⟨a, C, dx, fs, u, rfl, x.sh _ _ ra, c1, c2, hu, Good.sh q x ru⟩
      | _ => exact q.elim
end
end B
namespace B
open PySem PySem.Spec PyProof.Rows L2
def ItS (lo c : Int) (n : Nat) : It := ⟨fun i _ => i < n, fun i H x H' => H' = H /\ x = .int (lo + (i : Nat) * c), fun i _ => n <= i⟩
theorem Z8z {P : Program} {w : World} {K : PySem.W.Frag} {tg : Expr} (it : Addr) (lo c : Int) (n : Nat) : Turn P w K tg (ItS lo c n) [it] it (fun i h => IsRangeIter h it (lo + (i : Nat) * c) ((n : Int) - (i : Nat)) c) where
  mem := by simp
  obj := fun i h st b hb => by
    have e : b = it := by simpa using hb
    subst e
    exact ⟨_, st, fun v z => by
      have z' : Data.fields _ = Data.cell v := z
      cases z'⟩
  keep := fun i h h' st k => k it (by simp) _ st
  item := by
    intro X hP hw hK hc i pins s σ H E I hf st hg
    subst hP hw hK
    obtain ⟨f0, f1, f2, f3, f4, f5⟩ := hf it (by simp)
    have W := Walks.range (prog := X.prog) (w := X.w) (I.ok.hd hc) it lo c n
    refine W.item i s _ _ hg st fun v h' tk hv st' kk => ?_
    obtain ⟨t, rfl⟩ := hv
    have I1 : Inv X pins σ H { s with heap := h', toks := tk } := I.turned (fun b o hb e => kk b o (by simpa using hb) e) f0 f1 f3 f4 f5
    exact ⟨_, rfl, Z54 (s := { s with heap := h', toks := tk }) (n := "range_iterator") st' rfl rfl (by decide) ⟨.int (lo + (i : Nat) * c), H, I1, ⟨t, rfl⟩, ⟨rfl, rfl⟩, st', fun b hb => (hf b hb).1⟩⟩
  done := by
    intro X hP hw hK hc i pins s σ H E I hf st hg
    subst hP hw hK
    obtain ⟨f0, f1, f2, f3, f4, f5⟩ := hf it (by simp)
    exact wpAny_pyNext_range_end (I.ok.hd hc) st (by have : n <= i := hg; omega) fun h' eb => ⟨rfl, I.turned (t' := s.toks) (fun b o hb e => eb b o hb e) f0 f1 f3 f4 f5⟩
  self := fun _ _ _ _ _ st h => wpAny_pyIter_rangeiter st h
theorem rsize {lo hi c : Int} (hc : 0 < c) : Builtin.Range.rangeSize lo hi c = (((hi - lo + c - 1) / c).toNat : Int) := by
  unfold Builtin.Range.rangeSize
  rw [if_pos hc]
  by_cases h : lo < hi
  . rw [if_pos h, show hi - lo + c - 1 = (hi - lo - 1) + 1 * c by omega, Int.add_mul_ediv_right _ _ (by omega), Int.toNat_of_nonneg]
    have : 0 <= (hi - lo - 1) / c := Int.ediv_nonneg (by omega) (by omega)
    omega
  . rw [if_neg h]
    have : (hi - lo + c - 1) / c <= 0 := by
      have := Int.ediv_lt_of_lt_mul hc (show hi - lo + c - 1 < 1 * c by omega)
      omega
    omega
theorem Zen {a b c : Int} (hc : 0 < c) (hc' : c < 1000000) (ha : -1000000 < a) (ha' : a < 1000000) (hb : -1000000 < b) (hb' : b < 1000000) : Builtin.Range.small a b c = true := by
  unfold Builtin.Range.small
  have hs : 0 <= Builtin.Range.rangeSize a b c /\ Builtin.Range.rangeSize a b c <= 2000000 /\ Builtin.Range.rangeSize a b c * c <= 4000000 := by
    unfold Builtin.Range.rangeSize
    rw [if_pos hc]
    split
    . rename_i h
      have h1 : (b - a - 1) / c * c <= b - a - 1 := Int.ediv_mul_le _ (by omega)
      have h0 : 0 <= (b - a - 1) / c := Int.ediv_nonneg (by omega) (by omega)
      have h2 : (b - a - 1) / c <= (b - a - 1) / c * c := by have := Int.mul_le_mul_of_nonneg_left (show (1 : Int) <= c by omega) h0; rwa [Int.mul_one] at this
      have h3 : ((b - a - 1) / c + 1) * c = (b - a - 1) / c * c + c := by rw [Int.add_mul, Int.one_mul]
      refine ⟨by omega, by omega, by rw [h3]; omega⟩
    . omega
  simp only [Builtin.Range.rangeFitsLong, Bool.and_eq_true, Bool.or_eq_true, decide_eq_true_eq, beq_iff_eq]
  obtain ⟨s1, s2, _⟩ := hs
  refine ⟨⟨⟨⟨⟨by omega, by omega⟩, by omega, by omega⟩, by omega, by omega⟩, by omega, by omega⟩, .inr ?_⟩
  rw [if_pos hc, Bool.and_eq_true, decide_eq_true_eq, decide_eq_true_eq]
  omega
section
variable {X : Cx} {tg : Expr}
theorem Zca {pins : List (Addr × Obj)} {σ : L2.St} {H : Hp} {s : Shared} {R : It -> Hp -> Prop} {E : Value -> Shared -> Prop} {lo hi c : Int} {t u v : Tok} {tk : Nat} (I : Inv X pins σ H s) (hc : 0 < c) (hc' : c < 1000000) (ha : -1000000 < lo) (ha' : lo < 1000000) (hb : -1000000 < hi) (hb' : hi < 1000000)
    (q : R (ItS lo c ((hi - lo + c - 1) / c).toNat) H) : wpAny (model X.prog X.w) X.A (pyIter (.ref s.heap.objs.size)) (PIE X pins σ tg R) E { s with heap := s.heap.push { cls := .type "range", data := .fields #[.int lo t, .int hi u, .int c v] }, toks := tk } := by
  refine wpAny_pyIter_range (IsRange.new ..) (Zen hc hc' ha ha' hb hb') ?_
  have I1 : Inv X pins σ H { s with heap := s.heap.push { cls := .type "range", data := .fields #[.int lo t, .int hi u, .int c v] }, toks := tk } := I.kept fun b o e => Heap.get?_push_of_some _ e
  refine ⟨(s.heap.push { cls := .type "range", data := .fields #[.int lo t, .int hi u, .int c v] }).objs.size, [(s.heap.push { cls := .type "range", data := .fields #[.int lo t, .int hi u, .int c v] }).objs.size], _, _, H, rfl,
    I1.kept (t' := tk) fun b o e => Heap.get?_push_of_some _ e, Z8z _ lo c ((hi - lo + c - 1) / c).toNat, ?_, fun b hb => ?_, q⟩
  . have e1 : lo + ((0 : Nat) : Int) * c = lo := by simp
    have e2 : ((((hi - lo + c - 1) / c).toNat : Nat) : Int) - ((0 : Nat) : Int) = Builtin.Range.rangeSize lo hi c := by rw [rsize hc]; simp
    show IsRangeIter _ _ (lo + ((0 : Nat) : Int) * c) (((((hi - lo + c - 1) / c).toNat : Nat) : Int) - ((0 : Nat) : Int)) c
    rw [e1, e2]
    exact Heap.get?_push_size _ rfl
  . have e : b = (s.heap.push { cls := .type "range", data := .fields #[.int lo t, .int hi u, .int c v] }).objs.size := by simpa using hb
    subst e
    exact I1.fpOk (Nat.le_refl _) (I1.hok.fresh (Nat.le_refl _))
end
theorem Zav {mg : MG} {lo hi c : Int} {S : Hp} (hc : 0 < c) : ItB mg (ItS lo c ((hi - lo + c - 1) / c).toNat) (Zi lo hi c) S := fun S1 H1 s1 sh => by
  have e : Zi lo hi c = (List.range ((hi - lo + c - 1) / c).toNat).map fun (k : Nat) => PV.int (lo + c * (k : Int)) := by
    unfold Zi
    rw [if_pos hc]
  rw [e]
  refine ⟨fun i x hx => ?_, fun i h => by simpa [ItS] using h⟩
  rw [List.getElem?_map] at hx
  by_cases hi' : i < ((hi - lo + c - 1) / c).toNat
  . rw [List.getElem?_range hi'] at hx
    cases hx
    exact ⟨hi', fun v H2 ⟨e1, e2⟩ => by subst e1 e2; exact ⟨S1, Ext.refl sh, by show V.int _ = V.int _; rw [Int.mul_comm]⟩⟩
  . rw [List.getElem?_eq_none (by simpa using Nat.le_of_not_lt hi')] at hx
    cases hx
theorem Zfg (x y z : PV) : (∃ i j c, x = .int i /\ y = .int j /\ z = .int c) \/ rngV x y z = .no := by
  unfold rngV
  split
  . exact .inl ⟨_, _, _, rfl, rfl, rfl⟩
  . exact .inr rfl
section
variable {X : Cx} {Γ : List Own} {tg a b d : Expr} {f g k : Ev} {p pos : Pos}
theorem Zdz (hg : Gl X "range") (hm : X.mg "range" = none) (ha : PAB X Γ [a, b, d] [] [f, g, k]) (hs : starEach [a, b, d] X.env = (false, eval a X.env) :: starEach [b, d] X.env := by rfl) (hs2 : (backTo pos (starEach [b, d] X.env)).any (·.1) = false := by rfl) :
    PIB X Γ tg (.Call (.Name "range" p) [a, b, d] [] pos) (iR f g k) := .mk fun W pins s σ H R I ⟨S₀, H₀, env, S, r, q⟩ => by
  have hA : tAs X Γ [] [f, g, k] W σ H (fun vs H1 => ∃ i j c S1, iR f g k env = .ok (Zi i j c) /\ vs = [.int i, .int j, .int c] /\ 0 < c /\ c < 1000000 /\ -1000000 < i /\ i < 1000000 /\ -1000000 < j /\ j < 1000000 /\ Ext S H S1 H1) := by
    refine ⟨S₀, H₀, env, S, r, ?_⟩
    unfold iR at q ⊢
    unfold evs evs evs evs
    cases hf : f env with
    | no => rw [hf] at q; exact q.elim
    | err c => rw [hf] at q; exact q
    | ok x =>
      cases hg : g env with
      | no => rw [hf, hg] at q; exact q.elim
      | err c => rw [hf, hg] at q; exact q
      | ok y =>
        cases hk : k env with
        | no => rw [hf, hg, hk] at q; exact q.elim
        | err c => rw [hf, hg, hk] at q; exact q
        | ok z =>
          rw [hf, hg, hk, B.R.bind_ok, B.R.bind_ok, B.R.bind_ok] at q
          simp only [B.R.bind_ok, B.R.map_ok]
          intro vs H1 S1 as x1 ⟨_, v, rr, e1, rv, v2, rr2, e2, rv2, v3, rr3, e3, rv3, e4⟩ _ _
          subst e1 e2 e3
          cases (show rr3 = [] from e4)
          rcases Zfg x y z with ⟨i, j, c, rfl, rfl, rfl⟩ | e
          . cases (show v = .int i from rv)
            cases (show v2 = .int j from rv2)
            cases (show v3 = .int c from rv3)
            rw [Zbw] at q ⊢
            cases hb : (decide ((0 : Int) < c) && decide ((-1000000 : Int) < i) && decide (i < 1000000) && decide (-1000000 < j) && decide (j < 1000000) && decide (c < 1000000)) with
            | false => rw [hb] at q; exact q.elim
            | true =>
              simp only [Bool.and_eq_true, decide_eq_true_eq] at hb
              exact ⟨i, j, c, S1, rfl, rfl, by omega, by omega, by omega, by omega, by omega, by omega, x1⟩
          . rw [e] at q; exact q.elim
  refine Call_ (Z3v (X := XB X W) I hg hm boot_range (PyProof.Rows.callWith_type1 (thn (ha W pos pins s σ H _ I hA) fun us s1 ⟨vs, H1, I1, r1, i, j, c, S1, e0, e, q1, q2, q3, q4, q5, q6, x1⟩ => ?_) hs hs2))
  subst e
  rw [e0] at q
  cases r1 with
  | cons r rr =>
    cases rr with
    | cons r' rr =>
      cases rr with
      | cons r'' rr =>
        cases rr
        obtain ⟨t, rfl⟩ := r
        obtain ⟨t', rfl⟩ := r'
        obtain ⟨t'', rfl⟩ := r''
        exact call_range_3 (by omega) (Zca I1 q1 q2 q3 q4 q5 q6 (q _ H1 S1 x1 (Zav q1))) (.inl (PyProof.noPylong_small (by omega)))
end
end B
namespace B
open PySem PySem.Spec PyProof.Rows L2
def Z3i : List Nat -> TGs
  | [] => gNil
  | i :: is => gCons (Zb0 i) (Z3i is)
theorem Zcs {X : Cx} : PGs X [] (Z3i []) := Zf9
theorem Z3k {X : Cx} {i : Nat} {is : List Nat} {x : Str} {p : Pos} {es : List Expr} (hN : X.N.Nodup) (hi : X.N[i]? = some x) (hx : Loc X.env.scope x) (ht : PGs X es (Z3i is)) (hf : X.fn x = true \/ X.env.scope.names.lookup x = some .local := by first | exact .inl rfl | exact .inr rfl)
    (hs : (assignEach (.Name x p :: es) X.env).map (·.2) = assign (.Name x p) X.env :: (assignEach es X.env).map (·.2) := by rfl) : PGs X (.Name x p :: es) (Z3i (i :: is)) := Zee (Z5o hN hi hx hf) ht hs
theorem Z8h {mg : MG} {S₀ H₀ S H : Hp} {Γ : List Own} {Q : L2.St -> Hp -> Prop} : ∀ {is : List Nat} {ys : List PV} {vs : List V} {env : Env} {σ : L2.St}, (∀ i ∈ is, Γ[i]? = some .s) -> ys.length = is.length -> Reps mg S ys vs -> Rel mg S₀ H₀ Γ env σ S H ->
    (∀ σ', Rel mg S₀ H₀ Γ (Z2s is ys env) σ' S H -> Q σ' H) -> Z3i is vs σ H Q
  | [], [], _, env, σ, _, _, rs, r, q => by
    cases (show _ = [] from rs)
    exact ⟨rfl, q σ r⟩
  | [], _ :: _, _, _, _, _, h, _, _, _ => by simp at h
  | _ :: _, [], _, _, _, _, h, _, _, _ => by simp at h
  | i :: is, y :: ys, _, env, σ, hΓ, h, ⟨v, vr, e, r1, rs⟩, r, q => by
    subst e
    have hi := hΓ i List.mem_cons_self
    have r' := r.store (Ext.refl r.ext.sh) hi (g' := .s) (y := y) (v := v) (as := []) ⟨rfl, r1⟩ List.nodup_nil (fun a m => by cases m)
    rw [Z2m hi] at r'
    exact ⟨v, vr, rfl, Z8h (fun j m => hΓ j (List.mem_cons_of_mem _ m)) (by simpa using h) rs r' q⟩
section
variable {X : Cx} {w : Way} {Γ : List Own} {e : Expr} {fe : Ev} {pos : Pos}
theorem s_unp {es : List Expr} {is : List Nat} {k : Nat} {tp : Pos} (l : LeO w.e Γ) (hc : X.calm = true) (hΓ : ∀ i ∈ is, Γ[i]? = some .s) (ht : ∀ W, PGs (XB X W) es (Z3i is)) (he : PEB X Γ e .s fe)
    (hn : (assignEach es X.env).length = is.length := by rfl) (hst : (assignEach es X.env).findIdx? (·.1) = none := by rfl)
    (hs : swapsWithSole [.Tuple es k tp] e pos.line X.env = pure false := by exact Zy rfl) (hw : swappedStores [.Tuple es k tp] e X.env = pure none := by rfl)
    (h1 : (assignEach [.Tuple es k tp] X.env).map (·.2) = [assign (.Tuple es k tp) X.env] := by rfl) : PSB X w Γ Γ (.Assign [.Tuple es k tp] e pos) (sUnp is fe) := .mk fun W _ =>
  Z2e (ps_asg (he W) (pg_tup hc (ht W) hn hst) hs hw h1) fun D σ H ⟨S₀, H₀, env, S, r, q⟩ => by
    unfold sUnp at q
    refine Z48 (k := fun | .tup vs => if vs.length = is.length then .nx (Z2s is vs env) else .no | _ => .no) l r q fun y q v H' S' as x rv nd fr => ?_
    obtain ⟨_, rv⟩ := rv
    cases y with
    | tup ys =>
      obtain ⟨a, vs, rfl, ra, rs⟩ := rv
      by_cases hl : ys.length = is.length
      . have q : OutB X.mg S₀ H₀ S w Γ W D (.nx (Z2s is ys env)) := by
          have q0 := q
          simp only [if_pos hl] at q0
          exact q0
        exact ⟨a, vs, rfl, SqT.of (x.sh _ _ ra), by rw [<- rs.length]; exact hl, Z8h hΓ hl rs (r.grow x) fun σ' r' => q σ' H' S' x.s r'⟩
      . simp only [if_neg hl] at q
        exact q.elim
    | _ => exact q.elim
end
end B
namespace B
open PySem PySem.Spec PyProof.Rows L2
section
variable {mg : MG} {S H : Hp} {y : PV} {v : V}
end
section
variable {X : Cx} {pins : List (Addr × Obj)} {σ : L2.St} {H : Hp} {s : Shared} {a : Addr}
end
section
variable {X : Cx} {w : Way} {Γ : List Own} {e k : Expr} {fe fk : Ev} {i : Nat} {x : Str} {p1 p2 pos : Pos}
end
end B
namespace B
open PySem PySem.Spec PyProof.Rows L2
theorem Good.lst {mg : MG} {S H : Hp} {ys : List PV} {vs : List V} {Q : VK} (g : Good mg S H (.o []) (.lst ys) Q) (hs : Sub S H) (rs : Reps mg S ys vs) {l : Addr} (hl : H l = none) : Q (.ref l) (upd H l (.lst vs)) := by
  refine g (.ref l) _ S [l] (Ext.own hs hl) ⟨l, vs, [], rfl, Zg, ⟨rfl, rs⟩, rfl⟩ (by simp) (fun a m => ?_)
  have e : a = l := by simpa using m
  subst e
  exact ⟨hl, hs.none hl⟩
theorem Zbq {X : Cx} : Z2a X (.type "list") (.o []) Zaf := fun W => by
  refine ⟨_, Z8o (X := XB X W), fun ys vs S H hs r => ?_⟩
  match ys, r with
  | [], _ => exact True.intro
  | y :: _ :: _, _ => cases y <;> exact True.intro
  | [.non], _ => exact True.intro
  | [.bl _], _ => exact True.intro
  | [.int _], _ => exact True.intro
  | [.str _], _ => exact True.intro
  | [.dct _], _ => exact True.intro
  | [.ins _ _], _ => exact True.intro
  | [.exc _], _ => exact True.intro
  | [.lst xs], ⟨v, _, e1, ⟨a, us, ea, ra, rs⟩, e2⟩ =>
    intro Q g
    subst e1 e2 ea
    exact ⟨a, us, rfl, .inl (.inl (Rd.mono hs ra)), fun l hl => g.lst hs rs hl⟩
  | [.tup xs], ⟨v, _, e1, ⟨a, us, ea, ra, rs⟩, e2⟩ =>
    intro Q g
    subst e1 e2 ea
    exact ⟨a, us, rfl, .inr (SqT.of (hs _ _ ra)), fun l hl => g.lst hs rs hl⟩
end B
namespace B
open PySem PySem.Spec PyProof.Rows L2
end B
namespace B
open PySem PySem.Spec PyProof.Rows L2
end B
namespace B
open PySem
def isS : PV -> Bool
  | .str _ => true
  | _ => false
def eSM (g : PV -> PV -> R PV) (o a : Ev) : Ev := fun s => (o s).bind fun x => when (isS x) ((a s).bind fun y => g x y)
def Z58 : PV -> PV -> R PV
  | .str sep, .lst ys => (Z12 ys).bind fun ts => when (decide (ys.length <= 1000) && JoinOk sep ts) (.ok (.str (Txt.join sep ts)))
  | _, _ => .no
def Z3b : PV -> PV -> R PV
  | .str z, .str y => when (decide (0 < y.length) && decide (z.length <= 1000000) && decide ((Txt.split z y).length <= 1000000)) (.ok (.lst ((Txt.split z y).map .str)))
  | _, _ => .no
def cStr : List PV -> R PV
  | [.int i] => when (decide (i.natAbs < 2 ^ 250)) (.ok (.str (toString i)))
  | [.str a] => .ok (.str a)
  | _ => .no
end B
namespace B
open PySem
def Z31 (m : Str) (tb : List (Str × (List PV -> R PV))) (o : Ev) (as : List Ev) : Ev := fun s => (o s).bind fun x => match x with
  | .ins c fs => when (fld fs m).isNone (match tb.lookup c with
    | some g => (evs as s).bind fun ys => g (.ins c fs :: ys)
    | none => .no)
  | _ => .no
end B
namespace B
open PySem
def Z2i : PV -> Bool
  | .lst xs => xs.all PV.flat
  | x => x.flat
def oEq2 : PV -> PV -> R PV
  | .tup xs, .tup ys => when (xs.all Z2i && ys.all Z2i) (.ok (.bl (eqds xs ys)))
  | x, y => oEq x y
def oNe2 : PV -> PV -> R PV
  | .tup xs, .tup ys => when (xs.all Z2i && ys.all Z2i) (.ok (.bl (!eqds xs ys)))
  | x, y => oNe x y
def Z59 : List PV -> R PV
  | [.str x] => when (decide (x.length <= 640)) (Z1b ((intText? x).map .int))
  | l => cInt l
end B
namespace B
open PySem
def Z46 : List PV -> R PV
  | [.int i, .int j] => .ok (.int (if j < i then j else i))
  | _ => .no
def Z5a : List PV -> R PV
  | [.int i, .int j] => .ok (.int (if j > i then j else i))
  | _ => .no
end B
namespace B
open PySem
end B
namespace B
open PySem
end B
namespace B
open PySem
def met (g : Nat -> Str) : Nat -> List Str
  | 0 => []
  | i + 1 => if g i ∈ met g i then met g i else met g i ++ [g i]
def once (ts : List Str) : List Str := met (fun i => ts.getD i default) ts.length
def Z4d : List PV -> R PV
  | [.lst xs] => (Z12 xs).bind fun ts => when (decide (ts.length < 4000)) (.ok (.int (once ts).length))
  | _ => .no
end B
namespace B
open PySem PySem.Spec PyProof.Rows L2
def pinX (X : Cx) (pins : List (Addr × Obj)) : Cx := { X with pn := X.pn ++ pins }
theorem Inv.pinned {X : Cx} {pins : List (Addr × Obj)} {σ : L2.St} {H : Hp} {s : Shared} (I : Inv X pins σ H s) : Inv (pinX X pins) [] σ H s :=
  ⟨⟨I.ok.mod, I.ok.kind, I.ok.glob, I.ok.blt, I.ok.above, I.ok.inj, I.ok.has, I.ok.cab, I.ok.hd, I.ok.frames, I.ok.stk, I.ok.exf, I.ok.bs, I.ok.bsz, I.ok.noex, I.ok.exfs, I.ok.funs, I.ok.frf⟩, I.os, I.bare, I.base, I.loc, I.cell, I.free, I.freeC, fun p hp => I.pin p (by rw [List.append_nil] at hp; exact hp), I.hok, I.len⟩
theorem Inv.unpinned {X : Cx} {pins pins' : List (Addr × Obj)} {σ : L2.St} {H : Hp} {s : Shared} (ok : X.Ok) (I : Inv (pinX X pins) pins' σ H s) : Inv X pins σ H s :=
  ⟨ok, I.os, I.bare, I.base, I.loc, I.cell, I.free, I.freeC, fun p hp => I.pin p (List.mem_append_left _ hp), I.hok, I.len⟩
theorem Z4n {M : Model} {h : Heap} {ea C : Addr} (x : excO ea C h) : PySem.W.Looks M h (typeOf (.ref ea)) (.ref C) := by
  obtain ⟨o, ho, hc⟩ := x
  intro A Q E s k q
  have hq : s.heap.get? ea = some o := k _ _ ho
  show wpAny M A (load ea >>= fun o => pure o.cls) Q E s
  exact wpAny_bind (wpAny_load hq (wpAny_pure (by rw [hc]; exact q)))
section
variable {X : Cx} {w : Way} {Γ Γe Γh Γ' : List Own} {pos : Pos}
end
end B
namespace B
open PySem PySem.Spec PySem.Calls PyProof.Rows L2 PySem.Builtin PySem.Builtin.ObjectAttr PySem.Builtin.Getset_descriptor
theorem Zef : entryFor table "BaseException.__getattribute__" = some Builtin.«object.__getattribute__» :=
  entryFor_alias (id' := "object.__getattribute__") (by kernel_rfl) (by first | rfl | decide +kernel) (by decide +kernel) (by kernel_rfl)
theorem Zdv : plainId "BaseException.__getattribute__" = true := by decide +kernel
theorem Zg4 (a b : Value) : argsOk "BaseException.__getattribute__" ⟨[a, b], []⟩ := by unfold argsOk; kernel_rfl
theorem Zeg : splitId "BaseException.__getattribute__" = some ("BaseException", "__getattribute__") := by decide +kernel
theorem Z9k : builtinKind "BaseException.__getattribute__" = some .slot := by decide +kernel
theorem Zfi (self : Value) : bindSpecial (.builtin "BaseException.__getattribute__") self = pure (.builtin "BaseException.__getattribute__", [self]) := by
  have h1 : withoutEnding? "BaseException.__getattribute__" "#opaque" = none := by decide +kernel
  have h2 : withoutEnding? "BaseException.__getattribute__" "#data" = none := by decide +kernel
  simp only [bindSpecial, typeOf, builtinType, h1, h2, Z9k]; rfl
section
variable {prog : Program} {w : World} {A : Around} {E : Value -> Shared -> Prop} {s : Shared} {K : PySem.W.Frag} {x D : Addr}
structure ErrC (K : PySem.W.Frag) (D : Addr) : Prop where
  ga : PySem.W.findIn K (.ref D) "__getattribute__" = some (some (.builtin "BaseException.__getattribute__"))
  gt : PySem.W.findIn K (.ref D) "__getattr__" = some none
  cl : PySem.W.findIn K (.ref D) "__class__" = some (some (.builtin "object.__class__"))
  gg : PySem.W.specialIn K (.builtin "object.__class__") "__get__" = some (some (.builtin "getset_descriptor.__get__"))
  tk : PySem.W.takesIn K (.builtin "object.__class__") = some true
  mo : PySem.W.mroIn K D (.type "object") = some true
  mb : PySem.W.mroIn K D (.type "BaseException") = some true
  cc : (PySem.W.clsIn K D).isSome = true
theorem Zdb {M : Model} {h : Heap} (F : ErrC K D) (X : K.In h) : PySem.W.Looks M h (ObjectAttr.find (.ref x) (.ref D) "__class__") (.bind (.builtin "getset_descriptor.__get__") (.builtin "object.__class__")) := by
  have l1 := PySem.W.looks_findIn (M := M) X F.cl
  have l2 : PySem.W.Looks M h (ObjectAttr.getOf (some (.builtin "object.__class__"))) (some (.builtin "getset_descriptor.__get__")) := PySem.W.looks_specialIn X F.gg
  have l3 := PySem.W.looks_takesIn (M := M) X F.tk
  have l4 : PySem.W.Looks M h (ObjectAttr.dataDescriptor? (some (.builtin "object.__class__")) (some (.builtin "getset_descriptor.__get__"))) (some (.builtin "getset_descriptor.__get__", .builtin "object.__class__")) := l3.andThen .now
  exact l1.andThen (l2.andThen (l4.andThen (PySem.W.Looks.tag .now)))
theorem Zer {R : Result -> Shared -> Prop} {tp : Value} (F : ErrC K D) (X : K.In s.heap) (T : excO x D s.heap) (h : R (.ok (.ret (.ref D))) s) :
    codeAny (model prog w) A (.call (.builtin "getset_descriptor.__get__") ⟨[.builtin "object.__class__", .ref x, tp], []⟩) R s := by
  obtain ⟨hp, gs, dr, tk, os⟩ := s
  have l0 := Z4n (M := model prog w) T
  have l1 := PySem.W.looks_mroIn (M := model prog w) X F.mo
  refine codeAny_call_builtin PySem.W.KF.slot_gs.plain PySem.W.KF.entry_gs ?_
  refine PySem.W.KF.slot_gs.check _ _ _ _ _ _ _ _ PySem.W.KF.type_class (PySem.W.KF.args_gs _ _ _) ?_
  unfold «getset_descriptor.__get__»
  unfold descrGet
  rw [PySem.W.dga_obj]
  apply wpAny_bind
  apply wpAny_pure
  unfold descrGetter descrCheckInstance
  unfold descrNameAndClass isInstance
  simp (config := {}) only [PySem.W.KF.owner_class]
  repeat lk
  refine ⟨Code.quiet_builtin _ (by decide +kernel), ?_⟩
  refine codeAny_builtin PySem.W.KF.entry_class ?_
  unfold «object.__class__»
  unfold shownTypeOf
  repeat lk
  exact h
theorem Zdk {Q : Option Value -> Shared -> Prop} (F : ErrC K D) (X : K.In s.heap) (T : excO x D s.heap) (h : Q (some (.ref D)) { s with toks := s.toks + 1 }) : wpAny (model prog w) A (getAttr? (.ref x) "__class__") Q E s := by
  obtain ⟨hp, gs, dr, tk, os⟩ := s
  have l0 := Z4n (M := model prog w) T
  have l1 := PySem.W.looks_findIn (M := model prog w) X F.ga
  have l2 := PySem.W.looks_findIn (M := model prog w) X F.gt
  have l3 := Zdb (M := model prog w) (x := x) F X
  have l4 := PySem.W.looks_mroIn (M := model prog w) X F.mb
  unfold getAttr?
  refine wpAny_bind (wpAny_mkText ?_)
  unfold getAttrBy?
  refine wpAny_bind (wpAny_attempt ?_)
  unfold getAttrBy
  refine wpAny_holding (wpAny_bind (l0.at ?_))
  refine wpAny_bind (l1.at ?_)
  show wpAny _ _ (getAttrByItsOwn _ _ _ _ _ _) _ _ _
  unfold getAttrByItsOwn
  refine wpAny_bind (l2.at ?_)
  refine wpAny_bind (wpAny_attempt (wpAny_holding ?_))
  show wpAny _ _ (boundAndCalled _ _ _) _ _ _
  unfold boundAndCalled
  rw [Zfi]
  refine wpAny_bind (wpAny_pure ?_)
  refine wpAny_call (codeAny_call_builtin Zdv Zef ?_)
  have chk : ∀ (Q : Unit -> Shared -> Prop) (E : Value -> Shared -> Prop) (A : Around) (v : Value), Q () ⟨hp, gs, dr, tk + 1, os⟩ -> wpAny (model prog w) A (checkBuiltinCall "BaseException.__getattribute__" ⟨[.ref x, v], []⟩) Q E ⟨hp, gs, dr, tk + 1, os⟩ := fun Q E A v hq => by
    simp only [checkBuiltinCall, Z9k, Zeg]
    unfold isInstance
    refine wpAny_bind (wpAny_bind (l0.at (l4.at ?_)))
    rw [if_neg (show ¬ (!true) = true by decide)]
    have ha := Zg4 (.ref x) v
    unfold argsOk at ha
    cases hz : Manifest.signature? "BaseException.__getattribute__" with
    | none =>
      exact wpAny_pure hq
    | some g =>
      rw [hz] at ha
      have ha : Bind.checkArgs "BaseException.__getattribute__" g ⟨[.ref x, v], []⟩ = pure () := ha
      show wpAny _ _ (Bind.checkArgs _ g _) _ _ _
      rw [ha]
      exact wpAny_pure hq
  refine chk _ _ _ _ ?_
  unfold «object.__getattribute__»
  repeat lk
  refine wpAny_run (Zer F X T ?_)
  repeat lk
  exact h
theorem Zdf (F : ErrC K D) : PySem.W.KitX K (.ref x) (.ref D) (excO x D) where
  ty := fun _ _ _ p => Z4n p
  it := fun _ _ X _ => by
    obtain ⟨cd, hc⟩ := Option.isSome_iff_exists.mp F.cc
    unfold PySem.W.clsIn at hc
    split at hc
    . rename_i ho
      intro A' Q' E' s' k q
      unfold isType
      unfold loadHead
      exact wpAny_bind (wpAny_loadPart (k _ _ (X _ _ ho)) (wpAny_pure q))
    . cases hc
  ne := fun h tp dd its n sl X htp => by
    obtain ⟨cd, hc⟩ := Option.isSome_iff_exists.mp F.cc
    refine Bool.eq_false_iff.mpr fun q => ?_
    obtain rfl : D = tp := Value.ref.inj (beq_iff_eq.mp q)
    unfold PySem.W.clsIn at hc
    split at hc
    . rename_i ho
      cases (X _ _ ho).symm.trans htp
    . cases hc
  ca := fun X p k => Zdk F X p k
end
def isA (kn ke under : List Str) (pl : Kd -> Bool) : PV -> R PV
  | .ins c _ => when (decide (c ∈ kn)) (.ok (.bl (decide (c ∈ under))))
  | .exc c => when (decide (c ∈ ke)) (.ok (.bl (decide (c ∈ under))))
  | y => .ok (.bl (pl (kd y)))
theorem Zd1 {kn ke under : List Str} {pl : Kd -> Bool} : ∀ {y : PV}, (∀ c fs, y ≠ .ins c fs) -> (∀ c, y ≠ .exc c) -> isA kn ke under pl y = .ok (.bl (pl (kd y)))
  | .ins c fs, h, _ => (h c fs rfl).elim
  | .exc c, _, h => (h c rfl).elim
  | .non, _, _ => rfl
  | .bl _, _, _ => rfl
  | .int _, _, _ => rfl
  | .str _, _, _ => rfl
  | .tup _, _, _ => rfl
  | .lst _, _, _ => rfl
  | .dct _, _, _ => rfl
structure IsF (mg : MG) (kn ke under : List Str) (pl : Kd -> Bool) (ans : Value -> Option Bool) : Prop where
  pl : ∀ t ∈ [Kd.non, .bl, .int, .str, .tup, .lst, .dct], ans (.type (kT t)) = some (pl t)
  ow : ∀ c ∈ kn, ∀ C, mg c = some (.ref C) -> ans (.ref C) = some (decide (c ∈ under))
  ex : ∀ c ∈ ke, ∀ C, mg c = some (.ref C) -> ans (.ref C) = some (decide (c ∈ under))
structure OwnC (K : PySem.W.Frag) (C : Addr) : Prop where
  cl : Cls K C
  ha : PySem.W.findIn K (.ref C) "__class__" = some (some (.builtin "object.__class__"))
  hn : PySem.W.specialIn K (.builtin "object.__class__") "__get__" = some (some (.builtin "getset_descriptor.__get__"))
  ht : PySem.W.takesIn K (.builtin "object.__class__") = some true
  hm : PySem.W.mroIn K C (.type "object") = some true
section
variable {X : Cx} {pins : List (Addr × Obj)} {σ : L2.St} {H S : Hp} {s : Shared}
theorem Zbh {v : V} {u t : Value} (I : Inv X pins σ H s) (rx : RelV v u) (ty : TyOf X.K H v t) : ∃ P, PySem.W.KitX X.K u t P /\ P s.heap /\ u ≠ .builtin "__main__.__loader__#opaque" := by
  cases ty with
  | non => cases (show u = Value.none from rx); exact ⟨_, PySem.W.kitx_none, True.intro, fun z => nomatch z⟩
  | bl y => cases (show u = Value.bool y from rx); exact ⟨_, PySem.W.kitx_bool, True.intro, fun z => nomatch z⟩
  | int i => obtain ⟨t, q⟩ := (show ∃ t, u = Value.int i t from rx); cases q; exact ⟨_, PySem.W.kitx_int, True.intro, fun z => nomatch z⟩
  | str y => obtain ⟨t, q⟩ := (show ∃ t, u = Value.str y t from rx); cases q; exact ⟨_, PySem.W.kitx_str, True.intro, fun z => nomatch z⟩
  | flt y => obtain ⟨t, q⟩ := (show ∃ t, u = Value.float y t from rx); cases q; exact ⟨_, PySem.W.kitx_float, True.intro, fun z => nomatch z⟩
  | @lst a xs ea =>
    cases (show u = Value.ref a from rx)
    obtain ⟨_, _, n, _, h1⟩ := (show Zq X.prog X.w H s.heap a (.lst xs) from I.hok a _ ea)
    exact ⟨_, PySem.W.kitx_list, ⟨_, h1, rfl⟩, fun z => nomatch z⟩
  | @frz a ob xs ea =>
    cases (show u = Value.ref a from rx)
    obtain ⟨_, _, _, n, _, h1⟩ := (show Zq X.prog X.w H s.heap a (.frz ob (.lst xs)) from I.hok a _ ea)
    exact ⟨_, PySem.W.kitx_list, ⟨_, h1, rfl⟩, fun z => nomatch z⟩
  | @tup a xs ea =>
    cases (show u = Value.ref a from rx)
    obtain ⟨_, _, _, p⟩ := (show Zq X.prog X.w H s.heap a (.tup xs) from I.hok a _ ea)
    obtain ⟨o, h1, h2, _⟩ := p
    exact ⟨_, PySem.W.kitx_tuple, ⟨o, h1, h2⟩, fun z => nomatch z⟩
  | @dK a kvs ea =>
    cases (show u = Value.ref a from rx)
    obtain ⟨_, _, vs, _, p⟩ := (show Zq X.prog X.w H s.heap a (.dK kvs) from ea.ok I.hok)
    obtain ⟨o, es, ep, h1, h2, _⟩ := p
    exact ⟨_, PySem.W.kitx_dict, ⟨o, h1, h2.1⟩, fun z => nomatch z⟩
  | @dT a kvs ea =>
    cases (show u = Value.ref a from rx)
    obtain ⟨_, _, xs, _, o, es, ep, h1, h2, _⟩ := (show Zq X.prog X.w H s.heap a (.dT kvs) from ea.ok I.hok)
    exact ⟨_, PySem.W.kitx_dict, ⟨o, h1, h2.1⟩, fun z => nomatch z⟩
  | @ins a C dx fs ea cl ha hn htk hm =>
    cases (show u = Value.ref a from rx)
    obtain ⟨mA, O, _⟩ := Z4a I.hok ea
    obtain ⟨od, J, _⟩ := O.look
    exact ⟨_, PySem.W.kitx_own (cl.get _) cl.hd ha hn htk hm, J, fun z => nomatch z⟩
theorem ans_V {kn ke under : List Str} {pl : Kd -> Bool} {ans : Value -> Option Bool} {y : PV} {v : V} {u : Value} {b : Bool} (hkn : ∀ c ∈ kn, ∀ C, X.mg c = some (.ref C) -> OwnC X.K C) (hke : ∀ c ∈ ke, ∀ C, X.mg c = some (.ref C) -> ErrC X.K C)
    (F : IsF X.mg kn ke under pl ans) (hs : Sub S H) (r : Rep X.mg S y v) (I : Inv X pins σ H s) (ru : RelV v u) (h : isA kn ke under pl y = .ok (.bl b)) : ∃ t P, PySem.W.KitX X.K u t P /\ P s.heap /\ u ≠ .builtin "__main__.__loader__#opaque" /\ ans t = some b := by
  by_cases hi : ∃ c gs, y = .ins c gs
  . obtain ⟨c, gs, rfl⟩ := hi
    obtain ⟨a, C, dx, vs, rfl, ra, rd, rm, rf⟩ := r
    have h : when (decide (c ∈ kn)) (R.ok (PV.bl (decide (c ∈ under)))) = R.ok (.bl b) := h
    by_cases hd : c ∈ kn
    . rw [decide_eq_true hd] at h
      cases h
      have O := hkn c hd C rm
      obtain ⟨P, k1, k2, k3⟩ := Zbh I ru (.ins (hs _ _ ra) O.cl O.ha O.hn O.ht O.hm)
      exact ⟨_, P, k1, k2, k3, F.ow c hd C rm⟩
    . rw [decide_eq_false hd] at h
      cases h
  . by_cases he2 : ∃ c, y = .exc c
    . obtain ⟨c, rfl⟩ := he2
      obtain ⟨a, C, rfl, rm, ra⟩ := r
      have h : when (decide (c ∈ ke)) (R.ok (PV.bl (decide (c ∈ under)))) = R.ok (.bl b) := h
      by_cases hd : c ∈ ke
      . rw [decide_eq_true hd] at h
        cases h
        cases (show u = Value.ref a from ru)
        have z : Zq X.prog X.w H s.heap a (.ext (excO a C)) := I.hok a _ (hs _ _ ra)
        exact ⟨_, _, Zdf (hke c hd C rm), z.1, (fun z => nomatch z), F.ex c hd C rm⟩
      . rw [decide_eq_false hd] at h
        cases h
    . have hi' : ∀ c fs, y ≠ .ins c fs := fun c fs z => hi ⟨c, fs, z⟩
      have he' : ∀ c, y ≠ .exc c := fun c z => he2 ⟨c, z⟩
      rw [Zd1 hi' he'] at h
      cases h
      obtain ⟨t1, t2⟩ := ty_V (K := X.K) hs r hi' he'
      obtain ⟨P, k1, k2, k3⟩ := Zbh I ru t1
      exact ⟨_, P, k1, k2, k3, F.pl _ t2⟩
theorem isA_bl {kn ke under : List Str} {pl : Kd -> Bool} {y z : PV} (h : isA kn ke under pl y = .ok z) : ∃ b, z = .bl b := by
  have w : ∀ {p k : Bool}, when p (.ok (.bl k)) = R.ok z -> ∃ b, z = .bl b := fun {p k} e => by
    cases p with
    | true => cases e; exact ⟨_, rfl⟩
    | false => cases e
  cases y <;> first | exact w h | (cases h; exact ⟨_, rfl⟩)
theorem Zfv {kn ke under : List Str} {pl : Kd -> Bool} {y : PV} {c : Str} (h : isA kn ke under pl y = .err c) : False := by
  have w : ∀ {p : Bool} {k : PV}, when p (.ok k) = R.err c -> False := fun {p k} e => by cases p <;> cases e
  cases y <;> first | exact w h | cases h
end
section
variable {X : Cx} {Γ : List Own} {a ce : Expr} {fa : Ev} {p pos : Pos} {kn ke under : List Str} {pl : Kd -> Bool}
theorem Z1f {vc : V} {cv : Value} (hkn : ∀ c ∈ kn, ∀ C, X.mg c = some (.ref C) -> OwnC X.K C) (hke : ∀ c ∈ ke, ∀ C, X.mg c = some (.ref C) -> ErrC X.K C) (F : IsF X.mg kn ke under pl (fun t => PySem.W.kitOne X.K t cv))
    (hT : ∀ W, PE (XB X W) ce (tC vc)) (hv : ∀ u, RelV vc u -> u = cv) (hg : Gl X "isinstance") (hm : X.mg "isinstance" = none) (ha : PEB X Γ a .s fa)
    (he : starEach [a, ce] X.env = (false, eval a X.env) :: starEach [ce] X.env := by exact Z19 rfl) (he2 : starEach [ce] X.env = (false, eval ce X.env) :: starEach [] X.env := by exact Z19 rfl)
    (hpl : (backTo pos (starEach [ce] X.env)).any (·.1) = false := by exact Z1k rfl) : PEB X Γ (.Call (.Name "isinstance" p) [a, ce] [] pos) .s (e1 (isA kn ke under pl) fa) := .mk fun W => by
  have hA : PA (XB X W) [a, ce] _ := Z26 (ha W) (Z26 (hT W) Z3l he2) he
  have hc : Z11 (XB X W) (.builtin "isinstance") (fun xs H Q => ∃ v y S b, xs = [v, vc] /\ Sub S H /\ Rep X.mg S y v /\ isA kn ke under pl y = .ok (.bl b) /\ Q (.bl b) H) := by
    intro pins s σ H xs us Q I r h
    obtain ⟨v, y, S, b, rfl, hs, ry, hb, q⟩ := h
    obtain ⟨u, w', rfl, ru, rw'⟩ := Zap r
    obtain rfl := hv w' rw'
    obtain ⟨t, P, k1, k2, k3, k4⟩ := ans_V (X := X) hkn hke F hs ry I.unwish ru hb
    exact PySem.W.kia_one k1 I.kIn k2 k4 k3 fun tk => ⟨.bl b, H, I.tok _, rfl, q⟩
  refine pimp (Z4j (X := XB X W) hc hg hm Z4q hA (by decide) (by decide) he hpl) fun σ H Q ⟨S₀, H₀, env, S, r, q⟩ => ?_
  refine ⟨S₀, H₀, env, S, r, ?_⟩
  unfold e1 at q
  cases hf : fa env with
  | no => rw [hf] at q; exact q.elim
  | err c => rw [hf] at q; exact q
  | ok y =>
    rw [hf, R.bind_ok] at q
    refine Good.of fun v H' S' x rv => ?_
    cases hz : isA kn ke under pl y with
    | no => rw [hz] at q; exact q.elim
    | err c => exact (Zfv hz).elim
    | ok z =>
      obtain ⟨b, rfl⟩ := isA_bl hz
      rw [hz] at q
      exact ⟨v, y, S', b, rfl, x.sh, rv, hz, Good.sh q x rfl⟩
inductive ClsL (X : Cx) : List Expr -> List Addr -> Prop where
  | nil : ClsL X [] []
  | cons {c : Str} {C : Addr} {p : Pos} {es : List Expr} {as : List Addr} (hg : Gl X c) (hm : X.mg c = some (.ref C)) (t : ClsL X es as) (hd : (c == ("__debug__" : Str)) = false := by decide) : ClsL X (.Name c p :: es) (C :: as)
end
end B
namespace B
open PySem PySem.Spec PyProof.Rows L2
theorem Z7r {f : Str} {v : V} : ∀ {fs : List (Str × V)}, f ∉ fs.map (·.1) -> putF f v fs = fs ++ [(f, v)]
  | [], _ => rfl
  | (g, x) :: r, h => by
    rw [List.map_cons, List.mem_cons, not_or] at h
    show (if g = f then (g, v) :: r else (g, x) :: putF f v r) = _
    rw [if_neg fun e => h.1 e.symm, Z7r h.2]
    rfl
section
variable {mg : MG} {S S' : Hp}
theorem RepF.keys : ∀ {gs : List (Str × PV)} {fs : List (Str × V)}, RepF mg S gs fs -> fs.map (·.1) = gs.map (·.1)
  | [], _, r => by cases (show _ = [] from r); rfl
  | (p, y) :: ys, _, ⟨v, r, e, r1, r2⟩ => by rw [e, List.map_cons, List.map_cons, RepF.keys r2]
theorem RepF.snoc {f : Str} {z : PV} {v : V} (rv : Rep mg S z v) : ∀ {gs : List (Str × PV)} {fs : List (Str × V)}, RepF mg S gs fs -> RepF mg S (gs ++ [(f, z)]) (fs ++ [(f, v)])
  | [], _, r => by cases (show _ = [] from r); exact ⟨v, [], rfl, rv, rfl⟩
  | (p, y) :: ys, _, ⟨u, r, e, r1, r2⟩ => by subst e; exact ⟨u, _, rfl, r1, RepF.snoc rv r2⟩
theorem Z5f {H : Hp} : ∀ {n : Nat} {env : Env} {σ : L2.St} {as : List Addr}, Zr mg S H (List.replicate n .s) env σ as -> as = []
  | 0, _, _, _, h => h.2.2
  | n + 1, _, _, _, ⟨e, er, v, r, a1, a2, h1, h2, h3, q, t⟩ => by
    have z2 := Z5f t
    have z1 : a1 = [] := by
      cases e with
      | none => exact q
      | some y => obtain ⟨u, _, z, _⟩ := q; exact z
    rw [h3, z1, z2]; rfl
end
inductive Flds (X : Cx) (C : Addr) (Γ : List Own) (self : Str) : List Stmt -> List (Str × Ev) -> Prop where
  | nil : Flds X C Γ self [] []
  | cons {f : Str} {e : Expr} {fe : Ev} {p1 p2 pos : Pos} {rest : List Stmt} {fs : List (Str × Ev)} (he : PEB X Γ e .s fe) (hn : Zk X.K C f) (hs : swapsWith e (some (.Attribute (.Name self p1) f p2)) pos.line X.env = pure false) (t : Flds X C Γ self rest fs) :
      Flds X C Γ self (.Assign [.Attribute (.Name self p1) f p2] e pos :: rest) ((f, fe) :: fs)
def tIni (X : Cx) (C : Addr) (n : Nat) (a dx : Addr) (fs : List (Str × Ev)) : TS := fun D σ H => ∃ S₀ H₁ env S gs vs, Rel X.mg S₀ H₁ (List.replicate n .s) env σ S H /\ σ[0]? = some (some (.ref a)) /\ H a = some (.ins C dx vs) /\ S a = none /\ H₁ a = none /\ (H dx = some (.own a) /\ S dx = none /\ dx ≠ a) /\ RepF X.mg S gs vs /\
  (gs.map (·.1) ++ fs.map (·.1)).Nodup /\ gs.length + fs.length < 1000 /\ (match evs (fs.map (·.2)) env with
  | .ok zs => ∀ H' S' vs', Ext S₀ H₁ S' H' -> Sub S S' -> (∀ b, b ≠ a -> ∀ o, H b = some o -> H' b = some o) -> H' a = some (.ins C dx vs') -> S' a = none -> (H' dx = some (.own a) /\ S' dx = none) -> RepF X.mg S' (gs ++ (fs.map (·.1)).zip zs) vs' -> D.nx σ H'
  | _ => False)
theorem Flds.pss {X : Cx} {W : WK} {C : Addr} {n : Nat} {self : Str} {a dx : Addr} (hN : X.N[0]? = some self) (hv : Vis X.env.scope self) (hC : Cls X.K C) (hd : (self == ("__debug__" : Str)) = false) (hcd : (self == ("__classdict__" : Str)) = false) :
    ∀ {body : List Stmt} {fs : List (Str × Ev)}, Flds X C (List.replicate n .s) self body fs -> PSs (XB X W) body (tIni X C n a dx fs)
  | _, _, .nil => Z5c Z99 fun D σ H ⟨S₀, H₁, env, S, gs, vs, r, h0, h1, h2, h3, hx, h4, h5, h6, q⟩ => q H S vs r.ext Sub.refl (fun _ _ _ e => e) h1 h2 ⟨hx.1, hx.2.1⟩ (by simpa using h4)
  | _, _, .cons (f := f) (fe := fe) (fs := fs) he hn hs t => by
    refine Z5c (Z8n (ps_fld (Z71 (X := XB X W) hN hv hd hcd) (he W) hs) (Flds.pss (a := a) (dx := dx) hN hv hC hd hcd t)) fun D σ H ⟨S₀, H₁, env, S, gs, vs, r, h0, h1, h2, h3, hx, h4, h5, h6, q⟩ => ?_
    refine ⟨S₀, H₁, env, S, r, ?_⟩
    rw [List.map_cons] at q
    unfold evs at q
    cases hf : fe env with
    | no => simp only [hf, R.bind_no] at q
    | err c => simp only [hf, R.bind_err] at q
    | ok z =>
      simp only [hf, R.bind_ok] at q
      refine Good.of fun v H' S' x rv => ⟨_, h0, a, C, dx, vs, rfl, x.h _ _ h1, hC, hn, ?_, ?_⟩
      . have := congrArg List.length h4.keys
        simp only [List.length_map] at this
        simp only [List.length_cons] at h6
        omega
      . have sa : S' a = none := by
          cases e : S' a with
          | none => rfl
          | some o =>
            rcases x.n a o e with q1 | q1
            . rw [h2] at q1; cases q1
            . rw [h1] at q1; cases q1
        have sx : S' dx = none := by
          cases e : S' dx with
          | none => rfl
          | some o =>
            rcases x.n dx o e with q1 | q1
            . rw [hx.2.1] at q1; cases q1
            . rw [hx.1] at q1; cases q1
        have nf : f ∉ vs.map (·.1) := by
          rw [h4.keys]
          intro m
          have := (List.nodup_append.mp h5).2.2 f m f (by simp)
          exact this rfl
        rw [Z7r nf]
        have rg := r.grow x
        have x2 : Ext S₀ H₁ S' (upd H' a (.ins C dx (vs ++ [(f, v)]))) := by
          refine ⟨fun b o e => ?_, rg.ext.s, fun b o e => ?_, rg.ext.n⟩
          . rw [Z8 fun z => by rw [z, h3] at e; cases e]; exact rg.ext.h b o e
          . rw [Z8 fun z => by rw [z, sa] at e; cases e]; exact rg.ext.sh b o e
        obtain ⟨as, sl, nd, fr⟩ := rg.own
        have has := Z5f sl
        subst has
        refine ⟨S₀, H₁, env, S', gs ++ [(f, z)], vs ++ [(f, v)], ⟨x2, [], sl.keep Sub.refl (fun b m => by cases m), List.nodup_nil, fun b m => by cases m⟩, h0, Zg, sa, h3, ⟨by rw [Z8 hx.2.2]; exact x.h _ _ hx.1, sx, hx.2.2⟩, (h4.mono x.s).snoc rv, ?_, ?_, ?_⟩
        . simpa using h5
        . simp only [List.length_cons, List.length_append, List.length_nil] at h6 ⊢; omega
        . cases hz : evs (fs.map (·.2)) env with
          | no => rw [hz] at q; exact q
          | err c => rw [hz] at q; exact q
          | ok zs =>
            rw [hz] at q
            intro H2 S2 vs2 y1 y2 y3 y4 y5 yx y6
            refine q H2 S2 vs2 y1 (x.s.trans y2) (fun b hb o e => y3 b hb o ?_) y4 y5 yx (by simpa using y6)
            rw [Z8 hb]; exact x.h b o e
def spI (mg : MG) (C : Addr) (n : Nat) (g : List (Str × Ev)) : Sp := fun vs H2 Q _ => ∃ S H1 ys a dx us, vs = .ref a :: us /\ H2 = upd (upd H1 dx (.own a)) a (.ins C dx []) /\ H1 a = none /\ H1 dx = none /\ dx ≠ a /\ Sub S H1 /\ Reps mg S ys us /\ ys.length = n /\
  (match evs (g.map (·.2)) (none :: ys.map some) with
  | .ok zs => ∀ H' S' vs', Ext S H1 S' H' -> H' a = some (.ins C dx vs') -> S' a = none -> H' dx = some (.own a) -> S' dx = none -> RepF mg S' ((g.map (·.1)).zip zs) vs' -> Q .non H'
  | _ => False)
def mkI (c : Str) (n : Nat) (fs : List (Str × Ev)) : List PV -> R PV := fun args => if args.length = n then
  (match evs (fs.map (·.2)) (none :: args.map some) with
  | .ok vs => .ok (.ins c ((fs.map (·.1)).zip vs))
  | _ => .no) else .no
theorem Z4t {mg : MG} {S H : Hp} : ∀ {ys : List PV} {vs : List V}, Reps mg S ys vs -> Zr mg S H (List.replicate ys.length .s) (ys.map some) (vs.map some) []
  | [], _, r => by cases (show _ = [] from r); exact ⟨rfl, rfl, rfl⟩
  | y :: ys, _, ⟨v, r, e, h1, h2⟩ => by subst e; exact ⟨some y, _, some v, _, [], [], rfl, rfl, rfl, ⟨v, rfl, rfl, h1⟩, Z4t h2⟩
section
variable {P : Program} {w : World} {K : PySem.W.Frag} {mg : MG} {base : Heap}
theorem Z40 {x qual self : Str} {st : Stmt} {f C : Addr} {fd : FuncData} {N : List Str} {k n : Nat} {fs : List (Str × Ev)} (F : Fun K x qual st f fd) (S : FnScope N N (Z1 st)) (hl : N.length = n + 1) (h0 : N[0]? = some self) (hv : Vis (Z1 st) self) (hC : Cls K C)
    (hnd : (fs.map (·.1)).Nodup) (hsz : fs.length < 1000)
    (hbody : ∀ (cdv : Value) (A : Around) (outer : List PySem.Env) (s : Shared) (H : Hp) (E : XK), Room k (A.deeper (envOfC qual (Z1 st) s.heap.objs.size f cdv)) ->
      Flds (cxOf (CXB P w) P w K mg base N qual (Z1 st) f cdv A outer s H E) C (List.replicate (n + 1) .s) self (Za st) fs)
    (hd : (self == ("__debug__" : Str)) = false := by decide) (hcd : (self == ("__classdict__" : Str)) = false := by decide) : FnOk P w K mg base (CXB P w) (k + 1) f fd N (spI mg C n fs) := by
  obtain ⟨oc, od, kV, doc, pm, an, cdv, ct, osl, rfl, lk, hcd'⟩ := F.ex
  refine fn_of lk hcd' S (fun vs H Q E ⟨S, H1, ys, a, dx, us, e, _, _, _, _, _, rs, hl2, _⟩ => by rw [e, hl, List.length_cons, <- rs.length, hl2]) fun A outer s H vs Q E hr ⟨S1, H1, ys, a, dx, us, e, e2, na, nx, ne, hs, rs, hl2, hm⟩ => ?_
  subst e
  have hb := Flds.pss (W := fun _ _ _ => False) (a := a) (dx := dx) (X := cxOf (CXB P w) P w K mg base N qual (Z1 st) f cdv A outer s H E) h0 hv hC hd hcd (hbody cdv A outer s H E hr)
  refine ⟨_, Zct hb fun e s' ⟨c, σ, H', T, q⟩ => q.elim, ?_⟩
  subst e2
  have hul : us.length = n := by rw [<- rs.length, hl2]
  have hst : L2.start N (.ref a :: us) = (V.ref a :: us).map some := by
    unfold L2.start
    rw [show N.length - (V.ref a :: us).length = 0 by rw [hl, List.length_cons, hul]; omega]
    simp
  rw [hst]
  have sub2 : Sub H1 (upd (upd H1 dx (.own a)) a (.ins C dx [])) := fun b o e => by
    rw [Z8 (fun z => by rw [z, na] at e; cases e), Z8 (fun z => by rw [z, nx] at e; cases e)]; exact e
  refine ⟨S1, H1, none :: ys.map some, S1, [], [], ⟨⟨sub2, Sub.refl, hs.trans sub2, fun _ _ e => .inl e⟩, [], ?_, List.nodup_nil, fun b m => by cases m⟩, rfl, Zg, hs.none na, na, ⟨by rw [Z8 ne, Zg], hs.none nx, ne⟩, rfl, by simpa using hnd, by simpa using hsz, ?_⟩
  . have z := Z4t (mg := mg) (S := S1) (H := upd (upd H1 dx (.own a)) a (.ins C dx [])) rs
    rw [hl2] at z
    exact ⟨none, _, some (.ref a), _, [], [], rfl, rfl, rfl, rfl, z⟩
  . cases hz : evs (fs.map (·.2)) (none :: ys.map some) with
    | no => rw [hz] at hm; exact hm
    | err c => rw [hz] at hm; exact hm
    | ok zs =>
      rw [hz] at hm
      intro H' S' vs' y1 y2 y3 y4 y5 yx y6
      exact hm H' S' vs' y1 y4 y5 yx.1 yx.2 y6
end
section
variable {X : Cx} {Γ : List Own} {k n : Nat} {f C : Addr} {fd : FuncData} {ps : List Str} {c : Str} {p pos : Pos} {e : Expr} {es : List Expr} {as : List Ev} {fs : List (Str × Ev)}
theorem Z1r (M : Mk X.K C f) (F : FnOk X.prog X.w X.K X.mg X.base (CXB X.prog X.w) k f fd ps (spI X.mg C n fs)) (hr : Room (k + 1) X.A) (hg : Gl X c) (hm : X.mg c = some (.ref C)) (hb : Zf X.K fd ps []) (ha : PAB X Γ (e :: es) [] as) (hn : as.length = n := by rfl)
    (hdb : (c == ("__debug__" : Str)) = false := by decide) (he : starEach (e :: es) X.env = (false, eval e X.env) :: starEach es X.env := by exact Z19 rfl) (hpl : (backTo pos (starEach es X.env)).any (·.1) = false := by exact Z1k rfl) :
    PEB X Γ (.Call (.Name c p) (e :: es) [] pos) .s (eN (mkI c n fs) as) := .mk fun W =>
  pimp (Zey (X := XB X W) (CX := CXB X.prog X.w) (E := fun _ _ _ => False) (dvs := []) (ds := []) M F hr hg hm hb .nil (fun pins σ H s e s' I z => by obtain ⟨_, _, _, _, _, q⟩ := z; exact q.elim) (ha W) hdb he hpl) fun σ H Q ⟨S₀, H₀, env, S, r, q⟩ => by
    refine ⟨S₀, H₀, env, S, r, ?_⟩
    unfold eN at q
    cases hf : evs as env with
    | no => rw [hf] at q; exact q.elim
    | err c => rw [hf] at q; exact q
    | ok ys =>
      rw [hf, R.bind_ok] at q
      intro vs H1 S1 as1 x1 ⟨_, rv⟩ _ _ a dx na nx ne
      have hl : ys.length = n := by rw [Z3j hf]; exact hn
      unfold mkI at q
      rw [if_pos hl] at q
      refine ⟨S1, H1, ys, a, dx, vs, by simp, rfl, na, nx, ne, x1.sh, rv, hl, ?_⟩
      cases hz : evs (fs.map (·.2)) (none :: ys.map some) with
      | no => rw [hz] at q; exact q
      | err c => rw [hz] at q; exact q
      | ok zs =>
        rw [hz] at q
        intro H' S' vs' y1 y2 y3 y4 y5 y6
        refine ⟨rfl, Good.sh (Good.grow x1 q) (S' := upd (upd S' dx (.own a)) a (.ins C dx vs')) ⟨y1.h, fun b o z => ?_, fun b o z => ?_, fun b o z => ?_⟩ ?_⟩
        . have z' := y1.s b o z
          rw [Z8 (fun w => by rw [w, y3] at z'; cases z'), Z8 (fun w => by rw [w, y5] at z'; cases z')]; exact z'
        . by_cases h1 : b = a
          . subst h1; rw [Zg] at z; cases z; exact y2
          . rw [Z8 h1] at z
            by_cases h2 : b = dx
            . subst h2; rw [Zg] at z; cases z; exact y4
            . rw [Z8 h2] at z; exact y1.sh b o z
        . by_cases h1 : b = a
          . subst h1; exact .inr na
          . rw [Z8 h1] at z
            by_cases h2 : b = dx
            . subst h2; exact .inr nx
            . rw [Z8 h2] at z; exact y1.n b o z
        . have sub : Sub S' (upd (upd S' dx (.own a)) a (.ins C dx vs')) := fun b o z => by
            rw [Z8 (fun w => by rw [w, y3] at z; cases z), Z8 (fun w => by rw [w, y5] at z; cases z)]; exact z
          exact ⟨a, C, dx, vs', rfl, Zg, by rw [Z8 ne, Zg], hm, y6.mono sub⟩
end
end B
namespace B
open PySem PySem.Spec PyProof.Rows L2
theorem Z7o {mg : MG} {S : Hp} : ∀ {ys : List PV} {vs : List V} {ts : List Str}, Reps mg S ys vs -> Z12 ys = .ok ts -> vs = ts.map V.str
  | [], _, _, r, h => by cases (show _ = [] from r); cases h; rfl
  | y :: ys, _, ts, ⟨v, r, e, h1, t⟩, h => by
    subst e
    cases y with
    | str b =>
      unfold Z12 at h
      cases hb : Z12 ys with
      | no => rw [hb] at h; cases h
      | err c => rw [hb] at h; cases h
      | ok bs =>
        rw [hb] at h
        cases h
        rw [Z7o t hb, show v = .str b from h1]
        rfl
    | _ => cases h
theorem Z4l : ∀ {ys : List PV} {c : Str}, Z12 ys = .err c -> False
  | [], _, h => by cases h
  | y :: ys, c, h => by
    cases y with
    | str b =>
      unfold Z12 at h
      cases hb : Z12 ys with
      | no => rw [hb] at h; cases h
      | err c => exact Z4l hb
      | ok bs' => rw [hb] at h; cases h
    | _ => cases h
theorem Z5y : ∀ {ts : List Str} {its : List Value}, Vals (ts.map V.str) its -> ∃ l : List (Str × Tok), its = strValues l /\ l.map (·.1) = ts
  | [], _, h => by cases h; exact ⟨[], rfl, rfl⟩
  | t :: ts, _, h => by
    cases h with
    | cons r q =>
      obtain ⟨l, e1, e2⟩ := Z5y q
      obtain ⟨k, e3⟩ := (show ∃ k, _ = Value.str t k from r)
      exact ⟨(t, k) :: l, by rw [e1, e3]; rfl, by rw [List.map_cons, e2]⟩
theorem Z64 : ∀ {l : List (Str × Tok)}, Vals ((l.map (·.1)).map V.str) (strValues l)
  | [] => .nil
  | (t, k) :: l => .cons ⟨k, rfl⟩ (Z64 (l := l))
theorem Z65 {mg : MG} {S : Hp} : ∀ {ts : List Str}, Reps mg S (ts.map .str) (ts.map V.str)
  | [] => rfl
  | t :: ts => ⟨.str t, _, rfl, rfl, Z65⟩
def rJoin (K : PySem.W.Frag) : V -> List V -> Hp -> VK -> Prop := fun x xs H Q => ∃ sep a ts, x = .str sep /\ xs = [.ref a] /\ SqL K H a (ts.map V.str) /\ JoinOk sep ts = true /\ Q (.str (Txt.join sep ts)) H
section
variable {X : Cx}
theorem Zg2 : MtR X "str.join" (rJoin X.K) := by
  intro pins s σ H x xs v us Q I rx rs h
  obtain ⟨sep, a, ts, rfl, rfl, hq, hj, q⟩ := h
  obtain ⟨t, rfl⟩ := (show ∃ t, v = Value.str sep t from rx)
  obtain ⟨u, rfl, ru⟩ := Z1j rs
  obtain rfl : u = Value.ref a := ru
  obtain ⟨its, rv, pl, hz⟩ := I.list hq
  obtain ⟨l, rfl, rfl⟩ := Z5y rv
  have hj' := hj
  unfold JoinOk at hj'
  rw [Bool.not_eq_true'] at hj'
  refine call_meets PySem.F.slot_str_join (typeIs_str _ _ _) PySem.F.entry_str_join (PySem.F.args_str_join_2 _ _) (meets_str_join_list sep t a l hj') ⟨pl.isList, ?_⟩
  exact post_join l ⟨joinFit_length hj', fun t' k => ⟨.str _, H, I.tok _, ⟨_, rfl⟩, q⟩⟩
theorem Zea : MtR X "str.split" (fun x xs H Q => ∃ z y, x = .str z /\ xs = [.str y] /\ (y.length == 0) = false /\ z.length <= sizeLine /\ (Txt.split z y).length <= sizeLine /\ ∀ p, H p = none -> Q (.ref p) (upd H p (.lst ((Txt.split z y).map V.str)))) := by
  intro pins s σ H x xs v us Q I rx rs h
  obtain ⟨z, y, rfl, rfl, hy, hz, hn, q⟩ := h
  obtain ⟨t, rfl⟩ := (show ∃ t, v = Value.str z t from rx)
  obtain ⟨u', rfl, ru⟩ := Z1j rs
  obtain ⟨u, rfl⟩ := (show ∃ t, u' = Value.str y t from ru)
  have one : Txt.split z y = [z] -> EP X pins σ Q (.ref s.heap.objs.size) { s with heap := s.heap.push { cls := .type "list", data := .seq [Value.str z t].toArray } } := fun e =>
    ⟨.ref _, _, I.lnew (t' := s.toks) (ys := [V.str z]) (.cons ⟨t, rfl⟩ .nil) (by show 1 <= sizeLine; decide), rfl, by have := q _ I.fresh; rw [e] at this; exact this⟩
  cases h1 : (decide (z.length < y.length) || decide (Builtin.Str.strKind z < Builtin.Str.strKind y)) with
  | true =>
    refine call_meets PySem.F.slot_str_split (typeIs_str _ _ _) PySem.F.entry_str_split (PySem.F.args_str_split_2 _ _) (meets_str_split_cannot_occur z y t u h1) (one ?_)
    unfold Txt.split
    exact if_pos h1
  | false =>
    cases hf : (Builtin.Str.occurrences z y 0 z.length (z.length + 1)).isEmpty with
    | true =>
      refine call_meets PySem.F.slot_str_split (typeIs_str _ _ _) PySem.F.entry_str_split (PySem.F.args_str_split_2 _ _) (meets_str_split_not_found z y t u h1 hy hf) (one ?_)
      unfold Txt.split
      rw [if_neg (by rw [h1]; exact Bool.false_ne_true), if_pos hf]
    | false =>
      have e : Txt.split z y = Builtin.Str.partsBetween z (Builtin.Str.occurrences z y 0 z.length (z.length + 1)) y.length := by
        unfold Txt.split
        rw [if_neg (by rw [h1]; exact Bool.false_ne_true), if_neg (by rw [hf]; exact Bool.false_ne_true)]
      rw [e] at hn
      refine call_meets PySem.F.slot_str_split (typeIs_str _ _ _) PySem.F.entry_str_split (PySem.F.args_str_split_2 _ _) (meets_str_split_sep z y t u h1 hy hf hz hn) ?_
      show EP X pins σ Q (.ref s.heap.objs.size) { s with toks := _, heap := s.heap.push { cls := .type "list", data := .seq (strsFrom s.toks _).toArray } }
      rw [strsFrom_eq]
      refine ⟨.ref _, _, I.lnew (t' := _) (Z64 (l := numbered s.toks _)) ?_, rfl, ?_⟩
      . rw [List.length_map, numbered_texts]; exact hn
      . rw [numbered_texts, <- e]; exact q _ I.fresh
section
variable {Γ : List Own} {a b : Expr} {fa fb : Ev} {apos cpos : Pos} {o : Own}
theorem b_sm {name : Str} {id : String} {g : PV -> PV -> R PV} {r : V -> List V -> Hp -> VK -> Prop} (slot : PySem.Slot "str" name id) (hty : typeOf (.builtin id) = pure (.type "method_descriptor")) (hm : ∀ W, MtR (XB X W) id r)
    (hr : ∀ (z : Str) (y : PV) (u : V) (S H : Hp), Sub S H -> Rep X.mg S y u -> OkR (g (.str z) y) fun w => ∀ Q : VK, Good X.mg S H o w Q -> r (.str z) [u] H Q)
    (ho : PEB X Γ a .s fa) (hb : PEB X Γ b .s fb) (hbase : attributeBase a name X.env (eval a X.env) = eval a X.env := by rfl)
    (hfew : ((backTo cpos (starEach [b] X.env)).all (fun x => !x.1) && (backToKw cpos (keywordEach [] X.env)).all (fun x => x.1.isSome) && decide ([b].length + ([] : List Keyword).length + (if ([] : List Keyword).isEmpty then 0 else 1) < 30)) = true := by rfl)
    (hline : (apos.endLine == cpos.line) = true := by rfl) (hs : starEach [b] X.env = (false, eval b X.env) :: starEach [] X.env := by exact Z19 rfl) : PEB X Γ (.Call (.Attribute a name apos) [b] [] cpos) o (eSM g fa fb) := .mk fun W =>
  pimp (pe_bm (X := XB X W) PySem.F.plainAttrs_str slot hty (hm W) (ho W) (Z26 (hb W) Z3l hs) hbase hfew hline hs rfl) fun σ H Q ⟨S₀, H₀, env, S, rl, q⟩ => by
    unfold eSM at q
    refine ⟨S₀, H₀, env, S, rl, ?_⟩
    cases ha : fa env with
    | no => rw [ha] at q; exact q.elim
    | err c => rw [ha] at q; exact q
    | ok x =>
      rw [ha, R.bind_ok] at q
      cases x with
      | str z =>
        have q : (match (fb env).bind fun y => g (.str z) y with | .ok y => Good X.mg S H o y Q | .err c => Err S H (W c σ) | .no => False) := q
        refine Good.of fun v H1 S1 x1 r1 => ?_
        cases (show v = .str z from r1)
        refine ⟨rfl, S₀, H₀, env, S1, rl.grow x1, ?_⟩
        cases hfb : fb env with
        | no => rw [hfb] at q; exact q.elim
        | err c => rw [hfb] at q; exact fun H2 S2 x2 => q H2 S2 (x1.trans x2)
        | ok y =>
          rw [hfb, R.bind_ok] at q
          refine Good.of fun u H2 S2 x2 r2 => ?_
          have zz := hr z y u S2 H2 x2.sh r2
          cases hg : g (.str z) y with
          | no => rw [hg] at q; exact q.elim
          | err c => rw [hg] at zz; exact zz.elim
          | ok w =>
            rw [hg] at zz q
            exact zz Q (Good.grow (x1.trans x2) q)
      | _ => exact q.elim
theorem Zd6 (ho : PEB X Γ a .s fa) (hb : PEB X Γ b .s fb) (hbase : attributeBase a "join" X.env (eval a X.env) = eval a X.env := by rfl)
    (hfew : ((backTo cpos (starEach [b] X.env)).all (fun x => !x.1) && (backToKw cpos (keywordEach [] X.env)).all (fun x => x.1.isSome) && decide ([b].length + ([] : List Keyword).length + (if ([] : List Keyword).isEmpty then 0 else 1) < 30)) = true := by rfl)
    (hline : (apos.endLine == cpos.line) = true := by rfl) (hs : starEach [b] X.env = (false, eval b X.env) :: starEach [] X.env := by exact Z19 rfl) : PEB X Γ (.Call (.Attribute a "join" apos) [b] [] cpos) .s (eSM Z58 fa fb) :=
  b_sm (r := rJoin X.K) PySem.F.slot_str_join PySem.F.type_str_join (fun W => Zg2 (X := XB X W)) (fun z y u S H hs ry => by
    cases y with
    | lst ys =>
      show OkR ((Z12 ys).bind _) _
      cases hy : Z12 ys with
      | no => exact True.intro
      | err c => exact (Z4l hy).elim
      | ok ts =>
        refine OkR.when fun h Q g => ?_
        rw [Bool.and_eq_true] at h
        obtain ⟨p, vs, rfl, q1, r1⟩ := ry
        have e := Z7o r1 hy
        subst e
        exact ⟨z, p, ts, rfl, rfl, .inl (Rd.mono hs q1), h.2, g.sh (Ext.refl hs) rfl⟩
    | _ => exact True.intro) ho hb hbase hfew hline hs
theorem Zg1 (ho : PEB X Γ a .s fa) (hb : PEB X Γ b .s fb) (hbase : attributeBase a "split" X.env (eval a X.env) = eval a X.env := by rfl)
    (hfew : ((backTo cpos (starEach [b] X.env)).all (fun x => !x.1) && (backToKw cpos (keywordEach [] X.env)).all (fun x => x.1.isSome) && decide ([b].length + ([] : List Keyword).length + (if ([] : List Keyword).isEmpty then 0 else 1) < 30)) = true := by rfl)
    (hline : (apos.endLine == cpos.line) = true := by rfl) (hs : starEach [b] X.env = (false, eval b X.env) :: starEach [] X.env := by exact Z19 rfl) : PEB X Γ (.Call (.Attribute a "split" apos) [b] [] cpos) (.o []) (eSM Z3b fa fb) :=
  b_sm PySem.F.slot_str_split PySem.F.type_str_split (fun W => Zea (X := XB X W)) (fun z y u S H hs ry => by
    cases y with
    | str w =>
      refine OkR.when fun h Q g => ?_
      simp only [Bool.and_eq_true, decide_eq_true_eq] at h
      cases (show u = .str w from ry)
      exact ⟨z, w, rfl, rfl, by simp; omega, Nat.le_trans h.1.2 (by decide), Nat.le_trans h.2 (by decide), fun p hp => g.lst hs Z65 hp⟩
    | _ => exact True.intro) ho hb hbase hfew hline hs
end
theorem Z6n {X : Cx} : Z11 X (.type "str") (fun xs H Q => (∃ i, xs = [.int i] /\ i.natAbs.log2 < 1920 /\ Q (.str (toString i)) H) \/ ∃ a, xs = [.str a] /\ Q (.str a) H) := by
  intro pins s σ H xs us Q I r h
  rcases h with h | ⟨a, rfl, q⟩
  . exact Z8c pins s σ H xs us Q I r h
  . obtain ⟨u, rfl, t, rfl⟩ := Z1j r
    exact PySem.P.str_of_str ⟨.str a, H, I, ⟨_, rfl⟩, q⟩
theorem Z6t : Z2a X (.type "str") .s cStr := fun W => by
  refine ⟨_, Z6n (X := XB X W), fun ys vs S H hs r => ?_⟩
  match ys, r with
  | [], _ => exact True.intro
  | y :: _ :: _, _ => cases y <;> exact True.intro
  | [.int i], ⟨v, _, e1, rv, e2⟩ =>
    refine OkR.when fun h Q g => ?_
    subst e1 e2
    rw [show v = .int i from rv]
    refine .inl ⟨i, rfl, ?_, g.sh (Ext.refl hs) rfl⟩
    have h := of_decide_eq_true h
    by_cases h0 : i.natAbs = 0
    . rw [h0]; decide
    . exact (Nat.log2_lt h0).mpr (Nat.lt_of_lt_of_le h (Nat.pow_le_pow_right (by decide) (by decide)))
  | [.non], _ => exact True.intro
  | [.bl _], _ => exact True.intro
  | [.str a], ⟨v, _, e1, rv, e2⟩ =>
    refine fun Q g => ?_
    subst e1 e2
    rw [show v = .str a from rv]
    exact .inr ⟨a, rfl, g.sh (Ext.refl hs) rfl⟩
  | [.tup _], _ => exact True.intro
  | [.lst _], _ => exact True.intro
  | [.dct _], _ => exact True.intro
  | [.ins _ _], _ => exact True.intro
  | [.exc _], _ => exact True.intro
end
end B
namespace B
open PySem PySem.Spec PyProof.Rows L2
theorem Z60 {mg : MG} {S : Hp} {f : Str} : ∀ {gs : List (Str × PV)} {fs : List (Str × V)}, RepF mg S gs fs -> fld gs f = none -> fs.lookup f = none
  | [], _, r, _ => by cases (show _ = [] from r); rfl
  | (g, z) :: gs, _, ⟨v, r, e, h1, h2⟩, h => by
    subst e
    unfold fld at h
    rw [List.lookup_cons] at h ⊢
    cases hb : f == g with
    | true => rw [hb] at h; cases h
    | false => rw [hb] at h; exact Z60 h2 h
section
variable {X : Cx} {Γ : List Own} {k n : Nat} {m : Str} {tb : List (Str × (List PV -> R PV))} {o : Expr} {fo : Ev} {apos pos : Pos}
def Mths (X : Cx) (k n : Nat) (m : Str) (tb : List (Str × (List PV -> R PV))) : Prop := ∀ c g, tb.lookup c = some g -> ∀ C, X.mg c = some (.ref C) -> Cls X.K C /\ ∃ f fd ps, Meth X.K C m f /\ FnB X.prog X.w X.K X.mg X.base k f fd ps .s g /\ Zf X.K fd ps [] /\ ps.length = n + 1
theorem Z5m {pl : Sem Bool} (hM : Mths X k 0 m tb) (hr : Room k X.A) (ho : PEB X Γ o .s fo)
    (ht : eval (.Call (.Attribute o m apos) [] [] pos) X.env = (do
      let ov <- eval o X.env
      standAt apos.atName
      let (f, first) <- holding [ov] (getMethod ov m pl)
      callWith pos f first (backTo pos (starEach [] X.env)) (backToKw pos (keywordEach [] X.env))) := by rfl) :
    PEB X Γ (.Call (.Attribute o m apos) [] [] pos) .s (Z31 m tb fo []) := .mk fun W => by
  intro pins s σ H Q I ⟨S₀, H₀, env, S, r, q⟩
  have hO : tB X Γ .s fo W σ H (fun v H1 => ∃ c gs g S1, fo env = .ok (.ins c gs) /\ fld gs m = none /\ tb.lookup c = some g /\ Ext S H S1 H1 /\ Rep X.mg S1 (.ins c gs) v) := by
    refine ⟨S₀, H₀, env, S, r, ?_⟩
    unfold Z31 at q
    cases hf : fo env with
    | no => rw [hf] at q; exact q.elim
    | err c => rw [hf] at q; exact q
    | ok y =>
      rw [hf, R.bind_ok] at q
      cases y with
      | ins c gs =>
        refine Good.of fun v H1 S1 x rv => ?_
        cases hn : fld gs m with
        | some z => simp only [hn] at q; exact q.elim
        | none =>
          cases hl : tb.lookup c with
          | none => simp only [hn, hl] at q; exact q.elim
          | some g => exact ⟨c, gs, g, S1, rfl, hn, hl, x, rv⟩
      | _ => exact q.elim
  refine PySem.W.methodCall_KW (pl := pl) (thn (ho W pins s σ H _ I hO) fun u s1 ⟨v, H1, I1, rx, c, gs, g, S1, hf, hn, hl, x, rv⟩ => ?_) ht
  have rv0 := rv
  obtain ⟨a, C, dx, vs, rfl, ra, rd, rm, rf⟩ := rv
  obtain rfl : u = Value.ref a := rx
  obtain ⟨hC, f, fd, ps, hm, F, hb, hp⟩ := hM c g hl C rm
  refine Zat (X := XB X W) I1 (x.sh _ _ ra) hC hm (Z60 rf hn) ?_
  refine PySem.W.callWith_K0 (first := [.ref a]) I1.kIn hm.kp ?_
  refine run_B (W := W) (us := [.ref a]) (vs := [.ref a]) F hr hb I1 (.cons rfl .nil) ⟨S1, [.ins c gs], x.sh, ⟨_, [], rfl, rv0, rfl⟩, by rw [hp]; rfl, ?_⟩
  unfold Z31 at q
  rw [hf, R.bind_ok] at q
  simp only [hn, hl, Option.isNone_none, when_true, evs, R.bind_ok] at q
  cases hg : g [.ins c gs] with
  | no => rw [hg] at q; exact q.elim
  | err e => rw [hg] at q; exact fun H2 S2 C' x2 hC' => ⟨e, hC', q H2 S2 (x.trans x2)⟩
  | ok y => rw [hg] at q; exact Good.grow x q
end
end B
namespace B
open PySem PySem.Spec PyProof.Rows L2
structure Mk0 (K : PySem.W.Frag) (C : Addr) : Prop where
  makes : PySem.W.makesIn K C = true
  init : PySem.W.findIn K (.ref C) "__init__" = some (some (.builtin "object.__init__"))
  kp : PySem.W.keepIn K (.ref C) = true
section
variable {X : Cx} {Γ : List Own} {C : Addr} {c : Str} {p pos : Pos}
set_option maxHeartbeats 2000000 in
theorem make_0 {pins : List (Addr × Obj)} {σ : L2.St} {H : Hp} {s : Shared} {Q : VK} (M : Mk0 X.K C) (I : Inv X pins σ H s)
    (h : ∀ x dx, H x = none -> H dx = none -> dx ≠ x -> Q (.ref x) (upd (upd H dx (.own x)) x (.ins C dx []))) : wpAny (model X.prog X.w) X.A (call (.ref C) []) (EP X pins σ Q) X.xe s := by
  have I2 := Inv.made (C := C) I
  have z := h (s.heap.objs.size + 1) s.heap.objs.size (I.hok.fresh (Nat.le_succ _)) (I.hok.fresh (Nat.le_refl _)) (Nat.ne_of_lt (Nat.lt_succ_self _))
  refine wpAny_call (Zb3 I.kIn M.makes M.init (fun self => PySem.W.Looks.of_pure (PySem.W.oi_bind self)) ?_)
  obtain ⟨hp, gs, dr, tk, os⟩ := s
  have Y := PySem.W.makes_of (M := model X.prog X.w) I.kIn M.makes
  have e2 : ((hp.push PySem.W.emptyDict).push (PySem.W.instObj C hp.objs.size)).get? (hp.objs.size + 1) = some (PySem.W.instObj C hp.objs.size) := by
    have q := Heap.get?_push_size (hp.push PySem.W.emptyDict) (o := PySem.W.instObj C hp.objs.size) rfl
    rwa [Heap.size_push] at q
  have t1 : PySem.W.Looks (model X.prog X.w) ((hp.push PySem.W.emptyDict).push (PySem.W.instObj C hp.objs.size)) (typeOf (.ref (hp.objs.size + 1))) (.ref C) :=
    (PySem.W.Looks.ld e2).andThen .now
  have t2 : PySem.W.Looks (model X.prog X.w) ((hp.push PySem.W.emptyDict).push (PySem.W.instObj C hp.objs.size)) (isInstance (.ref (hp.objs.size + 1)) (.type "object")) true :=
    t1.andThen (Y.top.keeps fun b o e => Heap.get?_push_of_some _ (Heap.get?_push_of_some _ e))
  refine codeAny_call_builtin PySem.W.oi_plain PySem.W.entry_oi ?_
  refine PySem.W.check_slot PySem.W.oi_kind PySem.W.oi_split t2 (PySem.W.oi_args _) ?_
  rw [PySem.W.oi_run]
  exact wpAny_pure ⟨rfl, ⟨.ref _, _, I2, rfl, z⟩⟩
theorem Zfu (M : Mk0 X.K C) (hg : Gl X c) (hm : X.mg c = some (.ref C)) (hdb : (c == ("__debug__" : Str)) = false := by decide) : PEB X Γ (.Call (.Name c p) [] [] pos) .s (eK (.ins c [])) := .mk fun W => by
  intro pins s σ H Q I ⟨S₀, H₀, env, S, r, q⟩
  refine wpAny_Call_Name_kw (Z38 (X := XB X W) I hg hm ?_ hdb)
  refine PySem.W.callWith_K0 I.kIn M.kp (make_0 (X := XB X W) M I fun a dx na nx ne => ?_)
  have q : Good X.mg S H .s (.ins c []) Q := q
  have hs := r.ext.sh
  refine Good.sh q (S' := upd (upd S dx (.own a)) a (.ins C dx [])) ⟨fun b o z => ?_, fun b o z => ?_, fun b o z => ?_, fun b o z => ?_⟩ ⟨a, C, dx, [], rfl, Zg, by rw [Z8 ne, Zg], hm, rfl⟩
  . rw [Z8 (fun w => by rw [w, na] at z; cases z), Z8 (fun w => by rw [w, nx] at z; cases z)]; exact z
  . rw [Z8 (fun w => by rw [w, hs.none na] at z; cases z), Z8 (fun w => by rw [w, hs.none nx] at z; cases z)]; exact z
  . by_cases h1 : b = a
    . subst h1; rw [Zg] at z ⊢; exact z
    . rw [Z8 h1] at z ⊢
      by_cases h2 : b = dx
      . subst h2; rw [Zg] at z ⊢; exact z
      . rw [Z8 h2] at z ⊢; exact hs b o z
  . by_cases h1 : b = a
    . subst h1; exact .inr na
    . rw [Z8 h1] at z
      by_cases h2 : b = dx
      . subst h2; exact .inr nx
      . rw [Z8 h2] at z; exact .inl z
end
end B
namespace B
open PySem PySem.Spec PyProof.Rows L2
section
variable {X : Cx} {w : Way} {Γ Γ' : List Own} {N' : List Str} {x y : Str} {px py pos spos : Pos} {scope : Scope} {ifs : List Expr} {elt iter : Expr} {ft : Tv} {fe : Ev} {fi : Iv} {i : Nat}
theorem s_setC {g0 : Own} (l : LeO w.e Γ) (hN : X.N.Nodup) (hi : X.N[i]? = some y) (hy : X.env.scope.names.lookup y = some .local) (hg : Γ[i]? = some g0)
    (n : CompN X.N N' x scope X.env.scope) (hc : X.calm = true) (hit : PIB X Γ (.Name x px) iter fi) (hE : Z6s X Γ N' scope ifs elt ft fe) (hs : ∀ x, foldedSetIterable iter X.env x = pure x := by intro _; rfl)
    (hsw : swapsWith (.ListComp elt [⟨.Name x px, iter, ifs, 0⟩] scope pos) (some (.Name y py)) spos.line X.env = pure true := by rfl) (hΓ : Γ' = Γ.set i (.o []) := by rfl) :
    PSB X w Γ Γ' (.Assign [.Name y py] (.ListComp elt [⟨.Name x px, iter, ifs, 0⟩] scope pos) spos) (sSet i (Z1g fi ft fe)) := hΓ ▸ .mk fun W _ => by
  intro pins s σ H D I ⟨S₀, H₀, env, S, r, q⟩
  obtain ⟨cl, hcl, c1, c2⟩ := Z3u (env := X.env) (scope := scope) fun y hy hf => I.ok.has y.1 (.inl (n.free y hy hf))
  show wpAny (model X.prog X.w) X.A (exec _ X.env) (SP (XB X W) pins D) (XB X W).xe s
  rw [exec_Assign_Name_used _ _ _ _ hsw]
  refine wpAny_bind (wpAny_standAt ?_)
  refine wpAny_bind ?_
  show wpAny _ X.A (do let _ <- comprehension _ scope X.env _ (newList []) false (eval iter X.env) (some (assign (.Name y py) X.env))) _ _ s
  have key : wpAny (model X.prog X.w) X.A (comprehension (.ListComp elt [⟨.Name x px, iter, ifs, 0⟩] scope pos) scope X.env (firstIterPos [⟨.Name x px, iter, ifs, 0⟩] pos) (newList []) false (eval iter X.env) (some (assign (.Name y py) X.env))) (fun _ s' => SP (XB X W) pins D .next s') (XB X W).xe s := by
    refine wpAny_comprehension_free (use := some (assign (.Name y py) X.env)) rfl hs hcl n.kind n.locs (thn (hit W pins s σ H (fun J H1 => ∃ xs S1, fi env = .ok xs /\ Ext S H S1 H1 /\ ItB X.mg J xs S1) I ⟨S₀, H₀, env, S, r, ?_⟩) fun xv s1 h1 => thn h1 fun itv s2 ⟨it, fp, tn, J, H2, e, I2, T, st2, f2, xs, S2, hxs, x2, hJ⟩ => ?_)
    . unfold sSet Z1g at q
      cases hf : fi env with
      | no => rw [hf] at q; exact q
      | err c => rw [hf] at q; exact Z42 l r q
      | ok xs => exact fun J H' S' x z => ⟨xs, S', rfl, x, z⟩
    . subst e
      unfold sSet Z1g at q
      rw [hxs, R.bind_ok] at q
      cases hl : decide (xs.length < Zn) with
      | false => rw [hl] at q; exact q.elim
      | true =>
        rw [hl] at q
        cases ht : Zt ft fe env xs with
        | no => rw [ht] at q; exact q.elim
        | err c => exact False.elim (Z30 ht)
        | ok tot =>
          rw [ht] at q
          have q : OutB X.mg S₀ H₀ S w (Γ.set i (.o [])) W D (.nx (env.set i (some (.lst tot)))) := q
          refine Z5g (RR := fun acc C => compPost (model X.prog X.w) X.A (XB X W).xe (some (assign (.Name y py) X.env)) (fun _ s' => SP (XB X W) pins D .next s') acc C) n hc hE I2.unwish T st2 f2 (r.grow x2) hJ ht (of_decide_eq_true hl) c1 c2 fun D' C s3 S3 Hm vs hD hm x3 rs I3 fC ⟨m, hm2⟩ => ?_
          show wpAny _ X.A (assign (.Name y py) X.env (.ref D')) _ _ _
          refine wpAny_assign_Name (Z67 (v := .ref D') I3 hN hi (.inl hy) rfl (fun s4 I4 ⟨a, sb, ha⟩ => ?_) (.inr hy))
          obtain ⟨g0, g1, g2, g3, g4, g5⟩ := fC
          have hCa : C ≠ a := by
            rcases ha with rfl | ha
            . exact g1
            . exact fun z => g4 _ _ ha z.symm
          refine ⟨m, hm2.sameBut sb hCa, fun h' sb' => ⟨σ.set i (some (.ref D')), upd Hm D' (.lst vs), (I4.turned (t' := s4.toks) (fun b o hb e => (sb'.2 b hb).trans e) g0 g1 g3 g4 g5).wish _, ?_⟩⟩
          have x4 := (x2.trans x3).trans (Ext.own (o := .lst vs) x3.sh hm)
          refine q _ _ S3 x4.s (r.store x4 hg (g' := .o []) (as := [D']) ⟨D', vs, [], rfl, Zg, ⟨rfl, rs⟩, rfl⟩ (by simp) (fun a ma => ?_))
          have e : a = D' := by simpa using ma
          subst e
          exact ⟨x2.h.none hD, x3.sh.none hm⟩
  exact wpAny_bind (wpAny_mono key (fun _ s' hq => wpAny_pure (wpAny_pure hq)) fun _ _ e => e)
end
end B
namespace B
open PySem PySem.Spec PyProof.Rows L2
theorem Z6b : ∀ {xs : List V}, xs.all Z1a = true -> eqVs xs xs = true
  | [], _ => rfl
  | x :: xs, h => by
    rw [List.all_cons, Bool.and_eq_true] at h
    show (eqV x x && eqVs xs xs) = true
    rw [Z6b h.2, Bool.and_true]
    cases x <;> first | (cases h.1; done) | simp [eqV]
def ItV (K : PySem.W.Frag) (H : Hp) (v : V) : Option (List V) -> Prop
  | none => Z1a v = true
  | some vs => ∃ a, v = .ref a /\ SqL K H a vs /\ vs.all Z1a = true
def eqIt (v u : V) : Option (List V) -> Option (List V) -> Bool
  | none, none => eqV v u
  | some vs, some us => eqVs vs us
  | _, _ => false
section
variable {X : Cx} {pins : List (Addr × Obj)} {σ : L2.St} {H : Hp} {s : Shared}
theorem Zg7 {A : Around} (hu : A.units < cLine) (I : Inv X pins σ H s) {v u : V} {p q : Value} {iv iu : Option (List V)} (rv : RelV v p) (ru : RelV u q) (hv : ItV X.K H v iv) (hw : ItV X.K H u iu) : SeqAt.EqAt A s p q (eqIt v u iv iu) := by
  have lists : ∀ {a : Addr} {vs : List V}, SqL X.K H a vs -> ∃ its : List Value, Vals vs its /\ s.heap.IsList a its.toArray := fun hq => by
    obtain ⟨its, r1, p1, _⟩ := I.list hq
    exact ⟨its, r1, p1.isList⟩
  cases iv with
  | none =>
    cases iu with
    | none => exact Z85 rv ru hv hw
    | some us =>
      obtain ⟨b, rfl, hq, _⟩ := hw
      obtain ⟨its, _, hl⟩ := lists hq
      cases (show q = Value.ref b from ru)
      cases v with
      | non => cases (show p = _ from rv); exact SeqAt.EqAt.none_list hl hu
      | bl y => cases (show p = _ from rv); exact SeqAt.EqAt.bool_list y hl hu
      | int y => obtain ⟨t, rfl⟩ := (show ∃ t, p = _ from rv); exact SeqAt.EqAt.int_list y t hl hu
      | str y => obtain ⟨t, rfl⟩ := (show ∃ t, p = _ from rv); exact SeqAt.EqAt.str_list y t hl hu
      | _ => cases hv
  | some vs =>
    obtain ⟨a, rfl, hq, hf⟩ := hv
    obtain ⟨its, r1, hl⟩ := lists hq
    cases (show p = Value.ref a from rv)
    cases iu with
    | none =>
      cases u with
      | non => cases (show q = _ from ru); exact SeqAt.EqAt.list_none hl hu
      | bl y => cases (show q = _ from ru); exact SeqAt.EqAt.list_bool y hl hu
      | int y => obtain ⟨t, rfl⟩ := (show ∃ t, q = _ from ru); exact SeqAt.EqAt.list_int y t hl hu
      | str y => obtain ⟨t, rfl⟩ := (show ∃ t, q = _ from ru); exact SeqAt.EqAt.list_str y t hl hu
      | _ => cases hw
    | some us =>
      obtain ⟨b, rfl, hq2, hf2⟩ := hw
      obtain ⟨its2, r2, hl2⟩ := lists hq2
      cases (show q = Value.ref b from ru)
      intro prog w E Q h
      unfold eqBool
      refine wpAny_holding (wpAny_ite_split (fun hab => ?_) (fun _ => ?_))
      . obtain rfl : a = b := Value.ref.inj (eq_of_beq hab)
        have e : vs = us := I.list_inj hq hq2
        subst e
        have h : Q (eqVs vs vs) s := h
        rw [Z6b hf] at h
        exact wpAny_bind (wpAny_rule (wpAny_pure h))
      . have fin : ∀ k, k = eqVs vs us -> SeqAt.RcAt A s (.ref a) (.ref b) k -> wpAny (model prog w) A (truthOfDropped =<< richCompare .Eq (.ref a) (.ref b)) Q E s := fun k e rc => by
          subst e
          exact wpAny_bind (rc prog w E _ (wpAny_truthy_bool h))
        by_cases hl3 : vs.length = us.length
        . refine fin _ ?_ (SeqAt.RcAt.lists hl hl2 (by simp [<- r1.length, <- r2.length, hl3]) hu (Z2w r1 r2 hf hf2))
          rw [List.size_toArray, <- r1.length, Z24 hl3]
        . exact fin false (Z2p hl3).symm (SeqAt.RcAt.lists_lengths hl hl2 (by simp [<- r1.length, <- r2.length, hl3]) hu)
end
def eqGs {α : Type} (f : α -> α -> Bool) : List α -> List α -> Bool
  | [], [] => true
  | x :: xs, y :: ys => f x y && eqGs f xs ys
  | _, _ => false
theorem Z76 {α : Type} {f : α -> α -> Bool} : ∀ {xs ys : List α}, xs.length ≠ ys.length -> eqGs f xs ys = false
  | [], [], h => absurd rfl h
  | [], _ :: _, _ => rfl
  | _ :: _, [], _ => rfl
  | x :: xs, y :: ys, h => by
    show (f x y && eqGs f xs ys) = false
    rw [Z76 fun e => h (by simp [e]), Bool.and_false]
theorem Z4v {α : Type} {f : α -> α -> Bool} {d : α} : ∀ {xs ys : List α}, xs.length = ys.length -> (List.range xs.length).all (fun j => f (xs.getD j d) (ys.getD j d)) = eqGs f xs ys
  | [], [], _ => rfl
  | [], _ :: _, h => by simp at h
  | _ :: _, [], h => by simp at h
  | x :: xs, y :: ys, h => by
    rw [List.length_cons, List.range_succ_eq_map, List.all_cons, List.all_map]
    show (f x y && _) = (f x y && eqGs f xs ys)
    rw [<- Z4v (f := f) (d := d) (xs := xs) (ys := ys) (by simpa using h)]
    rfl
theorem Z8f {α : Type} {f : α -> α -> Bool} {d : α} {xs ys : List α} : ((List.range (min xs.length ys.length)).all (fun j => f (xs.getD j d) (ys.getD j d)) && xs.length == ys.length) = eqGs f xs ys := by
  by_cases h : xs.length = ys.length
  . rw [<- h, Nat.min_self, Z4v h]
    simp
  . rw [Z76 h]
    simp [h]
def eqP (x y : V × Option (List V)) : Bool := eqIt x.1 y.1 x.2 y.2
def rEqT (K : PySem.W.Frag) (t : Bool -> Bool) : R2 := fun v u H Q => ∃ (a b : Addr) (xs ys : List (V × Option (List V))), v = .ref a /\ u = .ref b /\ SqT K H a (xs.map (·.1)) /\ SqT K H b (ys.map (·.1)) /\ (∀ x ∈ xs, ItV K H x.1 x.2) /\ (∀ y ∈ ys, ItV K H y.1 y.2) /\ Q (.bl (t (eqGs eqP xs ys))) H
section
variable {X : Cx}
theorem Zbi {A : Around} {pins : List (Addr × Obj)} {σ : L2.St} {H : Hp} {s : Shared} (hu : A.units < cLine) (I : Inv X pins σ H s) {xs ys : List (V × Option (List V))} {us ws : List Value} (r : Vals (xs.map (·.1)) us) (q : Vals (ys.map (·.1)) ws)
    (hx : ∀ x ∈ xs, ItV X.K H x.1 x.2) (hy : ∀ y ∈ ys, ItV X.K H y.1 y.2) (j : Nat) (h1 : j < us.toArray.size) (h2 : j < ws.toArray.size) : SeqAt.EqAt A s us.toArray[j] ws.toArray[j] (eqP (xs.getD j (.non, none)) (ys.getD j (.non, none))) := by
  have k1 : j < xs.length := by have := r.length; rw [List.length_map] at this; rw [this]; simpa using h1
  have k2 : j < ys.length := by have := q.length; rw [List.length_map] at this; rw [this]; simpa using h2
  obtain ⟨u, e1, ru⟩ := r.get (show (xs.map (·.1))[j]? = some xs[j].1 by simp [k1])
  obtain ⟨w, e2, rw'⟩ := q.get (show (ys.map (·.1))[j]? = some ys[j].1 by simp [k2])
  have h1' : j < us.length := by simpa using h1
  have h2' : j < ws.length := by simpa using h2
  have e1 : us[j] = u := by rw [List.getElem?_eq_getElem h1'] at e1; exact Option.some.inj e1
  have e2 : ws[j] = w := by rw [List.getElem?_eq_getElem h2'] at e2; exact Option.some.inj e2
  have d1 : xs.getD j (.non, none) = xs[j] := by simp [List.getD, k1]
  have d2 : ys.getD j (.non, none) = ys[j] := by simp [List.getD, k2]
  rw [d1, d2, List.getElem_toArray, List.getElem_toArray, e1, e2]
  exact Zg7 hu I ru rw' (hx _ (List.getElem_mem k1)) (hy _ (List.getElem_mem k2))
theorem op_eqT (hu : X.A.units + 1 < cLine) : OpR X (compareOp .Eq) (rEqT X.K id) := by
  intro pins s σ H x y v u Q I rx ry h
  obtain ⟨a, b, xs, ys, rfl, rfl, h1, h2, hx, hy, q⟩ := h
  cases rx
  cases ry
  obtain ⟨its, r1, p1, z1⟩ := I.tuple h1
  obtain ⟨its2, r2, p2, z2⟩ := I.tuple h2
  refine SeqAt.eq_tupleAt (show s.heap.IsTuple a its.toArray from p1) (show s.heap.IsTuple b its2.toArray from p2) (Nat.lt_of_succ_lt hu) (Zbi hu I r1 r2 hx hy) ?_
  have e1 := r1.length
  have e2 := r2.length
  rw [List.length_map] at e1 e2
  rw [List.size_toArray, List.size_toArray, <- e1, <- e2, Z8f]
  exact ⟨.bl _, H, I, rfl, q⟩
theorem op_neT (hu : X.A.units + 1 < cLine) : OpR X (compareOp .NotEq) (rEqT X.K not) := by
  intro pins s σ H x y v u Q I rx ry h
  obtain ⟨a, b, xs, ys, rfl, rfl, h1, h2, hx, hy, q⟩ := h
  cases rx
  cases ry
  obtain ⟨its, r1, p1, z1⟩ := I.tuple h1
  obtain ⟨its2, r2, p2, z2⟩ := I.tuple h2
  refine SeqAt.RcNeAt.tuples (show s.heap.IsTuple a its.toArray from p1) (show s.heap.IsTuple b its2.toArray from p2) (Nat.lt_of_succ_lt hu) (Zbi hu I r1 r2 hx hy) _ _ _ _ ?_
  have e1 := r1.length
  have e2 := r2.length
  rw [List.length_map] at e1 e2
  rw [List.size_toArray, List.size_toArray, <- e1, <- e2, Z8f]
  exact ⟨.bl _, H, I, rfl, q⟩
theorem Z3g {mg : MG} {S H : Hp} (hs : Sub S H) (K : PySem.W.Frag) : ∀ {ys : List PV} {vs : List V}, Reps mg S ys vs -> ys.all Z2i = true -> ∃ xs : List (V × Option (List V)), xs.map (·.1) = vs /\ (∀ x ∈ xs, ItV K H x.1 x.2) /\
    Paired (fun (y : PV) (x : V × Option (List V)) => (x.2 = none /\ y.flat = true /\ Rep mg S y x.1) \/ ∃ zs vs, y = .lst zs /\ x.2 = some vs /\ Reps mg S zs vs /\ zs.all PV.flat = true) ys xs
  | [], _, r, _ => by cases (show _ = [] from r); exact ⟨[], rfl, (fun x m => by cases m), .nil⟩
  | y :: ys, _, ⟨v, r, e, h, t⟩, f => by
    rw [List.all_cons, Bool.and_eq_true] at f
    obtain ⟨xs, e1, e2, e3⟩ := Z3g hs K t f.2
    by_cases hl : ∃ zs, y = .lst zs
    . obtain ⟨zs, rfl⟩ := hl
      obtain ⟨a, us, rfl, q, rs⟩ := h
      refine ⟨(.ref a, some us) :: xs, by rw [e, List.map_cons, e1], fun x m => ?_, .cons (.inr ⟨zs, us, rfl, rfl, rs, f.1⟩) e3⟩
      rcases List.mem_cons.mp m with rfl | m
      . exact ⟨a, rfl, .inl (Rd.mono hs q), Z17 rs f.1⟩
      . exact e2 x m
    . have fy : y.flat = true := by cases y <;> first | exact f.1 | exact (hl ⟨_, rfl⟩).elim
      refine ⟨(v, none) :: xs, by rw [e, List.map_cons, e1], fun x m => ?_, .cons (.inl ⟨rfl, fy, h⟩) e3⟩
      rcases List.mem_cons.mp m with rfl | m
      . exact Z53 h fy
      . exact e2 x m
theorem eqd_lf {y : PV} {zs : List PV} (h : y.flat = true) : eqd y (.lst zs) = false := by cases y <;> first | rfl | cases h
theorem eqd_fl {y : PV} {zs : List PV} (h : y.flat = true) : eqd (.lst zs) y = false := by cases y <;> first | rfl | cases h
theorem Z8g {mg : MG} {S : Hp} : ∀ {ys zs : List PV} {xs ws : List (V × Option (List V))},
    Paired (fun (y : PV) (x : V × Option (List V)) => (x.2 = none /\ y.flat = true /\ Rep mg S y x.1) \/ ∃ zs vs, y = .lst zs /\ x.2 = some vs /\ Reps mg S zs vs /\ zs.all PV.flat = true) ys xs ->
    Paired (fun (y : PV) (x : V × Option (List V)) => (x.2 = none /\ y.flat = true /\ Rep mg S y x.1) \/ ∃ zs vs, y = .lst zs /\ x.2 = some vs /\ Reps mg S zs vs /\ zs.all PV.flat = true) zs ws -> eqGs eqP xs ws = eqds ys zs
  | _, _, _, _, .nil, .nil => rfl
  | _, _, _, _, .nil, .cons _ _ => rfl
  | _, _, _, _, .cons _ _, .nil => rfl
  | y :: ys, z :: zs, (xv, xo) :: xs, (wv, wo) :: ws, .cons h t, .cons h' t' => by
    show (eqIt xv wv xo wo && eqGs eqP xs ws) = (eqd y z && eqds ys zs)
    rw [Z8g t t']
    congr 1
    rcases h with ⟨rfl, f, r⟩ | ⟨l1, v1, rfl, rfl, r, f⟩
    . rcases h' with ⟨rfl, f', r'⟩ | ⟨l2, v2, rfl, rfl, r', f'⟩
      . exact Zar r r' f f'
      . exact (eqd_lf f).symm
    . rcases h' with ⟨rfl, f', r'⟩ | ⟨l2, v2, rfl, rfl, r', f'⟩
      . exact (eqd_fl f').symm
      . exact Z3c r r' f f'
theorem Zau (hu : X.A.units + 1 < cLine) : OpB X (compareOp .Eq) .s oEq2 := fun W => by
  obtain ⟨r0, h0, g0⟩ := o_eq (X := X) hu W
  refine ⟨_, h0.or (op_eqT (X := XB X W) hu), fun x y v u S H hs rx ry => ?_⟩
  by_cases ht : ∃ xs ys, x = .tup xs /\ y = .tup ys
  . obtain ⟨xs, ys, rfl, rfl⟩ := ht
    refine OkR.when fun h Q g => .inr ?_
    rw [Bool.and_eq_true] at h
    obtain ⟨a, vs, rfl, q1, r1⟩ := rx
    obtain ⟨b, us, rfl, q2, r2⟩ := ry
    obtain ⟨ps, e1, e2, e3⟩ := Z3g hs X.K r1 h.1
    obtain ⟨qs, e4, e5, e6⟩ := Z3g hs X.K r2 h.2
    refine ⟨a, b, ps, qs, rfl, rfl, by rw [e1]; exact SqT.of (hs _ _ q1), by rw [e4]; exact SqT.of (hs _ _ q2), e2, e5, ?_⟩
    rw [Z8g e3 e6]
    exact g.sh (Ext.refl hs) rfl
  . have e : oEq2 x y = oEq x y := by
      cases x <;> cases y <;> first | rfl | exact (ht ⟨_, _, rfl, rfl⟩).elim
    rw [e]
    have z := g0 x y v u S H hs rx ry
    cases hz : oEq x y with
    | no => exact True.intro
    | err c => rw [hz] at z; exact z
    | ok w => rw [hz] at z; exact fun Q g => .inl (z Q g)
theorem o_ne2 (hu : X.A.units + 1 < cLine) : OpB X (compareOp .NotEq) .s oNe2 := fun W => by
  obtain ⟨r0, h0, g0⟩ := o_ne (X := X) hu W
  refine ⟨_, h0.or (op_neT (X := XB X W) hu), fun x y v u S H hs rx ry => ?_⟩
  by_cases ht : ∃ xs ys, x = .tup xs /\ y = .tup ys
  . obtain ⟨xs, ys, rfl, rfl⟩ := ht
    refine OkR.when fun h Q g => .inr ?_
    rw [Bool.and_eq_true] at h
    obtain ⟨a, vs, rfl, q1, r1⟩ := rx
    obtain ⟨b, us, rfl, q2, r2⟩ := ry
    obtain ⟨ps, e1, e2, e3⟩ := Z3g hs X.K r1 h.1
    obtain ⟨qs, e4, e5, e6⟩ := Z3g hs X.K r2 h.2
    refine ⟨a, b, ps, qs, rfl, rfl, by rw [e1]; exact SqT.of (hs _ _ q1), by rw [e4]; exact SqT.of (hs _ _ q2), e2, e5, ?_⟩
    rw [Z8g e3 e6]
    exact g.sh (Ext.refl hs) rfl
  . have e : oNe2 x y = oNe x y := by
      cases x <;> cases y <;> first | rfl | exact (ht ⟨_, _, rfl, rfl⟩).elim
    rw [e]
    have z := g0 x y v u S H hs rx ry
    cases hz : oNe x y with
    | no => exact True.intro
    | err c => rw [hz] at z; exact z
    | ok w => rw [hz] at z; exact fun Q g => .inl (z Q g)
theorem Zb5 (x y z : PV) (h : oEq2 x y = .ok z) : ∃ k, z = .bl k := by
  have w : ∀ {b : Bool} {k : Bool}, when b (.ok (.bl k)) = .ok z -> ∃ k, z = .bl k := fun {b k} e => by
    cases b with
    | true => cases e; exact ⟨_, rfl⟩
    | false => cases e
  by_cases ht : ∃ xs ys, x = .tup xs /\ y = .tup ys
  . obtain ⟨xs, ys, rfl, rfl⟩ := ht
    exact w h
  . have e : oEq2 x y = oEq x y := by
      cases x <;> cases y <;> first | rfl | exact (ht ⟨_, _, rfl, rfl⟩).elim
    rw [e] at h
    exact Zx x y z h
theorem Zcg (x y z : PV) (h : oNe2 x y = .ok z) : ∃ k, z = .bl k := by
  have w : ∀ {b : Bool} {k : Bool}, when b (.ok (.bl k)) = .ok z -> ∃ k, z = .bl k := fun {b k} e => by
    cases b with
    | true => cases e; exact ⟨_, rfl⟩
    | false => cases e
  by_cases ht : ∃ xs ys, x = .tup xs /\ y = .tup ys
  . obtain ⟨xs, ys, rfl, rfl⟩ := ht
    exact w h
  . have e : oNe2 x y = oNe x y := by
      cases x <;> cases y <;> first | rfl | exact (ht ⟨_, _, rfl, rfl⟩).elim
    rw [e] at h
    exact Z6y x y z h
theorem Zcz : Z11 X (.type "int") (fun xs H Q => ∃ x n, xs = [.str x] /\ intText? x = some n /\ x.length <= 640 /\ Q (.int n) H) := by
  intro pins s σ H xs us Q I r h
  obtain ⟨x, n, rfl, hn, hl, q⟩ := h
  obtain ⟨u, rfl, ru⟩ := Z1j r
  obtain ⟨t, rfl⟩ := (show ∃ t, u = Value.str x t from ru)
  exact PySem.W.KIN.call_text hn hl ⟨.int n, H, I.tok _, ⟨_, rfl⟩, q⟩
theorem k_int2 : Z2a X (.type "int") .s Z59 := fun W => by
  obtain ⟨r0, h0, g0⟩ := k_int (X := X) W
  refine ⟨_, h0.or (Zcz (X := XB X W)), fun ys vs S H hs r => ?_⟩
  by_cases ht : ∃ x, ys = [.str x]
  . obtain ⟨x, rfl⟩ := ht
    obtain ⟨v, _, rfl, rv, rfl⟩ := r
    refine OkR.when fun h => OkR.opt fun z hz Q g => .inr ?_
    cases (show v = .str x from rv)
    obtain ⟨n, e1, rfl⟩ := Option.map_eq_some_iff.mp hz
    exact ⟨x, n, rfl, e1, of_decide_eq_true h, g.sh (Ext.refl hs) rfl⟩
  . have e : Z59 ys = cInt ys := by
      match ys with
      | [] => rfl
      | y :: _ :: _ => cases y <;> rfl
      | [.str x] => exact (ht ⟨x, rfl⟩).elim
      | [.non] => rfl
      | [.bl _] => rfl
      | [.int _] => rfl
      | [.tup _] => rfl
      | [.lst _] => rfl
      | [.dct _] => rfl
      | [.ins _ _] => rfl
      | [.exc _] => rfl
    rw [e]
    have z := g0 ys vs S H hs r
    cases hz : cInt ys with
    | no => exact True.intro
    | err c => rw [hz] at z; exact z
    | ok w => rw [hz] at z; exact fun Q g => .inl (z Q g)
end
end B
namespace B
open PySem PySem.Spec PyProof.Rows L2
section
variable {K : PySem.W.Frag} {mg : MG}
theorem Zp {α : Type} {P : α -> Prop} : ∀ p ∈ ([] : List α), P p := fun p h => by cases h
theorem Z6 {α : Type} {P : α -> Prop} {a : α} {l : List α} (h : P a) (t : ∀ p ∈ l, P p) : ∀ p ∈ a :: l, P p := fun p m => by
  rcases List.mem_cons.mp m with rfl | m
  . exact h
  . exact t p m
theorem fa_app {α : Type} {P : α -> Prop} {l k : List α} (h : ∀ p ∈ l, P p) (t : ∀ p ∈ k, P p) : ∀ p ∈ l ++ k, P p := fun p m => by
  rcases List.mem_append.mp m with m | m
  . exact h p m
  . exact t p m
abbrev Zax (mg : MG) (l : List (Str × Addr)) : Prop := ∀ p ∈ l, mg p.1 = some (.ref p.2)
theorem Z1i {P : Addr -> Prop} {l : List (Str × Addr)} (ms : Zax mg l) (h : ∀ p ∈ l, P p.2) : ∀ c ∈ l.map (·.1), ∀ C, mg c = some (.ref C) -> P C := fun c hc C hC => by
  obtain ⟨p, hp, rfl⟩ := List.mem_map.mp hc
  have e := ms p hp
  rw [hC] at e
  cases e
  exact h p hp
def Z2y (K : PySem.W.Frag) (C : Addr) : Bool := PySem.W.plainGet K C Str.empty && PySem.W.hasDictIn K C && PySem.W.plainOver K C && (PySem.W.findIn K (.ref C) "__setattr__" == some (some (.builtin "object.__setattr__"))) &&
  (PySem.W.findIn K (.ref C) "__class__" == some (some (.builtin "object.__class__"))) && (PySem.W.specialIn K (.builtin "object.__class__") "__get__" == some (some (.builtin "getset_descriptor.__get__"))) && (PySem.W.takesIn K (.builtin "object.__class__") == some true) &&
  (PySem.W.mroIn K C (.type "object") == some true)
theorem OwnC.of {C : Addr} (h : Z2y K C = true) : OwnC K C := by
  unfold Z2y at h
  simp only [Bool.and_eq_true, beq_iff_eq] at h
  obtain ⟨⟨⟨⟨⟨⟨⟨h1, h2⟩, h3⟩, h4⟩, h5⟩, h6⟩, h7⟩, h8⟩ := h
  exact ⟨⟨h1, h2, h3, h4⟩, h5, h6, h7, h8⟩
def Z6w (K : PySem.W.Frag) (C : Addr) : Bool := (PySem.W.findIn K (.ref C) "__getattribute__" == some (some (.builtin "BaseException.__getattribute__"))) && (PySem.W.findIn K (.ref C) "__getattr__" == some none) &&
  (PySem.W.findIn K (.ref C) "__class__" == some (some (.builtin "object.__class__"))) && (PySem.W.specialIn K (.builtin "object.__class__") "__get__" == some (some (.builtin "getset_descriptor.__get__"))) && (PySem.W.takesIn K (.builtin "object.__class__") == some true) &&
  (PySem.W.mroIn K C (.type "object") == some true) && (PySem.W.mroIn K C (.type "BaseException") == some true) && (PySem.W.clsIn K C).isSome
theorem ErrC.of {C : Addr} (h : Z6w K C = true) : ErrC K C := by
  unfold Z6w at h
  simp only [Bool.and_eq_true, beq_iff_eq] at h
  obtain ⟨⟨⟨⟨⟨⟨⟨h1, h2⟩, h3⟩, h4⟩, h5⟩, h6⟩, h7⟩, h8⟩ := h
  exact ⟨h1, h2, h3, h4, h5, h6, h7, h8⟩
theorem ExcC.of {C : Addr} (h : PySem.W.excIn K C [.type "ValueError", .type "Exception", .type "BaseException", .type "object"] "ValueError.__new__" = true) : ExcC K C := ⟨_, _, _, _, PySem.F.excBase_ValueError, h⟩
def mkb (K : PySem.W.Frag) (C f : Addr) : Bool := PySem.W.makesIn K C && (PySem.W.findIn K (.ref C) "__init__" == some (some (.ref f))) && PySem.W.isFn K (.ref f) && PySem.W.keepIn K (.ref C)
theorem Z5b {C f : Addr} (h : mkb K C f = true) : Mk K C f := by
  unfold mkb at h
  simp only [Bool.and_eq_true, beq_iff_eq] at h
  obtain ⟨⟨⟨h1, h2⟩, h3⟩, h4⟩ := h
  exact ⟨h1, h2, h3, h4⟩
def mk0b (K : PySem.W.Frag) (C : Addr) : Bool := PySem.W.makesIn K C && (PySem.W.findIn K (.ref C) "__init__" == some (some (.builtin "object.__init__"))) && PySem.W.keepIn K (.ref C)
theorem mk0_of {C : Addr} (h : mk0b K C = true) : Mk0 K C := by
  unfold mk0b at h
  simp only [Bool.and_eq_true, beq_iff_eq] at h
  obtain ⟨⟨h1, h2⟩, h3⟩ := h
  exact ⟨h1, h2, h3⟩
def noab (K : PySem.W.Frag) (C : Addr) (fs : List Str) : Bool := fs.all fun f => PySem.W.findIn K (.ref C) f == some none
theorem Z2l {C : Addr} {fs : List Str} (h : noab K C fs = true) : ∀ f ∈ fs, Zk K C f := fun f m => beq_iff_eq.mp (List.all_eq_true.mp h f m)
def Z2z (K : PySem.W.Frag) (C : Addr) (m : Str) (f : Addr) : Bool := (PySem.W.findIn K (.ref C) m == some (some (.ref f))) && PySem.W.isFn K (.ref f) && PySem.W.keepIn K (.ref f)
theorem Z2k {C f : Addr} {m : Str} (h : Z2z K C m f = true) : Meth K C m f := by
  unfold Z2z at h
  simp only [Bool.and_eq_true, beq_iff_eq] at h
  obtain ⟨⟨h1, h2⟩, h3⟩ := h
  exact ⟨h1, h2, h3⟩
def isFb (ans : Value -> Option Bool) (pl : Kd -> Bool) (under : List Str) (l : List (Str × Addr)) : Bool :=
  ([Kd.non, .bl, .int, .str, .tup, .lst, .dct].all fun t => ans (.type (kT t)) == some (pl t)) && l.all fun p => ans (.ref p.2) == some (decide (p.1 ∈ under))
theorem Z1q {ans : Value -> Option Bool} {pl : Kd -> Bool} {under : List Str} {kn ke : List (Str × Addr)} (h : isFb ans pl under (kn ++ ke) = true) (ms : Zax mg (kn ++ ke)) : IsF mg (kn.map (·.1)) (ke.map (·.1)) under pl ans := by
  unfold isFb at h
  rw [Bool.and_eq_true] at h
  have ow : ∀ p ∈ kn ++ ke, ∀ C, mg p.1 = some (.ref C) -> ans (.ref C) = some (decide (p.1 ∈ under)) := fun p hp C hC => by
    have e := ms p hp
    rw [hC] at e
    cases e
    exact beq_iff_eq.mp (List.all_eq_true.mp h.2 p hp)
  refine ⟨fun t ht => beq_iff_eq.mp (List.all_eq_true.mp h.1 t ht), fun c hc C hC => ?_, fun c hc C hC => ?_⟩
  . obtain ⟨p, hp, rfl⟩ := List.mem_map.mp hc
    exact ow p (List.mem_append_left _ hp) C hC
  . obtain ⟨p, hp, rfl⟩ := List.mem_map.mp hc
    exact ow p (List.mem_append_right _ hp) C hC
theorem Ze5 {X : Cx} {k n : Nat} {m : Str} : Mths X k n m [] := fun c g h => by cases h
theorem Z1w {X : Cx} {k n : Nat} {m c0 : Str} {C0 f : Addr} {fd : FuncData} {ps : List Str} {g0 : List PV -> R PV} {tb : List (Str × (List PV -> R PV))} (hC : Cls X.K C0) (hm : X.mg c0 = some (.ref C0)) (hM : Meth X.K C0 m f) (F : FnB X.prog X.w X.K X.mg X.base k f fd ps .s g0) (hb : Zf X.K fd ps [])
    (hp : ps.length = n + 1) (t : Mths X k n m tb) : Mths X k n m ((c0, g0) :: tb) := fun c g h C hc => by
  rw [List.lookup_cons] at h
  cases e : c == c0 with
  | true =>
    rw [e] at h
    cases h
    have e := eq_of_beq e
    subst e
    rw [hm] at hc
    cases hc
    exact ⟨hC, f, fd, ps, hM, F, hb, hp⟩
  | false => rw [e] at h; exact t c g h C hc
end
theorem k_min2 {X : Cx} (hc : X.calm = true) : Z2a X (.builtin "min") .s Z46 := fun W => by
  refine ⟨_, Zc4 (X := XB X W) hc, fun ys vs S H hs r => ?_⟩
  by_cases ht : ∃ i j, ys = [.int i, .int j]
  . obtain ⟨i, j, rfl⟩ := ht
    obtain ⟨v, _, rfl, rv, v2, _, rfl, rv2, rfl⟩ := r
    intro Q g
    rw [show v = .int i from rv, show v2 = .int j from rv2]
    exact ⟨i, j, rfl, g.sh (Ext.refl hs) rfl⟩
  . have e : Z46 ys = .no := by
      unfold Z46
      split
      . exact (ht ⟨_, _, rfl⟩).elim
      . rfl
    rw [e]; exact True.intro
theorem k_max2 {X : Cx} (hc : X.calm = true) : Z2a X (.builtin "max") .s Z5a := fun W => by
  refine ⟨_, Zba (X := XB X W) hc, fun ys vs S H hs r => ?_⟩
  by_cases ht : ∃ i j, ys = [.int i, .int j]
  . obtain ⟨i, j, rfl⟩ := ht
    obtain ⟨v, _, rfl, rv, v2, _, rfl, rv2, rfl⟩ := r
    intro Q g
    rw [show v = .int i from rv, show v2 = .int j from rv2]
    exact ⟨i, j, rfl, g.sh (Ext.refl hs) rfl⟩
  . have e : Z5a ys = .no := by
      unfold Z5a
      split
      . exact (ht ⟨_, _, rfl⟩).elim
      . rfl
    rw [e]; exact True.intro
theorem Ze3 : bootBuiltins "min" = some (.builtin "min") := by decide +kernel
theorem Zdp : bootBuiltins "max" = some (.builtin "max") := by decide +kernel
theorem Z3r : bootBuiltins "str" = some (.type "str") := by decide +kernel
theorem Ze2 : bootBuiltins "int" = some (.type "int") := by decide +kernel
theorem Z5w : bootBuiltins "list" = some (.type "list") := by decide +kernel
end B
namespace B
open PySem PySem.Spec PyProof.Rows L2
section
variable {X : Cx} {w : Way} {Γ : List Own} {b e k : Expr} {fb fe fk : Ev} {i : Nat} {x : Str} {p pos : Pos}
end
end B
namespace B
open PySem PySem.Spec PyProof.Rows L2
section
variable {X : Cx} {Γ : List Own} {a : Expr} {fa : Ev} {pos p2 : Pos} {j : Nat}
end
end B
namespace B
open PySem PySem.Spec PyProof.Rows L2
theorem Z7z (g : Nat -> Str) : ∀ i, (met g i).length <= i
  | 0 => Nat.le_refl 0
  | i + 1 => by
    have := Z7z g i
    unfold met
    split
    . omega
    . rw [List.length_append, List.length_singleton]; omega
theorem Zfy (g : Nat -> Str) (i : Nat) (q : Str) : decide (q ∈ met g (i + 1)) = (decide (q ∈ met g i) || decide (q = g i)) := by
  rw [met]
  by_cases h : g i ∈ met g i
  . rw [if_pos h]
    by_cases e : q = g i
    . subst e; simp [h]
    . simp [e]
  . rw [if_neg h]; simp [List.mem_append]
theorem Zfx (g : Nat -> Str) (i : Nat) : (met g (i + 1)).length = if decide (g i ∈ met g i) = true then (met g i).length else (met g i).length + 1 := by
  rw [met]
  by_cases h : g i ∈ met g i
  . rw [if_pos h, if_pos (decide_eq_true h)]
  . rw [if_neg h, if_neg (by simpa using h)]; simp
abbrev Z25 (P : Program) (w : World) (h : Heap) (Z : Addr) (l : List Str) : Prop := h.SetOf (PySem.strKind P w) Z (fun q => decide (q ∈ l)) l.length
theorem Z25.at {P : Program} {w : World} {h h' : Heap} {Z : Addr} {l : List Str} (x : Z25 P w h Z l) (e : ∀ o, h.get? Z = some o -> h'.get? Z = some o) : Z25 P w h' Z l := by
  obtain ⟨o, es, ep, t, ho, r⟩ := x
  exact ⟨o, es, ep, t, e o ho, r⟩
section
variable {P : Program} {w : World} {A : Around} {R : Result -> Shared -> Prop} {I Z : Addr} {fp wr : List Addr} {G : Array GenState -> Array GenState -> Prop} {n : Nat} {T : Nat -> Value -> Prop} {St : Nat -> Shared -> Prop} {g : Nat -> Str}
theorem Zeh (W : WalksS P w A.in1 I fp wr G n T St) (hz : Z ∉ fp) (hv : ∀ i v, T i v -> ∃ t, v = .str (g i) t) (hb : n + 1 < scanBound) (m : Nat) :
    ∀ (i : Nat) (s : Shared), m = n - i -> i <= n -> St i s -> Z25 P w s.heap Z (met g i) -> (∀ s', Moved (Z :: wr) G s s' -> Z25 P w s'.heap Z (met g n) -> R (.ok (.ret .none)) s') ->
      codeAny (model P w) A (.builtin "set.update.loop" ⟨[.ref Z, .ref I], []⟩) R s := by
  have zw : Z ∉ wr := fun q => hz (W.sub Z q)
  have up : ∀ b ∈ wr, b ∈ Z :: wr := fun b q => .tail _ q
  induction m with
  | zero =>
    intro i s e hi st x k
    cases (show i = n by omega)
    apply codeAny_builtin PyProof.Rows.F.entry_set_update_loop
    rw [Around.under_plainId PyProof.Rows.F.plain_set_update_loop]
    apply wpAny_bind (m := pyNext (.ref I))
    exact W.done s _ _ st fun s' mv => wpAny_pure (k s' (mv.mono up) (x.at fun o => mv.heap Z o zw))
  | succ m ih =>
    intro i s e hi st x k
    have lt : i < n := by omega
    apply codeAny_builtin PyProof.Rows.F.entry_set_update_loop
    rw [Around.under_plainId PyProof.Rows.F.plain_set_update_loop]
    apply wpAny_bind (m := pyNext (.ref I))
    refine W.item i s _ _ lt st fun v s1 hT st1 mv => ?_
    obtain ⟨t, e1⟩ := hv i v hT
    cases e1
    have x1 : Z25 P w s1.heap Z (met g i) := x.at fun o => mv.heap Z o zw
    have hk : (PySem.strKind P w).is (g i) (.str (g i) t) = true := strKind_is _ _ _ _
    apply wpAny_bind (m := holding _ (setAdd Z _))
    apply wpAny_holding
    unfold setAdd
    apply wpAny_holding
    apply wpAny_bind
    apply (PySem.strKind P w).pyHash hk
    have room : (met g i).length + 1 < scanBound := by have := Z7z g i; omega
    apply wpAny_setAddHashed_of (s := { s1 with toks := s1.toks + 1 }) (knd := PySem.strKind P w) hk rfl x1 room
    intro h2 sb x2
    have x3 : Z25 P w h2 Z (met g (i + 1)) := SetOf_congr x2 (fun q => (Zfy g i q).symm) (Zfx g i).symm
    refine wpAny_pure ⟨plainId_quiet PyProof.Rows.F.plain_set_update_loop _, ih (i + 1) _ (by omega) lt (W.frame _ s1 _ _ st1 (Nat.le_succ _) fun b q o z => ?_) x3 fun s2 mv2 x4 => k s2 (Moved.trans W.gtrans ((mv.mono up).then_heap (Nat.le_succ _) fun b o q z => ?_) mv2) x4⟩
    . rw [sb.2 b fun y => hz (y ▸ q)]; exact z
    . rw [sb.2 b fun y => q (y ▸ List.mem_cons_self)]; exact z
end
section
variable {P : Program} {w : World} {A : Around} {E : Value -> Shared -> Prop} {s : Shared}
abbrev Z1x (led : Bool) : Obj := { cls := .type "set", dict := none, data := .set #[] 0 (.fresh 0 0 led) }
set_option maxHeartbeats 3200000 in
theorem Z6l {l : Addr} {its : Array Value} {g : Nat -> Str} {Q : Value -> Shared -> Prop} (hd : A.handled = none) (hl : s.heap.IsList l its) (hg : ∀ (i : Nat) (v : Value), its[i]? = some v -> ∃ t, v = Value.str (g i) t) (hb : its.size + 1 < scanBound)
    (h : ∀ (h' : Heap) (tk : Nat), Z25 P w h' s.heap.objs.size (met g its.size) -> (∀ b o, s.heap.get? b = some o -> h'.get? b = some o) -> Q (.ref s.heap.objs.size) { s with heap := h', toks := tk }) :
    wpAny (model P w) A (call (.type "set") [.ref l]) Q E s := by
  obtain ⟨cC, cT, hmro⟩ := PySem.F.called_set.mro
  have q1 := PySem.F.called_set.made
  have q2 := PySem.F.called_set.sub
  have q3 := PySem.F.called_set.notType
  have q4 := PySem.F.called_set.canCreate
  have q5 := PySem.F.typeCall_set_1 (.ref l)
  apply wpAny_call
  apply codeAny_of_tree
  show wpAny _ _ (callAny (.type "set") _) _ _ s
  apply wpAny_pure
  refine ⟨Code.quiet_builtin _ (by decide +kernel), codeAny_builtin PySem.F.entry_type_call ?_⟩
  rw [Around.under_plain (weight_type_call_type "set" [.ref l] []) rfl]
  repeat (any_goals (first | assumption | wp_step))
  refine codeAny_mono (code_set_new_1 (.ref l) (E := E) (Q₁ := fun ob s1 => ∃ led, ob = .ref s.heap.objs.size /\ s1 = { s with heap := s.heap.push (Z1x led) }) fun led => ⟨led, rfl, rfl⟩) fun r s1 hr => ?_
  match r, hr with
  | .error e, hr => exact hr
  | .ok .next, hr => exact hr.elim
  | .ok .brk, hr => exact hr.elim
  | .ok .cont, hr => exact hr.elim
  | .ok (.ret _), ⟨led, e1, e2⟩ =>
    subst e1 e2
    have z0 : (s.heap.push (Z1x led)).get? s.heap.objs.size = some (Z1x led) := Heap.get?_push_size _ rfl
    have hT : Shared.TypeIs { s with heap := s.heap.push (Z1x led) } (.ref s.heap.objs.size) "set" := ⟨_, z0, rfl⟩
    have q6 := PySem.F.called_set.init.lookup
    have q7 := PySem.F.called_set.init.bind (.ref s.heap.objs.size)
    repeat (any_goals (first | assumption | wp_step))
    refine codeAny_mono (codeAny_call_builtin (R := wants (fun u s2 => u = .none /\ ∃ h' tk, s2 = { s with heap := h', toks := tk } /\ Z25 P w h' s.heap.objs.size (met g its.size) /\ ∀ b o, s.heap.get? b = some o -> h'.get? b = some o) E) PySem.F.called_set.init.plain PySem.F.entry_set_init (check_set_init_1 hT ?_)) fun u s2 hu => ?_
    . obtain ⟨ol, ho, hc, nl, hdl⟩ := hl
      obtain ⟨ocl, odi, oda, osl⟩ := ol
      dsimp only at hc hdl
      subst hc hdl
      have ho' : (s.heap.push (Z1x led)).get? l = some { cls := .type "list", dict := odi, data := .seq its nl, slots := osl } := Heap.get?_push_of_some _ ho
      have q8 := PySem.F.sub_list_set
      have q9 := PySem.F.sub_list_frozenset
      have qa : (Value.type "list" == Value.type "dict") = false := by decide
      have hl1 : (s.heap.push (Z1x led)).IsList l its := ⟨_, ho', rfl, nl, rfl⟩
      unfold Builtin.«set.__init__» noKeywords Builtin.Frozenset.updateFrom
      generalize hp : pyIter = it
      wp_walk
      subst hp
      apply wpAny_pyIter_list hl1
      apply wpAny_bind
      apply wpAny_runValue
      have lt : l < s.heap.objs.size := Heap.lt_size ho
      have n1 : l ≠ (s.heap.push (Z1x led)).objs.size := by rw [Heap.size_push]; exact Nat.ne_of_lt (Nat.lt_trans lt (Nat.lt_succ_self _))
      have n2 : s.heap.objs.size ∉ [(s.heap.push (Z1x led)).objs.size, l] := by
        rw [Heap.size_push]
        intro m
        rcases List.mem_cons.mp m with e | m
        . exact Nat.ne_of_lt (Nat.lt_succ_self _) e
        . exact Nat.ne_of_gt lt (List.mem_singleton.mp m)
      refine Zeh ((Walks.list (A := A.in1.in1.in1) (by simp [hd]) _ l n1 its).toS) n2 hg hb its.size 0 _ rfl (Nat.zero_le _) ⟨⟨_, Heap.get?_push_size _ rfl, rfl, rfl⟩, hl1.push _⟩ ?_ fun s3 mv x3 => ?_
      . exact SetOf_congr ((PyProof.Rows.setObjOf_fresh (knd := PySem.strKind P w) led).setOf (Heap.get?_push_of_some _ z0) (by unfold scanBound; omega)) (fun _ => rfl) rfl
      . obtain ⟨h3, g3, d3, t3, o3⟩ := s3
        cases (show g3 = s.gens from mv.gens)
        cases (show d3 = s.drawn from mv.drawn)
        cases (show o3 = s.os from mv.os)
        apply wpAny_pure
        show wpAny _ _ (ret Value.none) _ _ _
        refine wpAny_pure ⟨rfl, h3, t3, rfl, x3, fun b o e => mv.heap b o ?_ (Heap.get?_push_of_some _ (Heap.get?_push_of_some _ e))⟩
        have lb := Heap.lt_size e
        rw [Heap.size_push]
        intro m
        rcases List.mem_cons.mp m with z | m
        . exact Nat.ne_of_lt lb z
        . exact Nat.ne_of_lt (Nat.lt_trans lb (Nat.lt_succ_self _)) (List.mem_singleton.mp m)
    . match u, hu with
      | .error e, hu => exact hu
      | .ok .next, hu => exact hu.elim
      | .ok .brk, hu => exact hu.elim
      | .ok .cont, hu => exact hu.elim
      | .ok (.ret _), ⟨e1, h', tk, e2, x4, kp⟩ =>
        subst e1 e2
        repeat (any_goals (first | assumption | wp_step))
        exact h _ _ x4 kp
end
end B
namespace B
open PySem PySem.Spec PyProof.Rows L2
def setO (P : Program) (w : World) (a : Addr) (l : List Str) : Heap -> Prop := fun h => Z25 P w h a l
def rSet (X : Cx) : List V -> Hp -> VK -> Prop := fun xs H Q => ∃ (a : Addr) (ts : List Str), xs = [V.ref a] /\ SqL X.K H a (ts.map V.str) /\ ts.length < 4000 /\ ∀ l, H l = none -> Q (.ref l) (upd H l (.ext (setO X.prog X.w l (once ts))))
def rLenS (X : Cx) : List V -> Hp -> VK -> Prop := fun xs H Q => ∃ (a : Addr) (l : List Str), xs = [V.ref a] /\ H a = some (.ext (setO X.prog X.w a l)) /\ l.length < 4000 /\ Q (.int l.length) H
section
variable {X : Cx}
theorem Zbc (hc : X.calm = true) : Z11 X (.type "set") (rSet X) := by
  intro pins s σ H xs us Q I r h
  obtain ⟨a, ts, rfl, hq, hl, q⟩ := h
  obtain ⟨u, rfl, ru⟩ := Z1j r
  cases ru
  obtain ⟨its, rv, pl, hz⟩ := I.list hq
  have le : its.length = ts.length := by rw [<- rv.length, List.length_map]
  refine Z6l (g := fun i => ts.getD i default) (show X.A.handled = none from I.ok.hd hc) pl.isList (fun i v hv => ?_) (by rw [List.size_toArray, le]; unfold scanBound; omega) fun h' tk x kp => ?_
  . have hv : its[i]? = some v := by simpa using hv
    have hi : i < ts.length := by rw [<- le]; exact (List.getElem?_eq_some_iff.mp hv).1
    obtain ⟨v', e1, e2⟩ := rv.get (i := i) (x := .str ts[i]) (by simp [hi])
    rw [hv] at e1
    cases e1
    obtain ⟨t, rfl⟩ := e2
    exact ⟨t, by simp [List.getD, List.getElem?_eq_getElem hi]⟩
  . rw [show its.toArray.size = ts.length by rw [List.size_toArray, le]] at x
    refine ⟨.ref s.heap.objs.size, _, I.laid (t' := tk) kp (Nat.le_refl _) (o := .ext (setO X.prog X.w s.heap.objs.size (once ts))) ?_, rfl, q _ (I.hok.fresh (Nat.le_refl _))⟩
    obtain ⟨o, es, ep, t, ho, rest⟩ := id x
    exact ⟨x, ⟨o, ho⟩, fun h1 h2 y e => Z25.at y e⟩
theorem Zc9 : Z11 X (.builtin "len") (rLenS X) := by
  intro pins s σ H xs us Q I r h
  obtain ⟨a, l, rfl, ha, hl, q⟩ := h
  obtain ⟨u, rfl, ru⟩ := Z1j r
  cases ru
  obtain ⟨⟨o, es, ep, t, ho, hex, hd, _, _, _, hf, hn⟩, _, _⟩ := I.hok a _ ha
  refine call_len_set ho hex hd hf (by rw [hn]; omega) ?_
  exact ⟨.int l.length, H, I.tok _, ⟨_, by rw [hn]⟩, q⟩
theorem Zfc (ts : List Str) : (once ts).length <= ts.length := Z7z _ _
variable {Γ : List Own} {e : Expr} {f : Ev} {pos p p2 pos2 : Pos}
theorem Zdy (hc : X.calm = true) (gl : Gl X "len") (ml : X.mg "len" = none) (vl : bootBuiltins "len" = some (.builtin "len")) (gs : Gl X "set") (ms : X.mg "set" = none) (vs : bootBuiltins "set" = some (.type "set")) (ha : PAB X Γ [e] [] [f])
    (he : starEach [e] X.env = (false, eval e X.env) :: starEach [] X.env := by exact Z19 rfl) : PEB X Γ (.Call (.Name "len" p) [.Call (.Name "set" p2) [e] [] pos2] [] pos) .s (eN Z4d [f]) := .mk fun W => by
  have i1 := Z5v (X := XB X W) (pos := pos2) (p := p2) (Zbc (X := XB X W) hc) gs ms vs (ha W) (by decide) (by decide) he (Z1k rfl)
  have i2 := Z4j (X := XB X W) (pos := pos) (p := p) (Zc9 (X := XB X W)) gl ml vl (Z26 i1 Z3l (Z19 rfl)) (by decide) (by decide) (Z19 rfl) (Z1k rfl)
  refine pimp i2 fun σ H Q h => ?_
  refine Z3y (r := fun vs H Q => rSet (XB X W) vs H fun x H1 => rLenS (XB X W) [x] H1 Q) (g := Z4d) (o := .s) (fun ys vs S H hs r => ?_) h
  match ys, r with
  | [], _ => exact True.intro
  | y :: _ :: _, _ => cases y <;> exact True.intro
  | [.non], _ => exact True.intro
  | [.bl _], _ => exact True.intro
  | [.int _], _ => exact True.intro
  | [.str _], _ => exact True.intro
  | [.dct _], _ => exact True.intro
  | [.ins _ _], _ => exact True.intro
  | [.exc _], _ => exact True.intro
  | [.tup _], _ => exact True.intro
  | [.lst xs], ⟨v, _, e1, ⟨a, us, ea, ra, rs⟩, e2⟩ =>
    show OkR ((Z12 xs).bind _) _
    cases hb : Z12 xs with
    | no => exact True.intro
    | err c => exact (Z4l hb).elim
    | ok ts =>
      show OkR (when (decide (ts.length < 4000)) (R.ok (PV.int (once ts).length))) _
      by_cases hl : ts.length < 4000
      . rw [decide_eq_true hl]
        intro Q g
        subst e1 e2 ea
        have hu := Z7o rs hb
        subst hu
        refine ⟨a, ts, rfl, .inl (Rd.mono hs ra), hl, fun l hn => ⟨l, once ts, rfl, Zg, Nat.lt_of_le_of_lt (Zfc ts) hl, ?_⟩⟩
        exact Good.sh g (Ext.own hs hn) rfl
      . rw [decide_eq_false hl]
        exact True.intro
end
theorem Zdl : bootBuiltins "set" = some (.type "set") := by decide +kernel
end B
namespace B
open PySem
def knN : List Str := [(Str.ofString "Deed"), (Str.ofString "Join"), (Str.ofString "Trust"), (Str.ofString "Pay"), (Str.ofString "Turn"), (Str.ofString "Leave")]
def keN : List Str := [(Str.ofString "WayError"), (Str.ofString "NoRow")]
def y_2 : Sv :=
  (sRet (eK (.str (Str.ofString ""))))
def f_2 : List PV -> R PV := fn 1 y_2
def y_1b : Sv :=
  (sRet (eSM Z58 (eK (.str (Str.ofString " "))) (Z1g (iV (eV 0)) tYes (eN cStr [(eV 1)]))))
def f_1b : List PV -> R PV := fn 1 y_1b
def y_6 : Sv :=
  (sRet (eN f_1b [(eLst [(eK (.str (Str.ofString "join"))), (e1 (oAtt [(Str.ofString "Join"), (Str.ofString "Leave")] (Str.ofString "house")) (eV 0))])]))
def f_6 : List PV -> R PV := fn 1 y_6
def y_j : Sv :=
  (sRet (eN f_1b [(eLst [(eK (.str (Str.ofString "trust"))), (e1 (oAtt [(Str.ofString "Trust")] (Str.ofString "one")) (eV 0)), (e1 (oAtt [(Str.ofString "Trust")] (Str.ofString "other")) (eV 0)), (e1 (oAtt [(Str.ofString "Trust")] (Str.ofString "line")) (eV 0))])]))
def f_j : List PV -> R PV := fn 1 y_j
def y_f : Sv :=
  (sRet (eN f_1b [(eLst [(eK (.str (Str.ofString "pay"))), (e1 (oAtt [(Str.ofString "Pay")] (Str.ofString "payer")) (eV 0)), (e1 (oAtt [(Str.ofString "Pay")] (Str.ofString "taker")) (eV 0)), (e1 (oAtt [(Str.ofString "Pay"), (Str.ofString "Turn")] (Str.ofString "amount")) (eV 0))])]))
def f_f : List PV -> R PV := fn 1 y_f
def y_n : Sv :=
  (sRet (eN f_1b [(e2 oAdd (eLst [(eK (.str (Str.ofString "turn"))), (e1 (oAtt [(Str.ofString "Pay"), (Str.ofString "Turn")] (Str.ofString "amount")) (eV 0))]) (e1 (oAtt [(Str.ofString "Turn")] (Str.ofString "ring")) (eV 0)))]))
def f_n : List PV -> R PV := fn 1 y_n
def y_a : Sv :=
  (sRet (eN f_1b [(eLst [(eK (.str (Str.ofString "leave"))), (e1 (oAtt [(Str.ofString "Join"), (Str.ofString "Leave")] (Str.ofString "house")) (eV 0))])]))
def f_a : List PV -> R PV := fn 1 y_a
def b_t_1 : Sv :=
  (sSeq
    (sSet 2 (e2 oMod (e2 oAdd (e2 oAdd (e2 oAdd (e2 oMul (eV 2) (eV 2)) (e2 oMul (eK (.int 48271)) (eV 2))) (eV 4)) (eK (.int 7))) (eK (.int 2147483647))))
    (sSet 3 (e2 oAdd (eV 3) (e2 oIx (eK (.str (Str.ofString "abcdefghijklmnopqrstuvwxyz"))) (e2 oMod (e2 oDiv (eV 2) (eK (.int 64))) (eK (.int 26)))))))
def y_t : Sv :=
  (sSeq
    (sSet 1 (eLst [(eK (.str (Str.ofString "join"))), (eK (.str (Str.ofString "trust"))), (eK (.str (Str.ofString "pay"))), (eK (.str (Str.ofString "turn"))), (eK (.str (Str.ofString "leave"))), (eK (.str (Str.ofString "owes"))), (eK (.str (Str.ofString "room"))), (eK (.str (Str.ofString "stands"))), (eK (.str (Str.ofString "most"))), (eK (.str (Str.ofString "high"))), (eK (.str (Str.ofString "low"))), (eK (.str (Str.ofString "bar"))), (eK (.str (Str.ofString "houses")))]))
    (sSeq
      (sIf (tE (e2 oEq (e2 oMod (eV 0) (eK (.int 5))) (eK (.int 1))))
        (sRet (e2 oIx (eV 1) (e2 oMod (e2 oDiv (eV 0) (eK (.int 5))) (eK (.int 13)))))
        sNx)
      (sSeq
        (sSet 2 (e2 oMod (eV 0) (eK (.int 2147483647))))
        (sSeq
          (sSet 3 (eK (.str (Str.ofString ""))))
          (sSeq
            (sFor (iR (eK (.int 0)) (e2 oAdd (eK (.int 1)) (e2 oMod (e2 oDiv (eV 2) (eK (.int 5))) (eK (.int 8)))) (eK (.int 1))) 4 b_t_1)
            (sRet (eV 3)))))))
def f_t : List PV -> R PV := fn 5 y_t
def y_x : Sv :=
  (sSeq
    (sSet 1 (eN f_t [(eV 0)]))
    (sSeq
      (sSet 2 (eN f_t [(e2 oAdd (e2 oDiv (eV 0) (eK (.int 5))) (eK (.int 3)))]))
      (sSeq
        (sIf (tAnd (tE (e2 oEq2 (eV 1) (eV 2))) (tE (e2 oEq (e2 oIx (eV 1) (eK (.int 0))) (eK (.str (Str.ofString "a"))))))
          (sSet 2 (e2 oAdd (eK (.str (Str.ofString "b"))) (eCut (some (eK (.int 1))) none (eV 1))))
          (sIf (tE (e2 oEq2 (eV 1) (eV 2)))
            (sSet 2 (e2 oAdd (eK (.str (Str.ofString "a"))) (eCut (some (eK (.int 1))) none (eV 1))))
            sNx))
        (sRet (eTup [(eV 1), (eV 2)])))))
def f_x : List PV -> R PV := fn 3 y_x
def y_u : Sv :=
  (sSeq
    (sIf (tE (e2 oEq (e2 oMod (eV 0) (eK (.int 4))) (eK (.int 0))))
      (sRet (e2 oMod (e2 oDiv (eV 0) (eK (.int 4))) (eK (.int 9))))
      sNx)
    (sSeq
      (sIf (tE (e2 oEq (e2 oMod (eV 0) (eK (.int 4))) (eK (.int 1))))
        (sRet (e2 oSub (eV 1) (e2 oMod (e2 oDiv (eV 0) (eK (.int 4))) (eK (.int 9)))))
        sNx)
      (sRet (e2 oMod (e2 oDiv (eV 0) (eK (.int 4))) (e2 oAdd (eV 1) (eK (.int 1)))))))
def f_u : List PV -> R PV := fn 2 y_u
def y_v : Sv :=
  (sSeq
    (sSet 2 (eK (.str (Str.ofString "abcdefghijklmnopqrstuvwxyz"))))
    (sSeq
      (sSet 3 (e2 oMod (e2 oAdd (e2 oMul (e2 oMod (eV 0) (eK (.int 2147483647))) (eK (.int 48271))) (eK (.int 11))) (eK (.int 2147483647))))
      (sSeq
        (sSet 4 (eLst [(eK (.str (Str.ofString "turn"))), (eK (.str (Str.ofString "pay"))), (eK (.str (Str.ofString "join"))), (eK (.str (Str.ofString "leave"))), (eK (.str (Str.ofString "trust"))), (eK (.str (Str.ofString "owes"))), (eK (.str (Str.ofString "low"))), (eK (.str (Str.ofString "high")))]))
        (sSeq
          (sIf (tE (e2 oEq (e2 oMod (eV 3) (eK (.int 3))) (eK (.int 1))))
            (sRet (eCut none (some (eV 1)) (e2 oAdd (eCut (some (e2 oMod (e2 oDiv (eV 3) (eK (.int 3))) (eK (.int 8)))) none (eV 4)) (eCut none (some (e2 oMod (e2 oDiv (eV 3) (eK (.int 3))) (eK (.int 8)))) (eV 4)))))
            sNx)
          (sSeq
            (sSet 5 (e2 oAdd (eK (.int 1)) (e2 oMod (e2 oDiv (eV 3) (eK (.int 3))) (eK (.int 8)))))
            (sSeq
              (sSet 6 (e2 oMod (e2 oDiv (eV 3) (eK (.int 24))) (eV 5)))
              (sSeq
                (sSet 7 (e2 oMul (e2 oIx (eV 2) (e2 oMod (e2 oDiv (eV 3) (eK (.int 192))) (eK (.int 26)))) (eV 6)))
                (sSeq
                  (sSet 8 (e2 oMul (e2 oIx (eV 2) (e2 oMod (e2 oDiv (eV 3) (eK (.int 4992))) (eK (.int 26)))) (e2 oSub (e2 oSub (eV 5) (eK (.int 1))) (eV 6))))
                  (sSeq
                    (sSet 9 (e2 oMod (e2 oDiv (eV 3) (eK (.int 129792))) (eK (.int 26))))
                    (sRet (Z1g (iR (eK (.int 0)) (eV 1) (eK (.int 1))) tYes (e2 oAdd (e2 oAdd (eV 7) (e2 oIx (eV 2) (e2 oMod (e2 oAdd (eV 9) (e2 oMul (eK (.int 7)) (eV 10))) (eK (.int 26))))) (eV 8)))))))))))))
def f_v : List PV -> R PV := fn 10 y_v
def y_s : Sv :=
  (sSeq
    (sSet 3 (e2 oMod (eV 0) (eK (.int 5))))
    (sSeq
      (sUnp [4, 5] (eN f_x [(eV 1)]))
      (sSeq
        (sIf (tE (e2 oEq (eV 3) (eK (.int 0))))
          (sRet (eTup [(eV 3), (eTup [(eV 4)]), (e2 oAdd (eK (.str (Str.ofString "join "))) (eV 4))]))
          sNx)
        (sSeq
          (sIf (tE (e2 oEq (eV 3) (eK (.int 1))))
            (sSeq
              (sSet 6 (eN f_u [(eV 2), (e2 oSub (e2 oPow (eK (.int 10)) (eK (.int 59))) (eK (.int 1)))]))
              (sRet (eTup [(eV 3), (eTup [(eV 4), (eV 5), (eV 6)]), (e2 oAdd (e2 oAdd (e2 oAdd (e2 oAdd (e2 oAdd (eK (.str (Str.ofString "trust "))) (eV 4)) (eK (.str (Str.ofString " ")))) (eV 5)) (eK (.str (Str.ofString " ")))) (eN cStr [(eV 6)]))])))
            sNx)
          (sSeq
            (sSet 7 (eN Z5a [(eK (.int 1)), (eN f_u [(eV 2), (e2 oSub (e2 oPow (eK (.int 10)) (eK (.int 60))) (eK (.int 1)))])]))
            (sSeq
              (sIf (tE (e2 oEq (eV 3) (eK (.int 2))))
                (sRet (eTup [(eV 3), (eTup [(eV 4), (eV 5), (eV 7)]), (e2 oAdd (e2 oAdd (e2 oAdd (e2 oAdd (e2 oAdd (eK (.str (Str.ofString "pay "))) (eV 4)) (eK (.str (Str.ofString " ")))) (eV 5)) (eK (.str (Str.ofString " ")))) (eN cStr [(eV 7)]))]))
                sNx)
              (sSeq
                (sIf (tE (e2 oEq (eV 3) (eK (.int 3))))
                  (sSeq
                    (sSet 8 (eN f_v [(eV 1), (e2 oAdd (eK (.int 3)) (e2 oMod (e2 oDiv (eV 0) (eK (.int 5))) (eK (.int 6))))]))
                    (sRet (eTup [(eV 3), (eTup [(eV 8), (eV 7)]), (e2 oAdd (e2 oAdd (e2 oAdd (eK (.str (Str.ofString "turn "))) (eN cStr [(eV 7)])) (eK (.str (Str.ofString " ")))) (eSM Z58 (eK (.str (Str.ofString " "))) (eV 8)))])))
                  sNx)
                (sRet (eTup [(eV 3), (eTup [(eV 4)]), (e2 oAdd (eK (.str (Str.ofString "leave "))) (eV 4))])))))))))
def f_s : List PV -> R PV := fn 9 y_s
def y_w : Sv :=
  (sSeq
    (sIf (tOr (tE (e2 oEq (eV 1) (eK (.int 0)))) (tE (e2 oEq (eV 1) (eK (.int 4)))))
      (sRet (eTup [(e1 (oAtt [(Str.ofString "Join"), (Str.ofString "Leave")] (Str.ofString "house")) (eV 0))]))
      sNx)
    (sSeq
      (sIf (tE (e2 oEq (eV 1) (eK (.int 1))))
        (sRet (eTup [(e1 (oAtt [(Str.ofString "Trust")] (Str.ofString "one")) (eV 0)), (e1 (oAtt [(Str.ofString "Trust")] (Str.ofString "other")) (eV 0)), (e1 (oAtt [(Str.ofString "Trust")] (Str.ofString "line")) (eV 0))]))
        sNx)
      (sSeq
        (sIf (tE (e2 oEq (eV 1) (eK (.int 2))))
          (sRet (eTup [(e1 (oAtt [(Str.ofString "Pay")] (Str.ofString "payer")) (eV 0)), (e1 (oAtt [(Str.ofString "Pay")] (Str.ofString "taker")) (eV 0)), (e1 (oAtt [(Str.ofString "Pay"), (Str.ofString "Turn")] (Str.ofString "amount")) (eV 0))]))
          sNx)
        (sRet (eTup [(e1 (oAtt [(Str.ofString "Turn")] (Str.ofString "ring")) (eV 0)), (e1 (oAtt [(Str.ofString "Pay"), (Str.ofString "Turn")] (Str.ofString "amount")) (eV 0))])))))
def f_w : List PV -> R PV := fn 2 y_w
def y_r : Sv :=
  (sSeq
    (sSet 3 (eLst [(e1 (isA knN keN [(Str.ofString "Join")] (fun _ => false)) (eV 0)), (e1 (isA knN keN [(Str.ofString "Trust")] (fun _ => false)) (eV 0)), (e1 (isA knN keN [(Str.ofString "Pay")] (fun _ => false)) (eV 0)), (e1 (isA knN keN [(Str.ofString "Turn")] (fun _ => false)) (eV 0))]))
    (sSeq
      (sMod 3 none (Z36 (e1 (isA knN keN [(Str.ofString "Leave")] (fun _ => false)) (eV 0))))
      (sSeq
        (sIf (tOr (tE (e2 oNe (eV 3) (Z1g (iR (eK (.int 0)) (eK (.int 5)) (eK (.int 1))) tYes (e2 oEq2 (eV 5) (eV 1))))) (tNot (tE (e1 (isA knN keN [(Str.ofString "Deed"), (Str.ofString "Join"), (Str.ofString "Trust"), (Str.ofString "Pay"), (Str.ofString "Turn"), (Str.ofString "Leave")] (fun _ => false)) (eV 0)))))
          (sRet (eK (.bl false)))
          sNx)
        (sSeq
          (sSet 4 (eN f_w [(eV 0), (eV 1)]))
          (sSeq
            (sIf (tOr (tE (e2 oNe2 (eV 4) (eV 2))) (tAnd (tE (e2 oEq (eV 1) (eK (.int 3)))) (tNot (tE (e1 (isA knN keN [] (isKb .lst)) (e2 oIx (eV 4) (eK (.int 0))))))))
              (sRet (eK (.bl false)))
              sNx)
            (sSeq
              (sIf (tOr (tE (e2 oEq (eV 1) (eK (.int 0)))) (tE (e2 oEq (eV 1) (eK (.int 4)))))
                (sRet (eK (.bl true)))
                sNx)
              (sRet (eAnd (e1 (isA knN keN [] (isKb .int)) (e2 oIx (eV 4) (e1 oNeg (eK (.int 1))))) (e1 oNot (e1 (isA knN keN [] (isKb .bl)) (e2 oIx (eV 4) (e1 oNeg (eK (.int 1))))))))))))))
def f_r : List PV -> R PV := fn 5 y_r
def y_p : Sv :=
  (sSeq
    (sIf (tE (e2 oLt (eV 1) (eN cLen [(eV 0)])))
      (sRet (e2 oIx (eV 0) (eV 1)))
      sNx)
    (sRet (eK (.int 0))))
def f_p : List PV -> R PV := fn 2 y_p
def y_1c : Sv :=
  (sSeq
    (sIf (tNot (tE (e1 (isA knN keN [] (isKb .str)) (eV 0))))
      (Z41 (Str.ofString "NoRow"))
      sNx)
    (sRet (eSM Z3b (eV 0) (eK (.str (Str.ofString " "))))))
def f_1c : List PV -> R PV := fn 1 y_1c
def y_15 : Sv :=
  (sIf (tNot (tE (eV 0)))
    (Z41 (Str.ofString "NoRow"))
    sNx)
def f_15 : List PV -> R PV := fn 1 y_15
def y_16 : Sv :=
  (sSeq
    (sIf (tOr (tE (e2 oLt (eN cLen [(eV 0)]) (eK (.int 1)))) (tE (e2 oGt (eN cLen [(eV 0)]) (eK (.int 60)))))
      (sRet (eK .non))
      sNx)
    (sSeq
      (sIf (tNot (tE (eN cAll [(Z1g (iV (eV 0)) tYes (e2 oIn (eV 1) (eK (.str (Str.ofString "0123456789")))))])))
        (sRet (eK .non))
        sNx)
      (sSeq
        (sIf (tAnd (tE (e2 oEq (e2 oIx (eV 0) (eK (.int 0))) (eK (.str (Str.ofString "0"))))) (tE (e2 oGt (eN cLen [(eV 0)]) (eK (.int 1)))))
          (sRet (eK .non))
          sNx)
        (sRet (eN Z59 [(eV 0)])))))
def f_16 : List PV -> R PV := fn 1 y_16
def g_k : List (Str × Ev) := [((Str.ofString "ring"), (eIf (tE (e1 (isA knN keN [] (isKb .lst)) (eV 1))) (eN Zaf [(eV 1)]) (eV 1))), ((Str.ofString "amount"), (eV 2))]
def f_k : List PV -> R PV := mkI (Str.ofString "Turn") 2 g_k
def y_13 : Sv :=
  (sRet (eAnd (e1 (isA knN keN [] (isKb .int)) (eV 0)) (e1 oNot (e1 (isA knN keN [] (isKb .bl)) (eV 0)))))
def f_13 : List PV -> R PV := fn 1 y_13
def y_10 : Sv :=
  (sRet (eAnd (eN f_13 [(eV 0)]) (eAnd (e2 oLe (eK (.int 1)) (eV 0)) (e2 oLt (eV 0) (e2 oPow (eK (.int 10)) (eK (.int 60)))))))
def f_10 : List PV -> R PV := fn 1 y_10
def y_12 : Sv :=
  (sSeq
    (sIf (tNot (tE (e1 (isA knN keN [] (isKb .str)) (eV 0))))
      (sRet (eK (.bl false)))
      sNx)
    (sSeq
      (sIf (tOr (tE (e2 oLt (eN cLen [(eV 0)]) (eK (.int 1)))) (tE (e2 oGt (eN cLen [(eV 0)]) (eK (.int 8)))))
        (sRet (eK (.bl false)))
        sNx)
      (sRet (eN cAll [(Z1g (iV (eV 0)) tYes (e2 oIn (eV 1) (eK (.str (Str.ofString "abcdefghijklmnopqrstuvwxyz")))))]))))
def f_12 : List PV -> R PV := fn 1 y_12
def y_z : Sv :=
  (sRet (eAnd (eN cAll [(Z1g (iV (eV 0)) tYes (eN f_12 [(eV 1)]))]) (e2 oEq (eN Z4d [(eV 0)]) (eN cLen [(eV 0)]))))
def f_z : List PV -> R PV := fn 1 y_z
def y_19 : Sv :=
  (sSeq
    (sExp (eN f_15 [(eAnd (e2 oGe (eN cLen [(eV 0)]) (eK (.int 5))) (eAnd (e2 oLe (eN cLen [(eV 0)]) (eK (.int 10))) (eN f_z [(eCut (some (eK (.int 2))) none (eV 0))])))]))
    (sSeq
      (sSet 1 (eN f_16 [(e2 oIx (eV 0) (eK (.int 1)))]))
      (sSeq
        (sExp (eN f_15 [(eN f_10 [(eV 1)])]))
        (sRet (eN f_k [(eCut (some (eK (.int 2))) none (eV 0)), (eV 1)])))))
def f_19 : List PV -> R PV := fn 2 y_19
def g_7 : List (Str × Ev) := [((Str.ofString "house"), (eV 1))]
def f_7 : List PV -> R PV := mkI (Str.ofString "Leave") 1 g_7
def g_3 : List (Str × Ev) := [((Str.ofString "house"), (eV 1))]
def f_3 : List PV -> R PV := mkI (Str.ofString "Join") 1 g_3
def y_18 : Sv :=
  (sSeq
    (sExp (eN f_15 [(eAnd (e2 oEq (eN cLen [(eV 0)]) (eK (.int 2))) (eN f_12 [(e2 oIx (eV 0) (eK (.int 1)))]))]))
    (sSeq
      (sIf (tE (e2 oEq (e2 oIx (eV 0) (eK (.int 0))) (eK (.str (Str.ofString "join")))))
        (sRet (eN f_3 [(e2 oIx (eV 0) (eK (.int 1)))]))
        sNx)
      (sRet (eN f_7 [(e2 oIx (eV 0) (eK (.int 1)))]))))
def f_18 : List PV -> R PV := fn 1 y_18
def g_c : List (Str × Ev) := [((Str.ofString "payer"), (eV 1)), ((Str.ofString "taker"), (eV 2)), ((Str.ofString "amount"), (eV 3))]
def f_c : List PV -> R PV := mkI (Str.ofString "Pay") 3 g_c
def g_g : List (Str × Ev) := [((Str.ofString "one"), (eV 1)), ((Str.ofString "other"), (eV 2)), ((Str.ofString "line"), (eV 3))]
def f_g : List PV -> R PV := mkI (Str.ofString "Trust") 3 g_g
def y_11 : Sv :=
  (sRet (eAnd (eN f_13 [(eV 0)]) (eAnd (e2 oLe (eK (.int 0)) (eV 0)) (e2 oLt (eV 0) (e2 oPow (eK (.int 10)) (eK (.int 59)))))))
def f_11 : List PV -> R PV := fn 1 y_11
def y_1a : Sv :=
  (sSeq
    (sExp (eN f_15 [(eAnd (e2 oEq (eN cLen [(eV 0)]) (eK (.int 4))) (eN f_z [(eCut (some (eK (.int 1))) (some (eK (.int 3))) (eV 0))]))]))
    (sSeq
      (sSet 1 (eN f_16 [(e2 oIx (eV 0) (eK (.int 3)))]))
      (sSeq
        (sIf (tE (e2 oEq (e2 oIx (eV 0) (eK (.int 0))) (eK (.str (Str.ofString "trust")))))
          (sSeq
            (sExp (eN f_15 [(eN f_11 [(eV 1)])]))
            (sRet (eN f_g [(e2 oIx (eV 0) (eK (.int 1))), (e2 oIx (eV 0) (eK (.int 2))), (eV 1)])))
          sNx)
        (sSeq
          (sExp (eN f_15 [(eN f_10 [(eV 1)])]))
          (sRet (eN f_c [(e2 oIx (eV 0) (eK (.int 1))), (e2 oIx (eV 0) (eK (.int 2))), (eV 1)]))))))
def f_1a : List PV -> R PV := fn 2 y_1a
def y_17 : Sv :=
  (sSeq
    (sSet 1 (eN f_1c [(eV 0)]))
    (sSeq
      (sIf (tE (e2 oIn (e2 oIx (eV 1) (eK (.int 0))) (eLst [(eK (.str (Str.ofString "join"))), (eK (.str (Str.ofString "leave")))])))
        (sRet (eN f_18 [(eV 1)]))
        sNx)
      (sSeq
        (sIf (tE (e2 oIn (e2 oIx (eV 1) (eK (.int 0))) (eLst [(eK (.str (Str.ofString "trust"))), (eK (.str (Str.ofString "pay")))])))
          (sRet (eN f_1a [(eV 1)]))
          sNx)
        (sSeq
          (sExp (eN f_15 [(e2 oEq (e2 oIx (eV 1) (eK (.int 0))) (eK (.str (Str.ofString "turn"))))]))
          (sRet (eN f_19 [(eV 1)]))))))
def f_17 : List PV -> R PV := fn 2 y_17
def y_q : Sv :=
  (sSeq
    (sIf (tE (e2 oEq (eV 0) (eK (.int 0))))
      (sRet (eN f_3 [(e2 oIx (eV 1) (eK (.int 0)))]))
      sNx)
    (sSeq
      (sIf (tE (e2 oEq (eV 0) (eK (.int 1))))
        (sRet (eN f_g [(e2 oIx (eV 1) (eK (.int 0))), (e2 oIx (eV 1) (eK (.int 1))), (e2 oIx (eV 1) (eK (.int 2)))]))
        sNx)
      (sSeq
        (sIf (tE (e2 oEq (eV 0) (eK (.int 2))))
          (sRet (eN f_c [(e2 oIx (eV 1) (eK (.int 0))), (e2 oIx (eV 1) (eK (.int 1))), (e2 oIx (eV 1) (eK (.int 2)))]))
          sNx)
        (sSeq
          (sIf (tE (e2 oEq (eV 0) (eK (.int 3))))
            (sRet (eN f_k [(eN Zaf [(e2 oIx (eV 1) (eK (.int 0)))]), (e2 oIx (eV 1) (eK (.int 1)))]))
            sNx)
          (sRet (eN f_7 [(e2 oIx (eV 1) (eK (.int 0)))]))))))
def f_q : List PV -> R PV := fn 2 y_q
def b_14_1 : Sv :=
  (sSeq
    (sSet 2 (Z1g (iR (eK (.int 0)) (eK (.int 3)) (eK (.int 1))) tYes (e2 oMod (eN f_p [(eV 0), (e2 oAdd (eV 1) (eV 7))]) (e2 oPow (eK (.int 10)) (eK (.int 62))))))
    (sSeq
      (sUnp [3, 4, 5] (eN f_s [(e2 oIx (eV 2) (eK (.int 0))), (e2 oIx (eV 2) (eK (.int 1))), (e2 oIx (eV 2) (eK (.int 2)))]))
      (sSeq
        (sIf (tNot (tE (eN f_r [(eN f_17 [(eV 5)]), (eV 3), (eV 4)])))
          (sRet (eK (.bl false)))
          sNx)
        (sSeq
          (sSet 6 (Z31 (Str.ofString "row") [((Str.ofString "Deed"), f_2), ((Str.ofString "Join"), f_6), ((Str.ofString "Trust"), f_j), ((Str.ofString "Pay"), f_f), ((Str.ofString "Turn"), f_n), ((Str.ofString "Leave"), f_a)] (eN f_q [(eV 3), (eV 4)]) []))
          (sIf (tOr (tNot (tE (e1 (isA knN keN [] (isKb .str)) (eV 6)))) (tOr (tE (e2 oNe2 (eV 6) (eV 5))) (tE (e2 oNe (Z31 (Str.ofString "row") [((Str.ofString "Deed"), f_2), ((Str.ofString "Join"), f_6), ((Str.ofString "Trust"), f_j), ((Str.ofString "Pay"), f_f), ((Str.ofString "Turn"), f_n), ((Str.ofString "Leave"), f_a)] (eN f_17 [(eV 6)]) []) (eV 5)))))
            (sRet (eK (.bl false)))
            sNx)))))
def y_14 : Sv :=
  (sSeq
    (sIf (tE (e2 oNe (Z31 (Str.ofString "row") [((Str.ofString "Deed"), f_2), ((Str.ofString "Join"), f_6), ((Str.ofString "Trust"), f_j), ((Str.ofString "Pay"), f_f), ((Str.ofString "Turn"), f_n), ((Str.ofString "Leave"), f_a)] (eK (.ins (Str.ofString "Deed") [])) []) (eK (.str (Str.ofString "")))))
      (sRet (eK (.bl false)))
      sNx)
    (sSeq
      (sFor (iR (eK (.int 0)) (eN Z46 [(eN cLen [(eV 0)]), (eK (.int 63))]) (eK (.int 3))) 1 b_14_1)
      (sRet (eK (.bl true)))))
def f_14 : List PV -> R PV := fn 7 y_14
end B
namespace B
open PySem
def sp : Str := Str.ofString " "
theorem sp_eq : sp = ⟨#[32]⟩ := by decide +kernel
abbrev sg (s : Str) : List Nat := s.cps.toList
theorem Zbf {a b : Str} (h : sg a = sg b) : a = b := by
  obtain ⟨x⟩ := a
  obtain ⟨y⟩ := b
  have e : x = y := Array.toList_inj.mp h
  rw [e]
theorem Z1c (a b : Str) : sg (a ++ b) = sg a ++ sg b := by
  show (a.cps ++ b.cps).toList = _
  simp
theorem Z21 (a : Str) : (sg a).length = a.length := by simp [sg, Str.length]
theorem sg_sp : sg sp = [32] := by rw [sp_eq]
def jn : List (List Nat) -> List Nat
  | [] => []
  | [x] => x
  | x :: y :: r => x ++ 32 :: jn (y :: r)
theorem Z5h : ∀ ts : List Str, sg (Str.join sp ts) = jn (ts.map sg)
  | [] => rfl
  | [x] => rfl
  | x :: y :: r => by
    show sg (x ++ sp ++ Str.join sp (y :: r)) = _
    rw [Z1c, Z1c, sg_sp, Z5h (y :: r)]
    show sg x ++ [32] ++ jn ((y :: r).map sg) = sg x ++ 32 :: jn ((y :: r).map sg)
    simp
theorem cut_eq {a b r s : List Nat} (ha : 32 ∉ a) (hb : 32 ∉ b) (h : a ++ 32 :: r = b ++ 32 :: s) : a = b /\ r = s := by
  induction a generalizing b with
  | nil =>
    cases b with
    | nil => exact ⟨rfl, by simpa using h⟩
    | cons y b => simp at h; exact (hb (by simp [<- h.1])).elim
  | cons x a ih =>
    cases b with
    | nil => simp at h; exact (ha (by simp [h.1])).elim
    | cons y b =>
      simp only [List.cons_append, List.cons.injEq] at h
      obtain ⟨rfl, h⟩ := h
      obtain ⟨rfl, e⟩ := ih (fun m => ha (List.mem_cons_of_mem _ m)) (fun m => hb (List.mem_cons_of_mem _ m)) h
      exact ⟨rfl, e⟩
theorem Zd3 : ∀ {ts us : List (List Nat)}, ts ≠ [] -> us ≠ [] -> (∀ t ∈ ts, 32 ∉ t) -> (∀ t ∈ us, 32 ∉ t) -> jn ts = jn us -> ts = us
  | [], _, h, _, _, _, _ => (h rfl).elim
  | _ :: _, [], _, h, _, _, _ => (h rfl).elim
  | [x], [y], _, _, _, _, h => by rw [show x = y from h]
  | [x], y :: z :: r, _, _, hx, _, h => by
    have h : x = y ++ 32 :: jn (z :: r) := h
    exact (hx x (by simp) (by rw [h]; simp)).elim
  | x :: z :: r, [y], _, _, _, hy, h => by
    have h : x ++ 32 :: jn (z :: r) = y := h
    exact (hy y (by simp) (by rw [<- h]; simp)).elim
  | x :: z :: r, y :: v :: s, _, _, hx, hy, h => by
    obtain ⟨rfl, e⟩ := cut_eq (hx x (by simp)) (hy y (by simp)) (show x ++ 32 :: jn (z :: r) = y ++ 32 :: jn (v :: s) from h)
    rw [Zd3 (by simp) (by simp) (fun t m => hx t (List.mem_cons_of_mem _ m)) (fun t m => hy t (List.mem_cons_of_mem _ m)) e]
theorem Z4u : ∀ {ts us : List Str}, ts.map sg = us.map sg -> ts = us
  | [], [], _ => rfl
  | [], _ :: _, h => by simp at h
  | _ :: _, [], h => by simp at h
  | x :: xs, y :: ys, h => by
    simp only [List.map_cons, List.cons.injEq] at h
    rw [Zbf h.1, Z4u h.2]
theorem Ze6 (x y : Str) : Txt.split x y ≠ [] := by
  unfold Txt.split
  split
  . simp
  . split
    . simp
    . rw [StrLaws.partsBetween_eq]
      obtain ⟨p, r, e⟩ := StrLaws.partsFrom_ne x y.length 0 (Builtin.Str.occurrences x y 0 x.length (x.length + 1))
      rw [e]; simp
theorem Zag {ts : List Str} (h0 : ts ≠ []) (h : ∀ t ∈ ts, 32 ∉ sg t) : Txt.split (Str.join sp ts) sp = ts := by
  refine Z4u (Zd3 (by simpa using Ze6 _ _) (by simpa using h0) (fun t m => ?_) (fun t m => ?_) ?_)
  . obtain ⟨p, hp, rfl⟩ := List.mem_map.mp m
    rw [sp_eq] at hp
    exact StrLaws.split_free _ 32 p hp
  . obtain ⟨p, hp, rfl⟩ := List.mem_map.mp m
    exact h p hp
  . rw [<- Z5h, <- Z5h, StrLaws.join_split]
def fg (n : Int) : Str := toString n
theorem Z5e (m : Nat) : sg (fg m) = (Nat.toDigits 10 m).map Char.toNat := PySem.W.KIN.signs_num m
theorem Z7n {n : Int} (h : 0 <= n) : ∀ c ∈ sg (fg n), 48 <= c /\ c <= 57 := by
  obtain ⟨m, rfl⟩ := Int.eq_ofNat_of_zero_le h
  intro c hc
  rw [Z5e] at hc
  obtain ⟨ch, hch, e⟩ := List.mem_map.mp hc
  have z := Nat.isDigit_of_mem_toDigits (by decide) (by decide) hch
  unfold Char.isDigit at z
  simp only [Bool.and_eq_true, decide_eq_true_eq] at z
  rw [<- e]
  exact ⟨z.1, z.2⟩
theorem Z1p {n : Int} (h : 0 <= n) {k : Nat} (hk : 0 < k) (h1 : n < 10 ^ k) : (fg n).length <= k := by
  obtain ⟨m, rfl⟩ := Int.eq_ofNat_of_zero_le h
  rw [<- Z21, Z5e, List.length_map, Nat.length_toDigits_le_iff (by decide) hk]
  have : ((m : Nat) : Int) < ((10 ^ k : Nat) : Int) := by simpa using h1
  omega
theorem Zcl (n : Int) (h : 0 <= n) : 0 < (fg n).length := by
  obtain ⟨m, rfl⟩ := Int.eq_ofNat_of_zero_le h
  rw [<- Z21, Z5e, List.length_map]
  exact Nat.length_toDigits_pos
theorem Zdx {a b : List Nat} (h : a ≠ []) : (a ++ b).head? = a.head? := by
  cases a with
  | nil => exact (h rfl).elim
  | cons x a => rfl
theorem Zfw {n : Int} (h : 0 < n) : (sg (fg n)).head? ≠ some 48 := by
  obtain ⟨m, rfl⟩ := Int.eq_ofNat_of_zero_le (Int.le_of_lt h)
  have hm : 0 < m := by omega
  rw [Z5e]
  clear h
  induction m using Nat.strongRecOn with
  | _ m ih =>
    by_cases hlt : m < 10
    . rw [Nat.toDigits_of_lt_base hlt]
      have : ∀ k, k < 10 -> 0 < k -> (Nat.digitChar k).toNat ≠ 48 := by decide
      simpa using this m hlt hm
    . rw [Nat.toDigits_of_base_le (by decide) (by omega), List.map_append, Zdx (by
        intro e
        have := Nat.length_toDigits_pos (b := 10) (n := m / 10)
        rw [List.map_eq_nil_iff.mp e] at this
        simp at this)]
      exact ih (m / 10) (by omega) (by omega)
theorem fg_17 {n : Int} (h : 0 <= n) (h1 : n < 10 ^ 600) : intText? (fg n) = some n := by
  have hl := Z1p h (k := 600) (by decide) h1
  obtain ⟨m, rfl⟩ := Int.eq_ofNat_of_zero_le h
  have e := PySem.intText_digits (x := fg m) (fun c hc => Z7n h c hc) (by
    intro e
    have := Zcl m h
    rw [<- Z21] at this
    simp [sg, e] at this) (Nat.le_trans hl (by decide))
  rw [show (fg m).cps.toList = _ from Z5e m, PySem.W.KIN.val_back] at e
  exact e
theorem Zem : fg 0 = Str.ofString "0" := by decide +kernel
theorem Z5k {n : Int} (h : 0 <= n) : 32 ∉ sg (fg n) := fun m => by have := Z7n h 32 m; omega
structure Nm (s : Str) : Prop where
  pos : 1 <= s.length
  le : s.length <= 8
  let_ : ∀ c ∈ sg s, 97 <= c /\ c <= 122
theorem Nm.nosp {s : Str} (h : Nm s) : 32 ∉ sg s := fun m => by have := h.let_ 32 m; omega
theorem Zfa {c : Nat} (h : c ∈ abc.cps.toList) : 97 <= c /\ c <= 122 := by
  have e : abc.cps.toList = (List.range 26).map (· + 97) := by decide +kernel
  rw [e] at h
  obtain ⟨k, hk, rfl⟩ := List.mem_map.mp h
  have := List.mem_range.mp hk
  omega
end B
namespace B
open PySem
theorem Ze9 (a b : Str) : oEq2 (.str a) (.str b) = .ok (.bl (decide (a = b))) := rfl
theorem Ze0 (a b : Str) : oNe2 (.str a) (.str b) = .ok (.bl (!decide (a = b))) := rfl
theorem Zdr (a b : List PV) : oNe2 (.tup a) (.tup b) = when (a.all Z2i && b.all Z2i) (.ok (.bl (!eqds a b))) := rfl
theorem Z3a (kn ke u : List Str) (pl : Kd -> Bool) (c : Int) : isA kn ke u pl (.int c) = .ok (.bl (pl .int)) := rfl
theorem Z5i (kn ke u : List Str) (pl : Kd -> Bool) (c : Str) : isA kn ke u pl (.str c) = .ok (.bl (pl .str)) := rfl
theorem Z3d (kn ke u : List Str) (pl : Kd -> Bool) (c : List PV) : isA kn ke u pl (.lst c) = .ok (.bl (pl .lst)) := rfl
theorem Zd0 (i j : Int) : Z5a [.int i, .int j] = .ok (.int (if j > i then j else i)) := rfl
theorem Zbr (i j : Int) : Z46 [.int i, .int j] = .ok (.int (if j < i then j else i)) := rfl
theorem Z3s {i : Int} (h0 : 0 <= i) (h : i < 10 ^ 62) : cStr [.int i] = .ok (.str (fg i)) := by
  show when (decide (i.natAbs < 2 ^ 250)) (R.ok (PV.str (fg i))) = _
  rw [yes (by have : (10 : Int) ^ 62 < 2 ^ 250 := by decide
              omega)]
  rfl
theorem Z5r : ∀ {xs : List PV}, xs.all Z2i = true -> eqds xs xs = true := by
  have one : ∀ {x : PV}, x.flat = true -> eqd x x = true := fun {x} h => by cases x <;> first | (cases h; done) | simp [eqd]
  have row : ∀ {xs : List PV}, xs.all PV.flat = true -> eqds xs xs = true := fun {xs} h => by
    induction xs with
    | nil => rfl
    | cons x xs ih =>
      rw [List.all_cons, Bool.and_eq_true] at h
      show (eqd x x && eqds xs xs) = true
      rw [one h.1, ih h.2]; rfl
  intro xs h
  induction xs with
  | nil => rfl
  | cons x xs ih =>
    rw [List.all_cons, Bool.and_eq_true] at h
    show (eqd x x && eqds xs xs) = true
    rw [ih h.2, Bool.and_true]
    by_cases hl : ∃ ys, x = .lst ys
    . obtain ⟨ys, rfl⟩ := hl
      exact row h.1
    . exact one (by cases x <;> first | exact h.1 | exact (hl ⟨_, rfl⟩).elim)
theorem Zg5 (x : Str) (l u : Option Int) : cutS x l u = StrLaws.sliceText x l u := by
  unfold cutS StrLaws.sliceText
  simp
theorem Zeo {x : Str} {i : Nat} (h : i <= x.length) : sg (cutS x (some (i : Int)) none) = (sg x).drop i := by
  have hl := Z21 x
  rw [Zg5, StrLaws.sliceText_from (by unfold sg at hl; omega)]
  show ((sg x).drop _).take _ = _
  rw [Int.toNat_natCast, List.take_of_length_le]
  rw [List.length_drop]
  have : (x.cps.toList.length : Int) = (sg x).length := rfl
  omega
theorem Z4y {x : Str} (h : 1 <= x.length) : ∃ c r, sg x = c :: r := by
  have := Z21 x
  cases e : sg x with
  | nil => rw [e] at this; simp at this; omega
  | cons c r => exact ⟨c, r, rfl⟩
theorem Z3e (c : Nat) : sg ⟨#[c]⟩ = [c] := rfl
theorem Z78 {α : Type} (xs : List α) (r : Nat) (h : r <= xs.length) : cut xs (some (r : Int)) none = xs.drop r := by
  unfold cut sIx
  simp only [show ¬ ((r : Int) < 0) by omega, if_false, Int.toNat_natCast, Nat.min_eq_left h]
  rw [List.take_of_length_le (by simp)]
theorem Zbm {α : Type} (xs : List α) (r : Nat) : cut xs none (some (r : Int)) = xs.take r := by
  unfold cut sIx
  simp only [show ¬ ((r : Int) < 0) by omega, if_false, Int.toNat_natCast, List.drop_zero, Nat.sub_zero]
  by_cases h : r <= xs.length
  . rw [Nat.min_eq_left h]
  . rw [Nat.min_eq_right (by omega), List.take_of_length_le (Nat.le_refl _), List.take_of_length_le (by omega)]
theorem Zc7 (i : Int) : atI abc.cps.toList (i % 26) = some (97 + (i % 26).toNat) := by
  have e : abc.cps.toList = (List.range 26).map (· + 97) := by decide +kernel
  obtain ⟨k, hk⟩ : ∃ k : Nat, i % 26 = k := ⟨(i % 26).toNat, by omega⟩
  have hk' : k < 26 := by omega
  rw [hk, Z1v, e]
  simp [hk', Nat.add_comm]
theorem Z4z (c n : Nat) : sg (repS ⟨#[c]⟩ n) = List.replicate n c := by
  unfold repS sg
  simp
theorem Z2q {elt : Ev} {s : Env} {g : PV -> PV} : ∀ {xs : List PV}, (∀ x ∈ xs, elt (s ++ [some x]) = .ok (g x)) -> Zt tYes elt s xs = .ok (xs.map g)
  | [], _ => rfl
  | x :: r, h => by
    unfold Zt
    rw [Z2q fun y m => h y (List.mem_cons_of_mem _ m), h x List.mem_cons_self]
    rfl
theorem Z6a (a b c : Str) : a ++ b ++ c = a ++ (b ++ c) := Zbf (by simp only [Z1c, List.append_assoc])
theorem Z2o : Str.ofString " " = sp := rfl
theorem Z20 : sp.length = 1 := by decide +kernel
theorem Z7g : ∀ ts : List Str, Z12 (ts.map .str) = .ok ts
  | [] => rfl
  | t :: ts => by
    show (Z12 (ts.map .str)).map (t :: ·) = _
    rw [Z7g ts]; rfl
theorem Z7b {ts : List Str} {B : Nat} (hB : ∀ t ∈ ts, t.length <= B) (h1 : B <= 1000) (h2 : ts.length <= 300) : Z58 (.str sp) (.lst (ts.map .str)) = .ok (.str (Str.join sp ts)) := by
  show (Z12 (ts.map .str)).bind _ = _
  rw [Z7g, R.bind_ok, List.length_map, yes (show ts.length <= 1000 by omega)]
  have j : JoinOk sp ts = true := by
    unfold JoinOk
    rw [StrLaws.joinFits hB (by
      have : ts.length * B <= 300 * 1000 := Nat.mul_le_mul h2 h1
      rw [Z20]
      omega)]
    rfl
  rw [j]
  show R.ok (PV.str (Txt.join sp ts)) = _
  unfold Txt.join
  rw [StrLaws.glued_eq_join]
theorem jn4 (x a b c : Str) : Str.join sp [x, a, b, c] = x ++ sp ++ a ++ sp ++ b ++ sp ++ c := by
  show x ++ sp ++ (a ++ sp ++ (b ++ sp ++ c)) = _
  simp only [Z6a]
theorem jnT (x a : Str) (ts : List Str) (h : ts ≠ []) : Str.join sp (x :: a :: ts) = x ++ sp ++ a ++ sp ++ Str.join sp ts := by
  cases ts with
  | nil => exact (h rfl).elim
  | cons t ts =>
    show x ++ sp ++ (a ++ sp ++ Str.join sp (t :: ts)) = _
    simp only [Z6a]
end B
namespace B
open PySem
theorem Zf5 (c : Nat) (y : Str) : inS ⟨#[c]⟩ y = decide (c ∈ sg y) := StrLaws.found_one y c
theorem abc_sg : sg abc = (List.range 26).map (· + 97) := by decide +kernel
theorem Z9z (c : Nat) : c ∈ sg abc ↔ 97 <= c /\ c <= 122 := by
  rw [abc_sg]
  simp only [List.mem_map, List.mem_range]
  exact ⟨fun ⟨k, h, e⟩ => by omega, fun h => ⟨c - 97, by omega, by omega⟩⟩
def ten : Str := Str.ofString "0123456789"
theorem ten_eq : Str.ofString "0123456789" = ten := rfl
theorem ten_sg : sg ten = (List.range 10).map (· + 48) := by decide +kernel
theorem Zel (c : Nat) : c ∈ sg ten ↔ 48 <= c /\ c <= 57 := by
  rw [ten_sg]
  simp only [List.mem_map, List.mem_range]
  exact ⟨fun ⟨k, h, e⟩ => by omega, fun h => ⟨c - 48, by omega, by omega⟩⟩
theorem Zep {e : Env} {i : Nat} (h : e.length = i) (x : PV) : eV i (e ++ [some x]) = .ok x := by
  unfold eV
  rw [List.getElem?_append_right (by omega), show i - e.length = 0 by omega]
  rfl
theorem Z9r {e : Env} {i : Nat} (h : e.length = i) (y : Str) (cs : List Nat) : Zt tYes (e2 oIn (eV i) (eK (.str y))) e (cs.map fun c => .str ⟨#[c]⟩) = .ok (cs.map fun c => .bl (decide (c ∈ sg y))) := by
  rw [Z2q (g := fun x => match x with | .str t => .bl (inS t y) | _ => .non)]
  . rw [List.map_map]
    congr 1
    apply List.map_congr_left
    intro c _
    show PV.bl (inS ⟨#[c]⟩ y) = _
    rw [Zf5]
  . intro x hx
    obtain ⟨c, _, rfl⟩ := List.mem_map.mp hx
    unfold e2
    rw [Zep h]
    rfl
theorem Z45 : ∀ bs : List Bool, Z1y (bs.map .bl) = .ok bs
  | [] => rfl
  | b :: r => by
    show (Z1y (r.map .bl)).map (b :: ·) = _
    rw [Z45 r]; rfl
theorem Z7q (f : Nat -> Bool) (cs : List Nat) : allB (cs.map fun c => .bl (f c)) = .ok (cs.all f) := by
  unfold allB
  rw [show (cs.map fun c => PV.bl (f c)) = (cs.map f).map .bl by rw [List.map_map]; rfl, Z45]
  simp [R.map, List.all_map]
def nmB (s : Str) : Bool := decide (1 <= s.length) && decide (s.length <= 8) && (sg s).all fun c => decide (c ∈ sg abc)
theorem Z49 (s : Str) : nmB s = true ↔ Nm s := by
  unfold nmB
  simp only [Bool.and_eq_true, decide_eq_true_eq, List.all_eq_true]
  exact ⟨fun ⟨⟨a, b⟩, c⟩ => ⟨a, b, fun x m => (Z9z x).mp (c x m)⟩, fun h => ⟨⟨h.pos, h.le⟩, fun x m => (Z9z x).mpr (h.let_ x m)⟩⟩
def noB (k : Nat) (s : Str) : Bool := decide (1 <= s.length) && decide (s.length <= k) && (decide (s.length = 1) || !decide ((sg s).head? = some 48)) && (sg s).all fun c => decide (c ∈ sg ten)
theorem noB_fg {n : Int} {k : Nat} (h : 0 <= n) (hk : 0 < k) (h1 : n < 10 ^ k) : noB k (fg n) = true := by
  unfold noB
  simp only [Bool.and_eq_true, decide_eq_true_eq, List.all_eq_true, Bool.or_eq_true, Bool.not_eq_true', decide_eq_false_iff_not]
  refine ⟨⟨⟨Zcl n h, Z1p h hk h1⟩, ?_⟩, fun c m => (Zel c).mpr (Z7n h c m)⟩
  by_cases z : n = 0
  . subst z
    exact .inl (by rw [Zem]; decide +kernel)
  . exact .inr (Zfw (by omega))
theorem Z2n {ts : List Str} {B : Nat} (h0 : ts ≠ []) (h : ∀ t ∈ ts, 32 ∉ sg t) (hB : ∀ t ∈ ts, t.length <= B) (h1 : B <= 1000) (h2 : ts.length <= 300) : Z3b (.str (Str.join sp ts)) (.str sp) = .ok (.lst (ts.map .str)) := by
  show when _ (R.ok (PV.lst ((Txt.split (Str.join sp ts) sp).map .str))) = _
  rw [Zag h0 h]
  have j1 := StrLaws.join_length_le sp ts
  have j2 := StrLaws.sumLen_le (B := B) ts hB
  have : ts.length * B <= 300 * 1000 := Nat.mul_le_mul h2 h1
  rw [Z20] at j1
  rw [Z20, yes (show 0 < 1 by omega), yes (show (Str.join sp ts).length <= 1000000 by omega), yes (show ts.length <= 1000000 by omega)]
  rfl
def Za4 (m : Str) (tb : List (Str × (List PV -> R PV))) : PV -> R PV
  | .ins c fs => when (fld fs m).isNone (match tb.lookup c with
    | some g => g [.ins c fs]
    | none => .no)
  | _ => .no
theorem meth0 (m : Str) (tb : List (Str × (List PV -> R PV))) (o : Ev) (s : Env) : Z31 m tb o [] s = (o s).bind (Za4 m tb) := by
  unfold Z31
  cases o s with
  | ok x => cases x <;> rfl
  | err c => rfl
  | no => rfl
end B
namespace B
open PySem
theorem nd_iff (ts : List Str) : (∀ i (h : i < ts.length), ts[i] ∉ ts.take i) ↔ ts.Nodup := by
  rw [List.nodup_iff_pairwise_ne, List.pairwise_iff_getElem]
  constructor
  . intro h i j hi hj hij e
    exact h j hj (by rw [List.mem_take_iff_getElem]; exact ⟨i, by omega, e⟩)
  . intro h i hi m
    obtain ⟨j, hj, e⟩ := List.getElem_of_mem m
    rw [List.length_take] at hj
    rw [List.getElem_take] at e
    exact h j i (by omega) hi (by omega) e
def hsB (ts : List Str) : Bool := ts.all nmB && decide ts.Nodup
theorem Z5p (ts : List Str) : hsB ts = true ↔ (∀ t ∈ ts, Nm t) /\ ts.Nodup := by
  unfold hsB
  rw [Bool.and_eq_true, List.all_eq_true, decide_eq_true_eq]
  exact ⟨fun ⟨a, b⟩ => ⟨fun t m => (Z49 t).mp (a t m), b⟩, fun ⟨a, b⟩ => ⟨fun t m => (Z49 t).mpr (a t m), b⟩⟩
theorem Zay (ts : List Str) : (ts.map PV.str).all PV.flat = true := by
  rw [List.all_eq_true]
  intro x hx
  obtain ⟨t, _, rfl⟩ := List.mem_map.mp hx
  rfl
end B
namespace B
open PySem
def kw (s : String) : Str := Str.ofString s
end B
namespace B
open PySem
theorem Zb9 (g : Nat -> Str) : ∀ i, (met g i).Nodup /\ ∀ q, q ∈ met g i ↔ ∃ j, j < i /\ g j = q
  | 0 => ⟨List.nodup_nil, fun q => ⟨(fun m => by cases m), (fun ⟨j, h, _⟩ => by omega)⟩⟩
  | i + 1 => by
    obtain ⟨h1, h2⟩ := Zb9 g i
    rw [met]
    by_cases h : g i ∈ met g i
    . rw [if_pos h]
      refine ⟨h1, fun q => (h2 q).trans ⟨fun ⟨j, a, b⟩ => ⟨j, by omega, b⟩, fun ⟨j, a, b⟩ => ?_⟩⟩
      by_cases e : j = i
      . rw [e] at b; exact (h2 q).mp (b ▸ h)
      . exact ⟨j, by omega, b⟩
    . rw [if_neg h]
      refine ⟨?_, fun q => ?_⟩
      . rw [List.nodup_append]
        exact ⟨h1, by simp, fun a ha b hb e => h (by rw [List.mem_singleton] at hb; rw [<- hb, <- e]; exact ha)⟩
      . rw [List.mem_append, List.mem_singleton, h2]
        constructor
        . rintro (⟨j, a, b⟩ | e)
          . exact ⟨j, by omega, b⟩
          . exact ⟨i, by omega, e.symm⟩
        . rintro ⟨j, a, b⟩
          by_cases e : j = i
          . rw [e] at b; exact .inr b.symm
          . exact .inl ⟨j, by omega, b⟩
theorem Z75 (g : Nat -> Str) : ∀ i, (met g i).length <= i /\ ((met g i).length = i ↔ ∀ j, j < i -> g j ∉ met g j)
  | 0 => ⟨Nat.le_refl 0, ⟨fun _ j h => by omega, fun _ => rfl⟩⟩
  | i + 1 => by
    obtain ⟨h1, h2⟩ := Z75 g i
    rw [met]
    by_cases h : g i ∈ met g i
    . rw [if_pos h]
      exact ⟨by omega, ⟨fun e => by omega, fun q => (q i (by omega) h).elim⟩⟩
    . rw [if_neg h, List.length_append, List.length_singleton]
      refine ⟨by omega, ⟨fun e j hj => ?_, fun q => ?_⟩⟩
      . by_cases z : j = i
        . rw [z]; exact h
        . exact h2.mp (by omega) j (by omega)
      . have := h2.mpr fun j hj => q j (by omega)
        omega
theorem Zdn (ts : List Str) : (once ts).length = ts.length ↔ ts.Nodup := by
  unfold once
  rw [(Z75 _ _).2, <- nd_iff]
  have gd : ∀ j (h : j < ts.length), ts.getD j default = ts[j] := fun j h => by rw [List.getD_eq_getElem?_getD, List.getElem?_eq_getElem h]; rfl
  have mm : ∀ j (h : j < ts.length), ts[j] ∈ met (fun i => ts.getD i default) j ↔ ts[j] ∈ ts.take j := fun j h => by
    rw [(Zb9 _ _).2, List.mem_take_iff_getElem]
    constructor
    . rintro ⟨k, hk, e⟩
      exact ⟨k, by omega, by rw [<- e, gd k (by omega)]⟩
    . rintro ⟨k, hk, e⟩
      exact ⟨k, by omega, by rw [gd k (by omega)]; exact e⟩
  constructor
  . intro h j hj m
    exact h j hj (by rw [gd j hj]; exact (mm j hj).mpr m)
  . intro h j hj m
    rw [gd j hj] at m
    exact h j hj ((mm j hj).mp m)
end B
namespace B
open PySem
theorem some13 (i : Int) (h0 : 0 <= i) (h1 : i < 13) : ∃ s, atI [PV.str (Str.ofString "join"), .str (Str.ofString "trust"), .str (Str.ofString "pay"), .str (Str.ofString "turn"), .str (Str.ofString "leave"), .str (Str.ofString "owes"), .str (Str.ofString "room"), .str (Str.ofString "stands"), .str (Str.ofString "most"), .str (Str.ofString "high"), .str (Str.ofString "low"), .str (Str.ofString "bar"), .str (Str.ofString "houses")] i = some (.str s) /\ Nm s := by
  obtain ⟨x, hx, hm⟩ := Zcq [PV.str (Str.ofString "join"), .str (Str.ofString "trust"), .str (Str.ofString "pay"), .str (Str.ofString "turn"), .str (Str.ofString "leave"), .str (Str.ofString "owes"), .str (Str.ofString "room"), .str (Str.ofString "stands"), .str (Str.ofString "most"), .str (Str.ofString "high"), .str (Str.ofString "low"), .str (Str.ofString "bar"), .str (Str.ofString "houses")] i h0 (by show _ < (13 : Int); omega)
  rw [hx]
  simp only [List.mem_cons, List.not_mem_nil, or_false] at hm
  rcases hm with rfl | rfl | rfl | rfl | rfl | rfl | rfl | rfl | rfl | rfl | rfl | rfl | rfl <;> exact ⟨_, rfl, by decide +kernel, by decide +kernel, by decide +kernel⟩
theorem Z9i (c : Int) (h0 : 0 <= c) : ∃ s, f_t [.int c] = .ok (.str s) /\ Nm s := by
  simp -implicitDefEqProofs only [Int.reduceLT, decide_true, evs, start, bz, f_t, y_t]
  by_cases h1 : c % 5 = 1
  . obtain ⟨s, hs, hn⟩ := some13 (c / 5 % 13) (by omega) (by omega)
    simp -implicitDefEqProofs only [if_true, bz, Z2g h1, hs]
    exact ⟨s, rfl, hn⟩
  simp -implicitDefEqProofs only [Int.reduceLT, decide_true, if_false, bz, Z2j h1, Z6v, Z7i 0 (1 + c % 2147483647 / 5 % 8) 1 (by omega) (by omega) (by omega) (by omega) (by omega) (by omega)]
  have hm0 : 0 <= c % 2147483647 := by omega
  have hm1 : c % 2147483647 < 2147483647 := by omega
  have hn0 : 0 <= c % 2147483647 / 5 % 8 := by omega
  have hn1 : c % 2147483647 / 5 % 8 < 8 := by omega
  generalize c % 2147483647 / 5 % 8 = n at *
  generalize c % 2147483647 = m at *
  generalize PV.lst [PV.str (Str.ofString "join"), _, _, _, _, _, _, _, _, _, _, _, _] = some_
  obtain ⟨s', hs, num, w, k, e, hl, hw, q0, q1⟩ := Z6j (body := at_ 4 b_t_1)
    (fun i s => ∃ (num : Int) (w : Str) (k : Option PV), s = [some (.int c), some some_, some (.int num), some (.str w), k] /\ w.length = i /\ (∀ x ∈ sg w, 97 <= x /\ x <= 122) /\ 0 <= num /\ num < 2147483647)
    (Zi 0 (1 + n) 1) [some (.int c), some some_, some (.int m), some (.str (Str.ofString "")), none] ⟨_, _, _, rfl, by decide +kernel, (fun x hx => by rw [show sg (Str.ofString "") = [] by decide +kernel] at hx; cases hx), hm0, hm1⟩ (by
      rintro i x s hx ⟨num, w, k, rfl, hl, hw, q0, q1⟩
      obtain ⟨rfl, hi, _⟩ := Z3q hx
      have hi' : i < 8 := by omega
      obtain ⟨c', hc', hc2⟩ := Zc1 ((num * num + 48271 * num + (0 + 1 * (i : Int)) + 7) % 2147483647 / 64)
      refine ⟨_, .inl ?_, ⟨(num * num + 48271 * num + (0 + 1 * (i : Int)) + 7) % 2147483647, w ++ ⟨#[c']⟩, some (.int (0 + 1 * (i : Int))), rfl, ?_, fun x hx => ?_, by omega, by omega⟩⟩
      . simp -implicitDefEqProofs only [Int.reduceLT, decide_true, bz, at_, b_t_1, Z84, hc', Z4p, Z1n, hl, Z7t num _ (by omega) (by omega), Z7t 48271 _ (by omega) (by omega), fits (show i + 1 <= 100000 by omega)]
      . rw [Z18, Z1n, hl]
      . rw [Z1c] at hx
        rcases List.mem_append.mp hx with hx | hx
        . exact hw x hx
        . have : x = c' := by simpa [sg] using hx
          subst this
          exact Zfa hc2)
  subst e
  simp -implicitDefEqProofs only [bz, hs]
  refine ⟨w, rfl, ?_, ?_, hw⟩
  . rw [hl, Z2d]; simp; omega
  . rw [hl, Z2d]; simp; omega
theorem Zby (c top : Int) (h0 : 0 <= c) (h1 : 9 <= top) : ∃ n, f_u [.int c, .int top] = .ok (.int n) /\ 0 <= n /\ n <= top := by
  simp -implicitDefEqProofs only [Int.reduceLT, decide_true, start, bz, f_u, y_u]
  by_cases a : c % 4 = 0
  . simp -implicitDefEqProofs only [if_true, bz, Z2g a]
    exact ⟨_, rfl, by omega, by omega⟩
  simp -implicitDefEqProofs only [Int.reduceLT, decide_true, if_false, bz, Z2j a]
  by_cases b : c % 4 = 1
  . simp -implicitDefEqProofs only [if_true, bz, Z2g b]
    exact ⟨_, rfl, by omega, by omega⟩
  simp -implicitDefEqProofs only [Int.reduceLT, decide_true, if_false, bz, Z2j b, pos_ (top + 1) (by omega)]
  have q : 0 <= c / 4 := by omega
  exact ⟨_, rfl, Int.emod_nonneg _ (by omega), by have := Int.emod_lt_of_pos (c / 4) (show 0 < top + 1 by omega); omega⟩
theorem two_ok (c : Int) (h0 : 0 <= c) : ∃ a b, f_x [.int c] = .ok (.tup [.str a, .str b]) /\ Nm a /\ Nm b /\ a ≠ b := by
  obtain ⟨a, ha, na⟩ := Z9i c h0
  obtain ⟨b, hb, nb⟩ := Z9i (c / 5 + 3) (by omega)
  simp -implicitDefEqProofs only [Int.reduceLT, Z1d, decide_true, evs, start, bz, f_x, y_x, ha, hb, Ze9]
  by_cases e : a = b
  . subst e
    obtain ⟨x, r, hx⟩ := Z4y na.pos
    have hat : atI a.cps.toList 0 = some x := by
      have : atI (sg a) ((0 : Nat) : Int) = (sg a)[0]? := Z1v _ 0
      rw [hx] at this
      rw [show a.cps.toList = x :: r from hx]
      exact this
    have tail : sg (cutS a (some 1) none) = r := by
      have := Zeo (x := a) (i := 1) na.pos
      rw [hx] at this
      exact this
    have hl := na.le
    have hlr : r.length + 1 = a.length := by rw [<- Z21 a, hx]; rfl
    have lt : (cutS a (some 1) none).length = r.length := by rw [<- Z21, tail]
    have mk : ∀ (y : Nat), 97 <= y -> y <= 122 -> Nm (⟨#[y]⟩ ++ cutS a (some 1) none) := fun y h1 h2 => ⟨by rw [Z18, Z1n]; omega, by rw [Z18, Z1n, lt]; omega, fun z hz => by
      rw [Z1c, Z3e, tail] at hz
      rcases List.mem_append.mp hz with hz | hz
      . have : z = y := by simpa using hz
        omega
      . exact na.let_ z (by rw [hx]; exact List.mem_cons_of_mem _ hz)⟩
    have bs : Str.ofString "b" = ⟨#[98]⟩ := by decide +kernel
    have as_ : Str.ofString "a" = ⟨#[97]⟩ := by decide +kernel
    simp -implicitDefEqProofs only [decide_true, if_true, bz, hat, fits (show a.length <= 100000 by omega), bs, as_, Z1n, lt, fits (show 1 + r.length <= 100000 by omega)]
    by_cases ex : x = 97
    . subst ex
      simp -implicitDefEqProofs only [decide_true, evs, if_true, bz]
      refine ⟨a, _, rfl, na, mk 98 (by decide) (by decide), fun z => ?_⟩
      have := congrArg sg z
      rw [hx, Z1c, Z3e] at this
      simp at this
    . have ne : ¬ (⟨#[x]⟩ : Str) = ⟨#[97]⟩ := fun z => ex (by have := congrArg sg z; simpa [sg] using this)
      simp -implicitDefEqProofs only [evs, if_false, bz, nay ne]
      refine ⟨a, _, rfl, na, mk 97 (by decide) (by decide), fun z => ?_⟩
      have := congrArg sg z
      rw [hx, Z1c, Z3e] at this
      simp at this
      exact ex this.1
  . simp -implicitDefEqProofs only [evs, if_false, bz, nay e]
    exact ⟨a, b, rfl, na, nb, e⟩
def w8 : List Str := [Str.ofString "turn", Str.ofString "pay", Str.ofString "join", Str.ofString "leave", Str.ofString "trust", Str.ofString "owes", Str.ofString "low", Str.ofString "high"]
theorem w8_eq : [PV.str (Str.ofString "turn"), .str (Str.ofString "pay"), .str (Str.ofString "join"), .str (Str.ofString "leave"), .str (Str.ofString "trust"), .str (Str.ofString "owes"), .str (Str.ofString "low"), .str (Str.ofString "high")] = w8.map .str := rfl
theorem w8_nm : ∀ t ∈ w8, Nm t := by
  intro t h
  simp only [w8, List.mem_cons, List.not_mem_nil, or_false] at h
  rcases h with rfl | rfl | rfl | rfl | rfl | rfl | rfl | rfl <;> exact ⟨by decide +kernel, by decide +kernel, by decide +kernel⟩
theorem w8_nd : w8.Nodup := by decide +kernel
def rg (pl : Nat) (f b : Nat) (n : Nat) (be : Int) (k : Nat) : Str := repS ⟨#[f]⟩ pl ++ ⟨#[97 + ((be + 7 * (0 + 1 * (k : Int))) % 26).toNat]⟩ ++ repS ⟨#[b]⟩ n
theorem Zf8 (c m : Int) (h3 : 3 <= m) (h8 : m <= 8) : ∃ ts : List Str, f_v [.int c, .int m] = .ok (.lst (ts.map .str)) /\ (ts.length : Int) = m /\ (∀ t ∈ ts, Nm t) /\ ts.Nodup := by
  obtain ⟨mn, rfl⟩ : ∃ k : Nat, m = k := ⟨m.toNat, by omega⟩
  simp -implicitDefEqProofs only [Int.reduceLT, Z1d, decide_true, evs, start, bz, f_v, y_v, cmul_r _ 48271 (by omega) (by omega)]
  generalize (c % 2147483647 * 48271 + 11) % 2147483647 = N
  by_cases h1 : N % 3 = 1
  . obtain ⟨r, hr⟩ : ∃ k : Nat, N / 3 % 8 = k := ⟨(N / 3 % 8).toNat, by omega⟩
    have hr8 : r < 8 := by omega
    have l8 : w8.length = 8 := rfl
    simp -implicitDefEqProofs only [if_true, Z2g h1, hr, w8_eq]
    rw [Z78 _ r (by rw [List.length_map, l8]; omega), Zbm]
    simp -implicitDefEqProofs only [bz, List.length_drop, List.length_take, List.length_map, l8, fits (show 8 - r + min r 8 <= 100000 by omega)]
    rw [Zbm]
    refine ⟨(w8.drop r ++ w8.take r).take mn, by simp [List.map_take, List.map_drop], ?_, fun t ht => ?_, ?_⟩
    . rw [List.length_take, List.length_append, List.length_drop, List.length_take, l8]; omega
    . have := List.mem_of_mem_take ht
      rcases List.mem_append.mp this with q | q
      . exact w8_nm t (List.mem_of_mem_drop q)
      . exact w8_nm t (List.mem_of_mem_take q)
    . refine List.Nodup.sublist (List.take_sublist _ _) ?_
      have p : (w8.drop r ++ w8.take r).Perm w8 := by
        have := List.perm_append_comm (l₁ := w8.drop r) (l₂ := w8.take r)
        rwa [List.take_append_drop] at this
      exact p.symm.nodup w8_nd
  . have hz0 : 0 <= N / 3 % 8 := by omega
    have hz1 : N / 3 % 8 < 8 := by omega
    generalize hz : N / 3 % 8 = z at *
    obtain ⟨zn, rfl⟩ : ∃ k : Nat, z = k := ⟨z.toNat, by omega⟩
    obtain ⟨pl, hpl⟩ : ∃ k : Nat, N / 24 % (1 + zn) = k := ⟨(N / 24 % (1 + zn)).toNat, by have := Int.emod_nonneg (N / 24) (show (1 + (zn : Int)) ≠ 0 by omega); omega⟩
    have hpl2 : pl < 1 + zn := by have := Int.emod_lt_of_pos (N / 24) (show 0 < 1 + (zn : Int) by omega); omega
    obtain ⟨q, hq⟩ : ∃ q : Nat, 1 + (zn : Int) - 1 - pl = q := ⟨(1 + (zn : Int) - 1 - pl).toNat, by omega⟩
    simp -implicitDefEqProofs only [Int.reduceLT, decide_true, if_false, bz, Z2j h1, Z84, Zc7, Z4p, hz, pos_ (1 + (zn : Int)) (by omega), hpl, hq, Z1n, Nat.one_mul, Int.toNat_natCast, yes (Int.natCast_nonneg pl), yes (Int.natCast_nonneg q), yes (show (pl : Int) <= 1000 by omega), yes (show (q : Int) <= 1000 by omega), yes (show pl <= 1000 by omega), yes (show q <= 1000 by omega), Z6v, Z7i 0 mn 1 (by omega) (by omega) (by omega) (by omega) (by omega) (by omega)]
    generalize N / 129792 % 26 = be
    generalize hf : 97 + (N / 192 % 26).toNat = f
    generalize hb : 97 + (N / 4992 % 26).toNat = b
    have hf' : 97 <= f /\ f <= 122 := by omega
    have hb' : 97 <= b /\ b <= 122 := by omega
    have hlen : (Zi 0 (mn : Int) 1).length < Zn := by rw [Z2d]; simp; show mn < Zn; exact Nat.lt_of_lt_of_le (show mn < 100 by omega) (by decide)
    rw [yes hlen]
    have hcomp : ∀ s : Env, s[2]? = some (some (.str abc)) -> s[7]? = some (some (.str (repS ⟨#[f]⟩ pl))) -> s[8]? = some (some (.str (repS ⟨#[b]⟩ q))) -> s[9]? = some (some (.int be)) -> s.length = 10 ->
        Zt tYes (e2 oAdd (e2 oAdd (eV 7) (e2 oIx (eV 2) (e2 oMod (e2 oAdd (eV 9) (e2 oMul (eK (.int 7)) (eV 10))) (eK (.int 26))))) (eV 8)) s (Zi 0 (mn : Int) 1) = .ok ((Zi 0 (mn : Int) 1).map fun x => match x with | .int k => .str (rg pl f b q be k.toNat) | x => x) := fun s e2' e7 e8 e9 el => by
      refine Z2q fun x hx => ?_
      obtain ⟨i, hi⟩ := List.getElem?_of_mem hx
      obtain ⟨rfl, hi', _⟩ := Z3q hi
      have hi8 : i < 8 := by omega
      have e10 : (s ++ [some (.int (0 + 1 * (i : Int)))])[10]? = some (some (.int (0 + 1 * (i : Int)))) := by rw [List.getElem?_append_right (by omega)]; simp [el]
      have a2 : (s ++ [some (.int (0 + 1 * (i : Int)))])[2]? = s[2]? := List.getElem?_append_left (by omega)
      have a7 : (s ++ [some (.int (0 + 1 * (i : Int)))])[7]? = s[7]? := List.getElem?_append_left (by omega)
      have a8 : (s ++ [some (.int (0 + 1 * (i : Int)))])[8]? = s[8]? := List.getElem?_append_left (by omega)
      have a9 : (s ++ [some (.int (0 + 1 * (i : Int)))])[9]? = s[9]? := List.getElem?_append_left (by omega)
      simp -implicitDefEqProofs only [Int.reduceLT, decide_true, bz, a2, a7, a8, a9, e10, e2', e7, e8, e9, Z7t 7 _ (by omega) (by omega), Zc7, Z4p, Z18, Z5n, Z1n, Nat.mul_one, fits (show pl + 1 <= 100000 by omega), fits (show pl + 1 + q <= 100000 by omega)]
      have : (0 + 1 * (i : Int)).toNat = i := by omega
      rw [this]
      rfl
    rw [hcomp _ rfl rfl rfl rfl rfl]
    simp -implicitDefEqProofs only [bz]
    refine ⟨(List.range mn).map (rg pl f b q be), ?_, by simp, fun t ht => ?_, ?_⟩
    . rw [Z2d]
      simp only [Int.sub_zero, Int.toNat_natCast, List.map_map]
      congr 2
      apply List.map_congr_left
      intro k _
      simp
    . obtain ⟨k, hk, rfl⟩ := List.mem_map.mp ht
      unfold rg
      refine ⟨by rw [Z18, Z18, Z1n]; omega, by simp only [Z18, Z5n, Z1n]; omega, fun x hx => ?_⟩
      rw [Z1c, Z1c, Z4z, Z4z, Z3e] at hx
      simp only [List.mem_append, List.mem_replicate, List.mem_singleton] at hx
      rcases hx with (⟨_, rfl⟩ | rfl) | ⟨_, rfl⟩
      . exact hf'
      . omega
      . exact hb'
    . rw [List.nodup_iff_pairwise_ne, List.pairwise_map]
      refine List.Pairwise.imp_of_mem ?_ List.nodup_range
      intro i j hi hj hne heq
      have hi := List.mem_range.mp hi
      have hj := List.mem_range.mp hj
      have := congrArg sg heq
      unfold rg at this
      rw [Z1c, Z1c, Z1c, Z1c, Z4z, Z4z, Z3e, Z3e] at this
      have := List.append_cancel_right this
      have := List.append_cancel_left this
      simp at this
      apply hne
      omega
inductive Made : Int -> List PV -> Str -> Prop where
  | join {a : Str} (ha : Nm a) : Made 0 [.str a] (Str.join sp [kw "join", a])
  | trust {a b : Str} {n : Int} (ha : Nm a) (hb : Nm b) (ne : a ≠ b) (h0 : 0 <= n) (h1 : n < 10 ^ 59) : Made 1 [.str a, .str b, .int n] (Str.join sp [kw "trust", a, b, fg n])
  | pay {a b : Str} {n : Int} (ha : Nm a) (hb : Nm b) (ne : a ≠ b) (h0 : 1 <= n) (h1 : n < 10 ^ 60) : Made 2 [.str a, .str b, .int n] (Str.join sp [kw "pay", a, b, fg n])
  | turn {ts : List Str} {n : Int} (ht : ∀ t ∈ ts, Nm t) (nd : ts.Nodup) (l3 : 3 <= ts.length) (l8 : ts.length <= 8) (h0 : 1 <= n) (h1 : n < 10 ^ 60) : Made 3 [.lst (ts.map .str), .int n] (Str.join sp (kw "turn" :: fg n :: ts))
  | leave {a : Str} (ha : Nm a) : Made 4 [.str a] (Str.join sp [kw "leave", a])
theorem Zfp (h o t : Int) (h0 : 0 <= h) (o0 : 0 <= o) (t0 : 0 <= t) : ∃ k th tx, f_s [.int h, .int o, .int t] = .ok (.tup [.int k, .tup th, .str tx]) /\ Made k th tx := by
  obtain ⟨a, b, hab, na, nb, ne⟩ := two_ok o o0
  have la := na.le
  have lb := nb.le
  have p59 : (10 : Int) ^ 59 = 10 ^ 59 := rfl
  obtain ⟨n1, hn1, g1, g2⟩ := Zby t (10 ^ 59 - 1) t0 (by omega)
  obtain ⟨n2, hn2, g3, g4⟩ := Zby t (10 ^ 60 - 1) t0 (by omega)
  have ek1 : Str.ofString "join " = kw "join" ++ sp := by decide +kernel
  have ek2 : Str.ofString "trust " = kw "trust" ++ sp := by decide +kernel
  have ek3 : Str.ofString "pay " = kw "pay" ++ sp := by decide +kernel
  have ek4 : Str.ofString "turn " = kw "turn" ++ sp := by decide +kernel
  have ek5 : Str.ofString "leave " = kw "leave" ++ sp := by decide +kernel
  have l1 : (kw "join").length = 4 := by decide +kernel
  have l2 : (kw "trust").length = 5 := by decide +kernel
  have l3 : (kw "pay").length = 3 := by decide +kernel
  have l4 : (kw "turn").length = 4 := by decide +kernel
  have l5 : (kw "leave").length = 5 := by decide +kernel
  have q59 : oPow (.int 10) (.int 59) = .ok (.int (10 ^ 59)) := Z44 10 59 (by decide) (by decide) (by decide) (by decide)
  have q60 : oPow (.int 10) (.int 60) = .ok (.int (10 ^ 60)) := Z44 10 60 (by decide) (by decide) (by decide) (by decide)
  have f59 : (10 : Int) ^ 59 - 1 < 10 ^ 59 := by omega
  have kk : ∀ n : Int, 0 <= n -> n < 10 ^ 60 -> (fg n).length <= 60 := fun n a b => Z1p a (by decide) b
  have p5 : (10 : Int) ^ 59 < 10 ^ 60 := by decide
  have p6 : (10 : Int) ^ 60 < 10 ^ 62 := by decide
  simp -implicitDefEqProofs only [Int.reduceLT, Nat.reduceAdd, decide_true, evs, if_true, Z2s, start, bz, f_s, y_s, sUnp, hab]
  by_cases c0 : h % 5 = 0
  . simp -implicitDefEqProofs only [Nat.reduceAdd, if_true, bz, Z2g c0, ek1, Z18, l1, Z20, fits (show 4 + 1 + a.length <= 100000 by omega)]
    rw [c0]
    exact ⟨_, _, _, rfl, .join na⟩
  simp -implicitDefEqProofs only [Int.reduceLE, Int.reduceLT, Int.reduceNeg, Int.reduceToNat, decide_true, evs, if_false, bz, Z2j c0]
  by_cases c1 : h % 5 = 1
  . have lf := kk n1 g1 (by omega)
    simp -implicitDefEqProofs only [Nat.reduceAdd, evs, if_true, bz, Z2g c1, q59, hn1, Z3s g1 (show n1 < 10 ^ 62 by omega), ek2, Z2o, Z18, l2, Z20, fits (show 5 + 1 + a.length <= 100000 by omega), fits (show 5 + 1 + a.length + 1 <= 100000 by omega), fits (show 5 + 1 + a.length + 1 + b.length <= 100000 by omega), fits (show 5 + 1 + a.length + 1 + b.length + 1 <= 100000 by omega), fits (show 5 + 1 + a.length + 1 + b.length + 1 + (fg n1).length <= 100000 by omega)]
    rw [c1]
    exact ⟨_, _, _, rfl, by rw [<- jn4]; exact .trust na nb ne g1 (by omega)⟩
  simp -implicitDefEqProofs only [evs, if_false, bz, Z2j c1, q60, hn2, Zd0]
  obtain ⟨n, hn, i0, i1⟩ : ∃ n : Int, (if n2 > 1 then n2 else 1) = n /\ 1 <= n /\ n < 10 ^ 60 := ⟨_, rfl, by split <;> omega, by split <;> omega⟩
  rw [hn]
  have lf := kk n (by omega) i1
  by_cases c2 : h % 5 = 2
  . simp -implicitDefEqProofs only [Nat.reduceAdd, if_true, bz, Z2g c2, Z3s (show 0 <= n by omega) (show n < 10 ^ 62 by omega), ek3, Z2o, Z18, l3, Z20, fits (show 3 + 1 + a.length <= 100000 by omega), fits (show 3 + 1 + a.length + 1 <= 100000 by omega), fits (show 3 + 1 + a.length + 1 + b.length <= 100000 by omega), fits (show 3 + 1 + a.length + 1 + b.length + 1 <= 100000 by omega), fits (show 3 + 1 + a.length + 1 + b.length + 1 + (fg n).length <= 100000 by omega)]
    rw [c2]
    exact ⟨_, _, _, rfl, by rw [<- jn4]; exact .pay na nb ne i0 i1⟩
  simp -implicitDefEqProofs only [Int.reduceLT, decide_true, evs, if_false, bz, Z2j c2]
  by_cases c3 : h % 5 = 3
  . obtain ⟨ts, hts, lt, nt, nd⟩ := Zf8 o (3 + h / 5 % 6) (by omega) (by omega)
    have lj : (Str.join sp ts).length <= 1000 := by
      have j1 := StrLaws.join_length_le sp ts
      have j2 := StrLaws.sumLen_le (B := 8) ts fun t ht => (nt t ht).le
      rw [Z20] at j1
      omega
    simp -implicitDefEqProofs only [Nat.reduceAdd, evs, if_true, bz, Z2g c3, hts, Z3s (show 0 <= n by omega) (show n < 10 ^ 62 by omega), ek4, Z2o, eSM, isS, Z7b (B := 8) (fun t ht => (nt t ht).le) (by omega) (show ts.length <= 300 by omega), Z18, l4, Z20, fits (show 4 + 1 + (fg n).length <= 100000 by omega), fits (show 4 + 1 + (fg n).length + 1 <= 100000 by omega), fits (show 4 + 1 + (fg n).length + 1 + (Str.join sp ts).length <= 100000 by omega)]
    rw [c3]
    exact ⟨_, _, _, rfl, by rw [<- jnT _ _ _ (fun e => by rw [e] at lt; simp at lt; omega)]; exact .turn nt nd (by omega) (by omega) i0 i1⟩
  simp -implicitDefEqProofs only [Nat.reduceAdd, evs, if_false, bz, Z2j c3, ek5, Z18, l5, Z20, fits (show 5 + 1 + a.length <= 100000 by omega)]
  have c4 : h % 5 = 4 := by omega
  rw [c4]
  exact ⟨_, _, _, rfl, .leave na⟩
end B
namespace B
open PySem
inductive DD : Int -> List PV -> PV -> Prop where
  | join (a : Str) : DD 0 [.str a] (.ins (kw "Join") [(kw "house", .str a)])
  | trust (a b : Str) (n : Int) : DD 1 [.str a, .str b, .int n] (.ins (kw "Trust") [(kw "one", .str a), (kw "other", .str b), (kw "line", .int n)])
  | pay (a b : Str) (n : Int) : DD 2 [.str a, .str b, .int n] (.ins (kw "Pay") [(kw "payer", .str a), (kw "taker", .str b), (kw "amount", .int n)])
  | turn (ts : List Str) (n : Int) : DD 3 [.lst (ts.map .str), .int n] (.ins (kw "Turn") [(kw "ring", .lst (ts.map .str)), (kw "amount", .int n)])
  | leave (a : Str) : DD 4 [.str a] (.ins (kw "Leave") [(kw "house", .str a)])
theorem Zck {k : Int} {th : List PV} {d : PV} (h : DD k th d) : f_w [d, .int k] = .ok (.tup th) := by
  cases h <;> rfl
theorem Z4g {k : Int} {th : List PV} {d : PV} (h : DD k th d) : th.all Z2i = true := by
  cases h with
  | turn ts n => show ((ts.map PV.str).all PV.flat && true) = true; rw [Zay]; rfl
  | _ => rfl
theorem Z8p {k : Int} {th : List PV} {d : PV} (h : DD k th d) : oNe2 (.tup th) (.tup th) = .ok (.bl false) := by
  rw [Zdr, Z4g h, Z5r (Z4g h)]; rfl
theorem Z3f (e : Ev) (s : Env) (xs : List PV) : modAt (Z36 e s) none (.lst xs) = (e s).bind fun y => when (decide (xs.length < Zn)) (.ok (.lst (xs ++ [y]))) := rfl
theorem rng5 : rngV (.int 0) (.int 5) (.int 1) = .ok (Zi 0 5 1) := rfl
theorem len5 : decide ((Zi 0 5 1).length < Zn) = true := by decide
theorem Z51 : decide (4 < Zn) = true := by decide
theorem Z92 (fs : List (Str × PV)) : isA knN keN [(Str.ofString "Join")] (fun _ => false) (.ins (kw "Join") fs) = .ok (.bl true) := rfl
theorem Z8e (fs : List (Str × PV)) : isA knN keN [(Str.ofString "Trust")] (fun _ => false) (.ins (kw "Join") fs) = .ok (.bl false) := rfl
theorem Zaw (fs : List (Str × PV)) : isA knN keN [(Str.ofString "Pay")] (fun _ => false) (.ins (kw "Join") fs) = .ok (.bl false) := rfl
theorem Z8s (fs : List (Str × PV)) : isA knN keN [(Str.ofString "Turn")] (fun _ => false) (.ins (kw "Join") fs) = .ok (.bl false) := rfl
theorem Z8k (fs : List (Str × PV)) : isA knN keN [(Str.ofString "Leave")] (fun _ => false) (.ins (kw "Join") fs) = .ok (.bl false) := rfl
theorem Zdh (fs : List (Str × PV)) : isA knN keN [(Str.ofString "Deed"), (Str.ofString "Join"), (Str.ofString "Trust"), (Str.ofString "Pay"), (Str.ofString "Turn"), (Str.ofString "Leave")] (fun _ => false) (.ins (kw "Join") fs) = .ok (.bl true) := rfl
theorem Z7k (fs : List (Str × PV)) : isA knN keN [(Str.ofString "Join")] (fun _ => false) (.ins (kw "Trust") fs) = .ok (.bl false) := rfl
theorem Z6p (fs : List (Str × PV)) : isA knN keN [(Str.ofString "Trust")] (fun _ => false) (.ins (kw "Trust") fs) = .ok (.bl true) := rfl
theorem Z8v (fs : List (Str × PV)) : isA knN keN [(Str.ofString "Pay")] (fun _ => false) (.ins (kw "Trust") fs) = .ok (.bl false) := rfl
theorem Z7d (fs : List (Str × PV)) : isA knN keN [(Str.ofString "Turn")] (fun _ => false) (.ins (kw "Trust") fs) = .ok (.bl false) := rfl
theorem Z6o (fs : List (Str × PV)) : isA knN keN [(Str.ofString "Leave")] (fun _ => false) (.ins (kw "Trust") fs) = .ok (.bl false) := rfl
theorem Zcm (fs : List (Str × PV)) : isA knN keN [(Str.ofString "Deed"), (Str.ofString "Join"), (Str.ofString "Trust"), (Str.ofString "Pay"), (Str.ofString "Turn"), (Str.ofString "Leave")] (fun _ => false) (.ins (kw "Trust") fs) = .ok (.bl true) := rfl
theorem Zaz (fs : List (Str × PV)) : isA knN keN [(Str.ofString "Join")] (fun _ => false) (.ins (kw "Pay") fs) = .ok (.bl false) := rfl
theorem Z8r (fs : List (Str × PV)) : isA knN keN [(Str.ofString "Trust")] (fun _ => false) (.ins (kw "Pay") fs) = .ok (.bl false) := rfl
theorem Zc3 (fs : List (Str × PV)) : isA knN keN [(Str.ofString "Pay")] (fun _ => false) (.ins (kw "Pay") fs) = .ok (.bl true) := rfl
theorem Zao (fs : List (Str × PV)) : isA knN keN [(Str.ofString "Turn")] (fun _ => false) (.ins (kw "Pay") fs) = .ok (.bl false) := rfl
theorem Z8x (fs : List (Str × PV)) : isA knN keN [(Str.ofString "Leave")] (fun _ => false) (.ins (kw "Pay") fs) = .ok (.bl false) := rfl
theorem Zfn (fs : List (Str × PV)) : isA knN keN [(Str.ofString "Deed"), (Str.ofString "Join"), (Str.ofString "Trust"), (Str.ofString "Pay"), (Str.ofString "Turn"), (Str.ofString "Leave")] (fun _ => false) (.ins (kw "Pay") fs) = .ok (.bl true) := rfl
theorem Z8y (fs : List (Str × PV)) : isA knN keN [(Str.ofString "Join")] (fun _ => false) (.ins (kw "Turn") fs) = .ok (.bl false) := rfl
theorem Z72 (fs : List (Str × PV)) : isA knN keN [(Str.ofString "Trust")] (fun _ => false) (.ins (kw "Turn") fs) = .ok (.bl false) := rfl
theorem Zaq (fs : List (Str × PV)) : isA knN keN [(Str.ofString "Pay")] (fun _ => false) (.ins (kw "Turn") fs) = .ok (.bl false) := rfl
theorem Z8t (fs : List (Str × PV)) : isA knN keN [(Str.ofString "Turn")] (fun _ => false) (.ins (kw "Turn") fs) = .ok (.bl true) := rfl
theorem Z7a (fs : List (Str × PV)) : isA knN keN [(Str.ofString "Leave")] (fun _ => false) (.ins (kw "Turn") fs) = .ok (.bl false) := rfl
theorem Zdj (fs : List (Str × PV)) : isA knN keN [(Str.ofString "Deed"), (Str.ofString "Join"), (Str.ofString "Trust"), (Str.ofString "Pay"), (Str.ofString "Turn"), (Str.ofString "Leave")] (fun _ => false) (.ins (kw "Turn") fs) = .ok (.bl true) := rfl
theorem Z7f (fs : List (Str × PV)) : isA knN keN [(Str.ofString "Join")] (fun _ => false) (.ins (kw "Leave") fs) = .ok (.bl false) := rfl
theorem Z6m (fs : List (Str × PV)) : isA knN keN [(Str.ofString "Trust")] (fun _ => false) (.ins (kw "Leave") fs) = .ok (.bl false) := rfl
theorem Z93 (fs : List (Str × PV)) : isA knN keN [(Str.ofString "Pay")] (fun _ => false) (.ins (kw "Leave") fs) = .ok (.bl false) := rfl
theorem Z7y (fs : List (Str × PV)) : isA knN keN [(Str.ofString "Turn")] (fun _ => false) (.ins (kw "Leave") fs) = .ok (.bl false) := rfl
theorem Z6k (fs : List (Str × PV)) : isA knN keN [(Str.ofString "Leave")] (fun _ => false) (.ins (kw "Leave") fs) = .ok (.bl true) := rfl
theorem Zce (fs : List (Str × PV)) : isA knN keN [(Str.ofString "Deed"), (Str.ofString "Join"), (Str.ofString "Trust"), (Str.ofString "Pay"), (Str.ofString "Turn"), (Str.ofString "Leave")] (fun _ => false) (.ins (kw "Leave") fs) = .ok (.bl true) := rfl
theorem five0 (d t l : PV) : Zt tYes (e2 oEq2 (eV 5) (eV 1)) [some d, some (.int 0), some t, some l, none] (Zi 0 5 1) = .ok [.bl true, .bl false, .bl false, .bl false, .bl false] := rfl
theorem same0 : List.all (α := PV) [.bl true, .bl false, .bl false, .bl false, .bl false] PV.flat = true /\ eqds [.bl true, .bl false, .bl false, .bl false, .bl false] [.bl true, .bl false, .bl false, .bl false, .bl false] = true := ⟨rfl, rfl⟩
theorem five1 (d t l : PV) : Zt tYes (e2 oEq2 (eV 5) (eV 1)) [some d, some (.int 1), some t, some l, none] (Zi 0 5 1) = .ok [.bl false, .bl true, .bl false, .bl false, .bl false] := rfl
theorem same1 : List.all (α := PV) [.bl false, .bl true, .bl false, .bl false, .bl false] PV.flat = true /\ eqds [.bl false, .bl true, .bl false, .bl false, .bl false] [.bl false, .bl true, .bl false, .bl false, .bl false] = true := ⟨rfl, rfl⟩
theorem five2 (d t l : PV) : Zt tYes (e2 oEq2 (eV 5) (eV 1)) [some d, some (.int 2), some t, some l, none] (Zi 0 5 1) = .ok [.bl false, .bl false, .bl true, .bl false, .bl false] := rfl
theorem same2 : List.all (α := PV) [.bl false, .bl false, .bl true, .bl false, .bl false] PV.flat = true /\ eqds [.bl false, .bl false, .bl true, .bl false, .bl false] [.bl false, .bl false, .bl true, .bl false, .bl false] = true := ⟨rfl, rfl⟩
theorem five3 (d t l : PV) : Zt tYes (e2 oEq2 (eV 5) (eV 1)) [some d, some (.int 3), some t, some l, none] (Zi 0 5 1) = .ok [.bl false, .bl false, .bl false, .bl true, .bl false] := rfl
theorem same3 : List.all (α := PV) [.bl false, .bl false, .bl false, .bl true, .bl false] PV.flat = true /\ eqds [.bl false, .bl false, .bl false, .bl true, .bl false] [.bl false, .bl false, .bl false, .bl true, .bl false] = true := ⟨rfl, rfl⟩
theorem five4 (d t l : PV) : Zt tYes (e2 oEq2 (eV 5) (eV 1)) [some d, some (.int 4), some t, some l, none] (Zi 0 5 1) = .ok [.bl false, .bl false, .bl false, .bl false, .bl true] := rfl
theorem same4 : List.all (α := PV) [.bl false, .bl false, .bl false, .bl false, .bl true] PV.flat = true /\ eqds [.bl false, .bl false, .bl false, .bl false, .bl true] [.bl false, .bl false, .bl false, .bl false, .bl true] = true := ⟨rfl, rfl⟩
theorem is_ok {k : Int} {th : List PV} {d : PV} (h : DD k th d) : f_r [d, .int k, .tup th] = .ok (.bl true) := by
  have q1 := Zck h
  have q3 := Z8p h
  unfold f_r y_r
  cases h with
  | join a => simp -implicitDefEqProofs only [Int.reduceBEq, Nat.reduceAdd, evs, if_false, if_true, start, bz, Z92, Z8e, Zaw, Z8s, Z8k, Zdh, sMod, Z3f, Z51, rng5, len5, five0, same0, q1, q3, show ∀ (x y : PV), atI [x, y] (-1) = some y from fun _ _ => rfl, show ∀ (x y : PV), atI [x, y] 0 = some x from fun _ _ => rfl, show ∀ (x y z : PV), atI [x, y, z] (-1) = some z from fun _ _ _ => rfl, show ∀ (x y z : PV), atI [x, y, z] 0 = some x from fun _ _ _ => rfl, Z3a, Z3d, show isKb .int .int = true from rfl, show isKb .bl .int = false from rfl, show isKb .lst .lst = true from rfl]
  | trust a b n => simp -implicitDefEqProofs only [Int.reduceBEq, Int.reduceNeg, Nat.reduceAdd, evs, if_false, if_true, start, bz, Z7k, Z6p, Z8v, Z7d, Z6o, Zcm, sMod, Z3f, Z51, rng5, len5, five1, same1, q1, q3, show ∀ (x y : PV), atI [x, y] (-1) = some y from fun _ _ => rfl, show ∀ (x y : PV), atI [x, y] 0 = some x from fun _ _ => rfl, show ∀ (x y z : PV), atI [x, y, z] (-1) = some z from fun _ _ _ => rfl, show ∀ (x y z : PV), atI [x, y, z] 0 = some x from fun _ _ _ => rfl, Z3a, Z3d, show isKb .int .int = true from rfl, show isKb .bl .int = false from rfl, show isKb .lst .lst = true from rfl]
  | pay a b n => simp -implicitDefEqProofs only [Int.reduceBEq, Int.reduceNeg, Nat.reduceAdd, evs, if_false, if_true, start, bz, Zaz, Z8r, Zc3, Zao, Z8x, Zfn, sMod, Z3f, Z51, rng5, len5, five2, same2, q1, q3, show ∀ (x y : PV), atI [x, y] (-1) = some y from fun _ _ => rfl, show ∀ (x y : PV), atI [x, y] 0 = some x from fun _ _ => rfl, show ∀ (x y z : PV), atI [x, y, z] (-1) = some z from fun _ _ _ => rfl, show ∀ (x y z : PV), atI [x, y, z] 0 = some x from fun _ _ _ => rfl, Z3a, Z3d, show isKb .int .int = true from rfl, show isKb .bl .int = false from rfl, show isKb .lst .lst = true from rfl]
  | turn ts n => simp -implicitDefEqProofs only [Int.reduceBEq, Int.reduceNeg, Nat.reduceAdd, evs, if_false, if_true, start, bz, Z8y, Z72, Zaq, Z8t, Z7a, Zdj, sMod, Z3f, Z51, rng5, len5, five3, same3, q1, q3, show ∀ (x y : PV), atI [x, y] (-1) = some y from fun _ _ => rfl, show ∀ (x y : PV), atI [x, y] 0 = some x from fun _ _ => rfl, show ∀ (x y z : PV), atI [x, y, z] (-1) = some z from fun _ _ _ => rfl, show ∀ (x y z : PV), atI [x, y, z] 0 = some x from fun _ _ _ => rfl, Z3a, Z3d, show isKb .int .int = true from rfl, show isKb .bl .int = false from rfl, show isKb .lst .lst = true from rfl]
  | leave a => simp -implicitDefEqProofs only [Int.reduceBEq, Nat.reduceAdd, evs, if_false, if_true, start, bz, Z7f, Z6m, Z93, Z7y, Z6k, Zce, sMod, Z3f, Z51, rng5, len5, five4, same4, q1, q3, show ∀ (x y : PV), atI [x, y] (-1) = some y from fun _ _ => rfl, show ∀ (x y : PV), atI [x, y] 0 = some x from fun _ _ => rfl, show ∀ (x y z : PV), atI [x, y, z] (-1) = some z from fun _ _ _ => rfl, show ∀ (x y z : PV), atI [x, y, z] 0 = some x from fun _ _ _ => rfl, Z3a, Z3d, show isKb .int .int = true from rfl, show isKb .bl .int = false from rfl, show isKb .lst .lst = true from rfl]
end B
namespace B
open PySem
theorem Z5x {a : Str} (h : a.length <= 100000) : f_12 [.str a] = .ok (.bl (nmB a)) := by
  simp -implicitDefEqProofs only [evs, if_false, start, bz, f_12, y_12, Z5i, show isKb .str .str = true from rfl, fits h]
  unfold nmB
  by_cases h1 : a.length < 1
  . simp -implicitDefEqProofs only [if_true, bz, yes (show (a.length : Int) < 1 by omega), nay (show ¬ 1 <= a.length by omega)]
  by_cases h2 : a.length > 8
  . simp -implicitDefEqProofs only [if_false, if_true, bz, nay (show ¬ (a.length : Int) < 1 by omega), yes (show (8 : Int) < a.length by omega), nay (show ¬ a.length <= 8 by omega), yes (show 1 <= a.length by omega)]
  have hl : (a.cps.toList.map fun c => PV.str ⟨#[c]⟩).length < Zn := by rw [List.length_map]; show (sg a).length < _; rw [Z21]; exact Nat.lt_of_lt_of_le (show a.length < 100 by omega) (by decide)
  rw [List.length_map] at hl
  simp -implicitDefEqProofs only [evs, if_false, bz, nay (show ¬ (a.length : Int) < 1 by omega), nay (show ¬ (8 : Int) < a.length by omega), yes (show a.length <= 8 by omega), yes (show 1 <= a.length by omega), yes hl, Z84]
  rw [Z9r (i := 1) rfl]
  simp -implicitDefEqProofs only [bz, Z7q (fun c => decide (c ∈ sg abc))]
def rowT : List (Str × (List PV -> R PV)) := [((Str.ofString "Deed"), f_2), ((Str.ofString "Join"), f_6), ((Str.ofString "Trust"), f_j), ((Str.ofString "Pay"), f_f), ((Str.ofString "Turn"), f_n), ((Str.ofString "Leave"), f_a)]
theorem Z9n : [((Str.ofString "Deed"), f_2), ((Str.ofString "Join"), f_6), ((Str.ofString "Trust"), f_j), ((Str.ofString "Pay"), f_f), ((Str.ofString "Turn"), f_n), ((Str.ofString "Leave"), f_a)] = rowT := rfl
def rowV : PV -> R PV := Za4 (Str.ofString "row") rowT
theorem Z9h : Za4 (Str.ofString "row") rowT = rowV := rfl
structure Kws : Prop where
  l1 : (kw "join").length = 4
  l2 : (kw "trust").length = 5
  l3 : (kw "pay").length = 3
  l4 : (kw "turn").length = 4
  l5 : (kw "leave").length = 5
  s1 : 32 ∉ sg (kw "join")
  s2 : 32 ∉ sg (kw "trust")
  s3 : 32 ∉ sg (kw "pay")
  s4 : 32 ∉ sg (kw "turn")
  s5 : 32 ∉ sg (kw "leave")
theorem kws : Kws := ⟨by decide +kernel, by decide +kernel, by decide +kernel, by decide +kernel, by decide +kernel, by decide +kernel, by decide +kernel, by decide +kernel, by decide +kernel, by decide +kernel⟩
def wT : PV -> Str
  | .str a => a
  | .int n => fg n
  | _ => sp
theorem Z4o {xs : List PV} (hx : ∀ x ∈ xs, cStr [x] = .ok (.str (wT x)) /\ (wT x).length <= 1000) (hl : xs.length <= 300) : f_1b [.lst xs] = .ok (.str (Str.join sp (xs.map wT))) := by
  have hc : Zt tYes (eN cStr [eV 1]) [some (.lst xs)] xs = .ok (xs.map fun x => .str (wT x)) := Z2q fun x m => (hx x m).1
  have hj : Z58 (.str sp) (.lst (xs.map fun x => .str (wT x))) = .ok (.str (Str.join sp (xs.map wT))) := by
    have := Z7b (ts := xs.map wT) (B := 1000) (by intro t m; obtain ⟨x, mx, rfl⟩ := List.mem_map.mp m; exact (hx x mx).2) (by omega) (by simpa using hl)
    rw [List.map_map] at this
    exact this
  simp -implicitDefEqProofs only [start, bz, f_1b, y_1b, eSM, isS, Z2o, hc, hj, yes (show xs.length < Zn from Nat.lt_of_le_of_lt hl (by decide))]
theorem Z3n {a : Str} {k : Nat} (h : a.length <= k) (hk : k <= 1000) : cStr [.str a] = .ok (.str (wT (.str a))) /\ (wT (.str a)).length <= 1000 := ⟨rfl, Nat.le_trans h hk⟩
theorem w_int {n : Int} (h0 : 0 <= n) (h1 : n < 10 ^ 60) : cStr [.int n] = .ok (.str (wT (.int n))) /\ (wT (.int n)).length <= 1000 := ⟨Z3s h0 (Int.lt_trans h1 (by decide)), Nat.le_trans (Z1p h0 (k := 60) (by decide) h1) (by decide)⟩
theorem row2 {x a : Str} (hx : x.length <= 8) (ha : a.length <= 8) : f_1b [.lst [.str x, .str a]] = .ok (.str (Str.join sp [x, a])) :=
  Z4o (xs := [.str x, .str a]) (by intro y m; simp only [List.mem_cons, List.not_mem_nil, or_false] at m; rcases m with rfl | rfl; exact Z3n hx (by decide); exact Z3n ha (by decide)) (by simp)
theorem row4 {x a b : Str} {n : Int} (hx : x.length <= 8) (ha : a.length <= 8) (hb : b.length <= 8) (h0 : 0 <= n) (h1 : n < 10 ^ 60) : f_1b [.lst [.str x, .str a, .str b, .int n]] = .ok (.str (Str.join sp [x, a, b, fg n])) :=
  Z4o (xs := [.str x, .str a, .str b, .int n]) (by intro y m; simp only [List.mem_cons, List.not_mem_nil, or_false] at m; rcases m with rfl | rfl | rfl | rfl; exact Z3n hx (by decide); exact Z3n ha (by decide); exact Z3n hb (by decide); exact w_int h0 h1) (by simp)
theorem rowN {x : Str} {n : Int} {ts : List Str} (hx : x.length <= 8) (h0 : 0 <= n) (h1 : n < 10 ^ 60) (ht : ∀ t ∈ ts, t.length <= 8) (hl : ts.length <= 200) : f_1b [.lst (.str x :: .int n :: ts.map .str)] = .ok (.str (Str.join sp (x :: fg n :: ts))) := by
  have := Z4o (xs := .str x :: .int n :: ts.map .str) (by
    intro y m
    rcases List.mem_cons.mp m with rfl | m
    . exact Z3n hx (by decide)
    rcases List.mem_cons.mp m with rfl | m
    . exact w_int h0 h1
    obtain ⟨t, mt, rfl⟩ := List.mem_map.mp m
    exact Z3n (ht t mt) (by decide)) (by simp; omega)
  rw [this]
  simp only [List.map_cons, List.map_map]
  rw [show wT ∘ PV.str = id from rfl, List.map_id]
  rfl
theorem Zd7 (a : Str) (h : a.length <= 8) : rowV (.ins (kw "Join") [(kw "house", .str a)]) = .ok (.str (Str.join sp [kw "join", a])) := by
  show f_6 [.ins (kw "Join") [(kw "house", .str a)]] = _
  simp -implicitDefEqProofs only [evs, start, bz, f_6, y_6, show oAtt [(Str.ofString "Join"), (Str.ofString "Leave")] (Str.ofString "house") (.ins (kw "Join") [(kw "house", .str a)]) = .ok (.str a) from rfl, show Str.ofString "join" = kw "join" from rfl, row2 (show (kw "join").length <= 8 by rw [kws.l1]; decide) h]
theorem Zbj (a : Str) (h : a.length <= 8) : rowV (.ins (kw "Leave") [(kw "house", .str a)]) = .ok (.str (Str.join sp [kw "leave", a])) := by
  show f_a [.ins (kw "Leave") [(kw "house", .str a)]] = _
  simp -implicitDefEqProofs only [evs, start, bz, f_a, y_a, show oAtt [(Str.ofString "Join"), (Str.ofString "Leave")] (Str.ofString "house") (.ins (kw "Leave") [(kw "house", .str a)]) = .ok (.str a) from rfl, show Str.ofString "leave" = kw "leave" from rfl, row2 (show (kw "leave").length <= 8 by rw [kws.l5]; decide) h]
theorem Zcj (a b : Str) (n : Int) (ha : a.length <= 8) (hb : b.length <= 8) (h0 : 0 <= n) (h1 : n < 10 ^ 60) : rowV (.ins (kw "Trust") [(kw "one", .str a), (kw "other", .str b), (kw "line", .int n)]) = .ok (.str (Str.join sp [kw "trust", a, b, fg n])) := by
  show f_j [.ins (kw "Trust") [(kw "one", .str a), (kw "other", .str b), (kw "line", .int n)]] = _
  simp -implicitDefEqProofs only [evs, start, bz, f_j, y_j, show oAtt [(Str.ofString "Trust")] (Str.ofString "one") (.ins (kw "Trust") [(kw "one", .str a), (kw "other", .str b), (kw "line", .int n)]) = .ok (.str a) from rfl, show oAtt [(Str.ofString "Trust")] (Str.ofString "other") (.ins (kw "Trust") [(kw "one", .str a), (kw "other", .str b), (kw "line", .int n)]) = .ok (.str b) from rfl, show oAtt [(Str.ofString "Trust")] (Str.ofString "line") (.ins (kw "Trust") [(kw "one", .str a), (kw "other", .str b), (kw "line", .int n)]) = .ok (.int n) from rfl, show Str.ofString "trust" = kw "trust" from rfl, row4 (show (kw "trust").length <= 8 by rw [kws.l2]; decide) ha hb h0 h1]
theorem Zg8 (a b : Str) (n : Int) (ha : a.length <= 8) (hb : b.length <= 8) (h0 : 0 <= n) (h1 : n < 10 ^ 60) : rowV (.ins (kw "Pay") [(kw "payer", .str a), (kw "taker", .str b), (kw "amount", .int n)]) = .ok (.str (Str.join sp [kw "pay", a, b, fg n])) := by
  show f_f [.ins (kw "Pay") [(kw "payer", .str a), (kw "taker", .str b), (kw "amount", .int n)]] = _
  simp -implicitDefEqProofs only [evs, start, bz, f_f, y_f, show oAtt [(Str.ofString "Pay")] (Str.ofString "payer") (.ins (kw "Pay") [(kw "payer", .str a), (kw "taker", .str b), (kw "amount", .int n)]) = .ok (.str a) from rfl, show oAtt [(Str.ofString "Pay")] (Str.ofString "taker") (.ins (kw "Pay") [(kw "payer", .str a), (kw "taker", .str b), (kw "amount", .int n)]) = .ok (.str b) from rfl, show oAtt [(Str.ofString "Pay"), (Str.ofString "Turn")] (Str.ofString "amount") (.ins (kw "Pay") [(kw "payer", .str a), (kw "taker", .str b), (kw "amount", .int n)]) = .ok (.int n) from rfl, show Str.ofString "pay" = kw "pay" from rfl, row4 (show (kw "pay").length <= 8 by rw [kws.l3]; decide) ha hb h0 h1]
theorem Zdu (ts : List Str) (n : Int) (ht : ∀ t ∈ ts, t.length <= 8) (hl : ts.length <= 200) (h0 : 0 <= n) (h1 : n < 10 ^ 60) : rowV (.ins (kw "Turn") [(kw "ring", .lst (ts.map .str)), (kw "amount", .int n)]) = .ok (.str (Str.join sp (kw "turn" :: fg n :: ts))) := by
  show f_n [.ins (kw "Turn") [(kw "ring", .lst (ts.map .str)), (kw "amount", .int n)]] = _
  simp -implicitDefEqProofs only [Nat.reduceAdd, evs, start, bz, f_n, y_n, yes (show 2 + ts.length <= Zn from Nat.le_trans (show 2 + ts.length <= 1000 by omega) (by decide)), show oAtt [(Str.ofString "Turn")] (Str.ofString "ring") (.ins (kw "Turn") [(kw "ring", .lst (ts.map .str)), (kw "amount", .int n)]) = .ok (.lst (ts.map .str)) from rfl, show oAtt [(Str.ofString "Pay"), (Str.ofString "Turn")] (Str.ofString "amount") (.ins (kw "Turn") [(kw "ring", .lst (ts.map .str)), (kw "amount", .int n)]) = .ok (.int n) from rfl, show Str.ofString "turn" = kw "turn" from rfl, rowN (show (kw "turn").length <= 8 by rw [kws.l4]; decide) h0 h1 ht hl]
end B
namespace B
open PySem
theorem Zcr (r : R PV) (e : Env) : fin (on r e Out.ret) = r := by cases r <;> rfl
theorem Zf6 : Str.ofString "0" = ⟨#[48]⟩ := by decide +kernel
theorem Z5t {a : Str} (h : a.length <= 100000) : f_16 [.str a] = if noB 60 a = true then Z59 [.str a] else .ok .non := by
  by_cases h1 : a.length < 1
  . have hn : noB 60 a = false := by unfold noB; rw [nay (show ¬ 1 <= a.length by omega)]; rfl
    simp -implicitDefEqProofs only [evs, if_false, if_true, start, bz, f_16, y_16, fits h, hn, yes (show (a.length : Int) < 1 by omega)]
  by_cases h2 : 60 < a.length
  . have hn : noB 60 a = false := by unfold noB; rw [nay (show ¬ a.length <= 60 by omega), Bool.and_false]; rfl
    simp -implicitDefEqProofs only [evs, if_false, if_true, start, bz, f_16, y_16, fits h, hn, nay (show ¬ (a.length : Int) < 1 by omega), yes (show (60 : Int) < a.length by omega)]
  obtain ⟨x, r, hx⟩ := Z4y (x := a) (by omega)
  have hat : atI a.cps.toList 0 = some x := by
    have : atI (sg a) ((0 : Nat) : Int) = (sg a)[0]? := Z1v _ 0
    rw [hx] at this
    rw [show a.cps.toList = x :: r from hx]
    exact this
  have hh : (sg a).head? = some x := by rw [hx]; rfl
  have zx : decide ((⟨#[x]⟩ : Str) = ⟨#[48]⟩) = decide (x = 48) := by
    by_cases e : x = 48
    . subst e; simp
    . rw [nay e, nay fun q => e (by have := congrArg sg q; simpa [sg] using this)]
  have hl : a.cps.toList.length < Zn := by show (sg a).length < _; rw [Z21]; exact Nat.lt_of_le_of_lt h (by decide)
  have c1 : decide ((a.length : Int) < 1) = false := nay (by omega)
  have c2 : decide ((60 : Int) < a.length) = false := nay (by omega)
  have hc := Z9r (e := [some (.str a)]) (i := 1) rfl ten (sg a)
  have ha := Z7q (fun c => decide (c ∈ sg ten)) (sg a)
  have hn : noB 60 a = ((decide (a.length = 1) || !decide (x = 48)) && (sg a).all fun c => decide (c ∈ sg ten)) := by
    unfold noB
    rw [yes (show 1 <= a.length by omega), yes (show a.length <= 60 by omega), hh]
    simp only [Option.some.injEq, Bool.and_self, Bool.true_and]
  rw [hn]
  simp -implicitDefEqProofs only [evs, if_false, start, bz, f_16, y_16, c1, c2, hat, ten_eq, yes hl, fits h]
  rw [show a.cps.toList = sg a from rfl, hc]
  simp -implicitDefEqProofs only [bz, ha]
  cases hf : (sg a).all fun c => decide (c ∈ sg ten) with
  | false => simp -implicitDefEqProofs only [if_false, if_true, bz, hf]
  | true =>
    simp -implicitDefEqProofs only [evs, if_false, bz, hf, Zf6, hat, zx, fits h]
    by_cases e : x = 48
    . by_cases f : a.length = 1
      . simp -implicitDefEqProofs only [evs, if_false, if_true, bz, zx, yes e, yes f, fits h, nay (show ¬ (1 : Int) < a.length by omega), Zcr]
      . simp -implicitDefEqProofs only [if_false, if_true, bz, zx, yes e, nay f, fits h, yes (show (1 : Int) < a.length by omega)]
    . simp -implicitDefEqProofs only [evs, if_false, if_true, bz, zx, nay e, fits h, Bool.or_true, Zcr]
theorem Zae {a : Str} (h : a.length <= 100000) (hb : noB 60 a = false) : f_16 [.str a] = .ok .non := by
  rw [Z5t h, hb]; rfl
theorem Z7j : f_10 [.non] = .ok (.bl false) := by
  have w : f_13 [.non] = .ok (.bl false) := rfl
  simp -implicitDefEqProofs only [Int.reduceLE, Int.reduceLT, Int.reduceNeg, Int.reduceToNat, decide_true, evs, if_false, start, bz, f_10, y_10, w]
theorem Z5u (n : Int) : f_11 [.int n] = .ok (.bl (decide (0 <= n) && decide (n < 10 ^ 59))) := by
  have w : f_13 [.int n] = .ok (.bl true) := rfl
  have p : oPow (.int 10) (.int 59) = .ok (.int (10 ^ 59)) := Z44 10 59 (by decide) (by decide) (by decide) (by decide)
  simp -implicitDefEqProofs only [evs, if_true, start, bz, f_11, y_11, w, p]
  by_cases h : 0 <= n
  . simp -implicitDefEqProofs only [if_true, bz, yes h]
  . simp -implicitDefEqProofs only [if_false, bz, nay h]
theorem Z29 (n : Int) : f_10 [.int n] = .ok (.bl (decide (1 <= n) && decide (n < 10 ^ 60))) := by
  have w : f_13 [.int n] = .ok (.bl true) := rfl
  have p : oPow (.int 10) (.int 60) = .ok (.int (10 ^ 60)) := Z44 10 60 (by decide) (by decide) (by decide) (by decide)
  simp -implicitDefEqProofs only [evs, if_true, start, bz, f_10, y_10, w, p]
  by_cases h : 1 <= n
  . simp -implicitDefEqProofs only [if_true, bz, yes h]
  . simp -implicitDefEqProofs only [if_false, bz, nay h]
theorem Z9q : ∀ us : List Str, Z12 (us.map .str) = .ok us
  | [] => rfl
  | u :: r => by
    show (Z12 (r.map .str)).map _ = _
    rw [Z9q r]; rfl
theorem Zbx {us : List Str} (hl : us.length <= 3900) : Z4d [.lst (us.map .str)] = .ok (.int (once us).length) := by
  show (Z12 (us.map .str)).bind _ = _
  rw [Z9q, R.bind_ok, yes (show us.length < 4000 by omega)]
  rfl
theorem Z3z {us : List Str} (hl : us.length <= 3900) (hs : ∀ u ∈ us, u.length <= 100000) : f_z [.lst (us.map .str)] = .ok (.bl (hsB us)) := by
  have hc : Zt tYes (eN f_12 [eV 1]) [some (.lst (us.map .str))] (us.map .str) = .ok ((us.map nmB).map .bl) := by
    rw [Z2q (g := fun x => match x with | .str u => .bl (nmB u) | x => x) (by
      intro x m
      obtain ⟨u, mu, rfl⟩ := List.mem_map.mp m
      exact Z5x (hs u mu)), List.map_map, List.map_map]
    rfl
  have ha : allB ((us.map nmB).map .bl) = .ok (us.all nmB) := by
    unfold allB
    rw [Z45, R.map_ok, List.all_map]
    rfl
  have lo := Zdn us
  simp -implicitDefEqProofs only [evs, start, bz, f_z, y_z, hc, ha, yes (show us.length < Zn from Nat.lt_of_le_of_lt hl (by decide))]
  unfold hsB
  cases us.all nmB with
  | false => simp -implicitDefEqProofs only [if_false, bz]
  | true =>
    simp -implicitDefEqProofs only [if_true, bz, Zbx hl, List.length_map]
    by_cases e : us.Nodup
    . rw [yes e, Z2g (by rw [lo.mpr e])]
    . rw [nay e, Z2j (fun q => e (lo.mp (by omega)))]
theorem int_fg {n : Int} (h0 : 0 <= n) (h1 : n < 10 ^ 60) : Z59 [.str (fg n)] = .ok (.int n) := by
  have lf := Z1p h0 (k := 60) (by decide) h1
  show when (decide ((fg n).length <= 640)) (Z1b ((intText? (fg n)).map PV.int)) = _
  rw [yes (show (fg n).length <= 640 by omega), fg_17 h0 (Int.lt_trans h1 (by decide))]
  rfl
theorem Z43 {n : Int} (h0 : 0 <= n) (h1 : n < 10 ^ 60) : f_16 [.str (fg n)] = .ok (.int n) := by
  rw [Z5t (Nat.le_trans (Z1p h0 (k := 60) (by decide) h1) (by decide)), if_pos (noB_fg h0 (by decide) h1), int_fg h0 h1]
inductive Dd : List Str -> PV -> Prop where
  | join {a : Str} (ha : Nm a) : Dd [kw "join", a] (.ins (kw "Join") [(kw "house", .str a)])
  | trust {a b : Str} {n : Int} (ha : Nm a) (hb : Nm b) (ne : a ≠ b) (h0 : 0 <= n) (h1 : n < 10 ^ 59) : Dd [kw "trust", a, b, fg n] (.ins (kw "Trust") [(kw "one", .str a), (kw "other", .str b), (kw "line", .int n)])
  | pay {a b : Str} {n : Int} (ha : Nm a) (hb : Nm b) (ne : a ≠ b) (h0 : 1 <= n) (h1 : n < 10 ^ 60) : Dd [kw "pay", a, b, fg n] (.ins (kw "Pay") [(kw "payer", .str a), (kw "taker", .str b), (kw "amount", .int n)])
  | turn {ts : List Str} {n : Int} (ht : ∀ t ∈ ts, Nm t) (nd : ts.Nodup) (l3 : 3 <= ts.length) (l8 : ts.length <= 8) (h0 : 1 <= n) (h1 : n < 10 ^ 60) : Dd (kw "turn" :: fg n :: ts) (.ins (kw "Turn") [(kw "ring", .lst (ts.map .str)), (kw "amount", .int n)])
  | leave {a : Str} (ha : Nm a) : Dd [kw "leave", a] (.ins (kw "Leave") [(kw "house", .str a)])
theorem dd_row {ws : List Str} {d : PV} (h : Dd ws d) : rowV d = .ok (.str (Str.join sp ws)) := by
  cases h with
  | join ha => exact Zd7 _ ha.le
  | trust ha hb ne h0 h1 => exact Zcj _ _ _ ha.le hb.le h0 (Int.lt_trans h1 (by decide))
  | pay ha hb ne h0 h1 => exact Zg8 _ _ _ ha.le hb.le (by omega) h1
  | turn ht nd l3 l8 h0 h1 => exact Zdu _ _ (fun t m => (ht t m).le) (by omega) (by omega) h1
  | leave ha => exact Zbj _ ha.le
end B
namespace B
open PySem
theorem Z2b : f_15 [.bl true] = .ok .non := by simp -implicitDefEqProofs only [if_false, start, bz, f_15, y_15]
theorem Z2r : f_15 [.bl false] = .err (Str.ofString "NoRow") := by simp -implicitDefEqProofs only [if_true, start, bz, f_15, y_15]
theorem a0P (x : PV) (r : List PV) : atI (x :: r) 0 = some x := Z1v (x :: r) 0
theorem a1P (x y : PV) (r : List PV) : atI (x :: y :: r) 1 = some y := Z1v (x :: y :: r) 1
theorem c2P (x y : PV) (r : List PV) : cut (x :: y :: r) (some 2) none = r := Z78 (x :: y :: r) 2 (by simp)
theorem i2P (x y : PV) : atI [x, y] 0 = some x /\ atI [x, y] 1 = some y := ⟨rfl, rfl⟩
theorem i4P (x y z w : PV) : atI [x, y, z, w] 0 = some x /\ atI [x, y, z, w] 1 = some y /\ atI [x, y, z, w] 2 = some z /\ atI [x, y, z, w] 3 = some w /\ cut [x, y, z, w] (some 1) (some 3) = [y, z] := ⟨rfl, rfl, rfl, rfl, rfl⟩
theorem kkP (h : Str) (s : String) : (h = Str.ofString s) = (h = kw s) := rfl
theorem Zbk {h a : Str} (ha : a.length <= 100000) : f_18 [.lst [.str h, .str a]] = if nmB a = true then .ok (.ins (kw (if h = kw "join" then "Join" else "Leave")) [(kw "house", .str a)]) else .err (Str.ofString "NoRow") := by
  have e : (((2 : Nat) : Int) == 2) = true := rfl
  simp -implicitDefEqProofs only [Nat.reduceAdd, evs, if_true, start, bz, f_18, y_18, e, i2P, Z5x ha]
  cases hn : nmB a with
  | false => simp -implicitDefEqProofs only [if_false, bz, Z2r]
  | true =>
    simp -implicitDefEqProofs only [evs, if_true, bz, Z2b, i2P, kkP]
    by_cases q : h = kw "join"
    . simp -implicitDefEqProofs only [decide_true, if_true, yes q, q]; rfl
    . simp -implicitDefEqProofs only [decide_false, evs, if_false, bz, nay q, q]; rfl
theorem Z9o {h a b : Str} {n : Int} (ha : a.length <= 100000) (hb : b.length <= 100000) (hn : hsB [a, b] = true) (n0 : 0 <= n) (n1 : n < 10 ^ 60) : f_1a [.lst [.str h, .str a, .str b, .str (fg n)]] = if h = kw "trust" then (if n < 10 ^ 59 then .ok (.ins (kw "Trust") [(kw "one", .str a), (kw "other", .str b), (kw "line", .int n)]) else .err (Str.ofString "NoRow")) else if 1 <= n then .ok (.ins (kw "Pay") [(kw "payer", .str a), (kw "taker", .str b), (kw "amount", .int n)]) else .err (Str.ofString "NoRow") := by
  have an : f_z [.lst [.str a, .str b]] = .ok (.bl (hsB [a, b])) := Z3z (us := [a, b]) (by simp) (fun u m => by simp only [List.mem_cons, List.not_mem_nil, or_false] at m; rcases m with rfl | rfl <;> assumption)
  simp -implicitDefEqProofs only [Nat.reduceAdd, Z1d, evs, if_true, start, bz, f_1a, y_1a, show (((4 : Nat) : Int) == 4) = true from rfl, i4P, an, hn, Z2b, Z43 n0 n1, kkP]
  by_cases q : h = kw "trust"
  . by_cases l : n < 10 ^ 59
    . simp -implicitDefEqProofs only [decide_true, evs, if_true, bz, yes q, q, Z5u, yes n0, yes l, l, Z2b, i4P]; rfl
    . simp -implicitDefEqProofs only [decide_false, decide_true, if_false, if_true, bz, yes q, q, Z5u, yes n0, nay l, l, Z2r]
  . by_cases l : 1 <= n
    . simp -implicitDefEqProofs only [decide_false, decide_true, evs, if_false, if_true, bz, nay q, q, Z29, yes n1, yes l, l, Z2b, i4P]; rfl
    . simp -implicitDefEqProofs only [decide_false, evs, if_false, bz, nay q, q, Z29, nay l, l, Z2r]
theorem Zds {h w : Str} {ts : List Str} (l3 : 3 <= ts.length) (l8 : ts.length <= 8) (hs : ∀ t ∈ ts, t.length <= 100000) (hw : w.length <= 100000) :
    (hsB ts = false -> f_19 [.lst (.str h :: .str w :: ts.map .str)] = .err (Str.ofString "NoRow")) /\
    (hsB ts = true -> noB 60 w = false -> f_19 [.lst (.str h :: .str w :: ts.map .str)] = .err (Str.ofString "NoRow")) /\
    ∀ n : Int, hsB ts = true -> w = fg n -> 0 <= n -> n < 10 ^ 60 -> f_19 [.lst (.str h :: .str w :: ts.map .str)] = if 1 <= n then .ok (.ins (kw "Turn") [(kw "ring", .lst (ts.map .str)), (kw "amount", .int n)]) else .err (Str.ofString "NoRow") := by
  have an := Z3z (us := ts) (by omega) hs
  have g1 : decide ((5 : Int) <= ((ts.length + 1 + 1 : Nat) : Int)) = true := yes (by omega)
  have g2 : decide (((ts.length + 1 + 1 : Nat) : Int) <= 10) = true := yes (by omega)
  refine ⟨fun hn => ?_, fun hn h2 => ?_, fun n hn e n0 n1 => ?_⟩
  . simp -implicitDefEqProofs only [Z1d, evs, if_true, start, bz, f_19, y_19, g1, g2, c2P, an, hn, Z2r]
  . simp -implicitDefEqProofs only [Z1d, evs, if_true, start, bz, f_19, y_19, g1, g2, c2P, a1P, an, hn, Z2b, Zae hw h2, Z7j, Z2r]
  . subst e
    by_cases l : 1 <= n
    . simp -implicitDefEqProofs only [Z1d, decide_true, evs, if_true, start, bz, f_19, y_19, g1, g2, c2P, a1P, an, hn, Z2b, Z43 n0 n1, Z29, yes n1, yes l, l]; rfl
    . simp -implicitDefEqProofs only [Z1d, decide_false, evs, if_false, if_true, start, bz, f_19, y_19, g1, g2, c2P, a1P, an, hn, Z2b, Z43 n0 n1, Z29, nay l, l, Z2r]
theorem flat1 (h : Str) (a b : Str) : ((PV.str h).flat && [PV.str a, PV.str b].all PV.flat) = true := rfl
theorem any2 (h a b : Str) : [PV.str a, PV.str b].any (fun y => eqd y (.str h)) = (decide (h = a) || decide (h = b)) := by
  have e : ∀ x y : Str, eqd (.str x) (.str y) = decide (y = x) := fun x y => by
    show decide (x = y) = _
    by_cases q : x = y
    . rw [yes q, yes q.symm]
    . rw [nay q, nay fun p => q p.symm]
  simp only [List.any_cons, List.any_nil, Bool.or_false, e]
theorem Z3m {t h : Str} {r : List Str} (q : Z3b (.str t) (.str sp) = .ok (.lst ((h :: r).map .str))) :
    f_17 [.str t] = if h = kw "join" \/ h = kw "leave" then f_18 [.lst (.str h :: r.map .str)] else if h = kw "trust" \/ h = kw "pay" then f_1a [.lst (.str h :: r.map .str)] else if h = kw "turn" then f_19 [.lst (.str h :: r.map .str)] else .err (Str.ofString "NoRow") := by
  have w : f_1c [.str t] = .ok (.lst (.str h :: r.map .str)) := by
    simp -implicitDefEqProofs only [if_false, start, bz, f_1c, y_1c, Z5i, show isKb .str .str = true from rfl, eSM, isS, Z2o, q]
  simp -implicitDefEqProofs only [evs, start, bz, f_17, y_17, w, a0P, flat1, any2, kkP]
  by_cases e1 : h = kw "join" \/ h = kw "leave"
  . rw [if_pos e1, show (decide (h = kw "join") || decide (h = kw "leave")) = true by simpa using e1]
    cases f_18 [.lst (.str h :: r.map .str)] <;> simp -implicitDefEqProofs only [if_true, bz]
  rw [if_neg e1, show (decide (h = kw "join") || decide (h = kw "leave")) = false by simpa using e1]
  simp -implicitDefEqProofs only [evs, if_false, bz, a0P, flat1, any2, kkP]
  by_cases e2' : h = kw "trust" \/ h = kw "pay"
  . rw [if_pos e2', show (decide (h = kw "trust") || decide (h = kw "pay")) = true by simpa using e2']
    cases f_1a [.lst (.str h :: r.map .str)] <;> simp -implicitDefEqProofs only [if_true, bz]
  rw [if_neg e2', show (decide (h = kw "trust") || decide (h = kw "pay")) = false by simpa using e2']
  simp -implicitDefEqProofs only [evs, if_false, bz, a0P, kkP]
  by_cases e3 : h = kw "turn"
  . rw [if_pos e3, yes e3]
    simp -implicitDefEqProofs only [evs, bz, Z2b]
    cases f_19 [.lst (.str h :: r.map .str)] <;> simp -implicitDefEqProofs only [bz]
  . rw [if_neg e3, nay e3]
    simp -implicitDefEqProofs only [bz, Z2r]
theorem Zbz {t : Str} {ws : List Str} {d : PV} (q : Z3b (.str t) (.str sp) = .ok (.lst (ws.map .str))) (h : Dd ws d) : f_17 [.str t] = .ok d := by
  cases h with
  | @join a ha =>
    rw [Z3m q, if_pos (.inl rfl)]
    show f_18 [.lst [.str (kw "join"), .str a]] = _
    rw [Zbk (Nat.le_trans ha.le (by decide)), if_pos ((Z49 _).mpr ha), if_pos rfl]
  | @leave a ha =>
    rw [Z3m q, if_pos (.inr rfl)]
    show f_18 [.lst [.str (kw "leave"), .str a]] = _
    rw [Zbk (Nat.le_trans ha.le (by decide)), if_pos ((Z49 _).mpr ha), if_neg (show ¬ kw "leave" = kw "join" by decide +kernel)]
  | @trust a b n ha hb ne h0 h1 =>
    rw [Z3m q, if_neg (by decide +kernel), if_pos (.inl rfl)]
    show f_1a [.lst [.str (kw "trust"), .str a, .str b, .str (fg n)]] = _
    rw [Z9o (Nat.le_trans ha.le (by decide)) (Nat.le_trans hb.le (by decide)) ((Z5p [a, b]).mpr ⟨by intro t m; simp only [List.mem_cons, List.not_mem_nil, or_false] at m; rcases m with rfl | rfl <;> assumption, by simp [ne]⟩) h0 (Int.lt_trans h1 (by decide)), if_pos rfl, if_pos h1]
  | @pay a b n ha hb ne h0 h1 =>
    rw [Z3m q, if_neg (by decide +kernel), if_pos (.inr rfl)]
    show f_1a [.lst [.str (kw "pay"), .str a, .str b, .str (fg n)]] = _
    rw [Z9o (Nat.le_trans ha.le (by decide)) (Nat.le_trans hb.le (by decide)) ((Z5p [a, b]).mpr ⟨by intro t m; simp only [List.mem_cons, List.not_mem_nil, or_false] at m; rcases m with rfl | rfl <;> assumption, by simp [ne]⟩) (by omega) h1, if_neg (show ¬ kw "pay" = kw "trust" by decide +kernel), if_pos h0]
  | @turn ts n ht nd l3 l8 h0 h1 =>
    rw [Z3m q, if_neg (by decide +kernel), if_neg (by decide +kernel), if_pos rfl]
    exact ((Zds l3 l8 (fun u m => Nat.le_trans (ht u m).le (by decide)) (Nat.le_trans (Z1p (show 0 <= n by omega) (k := 60) (by decide) h1) (by decide))).2.2 n ((Z5p ts).mpr ⟨ht, nd⟩) rfl (by omega) h1).trans (if_pos h0)
end B
namespace B
open PySem
theorem Zet (ns : List Int) (k : Nat) : f_p [.lst (ns.map .int), .int k] = .ok (.int (ns.getD k 0)) := by
  simp -implicitDefEqProofs only [evs, start, bz, f_p, y_p]
  by_cases h : k < ns.length
  . have g : (ns.map PV.int)[k]? = some (.int (ns.getD k 0)) := by simp [h, List.getD]
    simp -implicitDefEqProofs only [if_true, bz, yes (show (k : Int) < ns.length by omega), Z1v, g]
  . simp -implicitDefEqProofs only [if_false, bz, nay (show ¬ (k : Int) < ns.length by omega)]
    simp [List.getD, h]
theorem Ze8 (ns : List Int) (i j : Nat) (v2 v3 v4 v5 v6 : Option PV) : (e2 oMod (eN f_p [(eV 0), (e2 oAdd (eV 1) (eV 7))]) (e2 oPow (eK (.int 10)) (eK (.int 62)))) ([some (.lst (ns.map .int)), some (.int (0 + 3 * (i : Int))), v2, v3, v4, v5, v6] ++ [some (.int j)]) = .ok (.int (ns.getD (3 * i + j) 0 % 10 ^ 62)) := by
  have q62 : oPow (.int 10) (.int 62) = .ok (.int (10 ^ 62)) := Z44 10 62 (by decide) (by decide) (by decide) (by decide)
  have e : 0 + 3 * (i : Int) + (j : Int) = ((3 * i + j : Nat) : Int) := by omega
  simp -implicitDefEqProofs only [evs, bz, q62, e, Zet, pos_ ((10 : Int) ^ 62) (by decide)]
theorem Zdg (ns : List Int) (i : Nat) (v2 v3 v4 v5 v6 : Option PV) : Zt tYes (e2 oMod (eN f_p [(eV 0), (e2 oAdd (eV 1) (eV 7))]) (e2 oPow (eK (.int 10)) (eK (.int 62)))) [some (.lst (ns.map .int)), some (.int (0 + 3 * (i : Int))), v2, v3, v4, v5, v6] (Zi 0 3 1) = .ok [.int (ns.getD (3 * i + 0) 0 % 10 ^ 62), .int (ns.getD (3 * i + 1) 0 % 10 ^ 62), .int (ns.getD (3 * i + 2) 0 % 10 ^ 62)] := by
  rw [show Zi 0 3 1 = [.int ((0 : Nat) : Int), .int ((1 : Nat) : Int), .int ((2 : Nat) : Int)] from rfl]
  simp only [Zt, Ze8, tYes, R.map_ok]
theorem Zdd {ws : List Str} {d : PV} (h : Dd ws d) : Z3b (.str (Str.join sp ws)) (.str sp) = .ok (.lst (ws.map .str)) := by
  have k := kws
  have n0 : ∀ n : Int, 1 <= n -> 0 <= n := fun n h => by omega
  cases h with
  | join ha => exact Z2n (B := 60) (by simp) (by simp only [List.mem_cons, List.not_mem_nil, or_false, forall_eq_or_imp, forall_eq]; exact ⟨k.s1, ha.nosp⟩) (by simp only [List.mem_cons, List.not_mem_nil, or_false, forall_eq_or_imp, forall_eq]; have := ha.le; rw [k.l1]; omega) (by omega) (by simp)
  | leave ha => exact Z2n (B := 60) (by simp) (by simp only [List.mem_cons, List.not_mem_nil, or_false, forall_eq_or_imp, forall_eq]; exact ⟨k.s5, ha.nosp⟩) (by simp only [List.mem_cons, List.not_mem_nil, or_false, forall_eq_or_imp, forall_eq]; have := ha.le; rw [k.l5]; omega) (by omega) (by simp)
  | trust ha hb ne h0 h1 => exact Z2n (B := 60) (by simp) (by simp only [List.mem_cons, List.not_mem_nil, or_false, forall_eq_or_imp, forall_eq]; exact ⟨k.s2, ha.nosp, hb.nosp, Z5k h0⟩) (by simp only [List.mem_cons, List.not_mem_nil, or_false, forall_eq_or_imp, forall_eq]; have := ha.le; have := hb.le; have := Z1p h0 (k := 60) (by decide) (Int.lt_trans h1 (by decide)); rw [k.l2]; omega) (by omega) (by simp)
  | pay ha hb ne h0 h1 => exact Z2n (B := 60) (by simp) (by simp only [List.mem_cons, List.not_mem_nil, or_false, forall_eq_or_imp, forall_eq]; exact ⟨k.s3, ha.nosp, hb.nosp, Z5k (n0 _ h0)⟩) (by simp only [List.mem_cons, List.not_mem_nil, or_false, forall_eq_or_imp, forall_eq]; have := ha.le; have := hb.le; have := Z1p (n0 _ h0) (k := 60) (by decide) h1; rw [k.l3]; omega) (by omega) (by simp)
  | turn ht nd l3 l8 h0 h1 => exact Z2n (B := 60) (by simp) (by simp only [List.mem_cons, forall_eq_or_imp]; exact ⟨k.s4, Z5k (n0 _ h0), fun t m => (ht t m).nosp⟩) (by simp only [List.mem_cons, forall_eq_or_imp]; have := Z1p (n0 _ h0) (k := 60) (by decide) h1; rw [k.l4]; exact ⟨by omega, this, fun t m => Nat.le_trans (ht t m).le (by decide)⟩) (by omega) (by simp; omega)
theorem Zf4 {k : Int} {th : List PV} {tx : Str} (h : Made k th tx) : ∃ ws d, Dd ws d /\ tx = Str.join sp ws /\ DD k th d /\ f_q [.int k, .tup th] = .ok d := by
  cases h with
  | join ha => exact ⟨_, _, .join ha, rfl, .join _, rfl⟩
  | trust ha hb ne h0 h1 => exact ⟨_, _, .trust ha hb ne h0 h1, rfl, .trust _ _ _, rfl⟩
  | pay ha hb ne h0 h1 => exact ⟨_, _, .pay ha hb ne h0 h1, rfl, .pay _ _ _, rfl⟩
  | turn ht nd l3 l8 h0 h1 => exact ⟨_, _, .turn ht nd l3 l8 h0 h1, rfl, .turn _ _, rfl⟩
  | leave ha => exact ⟨_, _, .leave ha, rfl, .leave _, rfl⟩
theorem Ze4 {k : Int} {th : List PV} {tx : Str} (h : Made k th tx) : ∃ d, DD k th d /\ f_q [.int k, .tup th] = .ok d /\ rowV d = .ok (.str tx) /\ f_17 [.str tx] = .ok d := by
  obtain ⟨ws, d, h1, rfl, h2, h3⟩ := Zf4 h
  exact ⟨d, h2, h3, dd_row h1, Zbz (Zdd h1) h1⟩
theorem rng3 : rngV (.int 0) (.int 3) (.int 1) = .ok (Zi 0 3 1) := rfl
theorem len3 : decide ((Zi 0 3 1).length < Zn) = true := by decide
theorem Zcf : ∀ ns : List Int, ns.length <= 63 -> f_14 [.lst (ns.map .int)] = .ok (.bl true) := by
  intro ns hn
  have m0 : Z46 [.int ns.length, .int 63] = .ok (.int ns.length) := by rw [Zbr, if_neg (by omega)]
  have r0 : rowV (.ins (Str.ofString "Deed") []) = .ok (.str (Str.ofString "")) := rfl
  simp -implicitDefEqProofs only [decide_true, evs, if_false, start, bz, f_14, y_14, meth0, Z9n, Z9h, r0, m0, Z7i 0 ns.length 3 (by omega) (by omega) (by omega) (by omega) (by omega) (by omega)]
  obtain ⟨s', hs, v1, v2, v3, v4, v5, v6, e⟩ := Z6j (body := at_ 1 b_14_1) (fun i s => ∃ v1 v2 v3 v4 v5 v6, s = [some (.lst (ns.map .int)), v1, v2, v3, v4, v5, v6]) (Zi 0 ns.length 3) [some (.lst (ns.map .int)), none, none, none, none, none, none] ⟨_, _, _, _, _, _, rfl⟩ (by
    rintro i x s hx ⟨v1, v2, v3, v4, v5, v6, rfl⟩
    obtain ⟨rfl, hi, _⟩ := Z3q hx
    have nn : ∀ z : Int, 0 <= z % 10 ^ 62 := fun z => Int.emod_nonneg z (by decide)
    obtain ⟨k, th, tx, hm, md⟩ := Zfp _ _ _ (nn (ns.getD (3 * i + 0) 0)) (nn (ns.getD (3 * i + 1) 0)) (nn (ns.getD (3 * i + 2) 0))
    obtain ⟨d, dd, h1, h2, h3⟩ := Ze4 md
    refine ⟨_, .inl ?_, ⟨some (.int (0 + 3 * (i : Int))), some (.lst [.int (ns.getD (3 * i + 0) 0 % 10 ^ 62), .int (ns.getD (3 * i + 1) 0 % 10 ^ 62), .int (ns.getD (3 * i + 2) 0 % 10 ^ 62)]), some (.int k), some (.tup th), some (.str tx), some (.str tx), rfl⟩⟩
    simp -implicitDefEqProofs only [Nat.reduceAdd, decide_true, evs, if_false, if_true, Z2s, bz, at_, b_14_1, meth0, Z9n, Z9h, rng3, len3, Zdg, sUnp, show ∀ x y z : PV, atI [x, y, z] 0 = some x from fun _ _ _ => rfl, show ∀ x y z : PV, atI [x, y, z] 1 = some y from fun _ _ _ => rfl, show ∀ x y z : PV, atI [x, y, z] 2 = some z from fun _ _ _ => rfl, hm, h1, h2, h3, is_ok dd, Z5i, show isKb .str .str = true from rfl, Ze0])
  subst e
  simp -implicitDefEqProofs only [bz, hs]
end B
namespace B
open PySem PySem.Spec PyProof.Rows L2
def top (i : Nat) : Stmt := PySem.Challenge.pw_trustways_k80_rows_read.main.body.getD i (.Pass ⟨0, 0, 0, 0⟩)
set_option genInjectivity false in
set_option genSizeOf false in
structure Txt (K : PySem.W.Frag) (mg : MG) where
  b_str : mg "str" = none
  b_range : mg "range" = none
  b_max : mg "max" = none
  b_isinstance : mg "isinstance" = none
  b_int : mg "int" = none
  b_bool : mg "bool" = none
  b_list : mg "list" = none
  b_len : mg "len" = none
  b_all : mg "all" = none
  b_set : mg "set" = none
  b_min : mg "min" = none
  t_LETTERS : Tok
  c_LETTERS : mg "LETTERS" = some (.str (Str.ofString "abcdefghijklmnopqrstuvwxyz") t_LETTERS)
  t_FIGURES : Tok
  c_FIGURES : mg "FIGURES" = some (.str (Str.ofString "0123456789") t_FIGURES)
  a_o : Addr
  m_o : mg "WayError" = some (.ref a_o)
  a_b : Addr
  m_b : mg "NoRow" = some (.ref a_b)
  a_0 : Addr
  m_0 : mg "Deed" = some (.ref a_0)
  a_3 : Addr
  m_3 : mg "Join" = some (.ref a_3)
  a_g : Addr
  m_g : mg "Trust" = some (.ref a_g)
  a_c : Addr
  m_c : mg "Pay" = some (.ref a_c)
  a_k : Addr
  m_k : mg "Turn" = some (.ref a_k)
  a_7 : Addr
  m_7 : mg "Leave" = some (.ref a_7)
  x_o : ExcC K a_o
  e_o : ErrC K a_o
  x_b : ExcC K a_b
  e_b : ErrC K a_b
  o_0 : OwnC K a_0
  n_0 : ∀ f ∈ ([] : List Str), Zk K a_0 f
  o_3 : OwnC K a_3
  n_3 : ∀ f ∈ [("house" : Str)], Zk K a_3 f
  o_g : OwnC K a_g
  n_g : ∀ f ∈ [("one" : Str), ("other" : Str), ("line" : Str)], Zk K a_g f
  o_c : OwnC K a_c
  n_c : ∀ f ∈ [("payer" : Str), ("taker" : Str), ("amount" : Str)], Zk K a_c f
  o_k : OwnC K a_k
  n_k : ∀ f ∈ [("ring" : Str), ("amount" : Str)], Zk K a_k f
  o_7 : OwnC K a_7
  n_7 : ∀ f ∈ [("house" : Str)], Zk K a_7 f
  k_0 : Mk0 K a_0
  g_2 : Addr
  gd_2 : FuncData
  G_2 : Fun K "row" "Deed.row" (Z3 (top 12) 1) g_2 gd_2
  bg_2 : Zf K gd_2 ["self"] []
  a_1b : Addr
  fd_1b : FuncData
  F_1b : Fun K "row_of" "row_of" (top 11) a_1b fd_1b
  m_1b : mg "row_of" = some (.ref a_1b)
  b_f_row_of : Zf K fd_1b ["words"] []
  g_6 : Addr
  gd_6 : FuncData
  G_6 : Fun K "row" "Join.row" (Z3 (top 13) 2) g_6 gd_6
  bg_6 : Zf K gd_6 ["self"] []
  g_j : Addr
  gd_j : FuncData
  G_j : Fun K "row" "Trust.row" (Z3 (top 14) 2) g_j gd_j
  bg_j : Zf K gd_j ["self"] []
  g_f : Addr
  gd_f : FuncData
  G_f : Fun K "row" "Pay.row" (Z3 (top 15) 2) g_f gd_f
  bg_f : Zf K gd_f ["self"] []
  g_n : Addr
  gd_n : FuncData
  G_n : Fun K "row" "Turn.row" (Z3 (top 16) 2) g_n gd_n
  bg_n : Zf K gd_n ["self"] []
  g_a : Addr
  gd_a : FuncData
  G_a : Fun K "row" "Leave.row" (Z3 (top 17) 2) g_a gd_a
  bg_a : Zf K gd_a ["self"] []
  a_t : Addr
  fd_t : FuncData
  F_t : Fun K "_law_name" "_law_name" (top 30) a_t fd_t
  m_t : mg "_law_name" = some (.ref a_t)
  b_f__law_name : Zf K fd_t ["cell"] []
  a_x : Addr
  fd_x : FuncData
  F_x : Fun K "_law_two" "_law_two" (top 31) a_x fd_x
  m_x : mg "_law_two" = some (.ref a_x)
  b_f__law_two : Zf K fd_x ["cell"] []
  a_u : Addr
  fd_u : FuncData
  F_u : Fun K "_law_number" "_law_number" (top 32) a_u fd_u
  m_u : mg "_law_number" = some (.ref a_u)
  b_f__law_number : Zf K fd_u ["cell", "top"] []
  a_v : Addr
  fd_v : FuncData
  F_v : Fun K "_law_ring" "_law_ring" (top 33) a_v fd_v
  m_v : mg "_law_ring" = some (.ref a_v)
  b_f__law_ring : Zf K fd_v ["cell", "many"] []
  a_s : Addr
  fd_s : FuncData
  F_s : Fun K "_law_made" "_law_made" (top 34) a_s fd_s
  m_s : mg "_law_made" = some (.ref a_s)
  b_f__law_made : Zf K fd_s ["head", "one", "two"] []
  a_w : Addr
  fd_w : FuncData
  F_w : Fun K "_law_things" "_law_things" (top 35) a_w fd_w
  m_w : mg "_law_things" = some (.ref a_w)
  b_f__law_things : Zf K fd_w ["found", "kind"] []
  a_r : Addr
  fd_r : FuncData
  F_r : Fun K "_law_is" "_law_is" (top 36) a_r fd_r
  m_r : mg "_law_is" = some (.ref a_r)
  b_f__law_is : Zf K fd_r ["found", "kind", "things"] []
  a_p : Addr
  fd_p : FuncData
  F_p : Fun K "_law_cell_at" "_law_cell_at" (top 29) a_p fd_p
  m_p : mg "_law_cell_at" = some (.ref a_p)
  b_f__law_cell_at : Zf K fd_p ["script", "k"] []
  a_1c : Addr
  fd_1c : FuncData
  F_1c : Fun K "words_of" "words_of" (top 20) a_1c fd_1c
  m_1c : mg "words_of" = some (.ref a_1c)
  b_f_words_of : Zf K fd_1c ["row"] []
  a_15 : Addr
  fd_15 : FuncData
  F_15 : Fun K "need_row" "need_row" (top 23) a_15 fd_15
  m_15 : mg "need_row" = some (.ref a_15)
  b_f_need_row : Zf K fd_15 ["is_row"] []
  a_16 : Addr
  fd_16 : FuncData
  F_16 : Fun K "number_of" "number_of" (top 21) a_16 fd_16
  m_16 : mg "number_of" = some (.ref a_16)
  b_f_number_of : Zf K fd_16 ["word"] []
  i_k : Addr
  fi_k : FuncData
  Fi_k : Fun K "__init__" "Turn.__init__" (Z3 (top 16) 0) i_k fi_k
  k_k : Mk K a_k i_k
  bi_k : Zf K fi_k ["self", "ring", "amount"] []
  a_13 : Addr
  fd_13 : FuncData
  F_13 : Fun K "is_whole" "is_whole" (top 6) a_13 fd_13
  m_13 : mg "is_whole" = some (.ref a_13)
  b_f_is_whole : Zf K fd_13 ["thing"] []
  a_10 : Addr
  fd_10 : FuncData
  F_10 : Fun K "is_amount" "is_amount" (top 8) a_10 fd_10
  m_10 : mg "is_amount" = some (.ref a_10)
  b_f_is_amount : Zf K fd_10 ["thing"] []
  a_12 : Addr
  fd_12 : FuncData
  F_12 : Fun K "is_name" "is_name" (top 7) a_12 fd_12
  m_12 : mg "is_name" = some (.ref a_12)
  b_f_is_name : Zf K fd_12 ["thing"] []
  a_z : Addr
  fd_z : FuncData
  F_z : Fun K "are_names_once" "are_names_once" (top 22) a_z fd_z
  m_z : mg "are_names_once" = some (.ref a_z)
  b_f_are_names_once : Zf K fd_z ["words"] []
  a_19 : Addr
  fd_19 : FuncData
  F_19 : Fun K "read_of_ring" "read_of_ring" (top 26) a_19 fd_19
  m_19 : mg "read_of_ring" = some (.ref a_19)
  b_f_read_of_ring : Zf K fd_19 ["words"] []
  i_7 : Addr
  fi_7 : FuncData
  Fi_7 : Fun K "__init__" "Leave.__init__" (Z3 (top 17) 0) i_7 fi_7
  k_7 : Mk K a_7 i_7
  bi_7 : Zf K fi_7 ["self", "house"] []
  i_3 : Addr
  fi_3 : FuncData
  Fi_3 : Fun K "__init__" "Join.__init__" (Z3 (top 13) 0) i_3 fi_3
  k_3 : Mk K a_3 i_3
  bi_3 : Zf K fi_3 ["self", "house"] []
  a_18 : Addr
  fd_18 : FuncData
  F_18 : Fun K "read_of_one" "read_of_one" (top 24) a_18 fd_18
  m_18 : mg "read_of_one" = some (.ref a_18)
  b_f_read_of_one : Zf K fd_18 ["words"] []
  i_c : Addr
  fi_c : FuncData
  Fi_c : Fun K "__init__" "Pay.__init__" (Z3 (top 15) 0) i_c fi_c
  k_c : Mk K a_c i_c
  bi_c : Zf K fi_c ["self", "payer", "taker", "amount"] []
  i_g : Addr
  fi_g : FuncData
  Fi_g : Fun K "__init__" "Trust.__init__" (Z3 (top 14) 0) i_g fi_g
  k_g : Mk K a_g i_g
  bi_g : Zf K fi_g ["self", "one", "other", "line"] []
  a_11 : Addr
  fd_11 : FuncData
  F_11 : Fun K "is_line" "is_line" (top 9) a_11 fd_11
  m_11 : mg "is_line" = some (.ref a_11)
  b_f_is_line : Zf K fd_11 ["thing"] []
  a_1a : Addr
  fd_1a : FuncData
  F_1a : Fun K "read_of_two" "read_of_two" (top 25) a_1a fd_1a
  m_1a : mg "read_of_two" = some (.ref a_1a)
  b_f_read_of_two : Zf K fd_1a ["words"] []
  a_17 : Addr
  fd_17 : FuncData
  F_17 : Fun K "read" "read" (top 27) a_17 fd_17
  m_17 : mg "read" = some (.ref a_17)
  b_f_read : Zf K fd_17 ["row"] []
  a_q : Addr
  fd_q : FuncData
  F_q : Fun K "_law_deed" "_law_deed" (top 37) a_q fd_q
  m_q : mg "_law_deed" = some (.ref a_q)
  b_f__law_deed : Zf K fd_q ["kind", "things"] []
  a_14 : Addr
  fd_14 : FuncData
  F_14 : Fun K "law" "law" (top 38) a_14 fd_14
  m_14 : mg "law" = some (.ref a_14)
  b_f_law : Zf K fd_14 ["script"] []
  h_2 : Meth K a_0 "row" g_2
  h_6 : Meth K a_3 "row" g_6
  h_j : Meth K a_g "row" g_j
  h_f : Meth K a_c "row" g_f
  h_n : Meth K a_k "row" g_n
  h_a : Meth K a_7 "row" g_a
  is_3 : IsF mg knN keN [(Str.ofString "Join")] (fun _ => false) (fun t => PySem.W.kitOne K t (.ref a_3))
  is_g : IsF mg knN keN [(Str.ofString "Trust")] (fun _ => false) (fun t => PySem.W.kitOne K t (.ref a_g))
  is_c : IsF mg knN keN [(Str.ofString "Pay")] (fun _ => false) (fun t => PySem.W.kitOne K t (.ref a_c))
  is_k : IsF mg knN keN [(Str.ofString "Turn")] (fun _ => false) (fun t => PySem.W.kitOne K t (.ref a_k))
  is_7 : IsF mg knN keN [(Str.ofString "Leave")] (fun _ => false) (fun t => PySem.W.kitOne K t (.ref a_7))
  is_int : IsF mg knN keN [] (isKb .int) (fun t => PySem.W.kitOne K t (.type "int"))
  is_0 : IsF mg knN keN [(Str.ofString "Deed"), (Str.ofString "Join"), (Str.ofString "Trust"), (Str.ofString "Pay"), (Str.ofString "Turn"), (Str.ofString "Leave")] (fun _ => false) (fun t => PySem.W.kitOne K t (.ref a_0))
  is_bool : IsF mg knN keN [] (isKb .bl) (fun t => PySem.W.kitOne K t (.type "bool"))
  is_list : IsF mg knN keN [] (isKb .lst) (fun t => PySem.W.kitOne K t (.type "list"))
  is_str : IsF mg knN keN [] (isKb .str) (fun t => PySem.W.kitOne K t (.type "str"))
section
variable {P : Program} {w : World} {K : PySem.W.Frag} {mg : MG} {base : Heap}
theorem Z16 (T : Txt K mg) : ∀ c ∈ knN, ∀ C, mg c = some (.ref C) -> OwnC K C := Z1i (l := [((Str.ofString "Deed"), T.a_0), ((Str.ofString "Join"), T.a_3), ((Str.ofString "Trust"), T.a_g), ((Str.ofString "Pay"), T.a_c), ((Str.ofString "Turn"), T.a_k), ((Str.ofString "Leave"), T.a_7)]) (Z6 T.m_0 (Z6 T.m_3 (Z6 T.m_g (Z6 T.m_c (Z6 T.m_k (Z6 T.m_7 Zp)))))) (Z6 T.o_0 (Z6 T.o_3 (Z6 T.o_g (Z6 T.o_c (Z6 T.o_k (Z6 T.o_7 Zp))))))
theorem Z15 (T : Txt K mg) : ∀ c ∈ keN, ∀ C, mg c = some (.ref C) -> ErrC K C := Z1i (l := [((Str.ofString "WayError"), T.a_o), ((Str.ofString "NoRow"), T.a_b)]) (Z6 T.m_o (Z6 T.m_b Zp)) (Z6 T.e_o (Z6 T.e_b Zp))
theorem Z32 (T : Txt K mg) : ∀ c ∈ [(Str.ofString "Pay"), (Str.ofString "Turn")], ∀ C, mg c = some (.ref C) -> Cls K C /\ Zk K C "amount" := Z1i (P := fun C => Cls K C /\ Zk K C "amount") (l := [((Str.ofString "Pay"), T.a_c), ((Str.ofString "Turn"), T.a_k)]) (Z6 T.m_c (Z6 T.m_k Zp)) (Z6 ⟨T.o_c.cl, T.n_c _ (List.mem_cons_of_mem _ (List.mem_cons_of_mem _ (List.mem_cons_self)))⟩ (Z6 ⟨T.o_k.cl, T.n_k _ (List.mem_cons_of_mem _ (List.mem_cons_self))⟩ Zp))
theorem Z4k (T : Txt K mg) : ∀ c ∈ [(Str.ofString "Join"), (Str.ofString "Leave")], ∀ C, mg c = some (.ref C) -> Cls K C /\ Zk K C "house" := Z1i (P := fun C => Cls K C /\ Zk K C "house") (l := [((Str.ofString "Join"), T.a_3), ((Str.ofString "Leave"), T.a_7)]) (Z6 T.m_3 (Z6 T.m_7 Zp)) (Z6 ⟨T.o_3.cl, T.n_3 _ List.mem_cons_self⟩ (Z6 ⟨T.o_7.cl, T.n_7 _ List.mem_cons_self⟩ Zp))
theorem Z9l (T : Txt K mg) : ∀ c ∈ [(Str.ofString "Trust")], ∀ C, mg c = some (.ref C) -> Cls K C /\ Zk K C "line" := Z1i (P := fun C => Cls K C /\ Zk K C "line") (l := [((Str.ofString "Trust"), T.a_g)]) (Z6 T.m_g Zp) (Z6 ⟨T.o_g.cl, T.n_g _ (List.mem_cons_of_mem _ (List.mem_cons_of_mem _ (List.mem_cons_self)))⟩ Zp)
theorem Zbu (T : Txt K mg) : ∀ c ∈ [(Str.ofString "Trust")], ∀ C, mg c = some (.ref C) -> Cls K C /\ Zk K C "one" := Z1i (P := fun C => Cls K C /\ Zk K C "one") (l := [((Str.ofString "Trust"), T.a_g)]) (Z6 T.m_g Zp) (Z6 ⟨T.o_g.cl, T.n_g _ List.mem_cons_self⟩ Zp)
theorem Z88 (T : Txt K mg) : ∀ c ∈ [(Str.ofString "Trust")], ∀ C, mg c = some (.ref C) -> Cls K C /\ Zk K C "other" := Z1i (P := fun C => Cls K C /\ Zk K C "other") (l := [((Str.ofString "Trust"), T.a_g)]) (Z6 T.m_g Zp) (Z6 ⟨T.o_g.cl, T.n_g _ (List.mem_cons_of_mem _ (List.mem_cons_self))⟩ Zp)
theorem Z79 (T : Txt K mg) : ∀ c ∈ [(Str.ofString "Pay")], ∀ C, mg c = some (.ref C) -> Cls K C /\ Zk K C "payer" := Z1i (P := fun C => Cls K C /\ Zk K C "payer") (l := [((Str.ofString "Pay"), T.a_c)]) (Z6 T.m_c Zp) (Z6 ⟨T.o_c.cl, T.n_c _ List.mem_cons_self⟩ Zp)
theorem Z9s (T : Txt K mg) : ∀ c ∈ [(Str.ofString "Turn")], ∀ C, mg c = some (.ref C) -> Cls K C /\ Zk K C "ring" := Z1i (P := fun C => Cls K C /\ Zk K C "ring") (l := [((Str.ofString "Turn"), T.a_k)]) (Z6 T.m_k Zp) (Z6 ⟨T.o_k.cl, T.n_k _ List.mem_cons_self⟩ Zp)
theorem Z89 (T : Txt K mg) : ∀ c ∈ [(Str.ofString "Pay")], ∀ C, mg c = some (.ref C) -> Cls K C /\ Zk K C "taker" := Z1i (P := fun C => Cls K C /\ Zk K C "taker") (l := [((Str.ofString "Pay"), T.a_c)]) (Z6 T.m_c Zp) (Z6 ⟨T.o_c.cl, T.n_c _ (List.mem_cons_of_mem _ (List.mem_cons_self))⟩ Zp)
theorem sc_2 : FnScope ["self"] ["self"] (Z1 (Z3 (top 12) 1)) := ⟨rfl, rfl, rfl, by decide +kernel, rfl, by decide +kernel, by decide +kernel⟩
set_option maxHeartbeats 0 in
theorem ok_2 (T : Txt K mg) : FnB P w K mg base 1 T.g_2 T.gd_2 ["self"] .s f_2 := by
  refine fn_B (N := ["self"]) (k := 0) (Γ0 := [.s]) (Γ' := [.s]) (body := y_2) T.G_2 sc_2 rfl fun cdv A outer s H E hr => ?_
  have hu := Zl hr
  have nd := sc_2.nd
  refine Z7 ?_
  refine (Zb (.same .nil) b_str)
theorem sc_1b : FnScope ["words"] ["words"] (Z1 (top 11)) := ⟨rfl, rfl, rfl, by decide +kernel, rfl, by decide +kernel, by decide +kernel⟩
set_option maxHeartbeats 0 in
theorem ok_1b (T : Txt K mg) : FnB P w K mg base 1 T.a_1b T.fd_1b ["words"] .s f_1b := by
  refine fn_B (N := ["words"]) (k := 0) (Γ0 := [.s]) (Γ' := [.s]) (body := y_1b) T.F_1b sc_1b rfl fun cdv A outer s H E hr => ?_
  have hu := Zl hr
  have nd := sc_1b.nd
  refine Z7 ?_
  refine (Zb (.same .nil) (Zd6 b_str (b_sh (Z37 (N' := [("words" : Str), ("word" : Str)]) (show CompN [("words" : Str)] _ _ _ (Z1 (top 11)) from ⟨by decide +kernel, by decide +kernel, by decide +kernel, by decide +kernel, by decide +kernel, by decide +kernel, by decide +kernel, by decide +kernel, by decide +kernel⟩) rfl (i_V (bv 0)) fun cl C s₀ H₀ ex => ⟨(Z1t Z6t rfl T.b_str Z3r (Z0 (bv 1) Z2)), .inl ⟨rfl, rfl⟩⟩))))
theorem sc_6 : FnScope ["self"] ["self"] (Z1 (Z3 (top 13) 2)) := ⟨rfl, rfl, rfl, by decide +kernel, rfl, by decide +kernel, by decide +kernel⟩
set_option maxHeartbeats 0 in
theorem ok_6 (T : Txt K mg) : FnB P w K mg base 2 T.g_6 T.gd_6 ["self"] .s f_6 := by
  refine fn_B (N := ["self"]) (k := 1) (Γ0 := [.s]) (Γ' := [.s]) (body := y_6) T.G_6 sc_6 rfl fun cdv A outer s H E hr => ?_
  have hu := Zl hr
  have nd := sc_6.nd
  refine Z7 ?_
  refine (Zb (.same .nil) (Zd (ok_1b T) (hr.mono (by decide)) rfl T.m_1b T.F_1b.kp T.b_f_row_of (Z0 (b_sh (Z28 (Z0 b_str (Z0 (Z13 (Z4k T) (bv 0)) Z2)))) Z2)))
theorem sc_j : FnScope ["self"] ["self"] (Z1 (Z3 (top 14) 2)) := ⟨rfl, rfl, rfl, by decide +kernel, rfl, by decide +kernel, by decide +kernel⟩
set_option maxHeartbeats 0 in
theorem ok_j (T : Txt K mg) : FnB P w K mg base 2 T.g_j T.gd_j ["self"] .s f_j := by
  refine fn_B (N := ["self"]) (k := 1) (Γ0 := [.s]) (Γ' := [.s]) (body := y_j) T.G_j sc_j rfl fun cdv A outer s H E hr => ?_
  have hu := Zl hr
  have nd := sc_j.nd
  refine Z7 ?_
  refine (Zb (.same .nil) (Zd (ok_1b T) (hr.mono (by decide)) rfl T.m_1b T.F_1b.kp T.b_f_row_of (Z0 (b_sh (Z28 (Z0 b_str (Z0 (Z13 (Zbu T) (bv 0)) (Z0 (Z13 (Z88 T) (bv 0)) (Z0 (Z13 (Z9l T) (bv 0)) Z2)))))) Z2)))
theorem sc_f : FnScope ["self"] ["self"] (Z1 (Z3 (top 15) 2)) := ⟨rfl, rfl, rfl, by decide +kernel, rfl, by decide +kernel, by decide +kernel⟩
set_option maxHeartbeats 0 in
theorem ok_f (T : Txt K mg) : FnB P w K mg base 2 T.g_f T.gd_f ["self"] .s f_f := by
  refine fn_B (N := ["self"]) (k := 1) (Γ0 := [.s]) (Γ' := [.s]) (body := y_f) T.G_f sc_f rfl fun cdv A outer s H E hr => ?_
  have hu := Zl hr
  have nd := sc_f.nd
  refine Z7 ?_
  refine (Zb (.same .nil) (Zd (ok_1b T) (hr.mono (by decide)) rfl T.m_1b T.F_1b.kp T.b_f_row_of (Z0 (b_sh (Z28 (Z0 b_str (Z0 (Z13 (Z79 T) (bv 0)) (Z0 (Z13 (Z89 T) (bv 0)) (Z0 (Z13 (Z32 T) (bv 0)) Z2)))))) Z2)))
theorem sc_n : FnScope ["self"] ["self"] (Z1 (Z3 (top 16) 2)) := ⟨rfl, rfl, rfl, by decide +kernel, rfl, by decide +kernel, by decide +kernel⟩
set_option maxHeartbeats 0 in
theorem ok_n (T : Txt K mg) : FnB P w K mg base 2 T.g_n T.gd_n ["self"] .s f_n := by
  refine fn_B (N := ["self"]) (k := 1) (Γ0 := [.s]) (Γ' := [.s]) (body := y_n) T.G_n sc_n rfl fun cdv A outer s H E hr => ?_
  have hu := Zl hr
  have nd := sc_n.nd
  refine Z7 ?_
  refine (Zb (.same .nil) (Zd (ok_1b T) (hr.mono (by decide)) rfl T.m_1b T.F_1b.kp T.b_f_row_of (Z0 (b_sh (Z4 Zo (b_sh (Z28 (Z0 b_str (Z0 (Z13 (Z32 T) (bv 0)) Z2)))) (Z13 (Z9s T) (bv 0)))) Z2)))
theorem sc_a : FnScope ["self"] ["self"] (Z1 (Z3 (top 17) 2)) := ⟨rfl, rfl, rfl, by decide +kernel, rfl, by decide +kernel, by decide +kernel⟩
set_option maxHeartbeats 0 in
theorem ok_a (T : Txt K mg) : FnB P w K mg base 2 T.g_a T.gd_a ["self"] .s f_a := by
  refine fn_B (N := ["self"]) (k := 1) (Γ0 := [.s]) (Γ' := [.s]) (body := y_a) T.G_a sc_a rfl fun cdv A outer s H E hr => ?_
  have hu := Zl hr
  have nd := sc_a.nd
  refine Z7 ?_
  refine (Zb (.same .nil) (Zd (ok_1b T) (hr.mono (by decide)) rfl T.m_1b T.F_1b.kp T.b_f_row_of (Z0 (b_sh (Z28 (Z0 b_str (Z0 (Z13 (Z4k T) (bv 0)) Z2)))) Z2)))
theorem Z4m (T : Txt K mg) {X : Cx} (h1 : X.K = K := by rfl) (h2 : X.mg = mg := by rfl) : Mths X 2 0 "row" [((Str.ofString "Deed"), f_2), ((Str.ofString "Join"), f_6), ((Str.ofString "Trust"), f_j), ((Str.ofString "Pay"), f_f), ((Str.ofString "Turn"), f_n), ((Str.ofString "Leave"), f_a)] := by
  subst h1 h2
  exact (Z1w T.o_0.cl T.m_0 T.h_2 ((ok_2 T).mono (by decide)) T.bg_2 rfl (Z1w T.o_3.cl T.m_3 T.h_6 ((ok_6 T).mono (by decide)) T.bg_6 rfl (Z1w T.o_g.cl T.m_g T.h_j ((ok_j T).mono (by decide)) T.bg_j rfl (Z1w T.o_c.cl T.m_c T.h_f ((ok_f T).mono (by decide)) T.bg_f rfl (Z1w T.o_k.cl T.m_k T.h_n ((ok_n T).mono (by decide)) T.bg_n rfl (Z1w T.o_7.cl T.m_7 T.h_a ((ok_a T).mono (by decide)) T.bg_a rfl Ze5))))))
theorem sc_t : FnScope ["cell", "some", "number", "text", "k"] ["cell"] (Z1 (top 30)) := ⟨rfl, rfl, rfl, by decide +kernel, rfl, by decide +kernel, by decide +kernel⟩
set_option maxHeartbeats 0 in
theorem ok_t (T : Txt K mg) : FnB P w K mg base 1 T.a_t T.fd_t ["cell"] .s f_t := by
  refine fn_B (N := ["cell", "some", "number", "text", "k"]) (k := 0) (Γ0 := [.s, .s, .s, .s, .s]) (Γ' := [.s, .s, .s, .s, .s]) (body := y_t) T.F_t sc_t rfl fun cdv A outer s H E hr => ?_
  have hu := Zl hr
  have nd := sc_t.nd
  refine Z5 (Γ1 := [.s, .s, .s, .s, .s]) ?_ ?_
  . refine (Zs (.same (.same (.same (.same (.same .nil))))) nd rfl (.inl rfl) rfl (b_sh (Z28 (Z0 b_str (Z0 b_str (Z0 b_str (Z0 b_str (Z0 b_str (Z0 b_str (Z0 b_str (Z0 b_str (Z0 b_str (Z0 b_str (Z0 b_str (Z0 b_str (Z0 b_str Z2))))))))))))))))
  refine Z5 (Γ1 := [.s, .s, .s, .s, .s]) ?_ ?_
  . refine (s_if (.same (.same (.same (.same (.same .nil))))) (Ze (o_eq hu) Zx (Z4 Zv (bv 0) b_int) b_int (by first | rfl | exact Z9 _)) ?_ ?_)
    . refine Z7 ?_
      refine (Zb (.same (.same (.same (.same (.same .nil))))) (b_ix hu (bv 1) (Z4 Zv (Z4 Z1e (bv 0) b_int) b_int)))
    . exact Zm
  refine Z5 (Γ1 := [.s, .s, .s, .s, .s]) ?_ ?_
  . refine (Zs (.same (.same (.same (.same (.same .nil))))) nd rfl (.inl rfl) rfl (Z4 Zv (bv 0) b_int))
  refine Z5 (Γ1 := [.s, .s, .s, .s, .s]) ?_ ?_
  . refine (Zs (.same (.same (.same (.same (.same .nil))))) nd rfl (.inl rfl) rfl b_str)
  refine Z5 (Γ1 := [.s, .s, .s, .s, .s]) ?_ ?_
  . refine (s_for (.same (.same (.same (.same (.same .nil))))) rfl nd rfl (.inl rfl) rfl (Z3o rfl T.b_range (Z0 (b_sh (Z4 Zo b_int (Z4 Zv (Z4 Z1e (bv 2) b_int) b_int))) Z2)) ?_)
    . refine Z5 (Γ1 := [.s, .s, .s, .s, .s]) ?_ ?_
      . refine (Zs (.same (.same (.same (.same (.same .nil))))) nd rfl (.inl rfl) rfl (Z4 Zv (b_sh (Z4 Zo (b_sh (Z4 Zo (b_sh (Z4 Zo (Z4 Z4b (bv 2) (bv 2)) (Z4 Z4b b_int (bv 2)))) (bv 4))) b_int)) b_int))
      refine Z7 ?_
      refine (Zs (.same (.same (.same (.same (.same .nil))))) nd rfl (.inl rfl) rfl (b_sh (Z4 Zo (bv 3) (b_ix hu b_str (Z4 Zv (Z4 Z1e (bv 2) b_int) b_int)))))
  refine Z7 ?_
  refine (Zb (.same (.same (.same (.same (.same .nil))))) (bv 3))
theorem sc_x : FnScope ["cell", "one", "other"] ["cell"] (Z1 (top 31)) := ⟨rfl, rfl, rfl, by decide +kernel, rfl, by decide +kernel, by decide +kernel⟩
set_option maxHeartbeats 0 in
theorem ok_x (T : Txt K mg) : FnB P w K mg base 2 T.a_x T.fd_x ["cell"] .s f_x := by
  refine fn_B (N := ["cell", "one", "other"]) (k := 1) (Γ0 := [.s, .s, .s]) (Γ' := [.s, .s, .s]) (body := y_x) T.F_x sc_x rfl fun cdv A outer s H E hr => ?_
  have hu := Zl hr
  have nd := sc_x.nd
  refine Z5 (Γ1 := [.s, .s, .s]) ?_ ?_
  . refine (Zs (.same (.same (.same .nil))) nd rfl (.inl rfl) rfl (Zd (ok_t T) (hr.mono (by decide)) rfl T.m_t T.F_t.kp T.b_f__law_name (Z0 (bv 0) Z2)))
  refine Z5 (Γ1 := [.s, .s, .s]) ?_ ?_
  . refine (Zs (.same (.same (.same .nil))) nd rfl (.inl rfl) rfl (Zd (ok_t T) (hr.mono (by decide)) rfl T.m_t T.F_t.kp T.b_f__law_name (Z0 (b_sh (Z4 Zo (Z4 Z1e (bv 0) b_int) b_int)) Z2)))
  refine Z5 (Γ1 := [.s, .s, .s]) ?_ ?_
  . refine (s_if (.same (.same (.same .nil))) (PWB.pt (Z87 (Ze (Zau hu) Zb5 (bv 1) (bv 2) (by first | rfl | exact Z9 _)) (Z5q (Ze (o_eq hu) Zx (b_ix hu (bv 1) b_int) b_str (by first | rfl | exact Z9 _))))) ?_ ?_)
    . refine Z7 ?_
      refine (Zs (.same (.same (.same .nil))) nd rfl (.inl rfl) rfl (b_sh (Z4 Zo b_str (b_sh (Z33 (bv 1) (Z22 b_int) Z2u)))))
    . refine Z7 ?_
      refine (s_if (.same (.same (.same .nil))) (Ze (Zau hu) Zb5 (bv 1) (bv 2) (by first | rfl | exact Z9 _)) ?_ ?_)
      . refine Z7 ?_
        refine (Zs (.same (.same (.same .nil))) nd rfl (.inl rfl) rfl (b_sh (Z4 Zo b_str (b_sh (Z33 (bv 1) (Z22 b_int) Z2u)))))
      . exact Zm
  refine Z7 ?_
  refine (Zb (.same (.same (.same .nil))) (Z1h (Z0 (bv 1) (Z0 (bv 2) Z2))))
theorem sc_u : FnScope ["cell", "top"] ["cell", "top"] (Z1 (top 32)) := ⟨rfl, rfl, rfl, by decide +kernel, rfl, by decide +kernel, by decide +kernel⟩
set_option maxHeartbeats 0 in
theorem ok_u (T : Txt K mg) : FnB P w K mg base 1 T.a_u T.fd_u ["cell", "top"] .s f_u := by
  refine fn_B (N := ["cell", "top"]) (k := 0) (Γ0 := [.s, .s]) (Γ' := [.s, .s]) (body := y_u) T.F_u sc_u rfl fun cdv A outer s H E hr => ?_
  have hu := Zl hr
  have nd := sc_u.nd
  refine Z5 (Γ1 := [.s, .s]) ?_ ?_
  . refine (s_if (.same (.same .nil)) (Ze (o_eq hu) Zx (Z4 Zv (bv 0) b_int) b_int (by first | rfl | exact Z9 _)) ?_ ?_)
    . refine Z7 ?_
      refine (Zb (.same (.same .nil)) (Z4 Zv (Z4 Z1e (bv 0) b_int) b_int))
    . exact Zm
  refine Z5 (Γ1 := [.s, .s]) ?_ ?_
  . refine (s_if (.same (.same .nil)) (Ze (o_eq hu) Zx (Z4 Zv (bv 0) b_int) b_int (by first | rfl | exact Z9 _)) ?_ ?_)
    . refine Z7 ?_
      refine (Zb (.same (.same .nil)) (Z4 Z4x (bv 1) (Z4 Zv (Z4 Z1e (bv 0) b_int) b_int)))
    . exact Zm
  refine Z7 ?_
  refine (Zb (.same (.same .nil)) (Z4 Zv (Z4 Z1e (bv 0) b_int) (b_sh (Z4 Zo (bv 1) b_int))))
theorem sc_v : FnScope ["cell", "many", "letters", "number", "some", "size", "place", "front", "back", "begin"] ["cell", "many"] (Z1 (top 33)) := ⟨rfl, rfl, rfl, by decide +kernel, rfl, by decide +kernel, by decide +kernel⟩
set_option maxHeartbeats 0 in
theorem ok_v (T : Txt K mg) : FnB P w K mg base 1 T.a_v T.fd_v ["cell", "many"] .s f_v := by
  refine fn_B (N := ["cell", "many", "letters", "number", "some", "size", "place", "front", "back", "begin"]) (k := 0) (Γ0 := [.s, .s, .s, .s, .s, .s, .s, .s, .s, .s]) (Γ' := [.s, .s, .s, .s, .s, .s, .s, .s, .s, .s]) (body := y_v) T.F_v sc_v rfl fun cdv A outer s H E hr => ?_
  have hu := Zl hr
  have nd := sc_v.nd
  refine Z5 (Γ1 := [.s, .s, .s, .s, .s, .s, .s, .s, .s, .s]) ?_ ?_
  . refine (Zs (.same (.same (.same (.same (.same (.same (.same (.same (.same (.same .nil)))))))))) nd rfl (.inr rfl) rfl b_str)
  refine Z5 (Γ1 := [.s, .s, .s, .s, .s, .s, .s, .s, .s, .s]) ?_ ?_
  . refine (Zs (.same (.same (.same (.same (.same (.same (.same (.same (.same (.same .nil)))))))))) nd rfl (.inl rfl) rfl (Z4 Zv (b_sh (Z4 Zo (Z4 Z4b (Z4 Zv (bv 0) b_int) b_int) b_int)) b_int))
  refine Z5 (Γ1 := [.s, .s, .s, .s, .s, .s, .s, .s, .s, .s]) ?_ ?_
  . refine (Zs (.same (.same (.same (.same (.same (.same (.same (.same (.same (.same .nil)))))))))) nd rfl (.inl rfl) rfl (b_sh (Z28 (Z0 b_str (Z0 b_str (Z0 b_str (Z0 b_str (Z0 b_str (Z0 b_str (Z0 b_str (Z0 b_str Z2)))))))))))
  refine Z5 (Γ1 := [.s, .s, .s, .s, .s, .s, .s, .s, .s, .s]) ?_ ?_
  . refine (s_if (.same (.same (.same (.same (.same (.same (.same (.same (.same (.same .nil)))))))))) (Ze (o_eq hu) Zx (Z4 Zv (bv 3) b_int) b_int (by first | rfl | exact Z9 _)) ?_ ?_)
    . refine Z7 ?_
      refine (Zb (.same (.same (.same (.same (.same (.same (.same (.same (.same (.same .nil)))))))))) (b_sh (Z33 (b_sh (Z4 Zo (b_sh (Z33 (bv 4) (Z22 (Z4 Zv (Z4 Z1e (bv 3) b_int) b_int)) Z2u)) (b_sh (Z33 (bv 4) Z2u (Z22 (Z4 Zv (Z4 Z1e (bv 3) b_int) b_int)))))) Z2u (Z22 (bv 1)))))
    . exact Zm
  refine Z5 (Γ1 := [.s, .s, .s, .s, .s, .s, .s, .s, .s, .s]) ?_ ?_
  . refine (Zs (.same (.same (.same (.same (.same (.same (.same (.same (.same (.same .nil)))))))))) nd rfl (.inl rfl) rfl (b_sh (Z4 Zo b_int (Z4 Zv (Z4 Z1e (bv 3) b_int) b_int))))
  refine Z5 (Γ1 := [.s, .s, .s, .s, .s, .s, .s, .s, .s, .s]) ?_ ?_
  . refine (Zs (.same (.same (.same (.same (.same (.same (.same (.same (.same (.same .nil)))))))))) nd rfl (.inl rfl) rfl (Z4 Zv (Z4 Z1e (bv 3) b_int) (bv 5)))
  refine Z5 (Γ1 := [.s, .s, .s, .s, .s, .s, .s, .s, .s, .s]) ?_ ?_
  . refine (Zs (.same (.same (.same (.same (.same (.same (.same (.same (.same (.same .nil)))))))))) nd rfl (.inr rfl) rfl (Z4 Z4b (b_ix hu (bv 2) (Z4 Zv (Z4 Z1e (bv 3) b_int) b_int)) (bv 6)))
  refine Z5 (Γ1 := [.s, .s, .s, .s, .s, .s, .s, .s, .s, .s]) ?_ ?_
  . refine (Zs (.same (.same (.same (.same (.same (.same (.same (.same (.same (.same .nil)))))))))) nd rfl (.inr rfl) rfl (Z4 Z4b (b_ix hu (bv 2) (Z4 Zv (Z4 Z1e (bv 3) b_int) b_int)) (Z4 Z4x (Z4 Z4x (bv 5) b_int) (bv 6))))
  refine Z5 (Γ1 := [.s, .s, .s, .s, .s, .s, .s, .s, .s, .s]) ?_ ?_
  . refine (Zs (.same (.same (.same (.same (.same (.same (.same (.same (.same (.same .nil)))))))))) nd rfl (.inr rfl) rfl (Z4 Zv (Z4 Z1e (bv 3) b_int) b_int))
  refine Z7 ?_
  refine (Zb (.same (.same (.same (.same (.same (.same (.same (.same (.same (.same .nil)))))))))) (b_sh (Z37 (N' := [("cell" : Str), ("many" : Str), ("letters" : Str), ("number" : Str), ("some" : Str), ("size" : Str), ("place" : Str), ("front" : Str), ("back" : Str), ("begin" : Str), ("k" : Str)]) (show CompN [("cell" : Str), ("many" : Str), ("letters" : Str), ("number" : Str), ("some" : Str), ("size" : Str), ("place" : Str), ("front" : Str), ("back" : Str), ("begin" : Str)] _ _ _ (Z1 (top 33)) from ⟨by decide +kernel, by decide +kernel, by decide +kernel, by decide +kernel, by decide +kernel, by decide +kernel, by decide +kernel, by decide +kernel, by decide +kernel⟩) rfl (Z3o rfl T.b_range (Z0 (bv 1) Z2)) fun cl C s₀ H₀ ex => ⟨(b_sh (Z4 Zo (b_sh (Z4 Zo (bv 7) (b_ix hu (bv 2) (Z4 Zv (b_sh (Z4 Zo (bv 9) (Z4 Z4b b_int (bv 10)))) b_int)))) (bv 8))), .inl ⟨rfl, rfl⟩⟩)))
theorem sc_s : FnScope ["head", "one", "two", "kind", "first", "second", "line", "amount", "ring"] ["head", "one", "two"] (Z1 (top 34)) := ⟨rfl, rfl, rfl, by decide +kernel, rfl, by decide +kernel, by decide +kernel⟩
set_option maxHeartbeats 0 in
theorem ok_s (T : Txt K mg) : FnB P w K mg base 3 T.a_s T.fd_s ["head", "one", "two"] .s f_s := by
  refine fn_B (N := ["head", "one", "two", "kind", "first", "second", "line", "amount", "ring"]) (k := 2) (Γ0 := [.s, .s, .s, .s, .s, .s, .s, .s, .s]) (Γ' := [.s, .s, .s, .s, .s, .s, .s, .s, .s]) (body := y_s) T.F_s sc_s rfl fun cdv A outer s H E hr => ?_
  have hu := Zl hr
  have nd := sc_s.nd
  refine Z5 (Γ1 := [.s, .s, .s, .s, .s, .s, .s, .s, .s]) ?_ ?_
  . refine (Zs (.same (.same (.same (.same (.same (.same (.same (.same (.same .nil))))))))) nd rfl (.inl rfl) rfl (Z4 Zv (bv 0) b_int))
  refine Z5 (Γ1 := [.s, .s, .s, .s, .s, .s, .s, .s, .s]) ?_ ?_
  . refine (s_unp (hs := by rfl) (.same (.same (.same (.same (.same (.same (.same (.same (.same .nil))))))))) rfl (Z6 rfl (Z6 rfl Zp)) (fun W => (Z3k nd rfl (.inl rfl) (Z3k nd rfl (.inl rfl) Zcs))) (Zd (ok_x T) (hr.mono (by decide)) rfl T.m_x T.F_x.kp T.b_f__law_two (Z0 (bv 1) Z2)))
  refine Z5 (Γ1 := [.s, .s, .s, .s, .s, .s, .s, .s, .s]) ?_ ?_
  . refine (s_if (.same (.same (.same (.same (.same (.same (.same (.same (.same .nil))))))))) (Ze (o_eq hu) Zx (bv 3) b_int (by first | rfl | exact Z9 _)) ?_ ?_)
    . refine Z7 ?_
      refine (Zb (.same (.same (.same (.same (.same (.same (.same (.same (.same .nil))))))))) (Z1h (Z0 (bv 3) (Z0 (Z1h (Z0 (bv 4) Z2)) (Z0 (b_sh (Z4 Zo b_str (bv 4))) Z2)))))
    . exact Zm
  refine Z5 (Γ1 := [.s, .s, .s, .s, .s, .s, .s, .s, .s]) ?_ ?_
  . refine (s_if (.same (.same (.same (.same (.same (.same (.same (.same (.same .nil))))))))) (Ze (o_eq hu) Zx (bv 3) b_int (by first | rfl | exact Z9 _)) ?_ ?_)
    . refine Z5 (Γ1 := [.s, .s, .s, .s, .s, .s, .s, .s, .s]) ?_ ?_
      . refine (Zs (.same (.same (.same (.same (.same (.same (.same (.same (.same .nil))))))))) nd rfl (.inl rfl) rfl (Zd (ok_u T) (hr.mono (by decide)) rfl T.m_u T.F_u.kp T.b_f__law_number (Z0 (bv 2) (Z0 (Z4 Z4x (Z4 Z55 b_int b_int) b_int) Z2))))
      refine Z7 ?_
      refine (Zb (.same (.same (.same (.same (.same (.same (.same (.same (.same .nil))))))))) (Z1h (Z0 (bv 3) (Z0 (Z1h (Z0 (bv 4) (Z0 (bv 5) (Z0 (bv 6) Z2)))) (Z0 (b_sh (Z4 Zo (b_sh (Z4 Zo (b_sh (Z4 Zo (b_sh (Z4 Zo (b_sh (Z4 Zo b_str (bv 4))) b_str)) (bv 5))) b_str)) (Z1t Z6t rfl T.b_str Z3r (Z0 (bv 6) Z2)))) Z2)))))
    . exact Zm
  refine Z5 (Γ1 := [.s, .s, .s, .s, .s, .s, .s, .s, .s]) ?_ ?_
  . refine (Zs (.same (.same (.same (.same (.same (.same (.same (.same (.same .nil))))))))) nd rfl (.inl rfl) rfl (Zw (k_max2 rfl) rfl T.b_max Zdp (Z0 b_int (Z0 (Zd (ok_u T) (hr.mono (by decide)) rfl T.m_u T.F_u.kp T.b_f__law_number (Z0 (bv 2) (Z0 (Z4 Z4x (Z4 Z55 b_int b_int) b_int) Z2))) Z2))))
  refine Z5 (Γ1 := [.s, .s, .s, .s, .s, .s, .s, .s, .s]) ?_ ?_
  . refine (s_if (.same (.same (.same (.same (.same (.same (.same (.same (.same .nil))))))))) (Ze (o_eq hu) Zx (bv 3) b_int (by first | rfl | exact Z9 _)) ?_ ?_)
    . refine Z7 ?_
      refine (Zb (.same (.same (.same (.same (.same (.same (.same (.same (.same .nil))))))))) (Z1h (Z0 (bv 3) (Z0 (Z1h (Z0 (bv 4) (Z0 (bv 5) (Z0 (bv 7) Z2)))) (Z0 (b_sh (Z4 Zo (b_sh (Z4 Zo (b_sh (Z4 Zo (b_sh (Z4 Zo (b_sh (Z4 Zo b_str (bv 4))) b_str)) (bv 5))) b_str)) (Z1t Z6t rfl T.b_str Z3r (Z0 (bv 7) Z2)))) Z2)))))
    . exact Zm
  refine Z5 (Γ1 := [.s, .s, .s, .s, .s, .s, .s, .s, .s]) ?_ ?_
  . refine (s_if (.same (.same (.same (.same (.same (.same (.same (.same (.same .nil))))))))) (Ze (o_eq hu) Zx (bv 3) b_int (by first | rfl | exact Z9 _)) ?_ ?_)
    . refine Z5 (Γ1 := [.s, .s, .s, .s, .s, .s, .s, .s, .s]) ?_ ?_
      . refine (Zs (.same (.same (.same (.same (.same (.same (.same (.same (.same .nil))))))))) nd rfl (.inl rfl) rfl (Zd (ok_v T) (hr.mono (by decide)) rfl T.m_v T.F_v.kp T.b_f__law_ring (Z0 (bv 1) (Z0 (b_sh (Z4 Zo b_int (Z4 Zv (Z4 Z1e (bv 0) b_int) b_int))) Z2))))
      refine Z7 ?_
      refine (Zb (.same (.same (.same (.same (.same (.same (.same (.same (.same .nil))))))))) (Z1h (Z0 (bv 3) (Z0 (Z1h (Z0 (bv 8) (Z0 (bv 7) Z2))) (Z0 (b_sh (Z4 Zo (b_sh (Z4 Zo (b_sh (Z4 Zo b_str (Z1t Z6t rfl T.b_str Z3r (Z0 (bv 7) Z2)))) b_str)) (Zd6 b_str (bv 8)))) Z2)))))
    . exact Zm
  refine Z7 ?_
  refine (Zb (.same (.same (.same (.same (.same (.same (.same (.same (.same .nil))))))))) (Z1h (Z0 (bv 3) (Z0 (Z1h (Z0 (bv 4) Z2)) (Z0 (b_sh (Z4 Zo b_str (bv 4))) Z2)))))
theorem sc_w : FnScope ["found", "kind"] ["found", "kind"] (Z1 (top 35)) := ⟨rfl, rfl, rfl, by decide +kernel, rfl, by decide +kernel, by decide +kernel⟩
set_option maxHeartbeats 0 in
theorem ok_w (T : Txt K mg) : FnB P w K mg base 1 T.a_w T.fd_w ["found", "kind"] .s f_w := by
  refine fn_B (N := ["found", "kind"]) (k := 0) (Γ0 := [.s, .s]) (Γ' := [.s, .s]) (body := y_w) T.F_w sc_w rfl fun cdv A outer s H E hr => ?_
  have hu := Zl hr
  have nd := sc_w.nd
  refine Z5 (Γ1 := [.s, .s]) ?_ ?_
  . refine (s_if (.same (.same .nil)) (PWB.pt (Z2x (Ze (o_eq hu) Zx (bv 1) b_int (by first | rfl | exact Z9 _)) (Z2v (Ze (o_eq hu) Zx (bv 1) b_int (by first | rfl | exact Z9 _))))) ?_ ?_)
    . refine Z7 ?_
      refine (Zb (.same (.same .nil)) (Z1h (Z0 (Z13 (Z4k T) (bv 0)) Z2)))
    . exact Zm
  refine Z5 (Γ1 := [.s, .s]) ?_ ?_
  . refine (s_if (.same (.same .nil)) (Ze (o_eq hu) Zx (bv 1) b_int (by first | rfl | exact Z9 _)) ?_ ?_)
    . refine Z7 ?_
      refine (Zb (.same (.same .nil)) (Z1h (Z0 (Z13 (Zbu T) (bv 0)) (Z0 (Z13 (Z88 T) (bv 0)) (Z0 (Z13 (Z9l T) (bv 0)) Z2)))))
    . exact Zm
  refine Z5 (Γ1 := [.s, .s]) ?_ ?_
  . refine (s_if (.same (.same .nil)) (Ze (o_eq hu) Zx (bv 1) b_int (by first | rfl | exact Z9 _)) ?_ ?_)
    . refine Z7 ?_
      refine (Zb (.same (.same .nil)) (Z1h (Z0 (Z13 (Z79 T) (bv 0)) (Z0 (Z13 (Z89 T) (bv 0)) (Z0 (Z13 (Z32 T) (bv 0)) Z2)))))
    . exact Zm
  refine Z7 ?_
  refine (Zb (.same (.same .nil)) (Z1h (Z0 (Z13 (Z9s T) (bv 0)) (Z0 (Z13 (Z32 T) (bv 0)) Z2))))
theorem sc_r : FnScope ["found", "kind", "things", "kinds", "told"] ["found", "kind", "things"] (Z1 (top 36)) := ⟨rfl, rfl, rfl, by decide +kernel, rfl, by decide +kernel, by decide +kernel⟩
set_option maxHeartbeats 0 in
theorem ok_r (T : Txt K mg) : FnB P w K mg base 2 T.a_r T.fd_r ["found", "kind", "things"] .s f_r := by
  refine fn_B (N := ["found", "kind", "things", "kinds", "told"]) (k := 1) (Γ0 := [.s, .s, .s, .s, .s]) (Γ' := [.s, .s, .s, .s, .s]) (body := y_r) T.F_r sc_r rfl fun cdv A outer s H E hr => ?_
  have hu := Zl hr
  have nd := sc_r.nd
  refine Z5 (Γ1 := [.s, .s, .s, .o [], .s]) ?_ ?_
  . refine (Zs (.same (.same (.same (.same (.same .nil))))) nd rfl (.inl rfl) rfl (Z28 (Z0 (Z1f (Z16 T) (Z15 T) T.is_3 (fun W => Z27 (X := XB _ W) (v := .ref T.a_3) rfl T.m_3 rfl) (fun u r => r) rfl T.b_isinstance (bv 0)) (Z0 (Z1f (Z16 T) (Z15 T) T.is_g (fun W => Z27 (X := XB _ W) (v := .ref T.a_g) rfl T.m_g rfl) (fun u r => r) rfl T.b_isinstance (bv 0)) (Z0 (Z1f (Z16 T) (Z15 T) T.is_c (fun W => Z27 (X := XB _ W) (v := .ref T.a_c) rfl T.m_c rfl) (fun u r => r) rfl T.b_isinstance (bv 0)) (Z0 (Z1f (Z16 T) (Z15 T) T.is_k (fun W => Z27 (X := XB _ W) (v := .ref T.a_k) rfl T.m_k rfl) (fun u r => r) rfl T.b_isinstance (bv 0)) Z2))))))
  refine Z5 (Γ1 := [.s, .s, .s, .o [], .s]) ?_ ?_
  . refine (Zeb (.same (.same (.same (.drop (.same .nil))))) rfl (.inl rfl) rfl (Z1f (Z16 T) (Z15 T) T.is_7 (fun W => Z27 (X := XB _ W) (v := .ref T.a_7) rfl T.m_7 rfl) (fun u r => r) rfl T.b_isinstance (bv 0)))
  refine Z5 (Γ1 := [.s, .s, .s, .s, .s]) ?_ ?_
  . refine (s_pre (Γ1 := [.s, .s, .s, .s, .s]) (.same (.same (.same (.drop (.same .nil))))) (s_if (.same (.same (.same (.same (.same .nil))))) (PWB.pt (Z2x (Ze (o_ne hu) Z6y (bv 3) (b_sh (Z37 (N' := [("found" : Str), ("kind" : Str), ("things" : Str), ("kinds" : Str), ("told" : Str), ("k" : Str)]) (show CompN [("found" : Str), ("kind" : Str), ("things" : Str), ("kinds" : Str), ("told" : Str)] _ _ _ (Z1 (top 36)) from ⟨by decide +kernel, by decide +kernel, by decide +kernel, by decide +kernel, by decide +kernel, by decide +kernel, by decide +kernel, by decide +kernel, by decide +kernel⟩) rfl (Z3o rfl T.b_range (Z0 b_int Z2)) fun cl C s₀ H₀ ex => ⟨(Z1m (Zau hu) (bv 5) (bv 1) (by first | rfl | exact Z9 _)), .inl ⟨rfl, rfl⟩⟩)) (by first | rfl | exact Z9 _)) (Z2v (Z2c (Z1z (Z1f (Z16 T) (Z15 T) T.is_0 (fun W => Z27 (X := XB _ W) (v := .ref T.a_0) rfl T.m_0 rfl) (fun u r => r) rfl T.b_isinstance (bv 0))))))) ?_ ?_))
    . refine Z7 ?_
      refine (Zb (.same (.same (.same (.same (.same .nil))))) b_bl)
    . exact Zm
  refine Z5 (Γ1 := [.s, .s, .s, .s, .s]) ?_ ?_
  . refine (Zs (.same (.same (.same (.same (.same .nil))))) nd rfl (.inl rfl) rfl (Zd (ok_w T) (hr.mono (by decide)) rfl T.m_w T.F_w.kp T.b_f__law_things (Z0 (bv 0) (Z0 (bv 1) Z2))))
  refine Z5 (Γ1 := [.s, .s, .s, .s, .s]) ?_ ?_
  . refine (s_if (.same (.same (.same (.same (.same .nil))))) (PWB.pt (Z2x (Ze (o_ne2 hu) Zcg (bv 4) (bv 2) (by first | rfl | exact Z9 _)) (Z2v (PWB.pt (Z87 (Ze (o_eq hu) Zx (bv 1) b_int (by first | rfl | exact Z9 _)) (Z5q (Z2c (Z1z (Z1f (Z16 T) (Z15 T) T.is_list (fun W => Z1l (X := XB _ W) (v := .ty "list") rfl T.b_list rfl rfl) (fun u r => r) rfl T.b_isinstance (b_ix hu (bv 4) b_int)))))))))) ?_ ?_)
    . refine Z7 ?_
      refine (Zb (.same (.same (.same (.same (.same .nil))))) b_bl)
    . exact Zm
  refine Z5 (Γ1 := [.s, .s, .s, .s, .s]) ?_ ?_
  . refine (s_if (.same (.same (.same (.same (.same .nil))))) (PWB.pt (Z2x (Ze (o_eq hu) Zx (bv 1) b_int (by first | rfl | exact Z9 _)) (Z2v (Ze (o_eq hu) Zx (bv 1) b_int (by first | rfl | exact Z9 _))))) ?_ ?_)
    . refine Z7 ?_
      refine (Zb (.same (.same (.same (.same (.same .nil))))) b_bl)
    . exact Zm
  refine Z7 ?_
  refine (Zb (.same (.same (.same (.same (.same .nil))))) (Z23 (Z1f (Z16 T) (Z15 T) T.is_int (fun W => Z1l (X := XB _ W) (v := .ty "int") rfl T.b_int rfl rfl) (fun u r => r) rfl T.b_isinstance (b_ix hu (bv 4) (b_neg b_int))) (Z34 (b_not (Z1f (Z16 T) (Z15 T) T.is_bool (fun W => Z1l (X := XB _ W) (v := .ty "bool") rfl T.b_bool rfl rfl) (fun u r => r) rfl T.b_isinstance (b_ix hu (bv 4) (b_neg b_int)))))))
theorem sc_p : FnScope ["script", "k"] ["script", "k"] (Z1 (top 29)) := ⟨rfl, rfl, rfl, by decide +kernel, rfl, by decide +kernel, by decide +kernel⟩
set_option maxHeartbeats 0 in
theorem ok_p (T : Txt K mg) : FnB P w K mg base 1 T.a_p T.fd_p ["script", "k"] .s f_p := by
  refine fn_B (N := ["script", "k"]) (k := 0) (Γ0 := [.s, .s]) (Γ' := [.s, .s]) (body := y_p) T.F_p sc_p rfl fun cdv A outer s H E hr => ?_
  have hu := Zl hr
  have nd := sc_p.nd
  refine Z5 (Γ1 := [.s, .s]) ?_ ?_
  . refine (s_if (.same (.same .nil)) (Ze o_lt Za3 (bv 1) (Zw Z1s rfl T.b_len PySem.boot_len (Z0 (bv 0) Z2)) (by first | rfl | exact Z9 _)) ?_ ?_)
    . refine Z7 ?_
      refine (Zb (.same (.same .nil)) (b_ix hu (bv 0) (bv 1)))
    . exact Zm
  refine Z7 ?_
  refine (Zb (.same (.same .nil)) b_int)
theorem sc_1c : FnScope ["row"] ["row"] (Z1 (top 20)) := ⟨rfl, rfl, rfl, by decide +kernel, rfl, by decide +kernel, by decide +kernel⟩
set_option maxHeartbeats 0 in
theorem ok_1c (T : Txt K mg) : FnB P w K mg base 1 T.a_1c T.fd_1c ["row"] .s f_1c := by
  refine fn_B (N := ["row"]) (k := 0) (Γ0 := [.s]) (Γ' := [.s]) (body := y_1c) T.F_1c sc_1c rfl fun cdv A outer s H E hr => ?_
  have hu := Zl hr
  have nd := sc_1c.nd
  refine Z5 (Γ1 := [.s]) ?_ ?_
  . refine (s_if (.same .nil) (Z2c (Z1z (Z1f (Z16 T) (Z15 T) T.is_str (fun W => Z1l (X := XB _ W) (v := .ty "str") rfl T.b_str rfl rfl) (fun u r => r) rfl T.b_isinstance (bv 0)))) ?_ ?_)
    . refine Z7 ?_
      refine (Z9j (.same .nil) rfl rfl T.m_b T.x_b)
    . exact Zm
  refine Z7 ?_
  refine (Zb (.same .nil) (b_sh (Zg1 (bv 0) b_str)))
theorem sc_15 : FnScope ["is_row"] ["is_row"] (Z1 (top 23)) := ⟨rfl, rfl, rfl, by decide +kernel, rfl, by decide +kernel, by decide +kernel⟩
set_option maxHeartbeats 0 in
theorem ok_15 (T : Txt K mg) : FnB P w K mg base 1 T.a_15 T.fd_15 ["is_row"] .s f_15 := by
  refine fn_B (N := ["is_row"]) (k := 0) (Γ0 := [.s]) (Γ' := [.s]) (body := y_15) T.F_15 sc_15 rfl fun cdv A outer s H E hr => ?_
  have hu := Zl hr
  have nd := sc_15.nd
  refine Z7 ?_
  refine (s_if (.same .nil) (Z2c (Z1z (bv 0))) ?_ ?_)
  . refine Z7 ?_
    refine (Z9j (.same .nil) rfl rfl T.m_b T.x_b)
  . exact Zm
theorem sc_16 : FnScope ["word"] ["word"] (Z1 (top 21)) := ⟨rfl, rfl, rfl, by decide +kernel, rfl, by decide +kernel, by decide +kernel⟩
set_option maxHeartbeats 0 in
theorem ok_16 (T : Txt K mg) : FnB P w K mg base 1 T.a_16 T.fd_16 ["word"] .s f_16 := by
  refine fn_B (N := ["word"]) (k := 0) (Γ0 := [.s]) (Γ' := [.s]) (body := y_16) T.F_16 sc_16 rfl fun cdv A outer s H E hr => ?_
  have hu := Zl hr
  have nd := sc_16.nd
  refine Z5 (Γ1 := [.s]) ?_ ?_
  . refine (s_if (.same .nil) (PWB.pt (Z2x (Ze o_lt Za3 (Zw Z1s rfl T.b_len PySem.boot_len (Z0 (bv 0) Z2)) b_int (by first | rfl | exact Z9 _)) (Z2v (Ze o_gt Zai (Zw Z1s rfl T.b_len PySem.boot_len (Z0 (bv 0) Z2)) b_int (by first | rfl | exact Z9 _))))) ?_ ?_)
    . refine Z7 ?_
      refine (Zb (.same .nil) Za7)
    . exact Zm
  refine Z5 (Γ1 := [.s]) ?_ ?_
  . refine (s_if (.same .nil) (Z2c (Z1z (Zw (Zak rfl) rfl T.b_all B.boot_all (Z0 (b_sh (Z37 (N' := [("word" : Str), ("sign" : Str)]) (show CompN [("word" : Str)] _ _ _ (Z1 (top 21)) from ⟨by decide +kernel, by decide +kernel, by decide +kernel, by decide +kernel, by decide +kernel, by decide +kernel, by decide +kernel, by decide +kernel, by decide +kernel⟩) rfl (i_V (bv 0)) fun cl C s₀ H₀ ex => ⟨(Z1m (o_in hu) (bv 1) (Zcp rfl T.c_FIGURES) (by first | rfl | exact Z9 _)), .inl ⟨rfl, rfl⟩⟩)) Z2)))) ?_ ?_)
    . refine Z7 ?_
      refine (Zb (.same .nil) Za7)
    . exact Zm
  refine Z5 (Γ1 := [.s]) ?_ ?_
  . refine (s_if (.same .nil) (PWB.pt (Z87 (Ze (o_eq hu) Zx (b_ix hu (bv 0) b_int) b_str (by first | rfl | exact Z9 _)) (Z5q (Ze o_gt Zai (Zw Z1s rfl T.b_len PySem.boot_len (Z0 (bv 0) Z2)) b_int (by first | rfl | exact Z9 _))))) ?_ ?_)
    . refine Z7 ?_
      refine (Zb (.same .nil) Za7)
    . exact Zm
  refine Z7 ?_
  refine (Zb (.same .nil) (Z1t k_int2 rfl T.b_int Ze2 (Z0 (bv 0) Z2)))
theorem sc_k : FnScope ["self", "ring", "amount"] ["self", "ring", "amount"] (Z1 (Z3 (top 16) 0)) := ⟨rfl, rfl, rfl, by decide +kernel, rfl, by decide +kernel, by decide +kernel⟩
set_option maxHeartbeats 0 in
theorem ok_k (T : Txt K mg) : FnOk P w K mg base (CXB P w) 1 T.i_k T.fi_k ["self", "ring", "amount"] (spI mg T.a_k 2 g_k) := by
  refine Z40 (N := ["self", "ring", "amount"]) (k := 0) (n := 2) (self := "self") T.Fi_k sc_k rfl rfl (.inl rfl) T.o_k.cl (by decide +kernel) (by decide) fun cdv A outer s H E hr => ?_
  have hu := Zl hr
  exact (.cons (b_ifx (Z1z (Z1f (Z16 T) (Z15 T) T.is_list (fun W => Z1l (X := XB _ W) (v := .ty "list") rfl T.b_list rfl rfl) (fun u r => r) rfl T.b_isinstance (bv 1))) (b_sh (Z1t Zbq rfl T.b_list Z5w (Z0 (bv 1) Z2))) (bv 1)) (T.n_k _ List.mem_cons_self) (by exact Zy rfl) (.cons (bv 2) (T.n_k _ (List.mem_cons_of_mem _ (List.mem_cons_self))) (by exact Zy rfl) .nil))
theorem sc_13 : FnScope ["thing"] ["thing"] (Z1 (top 6)) := ⟨rfl, rfl, rfl, by decide +kernel, rfl, by decide +kernel, by decide +kernel⟩
set_option maxHeartbeats 0 in
theorem ok_13 (T : Txt K mg) : FnB P w K mg base 1 T.a_13 T.fd_13 ["thing"] .s f_13 := by
  refine fn_B (N := ["thing"]) (k := 0) (Γ0 := [.s]) (Γ' := [.s]) (body := y_13) T.F_13 sc_13 rfl fun cdv A outer s H E hr => ?_
  have hu := Zl hr
  have nd := sc_13.nd
  refine Z7 ?_
  refine (Zb (.same .nil) (Z23 (Z1f (Z16 T) (Z15 T) T.is_int (fun W => Z1l (X := XB _ W) (v := .ty "int") rfl T.b_int rfl rfl) (fun u r => r) rfl T.b_isinstance (bv 0)) (Z34 (b_not (Z1f (Z16 T) (Z15 T) T.is_bool (fun W => Z1l (X := XB _ W) (v := .ty "bool") rfl T.b_bool rfl rfl) (fun u r => r) rfl T.b_isinstance (bv 0))))))
theorem sc_10 : FnScope ["thing"] ["thing"] (Z1 (top 8)) := ⟨rfl, rfl, rfl, by decide +kernel, rfl, by decide +kernel, by decide +kernel⟩
set_option maxHeartbeats 0 in
theorem ok_10 (T : Txt K mg) : FnB P w K mg base 2 T.a_10 T.fd_10 ["thing"] .s f_10 := by
  refine fn_B (N := ["thing"]) (k := 1) (Γ0 := [.s]) (Γ' := [.s]) (body := y_10) T.F_10 sc_10 rfl fun cdv A outer s H E hr => ?_
  have hu := Zl hr
  have nd := sc_10.nd
  refine Z7 ?_
  refine (Zb (.same .nil) (Z23 (Zd (ok_13 T) (hr.mono (by decide)) rfl T.m_13 T.F_13.kp T.b_f_is_whole (Z0 (bv 0) Z2)) (Z23 (Z1m o_le b_int (bv 0) (by first | rfl | exact Z9 _)) (Z34 (Z1m o_lt (bv 0) (Z4 Z55 b_int b_int) (by first | rfl | exact Z9 _))))))
theorem sc_12 : FnScope ["thing"] ["thing"] (Z1 (top 7)) := ⟨rfl, rfl, rfl, by decide +kernel, rfl, by decide +kernel, by decide +kernel⟩
set_option maxHeartbeats 0 in
theorem ok_12 (T : Txt K mg) : FnB P w K mg base 1 T.a_12 T.fd_12 ["thing"] .s f_12 := by
  refine fn_B (N := ["thing"]) (k := 0) (Γ0 := [.s]) (Γ' := [.s]) (body := y_12) T.F_12 sc_12 rfl fun cdv A outer s H E hr => ?_
  have hu := Zl hr
  have nd := sc_12.nd
  refine Z5 (Γ1 := [.s]) ?_ ?_
  . refine (s_if (.same .nil) (Z2c (Z1z (Z1f (Z16 T) (Z15 T) T.is_str (fun W => Z1l (X := XB _ W) (v := .ty "str") rfl T.b_str rfl rfl) (fun u r => r) rfl T.b_isinstance (bv 0)))) ?_ ?_)
    . refine Z7 ?_
      refine (Zb (.same .nil) b_bl)
    . exact Zm
  refine Z5 (Γ1 := [.s]) ?_ ?_
  . refine (s_if (.same .nil) (PWB.pt (Z2x (Ze o_lt Za3 (Zw Z1s rfl T.b_len PySem.boot_len (Z0 (bv 0) Z2)) b_int (by first | rfl | exact Z9 _)) (Z2v (Ze o_gt Zai (Zw Z1s rfl T.b_len PySem.boot_len (Z0 (bv 0) Z2)) b_int (by first | rfl | exact Z9 _))))) ?_ ?_)
    . refine Z7 ?_
      refine (Zb (.same .nil) b_bl)
    . exact Zm
  refine Z7 ?_
  refine (Zb (.same .nil) (Zw (Zak rfl) rfl T.b_all B.boot_all (Z0 (b_sh (Z37 (N' := [("thing" : Str), ("letter" : Str)]) (show CompN [("thing" : Str)] _ _ _ (Z1 (top 7)) from ⟨by decide +kernel, by decide +kernel, by decide +kernel, by decide +kernel, by decide +kernel, by decide +kernel, by decide +kernel, by decide +kernel, by decide +kernel⟩) rfl (i_V (bv 0)) fun cl C s₀ H₀ ex => ⟨(Z1m (o_in hu) (bv 1) (Zcp rfl T.c_LETTERS) (by first | rfl | exact Z9 _)), .inl ⟨rfl, rfl⟩⟩)) Z2)))
theorem sc_z : FnScope ["words"] ["words"] (Z1 (top 22)) := ⟨rfl, rfl, rfl, by decide +kernel, rfl, by decide +kernel, by decide +kernel⟩
set_option maxHeartbeats 0 in
theorem ok_z (T : Txt K mg) : FnB P w K mg base 2 T.a_z T.fd_z ["words"] .s f_z := by
  refine fn_B (N := ["words"]) (k := 1) (Γ0 := [.s]) (Γ' := [.s]) (body := y_z) T.F_z sc_z rfl fun cdv A outer s H E hr => ?_
  have hu := Zl hr
  have nd := sc_z.nd
  refine Z7 ?_
  refine (Zb (.same .nil) (Z23 (Zw (Zak rfl) rfl T.b_all B.boot_all (Z0 (b_sh (Z37 (N' := [("words" : Str), ("word" : Str)]) (show CompN [("words" : Str)] _ _ _ (Z1 (top 22)) from ⟨by decide +kernel, by decide +kernel, by decide +kernel, by decide +kernel, by decide +kernel, by decide +kernel, by decide +kernel, by decide +kernel, by decide +kernel⟩) rfl (i_V (bv 0)) fun cl C s₀ H₀ ex => ⟨(Zd (ok_12 T) (hr.mono (by decide)) rfl T.m_12 T.F_12.kp T.b_f_is_name (Z0 (bv 1) Z2)), .inl ⟨rfl, rfl⟩⟩)) Z2)) (Z34 (Z1m (o_eq hu) (Zdy rfl rfl T.b_len PySem.boot_len rfl T.b_set Zdl (Z0 (bv 0) Z2)) (Zw Z1s rfl T.b_len PySem.boot_len (Z0 (bv 0) Z2)) (by first | rfl | exact Z9 _)))))
theorem sc_19 : FnScope ["words", "amount"] ["words"] (Z1 (top 26)) := ⟨rfl, rfl, rfl, by decide +kernel, rfl, by decide +kernel, by decide +kernel⟩
set_option maxHeartbeats 0 in
theorem ok_19 (T : Txt K mg) : FnB P w K mg base 3 T.a_19 T.fd_19 ["words"] .s f_19 := by
  refine fn_B (N := ["words", "amount"]) (k := 2) (Γ0 := [.s, .s]) (Γ' := [.s, .s]) (body := y_19) T.F_19 sc_19 rfl fun cdv A outer s H E hr => ?_
  have hu := Zl hr
  have nd := sc_19.nd
  refine Z5 (Γ1 := [.s, .s]) ?_ ?_
  . refine (Z2t (.same (.same .nil)) (Zd (ok_15 T) (hr.mono (by decide)) rfl T.m_15 T.F_15.kp T.b_f_need_row (Z0 (Z23 (Z1m o_ge (Zw Z1s rfl T.b_len PySem.boot_len (Z0 (bv 0) Z2)) b_int (by first | rfl | exact Z9 _)) (Z23 (Z1m o_le (Zw Z1s rfl T.b_len PySem.boot_len (Z0 (bv 0) Z2)) b_int (by first | rfl | exact Z9 _)) (Z34 (Zd (ok_z T) (hr.mono (by decide)) rfl T.m_z T.F_z.kp T.b_f_are_names_once (Z0 (b_sh (Z33 (bv 0) (Z22 b_int) Z2u)) Z2))))) Z2)))
  refine Z5 (Γ1 := [.s, .s]) ?_ ?_
  . refine (Zs (.same (.same .nil)) nd rfl (.inl rfl) rfl (Zd (ok_16 T) (hr.mono (by decide)) rfl T.m_16 T.F_16.kp T.b_f_number_of (Z0 (b_ix hu (bv 0) b_int) Z2)))
  refine Z5 (Γ1 := [.s, .s]) ?_ ?_
  . refine (Z2t (.same (.same .nil)) (Zd (ok_15 T) (hr.mono (by decide)) rfl T.m_15 T.F_15.kp T.b_f_need_row (Z0 (Zd (ok_10 T) (hr.mono (by decide)) rfl T.m_10 T.F_10.kp T.b_f_is_amount (Z0 (bv 1) Z2)) Z2)))
  refine Z7 ?_
  refine (Zb (.same (.same .nil)) (Z1r T.k_k (ok_k T) (hr.mono (by decide)) rfl T.m_k T.bi_k (Z0 (b_sh (Z33 (bv 0) (Z22 b_int) Z2u)) (Z0 (bv 1) Z2))))
theorem sc_7 : FnScope ["self", "house"] ["self", "house"] (Z1 (Z3 (top 17) 0)) := ⟨rfl, rfl, rfl, by decide +kernel, rfl, by decide +kernel, by decide +kernel⟩
set_option maxHeartbeats 0 in
theorem ok_7 (T : Txt K mg) : FnOk P w K mg base (CXB P w) 1 T.i_7 T.fi_7 ["self", "house"] (spI mg T.a_7 1 g_7) := by
  refine Z40 (N := ["self", "house"]) (k := 0) (n := 1) (self := "self") T.Fi_7 sc_7 rfl rfl (.inl rfl) T.o_7.cl (by decide +kernel) (by decide) fun cdv A outer s H E hr => ?_
  have hu := Zl hr
  exact (.cons (bv 1) (T.n_7 _ List.mem_cons_self) (by exact Zy rfl) .nil)
theorem sc_3 : FnScope ["self", "house"] ["self", "house"] (Z1 (Z3 (top 13) 0)) := ⟨rfl, rfl, rfl, by decide +kernel, rfl, by decide +kernel, by decide +kernel⟩
set_option maxHeartbeats 0 in
theorem ok_3 (T : Txt K mg) : FnOk P w K mg base (CXB P w) 1 T.i_3 T.fi_3 ["self", "house"] (spI mg T.a_3 1 g_3) := by
  refine Z40 (N := ["self", "house"]) (k := 0) (n := 1) (self := "self") T.Fi_3 sc_3 rfl rfl (.inl rfl) T.o_3.cl (by decide +kernel) (by decide) fun cdv A outer s H E hr => ?_
  have hu := Zl hr
  exact (.cons (bv 1) (T.n_3 _ List.mem_cons_self) (by exact Zy rfl) .nil)
theorem sc_18 : FnScope ["words"] ["words"] (Z1 (top 24)) := ⟨rfl, rfl, rfl, by decide +kernel, rfl, by decide +kernel, by decide +kernel⟩
set_option maxHeartbeats 0 in
theorem ok_18 (T : Txt K mg) : FnB P w K mg base 3 T.a_18 T.fd_18 ["words"] .s f_18 := by
  refine fn_B (N := ["words"]) (k := 2) (Γ0 := [.s]) (Γ' := [.s]) (body := y_18) T.F_18 sc_18 rfl fun cdv A outer s H E hr => ?_
  have hu := Zl hr
  have nd := sc_18.nd
  refine Z5 (Γ1 := [.s]) ?_ ?_
  . refine (Z2t (.same .nil) (Zd (ok_15 T) (hr.mono (by decide)) rfl T.m_15 T.F_15.kp T.b_f_need_row (Z0 (Z23 (Z1m (o_eq hu) (Zw Z1s rfl T.b_len PySem.boot_len (Z0 (bv 0) Z2)) b_int (by first | rfl | exact Z9 _)) (Z34 (Zd (ok_12 T) (hr.mono (by decide)) rfl T.m_12 T.F_12.kp T.b_f_is_name (Z0 (b_ix hu (bv 0) b_int) Z2)))) Z2)))
  refine Z5 (Γ1 := [.s]) ?_ ?_
  . refine (s_if (.same .nil) (Ze (o_eq hu) Zx (b_ix hu (bv 0) b_int) b_str (by first | rfl | exact Z9 _)) ?_ ?_)
    . refine Z7 ?_
      refine (Zb (.same .nil) (Z1r T.k_3 (ok_3 T) (hr.mono (by decide)) rfl T.m_3 T.bi_3 (Z0 (b_ix hu (bv 0) b_int) Z2)))
    . exact Zm
  refine Z7 ?_
  refine (Zb (.same .nil) (Z1r T.k_7 (ok_7 T) (hr.mono (by decide)) rfl T.m_7 T.bi_7 (Z0 (b_ix hu (bv 0) b_int) Z2)))
theorem sc_c : FnScope ["self", "payer", "taker", "amount"] ["self", "payer", "taker", "amount"] (Z1 (Z3 (top 15) 0)) := ⟨rfl, rfl, rfl, by decide +kernel, rfl, by decide +kernel, by decide +kernel⟩
set_option maxHeartbeats 0 in
theorem ok_c (T : Txt K mg) : FnOk P w K mg base (CXB P w) 1 T.i_c T.fi_c ["self", "payer", "taker", "amount"] (spI mg T.a_c 3 g_c) := by
  refine Z40 (N := ["self", "payer", "taker", "amount"]) (k := 0) (n := 3) (self := "self") T.Fi_c sc_c rfl rfl (.inl rfl) T.o_c.cl (by decide +kernel) (by decide) fun cdv A outer s H E hr => ?_
  have hu := Zl hr
  exact (.cons (bv 1) (T.n_c _ List.mem_cons_self) (by exact Zy rfl) (.cons (bv 2) (T.n_c _ (List.mem_cons_of_mem _ (List.mem_cons_self))) (by exact Zy rfl) (.cons (bv 3) (T.n_c _ (List.mem_cons_of_mem _ (List.mem_cons_of_mem _ (List.mem_cons_self)))) (by exact Zy rfl) .nil)))
theorem sc_g : FnScope ["self", "one", "other", "line"] ["self", "one", "other", "line"] (Z1 (Z3 (top 14) 0)) := ⟨rfl, rfl, rfl, by decide +kernel, rfl, by decide +kernel, by decide +kernel⟩
set_option maxHeartbeats 0 in
theorem ok_g (T : Txt K mg) : FnOk P w K mg base (CXB P w) 1 T.i_g T.fi_g ["self", "one", "other", "line"] (spI mg T.a_g 3 g_g) := by
  refine Z40 (N := ["self", "one", "other", "line"]) (k := 0) (n := 3) (self := "self") T.Fi_g sc_g rfl rfl (.inl rfl) T.o_g.cl (by decide +kernel) (by decide) fun cdv A outer s H E hr => ?_
  have hu := Zl hr
  exact (.cons (bv 1) (T.n_g _ List.mem_cons_self) (by exact Zy rfl) (.cons (bv 2) (T.n_g _ (List.mem_cons_of_mem _ (List.mem_cons_self))) (by exact Zy rfl) (.cons (bv 3) (T.n_g _ (List.mem_cons_of_mem _ (List.mem_cons_of_mem _ (List.mem_cons_self)))) (by exact Zy rfl) .nil)))
theorem sc_11 : FnScope ["thing"] ["thing"] (Z1 (top 9)) := ⟨rfl, rfl, rfl, by decide +kernel, rfl, by decide +kernel, by decide +kernel⟩
set_option maxHeartbeats 0 in
theorem ok_11 (T : Txt K mg) : FnB P w K mg base 2 T.a_11 T.fd_11 ["thing"] .s f_11 := by
  refine fn_B (N := ["thing"]) (k := 1) (Γ0 := [.s]) (Γ' := [.s]) (body := y_11) T.F_11 sc_11 rfl fun cdv A outer s H E hr => ?_
  have hu := Zl hr
  have nd := sc_11.nd
  refine Z7 ?_
  refine (Zb (.same .nil) (Z23 (Zd (ok_13 T) (hr.mono (by decide)) rfl T.m_13 T.F_13.kp T.b_f_is_whole (Z0 (bv 0) Z2)) (Z23 (Z1m o_le b_int (bv 0) (by first | rfl | exact Z9 _)) (Z34 (Z1m o_lt (bv 0) (Z4 Z55 b_int b_int) (by first | rfl | exact Z9 _))))))
theorem sc_1a : FnScope ["words", "number"] ["words"] (Z1 (top 25)) := ⟨rfl, rfl, rfl, by decide +kernel, rfl, by decide +kernel, by decide +kernel⟩
set_option maxHeartbeats 0 in
theorem ok_1a (T : Txt K mg) : FnB P w K mg base 3 T.a_1a T.fd_1a ["words"] .s f_1a := by
  refine fn_B (N := ["words", "number"]) (k := 2) (Γ0 := [.s, .s]) (Γ' := [.s, .s]) (body := y_1a) T.F_1a sc_1a rfl fun cdv A outer s H E hr => ?_
  have hu := Zl hr
  have nd := sc_1a.nd
  refine Z5 (Γ1 := [.s, .s]) ?_ ?_
  . refine (Z2t (.same (.same .nil)) (Zd (ok_15 T) (hr.mono (by decide)) rfl T.m_15 T.F_15.kp T.b_f_need_row (Z0 (Z23 (Z1m (o_eq hu) (Zw Z1s rfl T.b_len PySem.boot_len (Z0 (bv 0) Z2)) b_int (by first | rfl | exact Z9 _)) (Z34 (Zd (ok_z T) (hr.mono (by decide)) rfl T.m_z T.F_z.kp T.b_f_are_names_once (Z0 (b_sh (Z33 (bv 0) (Z22 b_int) (Z22 b_int))) Z2)))) Z2)))
  refine Z5 (Γ1 := [.s, .s]) ?_ ?_
  . refine (Zs (.same (.same .nil)) nd rfl (.inl rfl) rfl (Zd (ok_16 T) (hr.mono (by decide)) rfl T.m_16 T.F_16.kp T.b_f_number_of (Z0 (b_ix hu (bv 0) b_int) Z2)))
  refine Z5 (Γ1 := [.s, .s]) ?_ ?_
  . refine (s_if (.same (.same .nil)) (Ze (o_eq hu) Zx (b_ix hu (bv 0) b_int) b_str (by first | rfl | exact Z9 _)) ?_ ?_)
    . refine Z5 (Γ1 := [.s, .s]) ?_ ?_
      . refine (Z2t (.same (.same .nil)) (Zd (ok_15 T) (hr.mono (by decide)) rfl T.m_15 T.F_15.kp T.b_f_need_row (Z0 (Zd (ok_11 T) (hr.mono (by decide)) rfl T.m_11 T.F_11.kp T.b_f_is_line (Z0 (bv 1) Z2)) Z2)))
      refine Z7 ?_
      refine (Zb (.same (.same .nil)) (Z1r T.k_g (ok_g T) (hr.mono (by decide)) rfl T.m_g T.bi_g (Z0 (b_ix hu (bv 0) b_int) (Z0 (b_ix hu (bv 0) b_int) (Z0 (bv 1) Z2)))))
    . exact Zm
  refine Z5 (Γ1 := [.s, .s]) ?_ ?_
  . refine (Z2t (.same (.same .nil)) (Zd (ok_15 T) (hr.mono (by decide)) rfl T.m_15 T.F_15.kp T.b_f_need_row (Z0 (Zd (ok_10 T) (hr.mono (by decide)) rfl T.m_10 T.F_10.kp T.b_f_is_amount (Z0 (bv 1) Z2)) Z2)))
  refine Z7 ?_
  refine (Zb (.same (.same .nil)) (Z1r T.k_c (ok_c T) (hr.mono (by decide)) rfl T.m_c T.bi_c (Z0 (b_ix hu (bv 0) b_int) (Z0 (b_ix hu (bv 0) b_int) (Z0 (bv 1) Z2)))))
theorem sc_17 : FnScope ["row", "words"] ["row"] (Z1 (top 27)) := ⟨rfl, rfl, rfl, by decide +kernel, rfl, by decide +kernel, by decide +kernel⟩
set_option maxHeartbeats 0 in
theorem ok_17 (T : Txt K mg) : FnB P w K mg base 4 T.a_17 T.fd_17 ["row"] .s f_17 := by
  refine fn_B (N := ["row", "words"]) (k := 3) (Γ0 := [.s, .s]) (Γ' := [.s, .s]) (body := y_17) T.F_17 sc_17 rfl fun cdv A outer s H E hr => ?_
  have hu := Zl hr
  have nd := sc_17.nd
  refine Z5 (Γ1 := [.s, .s]) ?_ ?_
  . refine (Zs (.same (.same .nil)) nd rfl (.inl rfl) rfl (Zd (ok_1c T) (hr.mono (by decide)) rfl T.m_1c T.F_1c.kp T.b_f_words_of (Z0 (bv 0) Z2)))
  refine Z5 (Γ1 := [.s, .s]) ?_ ?_
  . refine (s_if (.same (.same .nil)) (Ze (o_in hu) bl_in (b_ix hu (bv 1) b_int) (b_sh (Z28 (Z0 b_str (Z0 b_str Z2)))) (by first | rfl | exact Z9 _)) ?_ ?_)
    . refine Z7 ?_
      refine (Zb (.same (.same .nil)) (Zd (ok_18 T) (hr.mono (by decide)) rfl T.m_18 T.F_18.kp T.b_f_read_of_one (Z0 (bv 1) Z2)))
    . exact Zm
  refine Z5 (Γ1 := [.s, .s]) ?_ ?_
  . refine (s_if (.same (.same .nil)) (Ze (o_in hu) bl_in (b_ix hu (bv 1) b_int) (b_sh (Z28 (Z0 b_str (Z0 b_str Z2)))) (by first | rfl | exact Z9 _)) ?_ ?_)
    . refine Z7 ?_
      refine (Zb (.same (.same .nil)) (Zd (ok_1a T) (hr.mono (by decide)) rfl T.m_1a T.F_1a.kp T.b_f_read_of_two (Z0 (bv 1) Z2)))
    . exact Zm
  refine Z5 (Γ1 := [.s, .s]) ?_ ?_
  . refine (Z2t (.same (.same .nil)) (Zd (ok_15 T) (hr.mono (by decide)) rfl T.m_15 T.F_15.kp T.b_f_need_row (Z0 (Z1m (o_eq hu) (b_ix hu (bv 1) b_int) b_str (by first | rfl | exact Z9 _)) Z2)))
  refine Z7 ?_
  refine (Zb (.same (.same .nil)) (Zd (ok_19 T) (hr.mono (by decide)) rfl T.m_19 T.F_19.kp T.b_f_read_of_ring (Z0 (bv 1) Z2)))
theorem sc_q : FnScope ["kind", "things"] ["kind", "things"] (Z1 (top 37)) := ⟨rfl, rfl, rfl, by decide +kernel, rfl, by decide +kernel, by decide +kernel⟩
set_option maxHeartbeats 0 in
theorem ok_q (T : Txt K mg) : FnB P w K mg base 3 T.a_q T.fd_q ["kind", "things"] .s f_q := by
  refine fn_B (N := ["kind", "things"]) (k := 2) (Γ0 := [.s, .s]) (Γ' := [.s, .s]) (body := y_q) T.F_q sc_q rfl fun cdv A outer s H E hr => ?_
  have hu := Zl hr
  have nd := sc_q.nd
  refine Z5 (Γ1 := [.s, .s]) ?_ ?_
  . refine (s_if (.same (.same .nil)) (Ze (o_eq hu) Zx (bv 0) b_int (by first | rfl | exact Z9 _)) ?_ ?_)
    . refine Z7 ?_
      refine (Zb (.same (.same .nil)) (Z1r T.k_3 (ok_3 T) (hr.mono (by decide)) rfl T.m_3 T.bi_3 (Z0 (b_ix hu (bv 1) b_int) Z2)))
    . exact Zm
  refine Z5 (Γ1 := [.s, .s]) ?_ ?_
  . refine (s_if (.same (.same .nil)) (Ze (o_eq hu) Zx (bv 0) b_int (by first | rfl | exact Z9 _)) ?_ ?_)
    . refine Z7 ?_
      refine (Zb (.same (.same .nil)) (Z1r T.k_g (ok_g T) (hr.mono (by decide)) rfl T.m_g T.bi_g (Z0 (b_ix hu (bv 1) b_int) (Z0 (b_ix hu (bv 1) b_int) (Z0 (b_ix hu (bv 1) b_int) Z2)))))
    . exact Zm
  refine Z5 (Γ1 := [.s, .s]) ?_ ?_
  . refine (s_if (.same (.same .nil)) (Ze (o_eq hu) Zx (bv 0) b_int (by first | rfl | exact Z9 _)) ?_ ?_)
    . refine Z7 ?_
      refine (Zb (.same (.same .nil)) (Z1r T.k_c (ok_c T) (hr.mono (by decide)) rfl T.m_c T.bi_c (Z0 (b_ix hu (bv 1) b_int) (Z0 (b_ix hu (bv 1) b_int) (Z0 (b_ix hu (bv 1) b_int) Z2)))))
    . exact Zm
  refine Z5 (Γ1 := [.s, .s]) ?_ ?_
  . refine (s_if (.same (.same .nil)) (Ze (o_eq hu) Zx (bv 0) b_int (by first | rfl | exact Z9 _)) ?_ ?_)
    . refine Z7 ?_
      refine (Zb (.same (.same .nil)) (Z1r T.k_k (ok_k T) (hr.mono (by decide)) rfl T.m_k T.bi_k (Z0 (b_sh (Z1t Zbq rfl T.b_list Z5w (Z0 (b_ix hu (bv 1) b_int) Z2))) (Z0 (b_ix hu (bv 1) b_int) Z2))))
    . exact Zm
  refine Z7 ?_
  refine (Zb (.same (.same .nil)) (Z1r T.k_7 (ok_7 T) (hr.mono (by decide)) rfl T.m_7 T.bi_7 (Z0 (b_ix hu (bv 1) b_int) Z2)))
theorem sc_14 : FnScope ["script", "k", "cells", "kind", "things", "text", "row"] ["script"] (Z1 (top 38)) := ⟨rfl, rfl, rfl, by decide +kernel, rfl, by decide +kernel, by decide +kernel⟩
set_option maxHeartbeats 0 in
theorem ok_14 (T : Txt K mg) : FnB P w K mg base 5 T.a_14 T.fd_14 ["script"] .s f_14 := by
  refine fn_B (N := ["script", "k", "cells", "kind", "things", "text", "row"]) (k := 4) (Γ0 := [.s, .s, .s, .s, .s, .s, .s]) (Γ' := [.s, .s, .s, .s, .s, .s, .s]) (body := y_14) T.F_14 sc_14 rfl fun cdv A outer s H E hr => ?_
  have hu := Zl hr
  have nd := sc_14.nd
  refine Z5 (Γ1 := [.s, .s, .s, .s, .s, .s, .s]) ?_ ?_
  . refine (s_if (.same (.same (.same (.same (.same (.same (.same .nil))))))) (Ze (o_ne hu) Z6y (Z5m (Z4m T) (hr.mono (by decide)) (Zfu T.k_0 rfl T.m_0)) b_str (by first | rfl | exact Z9 _)) ?_ ?_)
    . refine Z7 ?_
      refine (Zb (.same (.same (.same (.same (.same (.same (.same .nil))))))) b_bl)
    . exact Zm
  refine Z5 (Γ1 := [.s, .s, .s, .s, .s, .s, .s]) ?_ ?_
  . refine (s_for (.same (.same (.same (.same (.same (.same (.same .nil))))))) rfl nd rfl (.inr rfl) rfl (Zdz rfl T.b_range (Z0 b_int (Z0 (Zw (k_min2 rfl) rfl T.b_min Ze3 (Z0 (Zw Z1s rfl T.b_len PySem.boot_len (Z0 (bv 0) Z2)) (Z0 b_int Z2))) (Z0 b_int Z2)))) ?_)
    . refine Z5 (Γ1 := [.s, .s, .s, .s, .s, .s, .s]) ?_ ?_
      . refine (s_weak (Γ1 := [.s, .s, .o [], .s, .s, .s, .s]) (.same (.same (.drop (.same (.same (.same (.same .nil))))))) (s_setC (.same (.same (.same (.same (.same (.same (.same .nil))))))) nd rfl rfl rfl (N' := [("script" : Str), ("k" : Str), ("cells" : Str), ("kind" : Str), ("things" : Str), ("text" : Str), ("row" : Str), ("j" : Str)]) (show CompN [("script" : Str), ("k" : Str), ("cells" : Str), ("kind" : Str), ("things" : Str), ("text" : Str), ("row" : Str)] _ _ _ (Z1 (top 38)) from ⟨by decide +kernel, by decide +kernel, by decide +kernel, by decide +kernel, by decide +kernel, by decide +kernel, by decide +kernel, by decide +kernel, by decide +kernel⟩) rfl (Z3o rfl T.b_range (Z0 b_int Z2)) fun cl C s₀ H₀ ex => ⟨(Z4 Zv (Zd (ok_p T) (hr.mono (by decide)) rfl T.m_p T.F_p.kp T.b_f__law_cell_at (Z0 (bv 0) (Z0 (b_sh (Z4 Zo (bv 1) (bv 7))) Z2))) (Z4 Z55 b_int b_int)), .inl ⟨rfl, rfl⟩⟩))
      refine Z5 (Γ1 := [.s, .s, .s, .s, .s, .s, .s]) ?_ ?_
      . refine (s_unp (hs := by rfl) (.same (.same (.same (.same (.same (.same (.same .nil))))))) rfl (Z6 rfl (Z6 rfl (Z6 rfl Zp))) (fun W => (Z3k nd rfl (.inl rfl) (Z3k nd rfl (.inl rfl) (Z3k nd rfl (.inl rfl) Zcs)))) (Zd (ok_s T) (hr.mono (by decide)) rfl T.m_s T.F_s.kp T.b_f__law_made (Z0 (b_ix hu (bv 2) b_int) (Z0 (b_ix hu (bv 2) b_int) (Z0 (b_ix hu (bv 2) b_int) Z2)))))
      refine Z5 (Γ1 := [.s, .s, .s, .s, .s, .s, .s]) ?_ ?_
      . refine (s_if (.same (.same (.same (.same (.same (.same (.same .nil))))))) (Z2c (Z1z (Zd (ok_r T) (hr.mono (by decide)) rfl T.m_r T.F_r.kp T.b_f__law_is (Z0 (Zd (ok_17 T) (hr.mono (by decide)) rfl T.m_17 T.F_17.kp T.b_f_read (Z0 (bv 5) Z2)) (Z0 (bv 3) (Z0 (bv 4) Z2)))))) ?_ ?_)
        . refine Z7 ?_
          refine (Zb (.same (.same (.same (.same (.same (.same (.same .nil))))))) b_bl)
        . exact Zm
      refine Z5 (Γ1 := [.s, .s, .s, .s, .s, .s, .s]) ?_ ?_
      . refine (Zs (.same (.same (.same (.same (.same (.same (.same .nil))))))) nd rfl (.inl rfl) rfl (Z5m (Z4m T) (hr.mono (by decide)) (Zd (ok_q T) (hr.mono (by decide)) rfl T.m_q T.F_q.kp T.b_f__law_deed (Z0 (bv 3) (Z0 (bv 4) Z2)))))
      refine Z7 ?_
      refine (s_if (.same (.same (.same (.same (.same (.same (.same .nil))))))) (PWB.pt (Z2x (Z2c (Z1z (Z1f (Z16 T) (Z15 T) T.is_str (fun W => Z1l (X := XB _ W) (v := .ty "str") rfl T.b_str rfl rfl) (fun u r => r) rfl T.b_isinstance (bv 6)))) (Z2x (Ze (o_ne2 hu) Zcg (bv 6) (bv 5) (by first | rfl | exact Z9 _)) (Z2v (Ze (o_ne hu) Z6y (Z5m (Z4m T) (hr.mono (by decide)) (Zd (ok_17 T) (hr.mono (by decide)) rfl T.m_17 T.F_17.kp T.b_f_read (Z0 (bv 6) Z2))) (bv 5) (by first | rfl | exact Z9 _)))))) ?_ ?_)
      . refine Z7 ?_
        refine (Zb (.same (.same (.same (.same (.same (.same (.same .nil))))))) b_bl)
      . exact Zm
  refine Z7 ?_
  refine (Zb (.same (.same (.same (.same (.same (.same (.same .nil))))))) b_bl)
end
end B
namespace B
open PySem PySem.Spec PyProof.Rows L2
set_option maxHeartbeats 0 in
theorem all_mk {l : PySem.W.OpenLaw} {w : World} {K : PySem.W.Frag} {h : Heap} {mg : MG} {fa : Addr} (X : K.In h) (G : h.Ns mainGlobals mg) (hfa : mg "law" = some (.ref fa))
    {f_o : Addr}
    {f_b : Addr}
    {f_0 : Addr}
    {f_3 : Addr}
    {f_g : Addr}
    {f_c : Addr}
    {f_k : Addr}
    {f_7 : Addr}
    {f_g2 : Addr} {od_g2 an_g2 : Option Addr} {sl_g2 : Array (Option Value)} {oc_g2 kV_g2 dc_g2 pm_g2 cd_g2 ct_g2 : Value}
    {f_1b : Addr} {od_1b an_1b : Option Addr} {sl_1b : Array (Option Value)} {oc_1b kV_1b dc_1b pm_1b cd_1b ct_1b : Value}
    {f_g6 : Addr} {od_g6 an_g6 : Option Addr} {sl_g6 : Array (Option Value)} {oc_g6 kV_g6 dc_g6 pm_g6 cd_g6 ct_g6 : Value}
    {f_gj : Addr} {od_gj an_gj : Option Addr} {sl_gj : Array (Option Value)} {oc_gj kV_gj dc_gj pm_gj cd_gj ct_gj : Value}
    {f_gf : Addr} {od_gf an_gf : Option Addr} {sl_gf : Array (Option Value)} {oc_gf kV_gf dc_gf pm_gf cd_gf ct_gf : Value}
    {f_gn : Addr} {od_gn an_gn : Option Addr} {sl_gn : Array (Option Value)} {oc_gn kV_gn dc_gn pm_gn cd_gn ct_gn : Value}
    {f_ga : Addr} {od_ga an_ga : Option Addr} {sl_ga : Array (Option Value)} {oc_ga kV_ga dc_ga pm_ga cd_ga ct_ga : Value}
    {f_t : Addr} {od_t an_t : Option Addr} {sl_t : Array (Option Value)} {oc_t kV_t dc_t pm_t cd_t ct_t : Value}
    {f_x : Addr} {od_x an_x : Option Addr} {sl_x : Array (Option Value)} {oc_x kV_x dc_x pm_x cd_x ct_x : Value}
    {f_u : Addr} {od_u an_u : Option Addr} {sl_u : Array (Option Value)} {oc_u kV_u dc_u pm_u cd_u ct_u : Value}
    {f_v : Addr} {od_v an_v : Option Addr} {sl_v : Array (Option Value)} {oc_v kV_v dc_v pm_v cd_v ct_v : Value}
    {f_s : Addr} {od_s an_s : Option Addr} {sl_s : Array (Option Value)} {oc_s kV_s dc_s pm_s cd_s ct_s : Value}
    {f_w : Addr} {od_w an_w : Option Addr} {sl_w : Array (Option Value)} {oc_w kV_w dc_w pm_w cd_w ct_w : Value}
    {f_r : Addr} {od_r an_r : Option Addr} {sl_r : Array (Option Value)} {oc_r kV_r dc_r pm_r cd_r ct_r : Value}
    {f_p : Addr} {od_p an_p : Option Addr} {sl_p : Array (Option Value)} {oc_p kV_p dc_p pm_p cd_p ct_p : Value}
    {f_1c : Addr} {od_1c an_1c : Option Addr} {sl_1c : Array (Option Value)} {oc_1c kV_1c dc_1c pm_1c cd_1c ct_1c : Value}
    {f_15 : Addr} {od_15 an_15 : Option Addr} {sl_15 : Array (Option Value)} {oc_15 kV_15 dc_15 pm_15 cd_15 ct_15 : Value}
    {f_16 : Addr} {od_16 an_16 : Option Addr} {sl_16 : Array (Option Value)} {oc_16 kV_16 dc_16 pm_16 cd_16 ct_16 : Value}
    {f_ik : Addr} {od_ik an_ik : Option Addr} {sl_ik : Array (Option Value)} {oc_ik kV_ik dc_ik pm_ik cd_ik ct_ik : Value}
    {f_13 : Addr} {od_13 an_13 : Option Addr} {sl_13 : Array (Option Value)} {oc_13 kV_13 dc_13 pm_13 cd_13 ct_13 : Value}
    {f_10 : Addr} {od_10 an_10 : Option Addr} {sl_10 : Array (Option Value)} {oc_10 kV_10 dc_10 pm_10 cd_10 ct_10 : Value}
    {f_12 : Addr} {od_12 an_12 : Option Addr} {sl_12 : Array (Option Value)} {oc_12 kV_12 dc_12 pm_12 cd_12 ct_12 : Value}
    {f_z : Addr} {od_z an_z : Option Addr} {sl_z : Array (Option Value)} {oc_z kV_z dc_z pm_z cd_z ct_z : Value}
    {f_19 : Addr} {od_19 an_19 : Option Addr} {sl_19 : Array (Option Value)} {oc_19 kV_19 dc_19 pm_19 cd_19 ct_19 : Value}
    {f_i7 : Addr} {od_i7 an_i7 : Option Addr} {sl_i7 : Array (Option Value)} {oc_i7 kV_i7 dc_i7 pm_i7 cd_i7 ct_i7 : Value}
    {f_i3 : Addr} {od_i3 an_i3 : Option Addr} {sl_i3 : Array (Option Value)} {oc_i3 kV_i3 dc_i3 pm_i3 cd_i3 ct_i3 : Value}
    {f_18 : Addr} {od_18 an_18 : Option Addr} {sl_18 : Array (Option Value)} {oc_18 kV_18 dc_18 pm_18 cd_18 ct_18 : Value}
    {f_ic : Addr} {od_ic an_ic : Option Addr} {sl_ic : Array (Option Value)} {oc_ic kV_ic dc_ic pm_ic cd_ic ct_ic : Value}
    {f_ig : Addr} {od_ig an_ig : Option Addr} {sl_ig : Array (Option Value)} {oc_ig kV_ig dc_ig pm_ig cd_ig ct_ig : Value}
    {f_11 : Addr} {od_11 an_11 : Option Addr} {sl_11 : Array (Option Value)} {oc_11 kV_11 dc_11 pm_11 cd_11 ct_11 : Value}
    {f_1a : Addr} {od_1a an_1a : Option Addr} {sl_1a : Array (Option Value)} {oc_1a kV_1a dc_1a pm_1a cd_1a ct_1a : Value}
    {f_17 : Addr} {od_17 an_17 : Option Addr} {sl_17 : Array (Option Value)} {oc_17 kV_17 dc_17 pm_17 cd_17 ct_17 : Value}
    {f_q : Addr} {od_q an_q : Option Addr} {sl_q : Array (Option Value)} {oc_q kV_q dc_q pm_q cd_q ct_q : Value}
    {f_14 : Addr} {od_14 an_14 : Option Addr} {sl_14 : Array (Option Value)} {oc_14 kV_14 dc_14 pm_14 cd_14 ct_14 : Value}
    {t_LETTERS : Tok}
    {t_FIGURES : Tok}
    (a_o : PySem.W.nsIn K mainGlobals "WayError" = some (some (.ref f_o)))
    (a_b : PySem.W.nsIn K mainGlobals "NoRow" = some (some (.ref f_b)))
    (a_0 : PySem.W.nsIn K mainGlobals "Deed" = some (some (.ref f_0)))
    (a_3 : PySem.W.nsIn K mainGlobals "Join" = some (some (.ref f_3)))
    (a_g : PySem.W.nsIn K mainGlobals "Trust" = some (some (.ref f_g)))
    (a_c : PySem.W.nsIn K mainGlobals "Pay" = some (some (.ref f_c)))
    (a_k : PySem.W.nsIn K mainGlobals "Turn" = some (some (.ref f_k)))
    (a_7 : PySem.W.nsIn K mainGlobals "Leave" = some (some (.ref f_7)))
    (a_g2 : PySem.W.findIn K (.ref f_0) "row" = some (some (.ref f_g2)))
    (l_g2 : K.lookup f_g2 = some ⟨oc_g2, od_g2, .func (PySem.W.fnOf "row" "Deed.row" (Zc (Z3 (top 12) 1)) (Za (Z3 (top 12) 1)) (Z1 (Z3 (top 12) 1)) .none kV_g2 dc_g2 pm_g2 an_g2 cd_g2 ct_g2), sl_g2⟩)
    (c_g2 : PySem.W.codeIn K cd_g2 "Deed.row" = true)
    (k_g2 : PySem.W.keepIn K (.ref f_g2) = true)
    (a_1b : PySem.W.nsIn K mainGlobals "row_of" = some (some (.ref f_1b)))
    (l_1b : K.lookup f_1b = some ⟨oc_1b, od_1b, .func (PySem.W.fnOf "row_of" "row_of" (Zc (top 11)) (Za (top 11)) (Z1 (top 11)) .none kV_1b dc_1b pm_1b an_1b cd_1b ct_1b), sl_1b⟩)
    (c_1b : PySem.W.codeIn K cd_1b "row_of" = true)
    (k_1b : PySem.W.keepIn K (.ref f_1b) = true)
    (a_g6 : PySem.W.findIn K (.ref f_3) "row" = some (some (.ref f_g6)))
    (l_g6 : K.lookup f_g6 = some ⟨oc_g6, od_g6, .func (PySem.W.fnOf "row" "Join.row" (Zc (Z3 (top 13) 2)) (Za (Z3 (top 13) 2)) (Z1 (Z3 (top 13) 2)) .none kV_g6 dc_g6 pm_g6 an_g6 cd_g6 ct_g6), sl_g6⟩)
    (c_g6 : PySem.W.codeIn K cd_g6 "Join.row" = true)
    (k_g6 : PySem.W.keepIn K (.ref f_g6) = true)
    (a_gj : PySem.W.findIn K (.ref f_g) "row" = some (some (.ref f_gj)))
    (l_gj : K.lookup f_gj = some ⟨oc_gj, od_gj, .func (PySem.W.fnOf "row" "Trust.row" (Zc (Z3 (top 14) 2)) (Za (Z3 (top 14) 2)) (Z1 (Z3 (top 14) 2)) .none kV_gj dc_gj pm_gj an_gj cd_gj ct_gj), sl_gj⟩)
    (c_gj : PySem.W.codeIn K cd_gj "Trust.row" = true)
    (k_gj : PySem.W.keepIn K (.ref f_gj) = true)
    (a_gf : PySem.W.findIn K (.ref f_c) "row" = some (some (.ref f_gf)))
    (l_gf : K.lookup f_gf = some ⟨oc_gf, od_gf, .func (PySem.W.fnOf "row" "Pay.row" (Zc (Z3 (top 15) 2)) (Za (Z3 (top 15) 2)) (Z1 (Z3 (top 15) 2)) .none kV_gf dc_gf pm_gf an_gf cd_gf ct_gf), sl_gf⟩)
    (c_gf : PySem.W.codeIn K cd_gf "Pay.row" = true)
    (k_gf : PySem.W.keepIn K (.ref f_gf) = true)
    (a_gn : PySem.W.findIn K (.ref f_k) "row" = some (some (.ref f_gn)))
    (l_gn : K.lookup f_gn = some ⟨oc_gn, od_gn, .func (PySem.W.fnOf "row" "Turn.row" (Zc (Z3 (top 16) 2)) (Za (Z3 (top 16) 2)) (Z1 (Z3 (top 16) 2)) .none kV_gn dc_gn pm_gn an_gn cd_gn ct_gn), sl_gn⟩)
    (c_gn : PySem.W.codeIn K cd_gn "Turn.row" = true)
    (k_gn : PySem.W.keepIn K (.ref f_gn) = true)
    (a_ga : PySem.W.findIn K (.ref f_7) "row" = some (some (.ref f_ga)))
    (l_ga : K.lookup f_ga = some ⟨oc_ga, od_ga, .func (PySem.W.fnOf "row" "Leave.row" (Zc (Z3 (top 17) 2)) (Za (Z3 (top 17) 2)) (Z1 (Z3 (top 17) 2)) .none kV_ga dc_ga pm_ga an_ga cd_ga ct_ga), sl_ga⟩)
    (c_ga : PySem.W.codeIn K cd_ga "Leave.row" = true)
    (k_ga : PySem.W.keepIn K (.ref f_ga) = true)
    (a_t : PySem.W.nsIn K mainGlobals "_law_name" = some (some (.ref f_t)))
    (l_t : K.lookup f_t = some ⟨oc_t, od_t, .func (PySem.W.fnOf "_law_name" "_law_name" (Zc (top 30)) (Za (top 30)) (Z1 (top 30)) .none kV_t dc_t pm_t an_t cd_t ct_t), sl_t⟩)
    (c_t : PySem.W.codeIn K cd_t "_law_name" = true)
    (k_t : PySem.W.keepIn K (.ref f_t) = true)
    (a_x : PySem.W.nsIn K mainGlobals "_law_two" = some (some (.ref f_x)))
    (l_x : K.lookup f_x = some ⟨oc_x, od_x, .func (PySem.W.fnOf "_law_two" "_law_two" (Zc (top 31)) (Za (top 31)) (Z1 (top 31)) .none kV_x dc_x pm_x an_x cd_x ct_x), sl_x⟩)
    (c_x : PySem.W.codeIn K cd_x "_law_two" = true)
    (k_x : PySem.W.keepIn K (.ref f_x) = true)
    (a_u : PySem.W.nsIn K mainGlobals "_law_number" = some (some (.ref f_u)))
    (l_u : K.lookup f_u = some ⟨oc_u, od_u, .func (PySem.W.fnOf "_law_number" "_law_number" (Zc (top 32)) (Za (top 32)) (Z1 (top 32)) .none kV_u dc_u pm_u an_u cd_u ct_u), sl_u⟩)
    (c_u : PySem.W.codeIn K cd_u "_law_number" = true)
    (k_u : PySem.W.keepIn K (.ref f_u) = true)
    (a_v : PySem.W.nsIn K mainGlobals "_law_ring" = some (some (.ref f_v)))
    (l_v : K.lookup f_v = some ⟨oc_v, od_v, .func (PySem.W.fnOf "_law_ring" "_law_ring" (Zc (top 33)) (Za (top 33)) (Z1 (top 33)) .none kV_v dc_v pm_v an_v cd_v ct_v), sl_v⟩)
    (c_v : PySem.W.codeIn K cd_v "_law_ring" = true)
    (k_v : PySem.W.keepIn K (.ref f_v) = true)
    (a_s : PySem.W.nsIn K mainGlobals "_law_made" = some (some (.ref f_s)))
    (l_s : K.lookup f_s = some ⟨oc_s, od_s, .func (PySem.W.fnOf "_law_made" "_law_made" (Zc (top 34)) (Za (top 34)) (Z1 (top 34)) .none kV_s dc_s pm_s an_s cd_s ct_s), sl_s⟩)
    (c_s : PySem.W.codeIn K cd_s "_law_made" = true)
    (k_s : PySem.W.keepIn K (.ref f_s) = true)
    (a_w : PySem.W.nsIn K mainGlobals "_law_things" = some (some (.ref f_w)))
    (l_w : K.lookup f_w = some ⟨oc_w, od_w, .func (PySem.W.fnOf "_law_things" "_law_things" (Zc (top 35)) (Za (top 35)) (Z1 (top 35)) .none kV_w dc_w pm_w an_w cd_w ct_w), sl_w⟩)
    (c_w : PySem.W.codeIn K cd_w "_law_things" = true)
    (k_w : PySem.W.keepIn K (.ref f_w) = true)
    (a_r : PySem.W.nsIn K mainGlobals "_law_is" = some (some (.ref f_r)))
    (l_r : K.lookup f_r = some ⟨oc_r, od_r, .func (PySem.W.fnOf "_law_is" "_law_is" (Zc (top 36)) (Za (top 36)) (Z1 (top 36)) .none kV_r dc_r pm_r an_r cd_r ct_r), sl_r⟩)
    (c_r : PySem.W.codeIn K cd_r "_law_is" = true)
    (k_r : PySem.W.keepIn K (.ref f_r) = true)
    (a_p : PySem.W.nsIn K mainGlobals "_law_cell_at" = some (some (.ref f_p)))
    (l_p : K.lookup f_p = some ⟨oc_p, od_p, .func (PySem.W.fnOf "_law_cell_at" "_law_cell_at" (Zc (top 29)) (Za (top 29)) (Z1 (top 29)) .none kV_p dc_p pm_p an_p cd_p ct_p), sl_p⟩)
    (c_p : PySem.W.codeIn K cd_p "_law_cell_at" = true)
    (k_p : PySem.W.keepIn K (.ref f_p) = true)
    (a_1c : PySem.W.nsIn K mainGlobals "words_of" = some (some (.ref f_1c)))
    (l_1c : K.lookup f_1c = some ⟨oc_1c, od_1c, .func (PySem.W.fnOf "words_of" "words_of" (Zc (top 20)) (Za (top 20)) (Z1 (top 20)) .none kV_1c dc_1c pm_1c an_1c cd_1c ct_1c), sl_1c⟩)
    (c_1c : PySem.W.codeIn K cd_1c "words_of" = true)
    (k_1c : PySem.W.keepIn K (.ref f_1c) = true)
    (a_15 : PySem.W.nsIn K mainGlobals "need_row" = some (some (.ref f_15)))
    (l_15 : K.lookup f_15 = some ⟨oc_15, od_15, .func (PySem.W.fnOf "need_row" "need_row" (Zc (top 23)) (Za (top 23)) (Z1 (top 23)) .none kV_15 dc_15 pm_15 an_15 cd_15 ct_15), sl_15⟩)
    (c_15 : PySem.W.codeIn K cd_15 "need_row" = true)
    (k_15 : PySem.W.keepIn K (.ref f_15) = true)
    (a_16 : PySem.W.nsIn K mainGlobals "number_of" = some (some (.ref f_16)))
    (l_16 : K.lookup f_16 = some ⟨oc_16, od_16, .func (PySem.W.fnOf "number_of" "number_of" (Zc (top 21)) (Za (top 21)) (Z1 (top 21)) .none kV_16 dc_16 pm_16 an_16 cd_16 ct_16), sl_16⟩)
    (c_16 : PySem.W.codeIn K cd_16 "number_of" = true)
    (k_16 : PySem.W.keepIn K (.ref f_16) = true)
    (a_ik : PySem.W.findIn K (.ref f_k) "__init__" = some (some (.ref f_ik)))
    (l_ik : K.lookup f_ik = some ⟨oc_ik, od_ik, .func (PySem.W.fnOf "__init__" "Turn.__init__" (Zc (Z3 (top 16) 0)) (Za (Z3 (top 16) 0)) (Z1 (Z3 (top 16) 0)) .none kV_ik dc_ik pm_ik an_ik cd_ik ct_ik), sl_ik⟩)
    (c_ik : PySem.W.codeIn K cd_ik "Turn.__init__" = true)
    (k_ik : PySem.W.keepIn K (.ref f_ik) = true)
    (a_13 : PySem.W.nsIn K mainGlobals "is_whole" = some (some (.ref f_13)))
    (l_13 : K.lookup f_13 = some ⟨oc_13, od_13, .func (PySem.W.fnOf "is_whole" "is_whole" (Zc (top 6)) (Za (top 6)) (Z1 (top 6)) .none kV_13 dc_13 pm_13 an_13 cd_13 ct_13), sl_13⟩)
    (c_13 : PySem.W.codeIn K cd_13 "is_whole" = true)
    (k_13 : PySem.W.keepIn K (.ref f_13) = true)
    (a_10 : PySem.W.nsIn K mainGlobals "is_amount" = some (some (.ref f_10)))
    (l_10 : K.lookup f_10 = some ⟨oc_10, od_10, .func (PySem.W.fnOf "is_amount" "is_amount" (Zc (top 8)) (Za (top 8)) (Z1 (top 8)) .none kV_10 dc_10 pm_10 an_10 cd_10 ct_10), sl_10⟩)
    (c_10 : PySem.W.codeIn K cd_10 "is_amount" = true)
    (k_10 : PySem.W.keepIn K (.ref f_10) = true)
    (a_12 : PySem.W.nsIn K mainGlobals "is_name" = some (some (.ref f_12)))
    (l_12 : K.lookup f_12 = some ⟨oc_12, od_12, .func (PySem.W.fnOf "is_name" "is_name" (Zc (top 7)) (Za (top 7)) (Z1 (top 7)) .none kV_12 dc_12 pm_12 an_12 cd_12 ct_12), sl_12⟩)
    (c_12 : PySem.W.codeIn K cd_12 "is_name" = true)
    (k_12 : PySem.W.keepIn K (.ref f_12) = true)
    (a_z : PySem.W.nsIn K mainGlobals "are_names_once" = some (some (.ref f_z)))
    (l_z : K.lookup f_z = some ⟨oc_z, od_z, .func (PySem.W.fnOf "are_names_once" "are_names_once" (Zc (top 22)) (Za (top 22)) (Z1 (top 22)) .none kV_z dc_z pm_z an_z cd_z ct_z), sl_z⟩)
    (c_z : PySem.W.codeIn K cd_z "are_names_once" = true)
    (k_z : PySem.W.keepIn K (.ref f_z) = true)
    (a_19 : PySem.W.nsIn K mainGlobals "read_of_ring" = some (some (.ref f_19)))
    (l_19 : K.lookup f_19 = some ⟨oc_19, od_19, .func (PySem.W.fnOf "read_of_ring" "read_of_ring" (Zc (top 26)) (Za (top 26)) (Z1 (top 26)) .none kV_19 dc_19 pm_19 an_19 cd_19 ct_19), sl_19⟩)
    (c_19 : PySem.W.codeIn K cd_19 "read_of_ring" = true)
    (k_19 : PySem.W.keepIn K (.ref f_19) = true)
    (a_i7 : PySem.W.findIn K (.ref f_7) "__init__" = some (some (.ref f_i7)))
    (l_i7 : K.lookup f_i7 = some ⟨oc_i7, od_i7, .func (PySem.W.fnOf "__init__" "Leave.__init__" (Zc (Z3 (top 17) 0)) (Za (Z3 (top 17) 0)) (Z1 (Z3 (top 17) 0)) .none kV_i7 dc_i7 pm_i7 an_i7 cd_i7 ct_i7), sl_i7⟩)
    (c_i7 : PySem.W.codeIn K cd_i7 "Leave.__init__" = true)
    (k_i7 : PySem.W.keepIn K (.ref f_i7) = true)
    (a_i3 : PySem.W.findIn K (.ref f_3) "__init__" = some (some (.ref f_i3)))
    (l_i3 : K.lookup f_i3 = some ⟨oc_i3, od_i3, .func (PySem.W.fnOf "__init__" "Join.__init__" (Zc (Z3 (top 13) 0)) (Za (Z3 (top 13) 0)) (Z1 (Z3 (top 13) 0)) .none kV_i3 dc_i3 pm_i3 an_i3 cd_i3 ct_i3), sl_i3⟩)
    (c_i3 : PySem.W.codeIn K cd_i3 "Join.__init__" = true)
    (k_i3 : PySem.W.keepIn K (.ref f_i3) = true)
    (a_18 : PySem.W.nsIn K mainGlobals "read_of_one" = some (some (.ref f_18)))
    (l_18 : K.lookup f_18 = some ⟨oc_18, od_18, .func (PySem.W.fnOf "read_of_one" "read_of_one" (Zc (top 24)) (Za (top 24)) (Z1 (top 24)) .none kV_18 dc_18 pm_18 an_18 cd_18 ct_18), sl_18⟩)
    (c_18 : PySem.W.codeIn K cd_18 "read_of_one" = true)
    (k_18 : PySem.W.keepIn K (.ref f_18) = true)
    (a_ic : PySem.W.findIn K (.ref f_c) "__init__" = some (some (.ref f_ic)))
    (l_ic : K.lookup f_ic = some ⟨oc_ic, od_ic, .func (PySem.W.fnOf "__init__" "Pay.__init__" (Zc (Z3 (top 15) 0)) (Za (Z3 (top 15) 0)) (Z1 (Z3 (top 15) 0)) .none kV_ic dc_ic pm_ic an_ic cd_ic ct_ic), sl_ic⟩)
    (c_ic : PySem.W.codeIn K cd_ic "Pay.__init__" = true)
    (k_ic : PySem.W.keepIn K (.ref f_ic) = true)
    (a_ig : PySem.W.findIn K (.ref f_g) "__init__" = some (some (.ref f_ig)))
    (l_ig : K.lookup f_ig = some ⟨oc_ig, od_ig, .func (PySem.W.fnOf "__init__" "Trust.__init__" (Zc (Z3 (top 14) 0)) (Za (Z3 (top 14) 0)) (Z1 (Z3 (top 14) 0)) .none kV_ig dc_ig pm_ig an_ig cd_ig ct_ig), sl_ig⟩)
    (c_ig : PySem.W.codeIn K cd_ig "Trust.__init__" = true)
    (k_ig : PySem.W.keepIn K (.ref f_ig) = true)
    (a_11 : PySem.W.nsIn K mainGlobals "is_line" = some (some (.ref f_11)))
    (l_11 : K.lookup f_11 = some ⟨oc_11, od_11, .func (PySem.W.fnOf "is_line" "is_line" (Zc (top 9)) (Za (top 9)) (Z1 (top 9)) .none kV_11 dc_11 pm_11 an_11 cd_11 ct_11), sl_11⟩)
    (c_11 : PySem.W.codeIn K cd_11 "is_line" = true)
    (k_11 : PySem.W.keepIn K (.ref f_11) = true)
    (a_1a : PySem.W.nsIn K mainGlobals "read_of_two" = some (some (.ref f_1a)))
    (l_1a : K.lookup f_1a = some ⟨oc_1a, od_1a, .func (PySem.W.fnOf "read_of_two" "read_of_two" (Zc (top 25)) (Za (top 25)) (Z1 (top 25)) .none kV_1a dc_1a pm_1a an_1a cd_1a ct_1a), sl_1a⟩)
    (c_1a : PySem.W.codeIn K cd_1a "read_of_two" = true)
    (k_1a : PySem.W.keepIn K (.ref f_1a) = true)
    (a_17 : PySem.W.nsIn K mainGlobals "read" = some (some (.ref f_17)))
    (l_17 : K.lookup f_17 = some ⟨oc_17, od_17, .func (PySem.W.fnOf "read" "read" (Zc (top 27)) (Za (top 27)) (Z1 (top 27)) .none kV_17 dc_17 pm_17 an_17 cd_17 ct_17), sl_17⟩)
    (c_17 : PySem.W.codeIn K cd_17 "read" = true)
    (k_17 : PySem.W.keepIn K (.ref f_17) = true)
    (a_q : PySem.W.nsIn K mainGlobals "_law_deed" = some (some (.ref f_q)))
    (l_q : K.lookup f_q = some ⟨oc_q, od_q, .func (PySem.W.fnOf "_law_deed" "_law_deed" (Zc (top 37)) (Za (top 37)) (Z1 (top 37)) .none kV_q dc_q pm_q an_q cd_q ct_q), sl_q⟩)
    (c_q : PySem.W.codeIn K cd_q "_law_deed" = true)
    (k_q : PySem.W.keepIn K (.ref f_q) = true)
    (a_14 : PySem.W.nsIn K mainGlobals "law" = some (some (.ref f_14)))
    (l_14 : K.lookup f_14 = some ⟨oc_14, od_14, .func (PySem.W.fnOf "law" "law" (Zc (top 38)) (Za (top 38)) (Z1 (top 38)) .none kV_14 dc_14 pm_14 an_14 cd_14 ct_14), sl_14⟩)
    (c_14 : PySem.W.codeIn K cd_14 "law" = true)
    (k_14 : PySem.W.keepIn K (.ref f_14) = true)
    (x_o : PySem.W.excIn K f_o [.type "ValueError", .type "Exception", .type "BaseException", .type "object"] "ValueError.__new__" = true)
    (e_o : Z6w K f_o = true)
    (x_b : PySem.W.excIn K f_b [.type "ValueError", .type "Exception", .type "BaseException", .type "object"] "ValueError.__new__" = true)
    (e_b : Z6w K f_b = true)
    (o_0 : Z2y K f_0 = true)
    (n_0 : noab K f_0 [] = true)
    (h_2 : Z2z K f_0 "row" f_g2 = true)
    (o_3 : Z2y K f_3 = true)
    (n_3 : noab K f_3 [("house" : Str)] = true)
    (h_6 : Z2z K f_3 "row" f_g6 = true)
    (o_g : Z2y K f_g = true)
    (n_g : noab K f_g [("one" : Str), ("other" : Str), ("line" : Str)] = true)
    (h_j : Z2z K f_g "row" f_gj = true)
    (o_c : Z2y K f_c = true)
    (n_c : noab K f_c [("payer" : Str), ("taker" : Str), ("amount" : Str)] = true)
    (h_f : Z2z K f_c "row" f_gf = true)
    (o_k : Z2y K f_k = true)
    (n_k : noab K f_k [("ring" : Str), ("amount" : Str)] = true)
    (h_n : Z2z K f_k "row" f_gn = true)
    (o_7 : Z2y K f_7 = true)
    (n_7 : noab K f_7 [("house" : Str)] = true)
    (h_a : Z2z K f_7 "row" f_ga = true)
    (mk_k : mkb K f_k f_ik = true)
    (mk_7 : mkb K f_7 f_i7 = true)
    (mk_3 : mkb K f_3 f_i3 = true)
    (mk_c : mkb K f_c f_ic = true)
    (mk_g : mkb K f_g f_ig = true)
    (mk_0 : mk0b K f_0 = true)
    (is_3 : isFb (fun t => PySem.W.kitOne K t (.ref f_3)) (fun _ => false) [(Str.ofString "Join")] ([((Str.ofString "Deed"), f_0), ((Str.ofString "Join"), f_3), ((Str.ofString "Trust"), f_g), ((Str.ofString "Pay"), f_c), ((Str.ofString "Turn"), f_k), ((Str.ofString "Leave"), f_7)] ++ [((Str.ofString "WayError"), f_o), ((Str.ofString "NoRow"), f_b)]) = true)
    (is_g : isFb (fun t => PySem.W.kitOne K t (.ref f_g)) (fun _ => false) [(Str.ofString "Trust")] ([((Str.ofString "Deed"), f_0), ((Str.ofString "Join"), f_3), ((Str.ofString "Trust"), f_g), ((Str.ofString "Pay"), f_c), ((Str.ofString "Turn"), f_k), ((Str.ofString "Leave"), f_7)] ++ [((Str.ofString "WayError"), f_o), ((Str.ofString "NoRow"), f_b)]) = true)
    (is_c : isFb (fun t => PySem.W.kitOne K t (.ref f_c)) (fun _ => false) [(Str.ofString "Pay")] ([((Str.ofString "Deed"), f_0), ((Str.ofString "Join"), f_3), ((Str.ofString "Trust"), f_g), ((Str.ofString "Pay"), f_c), ((Str.ofString "Turn"), f_k), ((Str.ofString "Leave"), f_7)] ++ [((Str.ofString "WayError"), f_o), ((Str.ofString "NoRow"), f_b)]) = true)
    (is_k : isFb (fun t => PySem.W.kitOne K t (.ref f_k)) (fun _ => false) [(Str.ofString "Turn")] ([((Str.ofString "Deed"), f_0), ((Str.ofString "Join"), f_3), ((Str.ofString "Trust"), f_g), ((Str.ofString "Pay"), f_c), ((Str.ofString "Turn"), f_k), ((Str.ofString "Leave"), f_7)] ++ [((Str.ofString "WayError"), f_o), ((Str.ofString "NoRow"), f_b)]) = true)
    (is_7 : isFb (fun t => PySem.W.kitOne K t (.ref f_7)) (fun _ => false) [(Str.ofString "Leave")] ([((Str.ofString "Deed"), f_0), ((Str.ofString "Join"), f_3), ((Str.ofString "Trust"), f_g), ((Str.ofString "Pay"), f_c), ((Str.ofString "Turn"), f_k), ((Str.ofString "Leave"), f_7)] ++ [((Str.ofString "WayError"), f_o), ((Str.ofString "NoRow"), f_b)]) = true)
    (is_int : isFb (fun t => PySem.W.kitOne K t (.type "int")) (isKb .int) [] ([((Str.ofString "Deed"), f_0), ((Str.ofString "Join"), f_3), ((Str.ofString "Trust"), f_g), ((Str.ofString "Pay"), f_c), ((Str.ofString "Turn"), f_k), ((Str.ofString "Leave"), f_7)] ++ [((Str.ofString "WayError"), f_o), ((Str.ofString "NoRow"), f_b)]) = true)
    (is_0 : isFb (fun t => PySem.W.kitOne K t (.ref f_0)) (fun _ => false) [(Str.ofString "Deed"), (Str.ofString "Join"), (Str.ofString "Trust"), (Str.ofString "Pay"), (Str.ofString "Turn"), (Str.ofString "Leave")] ([((Str.ofString "Deed"), f_0), ((Str.ofString "Join"), f_3), ((Str.ofString "Trust"), f_g), ((Str.ofString "Pay"), f_c), ((Str.ofString "Turn"), f_k), ((Str.ofString "Leave"), f_7)] ++ [((Str.ofString "WayError"), f_o), ((Str.ofString "NoRow"), f_b)]) = true)
    (is_bool : isFb (fun t => PySem.W.kitOne K t (.type "bool")) (isKb .bl) [] ([((Str.ofString "Deed"), f_0), ((Str.ofString "Join"), f_3), ((Str.ofString "Trust"), f_g), ((Str.ofString "Pay"), f_c), ((Str.ofString "Turn"), f_k), ((Str.ofString "Leave"), f_7)] ++ [((Str.ofString "WayError"), f_o), ((Str.ofString "NoRow"), f_b)]) = true)
    (is_list : isFb (fun t => PySem.W.kitOne K t (.type "list")) (isKb .lst) [] ([((Str.ofString "Deed"), f_0), ((Str.ofString "Join"), f_3), ((Str.ofString "Trust"), f_g), ((Str.ofString "Pay"), f_c), ((Str.ofString "Turn"), f_k), ((Str.ofString "Leave"), f_7)] ++ [((Str.ofString "WayError"), f_o), ((Str.ofString "NoRow"), f_b)]) = true)
    (is_str : isFb (fun t => PySem.W.kitOne K t (.type "str")) (isKb .str) [] ([((Str.ofString "Deed"), f_0), ((Str.ofString "Join"), f_3), ((Str.ofString "Trust"), f_g), ((Str.ofString "Pay"), f_c), ((Str.ofString "Turn"), f_k), ((Str.ofString "Leave"), f_7)] ++ [((Str.ofString "WayError"), f_o), ((Str.ofString "NoRow"), f_b)]) = true)
    (g_LETTERS : PySem.W.nsIn K mainGlobals "LETTERS" = some (some (.str (Str.ofString "abcdefghijklmnopqrstuvwxyz") t_LETTERS)))
    (g_FIGURES : PySem.W.nsIn K mainGlobals "FIGURES" = some (some (.str (Str.ofString "0123456789") t_FIGURES)))
    (z_str : PySem.W.nsIn K mainGlobals "str" = some none)
    (z_range : PySem.W.nsIn K mainGlobals "range" = some none)
    (z_max : PySem.W.nsIn K mainGlobals "max" = some none)
    (z_isinstance : PySem.W.nsIn K mainGlobals "isinstance" = some none)
    (z_int : PySem.W.nsIn K mainGlobals "int" = some none)
    (z_bool : PySem.W.nsIn K mainGlobals "bool" = some none)
    (z_list : PySem.W.nsIn K mainGlobals "list" = some none)
    (z_len : PySem.W.nsIn K mainGlobals "len" = some none)
    (z_all : PySem.W.nsIn K mainGlobals "all" = some none)
    (z_set : PySem.W.nsIn K mainGlobals "set" = some none)
    (z_min : PySem.W.nsIn K mainGlobals "min" = some none) :
    ∃ fd : FuncData, (∀ (s : Shared) (v : Value), BindsTo s fd ⟨[v], []⟩ [("script", v)]) /\ ∀ base : Heap, K.In base -> base.Ns mainGlobals mg -> FnOk l.prog w K mg base (CXB l.prog w) 5 fa fd ["script"] Z6r := by
  have e := hfa.symm.trans (PySem.W.mg_of X G a_14)
  cases e
  have m_o := PySem.W.mg_of X G a_o
  have m_b := PySem.W.mg_of X G a_b
  have m_0 := PySem.W.mg_of X G a_0
  have m_3 := PySem.W.mg_of X G a_3
  have m_g := PySem.W.mg_of X G a_g
  have m_c := PySem.W.mg_of X G a_c
  have m_k := PySem.W.mg_of X G a_k
  have m_7 := PySem.W.mg_of X G a_7
  have ms : Zax mg ([((Str.ofString "Deed"), f_0), ((Str.ofString "Join"), f_3), ((Str.ofString "Trust"), f_g), ((Str.ofString "Pay"), f_c), ((Str.ofString "Turn"), f_k), ((Str.ofString "Leave"), f_7)] ++ [((Str.ofString "WayError"), f_o), ((Str.ofString "NoRow"), f_b)]) := fa_app (Z6 m_0 (Z6 m_3 (Z6 m_g (Z6 m_c (Z6 m_k (Z6 m_7 Zp)))))) (Z6 m_o (Z6 m_b Zp))
  have F_g2 := Zh (st := (Z3 (top 12) 1)) l_g2 c_g2 k_g2
  have F_1b := Zh (st := (top 11)) l_1b c_1b k_1b
  have F_g6 := Zh (st := (Z3 (top 13) 2)) l_g6 c_g6 k_g6
  have F_gj := Zh (st := (Z3 (top 14) 2)) l_gj c_gj k_gj
  have F_gf := Zh (st := (Z3 (top 15) 2)) l_gf c_gf k_gf
  have F_gn := Zh (st := (Z3 (top 16) 2)) l_gn c_gn k_gn
  have F_ga := Zh (st := (Z3 (top 17) 2)) l_ga c_ga k_ga
  have F_t := Zh (st := (top 30)) l_t c_t k_t
  have F_x := Zh (st := (top 31)) l_x c_x k_x
  have F_u := Zh (st := (top 32)) l_u c_u k_u
  have F_v := Zh (st := (top 33)) l_v c_v k_v
  have F_s := Zh (st := (top 34)) l_s c_s k_s
  have F_w := Zh (st := (top 35)) l_w c_w k_w
  have F_r := Zh (st := (top 36)) l_r c_r k_r
  have F_p := Zh (st := (top 29)) l_p c_p k_p
  have F_1c := Zh (st := (top 20)) l_1c c_1c k_1c
  have F_15 := Zh (st := (top 23)) l_15 c_15 k_15
  have F_16 := Zh (st := (top 21)) l_16 c_16 k_16
  have F_ik := Zh (st := (Z3 (top 16) 0)) l_ik c_ik k_ik
  have F_13 := Zh (st := (top 6)) l_13 c_13 k_13
  have F_10 := Zh (st := (top 8)) l_10 c_10 k_10
  have F_12 := Zh (st := (top 7)) l_12 c_12 k_12
  have F_z := Zh (st := (top 22)) l_z c_z k_z
  have F_19 := Zh (st := (top 26)) l_19 c_19 k_19
  have F_i7 := Zh (st := (Z3 (top 17) 0)) l_i7 c_i7 k_i7
  have F_i3 := Zh (st := (Z3 (top 13) 0)) l_i3 c_i3 k_i3
  have F_18 := Zh (st := (top 24)) l_18 c_18 k_18
  have F_ic := Zh (st := (Z3 (top 15) 0)) l_ic c_ic k_ic
  have F_ig := Zh (st := (Z3 (top 14) 0)) l_ig c_ig k_ig
  have F_11 := Zh (st := (top 9)) l_11 c_11 k_11
  have F_1a := Zh (st := (top 25)) l_1a c_1a k_1a
  have F_17 := Zh (st := (top 27)) l_17 c_17 k_17
  have F_q := Zh (st := (top 37)) l_q c_q k_q
  have F_14 := Zh (st := (top 38)) l_14 c_14 k_14
  have T : ∃ T : Txt K mg, T.a_14 = fa /\ T.fd_14 = PySem.W.fnOf "law" "law" (Zc (top 38)) (Za (top 38)) (Z1 (top 38)) .none kV_14 dc_14 pm_14 an_14 cd_14 ct_14 := ⟨{
    b_str := PySem.W.mg_none_of X G z_str
    b_range := PySem.W.mg_none_of X G z_range
    b_max := PySem.W.mg_none_of X G z_max
    b_isinstance := PySem.W.mg_none_of X G z_isinstance
    b_int := PySem.W.mg_none_of X G z_int
    b_bool := PySem.W.mg_none_of X G z_bool
    b_list := PySem.W.mg_none_of X G z_list
    b_len := PySem.W.mg_none_of X G z_len
    b_all := PySem.W.mg_none_of X G z_all
    b_set := PySem.W.mg_none_of X G z_set
    b_min := PySem.W.mg_none_of X G z_min
    t_LETTERS := t_LETTERS
    c_LETTERS := PySem.W.mg_of X G g_LETTERS
    t_FIGURES := t_FIGURES
    c_FIGURES := PySem.W.mg_of X G g_FIGURES
    a_o := f_o
    m_o := m_o
    a_b := f_b
    m_b := m_b
    a_0 := f_0
    m_0 := m_0
    a_3 := f_3
    m_3 := m_3
    a_g := f_g
    m_g := m_g
    a_c := f_c
    m_c := m_c
    a_k := f_k
    m_k := m_k
    a_7 := f_7
    m_7 := m_7
    x_o := ExcC.of x_o
    e_o := ErrC.of e_o
    x_b := ExcC.of x_b
    e_b := ErrC.of e_b
    o_0 := OwnC.of o_0
    n_0 := Z2l n_0
    o_3 := OwnC.of o_3
    n_3 := Z2l n_3
    o_g := OwnC.of o_g
    n_g := Z2l n_g
    o_c := OwnC.of o_c
    n_c := Z2l n_c
    o_k := OwnC.of o_k
    n_k := Z2l n_k
    o_7 := OwnC.of o_7
    n_7 := Z2l n_7
    k_0 := mk0_of mk_0
    g_2 := f_g2
    gd_2 := _
    G_2 := F_g2
    bg_2 := F_g2.binds (ps := ["self"]) fun _ _ _ _ _ _ us hl => match us, hl with | [_], _ => rfl
    a_1b := f_1b
    fd_1b := _
    F_1b := F_1b
    m_1b := PySem.W.mg_of X G a_1b
    b_f_row_of := F_1b.binds (ps := ["words"]) fun _ _ _ _ _ _ us hl => match us, hl with | [_], _ => rfl
    g_6 := f_g6
    gd_6 := _
    G_6 := F_g6
    bg_6 := F_g6.binds (ps := ["self"]) fun _ _ _ _ _ _ us hl => match us, hl with | [_], _ => rfl
    g_j := f_gj
    gd_j := _
    G_j := F_gj
    bg_j := F_gj.binds (ps := ["self"]) fun _ _ _ _ _ _ us hl => match us, hl with | [_], _ => rfl
    g_f := f_gf
    gd_f := _
    G_f := F_gf
    bg_f := F_gf.binds (ps := ["self"]) fun _ _ _ _ _ _ us hl => match us, hl with | [_], _ => rfl
    g_n := f_gn
    gd_n := _
    G_n := F_gn
    bg_n := F_gn.binds (ps := ["self"]) fun _ _ _ _ _ _ us hl => match us, hl with | [_], _ => rfl
    g_a := f_ga
    gd_a := _
    G_a := F_ga
    bg_a := F_ga.binds (ps := ["self"]) fun _ _ _ _ _ _ us hl => match us, hl with | [_], _ => rfl
    a_t := f_t
    fd_t := _
    F_t := F_t
    m_t := PySem.W.mg_of X G a_t
    b_f__law_name := F_t.binds (ps := ["cell"]) fun _ _ _ _ _ _ us hl => match us, hl with | [_], _ => rfl
    a_x := f_x
    fd_x := _
    F_x := F_x
    m_x := PySem.W.mg_of X G a_x
    b_f__law_two := F_x.binds (ps := ["cell"]) fun _ _ _ _ _ _ us hl => match us, hl with | [_], _ => rfl
    a_u := f_u
    fd_u := _
    F_u := F_u
    m_u := PySem.W.mg_of X G a_u
    b_f__law_number := F_u.binds (ps := ["cell", "top"]) fun _ _ _ _ _ _ us hl => match us, hl with | [_, _], _ => rfl
    a_v := f_v
    fd_v := _
    F_v := F_v
    m_v := PySem.W.mg_of X G a_v
    b_f__law_ring := F_v.binds (ps := ["cell", "many"]) fun _ _ _ _ _ _ us hl => match us, hl with | [_, _], _ => rfl
    a_s := f_s
    fd_s := _
    F_s := F_s
    m_s := PySem.W.mg_of X G a_s
    b_f__law_made := F_s.binds (ps := ["head", "one", "two"]) fun _ _ _ _ _ _ us hl => match us, hl with | [_, _, _], _ => rfl
    a_w := f_w
    fd_w := _
    F_w := F_w
    m_w := PySem.W.mg_of X G a_w
    b_f__law_things := F_w.binds (ps := ["found", "kind"]) fun _ _ _ _ _ _ us hl => match us, hl with | [_, _], _ => rfl
    a_r := f_r
    fd_r := _
    F_r := F_r
    m_r := PySem.W.mg_of X G a_r
    b_f__law_is := F_r.binds (ps := ["found", "kind", "things"]) fun _ _ _ _ _ _ us hl => match us, hl with | [_, _, _], _ => rfl
    a_p := f_p
    fd_p := _
    F_p := F_p
    m_p := PySem.W.mg_of X G a_p
    b_f__law_cell_at := F_p.binds (ps := ["script", "k"]) fun _ _ _ _ _ _ us hl => match us, hl with | [_, _], _ => rfl
    a_1c := f_1c
    fd_1c := _
    F_1c := F_1c
    m_1c := PySem.W.mg_of X G a_1c
    b_f_words_of := F_1c.binds (ps := ["row"]) fun _ _ _ _ _ _ us hl => match us, hl with | [_], _ => rfl
    a_15 := f_15
    fd_15 := _
    F_15 := F_15
    m_15 := PySem.W.mg_of X G a_15
    b_f_need_row := F_15.binds (ps := ["is_row"]) fun _ _ _ _ _ _ us hl => match us, hl with | [_], _ => rfl
    a_16 := f_16
    fd_16 := _
    F_16 := F_16
    m_16 := PySem.W.mg_of X G a_16
    b_f_number_of := F_16.binds (ps := ["word"]) fun _ _ _ _ _ _ us hl => match us, hl with | [_], _ => rfl
    i_k := f_ik
    fi_k := _
    Fi_k := F_ik
    k_k := Z5b mk_k
    bi_k := F_ik.binds (ps := ["self", "ring", "amount"]) fun _ _ _ _ _ _ us hl => match us, hl with | [_, _, _], _ => rfl
    a_13 := f_13
    fd_13 := _
    F_13 := F_13
    m_13 := PySem.W.mg_of X G a_13
    b_f_is_whole := F_13.binds (ps := ["thing"]) fun _ _ _ _ _ _ us hl => match us, hl with | [_], _ => rfl
    a_10 := f_10
    fd_10 := _
    F_10 := F_10
    m_10 := PySem.W.mg_of X G a_10
    b_f_is_amount := F_10.binds (ps := ["thing"]) fun _ _ _ _ _ _ us hl => match us, hl with | [_], _ => rfl
    a_12 := f_12
    fd_12 := _
    F_12 := F_12
    m_12 := PySem.W.mg_of X G a_12
    b_f_is_name := F_12.binds (ps := ["thing"]) fun _ _ _ _ _ _ us hl => match us, hl with | [_], _ => rfl
    a_z := f_z
    fd_z := _
    F_z := F_z
    m_z := PySem.W.mg_of X G a_z
    b_f_are_names_once := F_z.binds (ps := ["words"]) fun _ _ _ _ _ _ us hl => match us, hl with | [_], _ => rfl
    a_19 := f_19
    fd_19 := _
    F_19 := F_19
    m_19 := PySem.W.mg_of X G a_19
    b_f_read_of_ring := F_19.binds (ps := ["words"]) fun _ _ _ _ _ _ us hl => match us, hl with | [_], _ => rfl
    i_7 := f_i7
    fi_7 := _
    Fi_7 := F_i7
    k_7 := Z5b mk_7
    bi_7 := F_i7.binds (ps := ["self", "house"]) fun _ _ _ _ _ _ us hl => match us, hl with | [_, _], _ => rfl
    i_3 := f_i3
    fi_3 := _
    Fi_3 := F_i3
    k_3 := Z5b mk_3
    bi_3 := F_i3.binds (ps := ["self", "house"]) fun _ _ _ _ _ _ us hl => match us, hl with | [_, _], _ => rfl
    a_18 := f_18
    fd_18 := _
    F_18 := F_18
    m_18 := PySem.W.mg_of X G a_18
    b_f_read_of_one := F_18.binds (ps := ["words"]) fun _ _ _ _ _ _ us hl => match us, hl with | [_], _ => rfl
    i_c := f_ic
    fi_c := _
    Fi_c := F_ic
    k_c := Z5b mk_c
    bi_c := F_ic.binds (ps := ["self", "payer", "taker", "amount"]) fun _ _ _ _ _ _ us hl => match us, hl with | [_, _, _, _], _ => rfl
    i_g := f_ig
    fi_g := _
    Fi_g := F_ig
    k_g := Z5b mk_g
    bi_g := F_ig.binds (ps := ["self", "one", "other", "line"]) fun _ _ _ _ _ _ us hl => match us, hl with | [_, _, _, _], _ => rfl
    a_11 := f_11
    fd_11 := _
    F_11 := F_11
    m_11 := PySem.W.mg_of X G a_11
    b_f_is_line := F_11.binds (ps := ["thing"]) fun _ _ _ _ _ _ us hl => match us, hl with | [_], _ => rfl
    a_1a := f_1a
    fd_1a := _
    F_1a := F_1a
    m_1a := PySem.W.mg_of X G a_1a
    b_f_read_of_two := F_1a.binds (ps := ["words"]) fun _ _ _ _ _ _ us hl => match us, hl with | [_], _ => rfl
    a_17 := f_17
    fd_17 := _
    F_17 := F_17
    m_17 := PySem.W.mg_of X G a_17
    b_f_read := F_17.binds (ps := ["row"]) fun _ _ _ _ _ _ us hl => match us, hl with | [_], _ => rfl
    a_q := f_q
    fd_q := _
    F_q := F_q
    m_q := PySem.W.mg_of X G a_q
    b_f__law_deed := F_q.binds (ps := ["kind", "things"]) fun _ _ _ _ _ _ us hl => match us, hl with | [_, _], _ => rfl
    a_14 := fa
    fd_14 := _
    F_14 := F_14
    m_14 := PySem.W.mg_of X G a_14
    b_f_law := F_14.binds (ps := ["script"]) fun _ _ _ _ _ _ us hl => match us, hl with | [_], _ => rfl
    h_2 := Z2k h_2
    h_6 := Z2k h_6
    h_j := Z2k h_j
    h_f := Z2k h_f
    h_n := Z2k h_n
    h_a := Z2k h_a
    is_3 := Z1q is_3 ms
    is_g := Z1q is_g ms
    is_c := Z1q is_c ms
    is_k := Z1q is_k ms
    is_7 := Z1q is_7 ms
    is_int := Z1q is_int ms
    is_0 := Z1q is_0 ms
    is_bool := Z1q is_bool ms
    is_list := Z1q is_list ms
    is_str := Z1q is_str ms
  }, rfl, rfl⟩
  obtain ⟨T, e1, e2⟩ := T
  refine ⟨PySem.W.fnOf "law" "law" (Zc (top 38)) (Za (top 38)) (Z1 (top 38)) .none kV_14 dc_14 pm_14 an_14 cd_14 ct_14, fun s v => .of_eq rfl, fun base _ _ => ?_⟩
  have F := ok_14 (P := l.prog) (w := w) (base := base) T
  rw [e1, e2] at F
  exact F.imp fun vs H Q E h => sp_14 Zcf h
end B
def PySem.W.Fast.tw2058203241289431997 : Unit := ()
def PySem.W.Fast.tw13656549255035185386 : Unit := ()
def PySem.W.Fast.tw10295631403962671560 : Unit := ()
def PySem.W.Fast.tw15035151704104853330 : Unit := ()
def PySem.W.Fast.tw9277792209936198893 : Unit := ()
def PySem.W.Fast.tw951697543768492118 : Unit := ()
def PySem.W.Fast.tw14899845544303200386 : Unit := ()
def PySem.W.Fast.tw8509264198398373984 : Unit := ()
def PySem.W.Fast.tw8327638943213556658 : Unit := ()
def PySem.W.Fast.tw9352353220428836593 : Unit := ()
def PySem.W.Fast.tw17592501328915615945 : Unit := ()
def PySem.W.Fast.tw6737724127375968946 : Unit := ()
def PySem.W.Fast.tw9663077427846955855 : Unit := ()
def PySem.W.Fast.tw13518761798193448998 : Unit := ()
def PySem.W.Fast.tw17864387867681389707 : Unit := ()
def PySem.W.Fast.tw14202138089973430274 : Unit := ()
def PySem.W.Fast.tw8510411805374270679 : Unit := ()
def PySem.W.Fast.tw4539509588738070543 : Unit := ()
def PySem.W.Fast.tw10733278931496580214 : Unit := ()
def PySem.W.Fast.tw17700385671986852443 : Unit := ()
def PySem.W.Fast.tw4402068603004992299 : Unit := ()
def PySem.W.Fast.tw9771057580895458827 : Unit := ()
def PySem.W.Fast.tw9490805880200654029 : Unit := ()
def PySem.W.Fast.tw5513069466656800688 : Unit := ()
def PySem.W.Fast.tw7467822994423129802 : Unit := ()
def PySem.W.Fast.tw4693251122790125546 : Unit := ()
def PySem.W.Fast.tw2349726321781752071 : Unit := ()
def PySem.W.Fast.tw8084996304800549705 : Unit := ()
def PySem.W.Fast.tw13068288309020027541 : Unit := ()
def PySem.W.Fast.tw11897125932220147484 : Unit := ()
def PySem.W.Fast.tw14041823197209670070 : Unit := ()
def PySem.W.Fast.tw2674762649198017140 : Unit := ()
def PySem.W.Fast.tw504189354317901233 : Unit := ()
open PySem PySem.W PyProof.Rows
set_option maxRecDepth 100000 in
set_option maxHeartbeats 0 in
theorem PySem.Challenge.cw_trustways_k80_rows_read_holds : PySem.Challenge.rw_trustways_k80_rows_read.Holds := by
  w_on; o_law; k_head; (case hw => w_witness2)
  k_fill
  refine B.walk (l := PySem.Challenge.rw_trustways_k80_rows_read) (k := 5) rfl rfl ⟨rfl, by decide, by decide⟩ (fun w h Y => PySem.W.kIn_of Y) ?kNoL ?kFns
  case kNoL => exact fun w => by first | exact rfl | kernel_rfl | kernel_rfl!
  case kFns =>
    intro w mg fa h KX G hmg
    refine' B.all_mk KX G hmg ?a_o ?a_b ?a_0 ?a_3 ?a_g ?a_c ?a_k ?a_7 ?a_g2 ?l_g2 ?c_g2 ?k_g2 ?a_1b ?l_1b ?c_1b ?k_1b ?a_g6 ?l_g6 ?c_g6 ?k_g6 ?a_gj ?l_gj ?c_gj ?k_gj ?a_gf ?l_gf ?c_gf ?k_gf ?a_gn ?l_gn ?c_gn ?k_gn ?a_ga ?l_ga ?c_ga ?k_ga ?a_t ?l_t ?c_t ?k_t ?a_x ?l_x ?c_x ?k_x ?a_u ?l_u ?c_u ?k_u ?a_v ?l_v ?c_v ?k_v ?a_s ?l_s ?c_s ?k_s ?a_w ?l_w ?c_w ?k_w ?a_r ?l_r ?c_r ?k_r ?a_p ?l_p ?c_p ?k_p ?a_1c ?l_1c ?c_1c ?k_1c ?a_15 ?l_15 ?c_15 ?k_15 ?a_16 ?l_16 ?c_16 ?k_16 ?a_ik ?l_ik ?c_ik ?k_ik ?a_13 ?l_13 ?c_13 ?k_13 ?a_10 ?l_10 ?c_10 ?k_10 ?a_12 ?l_12 ?c_12 ?k_12 ?a_z ?l_z ?c_z ?k_z ?a_19 ?l_19 ?c_19 ?k_19 ?a_i7 ?l_i7 ?c_i7 ?k_i7 ?a_i3 ?l_i3 ?c_i3 ?k_i3 ?a_18 ?l_18 ?c_18 ?k_18 ?a_ic ?l_ic ?c_ic ?k_ic ?a_ig ?l_ig ?c_ig ?k_ig ?a_11 ?l_11 ?c_11 ?k_11 ?a_1a ?l_1a ?c_1a ?k_1a ?a_17 ?l_17 ?c_17 ?k_17 ?a_q ?l_q ?c_q ?k_q ?a_14 ?l_14 ?c_14 ?k_14 ?x_o ?e_o ?x_b ?e_b ?o_0 ?n_0 ?h_2 ?o_3 ?n_3 ?h_6 ?o_g ?n_g ?h_j ?o_c ?n_c ?h_f ?o_k ?n_k ?h_n ?o_7 ?n_7 ?h_a ?mk_k ?mk_7 ?mk_3 ?mk_c ?mk_g ?mk_0 ?is_3 ?is_g ?is_c ?is_k ?is_7 ?is_int ?is_0 ?is_bool ?is_list ?is_str ?g_LETTERS ?g_FIGURES ?z_str ?z_range ?z_max ?z_isinstance ?z_int ?z_bool ?z_list ?z_len ?z_all ?z_set ?z_min
    (case a_o => k_is)
    (case a_b => k_is)
    (case a_0 => k_is)
    (case a_3 => k_is)
    (case a_g => k_is)
    (case a_c => k_is)
    (case a_k => k_is)
    (case a_7 => k_is)
    (case a_g2 => k_is)
    (case l_g2 => k_is)
    (case c_g2 => k_is)
    (case k_g2 => k_is)
    (case a_1b => k_is)
    (case l_1b => k_is)
    (case c_1b => k_is)
    (case k_1b => k_is)
    (case a_g6 => k_is)
    (case l_g6 => k_is)
    (case c_g6 => k_is)
    (case k_g6 => k_is)
    (case a_gj => k_is)
    (case l_gj => k_is)
    (case c_gj => k_is)
    (case k_gj => k_is)
    (case a_gf => k_is)
    (case l_gf => k_is)
    (case c_gf => k_is)
    (case k_gf => k_is)
    (case a_gn => k_is)
    (case l_gn => k_is)
    (case c_gn => k_is)
    (case k_gn => k_is)
    (case a_ga => k_is)
    (case l_ga => k_is)
    (case c_ga => k_is)
    (case k_ga => k_is)
    (case a_t => k_is)
    (case l_t => k_is)
    (case c_t => k_is)
    (case k_t => k_is)
    (case a_x => k_is)
    (case l_x => k_is)
    (case c_x => k_is)
    (case k_x => k_is)
    (case a_u => k_is)
    (case l_u => k_is)
    (case c_u => k_is)
    (case k_u => k_is)
    (case a_v => k_is)
    (case l_v => k_is)
    (case c_v => k_is)
    (case k_v => k_is)
    (case a_s => k_is)
    (case l_s => k_is)
    (case c_s => k_is)
    (case k_s => k_is)
    (case a_w => k_is)
    (case l_w => k_is)
    (case c_w => k_is)
    (case k_w => k_is)
    (case a_r => k_is)
    (case l_r => k_is)
    (case c_r => k_is)
    (case k_r => k_is)
    (case a_p => k_is)
    (case l_p => k_is)
    (case c_p => k_is)
    (case k_p => k_is)
    (case a_1c => k_is)
    (case l_1c => k_is)
    (case c_1c => k_is)
    (case k_1c => k_is)
    (case a_15 => k_is)
    (case l_15 => k_is)
    (case c_15 => k_is)
    (case k_15 => k_is)
    (case a_16 => k_is)
    (case l_16 => k_is)
    (case c_16 => k_is)
    (case k_16 => k_is)
    (case a_ik => k_is)
    (case l_ik => k_is)
    (case c_ik => k_is)
    (case k_ik => k_is)
    (case a_13 => k_is)
    (case l_13 => k_is)
    (case c_13 => k_is)
    (case k_13 => k_is)
    (case a_10 => k_is)
    (case l_10 => k_is)
    (case c_10 => k_is)
    (case k_10 => k_is)
    (case a_12 => k_is)
    (case l_12 => k_is)
    (case c_12 => k_is)
    (case k_12 => k_is)
    (case a_z => k_is)
    (case l_z => k_is)
    (case c_z => k_is)
    (case k_z => k_is)
    (case a_19 => k_is)
    (case l_19 => k_is)
    (case c_19 => k_is)
    (case k_19 => k_is)
    (case a_i7 => k_is)
    (case l_i7 => k_is)
    (case c_i7 => k_is)
    (case k_i7 => k_is)
    (case a_i3 => k_is)
    (case l_i3 => k_is)
    (case c_i3 => k_is)
    (case k_i3 => k_is)
    (case a_18 => k_is)
    (case l_18 => k_is)
    (case c_18 => k_is)
    (case k_18 => k_is)
    (case a_ic => k_is)
    (case l_ic => k_is)
    (case c_ic => k_is)
    (case k_ic => k_is)
    (case a_ig => k_is)
    (case l_ig => k_is)
    (case c_ig => k_is)
    (case k_ig => k_is)
    (case a_11 => k_is)
    (case l_11 => k_is)
    (case c_11 => k_is)
    (case k_11 => k_is)
    (case a_1a => k_is)
    (case l_1a => k_is)
    (case c_1a => k_is)
    (case k_1a => k_is)
    (case a_17 => k_is)
    (case l_17 => k_is)
    (case c_17 => k_is)
    (case k_17 => k_is)
    (case a_q => k_is)
    (case l_q => k_is)
    (case c_q => k_is)
    (case k_q => k_is)
    (case a_14 => k_is)
    (case l_14 => k_is)
    (case c_14 => k_is)
    (case k_14 => k_is)
    (case x_o => first | exact rfl | kernel_rfl | kernel_rfl!)
    (case e_o => first | exact rfl | kernel_rfl | kernel_rfl!)
    (case x_b => first | exact rfl | kernel_rfl | kernel_rfl!)
    (case e_b => first | exact rfl | kernel_rfl | kernel_rfl!)
    (case o_0 => first | exact rfl | kernel_rfl | kernel_rfl!)
    (case n_0 => first | exact rfl | kernel_rfl | kernel_rfl!)
    (case h_2 => first | exact rfl | kernel_rfl | kernel_rfl!)
    (case o_3 => first | exact rfl | kernel_rfl | kernel_rfl!)
    (case n_3 => first | exact rfl | kernel_rfl | kernel_rfl!)
    (case h_6 => first | exact rfl | kernel_rfl | kernel_rfl!)
    (case o_g => first | exact rfl | kernel_rfl | kernel_rfl!)
    (case n_g => first | exact rfl | kernel_rfl | kernel_rfl!)
    (case h_j => first | exact rfl | kernel_rfl | kernel_rfl!)
    (case o_c => first | exact rfl | kernel_rfl | kernel_rfl!)
    (case n_c => first | exact rfl | kernel_rfl | kernel_rfl!)
    (case h_f => first | exact rfl | kernel_rfl | kernel_rfl!)
    (case o_k => first | exact rfl | kernel_rfl | kernel_rfl!)
    (case n_k => first | exact rfl | kernel_rfl | kernel_rfl!)
    (case h_n => first | exact rfl | kernel_rfl | kernel_rfl!)
    (case o_7 => first | exact rfl | kernel_rfl | kernel_rfl!)
    (case n_7 => first | exact rfl | kernel_rfl | kernel_rfl!)
    (case h_a => first | exact rfl | kernel_rfl | kernel_rfl!)
    (case mk_k => first | exact rfl | kernel_rfl | kernel_rfl!)
    (case mk_7 => first | exact rfl | kernel_rfl | kernel_rfl!)
    (case mk_3 => first | exact rfl | kernel_rfl | kernel_rfl!)
    (case mk_c => first | exact rfl | kernel_rfl | kernel_rfl!)
    (case mk_g => first | exact rfl | kernel_rfl | kernel_rfl!)
    (case mk_0 => first | exact rfl | kernel_rfl | kernel_rfl!)
    (case is_3 => first | exact rfl | kernel_rfl | kernel_rfl!)
    (case is_g => first | exact rfl | kernel_rfl | kernel_rfl!)
    (case is_c => first | exact rfl | kernel_rfl | kernel_rfl!)
    (case is_k => first | exact rfl | kernel_rfl | kernel_rfl!)
    (case is_7 => first | exact rfl | kernel_rfl | kernel_rfl!)
    (case is_int => first | exact rfl | kernel_rfl | kernel_rfl!)
    (case is_0 => first | exact rfl | kernel_rfl | kernel_rfl!)
    (case is_bool => first | exact rfl | kernel_rfl | kernel_rfl!)
    (case is_list => first | exact rfl | kernel_rfl | kernel_rfl!)
    (case is_str => first | exact rfl | kernel_rfl | kernel_rfl!)
    (case g_LETTERS => k_is)
    (case g_FIGURES => k_is)
    (case z_str => k_is)
    (case z_range => k_is)
    (case z_max => k_is)
    (case z_isinstance => k_is)
    (case z_int => k_is)
    (case z_bool => k_is)
    (case z_list => k_is)
    (case z_len => k_is)
    (case z_all => k_is)
    (case z_set => k_is)
    (case z_min => k_is)
