import PyProof.Rows.All
import Wide.All
import OpenK.AllK
import Wide.FinOn
import PyProof.EqAt
import PyProof.EqKinds
import PyProof.TupleCall
import KE.BitLaws
import PyProof.ExcBaseAll.ValueError
import OpenK.KOwn
import KE.KTryMore
import PyProof.NsDelKeeps
import PyProof.ExcAttrAll.ValueError
import PyProof.TupleOfGen
import PyProof.SetNew
import KE.KSortTupUse
import PyProof.TupleOfStr
import PyProof.ListRange
import PyProof.Rows.InDataRows
import PyProof.Rows.TupDisplay
import PyProof.DictWalks
import PyProof.Rows.SeqMore
import PyProof.DictCompW
import PyProof.P3In
import PyProof.CollectIter
import PyProof.FString
import PyProof.Rows.FStr
import PyProof.StrCalls
import PyProof.StrOps2
import PyProof.FactsAll.str_4
import KE.KNest
import PyProof.ListMulRoad
import PyProof.FactsAll.tuple_2
import PyProof.FactsAll.dict_1
import PyProof.FactsAll.subtypes_4
import PyProof.FitsBits
import PyProof.ListStr
import PySem.Challenge.RW_nearplace_k51_refused_to_be_written
set_option Elab.async false
set_option linter.all false
set_option maxRecDepth 100000
namespace L2
open PySem PySem.Spec PyProof.Rows
/-- a key: an int or a str -/
abbrev Key := Sum Int Str
def keyIs : Key → Value → Bool
  | .inl k, v => Value.isInt k v
  | .inr x, v => Value.isStrOf x v
def keyH (w : World) : Key → Int
  | .inl k => hashInt k
  | .inr x => hashStr w x
theorem keyIs_shape : ∀ {k : Key} {v : Value}, keyIs k v = true → (∃ i t, k = Sum.inl i ∧ v = Value.int i t) ∨ (∃ x t, k = Sum.inr x ∧ v = Value.str x t)
  | .inl i, v, h => by
    obtain ⟨t, e⟩ := Value.isInt_shape (k := i) (v := v) h
    exact .inl ⟨i, t, rfl, e⟩
  | .inr x, v, h => by
    obtain ⟨t, e⟩ := Value.isStrOf_shape (x := x) (v := v) h
    exact .inr ⟨x, t, rfl, e⟩
theorem keyIs_int (i : Int) (t : Tok) : keyIs (.inl i) (.int i t) = true := by simp [keyIs, Value.isInt]
theorem keyIs_str (x : Str) (t : Tok) : keyIs (.inr x) (.str x t) = true := by simp [keyIs, Value.isStrOf]
theorem key_ll (a b : Int) : decide ((Sum.inl a : Key) = Sum.inl b) = (a == b) := by
  by_cases e : a = b
  · subst e; simp
  · have h : ¬ (Sum.inl a : Key) = Sum.inl b := fun q => e (Sum.inl.inj q)
    rw [decide_eq_false h]
    exact (beq_eq_false_iff_ne.mpr e).symm
theorem key_rr (a b : Str) : decide ((Sum.inr a : Key) = Sum.inr b) = decide (a = b) := by
  by_cases e : a = b
  · subst e; simp
  · have h : ¬ (Sum.inr a : Key) = Sum.inr b := fun q => e (Sum.inr.inj q)
    rw [decide_eq_false h, decide_eq_false e]
theorem key_lr (a : Int) (b : Str) : decide ((Sum.inl a : Key) = Sum.inr b) = false := decide_eq_false (fun q => nomatch q)
theorem key_rl (a : Str) (b : Int) : decide ((Sum.inr a : Key) = Sum.inl b) = false := decide_eq_false (fun q => nomatch q)

def mixKind (prog : Program) (w : World) : PySem.KeyKind prog w Key where
  is := keyIs
  hash := keyH w
  inj := fun v a b ha hb => by
    rcases keyIs_shape ha with ⟨i, t, rfl, rfl⟩ | ⟨x, t, rfl, rfl⟩
    · rcases keyIs_shape hb with ⟨j, u, rfl, e⟩ | ⟨y, u, rfl, e⟩
      · injection e with e1 _; rw [e1]
      · exact nomatch e
    · rcases keyIs_shape hb with ⟨j, u, rfl, e⟩ | ⟨y, u, rfl, e⟩
      · exact nomatch e
      · injection e with e1 _; rw [e1]
  byValue := fun k v h => by
    rcases keyIs_shape h with ⟨i, t, rfl, rfl⟩ | ⟨x, t, rfl, rfl⟩ <;> rfl
  pyHash := fun hv h => by
    rcases keyIs_shape hv with ⟨i, t, rfl, rfl⟩ | ⟨x, t, rfl, rfl⟩
    · exact wpAny_pyHash_int h
    · exact wpAny_pyHash_str h
  eqBool := fun hu hv h => by
    rcases keyIs_shape hu with ⟨i, t, rfl, rfl⟩ | ⟨x, t, rfl, rfl⟩
    · rcases keyIs_shape hv with ⟨j, u, rfl, rfl⟩ | ⟨y, u, rfl, rfl⟩
      · rw [key_ll] at h; exact wpAny_eqBool_int h
      · rw [key_lr] at h; exact SeqAt.EqAt.int_str i t y u _ _ _ _ h
    · rcases keyIs_shape hv with ⟨j, u, rfl, rfl⟩ | ⟨y, u, rfl, rfl⟩
      · rw [key_rl] at h; exact SeqAt.EqAt.str_int x t j u _ _ _ _ h
      · rw [key_rr] at h; exact wpAny_eqBool_str h
  «strs» := fun k x t v h => by
    rcases keyIs_shape h with ⟨i, u, rfl, e⟩ | ⟨y, u, rfl, e⟩
    · exact nomatch e
    · injection e with e1 _
      subst e1
      cases v <;> rfl

theorem mixKind_int (prog : Program) (w : World) (i : Int) (t : Tok) : (mixKind prog w).is (.inl i) (.int i t) = true := keyIs_int i t
theorem mixKind_str (prog : Program) (w : World) (x : Str) (t : Tok) : (mixKind prog w).is (.inr x) (.str x t) = true := keyIs_str x t
end L2
namespace L2
open PySem PySem.Spec PyProof.Rows
/-- a value, without the heap -/
inductive V where
  | non | bl (b : Bool) | int (i : Int) | str (x : Str) | byt (b : Array UInt8) | flt (b : UInt64) | ref (a : Addr) | ty (n : String)
  deriving DecidableEq

def RelV : V → Value → Prop
  | .non, u => u = Value.none
  | .bl b, u => u = Value.bool b
  | .int i, u => ∃ t, u = Value.int i t
  | .str x, u => ∃ t, u = Value.str x t
  | .byt b, u => ∃ t, u = Value.bytes b t
  | .flt b, u => ∃ t, u = Value.float b t
  | .ref a, u => u = Value.ref a
  | .ty n, u => u = Value.type n

abbrev Vals : List V → List Value → Prop := Paired RelV
theorem Vals.length {xs : List V} {us : List Value} (r : Vals xs us) : xs.length = us.length := Paired.length r
theorem Vals.get : ∀ {xs : List V} {us : List Value} {i : Nat} {x : V}, Vals xs us → xs[i]? = some x → ∃ u, us[i]? = some u ∧ RelV x u
  | _, _, _, _, .nil, e => by simp at e
  | _, _, 0, _, .cons r _, e => by simp at e; subst e; exact ⟨_, rfl, r⟩
  | _, _, i + 1, x, .cons _ t, e => by
    obtain ⟨u, h1, h2⟩ := Vals.get (i := i) (x := x) t (by simpa using e)
    exact ⟨u, by simpa using h1, h2⟩
theorem Vals.set {x : V} {u : Value} (r : RelV x u) : ∀ {xs : List V} {us : List Value} (i : Nat), Vals xs us → Vals (xs.set i x) (us.set i u)
  | _, _, _, .nil => .nil
  | _, _, 0, .cons _ t => .cons r t
  | _, _, i + 1, .cons q t => .cons q (Vals.set r i t)
theorem Vals.append : ∀ {xs ys : List V} {us ws : List Value}, Vals xs us → Vals ys ws → Vals (xs ++ ys) (us ++ ws)
  | _, _, _, _, .nil, s => s
  | _, _, _, _, .cons r t, s => .cons r (Vals.append t s)
theorem Vals.take : ∀ {xs : List V} {us : List Value} (n : Nat), Vals xs us → Vals (xs.take n) (us.take n)
  | _, _, 0, _ => .nil
  | _, _, _ + 1, .nil => .nil
  | _, _, n + 1, .cons r t => .cons r (Vals.take n t)
theorem Vals.drop : ∀ {xs : List V} {us : List Value} (n : Nat), Vals xs us → Vals (xs.drop n) (us.drop n)
  | _, _, 0, r => r
  | _, _, _ + 1, .nil => .nil
  | _, _, n + 1, .cons _ t => Vals.drop n t
def RelO : Option V → Option Value → Prop
  | some v, some u => RelV v u
  | none, none => True
  | _, _ => False
def KV {κ : Type} : List (κ × V) → List (κ × Value) → Prop := Paired fun (p : κ × V) (q : κ × Value) => p.1 = q.1 ∧ RelV p.2 q.2

/-- a key of a dict (00_mix): an int or a text -/
def kV : Key → V
  | .inl i => .int i
  | .inr x => .str x

/-- what stands at a tracked address -/
inductive HO where
  /-- a list -/
  | lst (xs : List V)
  /-- a tuple (never changes) -/
  | tup (xs : List V)
  /-- a dict whose keys are ints and texts; one whose keys are tuples of ints and texts (the empty one is both) -/
  | dK (kvs : List (Key × V)) | dT (kvs : List (List Key × V))
  /-- a set of ints: its members, its size -/
  | set (S : Int → Bool) (n : Nat)
  /-- an instance of the class at C, its dict at dx, its attributes -/
  | ins (C dx : Addr) (fs : List (Str × V))
  /-- the dict of the instance at x -/
  | own (x : Addr)
  /-- the dict of an exception -/
  | xd (fs : List (Str × V))
  /-- a bound method, f of x -/
  | met (f x : Addr)
  /-- a range object lo, lo + 1, .. below hi -/
  | rng (lo hi : Int)
  /-- a thing that is known to the object (the script; a dict while a loop walks it): read, never written while it is so -/
  | frz (o : Obj) (u : HO)
  /-- a code object's table -/
  | tbl (ps : Array Value)
  /-- any other thing, by what is true of its one object (a def of one's own: SetO a S n := HO.ext fun h => ..) -/
  | ext (φ : Heap → Prop)

abbrev Hp := Addr → Option HO
def upd (H : Hp) (a : Addr) (o : HO) : Hp := fun b => if b = a then some o else H b
theorem upd_same {H : Hp} {a : Addr} {o : HO} : upd H a o a = some o := by unfold upd; rw [if_pos rfl]
theorem upd_ne {H : Hp} {a b : Addr} {o : HO} (h : b ≠ a) : upd H a o b = H b := by unfold upd; rw [if_neg h]
theorem upd_upd {H : Hp} {a : Addr} {o u : HO} : upd (upd H a o) a u = upd H a u := by
  funext b; unfold upd; split <;> rfl
/-- two objects of different content stand apart -/
theorem ne_of {H : Hp} {a b : Addr} {o u : HO} (h : H a = some o) (h' : H b = some u) (d : o ≠ u) : a ≠ b := by
  intro e; subst e; rw [h] at h'; exact d (Option.some.inj h')
theorem ne_of_none {H : Hp} {a b : Addr} {o : HO} (h : H a = some o) (h' : H b = none) : a ≠ b := by
  intro e; subst e; rw [h] at h'; cases h'

section
variable (P : Program) (w : World)
def ObjOk (H : Hp) (h : Heap) (a : Addr) : HO → Prop
  | .lst xs => xs.length ≤ sizeLine ∧ ∃ (its : List Value) (n : Nat), Vals xs its ∧ h.get? a = some { cls := .type "list", data := .seq its.toArray n }
  | .tup xs => xs.length ≤ sizeLine ∧ ∃ its : List Value, Vals xs its ∧ IsTup h a its.toArray
  | .dK kvs => kvs.length ≤ sizeLine ∧ (a == sysModules) = false ∧ ∃ vs, KV kvs vs ∧ h.DictOf (mixKind P w) a vs
  | .dT kvs => kvs.length ≤ sizeLine ∧ (a == sysModules) = false ∧ ∃ xs : List (List Key × Addr × Value),
      Paired (fun (p : List Key × V) (q : List Key × Addr × Value) => p.1 = q.1 ∧ H q.2.1 = some (.tup (p.1.map kV)) ∧ RelV p.2 q.2.2) kvs xs ∧
      ∃ o es ep, h.get? a = some o ∧ o.ExactDict ∧ o.data = .dict es ep ∧ es.toList = xs.map (entryOfKey (tupleKind (mixKind P w))) ∧ (xs.map (·.1)).Nodup
  | .set S n => h.SetOf (intKind P w) a S n
  | .ins C dx fs => H dx = some (.own a) ∧ fs.length ≤ 1000 ∧ dx ≠ a ∧ h.get? a = some (PySem.W.instObj C dx) ∧
      ∃ mA, h.Ns1 dx mA ∧ (∀ f, RelO (fs.lookup f) (mA f)) ∧ PySem.Within mA (fs.map (·.1))
  | .own _ => ∃ o, h.get? a = some o
  | .xd fs => ∃ mA, h.Ns1 a mA ∧ ∀ f, RelO (fs.lookup f) (mA f)
  | .rng lo hi => ∃ t u v, h.get? a = some { cls := .type "range", data := .fields #[.int lo t, .int hi u, .int 1 v] }
  | .frz o u => h.get? a = some o ∧ ObjOk H h a u
  | .tbl ps => h.get? a = some { cls := .none, data := .fields ps }
  | .met f x => h.get? a = some (PySem.W.methodObj (.ref f) (.ref x))
  | .ext φ => φ h ∧ (∃ o, h.get? a = some o) ∧ ∀ h1 h2 : Heap, φ h1 → (∀ o, h1.get? a = some o → h2.get? a = some o) → φ h2
/-- the abstract heap is held -/
def HOk (H : Hp) (h : Heap) : Prop := ∀ a o, H a = some o → ObjOk P w H h a o
end
section
variable {P : Program} {w : World} {H H' : Hp} {h h' : Heap} {a : Addr} {o : HO}
theorem ObjOk.lt (x : ObjOk P w H h a o) : a < h.objs.size := by
  cases o with
  | lst xs => obtain ⟨_, _, _, _, e⟩ := x; exact Heap.lt_size e
  | tup xs => obtain ⟨_, _, _, p⟩ := x; exact p.lt
  | dK kvs => obtain ⟨_, _, _, _, o, _, _, e, _⟩ := x; exact Heap.lt_size e
  | dT kvs => obtain ⟨_, _, _, _, o, _, _, e, _⟩ := x; exact Heap.lt_size e
  | set S n => obtain ⟨o, _, _, _, e, _⟩ := x; exact Heap.lt_size e
  | ins C dx fs => obtain ⟨_, _, _, e, _⟩ := x; exact Heap.lt_size e
  | own y => obtain ⟨_, e⟩ := x; exact Heap.lt_size e
  | xd fs => obtain ⟨_, ⟨_, _, _, e, _⟩, _⟩ := x; exact Heap.lt_size e
  | rng lo hi => obtain ⟨_, _, _, e⟩ := x; exact Heap.lt_size e
  | frz ob u => obtain ⟨e, _⟩ := x; exact Heap.lt_size e
  | tbl ps => exact Heap.lt_size (show h.get? a = some _ from x)
  | met f y => exact Heap.lt_size (show h.get? a = some _ from x)
  | ext φ => obtain ⟨_, ⟨_, e⟩, _⟩ := x; exact Heap.lt_size e
theorem Paired.mapP {α β : Type} {F G : α → β → Prop} : ∀ {l₁ : List α} {l₂ : List β}, Paired F l₁ l₂ → (∀ a b, F a b → G a b) → Paired G l₁ l₂
  | _, _, .nil, _ => .nil
  | _, _, .cons r t, f => .cons (f _ _ r) (Paired.mapP t f)
/-- what an object's description leans on: its own object, its own dict, the tuples -/
theorem ObjOk.stay (x : ObjOk P w H h a o) (k : ∀ b u, (b = a ∨ H b = some (.own a)) → h.get? b = some u → h'.get? b = some u)
    (ho : ∀ b, H b = some (.own a) → H' b = some (.own a)) (ht : ∀ b xs, H b = some (.tup xs) → H' b = some (.tup xs)) : ObjOk P w H' h' a o := by
  induction o with
  | lst xs => obtain ⟨z, its, n, r, e⟩ := x; exact ⟨z, its, n, r, k _ _ (.inl rfl) e⟩
  | tup xs => obtain ⟨z, its, r, ob, e, c⟩ := x; exact ⟨z, its, r, ob, k _ _ (.inl rfl) e, c⟩
  | dK kvs => obtain ⟨z, y, vs, r, ob, es, ep, e, c⟩ := x; exact ⟨z, y, vs, r, ob, es, ep, k _ _ (.inl rfl) e, c⟩
  | dT kvs =>
    obtain ⟨z, y, xs, r, ob, es, ep, e, c⟩ := x
    exact ⟨z, y, xs, Paired.mapP r fun p q z => ⟨z.1, ht _ _ z.2.1, z.2.2⟩, ob, es, ep, k _ _ (.inl rfl) e, c⟩
  | set S n => obtain ⟨ob, es, ep, t, e, c⟩ := x; exact ⟨ob, es, ep, t, k _ _ (.inl rfl) e, c⟩
  | ins C dx fs =>
    obtain ⟨d, z, ne, e, mA, ⟨od, es, ep, e2, c⟩, r⟩ := x
    exact ⟨ho _ d, z, ne, k _ _ (.inl rfl) e, mA, ⟨od, es, ep, k _ _ (.inr d) e2, c⟩, r⟩
  | own y => obtain ⟨ob, e⟩ := x; exact ⟨ob, k _ _ (.inl rfl) e⟩
  | xd fs => obtain ⟨mA, ⟨od, es, ep, e, c⟩, r⟩ := x; exact ⟨mA, ⟨od, es, ep, k _ _ (.inl rfl) e, c⟩, r⟩
  | rng lo hi => obtain ⟨t, u, v, e⟩ := x; exact ⟨t, u, v, k _ _ (.inl rfl) e⟩
  | frz ob u ih => obtain ⟨e, q⟩ := x; exact ⟨k _ _ (.inl rfl) e, ih q⟩
  | tbl ps =>
    have e : h.get? a = some { cls := .none, data := .fields ps } := x
    show h'.get? a = some { cls := .none, data := .fields ps }
    exact k a _ (.inl rfl) e
  | met f y =>
    have e : h.get? a = some (PySem.W.methodObj (.ref f) (.ref y)) := x
    show h'.get? a = some (PySem.W.methodObj (.ref f) (.ref y))
    exact k a _ (.inl rfl) e
  | ext φ => obtain ⟨p, ⟨o, e⟩, st⟩ := x; exact ⟨st _ _ p fun o q => k _ _ (.inl rfl) q, ⟨o, k _ _ (.inl rfl) e⟩, st⟩
theorem HOk.lt (x : HOk P w H h) (e : H a = some o) : a < h.objs.size := (x a o e).lt
theorem HOk.fresh (x : HOk P w H h) (e : h.objs.size ≤ a) : H a = none := by
  cases q : H a with
  | none => rfl
  | some u => exact absurd (Nat.lt_of_lt_of_le (x.lt q) e) (Nat.lt_irrefl _)
/-- every object of the heap is kept -/
theorem HOk.kept (x : HOk P w H h) (k : ∀ b u, h.get? b = some u → h'.get? b = some u) : HOk P w H h' := fun a o e =>
  (x a o e).stay (fun b u _ q => k b u q) (fun _ q => q) fun _ _ q => q
/-- a new object is laid and tracked -/
theorem HOk.laid (x : HOk P w H h) (k : ∀ b u, h.get? b = some u → h'.get? b = some u) (hp : h.objs.size ≤ a) (new : ObjOk P w (upd H a o) h' a o) : HOk P w (upd H a o) h' := fun b u e => by
  have hn := x.fresh hp
  by_cases hb : b = a
  · subst hb; rw [upd_same] at e; cases e; exact new
  · rw [upd_ne hb] at e
    exact (x b u e).stay (fun c v _ q => k c v q) (fun c q => by rw [upd_ne (ne_of_none q hn)]; exact q) fun c xs q => by rw [upd_ne (ne_of_none q hn)]; exact q
end
/-- what may be read as u: it is u, or a known u -/
def Rd (H : Hp) (a : Addr) (u : HO) : Prop := H a = some u ∨ ∃ o, H a = some (.frz o u)
theorem Rd.of {H : Hp} {a : Addr} {u : HO} (h : H a = some u) : Rd H a u := .inl h
theorem Rd.ok {P : Program} {w : World} {H : Hp} {h : Heap} {a : Addr} {u : HO} (r : Rd H a u) (x : HOk P w H h) : ObjOk P w H h a u := by
  rcases r with r | ⟨o, r⟩
  · exact x a u r
  · obtain ⟨_, q⟩ := x a _ r
    exact q
/-- what may be written -/
def Mut : Option HO → Prop
  | some (.lst _) => True
  | some (.dK _) => True
  | some (.dT _) => True
  | some (.set _ _) => True
  | some (.ins _ _ _) => True
  | some (.ext _) => True
  | _ => False
section
variable {P : Program} {w : World} {H : Hp} {h h' : Heap} {x e : Addr} {o' : HO}
/-- the object at e is changed: x itself, or the dict of the instance x -/
theorem HOk.write (ok : HOk P w H h) (mu : Mut (H x)) (he : e = x ∨ H e = some (.own x)) (k : ∀ b u, b ≠ e → h.get? b = some u → h'.get? b = some u) (heo : ∃ u, h'.get? e = some u)
    (new : ObjOk P w (upd H x o') h' x o') : HOk P w (upd H x o') h' := fun b u q => by
  have nown : ∀ c y, H c = some (.own y) → c ≠ x := fun c y r z => by subst z; rw [r] at mu; exact mu
  have ntup : ∀ c xs, H c = some (.tup xs) → c ≠ x := fun c xs r z => by subst z; rw [r] at mu; exact mu
  by_cases hb : b = x
  · subst hb; rw [upd_same] at q; cases q; exact new
  · rw [upd_ne hb] at q
    by_cases hbe : b = e
    · have q' : H b = some (.own x) := by
        rcases he with z | z
        · exact absurd (hbe.trans z) hb
        · rw [hbe]; exact z
      rw [q] at q'; cases q'
      obtain ⟨v, hv⟩ := heo
      exact ⟨v, by rw [hbe]; exact hv⟩
    · refine (ok b u q).stay (fun c v hc r => k c v ?_ r) (fun c r => by rw [upd_ne (nown c b r)]; exact r) fun c xs r => by rw [upd_ne (ntup c xs r)]; exact r
      rcases hc with rfl | hc
      · exact hbe
      · rintro rfl
        rcases he with z | z
        · exact nown c b hc z
        · rw [hc] at z; cases z; exact hb rfl
end
structure Un (fs ex : List Addr) (H H' : Hp) (h h' : Heap) : Prop where
  keep : ∀ b o, h.get? b = some o → H b = none → b ∉ fs → b ∉ ex → h'.get? b = some o
  slot : ∀ b o, h.get? b = some o → H b = none → b ∈ fs → b ∉ ex → ∃ sl, h'.get? b = some { o with slots := sl }
  free : ∀ b o, h.get? b = some o → H b = none → b ∉ ex → H' b = none
  there : ∀ b o, h.get? b = some o → b ∉ ex → ∃ o', h'.get? b = some o'
  tups : ∀ b xs, H b = some (.tup xs) → H' b = some (.tup xs)
  frzs : ∀ b o u, H b = some (.frz o u) → H' b = some (.frz o u)
  tbls : ∀ b ps, H b = some (.tbl ps) → ∃ more, H' b = some (.tbl (ps ++ more))
section
variable {fs fs' ex ex' : List Addr} {H H1 H2 : Hp} {h h1 h2 h' : Heap} {a x e : Addr} {o : HO}
theorem Un.any (u : Un fs ex H H1 h h1) {b : Addr} {ob : Obj} (q : h.get? b = some ob) (n : H b = none) (hx : b ∉ ex) : ∃ sl, h1.get? b = some { ob with slots := sl } := by
  by_cases hb : b ∈ fs
  · exact u.slot b ob q n hb hx
  · exact ⟨ob.slots, u.keep b ob q n hb hx⟩
theorem Un.trans (a : Un fs ex H H1 h h1) (b : Un fs ex H1 H2 h1 h2) : Un fs ex H H2 h h2 where
  keep := fun c ob q n hc hx => b.keep c ob (a.keep c ob q n hc hx) (a.free c ob q n hx) hc hx
  slot := fun c ob q n hc hx => by
    obtain ⟨sl, e1⟩ := a.slot c ob q n hc hx
    obtain ⟨sl', e2⟩ := b.slot c _ e1 (a.free c ob q n hx) hc hx
    exact ⟨sl', e2⟩
  free := fun c ob q n hx => by
    obtain ⟨o', e1⟩ := a.there c ob q hx
    exact b.free c o' e1 (a.free c ob q n hx) hx
  there := fun c ob q hx => by
    obtain ⟨o', e1⟩ := a.there c ob q hx
    exact b.there c o' e1 hx
  tups := fun c xs q => b.tups c xs (a.tups c xs q)
  frzs := fun c ob xs q => b.frzs c ob xs (a.frzs c ob xs q)
  tbls := fun c ps q => by
    obtain ⟨m1, e1⟩ := a.tbls c ps q
    obtain ⟨m2, e2⟩ := b.tbls c _ e1
    exact ⟨m1 ++ m2, by rw [e2, Array.append_assoc]⟩
theorem Un.kept (k : ∀ b u, h.get? b = some u → h'.get? b = some u) : Un fs ex H H h h' :=
  ⟨fun b ob q _ _ _ => k b ob q, fun b ob q _ _ _ => ⟨ob.slots, k b ob q⟩, fun _ _ _ n _ => n, fun b ob q _ => ⟨ob, k b ob q⟩, fun _ _ q => q, fun _ _ _ q => q, fun _ ps q => ⟨#[], by rw [q]; simp⟩⟩
theorem Un.refl : Un fs ex H H h h := Un.kept fun _ _ q => q
theorem Un.laid (k : ∀ b u, h.get? b = some u → h'.get? b = some u) (hp : h.objs.size ≤ a) (hn : H a = none) : Un fs ex H (upd H a o) h h' where
  keep := fun b u q _ _ _ => k b u q
  slot := fun b u q _ _ _ => ⟨u.slots, k b u q⟩
  free := fun b u q n _ => by rw [upd_ne (Nat.ne_of_lt (Nat.lt_of_lt_of_le (Heap.lt_size q) hp))]; exact n
  there := fun b u q _ => ⟨u, k b u q⟩
  tups := fun b xs q => by rw [upd_ne (ne_of_none q hn)]; exact q
  frzs := fun b u xs q => by rw [upd_ne (ne_of_none q hn)]; exact q
  tbls := fun b ps q => ⟨#[], by rw [upd_ne (ne_of_none q hn), q]; simp⟩
theorem Un.write (mu : Mut (H x)) (he : e = x ∨ H e = some (.own x)) (k : ∀ b u, b ≠ e → h.get? b = some u → h'.get? b = some u) (heo : ∃ u, h'.get? e = some u) : Un fs ex H (upd H x o) h h' := by
  have hx : ∀ b, H b = none → b ≠ x := fun b n z => by subst z; rw [n] at mu; exact mu
  have hb : ∀ b, H b = none → b ≠ e := fun b n z => by
    subst z
    rcases he with r | r
    · exact hx b n r
    · rw [n] at r; cases r
  have hm : ∀ b u, H b = some u → ¬ Mut (some u) → b ≠ x := fun b u q nm z => by subst z; rw [q] at mu; exact nm mu
  refine ⟨fun b u q n _ _ => k b u (hb b n) q, fun b u q n _ _ => ⟨u.slots, k b u (hb b n) q⟩, fun b u q n _ => by rw [upd_ne (hx b n)]; exact n, fun b u q _ => ?_,
    fun b xs q => by rw [upd_ne (hm b _ q fun z => z)]; exact q, fun b u xs q => by rw [upd_ne (hm b _ q fun z => z)]; exact q, fun b ps q => ⟨#[], by rw [upd_ne (hm b _ q fun z => z), q]; simp⟩⟩
  by_cases hbe : b = e
  · subst hbe; exact heo
  · exact ⟨u, k b u hbe q⟩
theorem Un.mono (u : Un fs ex H H1 h h1) (hs : ∀ b ∈ fs, b ∈ fs') (hx : ∀ b ∈ ex, b ∈ ex') : Un fs' ex' H H1 h h1 :=
  ⟨fun b ob q n hb he => u.keep b ob q n (fun z => hb (hs b z)) fun z => he (hx b z), fun _ _ q n _ he => u.any q n fun z => he (hx _ z), fun b ob q n he => u.free b ob q n fun z => he (hx b z), fun b ob q he => u.there b ob q fun z => he (hx b z), u.tups, u.frzs, u.tbls⟩
end
def trk (h : Heap) (H : Hp) : List Addr := (List.range h.objs.size).filter fun a => (H a).isSome
def hidT (h : Heap) (H : Hp) : Heap := PySem.W.hideAll h (trk h H)
theorem hidT_size (h : Heap) (H : Hp) : (hidT h H).objs.size = h.objs.size := PySem.W.hideAll_size _ _
theorem hidT_get {h : Heap} {H : Hp} {b : Addr} {o : Obj} (e : h.get? b = some o) (n : H b = none) : (hidT h H).get? b = some o :=
  PySem.W.hideAll_get _ e fun hm => by
    have q : (H b).isSome = true := (List.mem_filter.mp hm).2
    rw [n] at q; simp at q
theorem of_hidT {h : Heap} {H : Hp} {b : Addr} {o : Obj} (e : (hidT h H).get? b = some o) : h.get? b = some o ∧ H b = none := by
  have e' : h.get? b = some o := PySem.W.of_hideAll (trk h H) e
  refine ⟨e', ?_⟩
  cases q : H b with
  | none => rfl
  | some x =>
    have hm : b ∈ trk h H := List.mem_filter.mpr ⟨List.mem_range.mpr (Heap.lt_size e'), by simp [q]⟩
    have z : (hidT h H).get? b = none := PySem.W.hideAll_none (trk h H) hm
    rw [z] at e; cases e

def allNews (g h : Heap) (L : Addr) : List (Addr × Obj) := (List.range h.objs.size).filterMap fun a => if a = L ∨ (g.get? a).isSome = true then none else (h.get? a).map fun o => (a, o)
def rest (g h : Heap) (L d : Addr) : List (Addr × Obj) := (allNews g h L).filter fun p => decide (p.1 ≠ d)
end L2
namespace L2
open PySem PySem.Spec PyProof.Rows
/-- the module's facts, over the base: the heap at the law's entry without what is tracked there -/
structure Mod (K : PySem.W.Frag) (mg : Str → Option Value) (base : Heap) : Prop where
  kin : K.In base
  glob : base.Ns mainGlobals mg
  blt : ∃ mb, base.Ns builtinsNs mb ∧ ∀ x : Str, x ≠ "__name__" → mb x = bootBuiltins x
  nolimit : base.NoLimit

/-- the context: a def's body (or a comprehension's block) running. base: fixed through the whole law; s₀, H₀: the entry; outer: the frames whose slots others may change (a def's callers); stack: all frames that run;
   ex: iterators that were made ahead of the entry and are walked here (a comprehension's); fn: the names whose cells were made at the entry (a def: all; a comprehension's block: its own); calm: not within an except suite; pn: pins that every state bears; xe: what is wanted of an exception that leaves the code -/
structure Cx where
  prog : Program
  w : World
  K : PySem.W.Frag
  mg : Str → Option Value
  base : Heap
  A : Around
  N : List Str
  s_0 : Shared
  H_0 : Hp
  env : Env
  outer : List Env
  stack : List Env
  ex : List Addr
  fn : Str → Bool
  calm : Bool
  pn : List (Addr × Obj)
  xe : Value → Shared → Prop
  gp : Array GenState → Drawn → Prop
/-- the callers' frames -/
def frs (l : List Env) : List Addr := l.filterMap (·.frame)
abbrev Cx.fs (X : Cx) : List Addr := frs X.outer

def Vis (sc : Scope) (x : Str) : Prop := sc.names.lookup x = some .local ∨ sc.names.lookup x = some .cell ∨ sc.names.lookup x = some .free
def Loc (sc : Scope) (x : Str) : Prop := sc.names.lookup x = some .local ∨ sc.names.lookup x = some .cell
def Look (env : Env) (h : Heap) (m : Str → Option Value) (x : Str) (u : Value) : Prop :=
  (env.kindOf x = some .local ∧ m x = some u) ∨ ((env.kindOf x = some .cell ∨ env.kindOf x = some .free) ∧ ∃ c, env.cells.lookup x = some c ∧ h.IsCell c (some u))

structure Cx.Ok (X : Cx) : Prop where
  mod : Mod X.K X.mg X.base
  kind : X.env.scope.kind = .function
  glob : X.env.globals = mainGlobals
  blt : X.env.builtins = builtinsNs
  above : X.s_0.heap.objs.size ≤ X.env.locals
  inj : ∀ x y c, X.env.cells.lookup x = some c → X.env.cells.lookup y = some c → x = y
  has : ∀ x, (X.env.kindOf x = some .cell ∨ X.env.kindOf x = some .free) → ∃ c, X.env.cells.lookup x = some c
  cab : ∀ x c, X.fn x = true → X.env.cells.lookup x = some c → X.s_0.heap.objs.size ≤ c
  hd : X.calm = true → X.A.handled = none
  frames : (∀ g d, X.gp g d ↔ AllBare g) → X.A.frames = some X.stack ∧ X.A.guards = some []
  stk : X.stack = X.outer ∨ (X.stack = X.env :: X.outer ∧ X.env.frame = some X.env.locals)
  exf : ∀ b ∈ X.ex, b ≠ X.env.locals ∧ ∀ x c, X.env.cells.lookup x = some c → c ≠ b
  bs : ∀ b o, X.base.get? b = some o → X.s_0.heap.get? b = some o ∧ X.H_0 b = none
  bsz : X.base.objs.size ≤ X.s_0.heap.objs.size
  noex : ∀ b o, X.base.get? b = some o → b ∉ X.ex
  exfs : ∀ b ∈ X.ex, b ∉ X.fs
  funs : X.s_0.heap.FunFrames X.base X.outer
  frf : ∀ b ∈ X.fs, X.H_0 b = none

structure Inv (X : Cx) (pins : List (Addr × Obj)) (σ : List (Option V)) (H : Hp) (s : Shared) : Prop where
  ok : X.Ok
  os : s.os = X.s_0.os
  bare : X.gp s.gens s.drawn
  base : Un X.fs X.ex X.H_0 H X.s_0.heap s.heap
  loc : ∃ m, s.heap.Ns X.env.locals m ∧ ∀ (i : Nat) (x : Str) (v : V), X.N[i]? = some x → σ[i]? = some (some v) → Vis X.env.scope x → ∃ u, RelV v u ∧ Look X.env s.heap m x u
  cell : ∀ x c, X.env.cells.lookup x = some c → ∃ v, s.heap.IsCell c v
  free : H X.env.locals = none
  freeC : ∀ x c, X.env.cells.lookup x = some c → H c = none
  pin : ∀ p ∈ X.pn ++ pins, s.heap.get? p.1 = some p.2 ∧ H p.1 = none ∧ p.1 ≠ X.env.locals ∧ p.1 ∉ X.fs ∧ ∀ v, p.2.data ≠ .cell v
  hok : HOk X.prog X.w H s.heap
  len : σ.length = X.N.length

section
variable {X : Cx} {pins : List (Addr × Obj)} {σ : List (Option V)} {H H' : Hp} {s : Shared} {h' : Heap}
theorem Cx.Ok.nofr (ok : X.Ok) {b : Addr} {o : Obj} (e : X.base.get? b = some o) : b ∉ X.fs := fun hb => by
  have := (ok.funs.mem hb).1
  rw [e] at this; cases this
theorem Inv.bs (I : Inv X pins σ H s) : ∀ b o, X.base.get? b = some o → s.heap.get? b = some o ∧ H b = none := fun b o e =>
  ⟨I.base.keep b o (I.ok.bs b o e).1 (I.ok.bs b o e).2 (I.ok.nofr e) (I.ok.noex b o e), I.base.free b o (I.ok.bs b o e).1 (I.ok.bs b o e).2 (I.ok.noex b o e)⟩
theorem Inv.bk (I : Inv X pins σ H s) : ∀ b o, X.base.get? b = some o → s.heap.get? b = some o := fun b o e => (I.bs b o e).1
theorem Inv.mod (I : Inv X pins σ H s) : Mod X.K X.mg X.base := I.ok.mod
theorem Inv.kIn (I : Inv X pins σ H s) : X.K.In s.heap := I.ok.mod.kin.keeps I.bk
theorem Inv.nolimit (I : Inv X pins σ H s) : s.heap.NoLimit := I.ok.mod.nolimit.keeps I.bk
/-- the frame over the base: for OpenK's rules (K.In X.base is I.mod.kin) -/
theorem Inv.fr (I : Inv X pins σ H s) : ∃ m, Fr X.base X.env.locals s.heap m :=
  let ⟨m, hn, _⟩ := I.loc
  ⟨m, hn, I.bk, Nat.le_trans I.ok.bsz I.ok.above⟩
theorem Inv.lt (I : Inv X pins σ H s) : X.env.locals < s.heap.objs.size := let ⟨_, hn, _⟩ := I.loc; hn.lt
theorem Inv.sz (I : Inv X pins σ H s) : X.s_0.heap.objs.size ≤ s.heap.objs.size := Nat.le_trans I.ok.above (Nat.le_of_lt I.lt)
theorem Inv.nofs (I : Inv X pins σ H s) {a : Addr} (h : s.heap.objs.size ≤ a) : a ∉ X.fs := fun hb => by
  obtain ⟨_, o, ho, _⟩ := I.ok.funs.mem hb
  exact absurd (Nat.lt_of_lt_of_le (Heap.lt_size ho) (Nat.le_trans I.sz h)) (Nat.lt_irrefl _)
theorem Inv.cne (I : Inv X pins σ H s) : ∀ x c, X.env.cells.lookup x = some c → c ≠ X.env.locals := fun x c e z => by
  obtain ⟨v, o, ho, hd⟩ := I.cell x c e
  obtain ⟨m, ⟨o', es, ep, ho', hd', _⟩, _⟩ := I.loc
  rw [z, ho'] at ho; cases ho; rw [hd'] at hd; cases hd
theorem Inv.funs (I : Inv X pins σ H s) : s.heap.FunFrames X.base X.outer := by
  have all : ∀ (l : List Env), (∀ b ∈ frs l, b ∈ X.fs) → X.s_0.heap.FunFrames X.base l → s.heap.FunFrames X.base l := by
    intro l
    induction l with
    | nil => intro _ _; trivial
    | cons env r ih =>
      intro hs hl
      obtain ⟨hk, ⟨L, o, hf, hn, ho, hd⟩, hr⟩ := hl
      have hL : L ∈ X.fs := hs L (by unfold frs; rw [List.filterMap_cons, hf]; exact List.mem_cons_self)
      obtain ⟨sl, e⟩ := I.base.slot L o ho (I.ok.frf L hL) hL fun z => I.ok.exfs L z hL
      exact ⟨hk, ⟨L, _, hf, hn, e, hd⟩, ih (fun b hb => hs b (by unfold frs; rw [List.filterMap_cons, hf]; exact List.mem_cons_of_mem _ hb)) hr⟩
  exact all X.outer (fun _ hb => hb) I.ok.funs

/-- the frames that run, for a call -/
theorem Inv.stack (I : Inv X pins σ H s) : s.heap.FunFrames X.base X.stack := by
  rcases I.ok.stk with e | ⟨e, hf⟩
  · rw [e]; exact I.funs
  · rw [e]
    obtain ⟨m, hn, _⟩ := I.loc
    refine .cons (by rw [I.ok.kind]; decide) hf hn ?_ I.funs
    exact Heap.get?_none_of_le (Nat.le_trans I.ok.bsz I.ok.above)
theorem Inv.stkSub (I : Inv X pins σ H s) : ∀ b ∈ frs X.stack, b ∈ X.env.locals :: X.fs := fun b hb => by
  rcases I.ok.stk with e | ⟨e, hf⟩
  · rw [e] at hb; exact List.mem_cons_of_mem _ hb
  · rw [e] at hb
    unfold frs at hb
    rw [List.filterMap_cons, hf] at hb
    exact hb
theorem Inv.stkFree (I : Inv X pins σ H s) : ∀ b ∈ frs X.stack, H b = none := fun b hb => by
  rcases List.mem_cons.mp (I.stkSub b hb) with e | hb
  · rw [e]; exact I.free
  · obtain ⟨_, o, ho, _⟩ := I.ok.funs.mem hb
    exact I.base.free b o ho (I.ok.frf b hb) fun z => I.ok.exfs b z hb

/-- THE STEP: the untracked objects but the frame and the records at ch are kept (the callers' frames up to slots), the frame's map is kept, the new abstract heap is held -/
theorem Inv.step {g' : Array GenState} {t' : Nat} {d' : Drawn} {ch : List Addr} (I : Inv X pins σ H s)
    (hch : ∀ b ∈ ch, (b ∈ X.ex ∨ X.s_0.heap.objs.size ≤ b) ∧ b ≠ X.env.locals ∧ (∀ x c, X.env.cells.lookup x = some c → c ≠ b) ∧ ∀ p ∈ X.pn ++ pins, p.1 ≠ b)
    (keep : ∀ b o, b ≠ X.env.locals → b ∉ X.fs → b ∉ ch → s.heap.get? b = some o → H b = none → h'.get? b = some o)
    (slot : ∀ b o, b ≠ X.env.locals → b ∈ X.fs → b ∉ ch → s.heap.get? b = some o → H b = none → ∃ sl, h'.get? b = some { o with slots := sl }) (free : ∀ b o, b ∉ ch → s.heap.get? b = some o → H b = none → H' b = none)
    (there : ∀ b o, b ∉ ch → s.heap.get? b = some o → ∃ o', h'.get? b = some o')
    (tups : ∀ b xs, H b = some (.tup xs) → H' b = some (.tup xs)) (frzs : ∀ b o u, H b = some (.frz o u) → H' b = some (.frz o u)) (tbls : ∀ b ps, H b = some (.tbl ps) → ∃ more, H' b = some (.tbl (ps ++ more)))
    (ns : ∀ m, s.heap.Ns X.env.locals m → h'.Ns X.env.locals m) (hok : HOk X.prog X.w H' h') (hg : X.gp g' d') :
    Inv X pins σ H' { s with heap := h', gens := g', drawn := d', toks := t' } := by
  have neL : ∀ b o, X.s_0.heap.get? b = some o → b ≠ X.env.locals := fun b o e => Nat.ne_of_lt (Nat.lt_of_lt_of_le (Heap.lt_size e) I.ok.above)
  have neC : ∀ b o, X.s_0.heap.get? b = some o → b ∉ X.ex → b ∉ ch := fun b o e hx hb => by
    rcases (hch b hb).1 with z | z
    · exact hx z
    · exact absurd (Nat.lt_of_lt_of_le (Heap.lt_size e) z) (Nat.lt_irrefl _)
  have cellK : ∀ x c, X.env.cells.lookup x = some c → ∀ v, s.heap.IsCell c v → h'.IsCell c v := fun x c e v ⟨o, ho, hd⟩ => by
    have nch : c ∉ ch := fun z => (hch c z).2.2.1 x c e rfl
    by_cases hc : c ∈ X.fs
    · obtain ⟨sl, q⟩ := slot c o (I.cne x c e) hc nch ho (I.freeC x c e)
      exact ⟨_, q, hd⟩
    · exact ⟨o, keep c o (I.cne x c e) hc nch ho (I.freeC x c e), hd⟩
  refine ⟨I.ok, I.os, hg, ⟨fun b o e n hb hx => ?_, fun b o e n hb hx => ?_, fun b o e n hx => ?_, fun b o e hx => ?_, fun b xs e => tups b xs (I.base.tups b xs e), fun b o xs e => frzs b o xs (I.base.frzs b o xs e), fun b ps e => ?_⟩, ?_, fun x c e => ?_, ?_, fun x c e => ?_, fun p hp => ?_, hok, I.len⟩
  · exact keep b o (neL b o e) hb (neC b o e hx) (I.base.keep b o e n hb hx) (I.base.free b o e n hx)
  · obtain ⟨sl, e1⟩ := I.base.slot b o e n hb hx
    obtain ⟨sl', e2⟩ := slot b _ (neL b o e) hb (neC b o e hx) e1 (I.base.free b o e n hx)
    exact ⟨sl', e2⟩
  · obtain ⟨o', e1⟩ := I.base.there b o e hx
    exact free b o' (neC b o e hx) e1 (I.base.free b o e n hx)
  · obtain ⟨o', e1⟩ := I.base.there b o e hx
    exact there b o' (neC b o e hx) e1
  · obtain ⟨m1, e1⟩ := I.base.tbls b ps e
    obtain ⟨m2, e2⟩ := tbls b _ e1
    exact ⟨m1 ++ m2, by rw [e2, Array.append_assoc]⟩
  · obtain ⟨m, hn, hl⟩ := I.loc
    refine ⟨m, ns m hn, fun i x v e1 e2 e3 => ?_⟩
    obtain ⟨u, r, l⟩ := hl i x v e1 e2 e3
    refine ⟨u, r, ?_⟩
    rcases l with l | ⟨k, c, e, z⟩
    · exact .inl l
    · exact .inr ⟨k, c, e, cellK x c e _ z⟩
  · obtain ⟨v, z⟩ := I.cell x c e
    exact ⟨v, cellK x c e v z⟩
  · obtain ⟨m, ⟨o, _, _, ho, _⟩, _⟩ := I.loc
    exact free _ o (fun z => (hch _ z).2.1 rfl) ho I.free
  · obtain ⟨v, o, ho, hd⟩ := I.cell x c e
    exact free c o (fun z => (hch c z).2.2.1 x c e rfl) ho (I.freeC x c e)
  · obtain ⟨e, n, ne, nf, d⟩ := I.pin p hp
    have nch : p.1 ∉ ch := fun z => (hch p.1 z).2.2.2 p hp rfl
    exact ⟨keep p.1 p.2 ne nf nch e n, free p.1 p.2 nch e n, ne, nf, d⟩
/-- .. where the frame's own object is kept too -/
theorem Inv.un {t' : Nat} (I : Inv X pins σ H s) (u : Un X.fs [] H H' s.heap h') (hok : HOk X.prog X.w H' h') : Inv X pins σ H' { s with heap := h', toks := t' } := by
  obtain ⟨m, ⟨o, es, ep, ho, r⟩, _⟩ := id I.loc
  obtain ⟨sl, hL⟩ := u.any ho I.free (by simp)
  exact I.step (g' := s.gens) (d' := s.drawn) (ch := []) (fun _ z => nomatch z) (fun b o _ hb _ e n => u.keep b o e n hb (by simp)) (fun b o _ hb _ e n => u.slot b o e n hb (by simp)) (fun b o _ e n => u.free b o e n (by simp)) (fun b o _ e => u.there b o e (by simp)) u.tups u.frzs u.tbls (fun m' hm => by
    obtain ⟨o', es', ep', ho', r'⟩ := hm
    rw [ho] at ho'; cases ho'
    exact ⟨_, es', ep', hL, r'⟩) hok I.bare
/-- behind a call (or a comprehension's block): the slots of this frame may have changed too, the records at ch may have turned -/
theorem Inv.call {g' : Array GenState} {t' : Nat} {d' : Drawn} {ch : List Addr} (I : Inv X pins σ H s) (u : Un (frs X.stack) ch H H' s.heap h') (hok : HOk X.prog X.w H' h') (hg : X.gp g' d')
    (hch : ∀ b ∈ ch, (b ∈ X.ex ∨ X.s_0.heap.objs.size ≤ b) ∧ b ≠ X.env.locals ∧ (∀ x c, X.env.cells.lookup x = some c → c ≠ b) ∧ ∀ p ∈ X.pn ++ pins, p.1 ≠ b) :
    Inv X pins σ H' { s with heap := h', gens := g', drawn := d', toks := t' } := by
  obtain ⟨m, ⟨o, es, ep, ho, r⟩, _⟩ := id I.loc
  obtain ⟨sl, hL⟩ := u.any ho I.free fun z => (hch _ z).2.1 rfl
  exact I.step (ch := ch) hch (fun b o hL hb hc e n => u.keep b o e n (fun z => (List.mem_cons.mp (I.stkSub b z)).elim hL hb) hc) (fun b o _ _ hc e n => u.any e n hc) (fun b o hc e n => u.free b o e n hc) (fun b o hc e => u.there b o e hc) u.tups u.frzs u.tbls (fun m' hm => by
    obtain ⟨o', es', ep', ho', r'⟩ := hm
    rw [ho] at ho'; cases ho'
    exact ⟨_, es', ep', hL, r'⟩) hok hg
/-- an untracked record of ours (an iterator) has turned -/
theorem Inv.turned {t' : Nat} {it : Addr} (I : Inv X pins σ H s) (k : ∀ b o, b ≠ it → s.heap.get? b = some o → h'.get? b = some o) (hn : H it = none) (hL : it ≠ X.env.locals)
    (h1 : it ∈ X.ex ∨ X.s_0.heap.objs.size ≤ it) (h2 : ∀ x c, X.env.cells.lookup x = some c → c ≠ it) (h3 : ∀ p ∈ X.pn ++ pins, p.1 ≠ it) : Inv X pins σ H { s with heap := h', toks := t' } := by
  have nit : ∀ b u, H b = some u → b ≠ it := fun b u e z => by rw [z, hn] at e; cases e
  refine I.step (g' := s.gens) (d' := s.drawn) (ch := [it]) (fun b hb => ?_) (fun b o _ _ hc e _ => k b o (fun z => hc (by simp [z])) e) (fun b o _ _ hc e _ => ⟨o.slots, k b o (fun z => hc (by simp [z])) e⟩) (fun _ _ _ _ n => n)
    (fun b o hc e => ⟨o, k b o (fun z => hc (by simp [z])) e⟩) (fun _ _ e => e) (fun _ _ _ e => e) (fun b ps e => ⟨#[], by rw [e]; simp⟩) (fun m hm => ?_) (fun b u e => ?_) I.bare
  · have e : b = it := by simpa using hb
    subst e
    exact ⟨h1, hL, h2, h3⟩
  · obtain ⟨o, es, ep, ho, r⟩ := hm
    exact ⟨o, es, ep, k _ o (Ne.symm hL) ho, r⟩
  · refine (I.hok b u e).stay (fun c v hc q => k c v ?_ q) (fun _ q => q) fun _ _ q => q
    rcases hc with z | z
    · rw [z]; exact nit b u e
    · exact nit c _ z
theorem Inv.tok (I : Inv X pins σ H s) (t : Nat) : Inv X pins σ H { s with toks := t } := I.un (h' := s.heap) (t' := t) Un.refl I.hok
/-- all objects kept -/
theorem Inv.kept {t' : Nat} (I : Inv X pins σ H s) (k : ∀ b u, s.heap.get? b = some u → h'.get? b = some u) : Inv X pins σ H { s with heap := h', toks := t' } := I.un (Un.kept k) (I.hok.kept k)
/-- a new object laid and tracked -/
theorem Inv.laid {a : Addr} {o : HO} {t' : Nat} (I : Inv X pins σ H s) (k : ∀ b u, s.heap.get? b = some u → h'.get? b = some u) (hp : s.heap.objs.size ≤ a) (new : ObjOk X.prog X.w (upd H a o) h' a o) :
    Inv X pins σ (upd H a o) { s with heap := h', toks := t' } := I.un (Un.laid k hp (I.hok.fresh hp)) (I.hok.laid k hp new)
/-- an object written -/
theorem Inv.write {x e : Addr} {o : HO} {t' : Nat} (I : Inv X pins σ H s) (mu : Mut (H x)) (he : e = x ∨ H e = some (.own x)) (k : ∀ b u, b ≠ e → s.heap.get? b = some u → h'.get? b = some u) (heo : ∃ u, h'.get? e = some u)
    (new : ObjOk X.prog X.w (upd H x o) h' x o) : Inv X pins σ (upd H x o) { s with heap := h', toks := t' } := I.un (Un.write mu he k heo) (I.hok.write mu he k heo new)
/-- forgetting slots, pins -/
theorem Inv.weak {σ' : List (Option V)} (I : Inv X pins σ H s) (hl : σ'.length = σ.length) (w : ∀ (i : Nat) v, σ'[i]? = some (some v) → σ[i]? = some (some v)) : Inv X pins σ' H s :=
  ⟨I.ok, I.os, I.bare, I.base, let ⟨m, hn, hl'⟩ := I.loc; ⟨m, hn, fun i x v e1 e2 e3 => hl' i x v e1 (w i v e2) e3⟩, I.cell, I.free, I.freeC, I.pin, I.hok, hl.trans I.len⟩
theorem Inv.pins_of {pins' : List (Addr × Obj)} (I : Inv X pins σ H s) (h : ∀ p ∈ pins', s.heap.get? p.1 = some p.2 ∧ H p.1 = none ∧ p.1 ≠ X.env.locals ∧ p.1 ∉ X.fs ∧ ∀ v, p.2.data ≠ .cell v) : Inv X pins' σ H s :=
  ⟨I.ok, I.os, I.bare, I.base, I.loc, I.cell, I.free, I.freeC, fun p hp => (List.mem_append.mp hp).elim (fun z => I.pin p (List.mem_append_left _ z)) (h p), I.hok, I.len⟩

theorem nodup_ix {N : List Str} (hN : N.Nodup) {i j : Nat} {x : Str} (a : N[i]? = some x) (b : N[j]? = some x) : i = j := by
  obtain ⟨h1, e1⟩ := List.getElem?_eq_some_iff.mp a
  obtain ⟨h2, e2⟩ := List.getElem?_eq_some_iff.mp b
  exact (List.getElem_inj hN).mp (e1.trans e2.symm)

/-- a name is stored; what changed -/
theorem store_ok2 {M : Model} {A : Around} {E : Value → Shared → Prop} {i : Nat} {x : Str} {v : V} {u : Value} {Q : Unit → Shared → Prop} (I : Inv X pins σ H s) (hN : X.N.Nodup) (hi : X.N[i]? = some x) (hx : Loc X.env.scope x) (r : RelV v u)
    (h : ∀ s', Inv X pins (σ.set i (some v)) H s' → (∃ a, Heap.SameBut a s.heap s'.heap ∧ (a = X.env.locals ∨ X.env.cells.lookup x = some a)) → Q () s') (hf : X.fn x = true ∨ X.env.scope.names.lookup x = some .local := by first | exact .inl rfl | exact .inr rfl | assumption) : wpAny M A (storeName X.env x u) Q E s := by
  obtain ⟨m, hn, hl⟩ := id I.loc
  have hcls : (X.env.scope.kind == .class || (X.env.scope.kind == .module && X.env.locals != X.env.globals)) = false := by rw [I.ok.kind]; rfl
  have hiσ : i < σ.length := by rw [I.len]; exact (List.getElem?_eq_some_iff.mp hi).1
  have cne := I.cne
  have tracked : ∀ {a : Addr} {h' : Heap}, (∃ o, s.heap.get? a = some o ∧ H a = none) → Heap.SameBut a s.heap h' → HOk X.prog X.w H h' := fun {a h'} ha hs b ob e => by
    obtain ⟨_, _, hfree⟩ := ha
    refine (I.hok b ob e).stay (fun c w' hc q => (hs.2 c ?_).trans q) (fun _ q => q) fun _ _ q => q
    rintro rfl
    rcases hc with rfl | hc
    · rw [hfree] at e; cases e
    · rw [hfree] at hc; cases hc
  rcases hx with hk | hk
  · refine wpAny_storeName_local hk hn (fun h' hn' hs => ?_) hcls
    obtain ⟨oL, _, _, hoL, _⟩ := id hn
    refine h _ ⟨I.ok, I.os, I.bare, ⟨fun b o e n hb hx => ?_, fun b o e n hb hx => ?_, I.base.free, fun b o e hx => ?_, I.base.tups, I.base.frzs, I.base.tbls⟩, ⟨_, hn', fun j y v' e1 e2 e3 => ?_⟩, fun y c e => ?_, I.free, I.freeC, fun p hp => ?_, tracked ⟨oL, hoL, I.free⟩ hs, by simpa using I.len⟩ ⟨_, hs, .inl rfl⟩
    · exact (hs.2 b (Nat.ne_of_lt (Nat.lt_of_lt_of_le (Heap.lt_size e) I.ok.above))).trans (I.base.keep b o e n hb hx)
    · obtain ⟨sl, e1⟩ := I.base.slot b o e n hb hx
      exact ⟨sl, (hs.2 b (Nat.ne_of_lt (Nat.lt_of_lt_of_le (Heap.lt_size e) I.ok.above))).trans e1⟩
    · obtain ⟨o', e1⟩ := I.base.there b o e hx
      exact ⟨o', (hs.2 b (Nat.ne_of_lt (Nat.lt_of_lt_of_le (Heap.lt_size e) I.ok.above))).trans e1⟩
    · by_cases hj : j = i
      · subst hj
        rw [hi] at e1; cases e1
        rw [List.getElem?_set_self hiσ] at e2
        cases e2
        exact ⟨u, r, .inl ⟨hk, by simp⟩⟩
      · rw [List.getElem?_set_ne (Ne.symm hj)] at e2
        obtain ⟨u', r', q⟩ := hl j y v' e1 e2 e3
        refine ⟨u', r', ?_⟩
        rcases q with ⟨k, e⟩ | ⟨k, c, e, z⟩
        · refine .inl ⟨k, ?_⟩
          have : y ≠ x := fun e => hj (nodup_ix hN e1 (e ▸ hi))
          simp [this, e]
        · exact .inr ⟨k, c, e, z.sameBut hs (cne y c e)⟩
    · obtain ⟨w', z⟩ := I.cell y c e
      exact ⟨w', z.sameBut hs (cne y c e)⟩
    · obtain ⟨e, n, ne, nf, d⟩ := I.pin p hp
      exact ⟨(hs.2 p.1 ne).trans e, n, ne, nf, d⟩
  · have hfn : X.fn x = true := by
      rcases hf with z | z
      · exact z
      · rw [z] at hk; cases hk
    obtain ⟨c, hc⟩ := I.ok.has x (.inl hk)
    obtain ⟨w', z⟩ := I.cell x c hc
    refine wpAny_storeName_cell I.ok.kind hk hc z (fun h' hc' hs => ?_)
    obtain ⟨oc, hoc, hocd⟩ := id z
    refine h { s with heap := h' } ⟨I.ok, I.os, I.bare, ⟨fun b o e n hb hx => ?_, fun b o e n hb hx => ?_, I.base.free, fun b o e hx => ?_, I.base.tups, I.base.frzs, I.base.tbls⟩, ⟨m, hn.sameBut hs (Ne.symm (cne x c hc)), fun j y v' e1 e2 e3 => ?_⟩, fun y c' e => ?_, I.free, I.freeC, fun p hp => ?_, tracked ⟨oc, hoc, I.freeC x c hc⟩ hs, by simpa using I.len⟩ ⟨c, hs, .inr hc⟩
    · exact (hs.2 b (Nat.ne_of_lt (Nat.lt_of_lt_of_le (Heap.lt_size e) (I.ok.cab x c hfn hc)))).trans (I.base.keep b o e n hb hx)
    · obtain ⟨sl, e1⟩ := I.base.slot b o e n hb hx
      exact ⟨sl, (hs.2 b (Nat.ne_of_lt (Nat.lt_of_lt_of_le (Heap.lt_size e) (I.ok.cab x c hfn hc)))).trans e1⟩
    · obtain ⟨o', e1⟩ := I.base.there b o e hx
      exact ⟨o', (hs.2 b (Nat.ne_of_lt (Nat.lt_of_lt_of_le (Heap.lt_size e) (I.ok.cab x c hfn hc)))).trans e1⟩
    · by_cases hj : j = i
      · subst hj
        rw [hi] at e1; cases e1
        rw [List.getElem?_set_self hiσ] at e2
        cases e2
        exact ⟨u, r, .inr ⟨.inl hk, c, hc, hc'⟩⟩
      · rw [List.getElem?_set_ne (Ne.symm hj)] at e2
        obtain ⟨u', r', q⟩ := hl j y v' e1 e2 e3
        refine ⟨u', r', ?_⟩
        rcases q with q | ⟨k, c', e, z'⟩
        · exact .inl q
        · refine .inr ⟨k, c', e, z'.sameBut hs ?_⟩
          rintro rfl
          exact hj (nodup_ix hN e1 (I.ok.inj _ _ _ e hc ▸ hi))
    · by_cases hcc : c' = c
      · subst hcc; exact ⟨_, hc'⟩
      · obtain ⟨w2, z2⟩ := I.cell y c' e
        exact ⟨w2, z2.sameBut hs hcc⟩
    · obtain ⟨e, n, ne, nf, d⟩ := I.pin p hp
      refine ⟨(hs.2 p.1 ?_).trans e, n, ne, nf, d⟩
      intro q
      rw [q, hoc] at e
      have q' : oc = p.2 := Option.some.inj e
      exact d w' (by rw [← q']; exact hocd)
theorem store_ok {M : Model} {A : Around} {E : Value → Shared → Prop} {i : Nat} {x : Str} {v : V} {u : Value} {Q : Unit → Shared → Prop} (I : Inv X pins σ H s) (hN : X.N.Nodup) (hi : X.N[i]? = some x) (hx : Loc X.env.scope x) (r : RelV v u)
    (h : ∀ s', Inv X pins (σ.set i (some v)) H s' → Q () s') (hf : X.fn x = true ∨ X.env.scope.names.lookup x = some .local := by first | exact .inl rfl | exact .inr rfl | assumption) : wpAny M A (storeName X.env x u) Q E s :=
  store_ok2 I hN hi hx r (fun s' I' _ => h s' I') hf
/-- behind a call or a block, the state as it is -/
theorem Inv.call' {s' : Shared} {ch : List Addr} (I : Inv X pins σ H s) (ho : s'.os = s.os) (u : Un (frs X.stack) ch H H' s.heap s'.heap) (hok : HOk X.prog X.w H' s'.heap) (hg : X.gp s'.gens s'.drawn)
    (hch : ∀ b ∈ ch, (b ∈ X.ex ∨ X.s_0.heap.objs.size ≤ b) ∧ b ≠ X.env.locals ∧ (∀ x c, X.env.cells.lookup x = some c → c ≠ b) ∧ ∀ p ∈ X.pn ++ pins, p.1 ≠ b) : Inv X pins σ H' s' := by
  obtain ⟨h', g', d', t', o'⟩ := s'
  have e : o' = s.os := ho
  subst e
  exact I.call (g' := g') (t' := t') (d' := d') u hok hg hch
end
/-- an exception: its class, its own dict's address (where it has one), the abstract heap behind it -/
abbrev XK := Value → Option Addr → Hp → Prop
abbrev St := List (Option V)
abbrev VK := V → Hp → Prop
/-- an expression's reading; a test's; an argument list's -/
abbrev TE := St → Hp → VK → Prop
abbrev TT := St → Hp → (Bool → Hp → Prop) → Prop
abbrev TA := St → Hp → (List V → Hp → Prop) → Prop
/-- what is wanted behind a statement -/
structure Ends where
  nx : St → Hp → Prop
  rt : VK
  bk : St → Hp → Prop := fun _ _ => False
  ct : St → Hp → Prop := fun _ _ => False
abbrev TS := Ends → St → Hp → Prop

def EP (X : Cx) (pins : List (Addr × Obj)) (σ : St) (Q : VK) (u : Value) (s' : Shared) : Prop := ∃ v H', Inv X pins σ H' s' ∧ RelV v u ∧ Q v H'
def TP (X : Cx) (pins : List (Addr × Obj)) (σ : St) (Q : Bool → Hp → Prop) (b : Bool) (s' : Shared) : Prop := ∃ H', Inv X pins σ H' s' ∧ Q b H'
def AP (X : Cx) (pins : List (Addr × Obj)) (σ : St) (Q : List V → Hp → Prop) (us : List Value) (s' : Shared) : Prop := ∃ vs H', Inv X pins σ H' s' ∧ Vals vs us ∧ Q vs H'
def SP (X : Cx) (pins : List (Addr × Obj)) (D : Ends) (f : Flow) (s' : Shared) : Prop :=
  match f with
  | .next => ∃ σ' H', Inv X pins σ' H' s' ∧ D.nx σ' H'
  | .brk => ∃ σ' H', Inv X pins σ' H' s' ∧ D.bk σ' H'
  | .cont => ∃ σ' H', Inv X pins σ' H' s' ∧ D.ct σ' H'
  | .ret u => ∃ v σ' H', Inv X pins σ' H' s' ∧ RelV v u ∧ D.rt v H'

def PE (X : Cx) (e : Expr) (t : TE) : Prop :=
  ∀ (pins : List (Addr × Obj)) (s : Shared) (σ : St) (H : Hp) (Q : VK), Inv X pins σ H s → t σ H Q → wpAny (model X.prog X.w) X.A (eval e X.env) (EP X pins σ Q) X.xe s
def PT (X : Cx) (e : Expr) (t : TT) : Prop :=
  ∀ (pins : List (Addr × Obj)) (s : Shared) (σ : St) (H : Hp) (Q : Bool → Hp → Prop), Inv X pins σ H s → t σ H Q → wpAny (model X.prog X.w) X.A (isTrue e X.env (eval e X.env)) (TP X pins σ Q) X.xe s
/-- a test whatever its 'whole' is (and, or) -/
def PW (X : Cx) (e : Expr) (t : TT) : Prop :=
  ∀ (whole : Sem Value) (pins : List (Addr × Obj)) (s : Shared) (σ : St) (H : Hp) (Q : Bool → Hp → Prop), Inv X pins σ H s → t σ H Q → wpAny (model X.prog X.w) X.A (isTrue e X.env whole) (TP X pins σ Q) X.xe s
theorem PW.pt {X : Cx} {e : Expr} {t : TT} (h : PW X e t) : PT X e t := h _
/-- an argument list (no star), from the left -/
def PA (X : Cx) (es : List Expr) (t : TA) : Prop :=
  ∀ (pos : Pos) (pins : List (Addr × Obj)) (s : Shared) (σ : St) (H : Hp) (Q : List V → Hp → Prop), Inv X pins σ H s → t σ H Q → wpAny (model X.prog X.w) X.A (spliced (backTo pos (starEach es X.env))) (AP X pins σ Q) X.xe s
def PS (X : Cx) (st : Stmt) (t : TS) : Prop :=
  ∀ (pins : List (Addr × Obj)) (s : Shared) (σ : St) (H : Hp) (D : Ends), Inv X pins σ H s → t D σ H → wpAny (model X.prog X.w) X.A (exec st X.env) (SP X pins D) X.xe s
def PSs (X : Cx) (st : List Stmt) (t : TS) : Prop :=
  ∀ (pins : List (Addr × Obj)) (s : Shared) (σ : St) (H : Hp) (D : Ends), Inv X pins σ H s → t D σ H → wpAny (model X.prog X.w) X.A (execs st X.env) (SP X pins D) X.xe s
/-- weaken the end -/
theorem thn {α : Type} {t : Sem α} {Q Q' : α → Shared → Prop} {M : Model} {A : Around} {E : Value → Shared → Prop} {s : Shared} (h : wpAny M A t Q E s) (hQ : ∀ a s, Q a s → Q' a s) : wpAny M A t Q' E s := wpAny_mono h hQ fun _ _ x => x
end L2
namespace L2
open PySem PySem.Spec PyProof.Rows
section
variable {X : Cx}
def tVar (i : Nat) : TE := fun σ H Q => ∃ v, σ[i]? = some (some v) ∧ Q v H
def tC (v : V) : TE := fun _ H Q => Q v H
theorem pe_var {i : Nat} {x : Str} {pos : Pos} (hN : X.N[i]? = some x) (hv : Vis X.env.scope x) (hd : (x == ("__debug__" : Str)) = false := by decide) (hcd : (x == ("__classdict__" : Str)) = false := by decide) : PE X (.Name x pos) (tVar i) := by
  intro pins s σ H Q I h
  obtain ⟨v, e, h⟩ := h
  obtain ⟨m, hn, hl⟩ := I.loc
  obtain ⟨u, r, l⟩ := hl i x v hN e hv
  have fin : EP X pins σ Q u s := ⟨v, H, I, r, h⟩
  rcases l with ⟨hk, hm⟩ | ⟨hk, c, hc, hcell⟩
  · exact wpAny_Name (wpAny_loadName_local I.ok.kind hk hn hm fin) hd
  · rcases hk with hk | hk
    · exact wpAny_Name (wpAny_loadName_cell I.ok.kind hk hc hcell fin) hd
    · exact wpAny_Name (wpAny_loadName_free I.ok.kind hk hc hcell fin hcd) hd
theorem pe_int {i j pos} : PE X (.Constant (.int i) j pos) (tC (.int i)) := fun _ _ _ H _ I h => wpAny_Constant_int ⟨.int i, H, I.tok _, ⟨_, rfl⟩, h⟩
theorem pe_bl {b j pos} : PE X (.Constant (.bool b) j pos) (tC (.bl b)) := fun _ _ _ H _ I h => Constant_bool ⟨.bl b, H, I, rfl, h⟩
theorem pe_non {j pos} : PE X (.Constant .none j pos) (tC .non) := fun _ _ _ H _ I h => Constant_none ⟨.non, H, I, rfl, h⟩
theorem pe_str {x j pos} : PE X (.Constant (.str x) j pos) (tC (.str x)) := fun _ _ _ H _ I h => Calls.Constant_str ⟨.str x, H, I.tok _, ⟨_, rfl⟩, h⟩

/-- a global name of the def -/
def Gl (X : Cx) (x : Str) : Prop := X.env.kindOf x = some .globalImplicit
theorem ld_glob {E : Value → Shared → Prop} {pins : List (Addr × Obj)} {s : Shared} {σ : St} {H : Hp} {x : Str} {u : Value} {pos : Pos} {Q : Value → Shared → Prop} (I : Inv X pins σ H s) (hg : Gl X x) (hm : X.mg x = some u) (h : Q u s)
    (hd : (x == ("__debug__" : Str)) = false := by decide) : wpAny (model X.prog X.w) X.A (eval (.Name x pos) X.env) Q E s :=
  Calls.Name_function_global I.ok.kind hg (Calls.loadGlobal_global (by rw [I.ok.glob]; exact I.mod.glob.keeps I.bk) hm h) hd
theorem ld_blt {E : Value → Shared → Prop} {pins : List (Addr × Obj)} {s : Shared} {σ : St} {H : Hp} {x : Str} {u : Value} {pos : Pos} {Q : Value → Shared → Prop} (I : Inv X pins σ H s) (hg : Gl X x) (hm : X.mg x = none) (hv : bootBuiltins x = some u) (h : Q u s)
    (hn : x ≠ "__name__" := by decide) (hd : (x == ("__debug__" : Str)) = false := by decide) : wpAny (model X.prog X.w) X.A (eval (.Name x pos) X.env) Q E s := by
  obtain ⟨mb, h1, h2⟩ := I.mod.blt
  exact Calls.Name_function_global I.ok.kind hg (Calls.loadGlobal_builtin (by rw [I.ok.glob]; exact I.mod.glob.keeps I.bk) hm (by rw [I.ok.blt]; exact h1.keeps I.bk) ((h2 x hn).trans hv) h) hd
/-- a module's constant, a class, a function, as a value -/
theorem pe_glob {x : Str} {v : V} {u : Value} {pos : Pos} (hg : Gl X x) (hm : X.mg x = some u) (r : RelV v u) (hd : (x == ("__debug__" : Str)) = false := by decide) : PE X (.Name x pos) (tC v) :=
  fun _ _ _ H _ I h => ld_glob I hg hm ⟨v, H, I, r, h⟩ hd
theorem pe_bltn {x : Str} {v : V} {u : Value} {pos : Pos} (hg : Gl X x) (hm : X.mg x = none) (hv : bootBuiltins x = some u) (r : RelV v u) (hn : x ≠ "__name__" := by decide) (hd : (x == ("__debug__" : Str)) = false := by decide) : PE X (.Name x pos) (tC v) :=
  fun _ _ _ H _ I h => ld_blt I hg hm hv ⟨v, H, I, r, h⟩ hn hd

/-- two ints -/
def t2I (ta tb : TE) (k : Int → Int → Hp → Prop) : St → Hp → Prop := fun σ H => ta σ H fun x H1 => tb σ H1 fun y H2 => ∃ i j, x = .int i ∧ y = .int j ∧ k i j H2
def tAdd (ta tb : TE) : TE := fun σ H Q => t2I ta tb (fun i j H2 => Q (.int (i + j)) H2) σ H
variable {a b : Expr} {ta tb : TE} {pos : Pos}
/-- a comparison as a value, as a test -/
def tB (t : TE) : TT := fun σ H Q => t σ H fun x H1 => ∃ c, x = .bl c ∧ Q c H1
/-- an expression whose value is a bool, as a test -/
theorem pt_val {e : Expr} {t : TE} (h : PE X e t) (he : ∀ whole, isTrue e X.env whole = (do let v ← whole; standAt e.pos; holding [v] (truthy v)) := by intro _; rfl) : PT X e (tB t) := by
  intro pins s σ H Q I hw
  refine isTrue_plain (thn (h pins s σ H _ I hw) fun v s1 ⟨x, H1, I1, r1, q1⟩ => ?_) (he _)
  obtain ⟨d, rfl, q⟩ := q1
  cases r1
  exact wpAny_truthy_bool ⟨H1, I1, q⟩

variable {tA tB' : TT} {rest : List Expr}
def tOr (t u : TT) : TT := fun σ H Q => t σ H fun c H1 => if c = true then Q true H1 else u σ H1 Q
def tNot (t : TT) : TT := fun σ H Q => t σ H fun c H1 => Q (!c) H1
theorem pw_or1 (ha : PT X a tA) : PW X (.BoolOp .Or [a] pos) tA := by
  intro wh pins s σ H Q I h
  refine isTrue_or (thn (ha pins s σ H Q I h) fun c s1 e => ?_)
  cases c with
  | false => exact isTrue_or_nil e
  | true => exact e
theorem pw_or (ha : PT X a tA) (hb : PW X (.BoolOp .Or (b :: rest) pos) tB') : PW X (.BoolOp .Or (a :: b :: rest) pos) (tOr tA tB') := by
  intro wh pins s σ H Q I h
  refine isTrue_or (thn (ha pins s σ H _ I h) fun c s1 ⟨H1, I1, q1⟩ => ?_)
  cases c with
  | true => exact ⟨H1, I1, q1⟩
  | false => exact hb wh pins s1 σ H1 Q I1 q1
theorem pt_not (ha : PT X a tA) : PT X (.UnaryOp .Not a pos) (tNot tA) := by
  intro pins s σ H Q I h
  exact isTrue_not (ha pins s σ H (fun c H1 => Q (!c) H1) I h)
/-- .. as values (bools) -/
def tAndV (ta tb : TE) : TE := fun σ H Q => ta σ H fun x H1 => ∃ c, x = .bl c ∧ if c = true then tb σ H1 Q else Q (.bl false) H1
def tOrV (ta tb : TE) : TE := fun σ H Q => ta σ H fun x H1 => ∃ c, x = .bl c ∧ if c = true then Q (.bl true) H1 else tb σ H1 Q
def tNotV (ta : TE) : TE := fun σ H Q => ta σ H fun x H1 => ∃ c, x = .bl c ∧ Q (.bl (!c)) H1
theorem pe_one {op} {t : TE} (h : PE X a t) : PE X (.BoolOp op [a] pos) t := fun pins s σ H Q I hw => BoolOp_one (h pins s σ H Q I hw)
theorem pe_and (ha : PE X a ta) (hb : PE X (.BoolOp .And (b :: rest) pos) tb) : PE X (.BoolOp .And (a :: b :: rest) pos) (tAndV ta tb) := by
  intro pins s σ H Q I h
  refine BoolOp_and (thn (ha pins s σ H _ I h) fun v s1 ⟨x, H1, I1, r1, q1⟩ => ?_)
  obtain ⟨c, rfl, q1⟩ := q1
  cases r1
  refine wpAny_truthy_bool ?_
  cases c with
  | true => exact hb pins s1 σ H1 Q I1 q1
  | false => exact ⟨.bl false, H1, I1, rfl, q1⟩
theorem pe_or (ha : PE X a ta) (hb : PE X (.BoolOp .Or (b :: rest) pos) tb) : PE X (.BoolOp .Or (a :: b :: rest) pos) (tOrV ta tb) := by
  intro pins s σ H Q I h
  refine BoolOp_or (thn (ha pins s σ H _ I h) fun v s1 ⟨x, H1, I1, r1, q1⟩ => ?_)
  obtain ⟨c, rfl, q1⟩ := q1
  cases r1
  refine wpAny_truthy_bool ?_
  cases c with
  | false => exact hb pins s1 σ H1 Q I1 q1
  | true => exact ⟨.bl true, H1, I1, rfl, q1⟩
theorem pe_not (ha : PE X a ta) : PE X (.UnaryOp .Not a pos) (tNotV ta) := by
  intro pins s σ H Q I h
  refine UnaryOp_ (thn (ha pins s σ H _ I h) fun v s1 ⟨x, H1, I1, r1, q1⟩ => ?_)
  obtain ⟨c, rfl, q1⟩ := q1
  cases r1
  exact not_of (wpAny_truthy_bool ⟨.bl (!c), H1, I1, rfl, q1⟩)
/-- a if t else b -/
def tIf (t : TT) (ta tb : TE) : TE := fun σ H Q => t σ H fun c H1 => if c = true then ta σ H1 Q else tb σ H1 Q
theorem pe_ifExp {c : Expr} (hc : PT X c tA) (ha : PE X a ta) (hb : PE X b tb) : PE X (.IfExp c a b pos) (tIf tA ta tb) := by
  intro pins s σ H Q I h
  refine wpAny_IfExp (thn (hc pins s σ H _ I h) fun d s1 ⟨H1, I1, q1⟩ => ?_)
  cases d with
  | true => exact ha pins s1 σ H1 Q I1 q1
  | false => exact hb pins s1 σ H1 Q I1 q1
end
end L2
namespace L2
open PySem PySem.Spec PyProof.Rows
def SqL (K : PySem.W.Frag) (H : Hp) (a : Addr) (xs : List V) : Prop :=
  Rd H a (.lst xs) ∨
    ∃ (o : Obj) (its : Array Value) (n : Nat), K.lookup a = some o ∧ o.cls = .type "list" ∧ o.dict = none ∧ o.data = .seq its n ∧ its.size ≤ sizeLine ∧ Vals xs its.toList
def SqT (K : PySem.W.Frag) (H : Hp) (a : Addr) (xs : List V) : Prop :=
  Rd H a (.tup xs) ∨
    ∃ (o : Obj) (its : Array Value) (n : Nat), K.lookup a = some o ∧ o.cls = .type "tuple" ∧ o.data = .seq its n ∧ its.size ≤ sizeLine ∧ Vals xs its.toList
def absV : Value → Option V
  | .none => some .non
  | .bool b => some (.bl b)
  | .int i _ => some (.int i)
  | .str x _ => some (.str x)
  | .bytes b _ => some (.byt b)
  | .float b _ => some (.flt b)
  | .ref a => some (.ref a)
  | .type n => some (.ty n)
  | _ => none
theorem RelV.abs {x : V} {u : Value} (r : RelV x u) : absV u = some x := by
  cases x with
  | non => cases r; rfl
  | bl _ => cases r; rfl
  | int _ => obtain ⟨t, rfl⟩ := r; rfl
  | str _ => obtain ⟨t, rfl⟩ := r; rfl
  | byt _ => obtain ⟨t, rfl⟩ := r; rfl
  | flt _ => obtain ⟨t, rfl⟩ := r; rfl
  | ref _ => cases r; rfl
  | ty _ => cases r; rfl
theorem RelV.inj {x y : V} {u : Value} (r : RelV x u) (q : RelV y u) : x = y := Option.some.inj (r.abs.symm.trans q.abs)
theorem Vals.inj : ∀ {xs ys : List V} {us : List Value}, Vals xs us → Vals ys us → xs = ys
  | _, _, _, .nil, .nil => rfl
  | _, _, _, .cons r t, .cons r' t' => by rw [r.inj r', Vals.inj t t']
section
variable {X : Cx} {pins : List (Addr × Obj)} {σ : St} {H : Hp} {s : Shared} {a : Addr} {xs ys : List V}
theorem SqL.of {K : PySem.W.Frag} (h : H a = some (.lst xs)) : SqL K H a xs := .inl (.inl h)
theorem SqT.of {K : PySem.W.Frag} (h : H a = some (.tup xs)) : SqT K H a xs := .inl (.inl h)
theorem Inv.list (I : Inv X pins σ H s) (h : SqL X.K H a xs) : ∃ its : List Value, Vals xs its ∧ PlainL s.heap a its.toArray ∧ xs.length ≤ sizeLine := by
  rcases h with h | ⟨o, its, n, hk, hc, hd, hs, hz, r⟩
  · obtain ⟨z, its, n, r, e⟩ := h.ok I.hok
    exact ⟨its, r, ⟨_, n, e, rfl, rfl, rfl⟩, z⟩
  · refine ⟨its.toList, r, ⟨o, n, I.kIn a o hk, hc, hd, by simpa using hs⟩, ?_⟩
    have e := r.length
    simp only [Array.length_toList] at e
    omega
theorem Inv.tuple (I : Inv X pins σ H s) (h : SqT X.K H a xs) : ∃ its : List Value, Vals xs its ∧ IsTup s.heap a its.toArray ∧ xs.length ≤ sizeLine := by
  rcases h with h | ⟨o, its, n, hk, hc, hs, hz, r⟩
  · obtain ⟨z, its, r, p⟩ := h.ok I.hok
    exact ⟨its, r, p, z⟩
  · refine ⟨its.toList, r, ⟨o, I.kIn a o hk, hc, n, by simpa using hs⟩, ?_⟩
    have e := r.length
    simp only [Array.length_toList] at e
    omega
theorem Inv.list_inj (I : Inv X pins σ H s) (h : SqL X.K H a xs) (h' : SqL X.K H a ys) : xs = ys := by
  obtain ⟨its, r, ⟨o, n, e, _, _, d⟩, _⟩ := I.list h
  obtain ⟨its', r', ⟨o', n', e', _, _, d'⟩, _⟩ := I.list h'
  rw [e] at e'; cases e'
  rw [d] at d'
  injection d' with d1 _
  have : its = its' := by simpa using congrArg Array.toList d1
  subst this
  exact r.inj r'
theorem Inv.tuple_inj (I : Inv X pins σ H s) (h : SqT X.K H a xs) (h' : SqT X.K H a ys) : xs = ys := by
  obtain ⟨its, r, ⟨o, e, _, n, d⟩, _⟩ := I.tuple h
  obtain ⟨its', r', ⟨o', e', _, n', d'⟩, _⟩ := I.tuple h'
  rw [e] at e'; cases e'
  rw [d] at d'
  injection d' with d1 _
  have : its = its' := by simpa using congrArg Array.toList d1
  subst this
  exact r.inj r'
end
abbrev Cx.wish (X : Cx) (E : Value → Shared → Prop) : Cx := { X with xe := E }
/-- no exception leaves -/
abbrev Cx.nox (X : Cx) : Cx := X.wish fun _ _ => False
theorem Cx.Ok.wish {X : Cx} (ok : X.Ok) (E : Value → Shared → Prop) : (X.wish E).Ok :=
  ⟨ok.mod, ok.kind, ok.glob, ok.blt, ok.above, ok.inj, ok.has, ok.cab, ok.hd, ok.frames, ok.stk, ok.exf, ok.bs, ok.bsz, ok.noex, ok.exfs, ok.funs, ok.frf⟩
theorem Cx.Ok.unwish {X : Cx} {E : Value → Shared → Prop} (ok : (X.wish E).Ok) : X.Ok :=
  ⟨ok.mod, ok.kind, ok.glob, ok.blt, ok.above, ok.inj, ok.has, ok.cab, ok.hd, ok.frames, ok.stk, ok.exf, ok.bs, ok.bsz, ok.noex, ok.exfs, ok.funs, ok.frf⟩
section
variable {X : Cx} {pins : List (Addr × Obj)} {σ : St} {H : Hp} {s : Shared} {E : Value → Shared → Prop}
theorem Inv.wish (I : Inv X pins σ H s) (E : Value → Shared → Prop) : Inv (X.wish E) pins σ H s := ⟨I.ok.wish E, I.os, I.bare, I.base, I.loc, I.cell, I.free, I.freeC, I.pin, I.hok, I.len⟩
theorem Inv.unwish (I : Inv (X.wish E) pins σ H s) : Inv X pins σ H s := ⟨I.ok.unwish, I.os, I.bare, I.base, I.loc, I.cell, I.free, I.freeC, I.pin, I.hok, I.len⟩
theorem SP.unwish {D : Ends} {f : Flow} {s' : Shared} (h : SP (X.wish E) pins D f s') : SP X pins D f s' := by
  cases f with
  | next => obtain ⟨σ', H', I, q⟩ := h; exact ⟨σ', H', I.unwish, q⟩
  | brk => obtain ⟨σ', H', I, q⟩ := h; exact ⟨σ', H', I.unwish, q⟩
  | cont => obtain ⟨σ', H', I, q⟩ := h; exact ⟨σ', H', I.unwish, q⟩
  | ret u => obtain ⟨v, σ', H', I, r, q⟩ := h; exact ⟨v, σ', H', I.unwish, r, q⟩
theorem PE.nox {e : Expr} {t : TE} (h : PE X.nox e t) : PE X e t := fun pins s σ H Q I hw =>
  wpAny_mono (h pins s σ H Q (I.wish _) hw) (fun _ _ ⟨v, H', I', r, q⟩ => ⟨v, H', I'.unwish, r, q⟩) fun _ _ z => False.elim z
theorem PT.nox {e : Expr} {t : TT} (h : PT X.nox e t) : PT X e t := fun pins s σ H Q I hw =>
  wpAny_mono (h pins s σ H Q (I.wish _) hw) (fun _ _ ⟨H', I', q⟩ => ⟨H', I'.unwish, q⟩) fun _ _ z => False.elim z
theorem PSs.nox {st : List Stmt} {t : TS} (h : PSs X.nox st t) : PSs X st t := fun pins s σ H D I hw =>
  wpAny_mono (h pins s σ H D (I.wish _) hw) (fun _ _ q => q.unwish) fun _ _ z => False.elim z
end
section
variable {X : Cx} {st : Stmt} {rest : List Stmt} {t u : TS} {e : Expr} {te : TE} {pos : Pos}
def tNext : TS := fun D σ H => D.nx σ H
def tSeq (t u : TS) : TS := fun D σ H => t { D with nx := u D } σ H
theorem pss_nil : PSs X [] tNext := fun _ _ σ H _ I h => wpAny_execs_nil ⟨σ, H, I, h⟩
theorem pss_cons (h1 : PS X st t) (h2 : PSs X rest u) : PSs X (st :: rest) (tSeq t u) := by
  intro pins s σ H D I h
  refine wpAny_execs_cons (thn (h1 pins s σ H { D with nx := u D } I h) fun f s1 q => ?_)
  cases f with
  | next =>
    obtain ⟨σ', H', I', q⟩ := q
    exact h2 pins s1 σ' H' D I' q
  | ret v => exact q
  | brk => exact q
  | cont => exact q
theorem pss_one (h1 : PS X st t) : PSs X [st] t := by
  intro pins s σ H D I h
  refine wpAny_execs_cons (thn (h1 pins s σ H D I h) fun f s1 q => ?_)
  cases f with
  | next => exact wpAny_execs_nil q
  | ret v => exact q
  | brk => exact q
  | cont => exact q
/-- in a def's body nothing is shown -/
theorem Inv.quiet {pins : List (Addr × Obj)} {σ : St} {H : Hp} {s : Shared} (I : Inv X pins σ H s) : interactive X.env = false := by simp [interactive, I.ok.kind]
/-- an expression whose value is dropped -/
def tDrop (te : TE) : TS := fun D σ H => te σ H fun _ H1 => D.nx σ H1
theorem ps_expr (he : PE X e te) (hs : swapsWith e none pos.line X.env = pure false := by rfl) : PS X (.Expr e pos) (tDrop te) := by
  intro pins s σ H D I h
  exact wpAny_Expr_any (thn (he pins s σ H _ I h) fun v s1 ⟨x, H1, I1, r1, q1⟩ => ⟨σ, H1, I1, q1⟩) I.quiet hs
def tRet (te : TE) : TS := fun D σ H => te σ H D.rt
theorem ps_ret (he : PE X e te) : PS X (.Return (some e) pos) (tRet te) := by
  intro pins s σ H D I h
  exact wpAny_Return_some (thn (he pins s σ H _ I h) fun v s1 ⟨x, H1, I1, r1, q1⟩ => ⟨x, σ, H1, I1, r1, q1⟩)
def tIfS (c : TT) (t u : TS) : TS := fun D σ H => c σ H fun b H1 => if b = true then t D σ H1 else u D σ H1
theorem ps_if {c : Expr} {a b : List Stmt} {tc : TT} (hc : PT X c tc) (ha : PSs X a t) (hb : PSs X b u) : PS X (.If c a b pos) (tIfS tc t u) := by
  intro pins s σ H D I h
  refine wpAny_If (thn (hc pins s σ H _ I h) fun d s1 ⟨H1, I1, q1⟩ => ?_)
  cases d with
  | true => exact ha pins s1 σ H1 D I1 q1
  | false => exact hb pins s1 σ H1 D I1 q1
/-- code that the proof never comes to -/
def tNever : TS := fun _ _ _ => False
theorem pss_never {sts : List Stmt} : PSs X sts tNever := fun _ _ _ _ _ _ h => h.elim
end
abbrev TG := V → St → Hp → (St → Hp → Prop) → Prop
abbrev TGs := List V → St → Hp → (St → Hp → Prop) → Prop
def PG (X : Cx) (target : Expr) (t : TG) : Prop :=
  ∀ (pins : List (Addr × Obj)) (s : Shared) (σ : St) (H : Hp) (v : V) (u : Value) (Q : St → Hp → Prop), Inv X pins σ H s → RelV v u → t v σ H Q →
    wpAny (model X.prog X.w) X.A (assign target X.env u) (fun _ s' => ∃ σ' H', Inv X pins σ' H' s' ∧ Q σ' H') X.xe s
/-- several targets, one after another -/
def PGs (X : Cx) (ts : List Expr) (t : TGs) : Prop :=
  ∀ (pins : List (Addr × Obj)) (s : Shared) (σ : St) (H : Hp) (vs : List V) (us : List Value) (Q : St → Hp → Prop), Inv X pins σ H s → Vals vs us → t vs σ H Q →
    wpAny (model X.prog X.w) X.A (assignInOrder ((assignEach ts X.env).map (·.2)) us) (fun _ s' => ∃ σ' H', Inv X pins σ' H' s' ∧ Q σ' H') X.xe s
/-- o[i] = v, by values -/
abbrev TSet := V → V → V → Hp → (Hp → Prop) → Prop
def PSet (X : Cx) (t : TSet) : Prop :=
  ∀ (pins : List (Addr × Obj)) (s : Shared) (σ : St) (H : Hp) (o i v : V) (ov iv u : Value) (Q : Hp → Prop), Inv X pins σ H s → RelV o ov → RelV i iv → RelV v u → t o i v H Q →
    wpAny (model X.prog X.w) X.A (setItem ov iv u) (fun _ s' => ∃ H', Inv X pins σ H' s' ∧ Q H') X.xe s
section
variable {X : Cx} {pos : Pos}
def gName (i : Nat) : TG := fun v σ H Q => Q (σ.set i (some v)) H
theorem pg_name {i : Nat} {x : Str} (hN : X.N.Nodup) (hi : X.N[i]? = some x) (hx : Loc X.env.scope x) (hf : X.fn x = true ∨ X.env.scope.names.lookup x = some .local := by first | exact .inl rfl | exact .inr rfl | assumption) : PG X (.Name x pos) (gName i) := by
  intro pins s σ H v u Q I r h
  exact wpAny_assign_Name (store_ok I hN hi hx r (fun s' I' => ⟨_, H, I', h⟩) hf)
def gNil : TGs := fun vs σ H Q => vs = [] ∧ Q σ H
def gCons (t : TG) (u : TGs) : TGs := fun vs σ H Q => ∃ v r, vs = v :: r ∧ t v σ H fun σ' H' => u r σ' H' Q
theorem pgs_nil : PGs X [] gNil := by
  intro pins s σ H vs us Q I r h
  obtain ⟨e, h⟩ := h
  subst e
  cases r
  exact assignInOrder_nil ⟨σ, H, I, h⟩
theorem pgs_cons {e : Expr} {es : List Expr} {t : TG} {u : TGs} (h1 : PG X e t) (h2 : PGs X es u)
    (hs : (assignEach (e :: es) X.env).map (·.2) = assign e X.env :: (assignEach es X.env).map (·.2) := by rfl) : PGs X (e :: es) (gCons t u) := by
  intro pins s σ H vs us Q I r h
  obtain ⟨v, vr, e1, h⟩ := h
  subst e1
  cases r with
  | cons r rr =>
    rw [hs]
    refine assignInOrder_cons (thn (h1 pins s σ H _ _ _ I r h) fun _ s1 ⟨σ1, H1, I1, q1⟩ => ?_)
    exact h2 pins s1 σ1 H1 _ _ Q I1 rr q1
/-- (a, b, ..) = a tuple of that length -/
def gTup (K : PySem.W.Frag) (n : Nat) (t : TGs) : TG := fun v σ H Q => ∃ a xs, v = .ref a ∧ SqT K H a xs ∧ xs.length = n ∧ t xs σ H Q
theorem pg_tup {es : List Expr} {k : Nat} {t : TGs} {n : Nat} (hc : X.calm = true) (h : PGs X es t)
    (hn : (assignEach es X.env).length = n := by rfl) (hst : (assignEach es X.env).findIdx? (·.1) = none := by rfl) : PG X (.Tuple es k pos) (gTup X.K n t) := by
  intro pins s σ H v u Q I r hw
  obtain ⟨a, xs, e1, hq, hl, hw⟩ := hw
  subst e1
  cases r
  obtain ⟨its, rv, ht, hz⟩ := I.tuple hq
  refine assign_Tuple_tuple (I.ok.hd hc) ht (by simp [hn, ← hl, rv.length]) hst fun h' hx => ?_
  have I1 : Inv X pins σ H { s with heap := h' } := I.kept (t' := s.toks) fun b o e => hx b o (Nat.ne_of_lt (Heap.lt_size e)) e
  exact h pins _ σ H xs _ Q I1 (by simpa using rv) hw
/-- o[i] = .. -/
def gSub (to ti : TE) (t : TSet) : TG := fun v σ H Q => to σ H fun o H1 => ti σ H1 fun i H2 => t o i v H2 fun H3 => Q σ H3
theorem pg_sub {o i : Expr} {to ti : TE} {t : TSet} (ho : PE X o to) (hi : PE X i ti) (hs : PSet X t)
    (ha : ∀ v, assign (.Subscript o i pos) X.env v = (do
      let ov ← holding [v] (eval o X.env)
      let iv ← holding [v, ov] (eval i X.env)
      standAt pos
      holding [v, ov, iv] (setItem ov iv v)
      release [v, ov, iv] []) := by intro _; rfl) : PG X (.Subscript o i pos) (gSub to ti t) := by
  intro pins s σ H v u Q I r h
  rw [ha]
  refine wpAny_bind (wpAny_holding (thn (ho pins s σ H _ I h) fun ov s1 ⟨x, H1, I1, r1, q1⟩ => ?_))
  refine wpAny_bind (wpAny_holding (thn (hi pins s1 σ H1 _ I1 q1) fun iv s2 ⟨y, H2, I2, r2, q2⟩ => ?_))
  refine wpAny_bind (wpAny_standAt (wpAny_bind (wpAny_holding (thn (hs pins s2 σ H2 x y v ov iv u _ I2 r1 r2 r q2) fun _ s3 ⟨H3, I3, q3⟩ => ?_))))
  exact wpAny_release ⟨σ, H3, I3, q3⟩
/-- target = value -/
def tAsg (te : TE) (g : TG) : TS := fun D σ H => te σ H fun x H1 => g x σ H1 D.nx
theorem ps_asg {tg e : Expr} {te : TE} {g : TG} (he : PE X e te) (hg : PG X tg g) (hs : swapsWithSole [tg] e pos.line X.env = pure false := by rfl) (hw : swappedStores [tg] e X.env = pure none := by rfl)
    (h1 : (assignEach [tg] X.env).map (·.2) = [assign tg X.env] := by rfl) : PS X (.Assign [tg] e pos) (tAsg te g) := by
  intro pins s σ H D I h
  refine wpAny_Assign_stores (thn (he pins s σ H _ I h) fun v s1 ⟨x, H1, I1, r1, q1⟩ => ?_) hs hw
  rw [h1]
  exact thn (hg pins s1 σ H1 x v _ I1 r1 q1) fun _ s2 q => q
/-- name = value -/
theorem ps_set {i : Nat} {x : Str} {e : Expr} {te : TE} {pos' : Pos} (hN : X.N.Nodup) (hi : X.N[i]? = some x) (hx : Loc X.env.scope x) (he : PE X e te) (hs : swapsWith e (some (.Name x pos')) pos.line X.env = pure false := by rfl) (hf : X.fn x = true ∨ X.env.scope.names.lookup x = some .local := by first | exact .inl rfl | exact .inr rfl | assumption) :
    PS X (.Assign [.Name x pos'] e pos) (tAsg te (gName i)) := by
  intro pins s σ H D I h
  refine wpAny_Assign_Name (thn (he pins s σ H _ I h) fun v s1 ⟨y, H1, I1, r1, q1⟩ => ?_) hs
  exact store_ok I1 hN hi hx r1 (fun s2 I2 => ⟨_, H1, I2, q1⟩) hf
end
section
variable {X : Cx} {pos : Pos}
end
/-- at turn i: it yields x (the heap may grow), or it stops -/
structure It where
  go : Nat → Hp → Prop
  yld : Nat → Hp → V → Hp → Prop
  stop : Nat → Hp → Prop
/-- the iterator's own objects may turn: they are not the frame's, not pinned, younger than the entry (or a comprehension's own) -/
def FpOk (X : Cx) (pins : List (Addr × Obj)) (H : Hp) (b : Addr) : Prop :=
  H b = none ∧ b ≠ X.env.locals ∧ b ∉ X.fs ∧ (b ∈ X.ex ∨ X.s_0.heap.objs.size ≤ b) ∧ (∀ x c, X.env.cells.lookup x = some c → c ≠ b) ∧ ∀ p ∈ X.pn ++ pins, p.1 ≠ b
theorem Inv.fpOk {X : Cx} {pins : List (Addr × Obj)} {σ : St} {H H' : Hp} {s : Shared} {b : Addr} (I : Inv X pins σ H s) (hb : s.heap.objs.size ≤ b) (hn : H' b = none) : FpOk X pins H' b := by
  refine ⟨hn, Nat.ne_of_gt (Nat.lt_of_lt_of_le I.lt hb), I.nofs hb, .inr (Nat.le_trans I.sz hb), fun x c e z => ?_, fun p hp z => ?_⟩
  · obtain ⟨v, q⟩ := I.cell x c e
    exact absurd (Nat.lt_of_lt_of_le q.lt (by rw [z]; exact hb)) (Nat.lt_irrefl _)
  · exact absurd (Nat.lt_of_lt_of_le (Heap.lt_size (I.pin p hp).1) (by rw [z]; exact hb)) (Nat.lt_irrefl _)
structure Turn (P : Program) (w : World) (K : PySem.W.Frag) (tg : Expr) (J : It) (fp : List Addr) (it : Addr) (tn : Nat → Heap → Prop) : Prop where
  mem : it ∈ fp
  obj : ∀ i h, tn i h → ∀ b ∈ fp, ∃ o, h.get? b = some o ∧ ∀ v, o.data ≠ .cell v
  keep : ∀ i h h', tn i h → (∀ b ∈ fp, ∀ o, h.get? b = some o → h'.get? b = some o) → tn i h'
  item : ∀ (X : Cx), X.prog = P → X.w = w → X.K = K → X.calm = true → ∀ (i : Nat) (pins : List (Addr × Obj)) (s : Shared) (σ : St) (H : Hp) (E : Value → Shared → Prop), Inv X pins σ H s → (∀ b ∈ fp, FpOk X pins H b) → tn i s.heap → J.go i H →
    wpAny (model P w) X.A (pyNext (.ref it)) (fun r s1 => ∃ u, r = some u ∧
      wpAny (model P w) X.A (letOwnedTupleGo tg (.ref it) u) (fun _ s2 => ∃ x H', Inv X pins σ H' s2 ∧ RelV x u ∧ J.yld i H x H' ∧ tn (i + 1) s2.heap ∧ ∀ b ∈ fp, H' b = none) E s1) E s
  done : ∀ (X : Cx), X.prog = P → X.w = w → X.K = K → X.calm = true → ∀ (i : Nat) (pins : List (Addr × Obj)) (s : Shared) (σ : St) (H : Hp) (E : Value → Shared → Prop), Inv X pins σ H s → (∀ b ∈ fp, FpOk X pins H b) → tn i s.heap → J.stop i H →
    wpAny (model P w) X.A (pyNext (.ref it)) (fun r s1 => r = none ∧ Inv X pins σ H s1) E s
  self : ∀ (A : Around) (i : Nat) (s : Shared) (Q : Value → Shared → Prop) (E : Value → Shared → Prop), tn i s.heap → Q (.ref it) s → wpAny (model P w) A (pyIter (.ref it)) Q E s
abbrev TI := St → Hp → (It → Hp → Prop) → Prop
/-- an iterator has come -/
def PIE (X : Cx) (pins : List (Addr × Obj)) (σ : St) (tg : Expr) (R : It → Hp → Prop) (itv : Value) (s2 : Shared) : Prop :=
  ∃ (it : Addr) (fp : List Addr) (tn : Nat → Heap → Prop) (J : It) (H' : Hp), itv = .ref it ∧ Inv X pins σ H' s2 ∧ Turn X.prog X.w X.K tg J fp it tn ∧ tn 0 s2.heap ∧ (∀ b ∈ fp, FpOk X pins H' b) ∧ R J H'
def PI (X : Cx) (tg iter : Expr) (wi : TI) : Prop :=
  ∀ (pins : List (Addr × Obj)) (s : Shared) (σ : St) (H : Hp) (R : It → Hp → Prop), Inv X pins σ H s → wi σ H R →
    wpAny (model X.prog X.w) X.A (eval iter X.env) (fun v s1 => wpAny (model X.prog X.w) X.A (pyIter v) (PIE X pins σ tg R) X.xe s1) X.xe s

/-- the step ahead of the store is nothing for an iterator that keeps no tuple -/
theorem go_of {M : Model} {A : Around} {E : Value → Shared → Prop} {s : Shared} {tg : Expr} {it : Addr} {u : Value} {o : Obj} {n : String} {vs : Array Value} {Q : Unit → Shared → Prop} (ho : s.heap.get? it = some o) (hc : o.cls = .type n) (hd : o.data = .fields vs)
    (hn : ["enumerate", "zip", "dict_itemiterator", "dict_reverseitemiterator", "odict_iterator", "itertools.zip_longest", "itertools.pairwise"].contains n = false) (hQ : Q () s) : wpAny M A (letOwnedTupleGo tg (.ref it) u) Q E s := by
  unfold letOwnedTupleGo
  cases tg <;> first
    | exact wpAny_pure hQ
    | (cases u <;> first
        | exact wpAny_pure hQ
        | (refine wpAny_bind (wpAny_load ho ?_)
           rw [hc, hd]
           show wpAny M A (if (["enumerate", "zip", "dict_itemiterator", "dict_reverseitemiterator", "odict_iterator", "itertools.zip_longest", "itertools.pairwise"].contains n && vs[0]? == some (rawInt _)) = true then _ else _) Q E s
           rw [if_neg (by intro h; rw [hn, Bool.false_and] at h; cases h)]
           exact wpAny_pure hQ))

/-- the list at a, as it stands at each turn (a loop may append to it) -/
def Itl (K : PySem.W.Frag) (a : Addr) : It :=
  ⟨fun i H => ∃ xs x, SqL K H a xs ∧ xs[i]? = some x, fun i H x H' => H' = H ∧ ∀ xs, SqL K H a xs → xs[i]? = some x, fun i H => ∃ xs, SqL K H a xs ∧ xs.length ≤ i⟩
def Itt (K : PySem.W.Frag) (a : Addr) : It :=
  ⟨fun i H => ∃ xs x, SqT K H a xs ∧ xs[i]? = some x, fun i H x H' => H' = H ∧ ∀ xs, SqT K H a xs → xs[i]? = some x, fun i H => ∃ xs, SqT K H a xs ∧ xs.length ≤ i⟩
/-- lo, lo + 1, .. (n of them) -/
def Itr (lo : Int) (n : Nat) : It := ⟨fun i _ => i < n, fun i H x H' => H' = H ∧ x = .int (lo + i), fun i _ => n ≤ i⟩
theorem turn_list {P : Program} {w : World} {K : PySem.W.Frag} {tg : Expr} (a it : Addr) : Turn P w K tg (Itl K a) [it] it (fun i h => h.IsListIter it a i) where
  mem := by simp
  obj := fun i h st b hb => by
    have e : b = it := by simpa using hb
    subst e
    obtain ⟨o, e, c, d⟩ := st
    exact ⟨o, e, fun v z => by rw [d] at z; cases z⟩
  keep := fun i h h' st k => st.at fun o e => k it (by simp) o e
  item := by
    intro X hP hw hK hc i pins s σ H E I hf st hg
    subst hP hw hK
    obtain ⟨xs, x, hq, hx⟩ := hg
    obtain ⟨its, rv, p, hz⟩ := I.list hq
    obtain ⟨u, hu, ru⟩ := rv.get hx
    obtain ⟨f0, f1, f2, f3, f4, f5⟩ := hf it (by simp)
    refine wpAny_pyNext_list_item st p.isList (x := u) (by simpa using hu) fun h' st' sb => ?_
    have I1 : Inv X pins σ H { s with heap := h' } := I.turned (t' := s.toks) (fun b o hb e => (sb.2 b hb).trans e) f0 f1 f3 f4 f5
    obtain ⟨o, e, c, d⟩ := id st'
    exact ⟨u, rfl, go_of (s := { s with heap := h' }) e c d (by decide) ⟨x, H, I1, ru, ⟨rfl, fun ys hy => by rw [I.list_inj hy hq]; exact hx⟩, st', fun b hb => (hf b hb).1⟩⟩
  done := by
    intro X hP hw hK hc i pins s σ H E I hf st hg
    subst hP hw hK
    obtain ⟨xs, hq, hx⟩ := hg
    obtain ⟨its, rv, p, hz⟩ := I.list hq
    obtain ⟨f0, f1, f2, f3, f4, f5⟩ := hf it (by simp)
    have hl := rv.length
    exact wpAny_pyNext_list_end (I.ok.hd hc) st p.isList (by simp; omega) fun h' eb => ⟨rfl, I.turned (t' := s.toks) (fun b o hb e => eb b o hb e) f0 f1 f3 f4 f5⟩
  self := fun _ _ _ _ _ st h => wpAny_pyIter_listiter st h
theorem turn_tuple {P : Program} {w : World} {K : PySem.W.Frag} {tg : Expr} (a it : Addr) : Turn P w K tg (Itt K a) [it] it (fun i h => h.IsTupleIter it a i) where
  mem := by simp
  obj := fun i h st b hb => by
    have e : b = it := by simpa using hb
    subst e
    obtain ⟨o, e, c, d⟩ := st
    exact ⟨o, e, fun v z => by rw [d] at z; cases z⟩
  keep := fun i h h' st k => st.at fun o e => k it (by simp) o e
  item := by
    intro X hP hw hK hc i pins s σ H E I hf st hg
    subst hP hw hK
    obtain ⟨xs, x, hq, hx⟩ := hg
    obtain ⟨its, rv, p, hz⟩ := I.tuple hq
    obtain ⟨u, hu, ru⟩ := rv.get hx
    obtain ⟨f0, f1, f2, f3, f4, f5⟩ := hf it (by simp)
    refine wpAny_pyNext_tuple_item st (show s.heap.IsTuple a its.toArray from p) (x := u) (by simpa using hu) fun h' st' sb => ?_
    have I1 : Inv X pins σ H { s with heap := h' } := I.turned (t' := s.toks) (fun b o hb e => (sb.2 b hb).trans e) f0 f1 f3 f4 f5
    obtain ⟨o, e, c, d⟩ := id st'
    exact ⟨u, rfl, go_of (s := { s with heap := h' }) e c d (by decide) ⟨x, H, I1, ru, ⟨rfl, fun ys hy => by rw [I.tuple_inj hy hq]; exact hx⟩, st', fun b hb => (hf b hb).1⟩⟩
  done := by
    intro X hP hw hK hc i pins s σ H E I hf st hg
    subst hP hw hK
    obtain ⟨xs, hq, hx⟩ := hg
    obtain ⟨its, rv, p, hz⟩ := I.tuple hq
    obtain ⟨f0, f1, f2, f3, f4, f5⟩ := hf it (by simp)
    have hl := rv.length
    exact wpAny_pyNext_tuple_end (I.ok.hd hc) st (show s.heap.IsTuple a its.toArray from p) (by simp; omega) fun h' eb => ⟨rfl, I.turned (t' := s.toks) (fun b o hb e => eb b o hb e) f0 f1 f3 f4 f5⟩
  self := fun _ _ _ _ _ st h => wpAny_pyIter_tupleiter st h
theorem turn_range {P : Program} {w : World} {K : PySem.W.Frag} {tg : Expr} (it : Addr) (lo : Int) (n : Nat) : Turn P w K tg (Itr lo n) [it] it (fun i h => IsRangeIter h it (lo + (i : Nat) * 1) ((n : Int) - (i : Nat)) 1) where
  mem := by simp
  obj := fun i h st b hb => by
    have e : b = it := by simpa using hb
    subst e
    exact ⟨_, st, fun v z => by
      have z' : Data.fields _ = Data.cell v := z
      cases z'⟩
  keep := fun i h h' st k => k it (by simp) _ st
  item := by
    intro X hP hw hK hc i pins s σ H E I hf st hg
    subst hP hw hK
    obtain ⟨f0, f1, f2, f3, f4, f5⟩ := hf it (by simp)
    have W := Walks.range (prog := X.prog) (w := X.w) (I.ok.hd hc) it lo 1 n
    refine W.item i s _ _ hg st fun v h' tk hv st' kk => ?_
    obtain ⟨t, rfl⟩ := hv
    have I1 : Inv X pins σ H { s with heap := h', toks := tk } := I.turned (fun b o hb e => kk b o (by simpa using hb) e) f0 f1 f3 f4 f5
    refine ⟨_, rfl, go_of (s := { s with heap := h', toks := tk }) (n := "range_iterator") st' rfl rfl (by decide) ⟨.int (lo + i), H, I1, ⟨t, ?_⟩, ⟨rfl, rfl⟩, st', fun b hb => (hf b hb).1⟩⟩
    rw [Int.mul_one]
  done := by
    intro X hP hw hK hc i pins s σ H E I hf st hg
    subst hP hw hK
    obtain ⟨f0, f1, f2, f3, f4, f5⟩ := hf it (by simp)
    exact wpAny_pyNext_range_end (I.ok.hd hc) st (by have : n ≤ i := hg; omega) fun h' eb => ⟨rfl, I.turned (t' := s.toks) (fun b o hb e => eb b o hb e) f0 f1 f3 f4 f5⟩
  self := fun _ _ _ _ _ st h => wpAny_pyIter_rangeiter st h
end L2
namespace L2
open PySem PySem.Spec PyProof.Rows
section
variable {X : Cx} {tg : Expr}
def iList (K : PySem.W.Frag) (tl : TE) : TI := fun σ H R => tl σ H fun x H1 => ∃ a, x = .ref a ∧ (∃ xs, SqL K H1 a xs) ∧ R (Itl K a) H1
def iTup (K : PySem.W.Frag) (tl : TE) : TI := fun σ H R => tl σ H fun x H1 => ∃ a, x = .ref a ∧ (∃ xs, SqT K H1 a xs) ∧ R (Itt K a) H1
theorem pi_list {l : Expr} {tl : TE} (hl : PE X l tl) : PI X tg l (iList X.K tl) := by
  intro pins s σ H R I h
  refine thn (hl pins s σ H _ I h) fun v s1 ⟨x, H1, I1, r1, q1⟩ => ?_
  obtain ⟨a, e, ⟨xs, hq⟩, q⟩ := q1
  subst e
  cases r1
  obtain ⟨its, rv, p, hz⟩ := I1.list hq
  refine wpAny_pyIter_list p.isList ?_
  refine ⟨s1.heap.objs.size, [s1.heap.objs.size], _, _, H1, rfl, I1.kept (t' := s1.toks) fun b o e => Heap.get?_push_of_some _ e, turn_list a _, ⟨_, Heap.get?_push_size _ rfl, rfl, rfl⟩, fun b hb => ?_, q⟩
  have e : b = s1.heap.objs.size := by simpa using hb
  subst e
  exact I1.fpOk (Nat.le_refl _) (I1.hok.fresh (Nat.le_refl _))
theorem pi_tup {l : Expr} {tl : TE} (hl : PE X l tl) : PI X tg l (iTup X.K tl) := by
  intro pins s σ H R I h
  refine thn (hl pins s σ H _ I h) fun v s1 ⟨x, H1, I1, r1, q1⟩ => ?_
  obtain ⟨a, e, ⟨xs, hq⟩, q⟩ := q1
  subst e
  cases r1
  obtain ⟨its, rv, p, hz⟩ := I1.tuple hq
  refine wpAny_pyIter_tuple (show s1.heap.IsTuple a its.toArray from p) ?_
  refine ⟨s1.heap.objs.size, [s1.heap.objs.size], _, _, H1, rfl, I1.kept (t' := s1.toks) fun b o e => Heap.get?_push_of_some _ e, turn_tuple a _, ⟨_, Heap.get?_push_size _ rfl, rfl, rfl⟩, fun b hb => ?_, q⟩
  have e : b = s1.heap.objs.size := by simpa using hb
  subst e
  exact I1.fpOk (Nat.le_refl _) (I1.hok.fresh (Nat.le_refl _))
/-- a range object just made, walked -/
theorem range_it {pins : List (Addr × Obj)} {σ : St} {H : Hp} {s : Shared} {R : It → Hp → Prop} {E : Value → Shared → Prop} {lo hi : Int} {t u v : Tok} {tk : Nat} (I : Inv X pins σ H s) (h1 : -(2 ^ 62) ≤ lo) (h2 : lo < 2 ^ 62) (h3 : -(2 ^ 62) ≤ hi) (h4 : hi < 2 ^ 62)
    (q : R (Itr lo (hi - lo).toNat) H) : wpAny (model X.prog X.w) X.A (pyIter (.ref s.heap.objs.size)) (PIE X pins σ tg R) E { s with heap := s.heap.push { cls := .type "range", data := .fields #[.int lo t, .int hi u, .int 1 v] }, toks := tk } := by
  refine wpAny_pyIter_range (IsRange.new ..) (small_one h1 h2 h3 h4) ?_
  have I1 : Inv X pins σ H { s with heap := s.heap.push { cls := .type "range", data := .fields #[.int lo t, .int hi u, .int 1 v] }, toks := tk } := I.kept fun b o e => Heap.get?_push_of_some _ e
  refine ⟨(s.heap.push { cls := .type "range", data := .fields #[.int lo t, .int hi u, .int 1 v] }).objs.size, [(s.heap.push { cls := .type "range", data := .fields #[.int lo t, .int hi u, .int 1 v] }).objs.size], _, _, H, rfl,
    I1.kept (t' := tk) fun b o e => Heap.get?_push_of_some _ e, turn_range _ lo (hi - lo).toNat, ?_, fun b hb => ?_, q⟩
  · have e1 : lo + ((0 : Nat) : Int) * 1 = lo := by simp
    have e2 : (((hi - lo).toNat : Nat) : Int) - ((0 : Nat) : Int) = Builtin.Range.rangeSize lo hi 1 := by rw [rangeSize_one]; split <;> omega
    show IsRangeIter _ _ (lo + ((0 : Nat) : Int) * 1) ((((hi - lo).toNat : Nat) : Int) - ((0 : Nat) : Int)) 1
    rw [e1, e2]
    exact Heap.get?_push_size _ rfl
  · have e : b = (s.heap.push { cls := .type "range", data := .fields #[.int lo t, .int hi u, .int 1 v] }).objs.size := by simpa using hb
    subst e
    exact I1.fpOk (Nat.le_refl _) (I1.hok.fresh (Nat.le_refl _))
def iRng1 (ta : TA) : TI := fun σ H R => ta σ H fun vs H1 => ∃ j : Int, vs = [.int j] ∧ -(2 ^ 62) ≤ j ∧ j < 2 ^ 62 ∧ R (Itr 0 j.toNat) H1
theorem pi_range1 {a : Expr} {ta : TA} {p pos : Pos} (hg : Gl X "range") (hm : X.mg "range" = none) (ha : PA X [a] ta) (hs : starEach [a] X.env = [(false, eval a X.env)] := by rfl) : PI X tg (.Call (.Name "range" p) [a] [] pos) (iRng1 ta) := by
  intro pins s σ H R I h
  refine Call_ (ld_blt I hg hm boot_range (PyProof.Rows.callWith_type1 (thn (ha pos pins s σ H _ I h) fun us s1 ⟨vs, H1, I1, r1, q1⟩ => ?_) hs rfl))
  obtain ⟨j, e, q1, q2, q⟩ := q1
  subst e
  cases r1 with
  | cons r rr =>
    cases rr
    obtain ⟨t, rfl⟩ := r
    exact call_range_1 (range_it I1 (by omega) (by omega) q1 q2 (by simpa using q))
/-- W: the invariant by the turn and a measure; N: what the body is to reach -/
def tFor (wi : TI) (g : TG) (tb : TS) : TS := fun D σ H => wi σ H fun J H1 => ∃ W : Nat → Nat → St → Hp → Prop, (∃ m, W 0 m σ H1) ∧ ∀ i m σ H, W i m σ H →
  (J.stop i H ∧ D.nx σ H) ∨ (J.go i H ∧ ∃ N : St → Hp → Prop, (∀ σ' H', N σ' H' → ∃ m', m' < m ∧ W (i + 1) m' σ' H') ∧ ∀ x H', J.yld i H x H' → g x σ H' fun σ2 H2 => tb { D with nx := N, ct := N, bk := D.nx } σ2 H2)
/-- the records at fp as they stand -/
def pinsAt (fp : List Addr) (h : Heap) : List (Addr × Obj) := fp.filterMap fun b => (h.get? b).map fun o => (b, o)
theorem mem_pinsAt {fp : List Addr} {h : Heap} {b : Addr} {o : Obj} (hb : b ∈ fp) (e : h.get? b = some o) : (b, o) ∈ pinsAt fp h := List.mem_filterMap.mpr ⟨b, hb, by rw [e]; rfl⟩
theorem of_pinsAt {fp : List Addr} {h : Heap} {p : Addr × Obj} (hp : p ∈ pinsAt fp h) : p.1 ∈ fp ∧ h.get? p.1 = some p.2 := by
  obtain ⟨b, hb, e⟩ := List.mem_filterMap.mp hp
  cases q : h.get? b with
  | none => rw [q] at e; cases e
  | some o =>
    rw [q] at e
    have e' : (b, o) = p := Option.some.inj e
    subst e'
    exact ⟨hb, q⟩
theorem Inv.pinned {pins : List (Addr × Obj)} {σ : St} {H : Hp} {s : Shared} {fp : List Addr} (I : Inv X pins σ H s) (hf : ∀ b ∈ fp, FpOk X pins H b) (ho : ∀ b ∈ fp, ∃ o, s.heap.get? b = some o ∧ ∀ v, o.data ≠ .cell v) : Inv X (pins ++ pinsAt fp s.heap) σ H s :=
  I.pins_of fun p hp => (List.mem_append.mp hp).elim (fun z => I.pin p (List.mem_append_right _ z)) fun z => by
    obtain ⟨hb, e⟩ := of_pinsAt z
    obtain ⟨f0, f1, f2, _⟩ := hf p.1 hb
    obtain ⟨o, e', d⟩ := ho p.1 hb
    rw [e] at e'; cases e'
    exact ⟨e, f0, f1, f2, d⟩
theorem Inv.unpinned {pins pl : List (Addr × Obj)} {σ : St} {H : Hp} {s : Shared} (I : Inv X (pins ++ pl) σ H s) : Inv X pins σ H s := I.pins_of fun p hp => I.pin p (List.mem_append_right _ (List.mem_append_left _ hp))
theorem ps_for {iter : Expr} {body : List Stmt} {wi : TI} {g : TG} {tb : TS} {pos : Pos} (hp : PassesOwn (model X.prog X.w) X.A X.env X.xe) (hc : X.calm = true) (hi : PI X tg iter wi) (hg : PG X tg g) (hb : PSs X body tb)
    (hs : ∀ x, foldedSetIterable iter X.env x = pure x := by intro _; rfl) : PS X (.For tg iter body [] pos) (tFor wi g tb) := by
  intro pins s σ H D I h
  refine wpAny_For (thn (hi pins s σ H _ I h) fun v s1 h1 => thn h1 fun itv s2 h2 => ?_) hs
  obtain ⟨it, fp, tn, J, H2, e, I2, T, st2, f2, W, ⟨m0, w0⟩, turn⟩ := h2
  subst e
  -- what stays true of the iterator's objects through the loop
  have stat : ∀ {H' : Hp}, (∀ b ∈ fp, H' b = none) → ∀ b ∈ fp, FpOk X pins H' b := fun hn b hb => ⟨hn b hb, (f2 b hb).2⟩
  refine codeAny_forLoop_any (fun n s' => ∃ i σ' H', Inv X pins σ' H' s' ∧ tn i s'.heap ∧ (∀ b ∈ fp, H' b = none) ∧ W i n σ' H') ?_ m0 ⟨0, σ, H2, I2, st2, fun b hb => (f2 b hb).1, w0⟩
  rintro n s3 ⟨i, σ3, H3, I3, st3, fr3, w3⟩
  rcases turn i n σ3 H3 w3 with ⟨stop, qn⟩ | ⟨go, N, hN, step⟩
  · refine wpAny_passesOwn hp (thn (T.done X rfl rfl rfl hc i pins s3 σ3 H3 X.xe I3 (stat fr3) st3 stop) fun r s4 ⟨hr, I4⟩ => ?_)
    subst hr
    exact wpAny_execs_nil ⟨σ3, H3, I4, qn⟩
  · refine wpAny_passesOwn hp (thn (T.item X rfl rfl rfl hc i pins s3 σ3 H3 X.xe I3 (stat fr3) st3 go) fun r s4 ⟨u, hr, h4⟩ => ?_)
    subst hr
    refine wpAny_passesOwn hp (thn h4 fun _ s5 ⟨x, H5, I5, r5, y5, st5, fr5⟩ => ?_)
    have I5' := I5.pinned (stat fr5) (T.obj _ _ st5)
    refine wpAny_passesOwn hp (thn (hg _ s5 σ3 H5 x u _ I5' r5 (step x H5 y5)) fun _ s6 ⟨σ6, H6, I6, q6⟩ => ?_)
    refine wpAny_passesOwn hp (thn (hb _ s6 σ6 H6 _ I6 q6) fun f s7 q7 => ?_)
    have again : ∀ {σ7 : St} {H7 : Hp}, Inv X (pins ++ pinsAt fp s5.heap) σ7 H7 s7 → N σ7 H7 → ∃ m, m < n ∧ ∃ i σ' H', Inv X pins σ' H' s7 ∧ tn i s7.heap ∧ (∀ b ∈ fp, H' b = none) ∧ W i m σ' H' := fun {σ7 H7} I7 n7 => by
      obtain ⟨m', hm, w7⟩ := hN σ7 H7 n7
      refine ⟨m', hm, i + 1, σ7, H7, I7.unpinned, T.keep _ _ _ st5 fun b hb o e => (I7.pin (b, o) (List.mem_append_right _ (List.mem_append_right _ (mem_pinsAt hb e)))).1, fun b hb => ?_, w7⟩
      obtain ⟨o, e, d⟩ := T.obj _ _ st5 b hb
      exact (I7.pin (b, o) (List.mem_append_right _ (List.mem_append_right _ (mem_pinsAt hb e)))).2.1
    cases f with
    | next => obtain ⟨σ7, H7, I7, n7⟩ := q7; exact again I7 n7
    | cont => obtain ⟨σ7, H7, I7, n7⟩ := q7; exact again I7 n7
    | brk => obtain ⟨σ7, H7, I7, q7⟩ := q7; exact ⟨σ7, H7, I7.unpinned, q7⟩
    | ret v => obtain ⟨x7, σ7, H7, I7, r7, q7⟩ := q7; exact ⟨x7, σ7, H7, I7.unpinned, r7, q7⟩
end
/-- over a list that the body leaves as it is -/
theorem for_list {K : PySem.W.Frag} {a : Addr} {xs : List V} {g : TG} {tb : TS} {D : Ends} {σ : St} {H : Hp} (Pv : Nat → St → Hp → Prop) (h0 : Pv 0 σ H) (hl : ∀ i σ H, i ≤ xs.length → Pv i σ H → SqL K H a xs)
    (hs : ∀ i x σ H, xs[i]? = some x → Pv i σ H → g x σ H fun σ2 H2 => tb { D with nx := Pv (i + 1), ct := Pv (i + 1), bk := D.nx } σ2 H2) (hd : ∀ σ H, Pv xs.length σ H → D.nx σ H) :
    ∃ W : Nat → Nat → St → Hp → Prop, (∃ m, W 0 m σ H) ∧ ∀ i m σ H, W i m σ H →
      ((Itl K a).stop i H ∧ D.nx σ H) ∨ ((Itl K a).go i H ∧ ∃ N : St → Hp → Prop, (∀ σ' H', N σ' H' → ∃ m', m' < m ∧ W (i + 1) m' σ' H') ∧ ∀ x H', (Itl K a).yld i H x H' → g x σ H' fun σ2 H2 => tb { D with nx := N, ct := N, bk := D.nx } σ2 H2) := by
  refine ⟨fun i m σ H => m = xs.length - i ∧ i ≤ xs.length ∧ Pv i σ H, ⟨xs.length, by simp, Nat.zero_le _, h0⟩, ?_⟩
  rintro i m σ H ⟨rfl, hi, p⟩
  have q := hl i σ H hi p
  by_cases hlt : i < xs.length
  · refine .inr ⟨⟨xs, xs[i], q, by simp [hlt]⟩, Pv (i + 1), fun σ' H' p' => ⟨xs.length - (i + 1), by omega, rfl, hlt, p'⟩, fun x H' y => ?_⟩
    obtain ⟨e, y⟩ := y
    subst e
    exact hs i x σ _ (y xs q) p
  · have e : i = xs.length := by omega
    subst e
    exact .inl ⟨⟨xs, q, Nat.le_refl _⟩, hd σ H p⟩
theorem for_range {lo : Int} {n : Nat} {g : TG} {tb : TS} {D : Ends} {σ : St} {H : Hp} (Pv : Nat → St → Hp → Prop) (h0 : Pv 0 σ H)
    (hs : ∀ i σ H, i < n → Pv i σ H → g (.int (lo + i)) σ H fun σ2 H2 => tb { D with nx := Pv (i + 1), ct := Pv (i + 1), bk := D.nx } σ2 H2) (hd : ∀ σ H, Pv n σ H → D.nx σ H) :
    ∃ W : Nat → Nat → St → Hp → Prop, (∃ m, W 0 m σ H) ∧ ∀ i m σ H, W i m σ H →
      ((Itr lo n).stop i H ∧ D.nx σ H) ∨ ((Itr lo n).go i H ∧ ∃ N : St → Hp → Prop, (∀ σ' H', N σ' H' → ∃ m', m' < m ∧ W (i + 1) m' σ' H') ∧ ∀ x H', (Itr lo n).yld i H x H' → g x σ H' fun σ2 H2 => tb { D with nx := N, ct := N, bk := D.nx } σ2 H2) := by
  refine ⟨fun i m σ H => m = n - i ∧ i ≤ n ∧ Pv i σ H, ⟨n, by simp, Nat.zero_le _, h0⟩, ?_⟩
  rintro i m σ H ⟨rfl, hi, p⟩
  by_cases hlt : i < n
  · refine .inr ⟨hlt, Pv (i + 1), fun σ' H' p' => ⟨n - (i + 1), by omega, rfl, hlt, p'⟩, fun x H' y => ?_⟩
    obtain ⟨e, y⟩ := y
    subst e y
    exact hs i σ _ hlt p
  · have e : i = n := by omega
    subst e
    exact .inl ⟨Nat.le_refl _, hd σ H p⟩
end L2
namespace L2
open PySem PySem.Spec PyProof.Rows
abbrev R2 := V → V → Hp → VK → Prop
/-- a two-place operation on values: f is binaryOp op, inplaceOp op or compareOp op -/
def OpR (X : Cx) (f : Value → Value → Sem Value) (r : R2) : Prop :=
  ∀ (pins : List (Addr × Obj)) (s : Shared) (σ : St) (H : Hp) (x y : V) (v u : Value) (Q : VK), Inv X pins σ H s → RelV x v → RelV y u → r x y H Q →
    wpAny (model X.prog X.w) X.A (f v u) (EP X pins σ Q) X.xe s
/-- a one-place operation -/
def UnR (X : Cx) (f : Value → Sem Value) (r : V → Hp → VK → Prop) : Prop :=
  ∀ (pins : List (Addr × Obj)) (s : Shared) (σ : St) (H : Hp) (x : V) (v : Value) (Q : VK), Inv X pins σ H s → RelV x v → r x H Q →
    wpAny (model X.prog X.w) X.A (f v) (EP X pins σ Q) X.xe s
/-- a call of a value that is known (a builtin, a type) with values -/
def CallR (X : Cx) (f : Value) (r : List V → Hp → VK → Prop) : Prop :=
  ∀ (pins : List (Addr × Obj)) (s : Shared) (σ : St) (H : Hp) (xs : List V) (us : List Value) (Q : VK), Inv X pins σ H s → Vals xs us → r xs H Q →
    wpAny (model X.prog X.w) X.A (call f us) (EP X pins σ Q) X.xe s
/-- a value's truth -/
def TruR (X : Cx) (r : V → Hp → (Bool → Hp → Prop) → Prop) : Prop :=
  ∀ (pins : List (Addr × Obj)) (s : Shared) (σ : St) (H : Hp) (x : V) (v : Value) (Q : Bool → Hp → Prop), Inv X pins σ H s → RelV x v → r x H Q →
    wpAny (model X.prog X.w) X.A (truthy v) (TP X pins σ Q) X.xe s

def tOp (r : R2) (ta tb : TE) : TE := fun σ H Q => ta σ H fun x H1 => tb σ H1 fun y H2 => r x y H2 Q
def tUn (r : V → Hp → VK → Prop) (ta : TE) : TE := fun σ H Q => ta σ H fun x H1 => r x H1 Q
/-- ints in, under C, and a value out -/
def rI (C : Int → Int → Prop) (g : Int → Int → V) : R2 := fun x y H Q => ∃ i j, x = .int i ∧ y = .int j ∧ C i j ∧ Q (g i j) H
def rI0 (g : Int → Int → V) : R2 := fun x y H Q => ∃ i j, x = .int i ∧ y = .int j ∧ Q (g i j) H
def rU (g : Int → V) : V → Hp → VK → Prop := fun x H Q => ∃ i, x = .int i ∧ Q (g i) H

section
variable {X : Cx} {a b c : Expr} {ta tb tc : TE} {pos : Pos}
theorem binT (ha : PE X a ta) (hb : PE X b tb) {pins : List (Addr × Obj)} {s : Shared} {σ : St} {H : Hp} {R : V → V → Hp → Prop} (I : Inv X pins σ H s)
    (h : ta σ H fun x H1 => tb σ H1 fun y H2 => R x y H2) {Q : Value → Shared → Prop} {f : Value → Value → Sem Value}
    (hf : ∀ v u s2 x y H2, Inv X pins σ H2 s2 → RelV x v → RelV y u → R x y H2 → wpAny (model X.prog X.w) X.A (f v u) Q X.xe s2) :
    wpAny (model X.prog X.w) X.A (eval a X.env) (fun v s₁ => wpAny (model X.prog X.w) X.A (eval b X.env) (fun u s₂ => wpAny (model X.prog X.w) X.A (f v u) Q X.xe s₂) X.xe s₁) X.xe s := by
  refine thn (ha pins s σ H _ I h) fun v s1 ⟨x, H1, I1, r1, q1⟩ => ?_
  refine thn (hb pins s1 σ H1 _ I1 q1) fun u s2 ⟨y, H2, I2, r2, q2⟩ => ?_
  exact hf v u s2 x y H2 I2 r1 r2 q2

theorem pe_op {op : Operator} {r : R2} (ho : OpR X (binaryOp op) r) (ha : PE X a ta) (hb : PE X b tb) : PE X (.BinOp a op b pos) (tOp r ta tb) := by
  intro pins s σ H Q I h
  exact wpAny_BinOp (binT ha hb I h fun v u s2 x y H2 I2 rx ry q => ho pins s2 σ H2 x y v u Q I2 rx ry q)
theorem pe_un {op : UnaryOp} {r : V → Hp → VK → Prop} (ho : UnR X (unaryOp op) r) (ha : PE X a ta) : PE X (.UnaryOp op a pos) (tUn r ta) := by
  intro pins s σ H Q I h
  exact UnaryOp_ (thn (ha pins s σ H _ I h) fun v s1 ⟨x, H1, I1, r1, q1⟩ => ho pins s1 σ H1 x v Q I1 r1 q1)
theorem opI {f : Value → Value → Sem Value} {C : Int → Int → Prop} {g : Int → Int → Int}
    (rule : ∀ (i j : Int) (t u : Tok) (s : Shared) (Q : Value → Shared → Prop) (E : Value → Shared → Prop), C i j → Q (.int (g i j) s.toks) { s with toks := s.toks + 1 } → wpAny (model X.prog X.w) X.A (f (.int i t) (.int j u)) Q E s) :
    OpR X f (rI C fun i j => .int (g i j)) := by
  intro pins s σ H x y v u Q I rx ry h
  obtain ⟨i, j, rfl, rfl, hc, q⟩ := h
  obtain ⟨t, rfl⟩ := rx
  obtain ⟨t', rfl⟩ := ry
  exact rule i j t t' s _ _ hc ⟨.int (g i j), H, I.tok _, ⟨_, rfl⟩, q⟩
theorem opI0 {f : Value → Value → Sem Value} {g : Int → Int → Int}
    (rule : ∀ (i j : Int) (t u : Tok) (s : Shared) (Q : Value → Shared → Prop) (E : Value → Shared → Prop), Q (.int (g i j) s.toks) { s with toks := s.toks + 1 } → wpAny (model X.prog X.w) X.A (f (.int i t) (.int j u)) Q E s) :
    OpR X f (rI0 fun i j => .int (g i j)) := by
  intro pins s σ H x y v u Q I rx ry h
  obtain ⟨i, j, rfl, rfl, q⟩ := h
  obtain ⟨t, rfl⟩ := rx
  obtain ⟨t', rfl⟩ := ry
  exact rule i j t t' s _ _ ⟨.int (g i j), H, I.tok _, ⟨_, rfl⟩, q⟩
theorem opB0 {f : Value → Value → Sem Value} {g : Int → Int → Bool}
    (rule : ∀ (i j : Int) (t u : Tok) (s : Shared) (Q : Value → Shared → Prop) (E : Value → Shared → Prop), Q (.bool (g i j)) s → wpAny (model X.prog X.w) X.A (f (.int i t) (.int j u)) Q E s) :
    OpR X f (rI0 fun i j => .bl (g i j)) := by
  intro pins s σ H x y v u Q I rx ry h
  obtain ⟨i, j, rfl, rfl, q⟩ := h
  obtain ⟨t, rfl⟩ := rx
  obtain ⟨t', rfl⟩ := ry
  exact rule i j t t' s _ _ ⟨.bl (g i j), H, I, rfl, q⟩

def CDiv (i j : Int) : Prop := 0 < j ∧ j < 1073741824
def CPow (i j : Int) : Prop := 0 ≤ j ∧ j ≤ 1000000 ∧ i.natAbs < 2 ^ 64
def CMul (i j : Int) : Prop := (-(2 ^ 64) < i ∧ i < 2 ^ 64) ∨ (-(2 ^ 64) < j ∧ j < 2 ^ 64)
theorem CMul.ok {i j : Int} (h : CMul i j) : IntMulOk i j := by
  rcases h with ⟨h1, h2⟩ | ⟨h1, h2⟩
  · exact .of_left (intBits_le_64 h1 h2)
  · exact .of_right (intBits_le_64 h1 h2)
theorem op_add : OpR X (binaryOp .Add) (rI0 fun i j => .int (i + j)) := opI0 fun _ _ _ _ _ _ _ q => add_int q
theorem op_sub : OpR X (binaryOp .Sub) (rI0 fun i j => .int (i - j)) := opI0 fun _ _ _ _ _ _ _ q => sub_int q
theorem op_mul : OpR X (binaryOp .Mult) (rI CMul fun i j => .int (i * j)) := opI fun _ _ _ _ _ _ _ hc q => mul_int q hc.ok
/-- // by a positive divisor -/
theorem op_fdiv : OpR X (binaryOp .FloorDiv) (rI CDiv fun i j => .int (i / j)) := opI fun i j _ _ _ _ _ hc q => by
  have h1 : (0 : Int) < j := hc.1
  have h2 : j < 1073741824 := hc.2
  exact floordiv_int (by omega) (by rw [Int.fdiv_eq_ediv_of_nonneg i (by omega)]; exact q) (.inl (PyProof.noPylong_small (by omega)))
/-- % by a positive divisor of any size -/
theorem op_mod : OpR X (binaryOp .Mod) (rI (fun _ j => 0 < j) fun i j => .int (i % j)) := opI fun i j _ _ _ _ _ hc q => by
  have h1 : (0 : Int) < j := hc
  exact mod_int' (by omega) (by rw [Int.fmod_eq_emod_of_nonneg i (by omega)]; exact q)
theorem op_pow : OpR X (binaryOp .Pow) (rI CPow fun i j => .int (i ^ j.toNat)) := opI fun _ _ _ _ _ _ _ hc q => pow_int_small hc.1 hc.2.1 hc.2.2 q
theorem unI {f : Value → Sem Value} {g : Int → Int}
    (rule : ∀ (i : Int) (t : Tok) (s : Shared) (Q : Value → Shared → Prop) (E : Value → Shared → Prop), Q (.int (g i) s.toks) { s with toks := s.toks + 1 } → wpAny (model X.prog X.w) X.A (f (.int i t)) Q E s) :
    UnR X f (rU fun i => .int (g i)) := by
  intro pins s σ H x v Q I rx h
  obtain ⟨i, rfl, q⟩ := h
  obtain ⟨t, rfl⟩ := rx
  exact rule i t s _ _ ⟨.int (g i), H, I.tok _, ⟨_, rfl⟩, q⟩
theorem un_neg : UnR X (unaryOp .USub) (rU fun i => .int (-i)) := unI fun _ _ _ _ _ q => neg_int q
end
/-- the scalars that == tells apart as data does -/
def scal : V → V → Bool
  | .non, .non => true | .non, .int _ => true | .int _, .non => true | .non, .bl _ => true | .bl _, .non => true | .non, .str _ => true | .str _, .non => true
  | .int _, .int _ => true | .bl _, .bl _ => true | .str _, .str _ => true | .byt _, .byt _ => true
  | .int _, .str _ => true | .str _, .int _ => true | .bl _, .str _ => true | .str _, .bl _ => true
  | _, _ => false
def rEq : R2 := fun x y H Q => scal x y = true ∧ Q (.bl (decide (x = y))) H
def rNe : R2 := fun x y H Q => scal x y = true ∧ Q (.bl (!decide (x = y))) H

theorem dec_int {i j : Int} : decide (V.int i = V.int j) = (i == j) := by
  rw [Bool.eq_iff_iff]
  simp
theorem dec_bl {i j : Bool} : decide (V.bl i = V.bl j) = (i == j) := by
  rw [Bool.eq_iff_iff]
  simp
theorem dec_str {i j : Str} : decide (V.str i = V.str j) = (i == j) := by
  rw [Bool.eq_iff_iff]
  simp
theorem dec_byt {i j : Array UInt8} : decide (V.byt i = V.byt j) = (i.toList == j.toList) := by
  rw [Bool.eq_iff_iff]
  cases i
  cases j
  simp

section
variable {X : Cx} {a b c : Expr} {ta tb tc : TE} {pos : Pos}
theorem fin_bl {pins : List (Addr × Obj)} {σ : St} {H : Hp} {s : Shared} {Q : VK} {k k' : Bool} (I : Inv X pins σ H s) (q : Q (.bl k) H) (e : k = k') : EP X pins σ Q (.bool k') s := by
  subst e
  exact ⟨.bl k, H, I, rfl, q⟩
theorem op_eq : OpR X (compareOp .Eq) rEq := by
  intro pins s σ H x y v u Q I rx ry h
  obtain ⟨hs, q⟩ := h
  cases x with
  | non =>
    cases rx
    cases y with
    | non => cases ry; exact PySem.EqNone.eq_none_none (fin_bl I q (by simp))
    | bl j => cases ry; exact PySem.EqNone.eq_none_bool (fin_bl I q (by simp))
    | int j => obtain ⟨t', rfl⟩ := ry; exact PySem.EqNone.eq_none_int (fin_bl I q (by simp))
    | str j => obtain ⟨t', rfl⟩ := ry; exact PySem.EqNone.eq_none_str (fin_bl I q (by simp))
    | _ => exact absurd (show false = true from hs) Bool.false_ne_true
  | bl i =>
    cases rx
    cases y with
    | non => cases ry; exact PySem.EqNone.eq_bool_none (fin_bl I q (by simp))
    | bl j => cases ry; exact eq_bool (fin_bl I q dec_bl)
    | str j => obtain ⟨t', rfl⟩ := ry; exact PySem.EqMixed.eq_bool_str (fin_bl I q (by simp))
    | _ => exact absurd (show false = true from hs) Bool.false_ne_true
  | int i =>
    obtain ⟨t, rfl⟩ := rx
    cases y with
    | non => cases ry; exact PySem.EqNone.eq_int_none (fin_bl I q (by simp))
    | int j => obtain ⟨t', rfl⟩ := ry; exact eq_int (fin_bl I q dec_int)
    | str j => obtain ⟨t', rfl⟩ := ry; exact PySem.EqMixed.eq_int_str (fin_bl I q (by simp))
    | _ => exact absurd (show false = true from hs) Bool.false_ne_true
  | str i =>
    obtain ⟨t, rfl⟩ := rx
    cases y with
    | non => cases ry; exact PySem.EqNone.eq_str_none (fin_bl I q (by simp))
    | bl j => cases ry; exact PySem.EqMixed.eq_str_bool (fin_bl I q (by simp))
    | int j => obtain ⟨t', rfl⟩ := ry; exact PySem.EqMixed.eq_str_int (fin_bl I q (by simp))
    | str j => obtain ⟨t', rfl⟩ := ry; exact eq_str (fin_bl I q dec_str)
    | _ => exact absurd (show false = true from hs) Bool.false_ne_true
  | byt i =>
    obtain ⟨t, rfl⟩ := rx
    cases y with
    | byt j => obtain ⟨t', rfl⟩ := ry; exact PySem.W.eq_bytes (fin_bl I q dec_byt)
    | _ => exact absurd (show false = true from hs) Bool.false_ne_true
  | _ => cases y <;> exact absurd (show false = true from hs) Bool.false_ne_true
theorem op_ne : OpR X (compareOp .NotEq) rNe := by
  intro pins s σ H x y v u Q I rx ry h
  obtain ⟨hs, q⟩ := h
  cases x with
  | non =>
    cases rx
    cases y with
    | non => cases ry; exact PySem.EqNone.ne_none_none (fin_bl I q (by simp))
    | bl j => cases ry; exact PySem.EqNone.ne_none_bool (fin_bl I q (by simp))
    | int j => obtain ⟨t', rfl⟩ := ry; exact PySem.EqNone.ne_none_int (fin_bl I q (by simp))
    | str j => obtain ⟨t', rfl⟩ := ry; exact PySem.EqNone.ne_none_str (fin_bl I q (by simp))
    | _ => exact absurd (show false = true from hs) Bool.false_ne_true
  | bl i =>
    cases rx
    cases y with
    | non => cases ry; exact PySem.EqNone.ne_bool_none (fin_bl I q (by simp))
    | bl j => cases ry; exact ne_bool (fin_bl I q (congrArg not dec_bl))
    | str j => obtain ⟨t', rfl⟩ := ry; exact PySem.EqMixed.ne_bool_str (fin_bl I q (by simp))
    | _ => exact absurd (show false = true from hs) Bool.false_ne_true
  | int i =>
    obtain ⟨t, rfl⟩ := rx
    cases y with
    | non => cases ry; exact PySem.EqNone.ne_int_none (fin_bl I q (by simp))
    | int j => obtain ⟨t', rfl⟩ := ry; exact ne_int (fin_bl I q (congrArg not dec_int))
    | str j => obtain ⟨t', rfl⟩ := ry; exact PySem.EqMixed.ne_int_str (fin_bl I q (by simp))
    | _ => exact absurd (show false = true from hs) Bool.false_ne_true
  | str i =>
    obtain ⟨t, rfl⟩ := rx
    cases y with
    | non => cases ry; exact PySem.EqNone.ne_str_none (fin_bl I q (by simp))
    | bl j => cases ry; exact PySem.EqMixed.ne_str_bool (fin_bl I q (by simp))
    | int j => obtain ⟨t', rfl⟩ := ry; exact PySem.EqMixed.ne_str_int (fin_bl I q (by simp))
    | str j => obtain ⟨t', rfl⟩ := ry; exact ne_str (fin_bl I q (congrArg not dec_str))
    | _ => exact absurd (show false = true from hs) Bool.false_ne_true
  | byt i =>
    obtain ⟨t, rfl⟩ := rx
    cases y with
    | byt j => obtain ⟨t', rfl⟩ := ry; exact PySem.W.ne_bytes (fin_bl I q (congrArg not dec_byt))
    | _ => exact absurd (show false = true from hs) Bool.false_ne_true
  | _ => cases y <;> exact absurd (show false = true from hs) Bool.false_ne_true

theorem op_le : OpR X (compareOp .LtE) (rI0 fun i j => .bl (decide (i ≤ j))) := opB0 fun _ _ _ _ _ _ _ q => le_int q
theorem op_gt : OpR X (compareOp .Gt) (rI0 fun i j => .bl (decide (j < i))) := opB0 fun _ _ _ _ _ _ _ q => gt_int q
theorem op_ge : OpR X (compareOp .GtE) (rI0 fun i j => .bl (decide (j ≤ i))) := opB0 fun _ _ _ _ _ _ _ q => ge_int q
/-- is None, is not None: the right side a value none -/
theorem op_isN : OpR X (compareOp .Is) (fun x y H Q => y = .non ∧ Q (.bl (decide (x = .non))) H) := by
  intro pins s σ H x y v u Q I rx ry h
  obtain ⟨rfl, q⟩ := h
  cases ry
  refine is_none_gen (fin_bl I q ?_)
  cases x <;> first
    | (cases rx; rfl)
    | (obtain ⟨t, rfl⟩ := rx; rfl)
/-- is, is not of two objects that are tracked lists or instances -/
def isObj : HO → Bool
  | .lst _ => true
  | .ins _ _ _ => true
  | _ => false
theorem obj_there {pins : List (Addr × Obj)} {s : Shared} {σ : St} {H : Hp} {a : Addr} {o : HO} (I : Inv X pins σ H s) (h : H a = some o) (p : isObj o = true) : ∃ ob, s.heap.get? a = some ob ∧ ob.cls ≠ .type "tuple" := by
  cases o with
  | lst xs =>
    obtain ⟨_, its, n, _, e⟩ : xs.length ≤ sizeLine ∧ ∃ (its : List Value) (n : Nat), Vals xs its ∧ s.heap.get? a = some { cls := .type "list", data := .seq its.toArray n } := I.hok a _ h
    exact ⟨_, e, (by show Value.type "list" ≠ .type "tuple"; decide +kernel)⟩
  | ins C dx fs =>
    have x := I.hok a _ h
    obtain ⟨_, _, _, e, _⟩ := x
    exact ⟨_, e, (by show Value.ref C ≠ .type "tuple"; exact fun z => by cases z)⟩
  | _ => exact absurd (show false = true from p) Bool.false_ne_true
/-- two rules for one operation: by cases -/
theorem OpR.or {f : Value → Value → Sem Value} {r r' : R2} (h : OpR X f r) (h' : OpR X f r') : OpR X f (fun x y H Q => r x y H Q ∨ r' x y H Q) := by
  intro pins s σ H x y v u Q I rx ry q
  rcases q with q | q
  · exact h pins s σ H x y v u Q I rx ry q
  · exact h' pins s σ H x y v u Q I rx ry q

theorem nomark (b : Expr) {op : CmpOp} (h : op ≠ .In := by decide) (h2 : op ≠ .NotIn := by decide) : behindInMarks op b = false := by
  have e1 : (op == CmpOp.In) = false := by cases op <;> first | rfl | exact absurd rfl h
  have e2 : (op == CmpOp.NotIn) = false := by cases op <;> first | rfl | exact absurd rfl h2
  cases b <;> simp [behindInMarks, e1, e2]
/-- a comparison as a value; hm: nomark b, or (for in, not in) by with_unfolding_all rfl -/
theorem pe_cmpR {op : CmpOp} {r : R2} (ho : OpR X (compareOp op) r) (ha : PE X a ta) (hb : PE X b tb) (hm : behindInMarks op b = false) : PE X (.Compare a [op] [b] pos) (tOp r ta tb) := by
  intro pins s σ H Q I h
  exact wpAny_Compare1 (binT ha hb I h fun v u s2 x y H2 I2 rx ry q => ho pins s2 σ H2 x y v u Q I2 rx ry q) hm
/-- a reading of a value as a test -/
def tTest (t : TE) : TT := fun σ H Q => t σ H fun x H' => ∃ k, x = .bl k ∧ Q k H'
theorem pt_cmpR {op : CmpOp} {r : R2} (ho : OpR X (compareOp op) r) (ha : PE X a ta) (hb : PE X b tb) (hm : behindInMarks op b = false) : PT X (.Compare a [op] [b] pos) (tTest (tOp r ta tb)) := by
  intro pins s σ H Q I h
  refine wpAny_isTrue_Compare1 (thn (ha pins s σ H _ I h) fun v s1 ⟨x, H1, I1, r1, q1⟩ => thn (hb pins s1 σ H1 _ I1 q1) fun u s2 ⟨y, H2, I2, r2, q2⟩ =>
    thn (ho pins s2 σ H2 x y v u _ I2 r1 r2 q2) fun c s3 ⟨z, H3, I3, r3, k, e, q3⟩ => ?_) hm
  subst e
  cases r3
  exact wpAny_truthy_bool ⟨H3, I3, q3⟩
/-- a op1 b op2 c -/
def tChain (r r' : R2) (ta tb tc : TE) : TE := fun σ H Q => ta σ H fun x H1 => tb σ H1 fun y H2 => r x y H2 fun z H3 => ∃ k, z = .bl k ∧
  (if k = true then tc σ H3 fun w' H4 => r' y w' H4 Q else Q (.bl false) H3)
theorem pe_chain {op op' : CmpOp} {r r' : R2} (ho : OpR X (compareOp op) r) (ho' : OpR X (compareOp op') r') (ha : PE X a ta) (hb : PE X b tb) (hc : PE X c tc)
    (hm : lastMarks [op, op'] [b, c] = false := by with_unfolding_all rfl) : PE X (.Compare a [op, op'] [b, c] pos) (tChain r r' ta tb tc) := by
  intro pins s σ H Q I h
  refine Compare_chain (thn (ha pins s σ H _ I h) fun v s1 ⟨x, H1, I1, r1, q1⟩ => chain_link (thn (hb pins s1 σ H1 _ I1 q1) fun u s2 ⟨y, H2, I2, r2, q2⟩ =>
    thn (ho pins s2 σ H2 x y v u _ I2 r1 r2 q2) fun d s3 ⟨z, H3, I3, r3, k, e, q3⟩ => ?_)) hm
  subst e
  cases r3
  refine wpAny_truthy_bool ?_
  cases k with
  | false => exact ite_ff ⟨.bl false, H3, I3, rfl, q3⟩
  | true => exact ite_tt (chain_last (thn (hc pins s3 σ H3 _ I3 q3) fun w' s4 ⟨z', H4, I4, r4, q4⟩ => ho' pins s4 σ H4 y z' u w' Q I4 r2 r4 q4))
/-- a value's truth by the abstract heap -/
def TruV (K : PySem.W.Frag) (x : V) (H : Hp) (k : Bool) : Prop :=
  match x with
  | .non => k = false
  | .bl b => k = b
  | .int i => k = (i != 0)
  | .str y => y.length ≤ sizeLine ∧ k = ((y.length : Int) != 0)
  | .byt y => y.size ≤ sizeLine ∧ k = ((y.size : Int) != 0)
  | .ref p => (∃ xs, SqL K H p xs ∧ k = !xs.isEmpty) ∨ (∃ xs, SqT K H p xs ∧ k = !xs.isEmpty) ∨ ∃ kvs, H p = some (.dK kvs) ∧ k = !kvs.isEmpty
  | _ => False
theorem isEmpty_kv {κ : Type} {kvs : List (κ × V)} {vs : List (κ × Value)} (r : KV kvs vs) : (!vs.isEmpty) = !kvs.isEmpty := by
  cases r <;> rfl
theorem isEmpty_of {xs : List V} {its : List Value} (r : Vals xs its) : (!its.toArray.isEmpty) = !xs.isEmpty := by
  cases r <;> simp
theorem line63 : (sizeLine : Nat) < 2 ^ 63 := by rw [sizeLine_eq]; decide
theorem tru_ok : TruR X (fun x H Q => ∃ k, TruV X.K x H k ∧ Q k H) := by
  intro pins s σ H x v Q I rx h
  obtain ⟨k, e, q⟩ := h
  have hl := line63
  have hs : sizeLine = 16777216 := sizeLine_eq
  cases x with
  | non =>
    cases rx
    have e' : k = false := e
    subst e'
    exact truthy_none ⟨H, I, q⟩
  | bl b =>
    cases rx
    have e' : k = b := e
    subst e'
    exact wpAny_truthy_bool ⟨H, I, q⟩
  | int i =>
    obtain ⟨t, rfl⟩ := rx
    have e' : k = (i != 0) := e
    subst e'
    exact PySem.P.truthy_int ⟨H, I, q⟩
  | str y =>
    obtain ⟨t, rfl⟩ := rx
    obtain ⟨hy, e'⟩ : y.length ≤ sizeLine ∧ k = ((y.length : Int) != 0) := e
    subst e'
    exact PySem.P.truthy_str (by omega) ⟨H, I.tok _, q⟩
  | byt y =>
    obtain ⟨t, rfl⟩ := rx
    obtain ⟨hy, e'⟩ : y.size ≤ sizeLine ∧ k = ((y.size : Int) != 0) := e
    subst e'
    exact PySem.W.truthy_bytes (by omega) ⟨H, I.tok _, q⟩
  | ref p =>
    cases rx
    have e' : (∃ xs, SqL X.K H p xs ∧ k = !xs.isEmpty) ∨ (∃ xs, SqT X.K H p xs ∧ k = !xs.isEmpty) ∨ ∃ kvs, H p = some (.dK kvs) ∧ k = !kvs.isEmpty := e
    rcases e' with ⟨xs, hx, e'⟩ | ⟨xs, hx, e'⟩ | ⟨kvs, hx, e'⟩
    · subst e'
      obtain ⟨its, r, pl, hz⟩ := I.list hx
      have hlen := r.length
      exact wpAny_truthy_list pl.isList (by simp only [List.size_toArray]; omega) ⟨H, I.tok _, by rw [isEmpty_of r]; exact q⟩
    · subst e'
      obtain ⟨its, r, pl, hz⟩ := I.tuple hx
      have hlen := r.length
      exact truthy_tuple pl (by simp only [List.size_toArray]; omega) ⟨H, I.tok _, by rw [isEmpty_of r]; exact q⟩
    · subst e'
      obtain ⟨hz, hS, vs, r, m⟩ : kvs.length ≤ sizeLine ∧ (p == sysModules) = false ∧ ∃ vs, KV kvs vs ∧ s.heap.DictOf (mixKind X.prog X.w) p vs := I.hok p _ hx
      have hlen : kvs.length = vs.length := Paired.length r
      exact wpAny_truthy_dict hS m (by omega) ⟨H, I.tok _, by rw [isEmpty_kv r]; exact q⟩
  | _ => exact (show False from e).elim
/-- any expression whose test is its value's truth (a name, a call, a subscript, a field ..: he by fun _ => rfl) -/
theorem pt_truth (ha : PE X a ta) (he : ∀ whole, isTrue a X.env whole = (do let v ← whole; standAt a.pos; holding [v] (truthy v))) :
    PT X a (fun σ H Q => ta σ H fun x H' => ∃ k, TruV X.K x H' k ∧ Q k H') := by
  intro pins s σ H Q I h
  exact isTrue_plain (thn (ha pins s σ H _ I h) fun v s1 ⟨x, H1, I1, r1, q1⟩ => tru_ok pins s1 σ H1 x v Q I1 r1 q1) (he _)

theorem vals1 {x : V} {us : List Value} (r : Vals [x] us) : ∃ u, us = [u] ∧ RelV x u := by
  cases r with
  | cons r1 r2 => cases r2; exact ⟨_, rfl, r1⟩
theorem call_str_int : CallR X (.type "str") (fun xs H Q => ∃ i, xs = [.int i] ∧ i.natAbs.log2 < 1920 ∧ Q (.str (toString i)) H) := by
  intro pins s σ H xs us Q I r h
  obtain ⟨i, rfl, hz, q⟩ := h
  obtain ⟨u, rfl, t, rfl⟩ := vals1 r
  exact PySem.P.str_of_int hz ⟨.str _, H, I.tok _, ⟨_, rfl⟩, q⟩
end
end L2
namespace L2
open PySem PySem.Spec PyProof.Rows
structure ObjM (h : Heap) (x dx C : Addr) (mA : Str → Option Value) : Prop where
  obj : h.get? x = some (PySem.W.instObj C dx)
  ns : h.Ns1 dx mA
  ne : dx ≠ x

theorem lookIn_ns {h : Heap} {dx : Addr} {mA : Str → Option Value} (n : h.Ns1 dx mA) : ∃ od, h.get? dx = some od ∧ ∀ name, PySem.W.lookIn name od = some (mA name) := by
  obtain ⟨o, es, ep, ho, hd, hk, _, hm⟩ := n
  refine ⟨o, ho, fun name => ?_⟩
  have e := hm name
  unfold nsFind findBy at e
  rw [← Array.find?_toList] at e
  unfold PySem.W.lookIn
  rw [hd]
  dsimp only
  split
  · rename_i y q
    rw [q] at e
    exact congrArg some e
  · rename_i q
    rw [q] at e
    have a : es.toList.any (·.refKey) = false := by
      rw [List.any_eq_false]
      intro y hy
      obtain ⟨z, t, hkey⟩ := hk y (Array.mem_toList_iff.mp hy)
      simp [DictEntry.refKey, hkey]
    have a' : ¬ es.toList.any (·.refKey) = true := by rw [a]; exact Bool.false_ne_true
    rw [if_neg a']
    exact congrArg some e

theorem ObjM.look {h : Heap} {x dx C : Addr} {mA : Str → Option Value} (I : ObjM h x dx C mA) : ∃ od, PySem.W.InstAt h x (PySem.W.instObj C dx) C (some od) ∧ ∀ name, PySem.W.lookIn name od = some (mA name) :=
  let ⟨od, ho, hl⟩ := lookIn_ns I.ns
  ⟨od, ⟨I.obj, rfl, rfl, ho⟩, hl⟩

section
variable {prog : Program} {w : World} {A : Around} {E : Value → Shared → Prop} {s : Shared} {K : PySem.W.Frag} {x dx C f : Addr} {mA : Str → Option Value} {name : Str} {v : Value}
end
def putF (f : Str) (v : V) : List (Str × V) → List (Str × V)
  | [] => [(f, v)]
  | (g, x) :: r => if g = f then (g, v) :: r else (g, x) :: putF f v r
section
variable {P : Program} {w : World} {H H' : Hp} {h h' : Heap} {a C dx : Addr} {fs fs' : List (Str × V)}
end
structure Cls (K : PySem.W.Frag) (C : Addr) : Prop where
  pg : PySem.W.plainGet K C Str.empty = true
  hd : PySem.W.hasDictIn K C = true
  po : PySem.W.plainOver K C = true
  sa : PySem.W.findIn K (.ref C) "__setattr__" = some (some (.builtin "object.__setattr__"))
theorem Cls.get {K : PySem.W.Frag} {C : Addr} (c : Cls K C) (f : Str) : PySem.W.plainGet K C f = true := c.pg
section
variable {X : Cx} {pins : List (Addr × Obj)} {σ : St} {H : Hp} {s : Shared} {a C dx : Addr} {fs : List (Str × V)} {f : Str} {v : V} {A : Around} {E : Value → Shared → Prop}
/-- a new instance, tracked, without attributes -/
theorem Inv.made (I : Inv X pins σ H s) : Inv X pins σ (upd (upd H s.heap.objs.size (.own (s.heap.objs.size + 1))) (s.heap.objs.size + 1) (.ins C s.heap.objs.size []))
    { s with heap := (s.heap.push PySem.W.emptyDict).push (PySem.W.instObj C s.heap.objs.size) } := by
  have e1 : (s.heap.push PySem.W.emptyDict).get? s.heap.objs.size = some PySem.W.emptyDict := Heap.get?_push_size s.heap rfl
  have e2 : ((s.heap.push PySem.W.emptyDict).push (PySem.W.instObj C s.heap.objs.size)).get? (s.heap.objs.size + 1) = some (PySem.W.instObj C s.heap.objs.size) := by
    have := Heap.get?_push_size (s.heap.push PySem.W.emptyDict) (o := PySem.W.instObj C s.heap.objs.size) rfl
    rwa [Heap.size_push] at this
  have e3 : (s.heap.push PySem.W.emptyDict).Ns s.heap.objs.size (fun _ => none) := ⟨PySem.W.emptyDict, #[], _, e1, rfl, (fun e he => absurd he (by simp)), fun _ => rfl⟩
  have I1 := I.laid (a := s.heap.objs.size) (o := .own (s.heap.objs.size + 1)) (h' := s.heap.push PySem.W.emptyDict) (t' := s.toks) (fun b u q => Heap.get?_push_of_some _ q) (Nat.le_refl _) ⟨_, e1⟩
  refine I1.laid (a := s.heap.objs.size + 1) (o := .ins C s.heap.objs.size []) (t' := s.toks) (fun b u q => Heap.get?_push_of_some _ q) (Nat.le_of_eq (Heap.size_push _ _)) ?_
  have ne : s.heap.objs.size ≠ s.heap.objs.size + 1 := Nat.ne_of_lt (Nat.lt_succ_self _)
  refine ⟨by rw [upd_ne ne, upd_same], Nat.zero_le _, ne, e2, fun _ => none, (Heap.Ns1.of_empty e3).at fun o q => Heap.get?_push_of_some _ q, fun _ => True.intro, fun y hy => absurd rfl hy⟩

end
section
variable {X : Cx} {o e value : Expr} {f : Str} {pos pos' tpos : Pos} {ta tv : TE}
end
section
variable {X : Cx} {pins : List (Addr × Obj)} {σ : St} {H : Hp} {s : Shared} {A : Around} {E : Value → Shared → Prop} {Q : Value → Shared → Prop} {c : Value} {b : Bool}
end
end L2
namespace L2
open PySem PySem.Spec PyProof.Rows
structure Room (k : Nat) (A : Around) : Prop where
  hd : A.handled = none
  dp : A.depth + 3 * k + 5 < recursionLimit
  un : A.units + 16 * k + 200 < cLine
theorem Room.mono {j k : Nat} {A : Around} (r : Room k A) (h : j ≤ k) : Room j A := ⟨r.hd, by have := r.dp; omega, by have := r.un; omega⟩
theorem Room.deeper {k : Nat} {A : Around} (r : Room (k + 1) A) (env : Env) : Room k (A.deeper env) :=
  ⟨r.hd, by have := r.dp; show A.depth + 1 + 3 * k + 5 < _; omega, by have := r.un; show A.units + 3 + 16 * k + 200 < _; omega⟩
theorem Room.in1 {k : Nat} {A : Around} (r : Room (k + 1) A) : Room k A.in1 :=
  ⟨r.hd, by have := r.dp; show A.depth + 3 * k + 5 < _; omega, by have := r.un; show A.units + 1 + 16 * k + 200 < _; omega⟩
theorem make_depth {A : Around} {C : Addr} {us : List Value} {kw : List (Str × Value)} : (A.under (.builtin "type.__call__" ⟨.ref C :: us, kw⟩)).depth = A.depth + 1 := by
  first | rfl | simp [Around.under, Code.weight, Code.isCreation, Code.isGuard, Code.isCaller, Code.frames, Code.isFrame, guardIds]
theorem make_units {A : Around} {C : Addr} {us : List Value} {kw : List (Str × Value)} : (A.under (.builtin "type.__call__" ⟨.ref C :: us, kw⟩)).units = A.units + 1 := by
  first | rfl | simp [Around.under, Code.cUnits, Code.frames, Code.isFrame]
theorem Room.make {k : Nat} {A : Around} (r : Room (k + 1) A) (C : Addr) (us : List Value) (kw : List (Str × Value)) : Room k (A.under (.builtin "type.__call__" ⟨.ref C :: us, kw⟩)) :=
  ⟨r.hd, by have := r.dp; rw [make_depth]; omega, by have := r.un; rw [make_units]; omega⟩
theorem Room.depth {k : Nat} {A : Around} (r : Room k A) : A.depth < recursionLimit := by have := r.dp; omega
theorem Room.units {k : Nat} {A : Around} (r : Room k A) : A.units + 64 < cLine := by have := r.un; omega
def tNil : TA := fun _ H Q => Q [] H
def tCons (ta : TE) (tr : TA) : TA := fun σ H Q => ta σ H fun x H1 => tr σ H1 fun xs H2 => Q (x :: xs) H2
section
variable {X : Cx} {e : Expr} {es : List Expr} {te : TE} {t : TA} {pos : Pos}
theorem pa_nil : PA X [] tNil := fun _ _ _ _ H Q I h => Calls.spliced_nil ⟨[], H, I, .nil, h⟩
theorem pa_cons (ha : PE X e te) (hr : PA X es t) (hs : starEach (e :: es) X.env = (false, eval e X.env) :: starEach es X.env := by rfl) : PA X (e :: es) (tCons te t) := by
  intro pos pins s σ H Q I h
  rw [hs]
  show wpAny _ _ (spliced ((false, eval e X.env) :: backTo pos (starEach es X.env))) _ _ s
  refine Calls.spliced_cons (thn (ha pins s σ H _ I h) fun u s1 ⟨x, H1, I1, r1, q1⟩ => ?_)
  exact thn (hr pos pins s1 σ H1 _ I1 q1) fun us s2 ⟨xs, H2, I2, r2, q2⟩ => ⟨x :: xs, H2, I2, .cons r1 r2, q2⟩

/-- a tuple, a list of written items -/
def tTup (t : TA) : TE := fun σ H Q => t σ H fun xs H1 => xs.length ≤ sizeLine ∧ ∀ p, H1 p = none → Q (.ref p) (upd H1 p (.tup xs))
def tLst (t : TA) : TE := fun σ H Q => t σ H fun xs H1 => xs.length ≤ sizeLine ∧ ∀ p, H1 p = none → Q (.ref p) (upd H1 p (.lst xs))
theorem pe_tup {x1} (h : PA X es t) : PE X (.Tuple es x1 pos) (tTup t) := by
  intro pins s σ H Q I hq
  refine wpAny_Tuple_spliced (thn (h pos pins s σ H _ I hq) fun us s1 ⟨xs, H1, I1, r, z, q⟩ => ⟨by rw [← r.length]; exact z, ?_⟩)
  have hf : H1 s1.heap.objs.size = none := I1.hok.fresh (Nat.le_refl _)
  refine ⟨.ref s1.heap.objs.size, upd H1 s1.heap.objs.size (.tup xs), I1.laid (t' := s1.toks) (fun b u e => Heap.get?_push_of_some _ e) (Nat.le_refl _) ?_, rfl, q _ hf⟩
  exact ⟨z, us, r, ⟨_, Heap.get?_push_size _ rfl, rfl, _, rfl⟩⟩
theorem pe_lst (h : PA X es t) : PE X (.List es pos) (tLst t) := by
  intro pins s σ H Q I hq
  refine wpAny_List_spliced (thn (h pos pins s σ H _ I hq) fun us s1 ⟨xs, H1, I1, r, z, q⟩ => ⟨by rw [← r.length]; exact z, ?_⟩)
  have hf : H1 s1.heap.objs.size = none := I1.hok.fresh (Nat.le_refl _)
  refine ⟨.ref s1.heap.objs.size, upd H1 s1.heap.objs.size (.lst xs), I1.laid (t' := s1.toks) (fun b u e => Heap.get?_push_of_some _ e) (Nat.le_refl _) ?_, rfl, q _ hf⟩
  exact ⟨z, us, 0, r, Heap.get?_push_size _ rfl⟩
end
/-- a def's promise: the bound arguments in the parameters' order, the heap, the wanted end, the wanted exception -/
abbrev Sp := List V → Hp → VK → XK → Prop
/-- how an exception lies behind a call (file 08 gives it): the callers' frames, abstract heap and state ahead of the call, the wish, the exception, the state -/
abbrev CXT := List Env → Hp → Shared → XK → Value → Shared → Prop

/-- the state at a call -/
structure Env0 (P : Program) (w : World) (K : PySem.W.Frag) (mg : Str → Option Value) (base : Heap) (A : Around) (outer : List Env) (s : Shared) (H : Hp) : Prop where
  mod : Mod K mg base
  bs : ∀ b o, base.get? b = some o → s.heap.get? b = some o ∧ H b = none
  bsz : base.objs.size ≤ s.heap.objs.size
  funs : s.heap.FunFrames base outer
  frf : ∀ b ∈ frs outer, H b = none
  hok : HOk P w H s.heap
/-- which generators' predicates a def of k calls keeps -/
def Cl (k : Nat) (gp : Array GenState → Drawn → Prop) : Prop := 10 ≤ k → ∀ g d, gp g d ↔ AllBare g
theorem Cl.mono {j k : Nat} {gp : Array GenState → Drawn → Prop} (h : Cl k gp) (l : j ≤ k) : Cl j gp := fun z => h (Nat.le_trans z l)
/-- a call's end -/
def CE (gp : Array GenState → Drawn → Prop) (outer : List Env) (P : Program) (w : World) (H : Hp) (s : Shared) (Q : VK) (u : Value) (s' : Shared) : Prop :=
  ∃ v H', s'.os = s.os ∧ gp s'.gens s'.drawn ∧ Un (frs outer) [] H H' s.heap s'.heap ∧ HOk P w H' s'.heap ∧ RelV v u ∧ Q v H'
def CR (gp : Array GenState → Drawn → Prop) (CX : CXT) (outer : List Env) (P : Program) (w : World) (H : Hp) (s : Shared) (Q : VK) (E : XK) (r : Result) (s' : Shared) : Prop :=
  match r with
  | .ok (.ret u) => CE gp outer P w H s Q u s'
  | .ok _ => False
  | .error e => CX outer H s E e s'
structure FnOk (P : Program) (w : World) (K : PySem.W.Frag) (mg : Str → Option Value) (base : Heap) (CX : CXT) (k : Nat) (f : Addr) (fd : FuncData) (ps : List Str) (sp : Sp) : Prop where
  len : ∀ vs H Q E, sp vs H Q E → vs.length = ps.length
  run : ∀ (A : Around) (outer : List Env) (s : Shared) (H : Hp) (args : Args) (us : List Value) (vs : List V) (Q : VK) (E : XK) (gp : Array GenState → Drawn → Prop), Cl k gp → gp s.gens s.drawn → ((∀ g d, gp g d ↔ AllBare g) → A.frames = some outer ∧ A.guards = some []) → Room k A → Env0 P w K mg base A outer s H → BindsTo s fd args (ps.zip us) → Vals vs us → sp vs H Q E →
    codeAny (model P w) A (.call (.ref f) args) (CR gp CX outer P w H s Q E) s
theorem FnOk.mono {P : Program} {w : World} {K : PySem.W.Frag} {mg : Str → Option Value} {base : Heap} {CX : CXT} {j k : Nat} {f : Addr} {fd : FuncData} {ps : List Str} {sp : Sp} (F : FnOk P w K mg base CX j f fd ps sp) (h : j ≤ k) :
    FnOk P w K mg base CX k f fd ps sp := ⟨F.len, fun A outer s H args us vs Q E gp hc hg hf hr => F.run A outer s H args us vs Q E gp (hc.mono h) hg hf (hr.mono h)⟩
/-- a weaker promise -/
theorem FnOk.imp {P : Program} {w : World} {K : PySem.W.Frag} {mg : Str → Option Value} {base : Heap} {CX : CXT} {k : Nat} {f : Addr} {fd : FuncData} {ps : List Str} {sp sp' : Sp} (F : FnOk P w K mg base CX k f fd ps sp)
    (h : ∀ vs H Q E, sp' vs H Q E → sp vs H Q E) : FnOk P w K mg base CX k f fd ps sp' :=
  ⟨fun vs H Q E q => F.len vs H Q E (h _ _ _ _ q), fun A outer s H args us vs Q E gp hc hg hf hr he hb hv hs => F.run A outer s H args us vs Q E gp hc hg hf hr he hb hv (h _ _ _ _ hs)⟩

theorem Env0.make {P : Program} {w : World} {K : PySem.W.Frag} {mg : Str → Option Value} {base : Heap} {A : Around} {outer : List Env} {s : Shared} {H : Hp} (e : Env0 P w K mg base A outer s H) (C : Addr) (us : List Value) (kw : List (Str × Value)) :
    Env0 P w K mg base (A.under (.builtin "type.__call__" ⟨.ref C :: us, kw⟩)) outer s H := ⟨e.mod, e.bs, e.bsz, e.funs, e.frf, e.hok⟩
theorem Env0.in1 {P : Program} {w : World} {K : PySem.W.Frag} {mg : Str → Option Value} {base : Heap} {A : Around} {outer : List Env} {s : Shared} {H : Hp} (e : Env0 P w K mg base A outer s H) :
    Env0 P w K mg base A.in1 outer s H := ⟨e.mod, e.bs, e.bsz, e.funs, e.frf, e.hok⟩

section
variable {X : Cx} {pins : List (Addr × Obj)} {σ : St} {H : Hp} {s s' : Shared}
/-- from a body: what a callee wants -/
theorem Inv.env0 (I : Inv X pins σ H s) : Env0 X.prog X.w X.K X.mg X.base X.A X.stack s H :=
  ⟨I.ok.mod, I.bs, Nat.le_trans I.ok.bsz I.sz, I.stack, I.stkFree, I.hok⟩
/-- behind a call -/
theorem Inv.after {Q : VK} {u : Value} (I : Inv X pins σ H s) (h : CE X.gp X.stack X.prog X.w H s Q u s') : EP X pins σ Q u s' := by
  obtain ⟨v, H', os, bare, un, hok, r, q⟩ := h
  obtain ⟨hh, g, d, t, os'⟩ := s'
  obtain rfl : os' = s.os := os
  exact ⟨v, H', I.call (h' := hh) (g' := g) (d' := d) (t' := t) (ch := []) un hok bare (fun b z => absurd z (by simp)), r, q⟩
end
/-- f(..): the written arguments, then the defaults dvs; E: what is wanted of an exception -/
def tCall (sp : Sp) (dvs : List V) (E : XK) (t : TA) : TE := fun σ H Q => t σ H fun vs H1 => sp (vs ++ dvs) H1 Q E
/-- how the parameters are bound: us the positional arguments, kw the keywords' values by name, ds the defaults that fill up -/
def Binds (K : PySem.W.Frag) (fd : FuncData) (ps : List Str) (ds : List Value) : Prop :=
  ∀ (s : Shared) (us : List Value), K.In s.heap → (us ++ ds).length = ps.length → BindsTo s fd ⟨us, []⟩ (ps.zip (us ++ ds))
/-- every parameter is given -/
theorem Binds.all {K : PySem.W.Frag} {fd : FuncData} {ps : List Str} (h : ∀ us : List Value, us.length = ps.length → bindArgs fd ⟨us, []⟩ = pure (ps.zip us)) : Binds K fd ps [] := fun s us _ hl => by
  rw [List.append_nil] at hl ⊢
  exact .of_eq (h us hl)

/-- an exception of a callee reaches what this body wants of exceptions -/
def Passes (CX : CXT) (X : Cx) (E : XK) : Prop := ∀ (pins : List (Addr × Obj)) (σ : St) (H : Hp) (s : Shared) (e : Value) (s' : Shared), Inv X pins σ H s → CX X.stack H s E e s' → X.xe e s'

section
variable {X : Cx} {CX : CXT} {k : Nat} {f C : Addr} {fd : FuncData} {ps : List Str} {sp : Sp} {dvs : List V} {ds : List Value} {E : XK} {x m : Str} {p pos apos : Pos} {e o : Expr} {es : List Expr} {ta : TE} {t : TA}
/-- the callee runs -/
theorem run_fn {pins : List (Addr × Obj)} {σ : St} {H : Hp} {s : Shared} {Q : VK} {us : List Value} {vs : List V} (F : FnOk X.prog X.w X.K X.mg X.base CX k f fd ps sp) (hcl : Cl k X.gp) (hr : Room k X.A) (hb : Binds X.K fd ps ds) (hd : Vals dvs ds) (hx : Passes CX X E)
    (I : Inv X pins σ H s) (r : Vals vs us) (h : sp (vs ++ dvs) H Q E) : wpAny (model X.prog X.w) X.A (call (.ref f) us) (EP X pins σ Q) X.xe s := by
  have r2 : Vals (vs ++ dvs) (us ++ ds) := r.append hd
  have hl : (us ++ ds).length = ps.length := by rw [← r2.length]; exact F.len _ _ _ _ h
  refine wpAny_call (codeAny_mono (F.run X.A X.stack s H ⟨us, []⟩ (us ++ ds) (vs ++ dvs) Q E X.gp hcl I.bare I.ok.frames hr I.env0 (hb s us I.kIn hl) r2 h) fun r s' hq => ?_)
  cases r with
  | error e => exact hx pins σ H s e s' I hq
  | ok fl =>
    cases fl with
    | ret u => exact I.after hq
    | next => exact False.elim hq
    | brk => exact False.elim hq
    | cont => exact False.elim hq

theorem pe_call (F : FnOk X.prog X.w X.K X.mg X.base CX k f fd ps sp) (hr : Room k X.A) (hg : Gl X x) (hm : X.mg x = some (.ref f)) (hk : PySem.W.keepIn X.K (.ref f) = true) (hb : Binds X.K fd ps ds) (hd : Vals dvs ds) (hx : Passes CX X E)
    (ha : PA X (e :: es) t) (hdb : (x == ("__debug__" : Str)) = false := by decide) (he : starEach (e :: es) X.env = (false, eval e X.env) :: starEach es X.env := by rfl) (hpl : (backTo pos (starEach es X.env)).any (·.1) = false := by rfl) (hcl : Cl k X.gp := by first | assumption | exact Cl.mono (by assumption) (by decide)) :
    PE X (.Call (.Name x p) (e :: es) [] pos) (tCall sp dvs E t) := by
  intro pins s σ H Q I h
  refine wpAny_Call_Name_kw (ld_glob I hg hm ?_ hdb)
  refine PySem.W.callWith_K (h₀ := X.base) I.ok.mod.kin hk (thn (ha pos pins s σ H _ I h) fun us s1 ⟨vs, H1, I1, r, q⟩ => ⟨I1.kIn, ?_⟩) he hpl
  exact run_fn F hcl hr hb hd hx I1 r q
end
section
variable {X : Cx} {CX : CXT} {k : Nat} {f C : Addr} {fd : FuncData} {ps ks : List Str} {sp : Sp} {E : XK} {x m : Str} {p pos apos kpos : Pos} {e o : Expr} {es : List Expr} {kws : List Keyword} {te ta : TE} {t tk : TA} {nm : Option Str}
def tCallK (sp : Sp) (gV : List V → List V → List V) (E : XK) (t tk : TA) : TE := fun σ H Q => t σ H fun vs H1 => tk σ H1 fun zs H2 => sp (gV vs zs) H2 Q E
variable {g : List Value → List Value → List Value} {gV : List V → List V → List V}
end
/-- names: the parameters first -/
structure FnScope (N P : List Str) (sc : Scope) : Prop where
  kind : sc.kind = .function
  co : sc.isCoroutine = false
  gen : sc.isGenerator = false
  nd : N.Nodup
  pre : N.take P.length = P
  par : ∀ x ∈ P, sc.names.lookup x = some .local ∨ sc.names.lookup x = some .cell
  nofree : ∀ y ∈ sc.names, y.2 ≠ .free

theorem bindL_out {kindOf : Str → Option NameKind} {x : Str} : ∀ {binds : List (Str × Value)} {m : Str → Option Value}, (∀ v, (x, v) ∉ binds) → bindL kindOf binds m x = m x
  | [], _, _ => rfl
  | (n, v) :: r, m, h => by
    unfold bindL
    rw [bindL_out fun w hw => h w (List.mem_cons_of_mem _ hw)]
    split
    · have : x ≠ n := by rintro rfl; exact h v List.mem_cons_self
      simp [this]
    · rfl
theorem bindC_out {kindOf : Str → Option NameKind} {x : Str} : ∀ {binds : List (Str × Value)} {m : Str → Option Value}, (∀ v, (x, v) ∉ binds) → bindC kindOf binds m x = m x
  | [], _, _ => rfl
  | (n, v) :: r, m, h => by
    unfold bindC
    rw [bindC_out fun w hw => h w (List.mem_cons_of_mem _ hw)]
    split
    · rfl
    · have : x ≠ n := by rintro rfl; exact h v List.mem_cons_self
      simp [this]
theorem bindL_get {kindOf : Str → Option NameKind} {x : Str} {v : Value} : ∀ {P : List Str} {vs : List Value} {i : Nat} {m : Str → Option Value}, P.Nodup → P[i]? = some x → vs[i]? = some v → kindOf x = some .local →
    bindL kindOf (P.zip vs) m x = some v
  | [], _, _, _, _, h, _, _ => by simp at h
  | _ :: _, [], _, _, _, _, h, _ => by simp at h
  | p :: P, w :: vs, 0, m, nd, h1, h2, hk => by
    simp at h1 h2; subst h1; subst h2
    show bindL kindOf ((p, w) :: P.zip vs) m p = _
    unfold bindL
    rw [bindL_out fun v hv => (List.nodup_cons.mp nd).1 (List.of_mem_zip hv).1, if_pos hk]
    simp
  | p :: P, w :: vs, i + 1, m, nd, h1, h2, hk => by
    show bindL kindOf ((p, w) :: P.zip vs) m x = _
    unfold bindL
    exact bindL_get (i := i) (List.nodup_cons.mp nd).2 (by simpa using h1) (by simpa using h2) hk
theorem bindC_get {kindOf : Str → Option NameKind} {x : Str} {v : Value} : ∀ {P : List Str} {vs : List Value} {i : Nat} {m : Str → Option Value}, P.Nodup → P[i]? = some x → vs[i]? = some v → kindOf x ≠ some .local →
    bindC kindOf (P.zip vs) m x = some v
  | [], _, _, _, _, h, _, _ => by simp at h
  | _ :: _, [], _, _, _, _, h, _ => by simp at h
  | p :: P, w :: vs, 0, m, nd, h1, h2, hk => by
    simp at h1 h2; subst h1; subst h2
    show bindC kindOf ((p, w) :: P.zip vs) m p = _
    unfold bindC
    rw [bindC_out fun v hv => (List.nodup_cons.mp nd).1 (List.of_mem_zip hv).1, if_neg hk]
    simp
  | p :: P, w :: vs, i + 1, m, nd, h1, h2, hk => by
    show bindC kindOf ((p, w) :: P.zip vs) m x = _
    unfold bindC
    exact bindC_get (i := i) (List.nodup_cons.mp nd).2 (by simpa using h1) (by simpa using h2) hk

/-- the names' values at the entry -/
def start (N : List Str) (vs : List V) : St := vs.map some ++ List.replicate (N.length - vs.length) none

/-- the context of a def's body, at its entry; an exception leaves the frame, then lies as CX says -/
def cxOf (CX : CXT) (P : Program) (w : World) (K : PySem.W.Frag) (mg : Str → Option Value) (base : Heap) (N : List Str) (qual : Str) (scope : Scope) (f : Addr) (cd : Value) (A : Around) (outer : List Env) (s : Shared) (H : Hp) (E : XK) (gp : Array GenState → Drawn → Prop) : Cx where
  prog := P
  w := w
  K := K
  mg := mg
  base := base
  A := A.deeper (envOfC qual scope s.heap.objs.size f cd)
  N := N
  s_0 := s
  H_0 := H
  env := envOfC qual scope s.heap.objs.size f cd
  outer := outer
  stack := envOfC qual scope s.heap.objs.size f cd :: outer
  ex := []
  calm := true
  fn := fun _ => true
  pn := []
  xe := fun e s' => wpAny (model P w) (A.deeper (envOfC qual scope s.heap.objs.size f cd)) (leaving (envOfC qual scope s.heap.objs.size f cd) e) (fun _ s'' => CX outer H s E e s'') (fun e' s'' => CX outer H s E e' s'') s'
  gp := gp

theorem cell_has {sc : Scope} {n : Nat} {x : Str} (h : sc.names.lookup x = some .cell) : ∃ c, (cellsFrom n sc.names []).lookup x = some c := by
  have q := PySem.W.cellsFrom_some sc.names n [] (.inl h)
  exact Option.isSome_iff_exists.mp q

theorem inv_start {CX : CXT} {P : Program} {w : World} {K : PySem.W.Frag} {mg : Str → Option Value} {base : Heap} {N ps : List Str} {qual : Str} {scope : Scope} {f : Addr} {cd : Value} {A : Around} {outer : List Env} {s s1 : Shared} {H : Hp} {E : XK} {us : List Value} {vs : List V} {gp : Array GenState → Drawn → Prop}
    (hgp : gp s.gens s.drawn) (hfr : (∀ g d, gp g d ↔ AllBare g) → A.frames = some outer ∧ A.guards = some []) (S : FnScope N ps scope) (hd : A.handled = none) (e0 : Env0 P w K mg base A outer s H) (hl : vs.length = ps.length) (r : Vals vs us)
    (x : InCallC s s.heap.objs.size (bindL (envOfC qual scope s.heap.objs.size f cd).kindOf (ps.zip us) fun _ => none) (cellsFrom (s.heap.objs.size + 1) scope.names []) (bindC (envOfC qual scope s.heap.objs.size f cd).kindOf (ps.zip us) fun _ => none) s1) :
    Inv (cxOf CX P w K mg base N qual scope f cd A outer s H E gp) [] (start N vs) H s1 := by
  have hpl : ps.length ≤ N.length := by have := congrArg List.length S.pre; rw [List.length_take] at this; omega
  obtain ⟨h1, tk, rfl, hk⟩ := x.done
  have noA : ∀ b : Addr, b ∉ (cxOf CX P w K mg base N qual scope f cd A outer s H E gp).ex := fun b z => absurd (show b ∈ ([] : List Addr) from z) (by simp)
  refine ⟨⟨e0.mod, S.kind, rfl, rfl, Nat.le_refl _, fun y z c h1 h2 => ?_, fun y hy => ?_, fun y c _ h => ?_, fun _ => hd, fun z => ⟨Around.frames_deeper (hfr z).1, (hfr z).2⟩, .inr ⟨rfl, rfl⟩, fun b z => absurd z (noA b), e0.bs, e0.bsz, fun b _ _ => noA b, fun b z => absurd z (noA b), e0.funs, e0.frf⟩,
    rfl, hgp, Un.kept hk, ⟨_, x.toInCall.ns, fun i y v h1 h2 h3 => ?_⟩, fun y c h => ⟨_, x.cell y c h⟩, e0.hok.fresh (Nat.le_refl _), fun y c h => ?_, fun p hp => absurd (show p ∈ ([] : List (Addr × Obj)) from hp) (by simp), e0.hok.kept hk, ?_⟩
  · exact name_of_addr x.apart (PySem.mem_of_lookup h1) (PySem.mem_of_lookup h2)
  · have hy : scope.names.lookup y = some .cell ∨ scope.names.lookup y = some .free := hy
    rcases hy with hy | hy
    · exact cell_has hy
    · exact absurd rfl (S.nofree _ (PySem.mem_of_lookup hy))
  · exact Nat.le_of_lt (x.above y c (PySem.mem_of_lookup h))
  · have hi : i < vs.length := by
      unfold start at h2
      by_cases hi : i < vs.length
      · exact hi
      · rw [List.getElem?_append_right (by simpa using hi)] at h2
        rw [List.getElem?_replicate] at h2
        split at h2 <;> cases h2
    have ha : vs[i]? = some v := by
      unfold start at h2
      rw [List.getElem?_append_left (by simpa using hi), List.getElem?_map] at h2
      cases e : vs[i]? with
      | none => rw [e] at h2; cases h2
      | some a => rw [e] at h2; cases h2; rfl
    obtain ⟨u, hu, rv⟩ := r.get ha
    have hp : ps[i]? = some y := by
      rw [← S.pre, List.getElem?_take_of_lt (by omega)]; exact h1
    have ndP : ps.Nodup := by rw [← S.pre]; exact S.nd.sublist (List.take_sublist _ _)
    refine ⟨u, rv, ?_⟩
    rcases S.par y (List.mem_of_getElem? hp) with k | k
    · exact .inl ⟨k, bindL_get ndP hp hu k⟩
    · obtain ⟨c, e⟩ := cell_has (n := s.heap.objs.size + 1) k
      refine .inr ⟨.inl k, c, e, ?_⟩
      have q := x.cell y c e
      rw [bindC_get ndP hp hu (by show scope.names.lookup y ≠ _; rw [k]; decide)] at q
      exact q
  · exact e0.hok.fresh (Nat.le_of_lt (x.above y c (PySem.mem_of_lookup h)))
  · unfold start
    show _ = N.length
    rw [List.length_append, List.length_map, List.length_replicate]
    omega

/-- THE RULE: a def (or a method) of the text, by its body. The body's reading t is chosen for each entry; it is run at the parameters' values -/
theorem fn_of {CX : CXT} {P : Program} {w : World} {K : PySem.W.Frag} {mg : Str → Option Value} {base : Heap} {k : Nat} {f : Addr} {name qual : Str} {params : Arguments} {body : List Stmt} {scope : Scope} {dV kV doc pm cdv ct oc : Value} {an od : Option Addr}
    {osl : Array (Option Value)} {N ps : List Str} {sp : Sp} (lk : K.lookup f = some ⟨oc, od, .func (PySem.W.fnOf name qual params body scope dV kV doc pm an cdv ct), osl⟩) (hcd : PySem.W.codeIn K cdv qual = true) (S : FnScope N ps scope)
    (len : ∀ vs H Q E, sp vs H Q E → vs.length = ps.length)
    (hbody : ∀ (A : Around) (outer : List Env) (s : Shared) (H : Hp) (vs : List V) (Q : VK) (E : XK) (gp : Array GenState → Drawn → Prop), Cl (k + 1) gp → Room k (A.deeper (envOfC qual scope s.heap.objs.size f cdv)) → sp vs H Q E →
      ∃ t, PSs (cxOf CX P w K mg base N qual scope f cdv A outer s H E gp) body t ∧ t { nx := fun _ H' => Q .non H', rt := Q } (start N vs) H) :
    FnOk P w K mg base CX (k + 1) f (PySem.W.fnOf name qual params body scope dV kV doc pm an cdv ct) ps sp := by
  refine ⟨len, fun A outer s H args us vs Q E gp hcl hgp hfr hr e0 hb r hsp => ?_⟩
  have hl := len _ _ _ _ hsp
  have KX : K.In s.heap := e0.mod.kin.keeps fun b o e => (e0.bs b o e).1
  have lim : s.heap.NoLimit := e0.mod.nolimit.keeps fun b o e => (e0.bs b o e).1
  have hkind : ∀ y ∈ ps.zip us, scope.names.lookup y.1 = some .local ∨ (scope.names.lookup y.1 = some .cell ∧ ((cellsFrom (s.heap.objs.size + 1) scope.names []).lookup y.1).isSome = true) := fun ⟨n, v⟩ hy => by
    rcases S.par n (List.of_mem_zip hy).1 with q | q
    · exact .inl q
    · exact .inr ⟨q, PySem.W.cellsFrom_some _ _ _ (.inl q)⟩
  refine codeAny_call_function hr.depth (KX _ _ lk) rfl S.co S.gen rfl (PySem.W.codeRec_of KX hcd) (hb _ _ _ _ ?_)
  refine wpAny_newFunctionEnv_cells S.kind hkind fun env he s1 x => ?_
  subst he
  refine ⟨lim.keeps x.toInCall.keep, codeAny_func ?_⟩
  obtain ⟨t, ht, hq⟩ := hbody A outer s H vs Q E gp hcl (hr.deeper _) hsp
  have I : Inv (cxOf CX P w K mg base N qual scope f cdv A outer s H E gp) [] (start N vs) H s1 := inv_start hgp hfr S hr.hd e0 hl r x
  refine wpAny_mono (ht [] s1 (start N vs) H _ I hq) (fun fl s' hs => ?_) fun e s' hs => hs
  have fin : ∀ {σ' : St} {H' : Hp} {v : V} {u : Value}, Inv (cxOf CX P w K mg base N qual scope f cdv A outer s H E gp) [] σ' H' s' → RelV v u → Q v H' → CE gp outer P w H s Q u s' :=
    fun {σ' H' v u} J rv q => ⟨v, H', J.os, J.bare, J.base, J.hok, rv, q⟩
  cases fl with
  | ret u =>
    obtain ⟨v, σ', H', J, rv, q⟩ := hs
    exact fin J rv q
  | next =>
    obtain ⟨σ', H', J, q⟩ := hs
    exact fin (v := V.non) (u := Value.none) J rfl q
  | brk =>
    obtain ⟨_, _, _, q⟩ := hs
    exact False.elim q
  | cont =>
    obtain ⟨_, _, _, q⟩ := hs
    exact False.elim q
end L2
namespace L2
open PySem PySem.Spec PyProof.Rows
section
variable {X : Cx} {x : Str} {p pos : Pos} {e : Expr} {es : List Expr} {t : TA} {id T : String} {r : List V → Hp → VK → Prop}
def tCB (r : List V → Hp → VK → Prop) (t : TA) : TE := fun σ H Q => t σ H fun vs H1 => r vs H1 Q
/-- f(e, ..), f a built-in function -/
theorem pe_callB (hc : CallR X (.builtin id) r) (hg : Gl X x) (hm : X.mg x = none) (hv : bootBuiltins x = some (.builtin id)) (ha : PA X (e :: es) t) (hn : x ≠ "__name__" := by decide) (hdb : (x == ("__debug__" : Str)) = false := by decide)
    (he : starEach (e :: es) X.env = (false, eval e X.env) :: starEach es X.env := by rfl) (hpl : (backTo pos (starEach es X.env)).any (·.1) = false := by rfl) : PE X (.Call (.Name x p) (e :: es) [] pos) (tCB r t) := by
  intro pins s σ H Q I h
  refine wpAny_Call_Name_kw (ld_blt I hg hm hv ?_ hn hdb)
  exact PyProof.Rows.callWith_builtin1 (thn (ha pos pins s σ H _ I h) fun us s1 ⟨vs, H1, I1, r1, q1⟩ => hc pins s1 σ H1 vs us Q I1 r1 q1) he hpl
/-- T(e, ..), T a built-in type -/
theorem pe_callTy (hc : CallR X (.type T) r) (hg : Gl X x) (hm : X.mg x = none) (hv : bootBuiltins x = some (.type T)) (ha : PA X (e :: es) t) (hn : x ≠ "__name__" := by decide) (hdb : (x == ("__debug__" : Str)) = false := by decide)
    (he : starEach (e :: es) X.env = (false, eval e X.env) :: starEach es X.env := by rfl) (hpl : (backTo pos (starEach es X.env)).any (·.1) = false := by rfl) : PE X (.Call (.Name x p) (e :: es) [] pos) (tCB r t) := by
  intro pins s σ H Q I h
  refine wpAny_Call_Name_kw (ld_blt I hg hm hv ?_ hn hdb)
  exact PyProof.Rows.callWith_type1 (thn (ha pos pins s σ H _ I h) fun us s1 ⟨vs, H1, I1, r1, q1⟩ => hc pins s1 σ H1 vs us Q I1 r1 q1) he hpl
end
end L2
namespace HT
open PySem PyProof.Rows
section
open PySem.SeqAt
open PySem.AutoSeq1 (wpAny_loadPart')
open PySem.MeetsSeq PySem.MeetsSeq2 PySem.MeetsSeq3
end
section
variable {prog : Program} {w : World} {A : Around} {E : Value → Shared → Prop} {s : Shared}
/-- t + u, t not empty -/
theorem cat_tup {t b : Addr} {vs ws : List Value} {Q : Value → Shared → Prop} (ht : IsTup s.heap t vs.toArray) (hb : IsTup s.heap b ws.toArray) (hv : vs ≠ [])
    (h1 : ws = [] → Q (.ref t) s) (h2 : ws ≠ [] → Q (.ref s.heap.objs.size) { s with heap := s.heap.push { cls := .type "tuple", data := .seq (vs ++ ws).toArray } })
    (hsz : vs.length + ws.length ≤ sizeLine) : wpAny (model prog w) A (binaryOp .Add (.ref t) (.ref b)) Q E s := by
  obtain ⟨⟨cls, dd, data, sl⟩, ho, hc, n, hd⟩ := id ht
  obtain ⟨⟨cls2, dd2, data2, sl2⟩, ho2, hc2, n2, hd2⟩ := id hb
  simp only at hc hd hc2 hd2
  subst hc hd hc2 hd2
  have e : vs.toArray ++ ws.toArray = (vs ++ ws).toArray := by simp
  by_cases hw : ws = []
  · exact concat_meets ⟨_, ho, rfl⟩ ⟨_, ho2, rfl⟩ noFill_tuple_add seq_tuple_add PySem.F.slot_tuple_add PySem.F.entry_tuple_add (PySem.F.args_tuple_add_2 _ _)
      (tuple_addW1 t b vs.toArray ws.toArray n n2 dd dd2 sl sl2 (by simpa using hv) (by simp [hw])) ⟨ho, ho2, h1 hw⟩
  · refine concat_meets ⟨_, ho, rfl⟩ ⟨_, ho2, rfl⟩ noFill_tuple_add seq_tuple_add PySem.F.slot_tuple_add PySem.F.entry_tuple_add (PySem.F.args_tuple_add_2 _ _)
      (tuple_addW2 t b vs.toArray ws.toArray n n2 dd dd2 sl sl2 (by simpa using hv) (by simpa using hw) (by rw [List.size_toArray, List.size_toArray]; exact hsz)) ⟨ho, ho2, ?_⟩
    rw [e]
    exact h2 hw

/-- a slice's bound as a place among n (d where it is left out) -/
def sIx (n d : Nat) : Option Int → Nat
  | none => d
  | some v => if v < 0 then (v + (n : Int)).toNat else min v.toNat n
theorem sIx_le (n d : Nat) (hd : d ≤ n) (o : Option Int) : sIx n d o ≤ n := by
  cases o with
  | none => exact hd
  | some v =>
    show (if v < 0 then (v + (n : Int)).toNat else min v.toNat n) ≤ n
    by_cases hv : v < 0
    · rw [if_pos hv]; omega
    · rw [if_neg hv]; exact Nat.min_le_right _ _
theorem clip_eq (v : Int) (n d : Nat) : (if v < 0 then max (v + (n : Int)) 0 else min v (n : Int)) = ((sIx n d (some v) : Nat) : Int) := by
  show (if v < 0 then max (v + (n : Int)) 0 else min v (n : Int)) = (((if v < 0 then (v + (n : Int)).toNat else min v.toNat n) : Nat) : Int)
  by_cases hv : v < 0
  · simp only [if_pos hv]; omega
  · simp only [if_neg hv]; omega
theorem adjust_gen (lo hi : Option Int) (n : Nat) : Builtin.Slice.sliceAdjust lo hi 1 (n : Int) = (((sIx n 0 lo : Nat) : Int), ((sIx n n hi : Nat) : Int)) := by
  have h1 : ¬ ((1 : Int) < 0) := by omega
  unfold Builtin.Slice.sliceAdjust
  simp only [h1, if_false]
  refine Prod.ext ?_ ?_
  · cases lo with
    | none => rfl
    | some v => exact clip_eq v n 0
  · cases hi with
    | none => rfl
    | some v => exact clip_eq v n n
theorem places_gen (i j : Nat) : Builtin.Slice.slicePlaces (i : Int) (j : Int) 1 = j - i := by
  unfold Builtin.Slice.slicePlaces
  have h1 : (1 : Int) > 0 := by omega
  simp only [h1, if_true, Int.ediv_one]
  split <;> omega
theorem slicePart_ {v : Value} {o : Option Int} {Q : Option Int → Shared → Prop} (p : IsPart v o) (h : Q o s) : wpAny (model prog w) A (Builtin.Slice.slicePartIndex v) Q E s := by
  cases p with
  | none => exact slicePart_none h
  | int i t => exact slicePart_int h
theorem sliceApplied_gen {sl : Addr} {vl vu : Value} {lo hi : Option Int} {n : Nat} {Q : Int × Int × Nat → Shared → Prop} (hs : s.heap.IsSliceOf sl vl vu .none) (pl : IsPart vl lo) (pu : IsPart vu hi)
    (h : Q (((sIx n 0 lo : Nat) : Int), 1, sIx n n hi - sIx n 0 lo) s) : wpAny (model prog w) A (Builtin.Slice.sliceApplied (.ref sl) (pure (n : Int))) Q E s := by
  obtain ⟨os, hos, hcs, hds⟩ := id hs
  unfold Builtin.Slice.sliceApplied Builtin.Slice.sliceFields
  refine wpAny_bind (wpAny_bind (wpAny_field hos hds (x := vl) rfl (wpAny_bind (wpAny_field hos hds (x := vu) rfl (wpAny_bind (wpAny_field hos hds (x := .none) rfl (wpAny_pure ?_)))))))
  refine wpAny_bind (slicePart_none ?_)
  show wpAny _ _ (if ((1 : Int) == 0) = true then _ else _) _ _ s
  rw [if_neg (by decide)]
  refine wpAny_bind (slicePart_ pl (wpAny_bind (slicePart_ pu (wpAny_bind (wpAny_pure ?_)))))
  show wpAny _ _ (match Builtin.Slice.sliceAdjust lo hi 1 (n : Int) with | (lo, hi) => pure (lo, (1 : Int), Builtin.Slice.slicePlaces lo hi 1)) _ _ s
  rw [adjust_gen lo hi n]
  show wpAny _ _ (pure (((sIx n 0 lo : Nat) : Int), (1 : Int), Builtin.Slice.slicePlaces ((sIx n 0 lo : Nat) : Int) ((sIx n n hi : Nat) : Int) 1)) _ _ s
  rw [places_gen]
  exact wpAny_pure h
theorem pick_gen (xs : Array Value) (i k : Nat) : ((List.range k).filterMap fun (m : Nat) => xs[((i : Int) + (m : Int) * 1).toNat]?).toArray = ((xs.toList.drop i).take k).toArray := by
  have e : (fun (m : Nat) => xs[((i : Int) + (m : Int) * 1).toNat]?) = fun m => xs[i + m]? := by
    funext m
    have : ((i : Int) + (m : Int) * 1).toNat = i + m := by omega
    rw [this]
  rw [e]
  have := pick_run xs i k
  rw [List.filterMap_map] at this
  have e2 : ((fun x => xs[x]?) ∘ fun x => i + x) = fun m => xs[i + m]? := rfl
  rw [e2] at this
  rw [this]

theorem getItem_tuple_cut {t sl : Addr} {items : Array Value} {vl vu : Value} {lo hi : Option Int} {Q : Value → Shared → Prop} (ht : IsTup s.heap t items) (hs : s.heap.IsSliceOf sl vl vu .none) (pl : IsPart vl lo) (pu : IsPart vu hi)
    (hw : ¬ (sIx items.size 0 lo = 0 ∧ sIx items.size items.size hi = items.size))
    (h : Q (.ref s.heap.objs.size) { s with heap := s.heap.push { cls := .type "tuple", data := .seq ((items.toList.drop (sIx items.size 0 lo)).take (sIx items.size items.size hi - sIx items.size 0 lo)).toArray } })
    (hsz : items.size ≤ sizeLine) : wpAny (model prog w) A (getItem (.ref t) (.ref sl)) Q E s := by
  have htake : sizeOk (.seq ((items.toList.drop (sIx items.size 0 lo)).take (sIx items.size items.size hi - sIx items.size 0 lo)).toArray) := by
    show ((items.toList.drop (sIx items.size 0 lo)).take (sIx items.size items.size hi - sIx items.size 0 lo)).toArray.size ≤ sizeLine
    rw [List.size_toArray, List.length_take, List.length_drop, Array.length_toList]
    omega
  have hj : sIx items.size items.size hi ≤ items.size := sIx_le _ _ (Nat.le_refl _) hi
  obtain ⟨os, hos, hcs, hds⟩ := id hs
  have hTs : s.TypeIs (.ref sl) "slice" := ⟨os, hos, hcs⟩
  unfold getItem
  try with_reducible refine wpAny_holding ?_
  first | refine wpAny_bind (wpAny_pure ?_) | skip
  refine wpAny_bind (wpAny_sequenceKey ht.typeIs (by decide) ?_)
  refine wpAny_bind (wpAny_callSpecial?_slot (name := Str.ofString "__getitem__") ht.typeIs PyProof.Rows.slot_tuple_getitem
    (wpAny_call_entry PyProof.Rows.slot_tuple_getitem ht.typeIs entry_tuple_getitem ?_ (args_tuple_getitem _ _)))
  show wpAny _ _ (Builtin.Tuple.tupleItemsOf (.ref t) >>= _) _ _ s
  refine wpAny_bind (tupleItemsOf_ ht ?_)
  refine wpAny_bind (wpAny_typeOf hTs ?_)
  rw [if_pos (by decide)]
  refine wpAny_bind (sliceApplied_gen hs pl pu ?_)
  have hno : ¬ ((((sIx items.size 0 lo : Nat) : Int) == 0 && (1 : Int) == 1 && (sIx items.size items.size hi - sIx items.size 0 lo) == items.size) = true) := by
    intro q
    rw [Bool.and_eq_true, Bool.and_eq_true] at q
    have q1 : ((sIx items.size 0 lo : Nat) : Int) = 0 := eq_of_beq q.1.1
    have q2 : sIx items.size items.size hi - sIx items.size 0 lo = items.size := eq_of_beq q.2
    exact hw ⟨by omega, by omega⟩
  show wpAny _ _ (if (((sIx items.size 0 lo : Nat) : Int) == 0 && (1 : Int) == 1 && (sIx items.size items.size hi - sIx items.size 0 lo) == items.size) = true then _ else _) _ _ s
  rw [if_neg hno, pick_gen]
  first
    | exact wpAny_bind (m := Builtin.Tuple.tupleExact _) (wpAny_newObj_type (wpAny_pure ⟨_, rfl, wpAny_pure h⟩) htake)
    | exact wpAny_bind (m := Builtin.Tuple.tupleExact _) (wpAny_newObj_type (wpAny_bind (wpAny_pure (wpAny_pure ⟨_, rfl, wpAny_pure h⟩))) htake)
    | exact wpAny_bind (wpAny_bind (m := Builtin.Tuple.tupleExact _) (wpAny_newObj_type (wpAny_pure (wpAny_pure ⟨_, rfl, wpAny_pure h⟩)) htake))
    | exact wpAny_bind (wpAny_bind (m := Builtin.Tuple.tupleExact _) (wpAny_newObj_type (wpAny_pure ⟨_, rfl, wpAny_pure h⟩) htake))
end
end HT
namespace L2
open PySem PySem.Spec PyProof.Rows
abbrev TO := St → Hp → (Option Int → Hp → Prop) → Prop
/-- a slice's part (left out, or an int) -/
def PO (X : Cx) (e : Option Expr) (t : TO) : Prop :=
  ∀ (pins : List (Addr × Obj)) (s : Shared) (σ : St) (H : Hp) (Q : Option Int → Hp → Prop), Inv X pins σ H s → t σ H Q →
    wpAny (model X.prog X.w) X.A (evalPart e X.env) (fun u s' => ∃ o H', Inv X pins σ H' s' ∧ IsPart u o ∧ Q o H') X.xe s
def tNoPart : TO := fun _ H Q => Q none H
def tPart (t : TE) : TO := fun σ H Q => t σ H fun x H1 => ∃ i, x = .int i ∧ Q (some i) H1

section
variable {X : Cx} {e : Expr} {te : TE} {lo hi : Option Expr} {tl th : TO} {pos p2 : Pos}
theorem po_none : PO X none tNoPart := by
  intro pins s σ H Q I h
  rw [evalPart_none]
  exact wpAny_pure ⟨none, H, I, .none, h⟩
theorem po_some (h : PE X e te) : PO X (some e) (tPart te) := by
  intro pins s σ H Q I hw
  rw [evalPart_some]
  refine thn (h pins s σ H _ I hw) fun u s1 ⟨x, H1, I1, r1, q1⟩ => ?_
  obtain ⟨i, rfl, q⟩ := q1
  obtain ⟨t, rfl⟩ := r1
  exact ⟨some i, H1, I1, .int i t, q⟩

/-- what a slice of a value is, by values: the slice object stands at sl -/
def SlR (X : Cx) (r : V → Option Int → Option Int → Hp → VK → Prop) : Prop :=
  ∀ (pins : List (Addr × Obj)) (s : Shared) (σ : St) (H : Hp) (x : V) (v vl vu : Value) (lo hi : Option Int) (sl : Addr) (Q : VK), Inv X pins σ H s → RelV x v → s.heap.IsSliceOf sl vl vu .none → IsPart vl lo → IsPart vu hi → r x lo hi H Q →
    ∃ T id, typeLookup (.type T) "__getitem__" = pure (some (.builtin id)) ∧ s.TypeIs v T ∧ wpAny (model X.prog X.w) X.A (getItem v (.ref sl)) (EP X pins σ Q) X.xe s
theorem SlR.or {r r' : V → Option Int → Option Int → Hp → VK → Prop} (h : SlR X r) (h' : SlR X r') : SlR X (fun x lo hi H Q => r x lo hi H Q ∨ r' x lo hi H Q) := by
  intro pins s σ H x v vl vu lo hi sl Q I rx hs pl pu q
  rcases q with q | q
  · exact h pins s σ H x v vl vu lo hi sl Q I rx hs pl pu q
  · exact h' pins s σ H x v vl vu lo hi sl Q I rx hs pl pu q
def tSl (r : V → Option Int → Option Int → Hp → VK → Prop) (te : TE) (tl th : TO) : TE := fun σ H Q => te σ H fun x H1 => tl σ H1 fun l H2 => th σ H2 fun u H3 => r x l u H3 Q
/-- a[lo:hi], any a -/
theorem pe_slice {r : V → Option Int → Option Int → Hp → VK → Prop} (hr : SlR X r) (he : PE X e te) (hl : PO X lo tl) (hu : PO X hi th) : PE X (.Subscript e (.Slice lo hi none p2) pos) (tSl r te tl th) := by
  intro pins s σ H Q I h
  refine Subscript_ (thn (he pins s σ H _ I h) fun v s1 ⟨x, H1, I1, r1, q1⟩ => ?_)
  refine wpAny_Slice (thn (hl pins s1 σ H1 _ I1 q1) fun vl s2 ⟨l, H2, I2, pl, q2⟩ => thn (hu pins s2 σ H2 _ I2 q2) fun vu s3 ⟨u, H3, I3, pu, q3⟩ => ?_)
  rw [evalPart_none]
  refine wpAny_pure ?_
  have I4 : Inv X pins σ H3 { s3 with heap := s3.heap.push { cls := .type "slice", data := .fields #[vl, vu, .none] } } := I3.kept (t' := s3.toks) fun b ob q => Heap.get?_push_of_some _ q
  obtain ⟨T, id, hT, ht, hg⟩ := hr pins { s3 with heap := s3.heap.push { cls := .type "slice", data := .fields #[vl, vu, .none] } } σ H3 x v vl vu l u s3.heap.objs.size Q I4 r1 (Heap.IsSliceOf.new ..) pl pu q3
  show wpAny (model X.prog X.w) X.A (subscriptTail e (.Slice lo hi none p2) v (.ref s3.heap.objs.size)) (EP X pins σ Q) X.xe { s3 with heap := s3.heap.push { cls := .type "slice", data := .fields #[vl, vu, .none] } }
  exact tail_any (ops := [.ref s3.heap.objs.size, v]) ht hT hg (by with_unfolding_all rfl)

/-- the items of xs[lo:hi] -/
def cutV (xs : List V) (lo hi : Option Int) : List V := (xs.drop (HT.sIx xs.length 0 lo)).take (HT.sIx xs.length xs.length hi - HT.sIx xs.length 0 lo)
theorem cutV_length (xs : List V) (lo hi : Option Int) : (cutV xs lo hi).length ≤ xs.length := by
  unfold cutV
  rw [List.length_take, List.length_drop]
  omega
/-- t[lo:hi], not the whole of it (the whole would be t itself) -/
def rSlT (K : PySem.W.Frag) : V → Option Int → Option Int → Hp → VK → Prop := fun x lo hi H Q => ∃ a xs, x = .ref a ∧ SqT K H a xs ∧
  ¬ (HT.sIx xs.length 0 lo = 0 ∧ HT.sIx xs.length xs.length hi = xs.length) ∧ ∀ p, H p = none → Q (.ref p) (upd H p (.tup (cutV xs lo hi)))
theorem sl_tup : SlR X (rSlT X.K) := by
  intro pins s σ H x v vl vu lo hi sl Q I rx hs pl pu h
  obtain ⟨a, xs, rfl, hx, hw, q⟩ := h
  cases rx
  obtain ⟨its, r, ht, hz⟩ := I.tuple hx
  have hlen : its.toArray.size = xs.length := by rw [List.size_toArray]; exact r.length.symm
  refine ⟨"tuple", _, PyProof.Rows.slot_tuple_getitem.lookup, ht.typeIs, ?_⟩
  refine HT.getItem_tuple_cut ht hs pl pu (by rw [hlen]; exact hw) ?_ (by rw [hlen]; exact hz)
  rw [hlen]
  refine ⟨.ref s.heap.objs.size, _, I.laid (t' := s.toks) (o := .tup (cutV xs lo hi)) (fun b ob q => Heap.get?_push_of_some _ q) (Nat.le_refl _) ?_, rfl, q _ (I.hok.fresh (Nat.le_refl _))⟩
  exact ⟨Nat.le_trans (cutV_length xs lo hi) hz, _, (r.drop (HT.sIx xs.length 0 lo)).take (HT.sIx xs.length xs.length hi - HT.sIx xs.length 0 lo), IsTup.new _ _⟩

/-- t + u, t not empty: u empty gives t itself -/
def rCatT (K : PySem.W.Frag) : R2 := fun x y H Q => ∃ a b xs ys, x = .ref a ∧ y = .ref b ∧ SqT K H a xs ∧ SqT K H b ys ∧ xs ≠ [] ∧ xs.length + ys.length ≤ sizeLine ∧
  (ys = [] → Q (.ref a) H) ∧ (ys ≠ [] → ∀ p, H p = none → Q (.ref p) (upd H p (.tup (xs ++ ys))))
theorem Vals.nil_iff {xs : List V} {us : List Value} (r : Vals xs us) : us = [] ↔ xs = [] := by
  cases r with
  | nil => simp
  | cons _ _ => simp
theorem op_catT : OpR X (binaryOp .Add) (rCatT X.K) := by
  intro pins s σ H x y v u Q I rx ry h
  obtain ⟨a, b, xs, ys, rfl, rfl, ha, hb, hx, hz, q1, q2⟩ := h
  cases rx
  cases ry
  obtain ⟨its, r1, p1, _⟩ := I.tuple ha
  obtain ⟨its2, r2, p2, _⟩ := I.tuple hb
  refine HT.cat_tup p1 p2 (fun z => hx (r1.nil_iff.mp z)) (fun z => ⟨.ref a, H, I, rfl, q1 (r2.nil_iff.mp z)⟩) (fun z => ?_) (by rw [← r1.length, ← r2.length]; exact hz)
  refine ⟨.ref s.heap.objs.size, _, I.laid (t' := s.toks) (o := .tup (xs ++ ys)) (fun b ob q => Heap.get?_push_of_some _ q) (Nat.le_refl _) ?_, rfl, q2 (fun w => z (r2.nil_iff.mpr w)) _ (I.hok.fresh (Nat.le_refl _))⟩
  exact ⟨by rw [List.length_append]; exact hz, _, r1.append r2, IsTup.new _ _⟩
end
end L2
namespace L2
open PySem PySem.Spec PyProof.Rows
/-- the place that an index of any sign means -/
def ixN (n : Nat) (i : Int) : Option Nat := if 0 ≤ i then (if i < n then some i.toNat else none) else if -(n : Int) ≤ i then some (i + n).toNat else none
def atI {α : Type} (xs : List α) (i : Int) : Option α := (ixN xs.length i).bind fun j => xs[j]?
theorem ixN_seq {n : Nat} {i : Int} {j : Nat} (h : ixN n i = some j) : seqIndex? i n = some j ∧ j < n ∧ -(n : Int) ≤ i ∧ i < n := by
  unfold ixN at h
  by_cases h0 : 0 ≤ i
  · rw [if_pos h0] at h
    by_cases h1 : i < n
    · rw [if_pos h1] at h
      have e : i.toNat = j := Option.some.inj h
      exact ⟨by rw [seqIndex_of h0 h1, e], by omega, by omega, h1⟩
    · rw [if_neg h1] at h; cases h
  · rw [if_neg h0] at h
    by_cases h1 : -(n : Int) ≤ i
    · rw [if_pos h1] at h
      have e : (i + n).toNat = j := Option.some.inj h
      exact ⟨by rw [seqIndex_neg (by omega) h1, e], by omega, h1, by omega⟩
    · rw [if_neg h1] at h; cases h
theorem atI_get {α : Type} {xs : List α} {i : Int} {v : α} (h : atI xs i = some v) : ∃ j, seqIndex? i xs.length = some j ∧ xs[j]? = some v ∧ j < xs.length ∧ -(xs.length : Int) ≤ i ∧ i < xs.length := by
  unfold atI at h
  cases e : ixN xs.length i with
  | none => rw [e] at h; cases h
  | some j =>
    rw [e] at h
    obtain ⟨h1, h2, h3, h4⟩ := ixN_seq e
    exact ⟨j, h1, h, h2, h3, h4⟩
theorem atI_nat {α : Type} {xs : List α} {j : Nat} {v : α} (h : xs[j]? = some v) : atI xs (j : Int) = some v := by
  have hj : j < xs.length := (List.getElem?_eq_some_iff.mp h).1
  have e : ixN xs.length (j : Int) = some j := by
    unfold ixN
    rw [if_pos (by omega), if_pos (by omega)]; simp
  unfold atI; rw [e]; exact h
/-- what stands as an index of a plain subscript -/
def PlainIx (b : Expr) : Prop := ∀ o i, subscripted b false o i = operate [o, i] (getItem o i)
/-- a subscript by values -/
def IxR (X : Cx) (r : R2) : Prop :=
  ∀ (value slice : Expr) (pins : List (Addr × Obj)) (s : Shared) (σ : St) (H : Hp) (x y : V) (v u : Value) (Q : VK), Inv X pins σ H s → RelV x v → RelV y u → r x y H Q →
    subscripted slice false v u = operate [v, u] (getItem v u) → wpAny (model X.prog X.w) X.A (subscriptTail value slice v u) (EP X pins σ Q) X.xe s
/-- a call of a builtin's method by values: the receiver, the arguments -/
def MtR (X : Cx) (id : String) (r : V → List V → Hp → VK → Prop) : Prop :=
  ∀ (pins : List (Addr × Obj)) (s : Shared) (σ : St) (H : Hp) (x : V) (xs : List V) (v : Value) (us : List Value) (Q : VK), Inv X pins σ H s → RelV x v → Vals xs us → r x xs H Q →
    wpAny (model X.prog X.w) X.A (call (.builtin id) (v :: us)) (EP X pins σ Q) X.xe s
section
variable {X : Cx} {a b : Expr} {ta tb : TE} {pos : Pos}
theorem IxR.or {r r' : R2} (h : IxR X r) (h' : IxR X r') : IxR X (fun x y H Q => r x y H Q ∨ r' x y H Q) := by
  intro value slice pins s σ H x y v u Q I rx ry q hs
  rcases q with q | q
  · exact h value slice pins s σ H x y v u Q I rx ry q hs
  · exact h' value slice pins s σ H x y v u Q I rx ry q hs
theorem MtR.or {id : String} {r r' : V → List V → Hp → VK → Prop} (h : MtR X id r) (h' : MtR X id r') : MtR X id (fun x xs H Q => r x xs H Q ∨ r' x xs H Q) := by
  intro pins s σ H x xs v us Q I rx rs q
  rcases q with q | q
  · exact h pins s σ H x xs v us Q I rx rs q
  · exact h' pins s σ H x xs v us Q I rx rs q
/-- a[b] -/
theorem pe_ix {r : R2} (hr : IxR X r) (ha : PE X a ta) (hb : PE X b tb) (hs : PlainIx b) : PE X (.Subscript a b pos) (tOp r ta tb) := by
  intro pins s σ H Q I h
  exact Subscript_ (binT ha hb I h fun v u s2 x y H2 I2 rx ry q => hr a b pins s2 σ H2 x y v u Q I2 rx ry q (hs _ _))

def rIxL (K : PySem.W.Frag) : R2 := fun x y H Q => ∃ p xs i v, x = .ref p ∧ y = .int i ∧ SqL K H p xs ∧ atI xs i = some v ∧ Q v H
def rIxT (K : PySem.W.Frag) : R2 := fun x y H Q => ∃ p xs i v, x = .ref p ∧ y = .int i ∧ SqT K H p xs ∧ atI xs i = some v ∧ Q v H
theorem ix_list : IxR X (rIxL X.K) := by
  intro value slice pins s σ H x y v u Q I rx ry h hs
  obtain ⟨p, xs, i, z, rfl, rfl, hq, he, q⟩ := h
  cases rx
  obtain ⟨t, rfl⟩ := ry
  obtain ⟨its, r, pl, hz⟩ := I.list hq
  obtain ⟨j, h1, h2, h3, h4, h5⟩ := atI_get he
  obtain ⟨w, ew, rw'⟩ := r.get h2
  have hl := r.length
  have hn := line63
  have fin : EP X pins σ Q w s := ⟨z, H, I, rw', q⟩
  by_cases h0 : 0 ≤ i
  · have hj : i.toNat = j := by
      rw [seqIndex_of h0 h5] at h1
      exact Option.some.inj h1
    exact item_listR pl.isList h0 (by omega) (by rw [hj]; simpa using ew) fin hs
  · have hj : (i + (its.toArray.size : Int)).toNat = j := by
      rw [seqIndex_neg (by omega) h4] at h1
      rw [List.size_toArray, ← hl]
      exact Option.some.inj h1
    exact subscriptTail_builtinR (x := w) pl.isList.typeIs slot_list_getitem.lookup
      (wpAny_getItem_list_neg (Q := fun r s' => r = w ∧ EP X pins σ Q r s') pl.isList (by omega) (by rw [List.size_toArray] <;> omega) (by omega) (by rw [hj]; simpa using ew) ⟨rfl, fin⟩) hs
theorem ix_tup : IxR X (rIxT X.K) := by
  intro value slice pins s σ H x y v u Q I rx ry h hs
  obtain ⟨p, xs, i, z, rfl, rfl, hq, he, q⟩ := h
  cases rx
  obtain ⟨t, rfl⟩ := ry
  obtain ⟨its, r, pl, hz⟩ := I.tuple hq
  obtain ⟨j, h1, h2, h3, h4, h5⟩ := atI_get he
  obtain ⟨w, ew, rw'⟩ := r.get h2
  have hl := r.length
  have hn := line63
  have fin : EP X pins σ Q w s := ⟨z, H, I, rw', q⟩
  exact subscriptTail_builtinR (x := w) pl.typeIs slot_tuple_getitem.lookup
    (getItem_tuple (j := j) (Q := fun r s' => r = w ∧ EP X pins σ Q r s') pl (by omega) (by omega) (by rw [List.size_toArray, ← hl]; exact h1) (by simpa using ew) ⟨rfl, fin⟩) hs
/-- the list's object behind a store -/
theorem mapSeq_set (its : List Value) (n j : Nat) (u : Value) : Obj.mapSeq (·.setIfInBounds j u) { cls := .type "list", data := .seq its.toArray n } = { cls := .type "list", data := .seq (its.set j u).toArray n } := by
  simp [Obj.mapSeq]
theorem Inv.lst {pins : List (Addr × Obj)} {σ : St} {H : Hp} {s : Shared} {p : Addr} {xs : List V} (I : Inv X pins σ H s) (h : H p = some (.lst xs)) :
    ∃ (its : List Value) (n : Nat), Vals xs its ∧ s.heap.get? p = some { cls := .type "list", data := .seq its.toArray n } ∧ xs.length ≤ sizeLine := by
  obtain ⟨z, its, n, r, e⟩ := I.hok p _ h
  exact ⟨its, n, r, e, z⟩
/-- the list at p is written by an update of its object -/
theorem Inv.lstUpd {pins : List (Addr × Obj)} {σ : St} {H : Hp} {s : Shared} {p : Addr} {xs ys : List V} {its its' : List Value} {n n' : Nat} {f : Obj → Obj} (I : Inv X pins σ H s) (h : H p = some (.lst xs))
    (ho : s.heap.get? p = some { cls := .type "list", data := .seq its.toArray n }) (hf : f { cls := .type "list", data := .seq its.toArray n } = { cls := .type "list", data := .seq its'.toArray n' }) (r : Vals ys its') (hz : ys.length ≤ sizeLine) (t : Nat) :
    Inv X pins σ (upd H p (.lst ys)) { s with heap := s.heap.update p f, toks := t } := by
  have e : (s.heap.update p f).get? p = some { cls := .type "list", data := .seq its'.toArray n' } := by
    rw [Heap.get?_update_self f ho (by rw [hf] <;> rfl), hf]
  refine I.write (x := p) (e := p) (by rw [h]; trivial) (.inl rfl) (fun b u hb q => (Heap.get?_update_other _ _ (Ne.symm hb)).trans q) ⟨_, e⟩ ?_
  exact ⟨hz, its', n', r, e⟩
def rSetL : V → V → V → Hp → (Hp → Prop) → Prop := fun o i v H Q => ∃ p xs k j, o = .ref p ∧ i = .int k ∧ H p = some (.lst xs) ∧ ixN xs.length k = some j ∧ Q (upd H p (.lst (xs.set j v)))
theorem set_list : PSet X rSetL := by
  intro pins s σ H o i v ov iv u Q I ro ri rv h
  obtain ⟨p, xs, k, j, rfl, rfl, hp, hj, q⟩ := h
  cases ro
  obtain ⟨t, rfl⟩ := ri
  obtain ⟨its, n, r, ho, hz⟩ := I.lst hp
  obtain ⟨h1, h2, h3, h4⟩ := ixN_seq hj
  have hl := r.length
  have hn := line63
  have I' : Inv X pins σ (upd H p (.lst (xs.set j v))) { s with heap := s.heap.update p (Obj.mapSeq (·.setIfInBounds j u)) } :=
    I.lstUpd hp ho (mapSeq_set its n j u) (r.set rv j) (by rw [List.length_set]; exact hz) s.toks
  by_cases h0 : 0 ≤ k
  · have hk : k.toNat = j := by
      rw [seqIndex_of h0 h4] at h1
      exact Option.some.inj h1
    exact PySem.W.ki_setAt ho h0 (by omega) (by rw [List.size_toArray, ← hl]; exact h4) (by rw [hk]; exact ⟨_, I', q⟩)
  · have hk : (k + (its.toArray.size : Int)).toNat = j := by
      rw [seqIndex_neg (by omega) h3] at h1
      rw [List.size_toArray, ← hl]
      exact Option.some.inj h1
    exact PySem.W.ki_setBack ho (by omega) (by rw [List.size_toArray, ← hl]; exact h3) (by omega) (by rw [hk]; exact ⟨_, I', q⟩)

theorem slice_bounds (lo hi : Option Int) (n : Nat) : (sliceBounds lo hi none n).1 = ((HT.sIx n 0 lo : Nat) : Int) ∧ (sliceBounds lo hi none n).2.1 = ((HT.sIx n n hi : Nat) : Int) ∧ (sliceBounds lo hi none n).2.2 = 1 := by
  refine ⟨?_, ?_, rfl⟩
  · cases lo with
    | none => simp [sliceBounds, HT.sIx]
    | some i =>
      simp only [sliceBounds, HT.sIx, Option.getD_none, show (1 : Int) > 0 by decide, if_true]
      by_cases h : i < 0
      · simp only [h, if_true] <;> omega
      · simp only [h, if_false] <;> omega
  · cases hi with
    | none => simp [sliceBounds, HT.sIx]
    | some i =>
      simp only [sliceBounds, HT.sIx, Option.getD_none, show (1 : Int) > 0 by decide, if_true]
      by_cases h : i < 0
      · simp only [h, if_true] <;> omega
      · simp only [h, if_false] <;> omega
theorem slicePick_cut (its : List Value) (lo hi : Option Int) : slicePick its.toArray lo hi none = ((its.drop (HT.sIx its.length 0 lo)).take (HT.sIx its.length its.length hi - HT.sIx its.length 0 lo)).toArray := by
  obtain ⟨h1, h2, h3⟩ := slice_bounds lo hi its.toArray.size
  unfold slicePick
  rw [h1, h2, h3]
  simp only [sliceRange_one, pick_run, List.size_toArray] <;> rfl
/-- xs[lo:hi] of a list: a new list -/
def rSlL (K : PySem.W.Frag) : V → Option Int → Option Int → Hp → VK → Prop := fun x lo hi H Q => ∃ a xs, x = .ref a ∧ SqL K H a xs ∧ ∀ p, H p = none → Q (.ref p) (upd H p (.lst (cutV xs lo hi)))
theorem sl_list : SlR X (rSlL X.K) := by
  intro pins s σ H x v vl vu lo hi sl Q I rx hs pl pu h
  obtain ⟨a, xs, rfl, hx, q⟩ := h
  cases rx
  obtain ⟨its, r, ht, hz⟩ := I.list hx
  have hlen := r.length
  refine ⟨"list", _, slot_list_getitem.lookup, ht.isList.typeIs, ?_⟩
  refine wpAny_getItem_list_slice ht.isList hs pl pu .none (by simp) ?_ (by rw [List.size_toArray] <;> omega)
  rw [slicePick_cut, ← hlen]
  refine ⟨.ref s.heap.objs.size, _, I.laid (t' := s.toks) (o := .lst (cutV xs lo hi)) (fun b ob q => Heap.get?_push_of_some _ q) (Nat.le_refl _) ?_, rfl, q _ (I.hok.fresh (Nat.le_refl _))⟩
  exact ⟨Nat.le_trans (cutV_length xs lo hi) hz, _, 0, (r.drop (HT.sIx xs.length 0 lo)).take (HT.sIx xs.length xs.length hi - HT.sIx xs.length 0 lo), Heap.get?_push_size _ rfl⟩

def flatV : V → Bool
  | .non => true
  | .bl _ => true
  | .int _ => true
  | .str _ => true
  | _ => false
/-- == of flat values -/
def eqV : V → V → Bool
  | .non, .non => true
  | .bl a, .bl b => a == b
  | .bl a, .int b => (if a then 1 else 0) == b
  | .int a, .bl b => a == (if b then 1 else 0)
  | .int a, .int b => a == b
  | .str a, .str b => a == b
  | _, _ => false
theorem eqAt_V {A : Around} {s : Shared} {y x : V} {u v : Value} (ry : RelV y u) (rx : RelV x v) (fy : flatV y = true) (fx : flatV x = true) : SeqAt.EqAt A s u v (eqV y x) := by
  cases y with
  | non =>
    cases ry
    cases x with
    | non => cases rx; exact SeqAt.EqAt.same _
    | bl b => cases rx; exact SeqAt.EqAt.none_bool b
    | int b => obtain ⟨t, rfl⟩ := rx; exact SeqAt.EqAt.none_int b t
    | str b => obtain ⟨t, rfl⟩ := rx; exact SeqAt.EqAt.none_str b t
    | _ => exact absurd (show false = true from fx) Bool.false_ne_true
  | bl a =>
    cases ry
    cases x with
    | non => cases rx; exact SeqAt.EqAt.bool_none a
    | bl b => cases rx; exact SeqAt.EqAt.bool_bool a b
    | int b => obtain ⟨t, rfl⟩ := rx; exact SeqAt.EqAt.bool_int a b t
    | str b => obtain ⟨t, rfl⟩ := rx; exact SeqAt.EqAt.bool_str a b t
    | _ => exact absurd (show false = true from fx) Bool.false_ne_true
  | int a =>
    obtain ⟨t', rfl⟩ := ry
    cases x with
    | non => cases rx; exact SeqAt.EqAt.int_none a t'
    | bl b => cases rx; exact SeqAt.EqAt.int_bool a t' b
    | int b => obtain ⟨t, rfl⟩ := rx; exact SeqAt.EqAt.int_int a t' b t
    | str b => obtain ⟨t, rfl⟩ := rx; exact SeqAt.EqAt.int_str a t' b t
    | _ => exact absurd (show false = true from fx) Bool.false_ne_true
  | str a =>
    obtain ⟨t', rfl⟩ := ry
    cases x with
    | non => cases rx; exact SeqAt.EqAt.str_none a t'
    | bl b => cases rx; exact SeqAt.EqAt.str_bool a t' b
    | int b => obtain ⟨t, rfl⟩ := rx; exact SeqAt.EqAt.str_int a t' b t
    | str b => obtain ⟨t, rfl⟩ := rx; exact SeqAt.EqAt.str_str a t' b t
    | _ => exact absurd (show false = true from fx) Bool.false_ne_true
  | _ => exact absurd (show false = true from fy) Bool.false_ne_true
/-- the items' answers, read off the values (a value's own answer does not lean on its token) -/
def eqU (x : V) (u : Value) : Bool := match u with
  | .none => eqV .non x
  | .bool b => eqV (.bl b) x
  | .int i _ => eqV (.int i) x
  | .str z _ => eqV (.str z) x
  | _ => false
theorem eqU_of {x y : V} {u : Value} (r : RelV y u) (f : flatV y = true) : eqU x u = eqV y x := by
  cases y with
  | non => cases r; rfl
  | bl b => cases r; rfl
  | int i => obtain ⟨t, rfl⟩ := r; rfl
  | str z => obtain ⟨t, rfl⟩ := r; rfl
  | _ => exact absurd (show false = true from f) Bool.false_ne_true
theorem any_eqU {x : V} : ∀ {xs : List V} {us : List Value}, Vals xs us → xs.all flatV = true → us.any (eqU x) = xs.any fun y => eqV y x
  | _, _, .nil, _ => rfl
  | y :: xs, u :: us, .cons r t, f => by
    rw [List.all_cons, Bool.and_eq_true] at f
    rw [List.any_cons, List.any_cons, eqU_of r f.1, any_eqU t f.2]
theorem mem_eqAt {A : Around} {s : Shared} {x : V} {v : Value} (rx : RelV x v) (fx : flatV x = true) : ∀ {xs : List V} {us : List Value}, Vals xs us → xs.all flatV = true → ∀ u ∈ us, SeqAt.EqAt A s u v (eqU x u)
  | _, _, .nil, _ => fun u hu => by cases hu
  | y :: xs, u :: us, .cons r t, f => fun u' hu => by
    rw [List.all_cons, Bool.and_eq_true] at f
    rcases List.mem_cons.mp hu with rfl | hu
    · rw [eqU_of r f.1]; exact eqAt_V r rx f.1 fx
    · exact mem_eqAt rx fx t f.2 u' hu
def inV (x : V) (xs : List V) : Bool := xs.any fun y => eqV y x
/-- x in a list or tuple of flat items -/
def rIn (K : PySem.W.Frag) (neg : Bool) : R2 := fun x y H Q => ∃ p xs, y = .ref p ∧ (SqL K H p xs ∨ SqT K H p xs) ∧ flatV x = true ∧ xs.all flatV = true ∧ Q (.bl (if neg then !inV x xs else inV x xs)) H
theorem op_in_seq : OpR X (compareOp .In) (rIn X.K false) := by
  intro pins s σ H x y v u Q I rx ry h
  obtain ⟨p, xs, rfl, hq, fx, fs, q⟩ := h
  cases ry
  rcases hq with hq | hq
  · obtain ⟨its, r, pl, hz⟩ := I.list hq
    refine SeqAt.in_listAt (eqU x) pl.isList (fun w hw => mem_eqAt rx fx r fs w (by simpa using hw)) ⟨.bl _, H, I, rfl, ?_⟩
    rw [show its.toArray.any (eqU x) = its.any (eqU x) by simp, any_eqU r fs]
    exact q
  · obtain ⟨its, r, pl, hz⟩ := I.tuple hq
    refine SeqAt.in_tupleAt (eqU x) pl (fun w hw => mem_eqAt rx fx r fs w (by simpa using hw)) ⟨.bl _, H, I, rfl, ?_⟩
    rw [show its.toArray.any (eqU x) = its.any (eqU x) by simp, any_eqU r fs]
    exact q
theorem op_notIn_seq : OpR X (compareOp .NotIn) (rIn X.K true) := by
  intro pins s σ H x y v u Q I rx ry h
  obtain ⟨p, xs, rfl, hq, fx, fs, q⟩ := h
  cases ry
  rcases hq with hq | hq
  · obtain ⟨its, r, pl, hz⟩ := I.list hq
    refine SeqAt.notIn_listAt (eqU x) pl.isList (fun w hw => mem_eqAt rx fx r fs w (by simpa using hw)) ⟨.bl _, H, I, rfl, ?_⟩
    rw [show its.toArray.any (eqU x) = its.any (eqU x) by simp, any_eqU r fs]
    exact q
  · obtain ⟨its, r, pl, hz⟩ := I.tuple hq
    refine SeqAt.notIn_tupleAt (eqU x) pl (fun w hw => mem_eqAt rx fx r fs w (by simpa using hw)) ⟨.bl _, H, I, rfl, ?_⟩
    rw [show its.toArray.any (eqU x) = its.any (eqU x) by simp, any_eqU r fs]
    exact q
theorem call_len_seq : CallR X (.builtin "len") (fun xs H Q => ∃ p ys, xs = [.ref p] ∧ (SqL X.K H p ys ∨ SqT X.K H p ys) ∧ Q (.int ys.length) H) := by
  intro pins s σ H xs us Q I r h
  obtain ⟨p, ys, rfl, hq, q⟩ := h
  obtain ⟨u, rfl, rx⟩ := vals1 r
  cases rx
  have hn := line63
  rcases hq with hq | hq
  · obtain ⟨its, r', pl, hz⟩ := I.list hq
    have hlen := r'.length
    exact Calls.call_len_list pl.isList (by simp only [List.size_toArray] <;> omega) ⟨.int ys.length, H, I.tok _, ⟨s.toks + 1, by rw [List.size_toArray, hlen]⟩, q⟩
  · obtain ⟨its, r', pl, hz⟩ := I.tuple hq
    have hlen := r'.length
    exact len_tuple pl (by simp only [List.size_toArray] <;> omega) ⟨.int ys.length, H, I.tok _, ⟨s.toks + 1, by rw [List.size_toArray, hlen]⟩, q⟩
theorem call_len_str : CallR X (.builtin "len") (fun xs H Q => ∃ z, xs = [.str z] ∧ z.length ≤ sizeLine ∧ Q (.int z.length) H) := by
  intro pins s σ H xs us Q I r h
  obtain ⟨z, rfl, hz, q⟩ := h
  obtain ⟨u, rfl, t, rfl⟩ := vals1 r
  have hn := line63
  exact len_str (by omega) ⟨.int z.length, H, I.tok _, ⟨_, rfl⟩, q⟩
theorem CallR.or {f : Value} {r r' : List V → Hp → VK → Prop} (h : CallR X f r) (h' : CallR X f r') : CallR X f (fun xs H Q => r xs H Q ∨ r' xs H Q) := by
  intro pins s σ H xs us Q I rs q
  rcases q with q | q
  · exact h pins s σ H xs us Q I rs q
  · exact h' pins s σ H xs us Q I rs q
theorem call_list_of : CallR X (.type "list") (fun xs H Q => ∃ p ys, xs = [.ref p] ∧ (SqL X.K H p ys ∨ SqT X.K H p ys) ∧ ∀ l, H l = none → Q (.ref l) (upd H l (.lst ys))) := by
  intro pins s σ H xs us Q I r h
  obtain ⟨p, ys, rfl, hq, q⟩ := h
  obtain ⟨u, rfl, rx⟩ := vals1 r
  cases rx
  have fin : ∀ (its : List Value), Vals ys its → ys.length ≤ sizeLine → ∀ (h' : Heap) (c' : Nat), (∀ b o', s.heap.get? b = some o' → h'.get? b = some o') →
      h'.get? s.heap.objs.size = some { cls := .type "list", dict := none, data := .seq its.toArray c', slots := #[] } → EP X pins σ Q (.ref s.heap.objs.size) { s with heap := h' } := fun its r' hz h' c' kp e =>
    ⟨.ref s.heap.objs.size, _, I.laid (t' := s.toks) kp (Nat.le_refl _) (show ObjOk X.prog X.w _ h' _ (.lst ys) from ⟨hz, its, c', r', e⟩), rfl, q _ (I.hok.fresh (Nat.le_refl _))⟩
  rcases hq with hq | hq
  · obtain ⟨its, r', pl, hz⟩ := I.list hq
    have hlen := r'.length
    obtain ⟨o, ho, hc, n, hd⟩ := pl.isList
    exact call_list_seq p (.inl rfl) ho hc hd (fun h' c' kp e => fin its r' hz h' c' kp e) (by simp only [List.size_toArray] <;> omega)
  · obtain ⟨its, r', pl, hz⟩ := I.tuple hq
    have hlen := r'.length
    obtain ⟨o, ho, hc, n, hd⟩ := pl
    exact call_list_seq p (.inr rfl) ho hc hd (fun h' c' kp e => fin its r' hz h' c' kp e) (by simp only [List.size_toArray] <;> omega)
theorem call_tuple_of : CallR X (.type "tuple") (fun xs H Q => ∃ p ys, xs = [.ref p] ∧ ((SqL X.K H p ys ∧ ∀ l, H l = none → Q (.ref l) (upd H l (.tup ys))) ∨ (SqT X.K H p ys ∧ Q (.ref p) H))) := by
  intro pins s σ H xs us Q I r h
  obtain ⟨p, ys, rfl, h⟩ := h
  obtain ⟨u, rfl, rx⟩ := vals1 r
  cases rx
  rcases h with ⟨hq, q⟩ | ⟨hq, q⟩
  · obtain ⟨its, r', pl, hz⟩ := I.list hq
    have hlen := r'.length
    refine call_tuple_list pl.isList (fun h' kp => ?_) (by simp only [List.size_toArray] <;> omega)
    have I1 : Inv X pins σ H { s with heap := h' } := I.kept (t' := s.toks) kp
    have I2 : Inv X pins σ (upd H h'.objs.size (.tup ys)) { s with heap := h'.push { cls := .type "tuple", data := .seq its.toArray } } :=
      I1.laid (t' := s.toks) (fun b o e => Heap.get?_push_of_some _ e) (Nat.le_refl _) (show ObjOk X.prog X.w _ _ _ (.tup ys) from ⟨hz, its, r', IsTup.new _ _⟩)
    exact ⟨.ref h'.objs.size, _, I2, rfl, q _ (I1.hok.fresh (Nat.le_refl _))⟩
  · obtain ⟨its, r', pl, hz⟩ := I.tuple hq
    exact call_tuple_same pl ⟨.ref p, H, I, rfl, q⟩

/-- the value is of that builtin type -/
def tyV (K : PySem.W.Frag) (T : String) (x : V) (H : Hp) : Prop := match x with
  | .str _ => T = "str"
  | .int _ => T = "int"
  | .ref p => (T = "list" ∧ ∃ xs, SqL K H p xs) ∨ (T = "tuple" ∧ ∃ o, K.lookup p = some o ∧ o.cls = .type "tuple" ∧ o.dict = none) ∨
      (T = "dict" ∧ ((∃ kvs, H p = some (.dK kvs)) ∨ ∃ kvs, H p = some (.dT kvs))) ∨ (T = "set" ∧ ∃ S n, H p = some (.set S n))
  | _ => False
theorem tyV_is {pins : List (Addr × Obj)} {σ : St} {H : Hp} {s : Shared} {T : String} {x : V} {v : Value} (I : Inv X pins σ H s) (r : RelV x v) (ty : tyV X.K T x H) :
    s.TypeIs v T ∧ ∀ a, v = .ref a → ∃ ob, s.heap.get? a = some ob ∧ ob.dict = none := by
  cases x with
  | str z =>
    obtain ⟨t, rfl⟩ := r
    cases (show T = "str" from ty)
    exact ⟨typeIs_str s z t, fun _ e => nomatch e⟩
  | int i =>
    obtain ⟨t, rfl⟩ := r
    cases (show T = "int" from ty)
    exact ⟨typeIs_int s i t, fun _ e => nomatch e⟩
  | ref p =>
    cases r
    rcases ty with ⟨rfl, xs, hq⟩ | ⟨rfl, o, hk, hc, hd⟩ | ⟨rfl, hk⟩ | ⟨rfl, S, n, hk⟩
    · obtain ⟨its, _, pl, _⟩ := I.list hq
      refine ⟨pl.isList.typeIs, fun a e => ?_⟩
      cases e
      obtain ⟨o, n, e, c, hd, _⟩ := pl
      exact ⟨o, e, hd⟩
    · refine ⟨⟨o, I.kIn p o hk, hc⟩, fun a e => ?_⟩
      cases e
      exact ⟨o, I.kIn _ o hk, hd⟩
    · have z : ∃ o, s.heap.get? p = some o ∧ o.ExactDict := by
        rcases hk with ⟨kvs, hk⟩ | ⟨kvs, hk⟩
        · obtain ⟨_, _, _, _, o, _, _, e, ex, _⟩ := I.hok p _ hk
          exact ⟨o, e, ex⟩
        · obtain ⟨_, _, _, _, o, _, _, e, ex, _⟩ := I.hok p _ hk
          exact ⟨o, e, ex⟩
      obtain ⟨o, e, ex⟩ := z
      refine ⟨⟨o, e, ex.1⟩, fun a e2 => ?_⟩
      cases e2
      exact ⟨o, e, ex.2.1⟩
    · obtain ⟨o, _, _, _, e, ex, _⟩ := I.hok p _ hk
      refine ⟨⟨o, e, ex.1⟩, fun a e2 => ?_⟩
      cases e2
      exact ⟨o, e, ex.2.1⟩
  | _ => exact False.elim ty
def tBM (K : PySem.W.Frag) (T : String) (r : V → List V → Hp → VK → Prop) (to : TE) (t : TA) : TE := fun σ H Q => to σ H fun x H1 => tyV K T x H1 ∧ t σ H1 fun xs H2 => r x xs H2 Q
variable {o e : Expr} {es : List Expr} {to : TE} {t : TA} {name : Str} {apos cpos : Pos} {T id : String} {r : V → List V → Hp → VK → Prop}
theorem pe_bm (pa : PlainAttrs T) (slot : Slot T name id) (hty : typeOf (.builtin id) = pure (.type "method_descriptor")) (hm : MtR X id r) (ho : PE X o to) (ha : PA X (e :: es) t)
    (hbase : attributeBase o name X.env (eval o X.env) = eval o X.env := by rfl)
    (hfew : ((backTo cpos (starEach (e :: es) X.env)).all (fun x => !x.1) && (backToKw cpos (keywordEach [] X.env)).all (fun x => x.1.isSome)
      && decide ((e :: es).length + ([] : List Keyword).length + (if ([] : List Keyword).isEmpty then 0 else 1) < 30)) = true := by rfl)
    (hline : (apos.endLine == cpos.line) = true := by rfl) (hs : starEach (e :: es) X.env = (false, eval e X.env) :: starEach es X.env := by rfl) (hplain : (backTo cpos (starEach es X.env)).any (·.1) = false := by rfl) :
    PE X (.Call (.Attribute o name apos) (e :: es) [] cpos) (tBM X.K T r to t) := by
  intro pins s σ H Q I h
  refine wpAny_Call_method_late hbase hfew hline rfl (thn (ho pins s σ H _ I h) fun v s1 ⟨x, H1, I1, r1, ty, q1⟩ => ?_)
  obtain ⟨h1, h2⟩ := tyV_is I1 r1 ty
  refine ⟨T, id, pa, slot, hty, h1, h2, ?_⟩
  have hA := ha cpos pins s1 σ H1 _ I1 q1
  rw [hs] at hA ⊢
  refine Calls.callWith_builtin (by show (false || (backTo cpos (starEach es X.env)).any (·.1)) = false; rw [hplain] <;> rfl) (Calls.evalArgs_plain ?_)
  exact thn hA fun us s2 ⟨vs, H2, I2, r2, q2⟩ => hm pins s2 σ H2 x vs v us Q I2 r1 r2 q2
end
end L2
namespace L2
open PySem PySem.Spec PyProof.Rows
def MtM (X : Cx) (id : String) (r : V → List V → Hp → VK → Prop) : Prop :=
  ∀ (pins : List (Addr × Obj)) (s : Shared) (σ : St) (H : Hp) (x : V) (xs : List V) (v : Value) (us : List Value) (Q : VK), Inv X pins σ H s → RelV x v → Vals xs us → r x xs H Q →
    wpAny (model X.prog X.w) X.A (call (.builtin id) (v :: us)) (EP X pins σ Q) X.xe s

theorem Vals.one : ∀ {x : V} {us : List Value}, Vals [x] us → ∃ u, us = [u] ∧ RelV x u
  | _, _, .cons r .nil => ⟨_, rfl, r⟩
theorem Vals.two : ∀ {x y : V} {us : List Value}, Vals [x, y] us → ∃ u v, us = [u, v] ∧ RelV x u ∧ RelV y v
  | _, _, _, .cons r (.cons q .nil) => ⟨_, _, rfl, r, q⟩
theorem Vals.zero : ∀ {us : List Value}, Vals [] us → us = []
  | _, .nil => rfl
theorem Vals.dropLast {xs : List V} {us : List Value} (h : Vals xs us) : Vals xs.dropLast us.dropLast := by
  induction h with
  | nil => exact .nil
  | cons r t ih =>
    cases t with
    | nil => exact .nil
    | cons q t' => exact .cons r ih
theorem Vals.eraseIdx : ∀ {xs : List V} {us : List Value} (i : Nat), Vals xs us → Vals (xs.eraseIdx i) (us.eraseIdx i)
  | _, _, _, .nil => .nil
  | _, _, 0, .cons _ t => t
  | _, _, i + 1, .cons r t => .cons r (Vals.eraseIdx i t)
theorem Vals.rep {xs : List V} {us : List Value} (h : Vals xs us) : ∀ k : Nat, Vals (List.replicate k xs).flatten (List.replicate k us).flatten
  | 0 => .nil
  | k + 1 => by
    rw [List.replicate_succ, List.replicate_succ, List.flatten_cons, List.flatten_cons]
    exact Vals.append h (Vals.rep h k)
theorem len_erase {α : Type} : ∀ (l : List α) (i : Nat), (l.eraseIdx i).length ≤ l.length
  | [], _ => Nat.le_refl _
  | _ :: _, 0 => Nat.le_succ _
  | _ :: r, i + 1 => Nat.succ_le_succ (len_erase r i)
theorem foldl_rep (its : List Value) : ∀ (k : Nat) (acc : List Value),
    List.foldl (fun x1 x2 => x1 ++ x2) acc.toArray (List.replicate k its.toArray) = (acc ++ (List.replicate k its).flatten).toArray
  | 0, acc => by simp
  | k + 1, acc => by
    have e : acc.toArray ++ its.toArray = (acc ++ its).toArray := by simp
    have e2 : (acc ++ its) ++ (List.replicate k its).flatten = acc ++ (List.replicate (k + 1) its).flatten := by
      rw [List.replicate_succ, List.flatten_cons, List.append_assoc]
    rw [← e2, ← foldl_rep its k (acc ++ its), ← e, List.replicate_succ, List.foldl_cons]

section
variable {X : Cx} {pins : List (Addr × Obj)} {σ : St} {H : Hp} {s : Shared} {l b : Addr} {xs ys zs : List V}
theorem Inv.lset {its its' : List Value} {n : Nat} {f : Array Value → Array Value} {t' : Nat} (I : Inv X pins σ H s) (hH : H l = some (.lst xs))
    (e : s.heap.get? l = some { cls := .type "list", data := .seq its.toArray n }) (hf : f its.toArray = its'.toArray) (hv : Vals ys its') (hz : ys.length ≤ sizeLine) :
    Inv X pins σ (upd H l (.lst ys)) { s with heap := s.heap.update l (Obj.mapSeq f), toks := t' } := by
  have q := PySem.IsL.update e f
  rw [hf] at q
  refine I.write (x := l) (e := l) (by rw [hH]; exact trivial) (.inl rfl) (fun b' u hb hu => (Heap.get?_update_other s.heap (Obj.mapSeq f) (Ne.symm hb)).trans hu) ⟨_, q⟩ ?_
  exact ⟨hz, its', _, hv, q⟩
theorem Inv.lnew {its : List Value} {t' : Nat} (I : Inv X pins σ H s) (hv : Vals ys its) (hz : ys.length ≤ sizeLine) :
    Inv X pins σ (upd H s.heap.objs.size (.lst ys)) { s with heap := s.heap.push { cls := .type "list", data := .seq its.toArray }, toks := t' } :=
  I.laid (fun _ _ q => Heap.get?_push_of_some _ q) (Nat.le_refl _) ⟨hz, its, 0, hv, Heap.get?_push_size _ rfl⟩
theorem Inv.fresh (I : Inv X pins σ H s) : H s.heap.objs.size = none := I.hok.fresh (Nat.le_refl _)
theorem Inv.lstM (I : Inv X pins σ H s) (hH : H l = some (.lst xs)) : xs.length ≤ sizeLine ∧ ∃ (its : List Value) (n : Nat), Vals xs its ∧ xs.length = its.length ∧ s.heap.get? l = some { cls := .type "list", data := .seq its.toArray n } := by
  obtain ⟨z, its, n, r, e⟩ := I.hok l _ hH
  exact ⟨z, its, n, r, r.length, e⟩

theorem notLongL {n : Nat} (h : n ≤ sizeLine) : Builtin.List.listTooLong n = false := by
  unfold Builtin.List.listTooLong
  exact decide_eq_false (by omega)
end
section
variable {X : Cx}
def rAppend : V → List V → Hp → VK → Prop := fun x vs H Q => ∃ l xs y, x = .ref l ∧ vs = [y] ∧ H l = some (.lst xs) ∧ xs.length < sizeLine ∧ Q .non (upd H l (.lst (xs ++ [y])))
theorem mt_append : MtM X "list.append" rAppend := by
  intro pins s σ H x vs v us Q I rx rv h
  obtain ⟨l, xs, y, rfl, rfl, hH, hz, q⟩ := h
  cases rx
  obtain ⟨u, rfl, ru⟩ := rv.one
  obtain ⟨z, its, n, r, hl, e⟩ := I.lstM hH
  refine call_meets F.slot_list_append ⟨_, e, rfl⟩ F.entry_list_append (F.args_list_append_2 _ _) (PySem.list_append l its.toArray n u (by rw [List.size_toArray]; omega)) ⟨e, ?_⟩
  refine ⟨.non, _, I.lset (its' := its ++ [u]) hH e (by simp) (r.append (.cons ru .nil)) ?_, rfl, q⟩
  rw [List.length_append, List.length_singleton]
  omega

def rPopAt : V → List V → Hp → VK → Prop := fun x vs H Q => ∃ l xs i k y, x = .ref l ∧ vs = [.int i] ∧ H l = some (.lst xs) ∧ -(2 ^ 63) ≤ i ∧ i < 2 ^ 63 ∧ seqIndex? i xs.length = some k ∧ xs[k]? = some y ∧ Q y (upd H l (.lst (xs.eraseIdx k)))
theorem mt_popAt : MtM X "list.pop" rPopAt := by
  intro pins s σ H x vs v us Q I rx rv h
  obtain ⟨l, xs, i, k, y, rfl, rfl, hH, h1, h2, hk, hy, q⟩ := h
  cases rx
  obtain ⟨u, rfl, ru⟩ := rv.one
  obtain ⟨t, rfl⟩ := ru
  obtain ⟨z, its, n, r, hl, e⟩ := I.lstM hH
  obtain ⟨w, hw, rw'⟩ := r.get hy
  refine call_meets F.slot_list_pop ⟨_, e, rfl⟩ F.entry_list_pop (F.args_list_pop_2 _ _)
    (MeetsSeq.list_pop_at l its.toArray n i t k w (fitsIndex_both h1 h2) (by rw [List.size_toArray, ← hl]; exact hk) (by rw [← Array.getElem?_toList]; exact hw) (by rw [List.size_toArray]; omega)) ⟨e, ?_⟩
  refine ⟨y, _, I.lset (its' := its.eraseIdx k) hH e ?_ (r.eraseIdx k) ?_, rw', q⟩
  · show its.toArray.eraseIdxIfInBounds k = (its.eraseIdx k).toArray
    rw [List.eraseIdxIfInBounds_toArray]
  · have := len_erase xs k
    omega

def rCat : R2 := fun x y H Q => ∃ l b xs zs, x = .ref l ∧ y = .ref b ∧ H l = some (.lst xs) ∧ H b = some (.lst zs) ∧ xs.length + zs.length ≤ sizeLine ∧ ∀ p, H p = none → Q (.ref p) (upd H p (.lst (xs ++ zs)))
theorem op_cat : OpR X (binaryOp .Add) rCat := by
  intro pins s σ H x y v u Q I rx ry h
  obtain ⟨l, b, xs, zs, rfl, rfl, hH, hB, hz, q⟩ := h
  cases rx
  cases ry
  obtain ⟨z, its, n, r, hl, e⟩ := I.lstM hH
  obtain ⟨z2, its2, n2, r2, hl2, e2⟩ := I.lstM hB
  refine PySem.P.add_list e e2 ?_ (by rw [List.size_toArray, List.size_toArray]; omega)
  have ea : its.toArray ++ its2.toArray = (its ++ its2).toArray := by simp
  rw [ea]
  exact ⟨.ref _, _, I.lnew (t' := s.toks) (r.append r2) (by rw [List.length_append]; omega), rfl, q _ I.fresh⟩
/-- a list times an int (a negative one is nothing) -/
def rRep : R2 := fun x y H Q => ∃ l k xs, x = .ref l ∧ y = .int k ∧ H l = some (.lst xs) ∧ -(2 ^ 63) ≤ k ∧ k < 2 ^ 63 ∧ xs.length * k.toNat ≤ sizeLine ∧
  ∀ p, H p = none → Q (.ref p) (upd H p (.lst (List.replicate k.toNat xs).flatten))
theorem len_rep {α : Type} (xs : List α) (k : Nat) : (List.replicate k xs).flatten.length = k * xs.length := by
  induction k with
  | zero => simp
  | succ k ih => rw [List.replicate_succ, List.flatten_cons, List.length_append, ih, Nat.succ_mul, Nat.add_comm]
theorem op_rep : OpR X (binaryOp .Mult) rRep := by
  intro pins s σ H x y v u Q I rx ry h
  obtain ⟨l, k, xs, rfl, rfl, hH, h1, h2, hz, q⟩ := h
  cases rx
  obtain ⟨t, rfl⟩ := ry
  obtain ⟨z, its, n, r, hl, e⟩ := I.lstM hH
  have hlen : its.toArray.size * k.toNat ≤ sizeLine := by rw [List.size_toArray, ← hl]; exact hz
  have hcap : ¬ its.toArray.size * k.toNat > (2 ^ 63 - 1) / 8 := by
    have : (sizeLine : Nat) ≤ (2 ^ 63 - 1) / 8 := by decide
    omega
  have hfit : ¬ (!Builtin.List.listFitsIndex k) = true := by
    rw [fitsIndex_both h1 h2]
    exact Bool.false_ne_true
  have hlong : ¬ Builtin.List.listTooLong (its.toArray.size * k.toNat) = true := by
    rw [notLongL hlen]
    exact Bool.false_ne_true
  have hnew : List.foldl (fun x1 x2 => x1 ++ x2) #[] (List.replicate (if its.toArray.isEmpty = true then 0 else k.toNat) its.toArray) = (List.replicate k.toNat its).flatten.toArray := by
    have f0 : ∀ m : Nat, List.foldl (fun x1 x2 => x1 ++ x2) #[] (List.replicate m its.toArray) = (List.replicate m its).flatten.toArray := fun m => by
      have := foldl_rep its m []
      rw [List.nil_append] at this
      exact this
    rw [f0]
    cases its with
    | nil => simp
    | cons a r' => rw [if_neg (by simp)]
  refine wpAny_binaryOp_repeat_ref (T := "list") (U := "int") (by decide) ⟨_, e, rfl⟩ (fun s' => typeIs_int s' k t) noFill_list_mul F.fills_int_mul F.slot_int_rmul repeat_list F.slot_int_index.lookup
    (call_meets F.slot_int_rmul (typeIs_int s k t) F.entry_int_rmul (F.args_int_rmul_2 _ _) (int___rmul___int_list k t l its.toArray n)
      ⟨e, rfl, ⟨_, e, rfl⟩, call_meets F.slot_list_mul ⟨_, e, rfl⟩ F.entry_list_mul (F.args_list_mul_2 _ _) (AutoListH.list___mul___list_int_3 l its.toArray n k t hfit hcap hlong) ⟨e, ?_⟩⟩)
  rw [hnew]
  exact ⟨.ref _, _, I.lnew (t' := s.toks) (r.rep k.toNat) (by rw [len_rep, Nat.mul_comm]; exact hz), rfl, q _ I.fresh⟩

end
section
variable {prog : Program} {w : World} {A : Around} {E : Value → Shared → Prop} {s : Shared}
end
section
variable {X : Cx}
end
end L2
namespace L2
open PySem PySem.Spec PyProof.Rows
theorem Vals.ints : ∀ {ns : List Int} {us : List Value}, Vals (ns.map V.int) us → IntsAre us ns
  | [], us, h => by
    rw [List.map_nil] at h
    cases h
    exact IntsAre.nil
  | n :: ns, us, h => by
    rw [List.map_cons] at h
    cases h with
    | cons r t =>
      obtain ⟨k, rfl⟩ := r
      exact IntsAre.cons n k (Vals.ints t)
theorem vals_of_ints : ∀ {us : List Value} {ns : List Int}, IntsAre us ns → Vals (ns.map V.int) us
  | _, _, .nil => by rw [List.map_nil]; exact Paired.nil
  | _, _, .cons n t h => by rw [List.map_cons]; exact Paired.cons (show RelV (V.int n) (Value.int n t) from ⟨t, rfl⟩) (vals_of_ints h)
theorem Vals.strs : ∀ {xs : List Str} {us : List Value}, Vals (xs.map V.str) us → StrsAre us xs
  | [], us, h => by
    rw [List.map_nil] at h
    cases h
    exact StrsAre.nil
  | x :: xs, us, h => by
    rw [List.map_cons] at h
    cases h with
    | cons r t =>
      obtain ⟨k, rfl⟩ := r
      exact StrsAre.cons x k (Vals.strs t)
theorem Vals.ref1 {a : Addr} {us : List Value} (r : Vals [V.ref a] us) : us = [Value.ref a] := by
  cases r with
  | cons r t =>
    cases t
    cases r
    rfl
section
variable {prog : Program} {w : World} {A : Around} {E : Value → Shared → Prop} {s : Shared} {l : Addr} {its : List Value} {ns : List Int} {Q : Value → Shared → Prop}
end
section
variable {X : Cx}
def rSorted (K : PySem.W.Frag) : List V → Hp → VK → Prop := fun vs H Q => ∃ (a : Addr) (ns : List Int), vs = [V.ref a] ∧ SqL K H a (ns.map V.int) ∧ ns.length < 64 ∧
  ∀ (ns' : List Int) (p : Addr), ns'.Perm ns → ns'.Pairwise (· ≤ ·) → H p = none → Q (.ref p) (upd H p (.lst (ns'.map V.int)))
theorem small64 {n : Nat} (h : n < 64) : n ≤ sizeLine := by rw [sizeLine_eq]; omega
theorem cr_sorted : CallR X (.builtin "sorted") (rSorted X.K) := by
  intro pins s σ H vs us Q I r h
  obtain ⟨a, ns, rfl, hs, h64, q⟩ := h
  obtain ⟨its, rv, hl, _⟩ := I.list hs
  rw [Vals.ref1 r]
  have hi := rv.ints
  refine PyProof.Rows.sorted_ints hl.isList hi (by rw [hi.length]; exact h64) fun out ns' h1 h2 h3 => ?_
  obtain ⟨ep, he'⟩ := PyProof.Rows.sortedAll_at s.heap its out
  have hlen : (ns'.map V.int).length ≤ sizeLine := by rw [List.length_map, h2.length_eq]; exact small64 h64
  exact ⟨.ref _, upd H (s.heap.objs.size + 1) (.lst (ns'.map V.int)), I.laid (t' := s.toks) (fun _ _ => PyProof.Rows.sortedAll_old) (Nat.le_succ _) ⟨hlen, out.toList, ep, vals_of_ints h1, he'⟩, rfl, q ns' _ h2 h3 (I.hok.fresh (Nat.le_succ _))⟩
end
section
variable {X : Cx}
def rIndex (K : PySem.W.Frag) : V → List V → Hp → VK → Prop := fun x xs H Q => ∃ (a : Addr) (ys : List V) (y : V) (j : Nat) (z : V), x = V.ref a ∧ xs = [y] ∧ SqL K H a ys ∧ flatV y = true ∧ ys.all flatV = true ∧ ys[j]? = some z ∧ eqV z y = true ∧
  (∀ (m : Nat) (z' : V), m < j → ys[m]? = some z' → eqV z' y = false) ∧ Q (.int (j : Nat)) H
theorem flat_at {ys : List V} (f : ys.all flatV = true) {j : Nat} {z : V} (h : ys[j]? = some z) : flatV z = true := List.all_eq_true.mp f z (List.mem_of_getElem? h)
theorem mt_index : MtR X "list.index" (rIndex X.K) := by
  intro pins s σ H x xs v us Q I rx rxs h
  obtain ⟨a, ys, y, j, z, rfl, rfl, hs, fy, fys, hz, hzj, hno, q⟩ := h
  cases rx
  cases rxs with
  | cons ry rt =>
    rename_i uy ut
    cases rt
    obtain ⟨its, rv, ⟨⟨cls, dd, data, sl⟩, n, ho, hc, hdn, hd⟩, hlen⟩ := I.list hs
    simp only at hc hd
    subst hc hd
    obtain ⟨u, hu, ru⟩ := rv.get hz
    obtain ⟨hjl, hje⟩ := List.getElem?_eq_some_iff.mp hu
    have hvl := rv.length
    have hj : j < its.toArray.size := by simpa using hjl
    have hsl := sizeLine_eq
    refine call_meets PySem.F.slot_list_index ⟨_, ho, rfl⟩ PySem.F.entry_list_index (PySem.F.args_list_index_2 _ _)
      (SeqAt.list_indexAt a its.toArray n dd sl uy (eqU y) j hj (by omega) ?_ ?_) ⟨ho, fun u' hu' => mem_eqAt ry fy rv fys u' (by simpa using hu'), ?_⟩
    · have e1 : its.toArray[j] = u := by simpa using hje
      rw [e1, eqU_of ru (flat_at fys hz)]
      exact hzj
    · intro m hm hmj
      have hml : m < its.length := by simpa using hm
      have hmy : m < ys.length := by omega
      have hy' : ys[m]? = some ys[m] := List.getElem?_eq_getElem hmy
      obtain ⟨u2, hu2, ru2⟩ := rv.get hy'
      obtain ⟨_, hme⟩ := List.getElem?_eq_some_iff.mp hu2
      have e1 : its.toArray[m] = u2 := by simpa using hme
      rw [e1, eqU_of ru2 (flat_at fys hy')]
      exact hno m _ hmj hy'
    · exact ⟨.int (j : Nat), H, I.tok _, ⟨_, rfl⟩, q⟩
end
section
variable {X : Cx}
end
theorem all_range : ∀ bs : List Bool, (List.range bs.length).all (fun i => bs.getD i false) = bs.all id
  | [] => rfl
  | b :: bs => by
    rw [List.length_cons, List.range_succ_eq_map, List.all_cons, List.all_map, List.all_cons, ← all_range bs]
    all_goals rfl
section
variable {X : Cx}
end
mutual
inductive Dp (K : PySem.W.Frag) (H : Hp) : V → PyData → Prop
  | non : Dp K H .non .none
  | bl (b : Bool) : Dp K H (.bl b) (.bool b)
  | int (i : Int) : Dp K H (.int i) (.int i)
  | str (x : Str) : Dp K H (.str x) (.str x)
  | lst {a : Addr} {xs : List V} {ds : List PyData} : SqL K H a xs → DpAll K H xs ds → Dp K H (.ref a) (.list ds)
  | tup {a : Addr} {xs : List V} {ds : List PyData} : SqT K H a xs → DpAll K H xs ds → Dp K H (.ref a) (.tuple ds)
inductive DpAll (K : PySem.W.Frag) (H : Hp) : List V → List PyData → Prop
  | nil : DpAll K H [] []
  | cons {v : V} {vs : List V} {d : PyData} {ds : List PyData} : Dp K H v d → DpAll K H vs ds → DpAll K H (v :: vs) (d :: ds)
end
section
variable {X : Cx} {pins : List (Addr × Obj)} {σ : St} {H : Hp} {s : Shared}
mutual
theorem Dp.reads (I : Inv X pins σ H s) : ∀ (d : PyData) (v : V) (u : Value), Dp X.K H v d → RelV v u → ∃ as, Reads s.heap u d as
  | .none, _, _, h, r => by
    cases h
    cases r
    exact ⟨_, Reads.none⟩
  | .bool b, _, _, h, r => by
    cases h
    cases r
    exact ⟨_, Reads.bool b⟩
  | .int i, _, _, h, r => by
    cases h
    obtain ⟨t, rfl⟩ := r
    exact ⟨_, Reads.int i t⟩
  | .str x, _, _, h, r => by
    cases h
    obtain ⟨t, rfl⟩ := r
    exact ⟨_, Reads.str x t⟩
  | .list ds, _, _, h, r => by
    cases h with
    | lst hs ha =>
      cases r
      obtain ⟨its, rv, ⟨o, n, ho, hc, _, hd⟩, _⟩ := I.list hs
      obtain ⟨as, hr⟩ := Dp.readsAll I ds _ its ha rv
      exact ⟨_, Reads.list ho hc hd hr⟩
  | .tuple ds, _, _, h, r => by
    cases h with
    | tup hs ha =>
      cases r
      obtain ⟨its, rv, ⟨o, ho, hc, n, hd⟩, _⟩ := I.tuple hs
      obtain ⟨as, hr⟩ := Dp.readsAll I ds _ its ha rv
      exact ⟨_, Reads.tuple ho hc hd hr⟩
  | .dict _, _, _, h, _ => by cases h
theorem Dp.readsAll (I : Inv X pins σ H s) : ∀ (ds : List PyData) (vs : List V) (us : List Value), DpAll X.K H vs ds → Vals vs us → ∃ as, ReadsAll s.heap us ds as
  | [], _, _, h, r => by
    cases h
    cases r
    exact ⟨_, ReadsAll.nil⟩
  | d :: ds, _, _, h, r => by
    cases h with
    | cons h1 h2 =>
      cases r with
      | cons r1 r2 =>
        obtain ⟨as, q1⟩ := Dp.reads I d _ _ h1 r1
        obtain ⟨bs, q2⟩ := Dp.readsAll I ds _ _ h2 r2
        exact ⟨_, ReadsAll.cons q1 q2⟩
end
end
section
variable {X : Cx}
def rEqD (K : PySem.W.Frag) : R2 := fun x y H Q => ∃ d e, Dp K H x d ∧ Dp K H y e ∧ SeqAt.shaped d = true ∧ SeqAt.shaped e = true ∧ Q (.bl (PyData.eqv d e)) H
def rNeD (K : PySem.W.Frag) : R2 := fun x y H Q => ∃ d e, Dp K H x d ∧ Dp K H y e ∧ SeqAt.shaped d = true ∧ SeqAt.shaped e = true ∧ Q (.bl (!PyData.eqv d e)) H
theorem op_eqD (hu : X.A.units + 64 < cLine) : OpR X (compareOp .Eq) (rEqD X.K) := by
  intro pins s σ H x y v u Q I rx ry h
  obtain ⟨d, e, hd, he, sd, se, q⟩ := h
  obtain ⟨as, r1⟩ := Dp.reads I d x v hd rx
  obtain ⟨bs, r2⟩ := Dp.reads I e y u he ry
  exact SeqAt.compareEq_shaped r1 r2 sd se hu ⟨.bl _, H, I, rfl, q⟩
theorem op_neD (hu : X.A.units + 64 < cLine) : OpR X (compareOp .NotEq) (rNeD X.K) := by
  intro pins s σ H x y v u Q I rx ry h
  obtain ⟨d, e, hd, he, sd, se, q⟩ := h
  obtain ⟨as, r1⟩ := Dp.reads I d x v hd rx
  obtain ⟨bs, r2⟩ := Dp.reads I e y u he ry
  exact SeqAt.compareNe_shaped r1 r2 sd se hu ⟨.bl _, H, I, rfl, q⟩
end
end L2
namespace L2
open PySem PySem.Spec PyProof.Rows
abbrev CellAt (h : Heap) (c : Addr) (v : Option Value) : Prop := h.IsCell c v
def relS (scope sc : Scope) : Scope :=
  { scope with names := scope.names.map fun (n, k) => if (k == .free && sc.kind == .function && sc.names.lookup n == some .cell) then (n, .cell) else (n, k) }

def cloFrom (cells : List (Str × Addr)) : List (Str × NameKind) → List (Str × Addr) → List (Str × Addr)
  | [], acc => acc
  | (n, k) :: r, acc => if k == .free then cloFrom cells r ((n, (cells.lookup n).getD 0) :: acc) else cloFrom cells r acc

theorem closure_loop (env : Env) (f : Str × NameKind → List (Str × Addr) → Sem (ForInStep (List (Str × Addr))))
    (hf : ∀ n k c, f (n, k) c = if k == .free then (do let a ← cellOf env n; pure (.yield ((n, a) :: c))) else pure (.yield c)) :
    ∀ (names : List (Str × NameKind)) (acc : List (Str × Addr)), (∀ y ∈ names, y.2 = .free → ∃ c, env.cells.lookup y.1 = some c) → forIn names acc f = pure (cloFrom env.cells names acc)
  | [], acc, _ => by rw [List.forIn_nil]; rfl
  | (n, k) :: r, acc, h => by
    rw [List.forIn_cons, hf]
    have ih := fun acc => closure_loop env f hf r acc fun y hy => h y (List.mem_cons_of_mem _ hy)
    unfold cloFrom
    by_cases hk : (k == NameKind.free) = true
    · rw [if_pos hk, if_pos hk]
      obtain ⟨c, hc⟩ := h (n, k) List.mem_cons_self (by simpa using hk)
      have e : cellOf env n = pure c := by unfold cellOf; rw [hc]
      rw [e]
      have e2 : (env.cells.lookup n).getD 0 = c := by rw [hc]; rfl
      rw [e2]
      exact ih _
    · rw [if_neg hk, if_neg hk]
      exact ih _
theorem closure_ok {scope : Scope} {env : Env} (h : ∀ y ∈ scope.names, y.2 = .free → ∃ c, env.cells.lookup y.1 = some c) : closureFor scope env = pure (cloFrom env.cells scope.names []) := by
  simp only [closureFor]
  rw [closure_loop env _ (fun n k c => rfl) scope.names [] h]
  rfl

theorem mem_lookup {α : Type} : ∀ {l : List (Str × α)} {n : Str} {c : α}, (n, c) ∈ l → ∃ c', l.lookup n = some c'
  | (k, v) :: r, n, c, h => by
    rw [List.lookup_cons]
    cases hb : n == k with
    | true => exact ⟨_, rfl⟩
    | false =>
      rcases List.mem_cons.mp h with e | h
      · cases e; simp at hb
      · exact mem_lookup h

theorem cloFrom_mem {cells : List (Str × Addr)} : ∀ {names : List (Str × NameKind)} {acc : List (Str × Addr)} {n : Str} {c : Addr}, (n, c) ∈ cloFrom cells names acc → (n, c) ∈ acc ∨ ((n, .free) ∈ names ∧ c = (cells.lookup n).getD 0)
  | [], _, _, _, h => .inl h
  | (m, k) :: r, acc, n, c, h => by
    unfold cloFrom at h
    split at h
    · rename_i hk
      have hk : k = .free := by simpa using hk
      rcases cloFrom_mem h with h | ⟨h1, h2⟩
      · rcases List.mem_cons.mp h with e | h
        · cases e; exact .inr ⟨hk ▸ List.mem_cons_self, rfl⟩
        · exact .inl h
      · exact .inr ⟨List.mem_cons_of_mem _ h1, h2⟩
    · rcases cloFrom_mem h with h | ⟨h1, h2⟩
      · exact .inl h
      · exact .inr ⟨List.mem_cons_of_mem _ h1, h2⟩
theorem cloFrom_acc {cells : List (Str × Addr)} : ∀ {names : List (Str × NameKind)} {acc : List (Str × Addr)} {p : Str × Addr}, p ∈ acc → p ∈ cloFrom cells names acc
  | [], _, _, h => h
  | (m, k) :: r, acc, p, h => by
    unfold cloFrom
    split
    · exact cloFrom_acc (List.mem_cons_of_mem _ h)
    · exact cloFrom_acc h
theorem cloFrom_has {cells : List (Str × Addr)} : ∀ {names : List (Str × NameKind)} {acc : List (Str × Addr)} {n : Str}, (n, .free) ∈ names → (n, (cells.lookup n).getD 0) ∈ cloFrom cells names acc
  | (m, k) :: r, acc, n, h => by
    unfold cloFrom
    rcases List.mem_cons.mp h with e | h
    · cases e
      exact cloFrom_acc List.mem_cons_self
    · split
      · exact cloFrom_has h
      · exact cloFrom_has h

theorem cells_mem : ∀ {names : List (Str × NameKind)} {h : Heap} {acc : List (Str × Addr)} {x : Str} {c : Addr}, (x, c) ∈ cellsFrom h.objs.size names acc →
    (x, c) ∈ acc ∨ ((x, .cell) ∈ names ∧ h.objs.size ≤ c ∧ CellAt (pushCells h names) c none)
  | [], _, _, _, _, h => .inl h
  | (n, k) :: r, h, acc, x, c, hm => by
    unfold cellsFrom at hm
    unfold pushCells
    split at hm
    · rename_i hk
      rw [if_pos hk]
      have hk : k = .cell := by simpa using hk
      rw [← Heap.size_push h { cls := .type "cell", data := .cell none }] at hm
      rcases cells_mem hm with hm | ⟨h1, h2, h3⟩
      · rcases List.mem_cons.mp hm with e | hm
        · cases e
          exact .inr ⟨hk ▸ List.mem_cons_self, Nat.le_refl _, _, pushCells_keeps r _ _ _ (Heap.get?_push_size _ rfl), rfl⟩
        · exact .inl hm
      · rw [Heap.size_push] at h2
        exact .inr ⟨List.mem_cons_of_mem _ h1, Nat.le_of_succ_le h2, h3⟩
    · rename_i hk
      rw [if_neg hk]
      rcases cells_mem hm with hm | ⟨h1, h2, h3⟩
      · exact .inl hm
      · exact .inr ⟨List.mem_cons_of_mem _ h1, h2, h3⟩
theorem cells_acc : ∀ {names : List (Str × NameKind)} {n : Nat} {acc : List (Str × Addr)} {p : Str × Addr}, p ∈ acc → p ∈ cellsFrom n names acc
  | [], _, _, _, h => h
  | (m, k) :: r, n, acc, p, h => by
    unfold cellsFrom
    split
    · exact cells_acc (List.mem_cons_of_mem _ h)
    · exact cells_acc h
theorem cells_has : ∀ {names : List (Str × NameKind)} {n : Nat} {acc : List (Str × Addr)} {x : Str}, (x, .cell) ∈ names → ∃ c, (x, c) ∈ cellsFrom n names acc
  | (m, k) :: r, n, acc, x, h => by
    unfold cellsFrom
    rcases List.mem_cons.mp h with e | h
    · cases e
      exact ⟨n, cells_acc List.mem_cons_self⟩
    · split
      · exact cells_has h
      · exact cells_has h
theorem cells_inj : ∀ {names : List (Str × NameKind)} {h : Heap} {acc : List (Str × Addr)} {x y : Str} {c : Addr}, (∀ p ∈ acc, p.2 < h.objs.size) → (∀ x y c, (x, c) ∈ acc → (y, c) ∈ acc → x = y) →
    (x, c) ∈ cellsFrom h.objs.size names acc → (y, c) ∈ cellsFrom h.objs.size names acc → x = y
  | [], _, _, _, _, _, _, hi, h1, h2 => hi _ _ _ h1 h2
  | (n, k) :: r, h, acc, x, y, c, hl, hi, h1, h2 => by
    unfold cellsFrom at h1 h2
    split at h1
    · rename_i hk
      rw [if_pos hk] at h2
      rw [← Heap.size_push h { cls := .type "cell", data := .cell none }] at h1 h2
      refine cells_inj (h := h.push _) (fun p hp => ?_) (fun x y c a b => ?_) h1 h2
      · rw [Heap.size_push]
        rcases List.mem_cons.mp hp with rfl | hp
        · exact Nat.lt_succ_self _
        · exact Nat.lt_succ_of_lt (hl p hp)
      · rcases List.mem_cons.mp a with e | a <;> rcases List.mem_cons.mp b with e' | b
        · cases e; cases e'; rfl
        · cases e; exact absurd (hl _ b) (Nat.lt_irrefl _)
        · cases e'; exact absurd (hl _ a) (Nat.lt_irrefl _)
        · exact hi _ _ _ a b
    · rename_i hk
      rw [if_neg hk] at h2
      exact cells_inj hl hi h1 h2

theorem newEnv_comp {M : Model} {A : Around} {E : Value → Shared → Prop} {s : Shared} {scope : Scope} {globals : Addr} {closure : List (Str × Addr)} {qual : Str} {func : Option Addr} {code : Value} {around : Env} {builtins : Addr} {Q : Env → Shared → Prop}
    (h : Q (newEnv scope s.heap.objs.size globals (cellsFrom (s.heap.objs.size + 1) scope.names closure) qual func code (some around) builtins)
      { s with heap := pushCells (s.heap.push { cls := .type "dict", data := .dict #[] }) scope.names }) :
    wpAny M A (newFunctionEnv scope globals closure [] qual func code (some around) builtins) Q E s := by
  simp only [newFunctionEnv, Option.isSome_some, if_true]
  refine wpAny_bind (wpAny_alloc ?_)
  refine wpAny_bind (wpAny_layCells _ (fun n k c => rfl) scope.names closure _ _ ?_)
  rw [show ({ s with heap := s.heap.push { cls := .type "dict", data := .dict #[] } } : Shared).heap.objs.size = s.heap.objs.size + 1 from Heap.size_push ..]
  rw [List.forIn_nil]
  exact wpAny_bind (wpAny_pure (wpAny_pure h))

/-- every name of the written scope, in the scope that runs -/
theorem lookup_relS {sc : Scope} : ∀ {names : List (Str × NameKind)} {x : Str} {k : NameKind},
    (names.map fun (n, k) => if (k == NameKind.free && sc.kind == .function && sc.names.lookup n == some .cell) then (n, NameKind.cell) else (n, k)).lookup x = some k →
    ∃ k', names.lookup x = some k' ∧ (k = k' ∨ (k' = .free ∧ k = .cell))
  | [], _, _, h => by simp at h
  | (n, k₀) :: r, x, k, h => by
    have ih := @lookup_relS sc r x k
    have h' : List.lookup x ((if (k₀ == NameKind.free && sc.kind == .function && sc.names.lookup n == some .cell) = true then (n, NameKind.cell) else (n, k₀)) :: (r.map _)) = some k := h
    cases hx : x == n with
    | true =>
      simp only [List.lookup_cons, hx]
      by_cases hc : (k₀ == NameKind.free && sc.kind == .function && sc.names.lookup n == some .cell) = true
      · rw [if_pos hc] at h'
        simp only [List.lookup_cons, hx] at h'
        cases h'
        simp only [Bool.and_eq_true, beq_iff_eq] at hc
        exact ⟨k₀, rfl, .inr ⟨hc.1.1, rfl⟩⟩
      · rw [if_neg hc] at h'
        simp only [List.lookup_cons, hx] at h'
        cases h'
        exact ⟨_, rfl, .inl rfl⟩
    | false =>
      simp only [List.lookup_cons, hx]
      by_cases hc : (k₀ == NameKind.free && sc.kind == .function && sc.names.lookup n == some .cell) = true
      · rw [if_pos hc] at h'
        simp only [List.lookup_cons, hx] at h'
        exact ih h'
      · rw [if_neg hc] at h'
        simp only [List.lookup_cons, hx] at h'
        exact ih h'
/-- the names of a comprehension's block: its own (with their places in N), or captured -/
structure BlkOk (N : List Str) (sc scope : Scope) (own : List (Str × Nat)) : Prop where
  kind : scope.kind = .function
  uniq : ∀ y ∈ scope.names, scope.names.lookup y.1 = some y.2
  ix : ∀ p ∈ own, N[p.2]? = some p.1
  free : ∀ y ∈ scope.names, y.2 = .free → sc.names.lookup y.1 = some .cell ∨ sc.names.lookup y.1 = some .free
  own : ∀ y ∈ scope.names, y.2 = .local ∨ y.2 = .cell → y.1 ∈ own.map (·.1) ∨ y.1 ∉ N
/-- the slots of the block's own names forgotten -/
def wipe (σ : St) : List Nat → St
  | [] => σ
  | v :: vs => (wipe σ vs).set v none
theorem wipe_length (σ : St) : ∀ vs : List Nat, (wipe σ vs).length = σ.length
  | [] => rfl
  | v :: vs => by unfold wipe; rw [List.length_set, wipe_length σ vs]
theorem wipe_some {σ : St} {i : Nat} {x : V} : ∀ {vs : List Nat}, (wipe σ vs)[i]? = some (some x) → σ[i]? = some (some x) ∧ i ∉ vs
  | [], h => ⟨h, by simp⟩
  | v :: vs, h => by
    unfold wipe at h
    by_cases hi : v = i
    · subst hi
      by_cases hv : v < (wipe σ vs).length
      · rw [List.getElem?_set_self hv] at h; cases h
      · rw [List.getElem?_eq_none (by simpa using hv)] at h; cases h
    · rw [List.getElem?_set_ne hi] at h
      obtain ⟨h1, h2⟩ := wipe_some h
      exact ⟨h1, by simp only [List.mem_cons, not_or]; exact ⟨fun e => hi e.symm, h2⟩⟩

/-- the context of a block that starts at s, its iterator's objects at fp -/
abbrev Cx.blk (X : Cx) (s : Shared) (H : Hp) (scope : Scope) (cenv : Env) (fp : List Addr) : Cx := { X with s_0 := s, H_0 := H, env := cenv, outer := X.stack, ex := fp, fn := fun x => scope.names.lookup x == some .cell, pn := [], xe := fun _ _ => False }
section
variable {X : Cx} {pins : List (Addr × Obj)} {σ : St} {H : Hp} {s : Shared}
theorem block_start {scope : Scope} {own : List (Str × Nat)} {fp : List Addr} (I : Inv X pins σ H s) (ok : BlkOk X.N X.env.scope scope own) (hN : X.N.Nodup) (hfp : ∀ b ∈ fp, FpOk X pins H b ∧ b < s.heap.objs.size) :
    Inv (X.blk s H scope (compEnvC scope (cellsFrom (s.heap.objs.size + 1) scope.names (cloFrom X.env.cells scope.names [])) s.heap.objs.size X.env) fp) [] (wipe σ (own.map (·.2))) H { s with heap := pushCells (s.heap.push { cls := .type "dict", data := .dict #[] }) scope.names } := by
  have hfree : ∀ y ∈ scope.names, y.2 = .free → ∃ c, X.env.cells.lookup y.1 = some c := fun y hy e => by
    rcases ok.free y hy e with k | k
    · exact I.ok.has _ (.inl k)
    · exact I.ok.has _ (.inr k)
  generalize hcenv : compEnvC scope (cellsFrom (s.heap.objs.size + 1) scope.names (cloFrom X.env.cells scope.names [])) s.heap.objs.size X.env = cenv
  have kp : ∀ b o, s.heap.get? b = some o → (pushCells (s.heap.push { cls := .type "dict", data := .dict #[] }) scope.names).get? b = some o := fun b o e => pushCells_keeps _ _ _ _ (Heap.get?_push_of_some _ e)
  have hL : cenv.locals = s.heap.objs.size := by rw [← hcenv]; rfl
  have hcl : cenv.cells = cellsFrom (s.heap.objs.size + 1) scope.names (cloFrom X.env.cells scope.names []) := by rw [← hcenv]; rfl
  have hsc : cenv.scope = relS scope X.env.scope := by rw [← hcenv]; rfl
  rw [← Heap.size_push s.heap { cls := .type "dict", data := .dict #[] }] at hcl
  have cm : ∀ {y c}, (y, c) ∈ cloFrom X.env.cells scope.names [] → X.env.cells.lookup y = some c ∧ c < s.heap.objs.size := fun {y c} hm => by
    rcases cloFrom_mem hm with hm | ⟨h1, rfl⟩
    · cases hm
    · obtain ⟨c, hc⟩ := hfree _ h1 rfl
      rw [hc]
      obtain ⟨w, z⟩ := I.cell _ _ hc
      exact ⟨rfl, z.lt⟩
  have mem : ∀ {y c}, cenv.cells.lookup y = some c → (X.env.cells.lookup y = some c ∧ c < s.heap.objs.size) ∨ (s.heap.objs.size + 1 ≤ c ∧ CellAt (pushCells (s.heap.push { cls := .type "dict", data := .dict #[] }) scope.names) c none) := fun {y c} e => by
    rw [hcl] at e
    rcases cells_mem (PySem.mem_of_lookup e) with hm | ⟨_, h2, h3⟩
    · exact .inl (cm hm)
    · rw [Heap.size_push] at h2; exact .inr ⟨h2, h3⟩
  have look : ∀ {y}, scope.names.lookup y = some .free → ∃ c, cenv.cells.lookup y = some c ∧ X.env.cells.lookup y = some c := fun {y} hl => by
    have hy : (y, NameKind.free) ∈ scope.names := PySem.mem_of_lookup hl
    obtain ⟨c', e'⟩ := mem_lookup (cells_acc (names := scope.names) (n := (s.heap.push { cls := .type "dict", data := .dict #[] }).objs.size) (cloFrom_has (cells := X.env.cells) (acc := []) hy))
    rw [← hcl] at e'
    refine ⟨c', e', ?_⟩
    rw [hcl] at e'
    rcases cells_mem (PySem.mem_of_lookup e') with hm | ⟨h1, _, _⟩
    · exact (cm hm).1
    · have := ok.uniq _ h1
      rw [hl] at this; cases this
  have okB : (X.blk s H scope cenv fp).Ok := by
    refine ⟨I.ok.mod, by show cenv.scope.kind = _; rw [hsc]; exact ok.kind, by show cenv.globals = _; rw [← hcenv]; exact I.ok.glob, by show cenv.builtins = _; rw [← hcenv]; exact I.ok.blt, by show s.heap.objs.size ≤ cenv.locals; rw [hL]; exact Nat.le_refl _,
      fun y z c e1 e2 => ?_, fun y hy => ?_, fun y c z e => ?_, I.ok.hd, I.ok.frames, .inl rfl, fun b hb => ⟨?_, fun y c e z => ?_⟩, I.bs, Nat.le_trans I.ok.bsz I.sz, fun b o e hb => ?_, fun b hb z => ?_, I.stack, I.stkFree⟩
    · have e1 : cenv.cells.lookup y = some c := e1
      have e2 : cenv.cells.lookup z = some c := e2
      rw [hcl] at e1 e2
      refine cells_inj (fun p hp => ?_) (fun y z c a b => I.ok.inj y z c (cm a).1 (cm b).1) (PySem.mem_of_lookup e1) (PySem.mem_of_lookup e2)
      rw [Heap.size_push]
      exact Nat.lt_succ_of_lt (cm (y := p.1) (c := p.2) hp).2
    · show ∃ c, cenv.cells.lookup y = some c
      have key : ∀ k, cenv.kindOf y = some k → (k = .cell ∨ k = .free) → ∃ c, cenv.cells.lookup y = some c := fun k hk hk' => by
        unfold Env.kindOf at hk
        rw [hsc] at hk
        obtain ⟨k', e, r⟩ := lookup_relS hk
        have : k' = .cell ∨ k' = .free := by
          rcases r with rfl | ⟨rfl, _⟩
          · exact hk'
          · exact .inr rfl
        rcases this with rfl | rfl
        · obtain ⟨c, hm⟩ := cells_has (n := (s.heap.push { cls := .type "dict", data := .dict #[] }).objs.size) (acc := cloFrom X.env.cells scope.names []) (PySem.mem_of_lookup e)
          obtain ⟨c', e'⟩ := mem_lookup hm
          exact ⟨c', by rw [hcl]; exact e'⟩
        · obtain ⟨c, h1, _⟩ := look e
          exact ⟨c, h1⟩
      rcases hy with hy | hy
      · exact key _ hy (.inl rfl)
      · exact key _ hy (.inr rfl)
    · have z : (scope.names.lookup y == some NameKind.cell) = true := z
      have z : scope.names.lookup y = some .cell := by simpa using z
      have e : cenv.cells.lookup y = some c := e
      rw [hcl] at e
      rcases cells_mem (PySem.mem_of_lookup e) with hm | ⟨_, h2, _⟩
      · rcases cloFrom_mem hm with hm | ⟨h1, _⟩
        · cases hm
        · have q := ok.uniq _ h1
          rw [z] at q; cases q
      · rw [Heap.size_push] at h2
        exact Nat.le_of_succ_le h2
    · show b ≠ cenv.locals
      rw [hL]; exact Nat.ne_of_lt (hfp b hb).2
    · have e : cenv.cells.lookup y = some c := e
      rcases mem e with ⟨h1, _⟩ | ⟨h1, _⟩
      · exact (hfp b hb).1.2.2.2.2.1 y c h1 z
      · have h2 : s.heap.objs.size + 1 ≤ b := by rw [← z]; exact h1
        exact absurd (Nat.lt_of_lt_of_le (hfp b hb).2 (Nat.le_of_succ_le h2)) (Nat.lt_irrefl _)
    · rcases (hfp b hb).1.2.2.2.1 with z | z
      · exact I.ok.noex b o e z
      · exact absurd (Nat.lt_of_lt_of_le (Heap.lt_size e) (Nat.le_trans I.ok.bsz z)) (Nat.lt_irrefl _)
    · rcases List.mem_cons.mp (I.stkSub b z) with z | z
      · exact (hfp b hb).1.2.1 z
      · exact (hfp b hb).1.2.2.1 z
  refine ⟨okB, rfl, I.bare, Un.kept kp, ⟨fun _ => none, ?_, fun i y av e1 e2 e3 => ?_⟩, fun y c e => ?_, ?_, fun y c e => ?_, fun p hp => ?_, I.hok.kept kp, by rw [wipe_length]; exact I.len⟩
  · show Heap.Ns _ cenv.locals _
    rw [hL]
    exact Heap.Ns.keeps (Heap.Ns.new ..) fun b o e => pushCells_keeps _ _ _ _ e
  · obtain ⟨e2, hne⟩ := wipe_some e2
    have hfr : scope.names.lookup y = some .free ∧ (cenv.kindOf y = some .cell ∨ cenv.kindOf y = some .free) := by
      have key : ∀ k, cenv.scope.names.lookup y = some k → k = .local ∨ k = .cell ∨ k = .free → scope.names.lookup y = some .free ∧ (cenv.kindOf y = some .cell ∨ cenv.kindOf y = some .free) := fun k hk hk' => by
        have hk0 := hk
        rw [hsc] at hk
        obtain ⟨k', e, r⟩ := lookup_relS hk
        have no : ¬ (k' = .local ∨ k' = .cell) := fun hh => by
          rcases ok.own _ (PySem.mem_of_lookup e) hh with e' | e'
          · obtain ⟨p, hp, hpy⟩ := List.mem_map.mp e'
            have e3 := ok.ix p hp
            have : p.1 = y := hpy
            rw [this] at e3
            exact hne (List.mem_map.mpr ⟨p, hp, nodup_ix hN e3 e1⟩)
          · exact e' (List.mem_of_getElem? e1)
        rcases r with rfl | ⟨rfl, rfl⟩
        · rcases hk' with rfl | rfl | rfl
          · exact absurd (.inl rfl) no
          · exact absurd (.inr rfl) no
          · exact ⟨e, .inr hk0⟩
        · exact ⟨e, .inl hk0⟩
      have e3 : Vis cenv.scope y := e3
      rcases e3 with e3 | e3 | e3
      · exact key _ e3 (.inl rfl)
      · exact key _ e3 (.inr (.inl rfl))
      · exact key _ e3 (.inr (.inr rfl))
    obtain ⟨m, hn, hl⟩ := I.loc
    have hvis : Vis X.env.scope y := (ok.free _ (PySem.mem_of_lookup hfr.1) rfl).elim (fun k => .inr (.inl k)) (fun k => .inr (.inr k))
    obtain ⟨w, r, q⟩ := hl i y av e1 e2 hvis
    refine ⟨w, r, .inr ⟨hfr.2, ?_⟩⟩
    obtain ⟨c, h1, h2⟩ := look hfr.1
    rcases q with ⟨k, _⟩ | ⟨_, c', e', z⟩
    · have k : X.env.scope.names.lookup y = some .local := k
      rcases ok.free _ (PySem.mem_of_lookup hfr.1) rfl with k' | k' <;> rw [show X.env.scope.names.lookup y = _ from k'] at k <;> cases k
    · rw [h2] at e'; cases e'
      exact ⟨c, h1, z.keeps kp⟩
  · have e : cenv.cells.lookup y = some c := e
    rcases mem e with ⟨h1, _⟩ | ⟨_, z⟩
    · obtain ⟨w, z⟩ := I.cell y c h1
      exact ⟨w, z.keeps kp⟩
    · exact ⟨_, z⟩
  · show H cenv.locals = none
    rw [hL]; exact I.hok.fresh (Nat.le_refl _)
  · have e : cenv.cells.lookup y = some c := e
    rcases mem e with ⟨h1, _⟩ | ⟨h1, _⟩
    · exact I.freeC y c h1
    · exact I.hok.fresh (Nat.le_of_succ_le h1)
  · exact absurd (show p ∈ ([] : List (Addr × Obj)) ++ [] from hp) (by simp)

/-- an item appended to a tracked list -/
theorem app_ok {E : Value → Shared → Prop} {D : Addr} {xs : List V} {y : V} {v : Value} {Q : Value → Shared → Prop} (I : Inv X pins σ H s) (hD : H D = some (.lst xs)) (hz : xs.length < sizeLine) (r : RelV y v)
    (h : ∀ s', Inv X pins σ (upd H D (.lst (xs ++ [y]))) s' → Q .none s') : wpAny (model X.prog X.w) X.A (call (.builtin "list.append") [.ref D, v]) Q E s := by
  obtain ⟨hz', its, n, ri, e⟩ := I.hok D _ hD
  have hl := ri.length
  refine append_at (hsz := by rw [List.size_toArray]; omega) e fun h' sb ho' => ?_
  refine h { s with heap := h' } (I.write (t' := s.toks) (by rw [hD]; trivial) (.inl rfl) (fun b u hb q => (sb.2 b hb).trans q) ⟨_, ho'⟩ ⟨by rw [List.length_append]; exact hz, its ++ [v], n + 1, ri.append (.cons r .nil), ?_⟩)
  rw [ho']
  simp

/-- a clause's tests -/
def PTs (X : Cx) (ifs : List Expr) (t : TT) : Prop :=
  ∀ (pins : List (Addr × Obj)) (s : Shared) (σ : St) (H : Hp) (Q : Bool → Hp → Prop), Inv X pins σ H s → t σ H Q →
    wpAny (model X.prog X.w) X.A (forIn ifs true fun c r => if r = true then do let ok ← isTrue c X.env (eval c X.env); pure (ForInStep.yield ok) else pure (ForInStep.yield r)) (TP X pins σ Q) X.xe s
def tYes : TT := fun _ H Q => Q true H
theorem pts_nil : PTs X [] tYes := fun _ _ _ H _ I h => wpAny_tests_nil ⟨H, I, h⟩
theorem pts_one {c : Expr} {t : TT} (h : PT X c t) : PTs X [c] t := fun pins s σ H Q I hw => wpAny_tests_one (h pins s σ H Q I hw)
end
theorem thnF {α : Type} {t : Sem α} {Q Q' : α → Shared → Prop} {M : Model} {A : Around} {E : Value → Shared → Prop} {s : Shared} (h : wpAny M A t Q (fun _ _ => False) s) (hQ : ∀ a s, Q a s → Q' a s) : wpAny M A t Q' E s := wpAny_mono h hQ fun _ _ z => False.elim z

/-- the loop of a list comprehension's block, the target of any form (codeAny_compLoop_tests asks a target that no tuple goes to; statement and proof follow it, PyProof/CompMap.lean:41-61, with the step letOwnedTupleGo kept) -/
theorem compLoop_any {prog : Program} {w : World} {A : Around} {R : Result → Shared → Prop} {s : Shared} {elt target iter : Expr} {ifs : List Expr} {scope : Scope} {pos : Pos} {it acc : Value} {env : Env} (I : Nat → Shared → Prop)
    (turn : ∀ n s, I n s → wpAny (model prog w) A (pyNext it) (fun r s₁ => match r with
      | none => R (.ok .next) s₁
      | some v => wpAny (model prog w) A (letOwnedTupleGo target it v) (fun _ s₁' => wpAny (model prog w) A (assign target env v) (fun _ s₂ =>
          wpAny (model prog w) A (forIn ifs true fun c r => if r = true then do let ok ← isTrue c env (eval c env); pure (ForInStep.yield ok) else pure (ForInStep.yield r)) (fun ok s₃ =>
            if ok = true then wpAny (model prog w) A (eval elt env) (fun x s₄ =>
              wpAny (model prog w) A (call (.builtin "list.append") [acc, x]) (fun _ s₅ => ∃ m, m < n ∧ I m s₅) (notedBy (model prog w) A env fun e s' => R (.error e) s') s₄) (notedBy (model prog w) A env fun e s' => R (.error e) s') s₃
            else ∃ m, m < n ∧ I m s₃) (notedBy (model prog w) A env fun e s' => R (.error e) s') s₂) (notedBy (model prog w) A env fun e s' => R (.error e) s') s₁') (notedBy (model prog w) A env fun e s' => R (.error e) s') s₁) (notedBy (model prog w) A env fun e s' => R (.error e) s') s)
    (n : Nat) (h : I n s) :
    codeAny (model prog w) A (.compLoop (.ListComp elt [⟨target, iter, ifs, 0⟩] scope pos) 0 it acc env) R s := by
  refine codeAny_loop rfl I (fun n s hI => ?_) n h
  show wpAny _ A ((compTurn (.ListComp elt [⟨target, iter, ifs, 0⟩] scope pos) 0 it acc env).onRaise (fun x => do noteFrame x env; theTreesLotGoes x)) _ _ s
  refine wpAny_noted ?_
  rw [compTurn_list]
  refine wpAny_bind (wpAny_standAt (wpAny_bind (wpAny_mono (turn n s hI) (fun r s₁ h₁ => ?_) fun _ _ h' => h')))
  cases r with
  | none => exact wpAny_pure h₁
  | some v =>
    refine wpAny_bind (wpAny_mono h₁ (fun _ s₁' h₁' => ?_) fun _ _ h' => h')
    refine wpAny_bind (wpAny_mono h₁' (fun _ s₂ h₂ => wpAny_bind (wpAny_mono h₂ (fun ok s₃ h₃ => ?_) fun _ _ h' => h')) fun _ _ h' => h')
    cases ok with
    | false => exact wpAny_pure ⟨rfl, h₃⟩
    | true =>
      exact wpAny_bind (wpAny_bind (wpAny_mono h₃ (fun x s₄ h₄ => wpAny_bind (wpAny_mono h₄ (fun _ s₅ h₅ => wpAny_pure (wpAny_pure ⟨rfl, h₅⟩)) fun _ _ h' => h')) fun _ _ h' => h'))

section
variable {X : Cx}
/-- [elt for target in iter if ..]: D the new list; W by the turn and a measure, Nx what a turn is to reach -/
def tLc (wi : TI) (g : TG) (tt : TT) (te : TE) (vs : List Nat) : TE := fun σ H Q => wi σ H fun J H1 => ∀ D, H1 D = none → ∃ W : Nat → Nat → Hp → Prop, (∃ m, W 0 m (upd H1 D (.lst []))) ∧ ∀ i m H, W i m H →
  (J.stop i H ∧ Q (.ref D) H) ∨ (J.go i H ∧ ∃ Nx : Hp → Prop, (∀ H', Nx H' → ∃ m', m' < m ∧ W (i + 1) m' H') ∧ ∀ x H', J.yld i H x H' → g x (wipe σ vs) H' fun σ2 H2 => wipe σ2 vs = wipe σ vs ∧ tt σ2 H2 fun b H3 =>
    if b = true then te σ2 H3 fun y H4 => ∃ acc, H4 D = some (.lst acc) ∧ acc.length < sizeLine ∧ Nx (upd H4 D (.lst (acc ++ [y]))) else Nx H3)
theorem lc_core {pins : List (Addr × Obj)} {s : Shared} {σ : St} {H : Hp} {Q : VK} {elt tg iter : Expr} {ifs : List Expr} {scope : Scope} {own : List (Str × Nat)} {pos pos' : Pos} {wi : TI} {g : TG} {tt : TT} {te : TE} {use : Option (Value → Sem Unit)} {Qf : Value → Shared → Prop}
    (hc : X.calm = true) (hN : X.N.Nodup) (I : Inv X pins σ H s) (hi : PI X tg iter wi) (ok : BlkOk X.N X.env.scope scope own)
    (hg : ∀ (s : Shared) (H : Hp) (C : Addr) (cl : List (Str × Addr)) (fp : List Addr), PG (X.blk s H scope (compEnvC scope cl C X.env) fp) tg g) (ht : ∀ (s : Shared) (H : Hp) (C : Addr) (cl : List (Str × Addr)) (fp : List Addr), PTs (X.blk s H scope (compEnvC scope cl C X.env) fp) ifs tt)
    (he : ∀ (s : Shared) (H : Hp) (C : Addr) (cl : List (Str × Addr)) (fp : List Addr), PE (X.blk s H scope (compEnvC scope cl C X.env) fp) elt te) (hs : ∀ x, foldedSetIterable iter X.env x = pure x)
    (h : tLc wi g tt te (own.map (·.2)) σ H Q)
    (hRR : ∀ D C s' m H', Inv X pins σ H' s' → Q (.ref D) H' → s'.heap.Ns C m → FpOk X pins H' C → compPost (model X.prog X.w) X.A X.xe use Qf (.ref D) C (.ok .next) s') :
    wpAny (model X.prog X.w) X.A (comprehension (.ListComp elt [⟨tg, iter, ifs, 0⟩] scope pos) scope X.env pos' (newList []) false (eval iter X.env) use) Qf X.xe s := by
  have hfree : ∀ y ∈ scope.names, y.2 = .free → ∃ c, X.env.cells.lookup y.1 = some c := fun y hy e => by
    rcases ok.free y hy e with k | k
    · exact I.ok.has _ (.inl k)
    · exact I.ok.has _ (.inr k)
  refine wpAny_comprehension_free (use := use) rfl hs (closure_ok hfree) ok.kind (fun y hy e => by rw [ok.uniq y hy, e])
    (thn (hi pins s σ H _ I h) fun xv s1 hx => thn hx fun itv s2 h2 => ?_)
  obtain ⟨it, fp, tn, J, H2, e, I2, T, st2, f2, q⟩ := h2
  subst e
  refine wpAny_newObj_type (newEnv_comp ?_) (by show 0 ≤ sizeLine; decide)
  generalize hD : s2.heap.objs.size = D
  have hDn : H2 D = none := I2.hok.fresh (Nat.le_of_eq hD)
  obtain ⟨W, ⟨m0, w0⟩, turn⟩ := q D hDn
  -- the new list
  generalize hs3 : ({ s2 with heap := s2.heap.push { cls := .type "list", data := .seq ([] : List Value).toArray } } : Shared) = s3
  have I3 : Inv X pins σ (upd H2 D (.lst [])) s3 := by
    rw [← hs3]
    refine I2.laid (t' := s2.toks) (fun b o e => Heap.get?_push_of_some _ e) (Nat.le_of_eq hD) ⟨Nat.zero_le _, [], 0, .nil, ?_⟩
    rw [← hD]
    exact Heap.get?_push_size _ rfl
  have h3 : s3.heap = s2.heap.push { cls := .type "list", data := .seq ([] : List Value).toArray } := by rw [← hs3]
  have sz : ∀ b ∈ fp, b < s2.heap.objs.size := fun b hb => by
    obtain ⟨o, e, _⟩ := T.obj _ _ st2 b hb
    exact Heap.lt_size e
  have f3 : ∀ b ∈ fp, FpOk X pins (upd H2 D (.lst [])) b ∧ b < s3.heap.objs.size := fun b hb => by
    have hlt := sz b hb
    refine ⟨⟨?_, (f2 b hb).2⟩, by rw [h3, Heap.size_push]; exact Nat.lt_succ_of_lt hlt⟩
    rw [upd_ne (by rw [← hD]; exact Nat.ne_of_lt hlt)]
    exact (f2 b hb).1
  have st3 : tn 0 s3.heap := T.keep _ _ _ st2 fun b _ o e => by rw [h3]; exact Heap.get?_push_of_some _ e
  have I4 := block_start I3 ok hN f3
  have pg := hg s3 (upd H2 D (.lst [])) s3.heap.objs.size (cellsFrom (s3.heap.objs.size + 1) scope.names (cloFrom X.env.cells scope.names [])) fp
  have pt := ht s3 (upd H2 D (.lst [])) s3.heap.objs.size (cellsFrom (s3.heap.objs.size + 1) scope.names (cloFrom X.env.cells scope.names [])) fp
  have pe := he s3 (upd H2 D (.lst [])) s3.heap.objs.size (cellsFrom (s3.heap.objs.size + 1) scope.names (cloFrom X.env.cells scope.names [])) fp
  show codeAny _ _ (.compStart (.ListComp elt [⟨tg, iter, ifs, 0⟩] scope pos) 0 (.ref it) (.ref D) (compEnvC scope (cellsFrom (s3.heap.objs.size + 1) scope.names (cloFrom X.env.cells scope.names [])) s3.heap.objs.size X.env)) (compPost (model X.prog X.w) X.A X.xe use Qf (.ref D) s3.heap.objs.size) { s3 with heap := pushCells (s3.heap.push { cls := .type "dict", data := .dict #[] }) scope.names }
  have nfp : ∀ b ∈ fp, (upd H2 D (.lst [])) b = none := fun b hb => (f3 b hb).1.1
  generalize hce : compEnvC scope (cellsFrom (s3.heap.objs.size + 1) scope.names (cloFrom X.env.cells scope.names [])) s3.heap.objs.size X.env = ce at I4 pg pt pe ⊢
  have cL : ce.locals = s3.heap.objs.size := by subst hce; rfl
  generalize hH3 : upd H2 D (.lst []) = H3 at I3 I4 pg pt pe w0 nfp f3
  generalize hs4 : ({ s3 with heap := pushCells (s3.heap.push { cls := .type "dict", data := .dict #[] }) scope.names } : Shared) = s4 at I4 ⊢
  have st4 : tn 0 s4.heap := T.keep _ _ _ st3 fun b _ o e => by rw [← hs4]; exact pushCells_keeps _ _ _ _ (Heap.get?_push_of_some _ e)
  have stat : ∀ {σ' : St} {H' : Hp} {s' : Shared}, Inv (X.blk s3 H3 scope ce fp) [] σ' H' s' → (∀ b ∈ fp, H' b = none) → ∀ b ∈ fp, FpOk (X.blk s3 H3 scope ce fp) [] H' b := fun {σ' H' s'} I' hn b hb =>
    ⟨hn b hb, (I'.ok.exf b hb).1, I'.ok.exfs b hb, .inl hb, fun x c e => (I'.ok.exf b hb).2 x c e, fun p hp => absurd (show p ∈ ([] : List (Addr × Obj)) ++ [] from hp) (by simp)⟩
  have loop : codeAny (model X.prog X.w) X.A (.compLoop (.ListComp elt [⟨tg, iter, ifs, 0⟩] scope pos) 0 (.ref it) (.ref D) ce) (compPost (model X.prog X.w) X.A X.xe use Qf (.ref D) s3.heap.objs.size) s4 := by
    refine compLoop_any (fun n s' => ∃ i H', Inv (X.blk s3 H3 scope ce fp) [] (wipe σ (own.map (·.2))) H' s' ∧ tn i s'.heap ∧ (∀ b ∈ fp, H' b = none) ∧ W i n H') ?_ m0 ⟨0, H3, I4, st4, nfp, w0⟩
    rintro n s5 ⟨i, H5, I5, st5, n5, w5⟩
    rcases turn i n H5 w5 with ⟨stop, qq⟩ | ⟨go, Nx, hNx, step⟩
    · have td := T.done (X.blk s3 H3 scope ce fp) rfl rfl rfl hc i [] s5 _ H5 (fun _ _ => False) I5 (stat I5 n5) st5 stop
      refine thnF td fun r s6 ⟨hr, I6⟩ => ?_
      subst hr
      -- back in the def's context
      have I7 : Inv X pins σ H5 s6 := I3.call' (ch := fp) I6.os I6.base I6.hok I6.bare fun b hb => ⟨(f3 b hb).1.2.2.2.1, (f3 b hb).1.2.1, (f3 b hb).1.2.2.2.2.1, (f3 b hb).1.2.2.2.2.2⟩
      have nC : H5 s3.heap.objs.size = none := by
        have z : H5 ce.locals = none := I6.free
        rw [cL] at z
        exact z
      obtain ⟨m, hn, _⟩ := I6.loc
      have hn : s6.heap.Ns ce.locals m := hn
      rw [cL] at hn
      exact hRR D s3.heap.objs.size s6 m H5 I7 qq hn (I3.fpOk (Nat.le_refl _) nC)
    · have ti := T.item (X.blk s3 H3 scope ce fp) rfl rfl rfl hc i [] s5 _ H5 (fun _ _ => False) I5 (stat I5 n5) st5 go
      refine thnF ti fun r s6 ⟨u, hr, h6⟩ => ?_
      subst hr
      refine thnF h6 fun _ s7 ⟨x, H7, I7, r7, y7, st7, n7⟩ => ?_
      have I7' := I7.pinned (stat I7 n7) (T.obj _ _ st7)
      refine thnF (pg _ s7 _ H7 x u _ I7' r7 (step x H7 y7)) fun _ s8 ⟨σ8, H8, I8, hw8, q8⟩ => ?_
      refine thnF (pt _ s8 σ8 H8 _ I8 q8) fun b s9 ⟨H9, I9, q9⟩ => ?_
      -- the turn's end
      have fin : ∀ {s' : Shared} {H' : Hp}, Inv (X.blk s3 H3 scope ce fp) ([] ++ pinsAt fp s7.heap) σ8 H' s' → Nx H' → ∃ m, m < n ∧ ∃ i H', Inv (X.blk s3 H3 scope ce fp) [] (wipe σ (own.map (·.2))) H' s' ∧ tn i s'.heap ∧ (∀ b ∈ fp, H' b = none) ∧ W i m H' := fun {s' H'} I' nx => by
        obtain ⟨m', hm, w'⟩ := hNx H' nx
        have pin' : ∀ b ∈ fp, ∀ o, s7.heap.get? b = some o → s'.heap.get? b = some o ∧ H' b = none := fun b hb o e =>
          let z := I'.pin (b, o) (List.mem_append_right _ (List.mem_append_right _ (mem_pinsAt hb e)))
          ⟨z.1, z.2.1⟩
        have hl : (wipe σ (own.map (·.2))).length = σ8.length := by rw [← hw8, wipe_length]
        refine ⟨m', hm, i + 1, H', (I'.unpinned (pins := [])).weak hl (fun j v e => ?_), T.keep _ _ _ st7 fun b hb o e => (pin' b hb o e).1, fun b hb => ?_, w'⟩
        · rw [← hw8] at e
          exact (wipe_some e).1
        · obtain ⟨o, e, _⟩ := T.obj _ _ st7 b hb
          exact (pin' b hb o e).2
      cases b with
      | false =>
        simp only [Bool.false_eq_true, if_false] at q9 ⊢
        exact fin I9 q9
      | true =>
        simp only [if_true] at q9 ⊢
        refine thnF (pe _ s9 σ8 H9 _ I9 q9) fun z s10 ⟨yv, H10, I10, r10, acc, hD10, hz10, nx⟩ => ?_
        exact app_ok (X := X.blk s3 H3 scope ce fp) I10 hD10 hz10 r10 fun s11 I11 => fin I11 nx
  exact codeAny_compStart_list loop (T.self X.A 0 _ _ _ st4 loop)
/-- as a value -/
theorem pe_lc {elt tg iter : Expr} {ifs : List Expr} {scope : Scope} {own : List (Str × Nat)} {pos : Pos} {wi : TI} {g : TG} {tt : TT} {te : TE} (hc : X.calm = true) (hN : X.N.Nodup) (hi : PI X tg iter wi) (ok : BlkOk X.N X.env.scope scope own)
    (hg : ∀ (s : Shared) (H : Hp) (C : Addr) (cl : List (Str × Addr)) (fp : List Addr), PG (X.blk s H scope (compEnvC scope cl C X.env) fp) tg g) (ht : ∀ (s : Shared) (H : Hp) (C : Addr) (cl : List (Str × Addr)) (fp : List Addr), PTs (X.blk s H scope (compEnvC scope cl C X.env) fp) ifs tt)
    (he : ∀ (s : Shared) (H : Hp) (C : Addr) (cl : List (Str × Addr)) (fp : List Addr), PE (X.blk s H scope (compEnvC scope cl C X.env) fp) elt te) (hs : ∀ x, foldedSetIterable iter X.env x = pure x := by intro _; rfl) :
    PE X (.ListComp elt [⟨tg, iter, ifs, 0⟩] scope pos) (tLc wi g tt te (own.map (·.2))) := by
  intro pins s σ H Q I h
  rw [eval_ListComp]
  refine lc_core hc hN I hi ok hg ht he hs h fun D C s' m H' I' q hn f => ⟨m, hn, fun h'' sb => ?_⟩
  obtain ⟨f0, f1, f2, f3, f4, f5⟩ := f
  exact ⟨.ref D, H', I'.turned (t' := s'.toks) (fun b o hb e => (sb.2 b hb).trans e) f0 f1 f3 f4 f5, rfl, q⟩
/-- name = [..] on one line, the name a local -/
theorem ps_setLc {i : Nat} {y : Str} {py : Pos} {elt tg iter : Expr} {ifs : List Expr} {scope : Scope} {own : List (Str × Nat)} {pos spos : Pos} {wi : TI} {g : TG} {tt : TT} {te : TE} (hc : X.calm = true) (hN : X.N.Nodup) (hy : X.N[i]? = some y) (hyl : X.env.scope.names.lookup y = some .local)
    (hsw : swapsWith (.ListComp elt [⟨tg, iter, ifs, 0⟩] scope pos) (some (.Name y py)) spos.line X.env = pure true) (hi : PI X tg iter wi) (ok : BlkOk X.N X.env.scope scope own)
    (hg : ∀ (s : Shared) (H : Hp) (C : Addr) (cl : List (Str × Addr)) (fp : List Addr), PG (X.blk s H scope (compEnvC scope cl C X.env) fp) tg g) (ht : ∀ (s : Shared) (H : Hp) (C : Addr) (cl : List (Str × Addr)) (fp : List Addr), PTs (X.blk s H scope (compEnvC scope cl C X.env) fp) ifs tt)
    (he : ∀ (s : Shared) (H : Hp) (C : Addr) (cl : List (Str × Addr)) (fp : List Addr), PE (X.blk s H scope (compEnvC scope cl C X.env) fp) elt te) (hs : ∀ x, foldedSetIterable iter X.env x = pure x := by intro _; rfl) :
    PS X (.Assign [.Name y py] (.ListComp elt [⟨tg, iter, ifs, 0⟩] scope pos) spos) (tAsg (tLc wi g tt te (own.map (·.2))) (gName i)) := by
  intro pins s σ H D I h
  rw [exec_Assign_Name_used _ _ _ _ hsw]
  refine wpAny_bind (wpAny_standAt (wpAny_bind ?_))
  show wpAny _ X.A (do let _ ← comprehension (.ListComp elt [⟨tg, iter, ifs, 0⟩] scope pos) scope X.env (firstIterPos [⟨tg, iter, ifs, 0⟩] pos) (newList []) false (eval iter X.env) (some (assign (.Name y py) X.env))) _ _ s
  have h : tLc wi g tt te (own.map (·.2)) σ H (fun x H1 => gName i x σ H1 D.nx) := h
  refine wpAny_bind (thn (lc_core (Qf := fun _ s' => SP X pins D .next s') hc hN I hi ok hg ht he hs h fun L C s' m H' I' q hn f => ?_) fun _ s' hq => wpAny_pure (wpAny_pure hq))
  show wpAny _ _ (assign (.Name y py) X.env (.ref L)) _ _ _
  refine wpAny_assign_Name (store_ok2 (v := V.ref L) I' hN hy (.inl hyl) rfl (fun s2 I2 ⟨a, sb, ha⟩ => ?_) (.inr hyl))
  obtain ⟨f0, f1, f2, f3, f4, f5⟩ := f
  have haC : C ≠ a := by
    rcases ha with z | z
    · rw [z]; exact f1
    · exact fun e => f4 y a z e.symm
  refine ⟨m, hn.sameBut sb haC, fun h3 sb3 => ?_⟩
  exact ⟨_, H', I2.turned (t' := s2.toks) (fun b o hb e => (sb3.2 b hb).trans e) f0 f1 f3 f4 f5, q⟩
theorem sw_true {elt : Expr} {gs : List Comprehension} {scope : Scope} {pos py : Pos} {y : Str} {l : Nat} {env : Env} (hk : env.scope.kind = .function) (hy : env.scope.names.lookup y = some .local) (hl : (py.line == pos.line) = true)
    (ha : (scope.names.any fun (n, k) => n == y && (k == .local || k == .cell)) = false) : swapsWith (.ListComp elt gs scope pos) (some (.Name y py)) l env = pure true := by
  have ky : env.kindOf y = some .local := hy
  have hb : env.blockKind = .function := by unfold Env.blockKind; rw [hk]; rfl
  unfold swapsWith
  simp only [hb, ky, ha, Expr.pos, hl]
  rfl
end
/-- over a range: Pv by the turn and the heap (the new list at D within) -/
theorem lc_range {lo : Int} {n : Nat} {g : TG} {tt : TT} {te : TE} {vs : List Nat} {σ : St} {H1 : Hp} {D : Addr} {Qd : Hp → Prop} (Pv : Nat → Hp → Prop) (h0 : Pv 0 (upd H1 D (.lst [])))
    (hs : ∀ i H, i < n → Pv i H → g (.int (lo + i)) (wipe σ vs) H fun σ2 H2 => wipe σ2 vs = wipe σ vs ∧ tt σ2 H2 fun b H3 =>
      if b = true then te σ2 H3 fun y H4 => ∃ acc, H4 D = some (.lst acc) ∧ acc.length < sizeLine ∧ Pv (i + 1) (upd H4 D (.lst (acc ++ [y]))) else Pv (i + 1) H3) (hd : ∀ H, Pv n H → Qd H) :
    ∃ W : Nat → Nat → Hp → Prop, (∃ m, W 0 m (upd H1 D (.lst []))) ∧ ∀ i m H, W i m H →
      ((Itr lo n).stop i H ∧ Qd H) ∨ ((Itr lo n).go i H ∧ ∃ Nx : Hp → Prop, (∀ H', Nx H' → ∃ m', m' < m ∧ W (i + 1) m' H') ∧ ∀ x H', (Itr lo n).yld i H x H' → g x (wipe σ vs) H' fun σ2 H2 => wipe σ2 vs = wipe σ vs ∧ tt σ2 H2 fun b H3 =>
        if b = true then te σ2 H3 fun y H4 => ∃ acc, H4 D = some (.lst acc) ∧ acc.length < sizeLine ∧ Nx (upd H4 D (.lst (acc ++ [y]))) else Nx H3) := by
  refine ⟨fun i m H => m = n - i ∧ i ≤ n ∧ Pv i H, ⟨n, by simp, Nat.zero_le _, h0⟩, ?_⟩
  rintro i m H ⟨rfl, hi, p⟩
  by_cases hlt : i < n
  · refine .inr ⟨hlt, Pv (i + 1), fun H' p' => ⟨n - (i + 1), by omega, rfl, hlt, p'⟩, fun x H' y => ?_⟩
    obtain ⟨e, y⟩ := y
    subst e y
    exact hs i _ hlt p
  · have e : i = n := by omega
    subst e
    exact .inl ⟨Nat.le_refl _, hd H p⟩
/-- over a list that the block leaves as it is -/
theorem lc_list {K : PySem.W.Frag} {a : Addr} {xs : List V} {g : TG} {tt : TT} {te : TE} {vs : List Nat} {σ : St} {H1 : Hp} {D : Addr} {Qd : Hp → Prop} (Pv : Nat → Hp → Prop) (h0 : Pv 0 (upd H1 D (.lst []))) (hl : ∀ i H, i ≤ xs.length → Pv i H → SqL K H a xs)
    (hs : ∀ i x H, xs[i]? = some x → Pv i H → g x (wipe σ vs) H fun σ2 H2 => wipe σ2 vs = wipe σ vs ∧ tt σ2 H2 fun b H3 =>
      if b = true then te σ2 H3 fun y H4 => ∃ acc, H4 D = some (.lst acc) ∧ acc.length < sizeLine ∧ Pv (i + 1) (upd H4 D (.lst (acc ++ [y]))) else Pv (i + 1) H3) (hd : ∀ H, Pv xs.length H → Qd H) :
    ∃ W : Nat → Nat → Hp → Prop, (∃ m, W 0 m (upd H1 D (.lst []))) ∧ ∀ i m H, W i m H →
      ((Itl K a).stop i H ∧ Qd H) ∨ ((Itl K a).go i H ∧ ∃ Nx : Hp → Prop, (∀ H', Nx H' → ∃ m', m' < m ∧ W (i + 1) m' H') ∧ ∀ x H', (Itl K a).yld i H x H' → g x (wipe σ vs) H' fun σ2 H2 => wipe σ2 vs = wipe σ vs ∧ tt σ2 H2 fun b H3 =>
        if b = true then te σ2 H3 fun y H4 => ∃ acc, H4 D = some (.lst acc) ∧ acc.length < sizeLine ∧ Nx (upd H4 D (.lst (acc ++ [y]))) else Nx H3) := by
  refine ⟨fun i m H => m = xs.length - i ∧ i ≤ xs.length ∧ Pv i H, ⟨xs.length, by simp, Nat.zero_le _, h0⟩, ?_⟩
  rintro i m H ⟨rfl, hi, p⟩
  have q := hl i H hi p
  by_cases hlt : i < xs.length
  · refine .inr ⟨⟨xs, xs[i], q, by simp [hlt]⟩, Pv (i + 1), fun H' p' => ⟨xs.length - (i + 1), by omega, rfl, hlt, p'⟩, fun x H' y => ?_⟩
    obtain ⟨e, y⟩ := y
    subst e
    exact hs i x _ (y xs q) p
  · have e : i = xs.length := by omega
    subst e
    exact .inl ⟨⟨xs, q, Nat.le_refl _⟩, hd H p⟩
/-- over a tuple -/
theorem lc_tup {K : PySem.W.Frag} {a : Addr} {xs : List V} {g : TG} {tt : TT} {te : TE} {vs : List Nat} {σ : St} {H1 : Hp} {D : Addr} {Qd : Hp → Prop} (Pv : Nat → Hp → Prop) (h0 : Pv 0 (upd H1 D (.lst []))) (hl : ∀ i H, i ≤ xs.length → Pv i H → SqT K H a xs)
    (hs : ∀ i x H, xs[i]? = some x → Pv i H → g x (wipe σ vs) H fun σ2 H2 => wipe σ2 vs = wipe σ vs ∧ tt σ2 H2 fun b H3 =>
      if b = true then te σ2 H3 fun y H4 => ∃ acc, H4 D = some (.lst acc) ∧ acc.length < sizeLine ∧ Pv (i + 1) (upd H4 D (.lst (acc ++ [y]))) else Pv (i + 1) H3) (hd : ∀ H, Pv xs.length H → Qd H) :
    ∃ W : Nat → Nat → Hp → Prop, (∃ m, W 0 m (upd H1 D (.lst []))) ∧ ∀ i m H, W i m H →
      ((Itt K a).stop i H ∧ Qd H) ∨ ((Itt K a).go i H ∧ ∃ Nx : Hp → Prop, (∀ H', Nx H' → ∃ m', m' < m ∧ W (i + 1) m' H') ∧ ∀ x H', (Itt K a).yld i H x H' → g x (wipe σ vs) H' fun σ2 H2 => wipe σ2 vs = wipe σ vs ∧ tt σ2 H2 fun b H3 =>
        if b = true then te σ2 H3 fun y H4 => ∃ acc, H4 D = some (.lst acc) ∧ acc.length < sizeLine ∧ Nx (upd H4 D (.lst (acc ++ [y]))) else Nx H3) := by
  refine ⟨fun i m H => m = xs.length - i ∧ i ≤ xs.length ∧ Pv i H, ⟨xs.length, by simp, Nat.zero_le _, h0⟩, ?_⟩
  rintro i m H ⟨rfl, hi, p⟩
  have q := hl i H hi p
  by_cases hlt : i < xs.length
  · refine .inr ⟨⟨xs, xs[i], q, by simp [hlt]⟩, Pv (i + 1), fun H' p' => ⟨xs.length - (i + 1), by omega, rfl, hlt, p'⟩, fun x H' y => ?_⟩
    obtain ⟨e, y⟩ := y
    subst e
    exact hs i x _ (y xs q) p
  · have e : i = xs.length := by omega
    subst e
    exact .inl ⟨⟨xs, q, Nat.le_refl _⟩, hd H p⟩
def blkC (N : List Str) (sc scope : Scope) (own : List (Str × Nat)) : Bool :=
  (match scope.kind with | .function => true | _ => false) && (scope.names.all fun y => decide (scope.names.lookup y.1 = some y.2)) && (own.all fun p => decide (N[p.2]? = some p.1)) &&
    (scope.names.all fun y => match y.2 with
      | .free => (match sc.names.lookup y.1 with | some .cell => true | some .free => true | _ => false)
      | .local => decide (y.1 ∈ own.map (·.1)) || decide (y.1 ∉ N)
      | .cell => decide (y.1 ∈ own.map (·.1)) || decide (y.1 ∉ N)
      | _ => true)
theorem blkOk_by {N : List Str} {sc scope : Scope} {own : List (Str × Nat)} (h : blkC N sc scope own = true) : BlkOk N sc scope own := by
  unfold blkC at h
  simp only [Bool.and_eq_true, List.all_eq_true, decide_eq_true_eq] at h
  obtain ⟨⟨⟨h1, h2⟩, h3⟩, h4⟩ := h
  refine ⟨?_, h2, h3, fun y hy e => ?_, fun y hy e => ?_⟩
  · split at h1
    · assumption
    · cases h1
  · have q := h4 y hy
    simp only [e] at q
    split at q <;> first | exact .inl (by assumption) | exact .inr (by assumption) | cases q
  · have q := h4 y hy
    rcases e with e | e <;> (simp only [e, Bool.or_eq_true, decide_eq_true_eq] at q; exact q)
end L2
namespace L2
open PySem PySem.Spec PyProof.Rows
section
variable {prog : Program} {w : World} {A : Around} {R : Result → Shared → Prop} {s : Shared} {elt t0 i0 t1 i1 : Expr} {ifs0 ifs1 : List Expr} {scope : Scope} {pos : Pos} {it acc : Value} {env : Env}
end
section
variable {X : Cx}
end
end L2
namespace L2
open PySem PySem.Spec PyProof.Rows
section
variable {κ : Type} [DecidableEq κ]
def valV (kvs : List (κ × V)) (k : κ) : Option V := (kvs.find? fun kv => decide (kv.1 = k)).map (·.2)
/-- in its place, or at the end -/
def putK (kvs : List (κ × V)) (k : κ) (v : V) : List (κ × V) :=
  if (kvs.any fun kv => decide (kv.1 = k)) = true then kvs.map (fun kv => if kv.1 = k then (kv.1, v) else kv) else kvs ++ [(k, v)]
def dropK (kvs : List (κ × V)) (k : κ) : List (κ × V) := kvs.filter fun kv => decide (kv.1 ≠ k)

theorem valV_pos {p : κ × V} {r : List (κ × V)} {k : κ} (e : p.1 = k) : valV (p :: r) k = some p.2 := by simp [valV, List.find?_cons, e]
theorem valV_neg {p : κ × V} {r : List (κ × V)} {k : κ} (e : ¬ p.1 = k) : valV (p :: r) k = valV r k := by simp [valV, List.find?_cons, e]
theorem valV_any (k : κ) : ∀ kvs : List (κ × V), (kvs.any fun kv => decide (kv.1 = k)) = (valV kvs k).isSome
  | [] => rfl
  | p :: r => by
    rw [List.any_cons]
    by_cases e : p.1 = k
    · simp only [valV_pos e, decide_eq_true e, Bool.true_or, Option.isSome_some]
    · rw [valV_neg e, decide_eq_false e, Bool.false_or]; exact valV_any k r
theorem length_putK (kvs : List (κ × V)) (k : κ) (v : V) : (putK kvs k v).length ≤ kvs.length + 1 := by
  unfold putK
  split
  · rw [List.length_map]; omega
  · rw [List.length_append, List.length_cons, List.length_nil]; omega
theorem RelO.isSome_eq {o : Option V} {u : Option Value} (r : RelO o u) : o.isSome = u.isSome := by
  cases o with
  | none => cases u with
    | none => rfl
    | some _ => exact (show False from r).elim
  | some _ => cases u with
    | none => exact (show False from r).elim
    | some _ => rfl
theorem RelO.getD {o : Option V} {u : Option Value} {d : V} {d' : Value} (r : RelO o u) (rd : RelV d d') : RelV (o.getD d) (u.getD d') := by
  cases o with
  | none => cases u with
    | none => exact rd
    | some _ => exact (show False from r).elim
  | some _ => cases u with
    | none => exact (show False from r).elim
    | some _ => exact r

/-- raw tables of the same keys -/
theorem KV.val {kvs : List (κ × V)} {vs : List (κ × Value)} (r : KV kvs vs) (k : κ) : RelO (valV kvs k) (valueAt vs k) := by
  unfold KV at r
  induction r with
  | nil => exact True.intro
  | @cons p q ps qs h t ih =>
    obtain ⟨h1, h2⟩ := h
    by_cases e : p.1 = k
    · have e' : q.1 = k := h1.symm.trans e
      have b : valueAt (q :: qs) k = some q.2 := by simp [valueAt, List.find?_cons, e']
      rw [valV_pos e, b]; exact h2
    · have e' : ¬ q.1 = k := fun z => e (h1.trans z)
      have b : valueAt (q :: qs) k = valueAt qs k := by simp [valueAt, List.find?_cons, e']
      rw [valV_neg e, b]; exact ih
theorem KV.any {kvs : List (κ × V)} {vs : List (κ × Value)} (r : KV kvs vs) (k : κ) : (kvs.any fun kv => decide (kv.1 = k)) = vs.any fun kv => decide (kv.1 = k) := by
  unfold KV at r
  induction r with
  | nil => rfl
  | cons h t ih => rw [List.any_cons, List.any_cons, ih, h.1]
theorem KV.repl {kvs : List (κ × V)} {vs : List (κ × Value)} (r : KV kvs vs) (k : κ) {y : V} {u : Value} (ry : RelV y u) :
    KV (kvs.map fun kv => if kv.1 = k then (kv.1, y) else kv) (vs.map fun kv => if kv.1 = k then (kv.1, u) else kv) := by
  unfold KV at r ⊢
  induction r with
  | nil => exact .nil
  | @cons p q ps qs h t ih =>
    rw [List.map_cons, List.map_cons]
    refine .cons ?_ ih
    obtain ⟨h1, h2⟩ := h
    by_cases e : p.1 = k
    · rw [if_pos e, if_pos (h1.symm.trans e)]; exact ⟨h1, ry⟩
    · rw [if_neg e, if_neg (fun z => e (h1.trans z))]; exact ⟨h1, h2⟩
theorem KV.put {kvs : List (κ × V)} {vs : List (κ × Value)} (r : KV kvs vs) (k : κ) {y : V} {u : Value} (ry : RelV y u) : KV (putK kvs k y) (stored vs k u) := by
  unfold putK stored
  rw [r.any k]
  by_cases e : (vs.any fun kv => decide (kv.1 = k)) = true
  · rw [if_pos e, if_pos e]; exact r.repl k ry
  · rw [if_neg e, if_neg e]; exact Paired.snoc r ⟨rfl, ry⟩
theorem KV.drop {kvs : List (κ × V)} {vs : List (κ × Value)} (r : KV kvs vs) (k : κ) : KV (dropK kvs k) (without vs k) := by
  unfold KV at r ⊢
  unfold dropK without
  induction r with
  | nil => exact .nil
  | @cons p q ps qs h t ih =>
    obtain ⟨h1, h2⟩ := h
    rw [List.filter_cons, List.filter_cons]
    by_cases e : p.1 = k
    · have a : ¬ decide (p.1 ≠ k) = true := by simp [e]
      have b : ¬ decide (q.1 ≠ k) = true := by simp [h1.symm.trans e]
      rw [if_neg a, if_neg b]; exact ih
    · have e' : ¬ q.1 = k := fun z => e (h1.trans z)
      have a : decide (p.1 ≠ k) = true := by simp [e]
      have b : decide (q.1 ≠ k) = true := by simp [e']
      rw [if_pos a, if_pos b]; exact .cons ⟨h1, h2⟩ ih
theorem KV.keys {kvs : List (κ × V)} {vs : List (κ × Value)} (r : KV kvs vs) : kvs.map (·.1) = vs.map (·.1) := by
  unfold KV at r
  induction r with
  | nil => rfl
  | cons h t ih => rw [List.map_cons, List.map_cons, ih, h.1]
theorem KV.length {kvs : List (κ × V)} {vs : List (κ × Value)} (r : KV kvs vs) : kvs.length = vs.length := Paired.length r
end
theorem kV_is {P : Program} {w : World} {k : Key} {u : Value} (r : RelV (kV k) u) : (mixKind P w).is k u = true := by
  cases k with
  | inl i => obtain ⟨t, e⟩ := (show ∃ t, u = Value.int i t from r); subst e; exact mixKind_int P w i t
  | inr x => obtain ⟨t, e⟩ := (show ∃ t, u = Value.str x t from r); subst e; exact mixKind_str P w x t
theorem items_are {P : Program} {w : World} : ∀ {ks : List Key} {us : List Value}, Vals (ks.map kV) us → ItemsAre (mixKind P w) ks us
  | [], _, r => by rw [List.map_nil] at r; cases r; exact .nil
  | k :: ks, _, r => by
    rw [List.map_cons] at r
    cases r with
    | cons h t => exact .cons (kV_is h) (items_are t)

/-- raw entries of a dict with tuple keys -/
abbrev KT (H : Hp) : List (List Key × V) → List (List Key × Addr × Value) → Prop := Paired fun p q => p.1 = q.1 ∧ H q.2.1 = some (.tup (p.1.map kV)) ∧ RelV p.2 q.2.2
theorem KT.val {H : Hp} {kvs : List (List Key × V)} {xs : List (List Key × Addr × Value)} (r : KT H kvs xs) (k : List Key) : RelO (valV kvs k) ((atKey xs k).map (·.2)) := by
  induction r with
  | nil => exact True.intro
  | @cons p q ps qs h t ih =>
    obtain ⟨h1, _, h2⟩ := h
    by_cases e : p.1 = k
    · have e' : q.1 = k := h1.symm.trans e
      have b : atKey (q :: qs) k = some q.2 := by simp [atKey, List.find?_cons, e']
      rw [valV_pos e, b]; exact h2
    · have e' : ¬ q.1 = k := fun z => e (h1.trans z)
      have b : atKey (q :: qs) k = atKey qs k := by simp [atKey, List.find?_cons, e']
      rw [valV_neg e, b]; exact ih
theorem KT.repl {H : Hp} {kvs : List (List Key × V)} {xs : List (List Key × Addr × Value)} (r : KT H kvs xs) (k : List Key) {y : V} {u : Value} (ry : RelV y u) :
    KT H (kvs.map fun kv => if kv.1 = k then (kv.1, y) else kv) (xs.map (putAt k u)) := by
  induction r with
  | nil => exact .nil
  | @cons p q ps qs h t ih =>
    rw [List.map_cons, List.map_cons]
    refine .cons ?_ ih
    obtain ⟨h1, h2, h3⟩ := h
    unfold putAt
    by_cases e : p.1 = k
    · rw [if_pos e, if_pos (h1.symm.trans e)]; exact ⟨h1, h2, ry⟩
    · rw [if_neg e, if_neg (fun z => e (h1.trans z))]; exact ⟨h1, h2, h3⟩
theorem KT.put {H : Hp} {kvs : List (List Key × V)} {xs : List (List Key × Addr × Value)} (r : KT H kvs xs) (k : List Key) {b : Addr} {y : V} {u : Value} (hb : H b = some (.tup (k.map kV))) (ry : RelV y u) :
    KT H (putK kvs k y) (storedH xs k b u) := by
  have e : (kvs.any fun kv => decide (kv.1 = k)) = (atKey xs k).isSome := by
    rw [valV_any, (r.val k).isSome_eq, Option.isSome_map]
  unfold putK storedH
  rw [e]
  by_cases q : (atKey xs k).isSome = true
  · rw [if_pos q, if_pos q]; exact r.repl k ry
  · rw [if_neg q, if_neg q]; exact Paired.snoc r ⟨rfl, hb, ry⟩
theorem KT.keeps {H H' : Hp} {kvs : List (List Key × V)} {xs : List (List Key × Addr × Value)} (r : KT H kvs xs) (ht : ∀ b ys, H b = some (.tup ys) → H' b = some (.tup ys)) : KT H' kvs xs :=
  Paired.mapP r fun _ _ z => ⟨z.1, ht _ _ z.2.1, z.2.2⟩

section
variable {P : Program} {w : World} {H : Hp} {h : Heap} {a : Addr}
theorem rd_of {u : HO} (ok : HOk P w H h) (e : Rd H a u) : ObjOk P w H h a u := e.ok ok
theorem dk_rd {kvs : List (Key × V)} (ok : HOk P w H h) (e : Rd H a (.dK kvs)) : kvs.length ≤ sizeLine ∧ (a == sysModules) = false ∧ ∃ vs, KV kvs vs ∧ h.DictOf (mixKind P w) a vs :=
  show ObjOk P w H h a (.dK kvs) from rd_of ok e
theorem dk_of {kvs : List (Key × V)} (ok : HOk P w H h) (e : H a = some (.dK kvs)) : kvs.length ≤ sizeLine ∧ (a == sysModules) = false ∧ ∃ vs, KV kvs vs ∧ h.DictOf (mixKind P w) a vs := dk_rd ok (.inl e)
/-- a tracked tuple of ints and texts is a key -/
theorem key_of {ks : List Key} (ok : HOk P w H h) (e : H a = some (.tup (ks.map kV))) : (tupleKind (mixKind P w)).is h ks a := by
  obtain ⟨_, its, r, o, h1, h2, n, h3⟩ := (show ObjOk P w H h a (.tup (ks.map kV)) from ok a _ e)
  exact ⟨o, its.toArray, n, h1, h2, h3, by simpa using items_are r⟩
theorem dt_rd {kvs : List (List Key × V)} (ok : HOk P w H h) (e : Rd H a (.dT kvs)) : kvs.length ≤ sizeLine ∧ (a == sysModules) = false ∧
    ∃ xs, KT H kvs xs ∧ h.DictOfH (tupleKind (mixKind P w)) a xs := by
  obtain ⟨z, y, xs, r, o, es, ep, h1, h2, h3, h4, h5⟩ := (show ObjOk P w H h a (.dT kvs) from rd_of ok e)
  refine ⟨z, y, xs, r, o, es, ep, h1, h2, h3, h4, fun x hx => ?_, h5⟩
  have all : ∀ {l : List (List Key × V)} {m : List (List Key × Addr × Value)}, KT H l m → ∀ x ∈ m, (tupleKind (mixKind P w)).is h x.1 x.2.1 := by
    intro l m q
    induction q with
    | nil => intro x hx; exact nomatch hx
    | @cons p q ps qs hq t ih =>
      intro x hx
      rcases List.mem_cons.mp hx with e | hx
      · subst e
        exact key_of ok (by rw [← hq.1]; exact hq.2.1)
      · exact ih x hx
  exact all r x hx
theorem dt_of {kvs : List (List Key × V)} (ok : HOk P w H h) (e : H a = some (.dT kvs)) : kvs.length ≤ sizeLine ∧ (a == sysModules) = false ∧
    ∃ xs, KT H kvs xs ∧ h.DictOfH (tupleKind (mixKind P w)) a xs := dt_rd ok (.inl e)
end
/-- what the dict at a holds at the key y -/
def DGet (H : Hp) (a : Addr) (y : V) (r : Option V) : Prop :=
  (∃ kvs k, Rd H a (.dK kvs) ∧ y = kV k ∧ r = valV kvs k) ∨ ∃ kvs k b, Rd H a (.dT kvs) ∧ y = .ref b ∧ H b = some (.tup (k.map kV)) ∧ r = valV kvs k
/-- the heap behind a[y] = v -/
def DPut (H : Hp) (a : Addr) (y v : V) (H' : Hp) : Prop :=
  (∃ kvs k, H a = some (.dK kvs) ∧ y = kV k ∧ kvs.length < sizeLine ∧ H' = upd H a (.dK (putK kvs k v))) ∨
  ∃ kvs k b, H a = some (.dT kvs) ∧ y = .ref b ∧ H b = some (.tup (k.map kV)) ∧ kvs.length < sizeLine ∧ H' = upd H a (.dT (putK kvs k v))
theorem DGet.k {H : Hp} {a : Addr} {kvs : List (Key × V)} {k : Key} (e : H a = some (.dK kvs)) : DGet H a (kV k) (valV kvs k) := .inl ⟨kvs, k, .inl e, rfl, rfl⟩
theorem DGet.t {H : Hp} {a b : Addr} {kvs : List (List Key × V)} {k : List Key} (e : H a = some (.dT kvs)) (eb : H b = some (.tup (k.map kV))) : DGet H a (.ref b) (valV kvs k) := .inr ⟨kvs, k, b, .inl e, rfl, eb, rfl⟩
theorem DPut.k {H : Hp} {a : Addr} {kvs : List (Key × V)} {k : Key} {v : V} (e : H a = some (.dK kvs)) (hl : kvs.length < sizeLine) : DPut H a (kV k) v (upd H a (.dK (putK kvs k v))) := .inl ⟨kvs, k, e, rfl, hl, rfl⟩
theorem DPut.t {H : Hp} {a b : Addr} {kvs : List (List Key × V)} {k : List Key} {v : V} (e : H a = some (.dT kvs)) (eb : H b = some (.tup (k.map kV))) (hl : kvs.length < sizeLine) :
    DPut H a (.ref b) v (upd H a (.dT (putK kvs k v))) := .inr ⟨kvs, k, b, e, rfl, eb, hl, rfl⟩


section
variable {X : Cx} {pins : List (Addr × Obj)} {σ : St} {H : Hp} {s : Shared} {a : Addr} {y v : V} {u r : Value} {o : Option V} {A : Around} {E : Value → Shared → Prop}
theorem Inv.big (I : Inv X pins σ H s) : sysModules < s.heap.objs.size := by
  have h : mainGlobals < s.heap.objs.size := (I.mod.glob.keeps I.bk).lt
  exact Nat.lt_trans (by decide) h

/-- a dict's object is replaced -/
theorem d_write {h' : Heap} {t' : Nat} {ob : HO} (I : Inv X pins σ H s) (mu : Mut (H a)) (hs : Heap.SameBut a s.heap h') (he : ∃ q, h'.get? a = some q) (new : ObjOk X.prog X.w (upd H a ob) h' a ob) :
    Inv X pins σ (upd H a ob) { s with heap := h', toks := t' } :=
  I.write (x := a) (e := a) mu (.inl rfl) (fun b q hb z => (hs.2 b hb).trans z) he new
theorem dk_new {P : Program} {w : World} {H' : Hp} {h' : Heap} {kvs : List (Key × V)} {vs : List (Key × Value)} (z : kvs.length ≤ sizeLine) (hd : (a == sysModules) = false) (rel : KV kvs vs) (dd : h'.DictOf (mixKind P w) a vs) :
    ObjOk P w H' h' a (.dK kvs) := ⟨z, hd, vs, rel, dd⟩
end
section
variable {X : Cx} {pins : List (Addr × Obj)} {σ : St} {H : Hp} {s : Shared} {a : Addr} {kvs : List (Key × V)} {k : Key} {u : Value} {A : Around} {E : Value → Shared → Prop}
end
section
variable {X : Cx} {o i e value : Expr} {pos pos' tpos : Pos} {td ty tv : TE}
end
theorem dk_empty {P : Program} {w : World} {H : Hp} (h : Heap) (hb : sysModules < h.objs.size) : ObjOk P w H (h.push { cls := .type "dict", data := .dict #[] }) h.objs.size (.dK []) :=
  ⟨Nat.zero_le _, beq_eq_false_iff_ne.mpr (Ne.symm (Nat.ne_of_lt hb)), [], .nil, Heap.DictOf.new h⟩
theorem dt_empty {P : Program} {w : World} {H : Hp} (h : Heap) (hb : sysModules < h.objs.size) : ObjOk P w H (h.push { cls := .type "dict", data := .dict #[] }) h.objs.size (.dT []) :=
  ⟨Nat.zero_le _, beq_eq_false_iff_ne.mpr (Ne.symm (Nat.ne_of_lt hb)), [], .nil, _, #[], 0, Heap.get?_push_size _ rfl, ⟨rfl, rfl, rfl⟩, rfl, rfl, List.nodup_nil⟩
/-- {}, to be a dict of the kind that is wanted -/
def tDNewK : TE := fun _ H Q => ∀ p, H p = none → Q (.ref p) (upd H p (.dK []))
section
variable {X : Cx} {pos : Pos}
theorem pe_dnewK : PE X (.Dict [] [] pos) tDNewK := fun pins s σ H Q I h =>
  wpAny_Dict_empty ⟨.ref s.heap.objs.size, _, I.laid (a := s.heap.objs.size) (o := .dK []) (t' := s.toks) (fun _ _ q => Heap.get?_push_of_some _ q) (Nat.le_refl _) (dk_empty s.heap I.big), rfl, h _ (I.hok.fresh (Nat.le_refl _))⟩
end
/-- the pairs of a display, from the left -/
def tPairs : List (TE × TE) → St → Hp → (List (V × V) → Hp → Prop) → Prop
  | [], _, H, Q => Q [] H
  | (tk, tv) :: r, σ, H, Q => tk σ H fun x H1 => tv σ H1 fun y H2 => tPairs r σ H2 fun ps H3 => Q ((x, y) :: ps) H3
abbrev VV : List (V × V) → List (Value × Value) → Prop := Paired fun p q => RelV p.1 q.1 ∧ RelV p.2 q.2
def PPs (X : Cx) (pos : Pos) (keys : List (Option Expr)) (values : List Expr) (trs : List (TE × TE)) : Prop :=
  ∀ (pins : List (Addr × Obj)) (s : Shared) (σ : St) (H : Hp) (Q : List (V × V) → Hp → Prop), Inv X pins σ H s → tPairs trs σ H Q →
    wpAny (model X.prog X.w) X.A (evalPairs (pairTrees keys values X.env pos)) (fun vs s' => ∃ ps H', Inv X pins σ H' s' ∧ VV ps vs ∧ Q ps H') X.xe s
theorem pps_nil {X : Cx} {pos : Pos} : PPs X pos [] [] [] := fun pins s σ H Q I h => pairTrees_nil_walk ⟨[], H, I, .nil, h⟩
theorem pps_cons {X : Cx} {pos : Pos} {k v : Expr} {ks : List (Option Expr)} {vs : List Expr} {tk tv : TE} {trs : List (TE × TE)} (hk : PE X k tk) (hv : PE X v tv) (hr : PPs X pos ks vs trs) :
    PPs X pos (some k :: ks) (v :: vs) ((tk, tv) :: trs) := fun pins s σ H Q I h =>
  pairTrees_cons_walk (thn (hk pins s σ H _ I h) fun u s1 ⟨x, H1, I1, rx, q1⟩ => thn (hv pins s1 σ H1 _ I1 q1) fun w2 s2 ⟨y, H2, I2, ry, q2⟩ =>
    thn (hr pins s2 σ H2 _ I2 q2) fun ws s3 ⟨ps, H3, I3, rel, q3⟩ => ⟨(x, y) :: ps, H3, I3, .cons ⟨rx, ry⟩ rel, q3⟩)

def mergeK (kvs more : List (Key × V)) : List (Key × V) := more.foldl (fun acc kv => putK acc kv.1 kv.2) kvs
theorem KV.merge : ∀ {more : List (Key × V)} {rs : List (Key × Value)} {kvs : List (Key × V)} {vs : List (Key × Value)}, KV more rs → KV kvs vs → KV (mergeK kvs more) (merged vs rs) := by
  intro more rs kvs vs r
  unfold KV at r
  induction r generalizing kvs vs with
  | nil => intro q; exact q
  | @cons p q ps qs h t ih =>
    intro r0
    have e : KV (putK kvs p.1 p.2) (stored vs q.1 q.2) := by
      have := r0.put p.1 h.2
      rw [← h.1]; exact this
    exact ih e
theorem length_mergeK : ∀ (more kvs : List (Key × V)), (mergeK kvs more).length ≤ kvs.length + more.length
  | [], kvs => by show kvs.length ≤ kvs.length + 0; omega
  | p :: r, kvs => by
    have h1 := length_mergeK r (putK kvs p.1 p.2)
    have h2 := length_putK kvs p.1 p.2
    show (mergeK (putK kvs p.1 p.2) r).length ≤ _
    rw [List.length_cons]; omega
theorem carries_of {P : Program} {w : World} : ∀ {kvs : List (Key × V)} {ws : List (Value × Value)}, VV (kvs.map fun kv => (kV kv.1, kv.2)) ws → ∃ rs, Carries (mixKind P w) ws rs ∧ KV kvs rs
  | [], _, r => by rw [List.map_nil] at r; cases r; exact ⟨[], True.intro, .nil⟩
  | p :: kvs, _, r => by
    rw [List.map_cons] at r
    cases r with
    | @cons a b as bs h t =>
      obtain ⟨rs, c, q⟩ := carries_of (P := P) (w := w) t
      obtain ⟨b1, b2⟩ := b
      exact ⟨(p.1, b2) :: rs, ⟨kV_is h.1, rfl, c⟩, .cons ⟨rfl, h.2⟩ q⟩
/-- {k: v, ..} with keys ints and texts; the new dict stands empty while the pairs are made -/
def tDisp (trs : List (TE × TE)) : TE := fun σ H Q => ∀ p, H p = none → tPairs trs σ (upd H p (.dK [])) fun ps H2 => H2 p = some (.dK []) ∧ ∃ kvs : List (Key × V), ps = kvs.map (fun kv => (kV kv.1, kv.2)) ∧ kvs.length ≤ 15 ∧ Q (.ref p) (upd H2 p (.dK (mergeK [] kvs)))
theorem pe_disp {X : Cx} {pos : Pos} {keys : List (Option Expr)} {values : List Expr} {trs : List (TE × TE)} (h : PPs X pos keys values trs) (hall : keys.all (·.isSome) = true) (hl : keys.length = values.length) (h0 : keys ≠ [])
    (h15 : keys.length ≤ 15) : PE X (.Dict keys values pos) (tDisp trs) := by
  intro pins s σ H Q I q
  have hn := I.hok.fresh (Nat.le_refl s.heap.objs.size)
  have I1 := I.laid (a := s.heap.objs.size) (o := .dK []) (h' := s.heap.push { cls := .type "dict", data := .dict #[] }) (t' := s.toks) (fun _ _ q => Heap.get?_push_of_some _ q) (Nat.le_refl _) (dk_empty s.heap I.big)
  refine wpAny_Dict_walk (knd := mixKind X.prog X.w) hall hl h0 h15 (thn (h pins _ σ _ _ I1 (q _ hn)) fun ws s2 ⟨ps, H2, I2, rel, e, kvs, ep, lk, q2⟩ => ?_)
  subst ep
  obtain ⟨rs, c, rk⟩ := carries_of (P := X.prog) (w := X.w) rel
  obtain ⟨z, hd, vs0, r0, dd⟩ := dk_of I2.hok e
  cases r0
  refine ⟨rs, c, dd, fun h' dd' hs => ⟨.ref s.heap.objs.size, _, ?_, rfl, q2⟩⟩
  have hz : (mergeK [] kvs).length ≤ sizeLine := by
    have h1 := length_mergeK kvs []
    rw [List.length_nil] at h1
    rw [sizeLine_eq]; omega
  have he : ∃ q, h'.get? s.heap.objs.size = some q := let ⟨q, _, _, hq, _⟩ := dd'; ⟨q, hq⟩
  exact d_write I2 (by rw [e]; exact True.intro) hs he (dk_new hz hd (rk.merge .nil) dd')


structure M2 (X : Cx) (o : Expr) (m : Str) (apos : Pos) (e f : Expr) (cpos : Pos) : Prop where
  base : attributeBase o m X.env (eval o X.env) = eval o X.env
  few : ((backTo cpos (starEach [e, f] X.env)).all (fun x => !x.1) && (backToKw cpos (keywordEach [] X.env)).all (fun x => x.1.isSome)
    && decide (([e, f] : List Expr).length + ([] : List Keyword).length + (if ([] : List Keyword).isEmpty then 0 else 1) < 30)) = true
  line : (apos.endLine == cpos.line) = true
  trees : backTo cpos (starEach [e, f] X.env) = [(false, eval e X.env), (false, eval f X.env)]

/-- a is a dict, whatever its keys -/
def IsD (H : Hp) (a : Addr) : Prop := (∃ kvs, Rd H a (.dK kvs)) ∨ ∃ kvs, Rd H a (.dT kvs)
theorem isD_at {X : Cx} {pins : List (Addr × Obj)} {σ : St} {H : Hp} {s : Shared} {a : Addr} (I : Inv X pins σ H s) (d : IsD H a) :
    s.TypeIs (.ref a) "dict" ∧ (∀ b, Value.ref a = .ref b → ∃ ob, s.heap.get? b = some ob ∧ ob.dict = none) ∧ (a == sysModules) = false := by
  rcases d with ⟨kvs, e⟩ | ⟨kvs, e⟩
  · obtain ⟨_, hd, vs, _, dd⟩ := dk_rd I.hok e
    refine ⟨dd.typeIs, fun b q => ?_, hd⟩
    cases q
    obtain ⟨ob, _, _, h1, h2, _⟩ := dd
    exact ⟨ob, h1, h2.2.1⟩
  · obtain ⟨_, hd, xs, _, dd⟩ := dt_rd I.hok e
    refine ⟨dd.typeIs, fun b q => ?_, hd⟩
    cases q
    obtain ⟨ob, _, _, h1, h2, _⟩ := dd
    exact ⟨ob, h1, h2.2.1⟩

section
variable {X : Cx} {pins : List (Addr × Obj)} {σ : St} {H : Hp} {s : Shared} {a : Addr} {y d : V} {u r : Value} {o : Option V} {A : Around} {E : Value → Shared → Prop}
/-- d.get(y, x) -/
theorem d_get2 {Q : Value → Shared → Prop} (hu : A.units + 1 < cLine) (I : Inv X pins σ H s) (g : DGet H a y o) (ry : RelV y u) (rd : RelV d r) (h : ∀ w' s', Inv X pins σ H s' → RelV (o.getD d) w' → Q w' s') :
    wpAny (model X.prog X.w) A (call (.builtin "dict.get") [.ref a, u, r]) Q E s := by
  rcases g with ⟨kvs, k, e, ey, l⟩ | ⟨kvs, k, b, e, ey, eb, l⟩
  · subst ey
    obtain ⟨z, hd, vs, rel, dd⟩ := dk_rd I.hok e
    refine call_meetsIn PySem.F.slot_dict_get dd.typeIs PySem.F.entry_dict_get (PySem.F.args_dict_get_3 _ _ _) (meets_dict_get_default (mixKind X.prog X.w) a (kV_is ry) hd r) ⟨_, dd.mapOf, h _ _ (I.tok _) ?_⟩
    rw [l]
    exact (rel.val k).getD rd
  · subst ey
    cases (show u = Value.ref b from ry)
    obtain ⟨z, hd, xs, rel, dd⟩ := dt_rd I.hok e
    refine call_meetsIn PySem.F.slot_dict_get dd.typeIs PySem.F.entry_dict_get (PySem.F.args_dict_get_3 _ _ _) (meetsH_dict_get_default (tupleKind (mixKind X.prog X.w)) a b hd r) ⟨tupleKind_room_in1 hu, k, xs, key_of I.hok eb, dd, h _ _ (I.tok _) ?_⟩
    rw [l]
    exact (rel.val k).getD rd
end
def tDGet2 (td ty tx : TE) : TE := fun σ H Q => td σ H fun x H1 => ∃ a, x = .ref a ∧ IsD H1 a ∧ ty σ H1 fun y H2 => tx σ H2 fun z H3 => ∃ o, DGet H3 a y o ∧ Q (o.getD z) H3
section
variable {X : Cx} {o e f : Expr} {apos cpos : Pos} {td ty tx : TE}
theorem pe_dget2 (hu : X.A.units + 1 < cLine) (ho : PE X o td) (he : PE X e ty) (hf : PE X f tx) (m : M2 X o "get" apos e f cpos) : PE X (.Call (.Attribute o "get" apos) [e, f] [] cpos) (tDGet2 td ty tx) := by
  intro pins s σ H Q I h
  refine wpAny_Call_method m.base m.few m.line PySem.F.plainAttrs_dict PySem.F.slot_dict_get PySem.F.type_dict_get (thn (ho pins s σ H _ I h) fun u s1 ⟨x, H1, I1, rx, a, ex, d, q1⟩ => ?_)
  subst ex
  obtain rfl : u = Value.ref a := rx
  obtain ⟨t1, t2, _⟩ := isD_at I1 d
  refine ⟨t1, t2, ?_⟩
  rw [m.trees]
  refine Calls.callWith_builtin rfl (Calls.evalArgs_plain (Calls.spliced_cons (thn (he pins s1 σ H1 _ I1 q1) fun iv s2 ⟨y, H2, I2, ry, q2⟩ =>
    Calls.spliced_cons (thn (hf pins s2 σ H2 _ I2 q2) fun fv s3 ⟨z, H3, I3, rz, ov, g, q3⟩ => Calls.spliced_nil ?_))))
  exact d_get2 hu I3 g ry rz fun w' s4 I4 rw' => ⟨_, H3, I4, rw', q3⟩
end
section
variable {X : Cx} {pins : List (Addr × Obj)} {σ : St} {H : Hp} {s : Shared} {a : Addr} {kvs : List (Key × V)} {A : Around} {E : Value → Shared → Prop}
end
section
variable {X : Cx} {pins : List (Addr × Obj)} {σ : St} {H : Hp} {s : Shared} {a : Addr} {y : V} {u : Value} {A : Around} {E : Value → Shared → Prop}
end
end L2
namespace L2
open PySem PySem.Spec PyProof.Rows
section
variable {prog : Program} {w : World} {A : Around} {E : Value → Shared → Prop}
end
section
variable {X : Cx}
end
end L2
namespace L2
open PySem PySem.Spec PyProof.Rows
section
variable {X : Cx} {pins : List (Addr × Obj)} {σ : St} {H : Hp} {s : Shared} {h' : Heap}
/-- .. and one new object is laid -/
theorem Inv.turnedNew {t' : Nat} {ch : List Addr} {T : Addr} {ob : HO} (I : Inv X pins σ H s) (k : ∀ b o, b ∉ ch → s.heap.get? b = some o → h'.get? b = some o) (hf : ∀ b ∈ ch, FpOk X pins H b) (hT : s.heap.objs.size ≤ T)
    (new : ObjOk X.prog X.w (upd H T ob) h' T ob) : Inv X pins σ (upd H T ob) { s with heap := h', toks := t' } := by
  have hn : H T = none := I.hok.fresh hT
  have nit : ∀ b u, H b = some u → b ∉ ch := fun b u e z => by
    have q := (hf b z).1
    rw [q] at e; cases e
  refine I.step (g' := s.gens) (d' := s.drawn) (ch := ch) (fun b hb => ⟨(hf b hb).2.2.2.1, (hf b hb).2.1, (hf b hb).2.2.2.2.1, (hf b hb).2.2.2.2.2⟩) (fun b o _ _ hc e _ => k b o hc e) (fun b o _ _ hc e _ => ⟨o.slots, k b o hc e⟩)
    (fun b o _ e n => ?_) (fun b o hc e => ⟨o, k b o hc e⟩) (fun b xs e => ?_) (fun b o u e => ?_) (fun b ps e => ⟨#[], ?_⟩) (fun m hm => ?_) (fun b u e => ?_) I.bare
  · rw [upd_ne (Nat.ne_of_lt (Nat.lt_of_lt_of_le (Heap.lt_size e) hT))]; exact n
  · rw [upd_ne (ne_of_none e hn)]; exact e
  · rw [upd_ne (ne_of_none e hn)]; exact e
  · rw [upd_ne (ne_of_none e hn), e]; simp
  · obtain ⟨o, es, ep, ho, r⟩ := hm
    exact ⟨o, es, ep, k _ o (fun z => (hf _ z).2.1 rfl) ho, r⟩
  · by_cases hb : b = T
    · subst hb
      rw [upd_same] at e
      cases e
      exact new
    · rw [upd_ne hb] at e
      refine (I.hok b u e).stay (fun c v hc q => k c v ?_ q) (fun c q => by rw [upd_ne (ne_of_none q hn)]; exact q) fun c xs q => by rw [upd_ne (ne_of_none q hn)]; exact q
      rcases hc with z | z
      · rw [z]; exact nit b u e
      · exact nit c _ z

end
section
variable {X : Cx}
end
/-- range(i, j, c): small bounds, n items -/
def RgC (i j c : Int) (n : Nat) : Prop := c ≠ 0 ∧ c.natAbs < 1073741824 ∧ Builtin.Range.small i j c = true ∧ Builtin.Range.rangeSize i j c = n
theorem RgC.neg {i j : Int} (ha : -(2 ^ 62) ≤ i) (ha' : i < 2 ^ 62) (hb : -(2 ^ 62) ≤ j) (hb' : j < 2 ^ 62) : RgC i j (-1) (i - j).toNat :=
  ⟨by decide, by decide, PySem.W.small_down ha ha' hb hb', PySem.W.rangeSize_downNat i j⟩
section
variable {X : Cx} {tg : Expr}
end
section
variable {X : Cx} {tg : Expr}
end
section
variable {prog : Program} {w : World} {A : Around} {E : Value → Shared → Prop} {s : Shared}
end
section
variable {X : Cx} {pins : List (Addr × Obj)} {σ : St} {H : Hp} {s : Shared} {d : Addr} {o : Obj}
end
section
variable {P : Program} {w : World} {K : PySem.W.Frag} {tg : Expr} {d : Addr} {o : Obj} {es : Array DictEntry} {ep : Nat}
end
section
variable {X : Cx} {tg e : Expr} {td : TE} {apos cpos : Pos}
end
/-- the list at a as it stands at each turn, each item in a new pair -/
def Ite (K : PySem.W.Frag) (a : Addr) : It :=
  ⟨fun i H => ∃ (xs : List V) (x : V), SqL K H a xs ∧ xs[i]? = some x, fun i H v H' => ∃ T x, v = .ref T ∧ H T = none ∧ H' = upd H T (.tup [.int (i : Nat), x]) ∧ ∀ xs, SqL K H a xs → xs[i]? = some x, fun i H => ∃ xs : List V, SqL K H a xs ∧ xs.length ≤ i⟩
theorem turn_enum {P : Program} {w : World} {K : PySem.W.Frag} {elts : List Expr} {kk : Nat} {tpos : Pos} (a e it : Addr) :
    Turn P w K (.Tuple elts kk tpos) (Ite K a) [e, it] e (fun i h => (∃ old, IsEnum h e it ((i : Nat) : Int) old) ∧ h.IsListIter it a i ∧ e ≠ it) where
  mem := by simp
  obj := fun i h st b hb => by
    obtain ⟨⟨old, he⟩, ⟨o, ho, hc, hd⟩, _⟩ := st
    have e' : b = e ∨ b = it := by simpa using hb
    rcases e' with z | z
    · rw [z]; exact ⟨_, he, fun v q => nomatch q⟩
    · rw [z]; exact ⟨o, ho, fun v q => by rw [hd] at q; cases q⟩
  keep := fun i h h' st k => let ⟨⟨old, he⟩, hi, hne⟩ := st; ⟨⟨old, k e (by simp) _ he⟩, hi.at fun o q => k it (by simp) o q, hne⟩
  item := by
    intro X hP hw hK hc i pins s σ H E I hf st hg
    subst hP hw hK
    obtain ⟨⟨old, he⟩, hit, hne⟩ := st
    obtain ⟨xs, x, hq, hx⟩ := hg
    obtain ⟨its, rv, p, hz⟩ := I.list hq
    obtain ⟨u, hu, ru⟩ := rv.get hx
    have hel : e < s.heap.objs.size := Heap.lt_size he
    have hil : it < s.heap.objs.size := by obtain ⟨_, q, _⟩ := hit; exact Heap.lt_size q
    refine wpAny_pyNext_enum_item he hit p.isList (x := u) (by simpa using hu) hne fun h' ho hit' hT hsz hk => ?_
    refine ⟨_, rfl, wpAny_letOwnedTupleGo_enum (s := { s with heap := h', toks := s.toks + 1 }) ho fun h'' he' sb => ?_⟩
    have hT2 : h''.get? s.heap.objs.size = some { cls := .type "tuple", data := .seq #[.int i s.toks, u] } := (sb.2 _ (Nat.ne_of_gt hel)).trans hT
    have new : ObjOk X.prog X.w (upd H s.heap.objs.size (.tup [.int (i : Nat), x])) h'' s.heap.objs.size (.tup [.int (i : Nat), x]) :=
      ⟨by show 2 ≤ sizeLine; decide, [.int i s.toks, u], .cons ⟨_, rfl⟩ (.cons ru .nil), ⟨_, hT2, rfl, _, rfl⟩⟩
    have I1 : Inv X pins σ (upd H s.heap.objs.size (.tup [.int (i : Nat), x])) { s with heap := h'', toks := s.toks + 1 } :=
      I.turnedNew (ch := [e, it]) (fun b ob hb q => (sb.2 b (fun z => hb (by simp [z]))).trans (hk b ob (fun z => hb (by simp [z])) (fun z => hb (by simp [z])) q)) hf (Nat.le_refl _) new
    refine ⟨.ref s.heap.objs.size, _, I1, rfl, ⟨_, x, rfl, I.hok.fresh (Nat.le_refl _), rfl, fun ys hy => by rw [I.list_inj hy hq]; exact hx⟩, ⟨⟨u, ?_⟩, hit'.at fun o q => (sb.2 it (Ne.symm hne)).trans q, hne⟩, fun b hb => ?_⟩
    · have e1 : ((i + 1 : Nat) : Int) = (i : Int) + 1 := by omega
      rw [e1]; exact he'
    · have hb' : b < s.heap.objs.size := by
        have e' : b = e ∨ b = it := by simpa using hb
        rcases e' with z | z
        · rw [z]; exact hel
        · rw [z]; exact hil
      rw [upd_ne (Nat.ne_of_lt hb')]
      exact (hf b hb).1
  done := by
    intro X hP hw hK hc i pins s σ H E I hf st hg
    subst hP hw hK
    obtain ⟨⟨old, he⟩, hit, hne⟩ := st
    obtain ⟨xs, hq, hx⟩ := hg
    obtain ⟨its, rv, p, hz⟩ := I.list hq
    obtain ⟨f0, f1, f2, f3, f4, f5⟩ := hf it (by simp)
    have hl := rv.length
    exact wpAny_pyNext_enum_end (I.ok.hd hc) he hit p.isList (by simp; omega) fun h' eb => ⟨rfl, I.turned (t' := s.toks) (fun b o hb q => eb b o hb q) f0 f1 f3 f4 f5⟩
  self := fun A i s Q E st h => let ⟨⟨_, he⟩, _⟩ := st; wpAny_pyIter_enum he h
def iEnum (K : PySem.W.Frag) (ta : TA) : TI := fun σ H R => ta σ H fun vs H1 => ∃ a xs, vs = [.ref a] ∧ SqL K H1 a xs ∧ R (Ite K a) H1
theorem pi_enum {X : Cx} {e : Expr} {ta : TA} {p pos tpos : Pos} {elts : List Expr} {kk : Nat} (hg : Gl X "enumerate") (hm : X.mg "enumerate" = none) (ha : PA X [e] ta) (hs : starEach [e] X.env = [(false, eval e X.env)] := by rfl) :
    PI X (.Tuple elts kk tpos) (.Call (.Name "enumerate" p) [e] [] pos) (iEnum X.K ta) := by
  intro pins s σ H R I h
  refine Call_ (ld_blt I hg hm boot_enumerate (PyProof.Rows.callWith_type1 (thn (ha pos pins s σ H _ I h) fun us s1 ⟨vs, H1, I1, r1, q1⟩ => ?_) hs rfl))
  obtain ⟨a, xs, ex, hq, q⟩ := q1
  subst ex
  cases r1 with
  | cons r rr =>
    cases rr
    cases r
    obtain ⟨its, rv, p', hz⟩ := I1.list hq
    refine call_enumerate_list p'.isList fun h' he hit hsz hk => wpAny_pyIter_enum he ?_
    have I2 : Inv X pins σ H1 { s1 with heap := h' } := I1.kept (t' := s1.toks) hk
    refine ⟨s1.heap.objs.size + 1, [s1.heap.objs.size + 1, s1.heap.objs.size], _, _, H1, rfl, I2, turn_enum a (s1.heap.objs.size + 1) s1.heap.objs.size, ⟨⟨.none, he⟩, hit, Nat.succ_ne_self _⟩, fun b hb => ?_, q⟩
    have e' : b = s1.heap.objs.size + 1 ∨ b = s1.heap.objs.size := by simpa using hb
    have hle : s1.heap.objs.size ≤ b := by
      rcases e' with z | z
      · rw [z]; exact Nat.le_add_right _ _
      · rw [z]; exact Nat.le_refl _
    exact I1.fpOk hle (I1.hok.fresh hle)
end L2
section 
namespace Bits
open PySem PyProof.Rows
end Bits
end 
section 
namespace TL
open PySem PySem.Builtin PySem.Builtin.Str PySem.StrLaws
abbrev tl (x : Str) : List Nat := x.cps.toList
theorem len_tl (x : Str) : x.length = (tl x).length := by simp [tl, Str.length]
theorem ext_tl {x y : Str} (h : tl x = tl y) : x = y := Str.ext' (Array.toList_inj.mp h)
theorem tl_append (x y : Str) : tl (x ++ y) = tl x ++ tl y := by
  show (x ++ y).cps.toList = _
  rw [Str.cps_append, Array.toList_append]
theorem map_tl_inj : ∀ {l m : List Str}, l.map tl = m.map tl → l = m
  | [], [], _ => rfl
  | [], _ :: _, h => by simp at h
  | _ :: _, [], h => by simp at h
  | x :: l, y :: m, h => by
    rw [List.map_cons, List.map_cons] at h
    injection h with h1 h2
    rw [ext_tl h1, map_tl_inj h2]
/-- S stands at the head of l -/
def pre (S l : List Nat) : Bool := l.take S.length == S
/-- l cut at each S from the left; k signs are still to be passed over -/
def spl (S : List Nat) : Nat → List Nat → List Nat → List (List Nat)
  | _, acc, [] => [acc]
  | 0, acc, c :: r => if pre S (c :: r) = true then acc :: spl S (S.length - 1) [] r else spl S 0 (acc ++ [c]) r
  | k + 1, acc, _ :: r => spl S k acc r
/-- what stands before the first S, and behind it -/
def par (S : List Nat) : List Nat → List Nat → Option (List Nat × List Nat)
  | _, [] => none
  | acc, c :: r => if pre S (c :: r) = true then some (acc, (c :: r).drop S.length) else par S (acc ++ [c]) r

theorem spl_nil (S : List Nat) (k : Nat) (acc : List Nat) : spl S k acc [] = [acc] := by cases k <;> rfl
theorem spl_hit {S acc r : List Nat} {c : Nat} (h : pre S (c :: r) = true) : spl S 0 acc (c :: r) = acc :: spl S (S.length - 1) [] r := by
  show (if pre S (c :: r) = true then acc :: spl S (S.length - 1) [] r else spl S 0 (acc ++ [c]) r) = _
  rw [if_pos h]
theorem spl_miss {S acc r : List Nat} {c : Nat} (h : pre S (c :: r) = false) : spl S 0 acc (c :: r) = spl S 0 (acc ++ [c]) r := by
  show (if pre S (c :: r) = true then acc :: spl S (S.length - 1) [] r else spl S 0 (acc ++ [c]) r) = _
  rw [if_neg (by rw [h]; exact Bool.false_ne_true)]
theorem spl_pass (S : List Nat) : ∀ (k : Nat) (acc l : List Nat), spl S k acc l = spl S 0 acc (l.drop k)
  | 0, _, _ => by rw [List.drop_zero]
  | k + 1, acc, [] => by rw [List.drop_nil, spl_nil, spl_nil]
  | k + 1, acc, c :: r => by
    show spl S k acc r = spl S 0 acc (r.drop k)
    exact spl_pass S k acc r
theorem pre_nil {S : List Nat} (hS : S ≠ []) : pre S [] = false := by
  cases S with
  | nil => exact absurd rfl hS
  | cons s S => rfl
theorem pre_of_head {s c : Nat} (S r : List Nat) (h : c ≠ s) : pre (s :: S) (c :: r) = false := by
  cases hp : pre (s :: S) (c :: r) with
  | false => rfl
  | true =>
    have e : (c :: r).take (s :: S).length = s :: S := eq_of_beq hp
    rw [List.length_cons, List.take_succ_cons] at e
    injection e with e1 e2
    exact absurd e1 h
theorem pre_self (S r : List Nat) : pre S (S ++ r) = true := by
  show ((S ++ r).take S.length == S) = true
  have e : (S ++ r).take S.length = S := List.take_left
  rw [e] <;> exact beq_self_eq_true S

theorem getElem_drop_cons {L : List Nat} {a : Nat} (h : a < L.length) : ∃ c, L.drop a = c :: L.drop (a + 1) := ⟨L[a], List.drop_eq_getElem_cons h⟩
theorem spl_run (S L : List Nat) : ∀ (m a : Nat) (acc : List Nat), a + m ≤ L.length → (∀ k, a ≤ k → k < a + m → pre S (L.drop k) = false) →
    spl S 0 acc (L.drop a) = spl S 0 (acc ++ (L.drop a).take m) (L.drop (a + m))
  | 0, a, acc, _, _ => by rw [List.take_zero, List.append_nil, Nat.add_zero]
  | m + 1, a, acc, h, hn => by
    have hlt : a < L.length := by omega
    obtain ⟨c, e⟩ := getElem_drop_cons hlt
    have h0 := hn a (Nat.le_refl _) (by omega)
    have ih := spl_run S L m (a + 1) (acc ++ [c]) (by omega) (fun k h1 h2 => hn k (by omega) (by omega))
    have e2 : a + 1 + m = a + (m + 1) := by omega
    rw [e2] at ih
    rw [e] at h0
    rw [e, spl_miss h0, ih, List.take_succ_cons, List.append_assoc] <;> rfl
theorem drop_two (L : List Nat) (a b : Nat) : (L.drop a).drop b = L.drop (a + b) := by
  first
    | rw [List.drop_drop]
    | rw [List.drop_drop, Nat.add_comm]
theorem spl_at {S L : List Nat} (hS : S ≠ []) {c : Nat} {acc : List Nat} (h : pre S (L.drop c) = true) : spl S 0 acc (L.drop c) = acc :: spl S 0 [] (L.drop (c + S.length)) := by
  rw [← drop_two]
  cases e : L.drop c with
  | nil => rw [e, pre_nil hS] at h; cases h
  | cons d r =>
    rw [e] at h
    rw [spl_hit h, spl_pass]
    cases S with
    | nil => exact absurd rfl hS
    | cons s S => rfl
theorem at_iff {x y : Str} (hy : tl y ≠ []) (i : Nat) : At x y x.length i ↔ pre (tl y) ((tl x).drop i) = true := by
  have hx := len_tl x
  have hl := len_tl y
  constructor
  · intro h
    have h2 := h.2
    rw [subAt_eq, hl] at h2
    exact h2
  · intro h
    have e : ((tl x).drop i).take (tl y).length = tl y := eq_of_beq h
    have e1 := congrArg List.length e
    rw [List.length_take, List.length_drop] at e1
    have e2 : 0 < (tl y).length := List.length_pos_iff.mpr hy
    refine ⟨by omega, ?_⟩
    rw [subAt_eq, hl]
    exact h
theorem no_at {x y : Str} (hy : tl y ≠ []) {i : Nat} (h : ¬ At x y x.length i) : pre (tl y) ((tl x).drop i) = false := by
  cases hp : pre (tl y) ((tl x).drop i) with
  | false => rfl
  | true => exact absurd ((at_iff hy i).mpr hp) h
theorem len1 {y : Str} (hy : tl y ≠ []) : 1 ≤ y.length := by
  have e2 : 0 < (tl y).length := List.length_pos_iff.mpr hy
  rw [len_tl y]
  exact e2
theorem tl_strSub (x : Str) (i j : Nat) : tl (strSub x i j) = ((tl x).drop i).take (j - i) := strSub_toList x i j
theorem tl_strSub_end (x : Str) (i : Nat) : tl (strSub x i x.length) = (tl x).drop i := by
  rw [tl_strSub, len_tl x]
  exact List.take_of_length_le (by rw [List.length_drop] <;> omega)

theorem parts_spl {x y : Str} (hy : tl y ≠ []) : ∀ (cuts : List Nat) (a f : Nat), a ≤ (tl x).length → ChainG x y x.length a cuts f → (∀ k, f ≤ k → ¬ At x y x.length k) →
    (partsFrom x y.length a cuts).map tl = spl (tl y) 0 [] ((tl x).drop a)
  | [], a, f, ha, h, hn => by
    have e : f = a := h
    subst e
    show [tl (strSub x f x.length)] = _
    have run := spl_run (tl y) (tl x) ((tl x).length - f) f [] (by omega) (fun k h1 _ => no_at hy (hn k h1))
    have e2 : f + ((tl x).length - f) = (tl x).length := by omega
    rw [e2, List.drop_length, spl_nil, List.nil_append, List.take_of_length_le (by rw [List.length_drop] <;> omega)] at run
    rw [run, tl_strSub_end]
  | c :: r, a, f, ha, h, hn => by
    obtain ⟨h1, h2, h3, h4⟩ := h
    have hc : c + y.length ≤ x.length := h2.1
    have hx := len_tl x
    have hl := len_tl y
    have ih := parts_spl hy r (c + y.length) f (by omega) h4 hn
    show tl (strSub x a c) :: (partsFrom x y.length (c + y.length) r).map tl = _
    have run := spl_run (tl y) (tl x) (c - a) a [] (by omega) (fun k k1 k2 => no_at hy (h3 k k1 (by omega)))
    have e2 : a + (c - a) = c := by omega
    rw [e2, List.nil_append, spl_at hy ((at_iff hy c).mp h2)] at run
    rw [run, ih, tl_strSub, hl]

/-- hk: by kind_ok where the separator is plain -/
theorem split_spl (x y : Str) (hy : tl y ≠ []) (hk : ¬ Builtin.Str.strKind x < Builtin.Str.strKind y) : (Txt.split x y).map tl = spl (tl y) 0 [] (tl x) := by
  obtain ⟨f, g, hn⟩ := occ_tight x y (len1 hy)
  have key := parts_spl hy _ 0 f (Nat.zero_le _) g hn
  rw [List.drop_zero] at key
  have none_case : occurrences x y 0 x.length (x.length + 1) = [] → [x].map tl = spl (tl y) 0 [] (tl x) := fun ho => by
    rw [ho] at key
    rw [← key]
    show [tl x] = [tl (strSub x 0 x.length)]
    rw [sub_whole]
  unfold Txt.split
  by_cases h1 : (decide (x.length < y.length) || decide (Builtin.Str.strKind x < Builtin.Str.strKind y)) = true
  · rw [if_pos h1]
    have hlt : x.length < y.length := by
      simp only [Bool.or_eq_true, decide_eq_true_eq] at h1
      rcases h1 with h | h
      · exact h
      · exact absurd h hk
    refine none_case ?_
    cases ho : occurrences x y 0 x.length (x.length + 1) with
    | nil => rfl
    | cons c r =>
      rw [ho] at g
      have hc : c + y.length ≤ x.length := g.2.1.1
      omega
  · rw [if_neg h1]
    by_cases h2 : (occurrences x y 0 x.length (x.length + 1)).isEmpty = true
    · rw [if_pos h2]
      exact none_case (List.isEmpty_iff.mp h2)
    · rw [if_neg h2, partsBetween_eq]
      exact key
theorem kind_ok {x y : Str} (h : y.cps.all (· < 256) = true) : ¬ Builtin.Str.strKind x < Builtin.Str.strKind y := by
  have e : Builtin.Str.strKind y = 1 := by unfold PySem.Builtin.Str.strKind; rw [if_pos h]
  rw [e]
  unfold PySem.Builtin.Str.strKind
  split
  · omega
  · split <;> omega

/-- a part that the separator does not begin in, then the separator -/
theorem spl_part {S p rest acc : List Nat} (hS : S ≠ []) (h : ∀ i, i < p.length → pre S ((p ++ (S ++ rest)).drop i) = false) :
    spl S 0 acc (p ++ (S ++ rest)) = (acc ++ p) :: spl S 0 [] rest := by
  have run := spl_run S (p ++ (S ++ rest)) p.length 0 acc (by rw [List.length_append]; omega) (fun k _ k2 => h k (by omega))
  have ed : (p ++ (S ++ rest)).drop p.length = S ++ rest := List.drop_left
  rw [List.drop_zero, Nat.zero_add, List.take_left] at run
  rw [run, spl_at hS (by rw [ed]; exact pre_self S rest), ← drop_two, ed, List.drop_left]
theorem spl_last {S p acc : List Nat} (h : ∀ i, i < p.length → pre S (p.drop i) = false) : spl S 0 acc p = [acc ++ p] := by
  have run := spl_run S p p.length 0 acc (by omega) (fun k _ k2 => h k (by omega))
  rw [List.drop_zero, Nat.zero_add, List.drop_length, spl_nil, List.take_length] at run
  exact run
/-- the separator's first sign is not in the part -/
theorem free_of {s : Nat} {S p q : List Nat} (h : s ∉ p) : ∀ i, i < p.length → pre (s :: S) ((p ++ q).drop i) = false := fun i hi => by
  have hlt : i < (p ++ q).length := by rw [List.length_append]; omega
  have e : (p ++ q).drop i = (p ++ q)[i] :: (p ++ q).drop (i + 1) := List.drop_eq_getElem_cons hlt
  rw [e]
  refine pre_of_head _ _ fun z => h ?_
  have e1 : (p ++ q)[i] = p[i] := List.getElem_append_left hi
  rw [← z, e1]
  exact List.getElem_mem hi
theorem spl_part1 {s : Nat} {S p rest acc : List Nat} (h : s ∉ p) : spl (s :: S) 0 acc (p ++ (s :: S ++ rest)) = (acc ++ p) :: spl (s :: S) 0 [] rest :=
  spl_part (by simp) (free_of h)
theorem spl_last1 {s : Nat} {S p acc : List Nat} (h : s ∉ p) : spl (s :: S) 0 acc p = [acc ++ p] := spl_last fun i hi => by
  have z := free_of (S := S) (q := []) h i hi
  rw [List.append_nil] at z
  exact z
/-- joined lists -/
def joinL (S : List Nat) : List (List Nat) → List Nat
  | [] => []
  | [p] => p
  | p :: q :: r => p ++ (S ++ joinL S (q :: r))
theorem tl_join (y : Str) : ∀ parts : List Str, tl (Str.join y parts) = joinL (tl y) (parts.map tl)
  | [] => rfl
  | [_] => rfl
  | x :: z :: r => by
    show tl (x ++ y ++ Str.join y (z :: r)) = tl x ++ (tl y ++ joinL (tl y) ((z :: r).map tl))
    rw [tl_append, tl_append, tl_join y (z :: r), List.append_assoc]
theorem spl_join {s : Nat} {S : List Nat} : ∀ {parts : List (List Nat)}, parts ≠ [] → (∀ p ∈ parts, s ∉ p) → spl (s :: S) 0 [] (joinL (s :: S) parts) = parts
  | [], h, _ => absurd rfl h
  | [p], _, hp => by
    show spl (s :: S) 0 [] p = [p]
    rw [spl_last1 (hp p (List.mem_singleton.mpr rfl)), List.nil_append]
  | p :: q :: r, _, hp => by
    show spl (s :: S) 0 [] (p ++ (s :: S ++ joinL (s :: S) (q :: r))) = p :: q :: r
    rw [spl_part1 (hp p (List.mem_cons_self ..)), List.nil_append, spl_join (by simp) fun z hz => hp z (List.mem_cons_of_mem _ hz)]
theorem join_eq (y : Str) (parts : List Str) : Txt.join y parts = Str.join y parts := glued_eq_join y parts
/-- THE READ-BACK: a joined text, split -/
theorem split_join {y : Str} {s : Nat} {S : List Nat} (ey : tl y = s :: S) (hk : y.cps.all (· < 256) = true) {parts : List Str} (hne : parts ≠ []) (hp : ∀ p ∈ parts, s ∉ tl p) :
    Txt.split (Txt.join y parts) y = parts := by
  refine map_tl_inj ?_
  rw [split_spl _ y (by rw [ey]; simp) (kind_ok hk), join_eq, tl_join, ey]
  refine spl_join (fun e => hne (List.map_eq_nil_iff.mp e)) fun p h => ?_
  obtain ⟨z, hz, rfl⟩ := List.mem_map.mp h
  exact hp z hz
/-- the signs of a number -/
def numL (n : Nat) : List Nat := (Nat.toDigits 10 n).map Char.toNat
theorem tl_num (n : Nat) : tl (Str.ofString (toString ((n : Nat) : Int))) = numL n := PySem.W.KIN.signs_num n
theorem digitChar_nat : ∀ d : Nat, d < 10 → (Nat.digitChar d).toNat = 48 + d := by decide
theorem numL_lt {n : Nat} (h : n < 10) : numL n = [48 + n] := by
  unfold numL
  rw [Nat.toDigits_of_lt_base h]
  show [(Nat.digitChar n).toNat] = _
  rw [digitChar_nat n h]
theorem numL_step {n : Nat} (h : 10 ≤ n) : numL n = numL (n / 10) ++ [48 + n % 10] := by
  have hm : n % 10 < 10 := Nat.mod_lt n (by decide)
  have t : Nat.toDigits 10 (n / 10) ++ Nat.toDigits 10 (n % 10) = Nat.toDigits 10 (10 * (n / 10) + n % 10) := Nat.toDigits_append_toDigits (by decide) (by omega) hm
  rw [Nat.div_add_mod] at t
  show (Nat.toDigits 10 n).map Char.toNat = _
  rw [← t, List.map_append, Nat.toDigits_of_lt_base hm]
  show (Nat.toDigits 10 (n / 10)).map Char.toNat ++ [(Nat.digitChar (n % 10)).toNat] = _
  rw [digitChar_nat _ hm] <;> rfl
theorem numL_digits (n : Nat) : NumText.AllDigits (numL n) := by
  induction n using Nat.strongRecOn with
  | _ n ih =>
    by_cases h : n < 10
    · rw [numL_lt h]
      intro c hc
      rw [List.mem_singleton.mp hc]
      omega
    · rw [numL_step (by omega)]
      intro c hc
      rcases List.mem_append.mp hc with hc | hc
      · exact ih (n / 10) (by omega) c hc
      · have hm : n % 10 < 10 := Nat.mod_lt n (by decide)
        rw [List.mem_singleton.mp hc]
        omega
theorem numL_free {n s : Nat} (h : s < 48 ∨ 57 < s) : s ∉ numL n := fun hm => by
  have r := numL_digits n s hm
  omega
end TL
end 
namespace L2
open PySem PySem.Spec PyProof.Rows
/-- a list of texts, of numbered texts -/
theorem vals_strs : ∀ l : List (Str × Tok), Vals ((l.map (·.1)).map V.str) (strValues l)
  | [] => .nil
  | p :: r => .cons ⟨p.2, rfl⟩ (vals_strs r)
theorem strs_of_vals : ∀ {ys : List Str} {us : List Value}, Vals (ys.map V.str) us → StrsAre us ys
  | [], _, .nil => .nil
  | y :: ys, _, .cons r t => by
    obtain ⟨k, rfl⟩ := r
    exact .cons y k (strs_of_vals t)

/-- a new list of texts, tracked -/
def rNewStrs (ys : List Str) : Hp → VK → Prop := fun H Q => ∀ p, H p = none → Q (.ref p) (upd H p (.lst (ys.map V.str)))

section
variable {X : Cx} {pins : List (Addr × Obj)} {σ : St} {H : Hp} {s : Shared} {Q : VK}
theorem laid_strs {l : List (Str × Tok)} {ys : List Str} {k : Nat} (I : Inv X pins σ H s) (e : l.map (·.1) = ys) (hz : ys.length ≤ sizeLine) (h : rNewStrs ys H Q) :
    EP X pins σ Q (.ref s.heap.objs.size) { s with toks := k, heap := s.heap.push { cls := .type "list", data := .seq (strValues l).toArray } } := by
  have hp := I.hok.fresh (Nat.le_refl _)
  refine ⟨.ref s.heap.objs.size, upd H s.heap.objs.size (.lst (ys.map V.str)), I.laid (fun b u q => Heap.get?_push_of_some _ q) (Nat.le_refl _) ⟨by rw [List.length_map]; exact hz, strValues l, _, ?_, Heap.get?_push_size _ rfl⟩, rfl, h _ hp⟩
  rw [← e]
  exact vals_strs l
end
section
variable {X : Cx}
/-- x.split(sep) -/
theorem mt_split : MtR X "str.split" (fun x xs H Q => ∃ a b, x = .str a ∧ xs = [.str b] ∧ (b.length == 0) = false ∧ a.length + 2 ≤ sizeLine ∧ rNewStrs (Txt.split a b) H Q) := by
  intro pins s σ H x xs v us Q I rx rs h
  obtain ⟨a, b, rfl, rfl, hb, hz, h⟩ := h
  obtain ⟨t, rfl⟩ := rx
  cases rs with
  | cons r1 rs =>
    cases rs
    obtain ⟨u, rfl⟩ := r1
    have hl : (Txt.split a b).length ≤ sizeLine := Nat.le_trans (PyProof.Rows.split_le a b) hz
    have hn : (Builtin.Str.partsBetween a (Builtin.Str.occurrences a b 0 a.length (a.length + 1)) b.length).length ≤ sizeLine := by
      have e1 := StrLaws.occ_length_le a b 0 a.length (a.length + 1)
      rw [length_partsBetween]; omega
    cases h1 : (decide (a.length < b.length) || decide (Builtin.Str.strKind a < Builtin.Str.strKind b))
    · cases hf : (Builtin.Str.occurrences a b 0 a.length (a.length + 1)).isEmpty
      · refine call_meets F.slot_str_split (typeIs_str _ _ _) F.entry_str_split (F.args_str_split_2 _ _) (meets_str_split_sep a b t u h1 hb hf (by omega) hn) ?_
        show EP X pins σ Q (.ref s.heap.objs.size) { s with toks := _, heap := s.heap.push { cls := .type "list", data := .seq (strsFrom s.toks (Builtin.Str.partsBetween a (Builtin.Str.occurrences a b 0 a.length (a.length + 1)) b.length)).toArray } }
        rw [strsFrom_eq]
        exact laid_strs (ys := Txt.split a b) I ((numbered_texts _ _).trans ((if_neg (ne_true_of_eq_false h1)).trans (if_neg (ne_true_of_eq_false hf))).symm) hl h
      · refine call_meets F.slot_str_split (typeIs_str _ _ _) F.entry_str_split (F.args_str_split_2 _ _) (meets_str_split_not_found a b t u h1 hb hf) ?_
        exact laid_strs (l := [(a, t)]) (ys := Txt.split a b) (k := s.toks) I ((if_neg (ne_true_of_eq_false h1)).trans (if_pos hf)).symm hl h
    · refine call_meets F.slot_str_split (typeIs_str _ _ _) F.entry_str_split (F.args_str_split_2 _ _) (meets_str_split_cannot_occur a b t u h1) ?_
      exact laid_strs (l := [(a, t)]) (ys := Txt.split a b) (k := s.toks) I (if_pos h1).symm hl h

/-- sep.join(a list | a tuple of texts) -/
theorem mt_join : MtR X "str.join" (fun x xs H Q => ∃ a p, ∃ ys : List Str, x = .str a ∧ xs = [.ref p] ∧ (SqL X.K H p (ys.map V.str) ∨ SqT X.K H p (ys.map V.str)) ∧
    (ys.map (·.length)).sum + ys.length * a.length ≤ 16777216 ∧ Q (.str (Txt.join a ys)) H) := by
  intro pins s σ H x xs v us Q I rx rs h
  obtain ⟨a, p, ys, rfl, rfl, hp, hz, h⟩ := h
  obtain ⟨t, rfl⟩ := rx
  cases rs with
  | cons r1 rs =>
    cases rs
    cases r1
    rcases hp with hp | hp
    · obtain ⟨its, r, ⟨o, n, ho, hc, _, hd⟩, _⟩ := I.list hp
      exact PyProof.Rows.join_list (items := its.toArray) ⟨o, ho, hc, n, hd⟩ (by rw [List.toList_toArray]; exact strs_of_vals r) hz fun t' k => ⟨.str _, H, I.tok k, ⟨t', rfl⟩, h⟩
    · obtain ⟨its, r, ht, _⟩ := I.tuple hp
      exact PyProof.Rows.join_tuple (items := its.toArray) ht (by rw [List.toList_toArray]; exact strs_of_vals r) hz fun t' k => ⟨.str _, H, I.tok k, ⟨t', rfl⟩, h⟩

theorem mt0 {id : String} {C : Str → Prop} {g : Str → V} (rule : ∀ (a : Str) (t : Tok) (s : Shared) (Q : Value → Shared → Prop), C a → (∀ (u : Value) (k : Nat), RelV (g a) u → Q u { s with toks := k }) →
    wpAny (model X.prog X.w) X.A (call (.builtin id) [.str a t]) Q X.xe s) : MtR X id (fun x xs H Q => ∃ a, x = .str a ∧ xs = [] ∧ C a ∧ Q (g a) H) := by
  intro pins s σ H x xs v us Q I rx rs h
  obtain ⟨a, rfl, rfl, hc, h⟩ := h
  obtain ⟨t, rfl⟩ := rx
  cases rs
  exact rule a t s _ hc fun u k r => ⟨g a, H, I.tok k, r, h⟩
theorem mt_isdigit : MtR X "str.isdigit" (fun x xs H Q => ∃ a, x = .str a ∧ xs = [] ∧ True ∧ Q (.bl (Txt.isdigit a)) H) :=
  mt0 (C := fun _ => True) (g := fun a => .bl (Txt.isdigit a)) fun _ _ s _ _ h => PySem.SC.isdigit (h _ s.toks rfl)
theorem mt1 {id : String} {g : Str → Str → V} (rule : ∀ (a b : Str) (t u : Tok) (s : Shared) (Q : Value → Shared → Prop), (∀ (v : Value) (k : Nat), RelV (g a b) v → Q v { s with toks := k }) →
    wpAny (model X.prog X.w) X.A (call (.builtin id) [.str a t, .str b u]) Q X.xe s) : MtR X id (fun x xs H Q => ∃ a b, x = .str a ∧ xs = [.str b] ∧ Q (g a b) H) := by
  intro pins s σ H x xs v us Q I rx rs h
  obtain ⟨a, b, rfl, rfl, h⟩ := h
  obtain ⟨t, rfl⟩ := rx
  cases rs with
  | cons r1 rs =>
    cases rs
    obtain ⟨u, rfl⟩ := r1
    exact rule a b t u s _ fun v k r => ⟨g a b, H, I.tok k, r, h⟩
theorem mt_startswith : MtR X "str.startswith" (fun x xs H Q => ∃ a b, x = .str a ∧ xs = [.str b] ∧ Q (.bl (Txt.startswith a b)) H) :=
  mt1 (g := fun a b => .bl (Txt.startswith a b)) fun _ _ _ _ s _ h => PySem.SC.startswith (h _ s.toks rfl)
theorem mt_count : MtR X "str.count" (fun x xs H Q => ∃ a b, x = .str a ∧ xs = [.str b] ∧ Q (.int (Txt.count a b)) H) :=
  mt1 (g := fun a b => .int (Txt.count a b)) fun _ _ _ _ s _ h => PySem.SC.count (h _ (s.toks + 1) ⟨_, rfl⟩)

/-- int(text) -/
theorem call_int_str : CallR X (.type "int") (fun xs H Q => ∃ a n, xs = [.str a] ∧ PySem.intText? a = some n ∧ a.length ≤ 640 ∧ Q (.int n) H) := by
  intro pins s σ H xs us Q I rs h
  obtain ⟨a, n, rfl, hn, hl, h⟩ := h
  cases rs with
  | cons r1 rs =>
    cases rs
    obtain ⟨t, rfl⟩ := r1
    exact PySem.W.KIN.call_text hn hl ⟨.int n, H, I.tok _, ⟨_, rfl⟩, h⟩
end
section
variable {X : Cx} {o e : Expr} {to te : TE}
def tM0 (r : V → List V → Hp → VK → Prop) (to : TE) : TE := fun σ H Q => to σ H fun x H1 => (∃ a, x = .str a) ∧ r x [] H1 Q
def tM1 (r : V → List V → Hp → VK → Prop) (to te : TE) : TE := fun σ H Q => to σ H fun x H1 => (∃ a, x = .str a) ∧ te σ H1 fun y H2 => r x [y] H2 Q
theorem pe_m0 {id : String} {name : Str} {apos pos : Pos} {r : V → List V → Hp → VK → Prop} (slot : Slot "str" name id) (ty : typeOf (.builtin id) = pure (.type "method_descriptor")) (rule : MtR X id r) (ho : PE X o to)
    (hbase : attributeBase o name X.env (eval o X.env) = eval o X.env := by rfl) (hline : (apos.endLine == pos.line) = true := by rfl) : PE X (.Call (.Attribute o name apos) [] [] pos) (tM0 r to) := by
  intro pins s σ H Q I h
  refine PySem.Call_method0 hbase hline (thn (ho pins s σ H _ I h) fun v s1 ⟨x, H1, I1, r1, q1⟩ => ?_)
  obtain ⟨⟨a, rfl⟩, q1⟩ := q1
  obtain ⟨t, rfl⟩ := _root_.id r1
  exact ⟨"str", _, F.plainAttrs_str, slot, ty, typeIs_str _ _ _, (fun _ e => nomatch e), Calls.callWith_builtin rfl (PySem.evalArgs_none (rule pins s1 σ H1 _ [] _ [] Q I1 r1 .nil q1))⟩
theorem pe_m1 {id : String} {name : Str} {apos pos : Pos} {r : V → List V → Hp → VK → Prop} (slot : Slot "str" name id) (ty : typeOf (.builtin id) = pure (.type "method_descriptor")) (rule : MtR X id r) (ho : PE X o to) (he : PE X e te)
    (hs : starEach [e] X.env = [(false, eval e X.env)] := by rfl) (hbase : attributeBase o name X.env (eval o X.env) = eval o X.env := by rfl) (hline : (apos.endLine == pos.line) = true := by rfl) :
    PE X (.Call (.Attribute o name apos) [e] [] pos) (tM1 r to te) := by
  intro pins s σ H Q I h
  refine PySem.Call_method1 hbase hs hline (thn (ho pins s σ H _ I h) fun v s1 ⟨x, H1, I1, r1, q1⟩ => ?_)
  obtain ⟨⟨a, rfl⟩, q1⟩ := q1
  obtain ⟨t, rfl⟩ := _root_.id r1
  refine ⟨"str", _, F.plainAttrs_str, slot, ty, typeIs_str _ _ _, (fun _ e => nomatch e), Calls.callWith_builtin rfl (Calls.evalArgs_plain (Calls.spliced_cons ?_))⟩
  exact thn (he pins s1 σ H1 _ I1 q1) fun u s2 ⟨y, H2, I2, r2, q2⟩ => Calls.spliced_nil (rule pins s2 σ H2 _ [y] _ [u] Q I2 r1 (.cons r2 .nil) q2)

end
end L2
namespace L2
open PySem PySem.Spec PyProof.Rows
section
variable {X : Cx}
end
theorem IsPart.raw {v : Value} {o : Option Int} (p : IsPart v o) : ∃ l : Option (Int × Tok), v = partValue l ∧ l.map (·.1) = o := by
  cases p with
  | none => exact ⟨none, rfl, rfl⟩
  | int i t => exact ⟨some (i, t), rfl, rfl⟩

end L2
namespace Att
open PySem PySem.W PySem.Calls PyProof.Rows
theorem ints_of_wellAll {P : Params} {h : Heap} : ∀ (ns : List Int) (vs : List Value), WellAll P h vs (ns.map WData.int) → IntsAre vs ns := by
  intro ns
  induction ns with
  | nil =>
    intro vs w
    rw [List.map_nil] at w
    cases w
    exact .nil
  | cons n ns ih =>
    intro vs w
    rw [List.map_cons] at w
    cases w with
    | cons a b =>
      cases a
      exact .cons _ _ (ih _ b)

theorem script_of {l : OpenLaw} {n : Nat} (hn : l.most = some n) {P : Params} {h : Heap} {args : List WData} {vals : List Value}
    (hpre : l.row.toRowW.claim.pre args = true) (hwl : WellAll P h vals args) :
    ∃ a vs ns, vals = [Value.ref a] ∧ args = [WData.list (ns.map WData.int)] ∧ h.get? a = some { cls := .type "list", data := .seq vs.toArray } ∧ IntsAre vs ns ∧ ns.length ≤ n := by
  have hsh : WShape.hasAll [] args [.list .int] = true := (pre_splitW hpre).1
  have hc : l.pre.holds [] { args := args } = true := (pre_splitW hpre).2
  obtain ⟨d, r, rfl, h1, h2⟩ := hasAllW_cons hsh
  obtain rfl := hasAllW_nil h2
  obtain ⟨xs, rfl, h3⟩ := hasW_list h1
  obtain ⟨ns, rfl⟩ := items_int h3
  have hlen : ns.length ≤ n := by
    unfold OpenLaw.pre at hc
    have h4 : (WTm.not (.lt (.lit (.int (n : Int))) (.len (.arg 0)))).holds [] { args := [.list (ns.map .int)] } = true := by
      have h4 := (holds_andW hc).1
      rw [hn] at h4
      exact h4
    have h5 := condW_of h4 (w_not (w_lt w_lit (w_len_list (w_arg rfl))))
    rw [List.length_map] at h5
    refine Nat.le_of_not_lt fun q => ?_
    have q' : (n : Int) < ((ns.length : Nat) : Int) := by omega
    first
      | (rw [decide_eq_true q'] at h5; exact absurd h5 (by decide))
      | (simp at h5; omega)
  cases hwl with
  | cons w1 w2 =>
    cases w2
    cases w1 with
    | list ho hall => exact ⟨_, _, ns, rfl, rfl, ho, ints_of_wellAll ns _ hall, hlen⟩

theorem post_true (l : OpenLaw) (args : List WData) : l.row.toRowW.claim.post args (.bool true) args = true :=
  postW_of (r := l.row.toRowW) (X := (true == true))
    (show WShape.has [] (.bool true) .bool = true by first | rfl | decide | simp [WShape.has, WShape.arms, WShape.armsAll])
    (show (WTm.eq .res (.lit (.bool true))).value [] { args := args, res := some (.bool true), after := args } = some (.bool (true == true)) from w_eq_bool (w_res rfl) w_lit) rfl

/-- the same from a codeAny of the CALL (for a layer whose function contracts speak of calls) -/
theorem attach_call {l : OpenLaw} {n : Nat} {q : Program} {loose : List Str} {XP : (Str → Option Value) → Heap → Prop} {YP : World → Heap → Prop} {d : DefRec}
    (hn : l.most = some n) (hdf : d.params.defaults = [])
    (call : ∀ (w : World) (s₀ s₁ : Shared) (mg mb : Str → Option Value) (fa : Addr) (o : Obj) (pm cd doc : Value) (a : Addr) (vs : List Value) (ns : List Int),
      Ground q loose [] XP w s₀ mg mb s₁.heap → YP w s₁.heap →
      s₁.heap.get? fa = some o → o.data = .func (docDef d.name d.params d.body d.scope pm cd doc) → s₁.heap.CodeRec cd d.name → mg d.name = some (.ref fa) →
      s₁.heap.get? a = some { cls := .type "list", data := .seq vs.toArray } → IntsAre vs ns → ns.length ≤ n → s₁.gens = #[] →
      codeAny (model l.prog w) callerA (.call (.ref fa) ⟨[.ref a], []⟩) (fun r s' => r = .ok (.ret (.bool true)) ∧ OldK s₁.heap s'.heap ∧ s'.os = s₁.os ∧ AllBare s'.gens) s₁) :
    WalkO q loose XP YP l.row.toRowW d [] (fun f vs => PySem.call f vs) := by
  intro w s₀ s₁ mg mb G Y fa o pm cd doc dV kV ho hd hcd hD hmg hg args vals as hpre hlay hrd hwl hlo
  obtain rfl : dV = .none := Dflts.none hD hdf
  obtain rfl : kV = .none := Dflts.noKw hD
  obtain ⟨a, vs, ns, rfl, rfl, hobj, hints, hlen⟩ := script_of hn hpre hwl
  refine enter_call (codeAny_mono (call w s₀ s₁ mg mb fa o pm cd doc a vs ns G Y ho (fd_plain hd) hcd hmg hobj hints hlen hg) fun r s' hq => ?_)
  obtain ⟨rfl, h2, h3, h4⟩ := hq
  exact ⟨.inl ⟨.bool true, .bool true, [], rfl, fun _ => rfl, .bool true, post_true l _, fun _ => ⟨List.Pairwise.nil, fun _ hm => (nomatch hm)⟩⟩, h2, h3, h4⟩

section
variable {prog : Program} {w : World} {A : Around} {E : Value → Shared → Prop} {s : Shared} {K : Frag}
end
end Att
namespace L2
open PySem PySem.Spec PyProof.Rows
theorem vals_ints : ∀ {vs : List Value} {ns : List Int}, IntsAre vs ns → Vals (ns.map V.int) vs
  | _, _, .nil => .nil
  | _, _, .cons n t h => .cons ⟨t, rfl⟩ (vals_ints h)

end L2
namespace L2
open PySem PySem.Spec PyProof.Rows
end L2
namespace L2
open PySem PySem.Spec PyProof.Rows
def defArgs (s : Stmt) : Arguments := match s with
  | .FunctionDef _ a _ _ _ _ _ _ _ _ => a
  | _ => { posonlyargs := [], args := [], vararg := none, kwonlyargs := [], kw_defaults := [], kwarg := none, defaults := [] }
def defBody (s : Stmt) : List Stmt := match s with
  | .FunctionDef _ _ b _ _ _ _ _ _ _ => b
  | _ => []
def defScope (s : Stmt) : Scope := match s with
  | .FunctionDef _ _ _ _ _ _ sc _ _ _ => sc
  | _ => { kind := .function, names := [], isGenerator := false, isCoroutine := false }

abbrev CX0 : CXT := fun _ _ _ _ _ _ => False
abbrev E0 : XK := fun _ _ _ => False
theorem pass0 {X : Cx} : Passes CX0 X E0 := fun _ _ _ _ _ _ _ h => h.elim

structure Fun (K : PySem.W.Frag) (x qual : Str) (st : Stmt) (f : Addr) (fd : FuncData) : Prop where
  ex : ∃ (oc : Value) (od : Option Addr) (kV doc pm : Value) (an : Option Addr) (cdv ct : Value) (osl : Array (Option Value)),
    fd = PySem.W.fnOf x qual (defArgs st) (defBody st) (defScope st) .none kV doc pm an cdv ct ∧ K.lookup f = some ⟨oc, od, .func fd, osl⟩ ∧ PySem.W.codeIn K cdv qual = true
  kp : PySem.W.keepIn K (.ref f) = true
section
variable {P : Program} {w : World} {K : PySem.W.Frag} {mg : Str → Option Value} {base : Heap}
/-- THE RULE for a def: its body as a term of rules, and the reading of that term -/
theorem Fun.ok {x qual : Str} {st : Stmt} {f : Addr} {fd : FuncData} {N ps : List Str} {k : Nat} {sp : Sp} (F : Fun K x qual st f fd) (S : FnScope N ps (defScope st)) (len : ∀ vs H Q E, sp vs H Q E → vs.length = ps.length)
    (hbody : ∀ (cdv : Value) (A : Around) (outer : List Env) (s : Shared) (H : Hp) (vs : List V) (Q : VK) (E : XK) (gp : Array GenState → Drawn → Prop), Cl (k + 1) gp → Room k (A.deeper (envOfC qual (defScope st) s.heap.objs.size f cdv)) → sp vs H Q E →
      ∃ t, PSs (cxOf CX0 P w K mg base N qual (defScope st) f cdv A outer s H E gp).nox (defBody st) t ∧ t { nx := fun _ H' => Q .non H', rt := Q } (start N vs) H) : FnOk P w K mg base CX0 (k + 1) f fd ps sp := by
  obtain ⟨oc, od, kV, doc, pm, an, cdv, ct, osl, rfl, lk, hcd⟩ := F.ex
  refine fn_of lk hcd S len fun A outer s H vs Q E gp hcl hr hsp => ?_
  obtain ⟨t, h, q⟩ := hbody cdv A outer s H vs Q E gp hcl hr hsp
  exact ⟨t, h.nox, q⟩
/-- how its arguments bind (no defaults): h is «fun _ _ _ _ _ _ us hl => match us, hl with | [_, _], _ => rfl», one _ a parameter -/
theorem Fun.binds {x qual : Str} {st : Stmt} {f : Addr} {fd : FuncData} {ps : List Str} (F : Fun K x qual st f fd)
    (h : ∀ (kV doc pm : Value) (an : Option Addr) (cdv ct : Value) (us : List Value), us.length = ps.length → bindArgs (PySem.W.fnOf x qual (defArgs st) (defBody st) (defScope st) .none kV doc pm an cdv ct) ⟨us, []⟩ = pure (ps.zip us)) : Binds K fd ps [] := by
  obtain ⟨oc, od, kV, doc, pm, an, cdv, ct, osl, rfl, lk, hcd⟩ := F.ex
  exact .all (h kV doc pm an cdv ct)
theorem fun_mk {x qual : Str} {st : Stmt} {f : Addr} {oc : Value} {od an : Option Addr} {osl : Array (Option Value)} {kV doc pm cdv ct : Value} (l : K.lookup f = some ⟨oc, od, .func (PySem.W.fnOf x qual (defArgs st) (defBody st) (defScope st) .none kV doc pm an cdv ct), osl⟩)
    (c : PySem.W.codeIn K cdv qual = true) (k : PySem.W.keepIn K (.ref f) = true) : Fun K x qual st f (PySem.W.fnOf x qual (defArgs st) (defBody st) (defScope st) .none kV doc pm an cdv ct) := ⟨⟨oc, od, kV, doc, pm, an, cdv, ct, osl, rfl, l, c⟩, k⟩
end
section
variable {X : Cx}
theorem pv (i : Nat) {x : Str} {pos : Pos} (hN : X.N[i]? = some x := by rfl) (hv : Vis X.env.scope x := by first | exact Or.inl rfl | exact Or.inr (Or.inl rfl) | exact Or.inr (Or.inr rfl)) (hd : (x == ("__debug__" : Str)) = false := by decide)
    (hcd : (x == ("__classdict__" : Str)) = false := by decide) : PE X (.Name x pos) (tVar i) := pe_var hN hv hd hcd
end
theorem ite2 {c A B : Prop} [Decidable c] (h1 : c → A) (h2 : ¬ c → B) : if c then A else B := by
  by_cases h : c
  · rw [if_pos h]
    exact h1 h
  · rw [if_neg h]
    exact h2 h
/-- all that was tracked is as it was -/
def Same (H H' : Hp) : Prop := ∀ b o, H b = some o → H' b = some o
theorem Same.refl (H : Hp) : Same H H := fun _ _ h => h
theorem Same.trans {H H1 H2 : Hp} (a : Same H H1) (b : Same H1 H2) : Same H H2 := fun c o h => b c o (a c o h)
theorem Same.free {H H' : Hp} (e : Same H H') {l : Addr} (h : H' l = Option.none) : H l = Option.none := by
  cases q : H l with
  | none => rfl
  | some o =>
    rw [e l o q] at h
    cases h
theorem Same.seq {K : PySem.W.Frag} {H H' : Hp} {a : Addr} {xs : List V} (e : Same H H') (h : SqL K H a xs) : SqL K H' a xs := by
  rcases h with (h | ⟨o, h⟩) | h
  · exact .inl (.inl (e _ _ h))
  · exact .inl (.inr ⟨o, e _ _ h⟩)
  · exact .inr h

section
variable {κ : Type} [DecidableEq κ]
end
/-- a new instance and its __init__ leave all that was tracked as it was -/
theorem Same.made {H H1 : Hp} {x dx C : Addr} (nx : H x = Option.none) (nd : H dx = Option.none) (k : ∀ b o, (upd (upd H dx (.own x)) x (.ins C dx [])) b = some o → b ≠ x → H1 b = some o) : Same H H1 := fun b o e =>
  k b o (by rw [upd_ne (ne_of_none e nx), upd_ne (ne_of_none e nd)]; exact e) (ne_of_none e nx)
end L2
set_option Elab.async false
set_option linter.all false
set_option maxRecDepth 100000
namespace NP
open PySem PySem.Spec PyProof.Rows L2
mutual
inductive Th (K : PySem.W.Frag) (H : Hp) : V → PyData → Prop
  | dp {v : V} {d : PyData} : Dp K H v d → Th K H v d
  | dct {a : Addr} {kis : List (Int × Int)} : Rd H a (.dK (kis.map fun p => (Sum.inl p.1, V.int p.2))) → Th K H (.ref a) (.dict (kis.map fun p => (PyData.int p.1, PyData.int p.2)))
  | lst {a : Addr} {xs : List V} {ds : List PyData} : SqL K H a xs → ThAll K H xs ds → Th K H (.ref a) (.list ds)
  | tup {a : Addr} {xs : List V} {ds : List PyData} : SqT K H a xs → ThAll K H xs ds → Th K H (.ref a) (.tuple ds)
inductive ThAll (K : PySem.W.Frag) (H : Hp) : List V → List PyData → Prop
  | nil : ThAll K H [] []
  | cons {v : V} {vs : List V} {d : PyData} {ds : List PyData} : Th K H v d → ThAll K H vs ds → ThAll K H (v :: vs) (d :: ds)
end
def tyD : PyData → String
  | .none => "NoneType"
  | .bool _ => "bool"
  | .int _ => "int"
  | .str _ => "str"
  | .list _ => "list"
  | .tuple _ => "tuple"
  | .dict _ => "dict"
def isi (t n : String) : Bool := t == n || (t == "bool" && n == "int")
def named (n : String) : Prop := n = "int" ∨ n = "bool" ∨ n = "tuple" ∨ n = "list"
theorem kit_ok (K : PySem.W.Frag) (d : PyData) {n : String} (h : named n) : PySem.W.kitOne K (.type (tyD d)) (.type n) = some (isi (tyD d) n) := by
  rcases h with rfl | rfl | rfl | rfl <;> cases d <;> first | rfl | (with_unfolding_all rfl) | decide +kernel
section
variable {X : Cx} {pins : List (Addr × Obj)} {σ : L2.St} {H : Hp} {s : Shared} {A : Around} {E : Value → Shared → Prop} {Q : Value → Shared → Prop}
theorem isinst_th {x : V} {u : Value} {d : PyData} {n : String} (I : Inv X pins σ H s) (h : Th X.K H x d) (rx : RelV x u) (hn : named n) (q : ∀ tk, Q (.bool (isi (tyD d) n)) { s with toks := tk }) :
    wpAny (model X.prog X.w) A (call (.builtin "isinstance") [u, .type n]) Q E s := by
  have e := kit_ok X.K d hn
  cases h with
  | dp hd =>
    cases hd with
    | non => cases (show u = Value.none from rx); exact PySem.W.kia_one PySem.W.kitx_none I.kIn True.intro e (fun z => nomatch z) q
    | bl y => cases (show u = Value.bool y from rx); exact PySem.W.kia_one PySem.W.kitx_bool I.kIn True.intro e (fun z => nomatch z) q
    | int i => obtain ⟨t, z⟩ := (show ∃ t, u = Value.int i t from rx); cases z; exact PySem.W.kia_one PySem.W.kitx_int I.kIn True.intro e (fun z => nomatch z) q
    | str y => obtain ⟨t, z⟩ := (show ∃ t, u = Value.str y t from rx); cases z; exact PySem.W.kia_one PySem.W.kitx_str I.kIn True.intro e (fun z => nomatch z) q
    | @lst a xs ds hs ha =>
      cases (show u = Value.ref a from rx)
      obtain ⟨its, _, ⟨o, _, ho, hc, _⟩, _⟩ := I.list hs
      exact PySem.W.kia_one PySem.W.kitx_list I.kIn ⟨o, ho, hc⟩ e (fun z => nomatch z) q
    | @tup a xs ds hs ha =>
      cases (show u = Value.ref a from rx)
      obtain ⟨its, _, ⟨o, ho, hc, _⟩, _⟩ := I.tuple hs
      exact PySem.W.kia_one PySem.W.kitx_tuple I.kIn ⟨o, ho, hc⟩ e (fun z => nomatch z) q
  | @dct a kis hr =>
    cases (show u = Value.ref a from rx)
    obtain ⟨_, _, vs, _, o, es, ep, h1, h2, _⟩ := dk_rd I.hok hr
    exact PySem.W.kia_one PySem.W.kitx_dict I.kIn ⟨o, h1, h2.1⟩ e (fun z => nomatch z) q
  | @lst a xs ds hs ha =>
    cases (show u = Value.ref a from rx)
    obtain ⟨its, _, ⟨o, _, ho, hc, _⟩, _⟩ := I.list hs
    exact PySem.W.kia_one PySem.W.kitx_list I.kIn ⟨o, ho, hc⟩ e (fun z => nomatch z) q
  | @tup a xs ds hs ha =>
    cases (show u = Value.ref a from rx)
    obtain ⟨its, _, ⟨o, ho, hc, _⟩, _⟩ := I.tuple hs
    exact PySem.W.kia_one PySem.W.kitx_tuple I.kIn ⟨o, ho, hc⟩ e (fun z => nomatch z) q
/-- isinstance(x, int), .. bool, tuple, list -/
theorem cr_isinst : CallR X (.builtin "isinstance") (fun xs H Q => ∃ x n d, xs = [x, .ty n] ∧ Th X.K H x d ∧ named n ∧ Q (.bl (isi (tyD d) n)) H) := by
  intro pins s σ H xs us Q I r h
  obtain ⟨x, n, d, rfl, ht, hn, q⟩ := h
  cases r with
  | cons r1 r2 =>
    cases r2 with
    | cons r3 r4 =>
      cases r4
      cases r3
      exact isinst_th I ht r1 hn fun tk => ⟨.bl _, H, I.tok _, rfl, q⟩
end
def sim : HO → Bool
  | .lst _ => true
  | .tup _ => true
  | .dK _ => true
  | _ => false
def RdLe (H H' : Hp) : Prop := ∀ a u, sim u = true → Rd H a u → Rd H' a u
theorem same_rd {H H' : Hp} {a : Addr} {u : HO} (e : Same H H') (h : Rd H a u) : Rd H' a u := by
  rcases h with h | ⟨o, h⟩
  · exact .inl (e _ _ h)
  · exact .inr ⟨o, e _ _ h⟩
theorem le_same {H H' : Hp} (e : Same H H') : RdLe H H' := fun _ _ _ h => same_rd e h
theorem le_seqL {K : PySem.W.Frag} {H H' : Hp} {a : Addr} {xs : List V} (e : RdLe H H') (h : SqL K H a xs) : SqL K H' a xs := by
  rcases h with h | h
  · exact .inl (e _ _ rfl h)
  · exact .inr h
theorem le_seqT {K : PySem.W.Frag} {H H' : Hp} {a : Addr} {xs : List V} (e : RdLe H H') (h : SqT K H a xs) : SqT K H' a xs := by
  rcases h with h | h
  · exact .inl (e _ _ rfl h)
  · exact .inr h
mutual
theorem dp_le {K : PySem.W.Frag} {H H' : Hp} (e : RdLe H H') : ∀ (d : PyData) (v : V), Dp K H v d → Dp K H' v d
  | .none, _, h => by cases h; exact .non
  | .bool b, _, h => by cases h; exact .bl b
  | .int i, _, h => by cases h; exact .int i
  | .str x, _, h => by cases h; exact .str x
  | .list ds, _, h => by
    cases h with
    | lst hs ha => exact .lst (le_seqL e hs) (dpa_le e ds _ ha)
  | .tuple ds, _, h => by
    cases h with
    | tup hs ha => exact .tup (le_seqT e hs) (dpa_le e ds _ ha)
  | .dict _, _, h => by cases h
theorem dpa_le {K : PySem.W.Frag} {H H' : Hp} (e : RdLe H H') : ∀ (ds : List PyData) (vs : List V), DpAll K H vs ds → DpAll K H' vs ds
  | [], _, h => by cases h; exact .nil
  | d :: ds, _, h => by
    cases h with
    | cons h1 h2 => exact .cons (dp_le e d _ h1) (dpa_le e ds _ h2)
end
mutual
theorem th_leD {K : PySem.W.Frag} {H H' : Hp} (e : RdLe H H') : ∀ (d : PyData) (v : V), Th K H v d → Th K H' v d
  | .none, _, h => by cases h with | dp h => exact .dp (dp_le e _ _ h)
  | .bool b, _, h => by cases h with | dp h => exact .dp (dp_le e _ _ h)
  | .int i, _, h => by cases h with | dp h => exact .dp (dp_le e _ _ h)
  | .str x, _, h => by cases h with | dp h => exact .dp (dp_le e _ _ h)
  | .list ds, _, h => by
    cases h with
    | dp h => exact .dp (dp_le e _ _ h)
    | lst hs ha => exact .lst (le_seqL e hs) (tha_le e ds _ ha)
  | .tuple ds, _, h => by
    cases h with
    | dp h => exact .dp (dp_le e _ _ h)
    | tup hs ha => exact .tup (le_seqT e hs) (tha_le e ds _ ha)
  | .dict _, _, h => by
    cases h with
    | dp h => exact .dp (dp_le e _ _ h)
    | dct h => exact .dct (e _ _ rfl h)
theorem tha_le {K : PySem.W.Frag} {H H' : Hp} (e : RdLe H H') : ∀ (ds : List PyData) (vs : List V), ThAll K H vs ds → ThAll K H' vs ds
  | [], _, h => by cases h; exact .nil
  | d :: ds, _, h => by
    cases h with
    | cons h1 h2 => exact .cons (th_leD e d _ h1) (tha_le e ds _ h2)
end
theorem th_le {K : PySem.W.Frag} {H H' : Hp} {v : V} {d : PyData} (e : RdLe H H') (h : Th K H v d) : Th K H' v d := th_leD e d v h
theorem tha_dp {K : PySem.W.Frag} {H : Hp} : ∀ {vs : List V} {ds : List PyData}, DpAll K H vs ds → ThAll K H vs ds
  | _, [], h => by cases h; exact .nil
  | _, d :: ds, h => by
    cases h with
    | cons h1 h2 => exact .cons (.dp h1) (tha_dp h2)
theorem tha_len {K : PySem.W.Frag} {H : Hp} : ∀ {ds : List PyData} {vs : List V}, ThAll K H vs ds → vs.length = ds.length
  | [], _, h => by cases h; rfl
  | _ :: _, _, h => by
    cases h with
    | cons _ h2 => exact congrArg Nat.succ (tha_len h2)
theorem tha_get {K : PySem.W.Frag} {H : Hp} : ∀ {ds : List PyData} {vs : List V} {i : Nat} {v : V}, ThAll K H vs ds → vs[i]? = some v → ∃ d, ds[i]? = some d ∧ Th K H v d
  | [], _, _, _, h, e => by cases h; cases e
  | d :: ds, _, 0, v, h, e => by
    cases h with
    | cons h1 _ => cases e; exact ⟨d, rfl, h1⟩
  | d :: ds, _, i + 1, v, h, e => by
    cases h with
    | @cons _ vs _ _ _ h2 =>
      have e' : vs[i]? = some v := by simpa using e
      obtain ⟨d', e1, e2⟩ := tha_get h2 e'
      exact ⟨d', by simpa using e1, e2⟩
theorem th_tup {K : PySem.W.Frag} {H : Hp} {x : V} {ds : List PyData} (h : Th K H x (.tuple ds)) : ∃ a xs, x = .ref a ∧ SqT K H a xs ∧ ThAll K H xs ds := by
  cases h with
  | dp h => cases h with | tup h1 h2 => exact ⟨_, _, rfl, h1, tha_dp h2⟩
  | tup h1 h2 => exact ⟨_, _, rfl, h1, h2⟩
theorem th_lst {K : PySem.W.Frag} {H : Hp} {x : V} {ds : List PyData} (h : Th K H x (.list ds)) : ∃ a xs, x = .ref a ∧ SqL K H a xs ∧ ThAll K H xs ds := by
  cases h with
  | dp h => cases h with | lst h1 h2 => exact ⟨_, _, rfl, h1, tha_dp h2⟩
  | lst h1 h2 => exact ⟨_, _, rfl, h1, h2⟩
theorem th_same {K : PySem.W.Frag} {H H' : Hp} {v : V} {d : PyData} (e : Same H H') (h : Th K H v d) : Th K H' v d := th_le (le_same e) h

mutual
theorem dp_nodict {K : PySem.W.Frag} {H : Hp} : ∀ (d : PyData) (v : V), Dp K H v d → d.hasDict = false
  | .none, _, _ => by unfold PyData.hasDict; rfl
  | .bool b, _, _ => by unfold PyData.hasDict; rfl
  | .int i, _, _ => by unfold PyData.hasDict; rfl
  | .str x, _, _ => by unfold PyData.hasDict; rfl
  | .list ds, _, h => by
    cases h with
    | lst hs ha =>
      unfold PyData.hasDict
      exact dpa_nodict ds _ ha
  | .tuple ds, _, h => by
    cases h with
    | tup hs ha =>
      unfold PyData.hasDict
      exact dpa_nodict ds _ ha
  | .dict _, _, h => by cases h
theorem dpa_nodict {K : PySem.W.Frag} {H : Hp} : ∀ (ds : List PyData) (vs : List V), DpAll K H vs ds → PyData.hasDictAll ds = false
  | [], _, _ => by unfold PyData.hasDictAll; rfl
  | d :: ds, _, h => by
    cases h with
    | cons h1 h2 =>
      unfold PyData.hasDictAll
      rw [dp_nodict d _ h1, dpa_nodict ds _ h2]
      rfl
end
theorem pairs_ints {P : Program} {w : World} {h : Heap} : ∀ {es : List DictEntry} {vs : List (Key × Value)} {kis : List (Int × Int)}, Pairs (mixKind P w) es vs → KV (kis.map fun p => ((Sum.inl p.1 : Key), V.int p.2)) vs →
    ReadsAll h (es.map (·.key)) (kis.map fun p => PyData.int p.1) [] ∧ ReadsAll h (es.map (·.val)) (kis.map fun p => PyData.int p.2) []
  | _, _, [], p, r => by cases r; cases p; exact ⟨.nil, .nil⟩
  | _, _, (i, j) :: kis, p, r => by
    cases r with
    | cons r1 r2 =>
      cases p with
      | cons p1 p2 p3 =>
        obtain ⟨e1, e2⟩ := r1
        obtain ⟨a, b⟩ := pairs_ints p3 r2
        rename_i kv _ e _
        have p1' : keyIs kv.1 e.key = true := p1
        rw [← show (Sum.inl i : Key) = kv.1 from e1] at p1'
        obtain ⟨t, et⟩ := Value.isInt_shape (k := i) (v := e.key) p1'
        obtain ⟨t', et'⟩ := (show ∃ t, kv.2 = Value.int j t from e2)
        refine ⟨?_, ?_⟩
        · rw [List.map_cons, et]; exact ReadsAll.cons (Reads.int i t) a
        · rw [List.map_cons, p2, et']; exact ReadsAll.cons (Reads.int j t') b
/-- what is asked that a thing be shown -/
structure Shows (d : PyData) : Prop where
  ok : d.showable = true
  sz : d.shown.length ≤ sizeLine
  dp : d.depth ≤ 10
section
variable {X : Cx} {pins : List (Addr × Obj)} {σ : L2.St} {H : Hp} {s : Shared}
/-- how a thing is shown within others -/
def Rp (X : Cx) (s : Shared) (u : Value) (d : PyData) : Prop := ∃ bs as, Reads s.heap u d as ∧ ReadAtMost s.heap d.depth bs ∧ ReprK X.prog X.w bs s.heap d.depth u d.shown
def RpA (X : Cx) (s : Shared) (us : List Value) (ds : List PyData) : Prop := ∃ bs as, ReadsAll s.heap us ds as ∧ ReadAtMost s.heap (PyData.depthAll ds) bs ∧ ReprAllK X.prog X.w bs s.heap (PyData.depthAll ds) us (PyData.shownAll ds)
theorem rp_reads {u : Value} {d : PyData} {as : List Addr} (r : Reads s.heap u d as) (hs : d.showable = true) (hn : d.hasDict = true → sysModules ∉ as) (hz : d.shown.length ≤ sizeLine) : Rp X s u d := by
  obtain ⟨bs, h1, h2⟩ := ReprK.of_reads (prog := X.prog) (w := X.w) r hs hn hz
  exact ⟨bs, as, r, h1, h2⟩
theorem dl (xs : List PyData) : (PyData.list xs).depth = PyData.depthAll xs + 1 := by simp only [PyData.depth]
theorem dt (xs : List PyData) : (PyData.tuple xs).depth = PyData.depthAll xs + 1 := by simp only [PyData.depth]
theorem sl (xs : List PyData) : (PyData.list xs).shown = listText (PyData.shownAll xs) := by simp only [PyData.shown]
theorem st (xs : List PyData) : (PyData.tuple xs).shown = tupleText (PyData.shownAll xs) := by simp only [PyData.shown]
theorem s0 : listText (PyData.shownAll []) = ("[]" : Str) := by simp only [PyData.shownAll]; exact listText_nil
theorem rp_list {a : Addr} {o : Obj} {l : List Value} {n : Nat} {xs : List PyData} (ho : s.heap.get? a = some o) (hc : o.cls = .type "list") (hd : o.data = .seq l.toArray n) (h : RpA X s l xs) : Rp X s (.ref a) (.list xs) := by
  obtain ⟨bs, as, rd, near, each⟩ := h
  have whole : Reads s.heap (.ref a) (.list xs) (a :: as) := .list ho hc hd rd
  have out : a ∉ bs := not_mem_of_deeper whole (by rw [dl]; exact Nat.lt_succ_self _) near
  refine ⟨a :: bs, _, whole, ReadAtMost.cons whole (by rw [dl]; exact Nat.le_succ _) near, ?_⟩
  rw [dl, sl]
  match l, rd, each, hd with
  | [], rd, _, hd => cases rd; rw [s0]; exact ReprK.listEmpty ho hc hd
  | x :: l, _, each, hd => exact ReprK.list ho hc hd out (by have := each.length_eq; simpa using this) fun i y e => each.item i y (by simpa using e)
theorem rp_tuple {a : Addr} {o : Obj} {l : List Value} {n : Nat} {xs : List PyData} (ho : s.heap.get? a = some o) (hc : o.cls = .type "tuple") (hd : o.data = .seq l.toArray n) (h : RpA X s l xs) : Rp X s (.ref a) (.tuple xs) := by
  obtain ⟨bs, as, rd, near, each⟩ := h
  have whole : Reads s.heap (.ref a) (.tuple xs) as := .tuple ho hc hd rd
  have out : a ∉ bs := not_mem_of_deeper whole (by rw [dt]; exact Nat.lt_succ_self _) near
  refine ⟨a :: bs, _, whole, ReadAtMost.cons whole (by rw [dt]; exact Nat.le_succ _) near, ?_⟩
  rw [dt, st]
  exact ReprK.tuple ho hc hd out each
theorem dct_reads (I : Inv X pins σ H s) {a : Addr} {kis : List (Int × Int)} (hr : Rd H a (.dK (kis.map fun p => (Sum.inl p.1, V.int p.2)))) : Reads s.heap (.ref a) (.dict (kis.map fun p => (PyData.int p.1, PyData.int p.2))) (a :: [] ++ []) ∧ sysModules ∉ (a :: [] ++ [] : List Addr) := by
  obtain ⟨_, hm, vs, kv, o, es, ep, h1, h2, h3, _, h5, _⟩ := dk_rd I.hok hr
  obtain ⟨p1, p2⟩ := pairs_ints (h := s.heap) h5 kv
  refine ⟨Reads.dict (kvs := kis.map fun p => (PyData.int p.1, PyData.int p.2)) (as := []) (bs := []) h1 h2.1 h3 (by rw [List.map_map]; exact p1) (by rw [List.map_map]; exact p2), fun z => ?_⟩
  have : sysModules = a := by simpa using z
  rw [this] at hm
  simp at hm
theorem dp_rp (I : Inv X pins σ H s) {d : PyData} {v : V} {u : Value} (h : Dp X.K H v d) (r : RelV v u) (hs : d.showable = true) (hz : d.shown.length ≤ sizeLine) : Rp X s u d := by
  obtain ⟨as, rd⟩ := Dp.reads I _ _ u h r
  have nd := dp_nodict _ _ h
  exact rp_reads rd hs (fun z => by rw [nd] at z; cases z) hz
mutual
theorem th_rp (I : Inv X pins σ H s) : ∀ (d : PyData) (v : V) (u : Value), Th X.K H v d → RelV v u → d.showable = true → d.shown.length ≤ sizeLine → Rp X s u d
  | .none, _, _, h, r, hs, hz => by cases h with | dp h => exact dp_rp I h r hs hz
  | .bool b, _, _, h, r, hs, hz => by cases h with | dp h => exact dp_rp I h r hs hz
  | .int i, _, _, h, r, hs, hz => by cases h with | dp h => exact dp_rp I h r hs hz
  | .str x, _, _, h, r, hs, hz => by cases h with | dp h => exact dp_rp I h r hs hz
  | .list ds, _, _, h, r, hs, hz => by
    cases h with
    | dp h => exact dp_rp I h r hs hz
    | lst hS hA =>
      cases r
      obtain ⟨its, rv, ⟨o, n, ho, hc, _, hd⟩, _⟩ := I.list hS
      have hz' : (listText (PyData.shownAll ds)).length ≤ sizeLine := by simpa only [PyData.shown] using hz
      exact rp_list ho hc hd (tha_rp I ds _ its hA rv (by simpa [PyData.showable] using hs) fun t ht => Nat.le_trans (listText_mem_le ht) hz')
  | .tuple ds, _, _, h, r, hs, hz => by
    cases h with
    | dp h => exact dp_rp I h r hs hz
    | tup hS hA =>
      cases r
      obtain ⟨its, rv, ⟨o, ho, hc, n, hd⟩, _⟩ := I.tuple hS
      have hz' : (tupleText (PyData.shownAll ds)).length ≤ sizeLine := by simpa only [PyData.shown] using hz
      exact rp_tuple ho hc hd (tha_rp I ds _ its hA rv (by simpa [PyData.showable] using hs) fun t ht => Nat.le_trans (tupleText_mem_le ht) hz')
  | .dict _, _, _, h, r, hs, hz => by
    cases h with
    | dp h => exact dp_rp I h r hs hz
    | dct h =>
      cases r
      obtain ⟨rd, no⟩ := dct_reads I h
      exact rp_reads rd hs (fun _ => no) hz
theorem tha_rp (I : Inv X pins σ H s) : ∀ (ds : List PyData) (vs : List V) (us : List Value), ThAll X.K H vs ds → Vals vs us → PyData.showableAll ds = true → (∀ t ∈ PyData.shownAll ds, t.length ≤ sizeLine) → RpA X s us ds
  | [], _, _, h, r, _, _ => by
    cases h
    cases r
    exact ⟨[], _, ReadsAll.nil, (fun _ h => nomatch h), by simp only [PyData.shownAll]; exact .nil⟩
  | d :: ds, _, _, h, r, hs, hz => by
    cases h with
    | cons h1 h2 =>
      cases r with
      | cons r1 r2 =>
        have both : d.showable = true ∧ PyData.showableAll ds = true := by unfold PyData.showableAll at hs; exact (Bool.and_eq_true _ _).mp hs
        obtain ⟨b1, a1, q1, m1, k1⟩ := th_rp I d _ _ h1 r1 both.1 (hz _ (by unfold PyData.shownAll; exact .head _))
        obtain ⟨b2, a2, q2, m2, k2⟩ := tha_rp I ds _ _ h2 r2 both.2 fun t ht => hz t (by unfold PyData.shownAll; exact .tail _ ht)
        have dep : PyData.depthAll (d :: ds) = max d.depth (PyData.depthAll ds) := by simp only [PyData.depthAll]
        have sho : PyData.shownAll (d :: ds) = d.shown :: PyData.shownAll ds := by simp only [PyData.shownAll]
        have le1 : d.depth ≤ PyData.depthAll (d :: ds) := by rw [dep]; exact Nat.le_max_left _ _
        have le2 : PyData.depthAll ds ≤ PyData.depthAll (d :: ds) := by rw [dep]; exact Nat.le_max_right _ _
        refine ⟨b1 ++ b2, _, ReadsAll.cons q1 q2, (m1.mono le1).append (m2.mono le2), ?_⟩
        rw [sho]
        exact .cons ((k1.more fun _ z => List.mem_append.mpr (.inl z)).level_le le1) (k2.more_le (fun _ z => List.mem_append.mpr (.inr z)) le2)
end
theorem shows_list {a : Addr} {o : Obj} {l : List Value} {n : Nat} {xs : List PyData} (ho : s.heap.get? a = some o) (hc : o.cls = .type "list") (hd : o.data = .seq l.toArray n) (h : RpA X s l xs) (hz : (listText (PyData.shownAll xs)).length ≤ sizeLine) :
    ∃ T idr, ShowsBy X.prog X.w s.heap a (.list xs) T idr := by
  obtain ⟨bs, as, rd, near, each⟩ := h
  have out : a ∉ bs := not_mem_of_deeper (Reads.list ho hc hd rd) (by rw [dl]; exact Nat.lt_succ_self _) near
  refine ⟨"list", "list.__repr__", ⟨F.slot_list_repr.toG, F.slot_list_str, F.slot_list_format, fun t k => ⟨o, k _ _ ho, hc⟩, fun A E t Q hg hu k q => ?_⟩⟩
  rw [dl] at hu
  rw [sl] at q
  match l, rd, each, hd with
  | [], rd, _, hd =>
    cases rd
    rw [s0] at q
    exact call_list_repr_empty ⟨o, k a o ho, hc⟩ (k a o ho) hd (q t.heap _ _ fun _ _ z => z)
  | x :: l, _, each, hd => exact call_list_reprK ho hc hd out (by have := each.length_eq; simpa using this) (fun i y e => each.item i y (by simpa using e)) hg (fun b _ => Clear.nil b) hu k q hz
theorem shows_tuple {a : Addr} {o : Obj} {l : List Value} {n : Nat} {xs : List PyData} (ho : s.heap.get? a = some o) (hc : o.cls = .type "tuple") (hd : o.data = .seq l.toArray n) (h : RpA X s l xs) (hz : (tupleText (PyData.shownAll xs)).length ≤ sizeLine) :
    ∃ T idr, ShowsBy X.prog X.w s.heap a (.tuple xs) T idr := by
  obtain ⟨bs, as, rd, near, each⟩ := h
  have out : a ∉ bs := not_mem_of_deeper (Reads.tuple ho hc hd rd) (by rw [dt]; exact Nat.lt_succ_self _) near
  refine ⟨"tuple", "tuple.__repr__", ⟨F.slot_tuple_repr, F.slot_tuple_str, F.slot_tuple_format, fun t k => ⟨o, k _ _ ho, hc⟩, fun A E t Q hg hu k q => ?_⟩⟩
  rw [dt] at hu
  rw [st] at q
  exact call_tuple_reprK ho hc hd out each hg (fun b _ => Clear.nil b) hu k q hz
end
section
variable {X : Cx}
theorem cr_repr (hu : X.A.units + 64 < cLine) (hgp : ∀ g d, X.gp g d ↔ AllBare g) : CallR X (.builtin "repr") (fun xs H Q => ∃ x d, xs = [x] ∧ Th X.K H x d ∧ Shows d ∧ Q (.str d.shown) H) := by
  intro pins s σ H xs us Q I r h
  have hgu := (I.ok.frames hgp).2
  obtain ⟨x, d, rfl, ht, S, q⟩ := h
  obtain ⟨u, rfl, ru⟩ := vals1 r
  have fin : ∀ h' t tk, (∀ b o, s.heap.get? b = some o → h'.get? b = some o) → EP X pins σ Q (.str d.shown t) { s with heap := h', toks := tk } := fun h' t tk k => ⟨.str d.shown, H, I.kept k, ⟨_, rfl⟩, q⟩
  have go : ∀ (a : Addr) (as : List Addr), u = .ref a → Reads s.heap (.ref a) d as → (d.hasDict = true → sysModules ∉ as) → wpAny (model X.prog X.w) X.A (call (.builtin "repr") [u]) (EP X pins σ Q) X.xe s := by
    intro a as e rd hs
    subst e
    exact repr_of_reads' rd S.ok hs hgu (by have := S.dp; omega) (fun _ _ e => e) (fun h' u tk k => fin h' u tk k) S.sz
  cases ht with
  | dp hd =>
    have nd := dp_nodict _ _ hd
    cases hd with
    | non => cases (show u = Value.none from ru); exact PySem.P.repr_of_none (fin s.heap _ _ fun _ _ e => e)
    | bl y => cases (show u = Value.bool y from ru); exact PySem.P.repr_of_bool (fin s.heap _ _ fun _ _ e => e)
    | int i =>
      obtain ⟨t, rfl⟩ := (show ∃ t, u = Value.int i t from ru)
      have := S.ok
      unfold PyData.showable at this
      exact PySem.P.repr_of_int (of_decide_eq_true this) (fin s.heap _ _ fun _ _ e => e)
    | str y =>
      obtain ⟨t, rfl⟩ := (show ∃ t, u = Value.str y t from ru)
      have := S.sz
      unfold PyData.shown at this
      exact PySem.P.repr_of_str (fin s.heap _ _ fun _ _ e => e) this
    | @lst a xs ds hs ha =>
      obtain ⟨as, rd⟩ := Dp.reads I _ _ u (.lst hs ha) ru
      exact go a as ru (by rw [← show u = Value.ref a from ru]; exact rd) fun z => by rw [nd] at z; cases z
    | @tup a xs ds hs ha =>
      obtain ⟨as, rd⟩ := Dp.reads I _ _ u (.tup hs ha) ru
      exact go a as ru (by rw [← show u = Value.ref a from ru]; exact rd) fun z => by rw [nd] at z; cases z
  | @dct a kis hr =>
    obtain ⟨rd, no⟩ := dct_reads I hr
    exact go a _ ru rd fun _ => no
  | @lst a xs ds hS hA =>
    cases ru
    obtain ⟨its, rv, ⟨o, n, ho, hc, _, hd⟩, _⟩ := I.list hS
    have hz' : (listText (PyData.shownAll ds)).length ≤ sizeLine := by simpa only [PyData.shown] using S.sz
    obtain ⟨T, idr, SB⟩ := shows_list ho hc hd (tha_rp I ds _ its hA rv (by simpa [PyData.showable] using S.ok) fun t ht => Nat.le_trans (listText_mem_le ht) hz') hz'
    have := S.dp
    exact call_repr_slot (by omega) (SB.typeIs s fun _ _ e => e) SB.slotRepr (SB.call X.A.in1 _ s _ hgu (by show X.A.units + 1 + _ < cLine; omega) (fun _ _ e => e) fun h' u tk hk => ⟨_, _, rfl, fin h' u tk hk⟩)
  | @tup a xs ds hS hA =>
    cases ru
    obtain ⟨its, rv, ⟨o, ho, hc, n, hd⟩, _⟩ := I.tuple hS
    have hz' : (tupleText (PyData.shownAll ds)).length ≤ sizeLine := by simpa only [PyData.shown] using S.sz
    obtain ⟨T, idr, SB⟩ := shows_tuple ho hc hd (tha_rp I ds _ its hA rv (by simpa [PyData.showable] using S.ok) fun t ht => Nat.le_trans (tupleText_mem_le ht) hz') hz'
    have := S.dp
    exact call_repr_slot (by omega) (SB.typeIs s fun _ _ e => e) SB.slotRepr (SB.call X.A.in1 _ s _ hgu (by show X.A.units + 1 + _ < cLine; omega) (fun _ _ e => e) fun h' u tk hk => ⟨_, _, rfl, fin h' u tk hk⟩)
end
end NP
set_option Elab.async false
set_option linter.all false
set_option maxRecDepth 100000
namespace NP
open PySem PySem.Spec PyProof.Rows L2
def TabP (P : Addr) : HO := .ext fun h => ∃ ps : Array Value, h.get? P = some { cls := .none, data := .fields ps } ∧ TriplesOk ps.toList
theorem tab_ok {P : Program} {w : World} {H : Hp} {h : Heap} {T : Addr} {ps : Array Value} (e : h.get? T = some { cls := .none, data := .fields ps }) (t : TriplesOk ps.toList) : ObjOk P w H h T (TabP T) :=
  ⟨⟨ps, e, t⟩, ⟨_, e⟩, fun _ _ ⟨qs, e1, t1⟩ k => ⟨qs, k _ e1, t1⟩⟩
structure CodeB (base : Heap) (mg : Str → Option Value) (c T : Addr) : Prop where
  ne : c ≠ T
  cd : ∃ o vs file tf flags tg inF text tt, base.get? c = some o ∧ o.cls = .type "code" ∧ vs[11]? = some (.ref T) ∧ o.data = .fields vs ∧ vs.getD 11 .none = .ref T ∧ vs.getD 18 .none = .str file tf ∧ vs.getD 7 .none = .int flags tg ∧ vs.getD 9 .none = .bool inF ∧ vs.getD 10 .none = .int text tt
  bm : ∃ bm ob, BMod base mainGlobals mg bm ob

structure Qs (P : Program) (w : World) (K : PySem.W.Frag) (mg : Str → Option Value) (base : Heap) (H : Hp) (s : Shared) : Prop where
  mod : Mod K mg base
  bs : ∀ b o, base.get? b = some o → s.heap.get? b = some o ∧ H b = none
  bsz : base.objs.size ≤ s.heap.objs.size
  hok : HOk P w H s.heap
  fz : ∀ b u, H b = some u → ∃ o u', u = .frz o u'
theorem Qs.tok {P : Program} {w : World} {K : PySem.W.Frag} {mg : Str → Option Value} {base : Heap} {H : Hp} {s : Shared} (q : Qs P w K mg base H s) (tk : Nat) : Qs P w K mg base H { s with toks := tk } := ⟨q.mod, q.bs, q.bsz, q.hok, q.fz⟩
theorem Qs.kIn {P : Program} {w : World} {K : PySem.W.Frag} {mg : Str → Option Value} {base : Heap} {H : Hp} {s : Shared} (q : Qs P w K mg base H s) : K.In s.heap := q.mod.kin.keeps fun b o e => (q.bs b o e).1
/-- a def of few calls leaves a quiet state as it was -/
theorem quiet_call {P : Program} {w : World} {K : PySem.W.Frag} {mg : Str → Option Value} {base : Heap} {H : Hp} {s : Shared} {k : Nat} {f : Addr} {fd : FuncData} {ps : List Str} {sp : Sp} {A : Around} {E : Value → Shared → Prop} {us : List Value} {vs : List V} {r : V}
    (F : FnOk P w K mg base CX0 k f fd ps sp) (hk : k < 10) (hb : Binds K fd ps []) (q : Qs P w K mg base H s) (hr : Room k A) (rv : Vals vs us) (h : sp vs H (fun v _ => v = r) E0) :
    wpAny (model P w) A (call (.ref f) us) (fun u s' => RelV r u ∧ Keeps s s') E s := by
  have hl : us.length = ps.length := by rw [← rv.length]; exact F.len _ _ _ _ h
  have bd := hb s us q.kIn (by rw [List.append_nil]; exact hl)
  rw [List.append_nil] at bd
  refine wpAny_call (codeAny_mono (F.run A [] s H ⟨us, []⟩ us vs _ E0 (fun g d => g = s.gens ∧ d = s.drawn) (fun z => absurd z (by omega)) ⟨rfl, rfl⟩ (fun z => ?_) hr ⟨q.mod, q.bs, q.bsz, trivial, fun b hb => absurd (show b ∈ ([] : List Addr) from hb) (by simp), q.hok⟩ bd rv h) fun res s' hq => ?_)
  · have z1 := ((z #[] { order := 0 }).mpr AllBare.empty).2
    have z2 := ((z #[] { order := 1 }).mpr AllBare.empty).2
    rw [← z2] at z1
    cases z1
  · cases res with
    | error e => exact hq.elim
    | ok fl =>
      cases fl with
      | next => exact hq.elim
      | brk => exact hq.elim
      | cont => exact hq.elim
      | ret u =>
        obtain ⟨v, H', os, ⟨g1, g2⟩, un, hok', r', e⟩ := hq
        obtain rfl : v = r := e
        refine ⟨r', s'.heap, s'.toks, ?_, fun b o eb => ?_⟩
        · obtain ⟨hh, g, d, t, os'⟩ := s'
          obtain rfl : os' = s.os := os
          obtain rfl : g = s.gens := g1
          obtain rfl : d = s.drawn := g2
          rfl
        · cases hb : H b with
          | none => exact un.keep b o eb hb (by intro z; exact absurd (show b ∈ ([] : List Addr) from z) (by simp)) (by simp)
          | some x =>
            obtain ⟨ob, u', rfl⟩ := q.fz b x hb
            obtain ⟨e1, _⟩ := (show ObjOk P w H s.heap b (.frz ob u') from q.hok b _ hb)
            obtain ⟨e2, _⟩ := (show ObjOk P w H' s'.heap b (.frz ob u') from hok' b _ (un.frzs b ob u' hb))
            rw [eb] at e1
            cases e1
            exact e2
theorem keeps_tok {s s' : Shared} {tk : Nat} (h : Keeps { s with toks := tk } s') : Keeps s s' := by
  obtain ⟨h', tk', rfl, k⟩ := h
  exact ⟨h', tk', rfl, k⟩
theorem keeps_refl (s : Shared) : Keeps s s := ⟨s.heap, s.toks, rfl, fun _ _ e => e⟩

def frzH (h : Heap) (H : Hp) : Hp := fun b => match H b with
  | some (.lst xs) => (h.get? b).map fun o => .frz o (.lst xs)
  | some (.tup xs) => (h.get? b).map fun o => .frz o (.tup xs)
  | some (.dK kvs) => (h.get? b).map fun o => .frz o (.dK kvs)
  | some (.frz o u) => if sim u = true then some (.frz o u) else none
  | _ => none
theorem frz_shape {h : Heap} {H : Hp} {b : Addr} {u : HO} (e : frzH h H b = some u) : ∃ o v, u = .frz o v ∧ sim v = true ∧ (H b = some v ∧ h.get? b = some o ∨ H b = some (.frz o v)) := by
  unfold frzH at e
  split at e
  · obtain ⟨o, h1, rfl⟩ := Option.map_eq_some_iff.mp e
    exact ⟨o, _, rfl, rfl, .inl ⟨by assumption, h1⟩⟩
  · obtain ⟨o, h1, rfl⟩ := Option.map_eq_some_iff.mp e
    exact ⟨o, _, rfl, rfl, .inl ⟨by assumption, h1⟩⟩
  · obtain ⟨o, h1, rfl⟩ := Option.map_eq_some_iff.mp e
    exact ⟨o, _, rfl, rfl, .inl ⟨by assumption, h1⟩⟩
  · split at e
    · cases e
      exact ⟨_, _, rfl, by assumption, .inr (by assumption)⟩
    · cases e
  · cases e
theorem frz_none {h : Heap} {H : Hp} {b : Addr} (e : H b = none) : frzH h H b = none := by
  unfold frzH
  rw [e]
theorem frz_le {P : Program} {w : World} {h : Heap} {H : Hp} (hok : HOk P w H h) : RdLe H (frzH h H) := fun a u su hr => by
  rcases hr with e | ⟨o, e⟩
  · have lt := hok.lt e
    cases u with
    | lst xs =>
      obtain ⟨_, its, n, _, e1⟩ := (show ObjOk P w H h a (.lst xs) from hok a _ e)
      refine .inr ⟨{ cls := .type "list", data := .seq its.toArray n }, ?_⟩
      unfold frzH; rw [e]; show (h.get? a).map _ = _; rw [e1]; rfl
    | tup xs =>
      obtain ⟨_, its, _, o, e1, _⟩ := (show ObjOk P w H h a (.tup xs) from hok a _ e)
      refine .inr ⟨o, ?_⟩
      unfold frzH; rw [e]; show (h.get? a).map _ = _; rw [e1]; rfl
    | dK kvs =>
      obtain ⟨_, _, vs, _, o, es, ep, e1, _⟩ := (show ObjOk P w H h a (.dK kvs) from hok a _ e)
      refine .inr ⟨o, ?_⟩
      unfold frzH; rw [e]; show (h.get? a).map _ = _; rw [e1]; rfl
    | _ => cases su
  · refine .inr ⟨o, ?_⟩
    unfold frzH
    rw [e]
    show (if sim u = true then _ else _) = _
    rw [if_pos su]
/-- such a description holds on where the objects stay -/
theorem frz_ok {P : Program} {w : World} {h h' : Heap} {H : Hp} (hok : HOk P w H h) (k : ∀ b o u, frzH h H b = some u → h.get? b = some o → h'.get? b = some o) : HOk P w (frzH h H) h' := fun b u e => by
  obtain ⟨o, v, rfl, sv, hh⟩ := frz_shape e
  have key : ObjOk P w H h b v ∧ h.get? b = some o := by
    rcases hh with ⟨e1, e2⟩ | e1
    · exact ⟨hok b _ e1, e2⟩
    · obtain ⟨e2, e3⟩ := (show ObjOk P w H h b (.frz o v) from hok b _ e1)
      exact ⟨e3, e2⟩
  obtain ⟨ov, eo⟩ := key
  have go : ∀ x, h.get? b = some x → h'.get? b = some x := fun x ex => k b x _ e ex
  refine ⟨go _ eo, ?_⟩
  cases v with
  | lst xs => obtain ⟨z, its, n, r, e1⟩ := ov; exact ⟨z, its, n, r, go _ e1⟩
  | tup xs => obtain ⟨z, its, r, ob, e1, c⟩ := ov; exact ⟨z, its, r, ob, go _ e1, c⟩
  | dK kvs => obtain ⟨z, y, vs, r, ob, es, ep, e1, c⟩ := ov; exact ⟨z, y, vs, r, ob, es, ep, go _ e1, c⟩
  | _ => cases sv
theorem passing_all (n : Nat) : passing (fun _ => true) n 0 = List.range n := by
  unfold passing
  rw [List.drop_zero]
  exact List.filter_eq_self.mpr fun _ _ => rfl

def tAllGen (K : PySem.W.Frag) (T : Addr) (R : L2.St → Hp → V → Bool → Prop) (ts : TE) : TE := fun σ H Q => ts σ H fun v H1 => ∃ (a : Addr) (xs : List V) (bs : List Bool), v = .ref a ∧ (SqT K H1 a xs ∨ SqL K H1 a xs) ∧ H1 T = some (TabP T) ∧ bs.length = xs.length ∧
  (∀ (i : Nat) (y : V), xs[i]? = some y → ∃ b, bs[i]? = some b ∧ R σ H1 y b) ∧ Q (.bl (bs.all id)) H1
section
variable {X : Cx} {x : Str} {px p pos gpos : Pos} {elt iter : Expr} {scope : Scope} {ts : TE} {c T : Addr} {R : L2.St → Hp → V → Bool → Prop} {cl : List (Str × Addr)}
/-- the values of names that stand in cells -/
def FreeV (X : Cx) (σ : L2.St) (h : Heap) : Prop := ∀ (i : Nat) (y : Str) (v : V), X.N[i]? = some y → σ[i]? = some (some v) → Vis X.env.scope y → (X.env.kindOf y = some .cell ∨ X.env.kindOf y = some .free) → ∃ u k, RelV v u ∧ X.env.cells.lookup y = some k ∧ h.IsCell k (some u)
theorem pe_allGenF (hall : X.mg "all" = none) (hg : Gl X "all") (hgp : ∀ g d, X.gp g d ↔ AllBare g) (hcalm : X.calm = true) (hroom : X.A.depth < recursionLimit) (hit : PE X iter ts) (hcode : X.env.code = .ref c) (hcb : CodeB X.base X.mg c T)
    (hR : ∀ (σ : L2.St) (H H' : Hp) (y : V) (b : Bool), RdLe H H' → R σ H y b → R σ H' y b)
    (helt : ∀ (σ : L2.St) (code : Value) (C : Addr) (A' : Around) (E' : Value → Shared → Prop) (s2 : Shared) (m2 : Str → Option Value) (H : Hp) (y : V) (v : Value) (b : Bool), A'.handled = none → A'.depth ≤ X.A.depth + 1 → A'.units ≤ X.A.units + 8 → Qs X.prog X.w X.K X.mg X.base H s2 →
      s2.heap.Ns C m2 → m2 x = some v → RelV y v → FreeV X σ s2.heap → R σ H y b → wpAny (model X.prog X.w) A' (eval elt (genEnv scope cl C code builtinsNs X.env)) (fun u s3 => u = .bool b ∧ Keeps s2 s3) E' s2)
    (hco : scope.isCoroutine = false := by rfl) (hclos : closureFor scope X.env = pure cl := by rfl) (hcell : ∀ y ∈ scope.names, y.2 ≠ .cell := by decide) (h0 : scope.names.lookup (".0" : Str) = some NameKind.local := by rfl)
    (hx : scope.names.lookup x = some .local := by rfl) (hkind : scope.kind = .function := by rfl) (hfold : ∀ x, genFold iter X.env x = pure x := by intro _; rfl)
    (he : starEach [.GeneratorExp elt [⟨.Name x px, iter, [], 0⟩] scope gpos] X.env = (false, eval (.GeneratorExp elt [⟨.Name x px, iter, [], 0⟩] scope gpos) X.env) :: starEach [] X.env := by rfl) (hpl : (backTo pos (starEach [] X.env)).any (·.1) = false := by rfl) :
    PE X (.Call (.Name "all" p) [.GeneratorExp elt [⟨.Name x px, iter, [], 0⟩] scope gpos] [] pos) (tAllGen X.K T R ts) := by
  intro pins s σ H Q I h
  have hh := I.ok.hd hcalm
  refine wpAny_Call_Name_kw (ld_blt I hg hall boot_all ?_ (by decide) (by decide))
  refine PyProof.Rows.callWith_builtin1 ?_ he hpl
  rw [he]
  show wpAny _ _ (spliced ((false, eval (.GeneratorExp elt [⟨.Name x px, iter, [], 0⟩] scope gpos) X.env) :: backTo pos (starEach [] X.env))) _ _ s
  refine Calls.spliced_cons ?_
  refine wpAny_GeneratorExp_walksQD (cl := cl) hh hco hclos hcell h0 hx hkind hroom (thn (hit pins s σ H _ I h) fun u s1 ⟨v, H1, I1, rv, q1⟩ => ?_) hfold
  obtain ⟨a, xs, bs, rfl, hsq, hT, hbl, hbs, q⟩ := q1
  obtain rfl : u = Value.ref a := rv
  have src : ∃ (o : Obj) (its : List Value) (ax : Addr) (St0 : Nat → Heap → Prop), Vals xs its ∧ ax < s1.heap.objs.size ∧ ax ≠ T ∧
      (∀ (Q' : Value → Shared → Prop) (E' : Value → Shared → Prop), Q' (.ref s1.heap.objs.size) { s1 with heap := s1.heap.push o } → wpAny (model X.prog X.w) X.A (pyIter (.ref a)) Q' E' s1) ∧
      (∀ A' : Around, A'.handled = none → Walks X.prog X.w A' s1.heap.objs.size [s1.heap.objs.size, ax] [s1.heap.objs.size] its.toArray.size (fun i v => its.toArray[i]? = some v) St0) ∧ St0 0 (s1.heap.push o) ∧ ∃ o2, (s1.heap.push o).get? s1.heap.objs.size = some o2 := by
    obtain ⟨psT, eT, tT⟩ := (show ObjOk X.prog X.w H1 s1.heap T (TabP T) from I1.hok T _ hT).1
    rcases hsq with hsq | hsq
    · obtain ⟨its, r, ht, _⟩ := I1.tuple hsq
      have ht' : s1.heap.IsTuple a its.toArray := ht
      have lt : a < s1.heap.objs.size := ht.lt
      refine ⟨_, its, a, _, r, lt, fun e => ?_, fun Q' E' hq => wpAny_pyIter_tuple ht' hq, fun A' hA => Walks.tuple hA _ _ (Nat.ne_of_lt lt) _, ⟨⟨_, Heap.get?_push_size _ rfl, rfl, rfl⟩, ht'.push _⟩, _, Heap.get?_push_size _ rfl⟩
      obtain ⟨ob, e1, e2, _⟩ := ht
      rw [e, eT] at e1
      cases e1
      cases e2
    · obtain ⟨its, r, ⟨ob, n, e1, e2, e3, e4⟩, _⟩ := I1.list hsq
      have hl : s1.heap.IsList a its.toArray := ⟨ob, e1, e2, n, e4⟩
      have lt : a < s1.heap.objs.size := Heap.lt_size e1
      refine ⟨_, its, a, _, r, lt, fun e => ?_, fun Q' E' hq => wpAny_pyIter_list hl hq, fun A' hA => Walks.list hA _ _ (Nat.ne_of_lt lt) _, ⟨⟨_, Heap.get?_push_size _ rfl, rfl, rfl⟩, hl.push _⟩, _, Heap.get?_push_size _ rfl⟩
      rw [e, eT] at e1
      cases e1
      cases e2
  obtain ⟨o, its, ax, St0, rits, axlt, axT, hiter, W, hst, o2, e2⟩ := src
  refine hiter _ _ ?_
  obtain ⟨psT, eT, tT⟩ := (show ObjOk X.prog X.w H1 s1.heap T (TabP T) from I1.hok T _ hT).1
  obtain ⟨oc, vs, file, tf, flags, tg, inF, text, tt, r1, rc, rv, r2, r3, r4, r5, r6, r7⟩ := hcb.cd
  have Tlt : T < s1.heap.objs.size := Heap.lt_size eT
  have lim2 : (s1.heap.push o).NoLimit := I1.nolimit.push _
  have csT : cStatics ≠ T := fun e => by
    obtain ⟨_, ⟨ob, es, ep, z1, z2, _⟩, _⟩ := I1.nolimit
    rw [e, eT] at z1
    cases z1
    cases z2
  have cslt : cStatics < s1.heap.objs.size := let ⟨_, hn, _⟩ := I1.nolimit; hn.lt
  have bT : ∀ b o', X.base.get? b = some o' → b ≠ T := fun b o' e z => by
    have := (I1.bs b o' e).2
    rw [z, hT] at this
    cases this
  obtain ⟨bm, ob, M⟩ := hcb.bm
  -- behind the code is found or made
  have core : ∀ (code : Value) (h3 : Heap) (tk3 : Nat) (ps3 : Array Value), (∀ b o', b ≠ T → (s1.heap.push o).get? b = some o' → h3.get? b = some o') → h3.get? T = some { cls := .none, data := .fields ps3 } → TriplesOk ps3.toList →
      wpAny (model X.prog X.w) X.A (builtinsFor X.env.globals X.env.builtins) (fun bi s4 => bi = builtinsNs ∧ s4 = { s1 with heap := h3, toks := tk3 } ∧ h3.NoLimit ∧ St0 0 h3 ∧ s1.heap.objs.size < h3.objs.size) X.xe { s1 with heap := h3, toks := tk3 } := by
    intro code h3 tk3 ps3 ext e3 t3
    have M3 : BMod h3 X.env.globals X.mg bm ob := by
      rw [I.ok.glob]
      exact M.keeps fun b o' e => ext b o' (bT b o' e) (Heap.get?_push_of_some _ (I1.bk b o' e))
    refine wpAny_builtinsFor M3.ns M3.name M3.ne M3.obj M3.cls M3.dict M3.data ⟨rfl, rfl, lim2.extBut ext csT, (W X.A hh).frame _ _ _ hst fun b hb o' e => ext b o' ?_ e, Heap.lt_size (ext _ o2 (Nat.ne_of_gt Tlt) e2)⟩
    rcases List.mem_cons.mp hb with z | hb
    · rw [z]; exact Nat.ne_of_gt Tlt
    · rcases List.mem_cons.mp hb with z | hb
      · rw [z]; exact axT
      · cases hb
  have done : ∀ (code : Value) (h3 : Heap) (tk3 : Nat) (ps3 : Array Value) (ext : ∀ b o', b ≠ T → (s1.heap.push o).get? b = some o' → h3.get? b = some o') (e3 : h3.get? T = some { cls := .none, data := .fields ps3 }) (t3 : TriplesOk ps3.toList) (lim3 : h3.NoLimit) (st3 : St0 0 h3) (sz3 : s1.heap.objs.size < h3.objs.size),
      (∀ href : Heap, (∀ b o, h3.get? b = some o → href.get? b = some o) →
        QuietGenD X.prog X.w (genEnv scope cl h3.objs.size code builtinsNs X.env) x [] elt (List.range h3.objs.size) [s1.heap.objs.size] (fun i v => its.toArray[i]? = some v) (fun _ => true) (fun i y => y = Value.bool (bs.getD i false)) href (X.A.depth + 1) (X.A.units + 8)) ∧
      (∀ (g : Addr) (s5 s' : Shared), s5.os = s1.os → AllBare s5.gens → (∀ b o, h3.get? b = some o → s5.heap.get? b = some o) → Moved [h3.objs.size, s1.heap.objs.size] (GenOnlyQ s1.gens.size) s5 s' → Inv X pins σ H1 s') := by
    intro code h3 tk3 ps3 ext e3 t3 lim3 st3 sz3
    have k3 : ∀ b o', b ≠ T → s1.heap.get? b = some o' → h3.get? b = some o' := fun b o' hb e => ext b o' hb (Heap.get?_push_of_some _ e)
    refine ⟨fun href hk => ⟨fun A' E' i v s2 m2 _ _ _ _ _ _ _ => ?_, fun A' E' i v s2 m2 hA hd hu hP _ hn hm hkeep => ?_⟩, fun g s5 s' ho hb k5 mv => ?_⟩
    · exact wpAny_pure ⟨rfl, keeps_refl _⟩
    · have hiv : its[i]? = some v := by simpa using hP
      have hil : i < xs.length := by rw [rits.length]; exact (List.getElem?_eq_some_iff.mp hiv).1
      obtain ⟨u', e', ru⟩ := rits.get (List.getElem?_eq_getElem hil)
      rw [hiv] at e'
      cases e'
      obtain ⟨b, eb, hRb⟩ := hbs i _ (List.getElem?_eq_getElem hil)
      have s2lt : h3.objs.size < s2.heap.objs.size := hn.lt
      have k2 : ∀ b o', b ≠ T → s1.heap.get? b = some o' → s2.heap.get? b = some o' := fun b o' hb e => by
        have lt := Heap.lt_size e
        exact hkeep b (List.mem_range.mpr (Nat.lt_trans lt sz3)) (fun z => Nat.ne_of_lt lt (List.mem_singleton.mp z)) o' (hk _ _ (k3 b o' hb e))
      have qs : Qs X.prog X.w X.K X.mg X.base (frzH s1.heap H1) s2 := ⟨I1.ok.mod, fun b o' e => ⟨k2 b o' (bT b o' e) (I1.bk b o' e), frz_none (I1.bs b o' e).2⟩, Nat.le_trans (Nat.le_trans I1.ok.bsz I1.sz) (Nat.le_of_lt (Nat.lt_trans sz3 s2lt)),
        frz_ok I1.hok fun b o' u ef e => k2 b o' (fun z => by
          obtain ⟨o3, v3, _, sv, hh3⟩ := frz_shape ef
          rw [z, hT] at hh3
          rcases hh3 with ⟨z1, _⟩ | z1
          · cases z1; cases sv
          · cases z1) e, fun b u ef => let ⟨o3, v3, e3, _⟩ := frz_shape ef; ⟨o3, v3, e3⟩⟩
      have fv : FreeV X σ s2.heap := fun i y v e1 e2 e3 e4 => by
        obtain ⟨m, _, hloc⟩ := I1.loc
        obtain ⟨u, ru, lk⟩ := hloc i y v e1 e2 e3
        rcases lk with ⟨kk, _⟩ | ⟨_, k, ek, ok, eo, ed⟩
        · rcases e4 with z | z <;> (rw [kk] at z; cases z)
        · refine ⟨u, k, ru, ek, ok, k2 k ok (fun z => ?_) eo, ed⟩
          rw [z, eT] at eo
          cases eo
          cases ed
      refine wpAny_mono (helt σ code h3.objs.size A' E' s2 m2 _ _ v b hA hd hu qs hn hm ru fv (hR _ _ _ _ _ (frz_le I1.hok) hRb)) (fun r s3 hr => ⟨?_, hr.2⟩) fun _ _ e => e
      rw [hr.1, List.getD_eq_getElem?_getD, eb]
      rfl
    · have kk : ∀ b o', b ≠ T → s1.heap.get? b = some o' → s'.heap.get? b = some o' := fun b o' hb e => by
        have lt := Heap.lt_size e
        refine mv.heap b o' (fun z => ?_) (k5 b o' (k3 b o' hb e))
        rcases List.mem_cons.mp z with z | z
        · exact absurd (z ▸ Nat.lt_trans lt sz3) (Nat.lt_irrefl _)
        · exact Nat.ne_of_lt lt (List.mem_singleton.mp z)
      have eT' : s'.heap.get? T = some { cls := .none, data := .fields ps3 } := by
        refine mv.heap T _ (fun z => ?_) (k5 T _ e3)
        rcases List.mem_cons.mp z with z | z
        · exact absurd (z ▸ Nat.lt_trans Tlt sz3) (Nat.lt_irrefl _)
        · exact Nat.ne_of_lt Tlt (List.mem_singleton.mp z)
      have nT : ∀ b, H1 b = none → b ≠ T := fun b n z => by rw [z, hT] at n; cases n
      refine I1.call' (ch := []) (mv.os.trans ho) ⟨fun b o' e n _ _ => kk b o' (nT b n) e, fun b o' e n _ _ => ⟨o'.slots, kk b o' (nT b n) e⟩, fun _ _ _ n _ => n, fun b o' e _ => ?_, fun _ _ q => q, fun _ _ _ q => q, fun b ps q => ⟨#[], by rw [q]; simp⟩⟩ (fun b u e => ?_) ((hgp _ _).mpr (hb.movedS mv)) fun b z => by cases z
      · by_cases z : b = T
        · rw [z]; exact ⟨_, eT'⟩
        · exact ⟨o', kk b o' z e⟩
      · by_cases z : b = T
        · rw [z] at e ⊢
          rw [hT] at e
          cases e
          exact tab_ok eT' t3
        · refine (I1.hok b u e).stay (fun b' u' hb' q => kk b' u' ?_ q) (fun _ q => q) fun _ _ q => q
          rcases hb' with z' | z'
          · rw [z']; exact z
          · intro z''
            rw [z'', hT] at z'
            cases z'
  have ic : (s1.heap.push o).IsCode c T psT := ⟨oc, vs, file, tf, flags, tg, inF, text, tt, _, Heap.get?_push_of_some _ (I1.bk c oc r1), r2, r3, r4, r5, r6, r7, Heap.get?_push_of_some _ eT, rfl, tT, hcb.ne⟩
  have gc : wpAny (model X.prog X.w) X.A (genexprCode X.env gpos (X.env.qual ++ "<genexpr>") scope) (fun _ s3 => ∃ h3 tk3 ps3, s3 = { s1 with heap := h3, toks := tk3 } ∧ (∀ b o', b ≠ T → (s1.heap.push o).get? b = some o' → h3.get? b = some o') ∧
      h3.get? T = some { cls := .none, data := .fields ps3 } ∧ TriplesOk ps3.toList) X.xe { s1 with heap := s1.heap.push o } := by
    cases hca : codeAmong gpos psT.toList with
    | some c' => exact wpAny_genexprCode_hit hcode ic hca ⟨s1.heap.push o, s1.toks, psT, rfl, fun _ _ _ e => e, Heap.get?_push_of_some _ eT, tT⟩
    | none =>
      refine wpAny_genexprCodeX hcode ic ⟨⟨oc, vs, Heap.get?_push_of_some _ (I1.bk c oc r1), rc, r2, rv⟩, Heap.get?_push_of_some _ eT⟩ hca fun c' h' tk ext _ _ ic' _ tb _ => ?_
      obtain ⟨_, _, _, _, _, _, _, _, _, op, _, _, _, _, _, _, _, z1, z2, z3, _⟩ := ic'
      exact ⟨h', tk, _, rfl, ext, tb.2, z3⟩
  refine ⟨lim2, thn gc fun code s3 ⟨h3, tk3, ps3, es, ext, e3, t3⟩ => ?_⟩
  subst es
  refine thn (core code h3 tk3 ps3 ext e3 t3) fun bi s4 ⟨eb, e4, lim3, st3, sz3⟩ => ?_
  subst eb
  subst e4
  obtain ⟨qg, after⟩ := done code h3 tk3 ps3 ext e3 t3 lim3 st3 sz3
  refine ⟨s1.heap.objs.size, [s1.heap.objs.size, ax], [s1.heap.objs.size], its.toArray.size, _, St0, fun _ => true, _, rfl, W, st3, fun b hb => ?_, lim3, fun z => Nat.ne_of_lt cslt (List.mem_singleton.mp z), qg, fun g h5 tk gs hgb hlt hsz hk5 WS GA => ?_⟩
  · rcases List.mem_cons.mp hb with z | hb
    · rw [z]; exact sz3
    · rcases List.mem_cons.mp hb with z | hb
      · rw [z]; exact Nat.lt_trans axlt sz3
      · cases hb
  · refine Calls.spliced_nil ?_
    have WS1 := WS.in4_1
    refine call_all_walkS (WS1.self 0 _ _ _ GA ⟨g, _, _, _, _, _, _, fun j => bs.getD j false, rfl, WS1, GA, ?_, fun s' mv => ?_⟩)
    · rintro j v s' Q' E' ⟨i', hi', hv⟩ hq
      rw [passing_all] at hi'
      have : i' = j := by
        have lt := (List.getElem?_eq_some_iff.mp hi').1
        rw [List.getElem?_eq_getElem lt, List.getElem_range] at hi'
        exact (Option.some.inj hi').symm
      subst this
      rw [hv]
      exact wpAny_truthy_bool hq
    · refine ⟨.bl (bs.all id), H1, after g { s1 with heap := h5, toks := tk, gens := s1.gens.push gs } s' rfl (((hgp _ _).mp I1.bare).push hgb) hk5 mv, ?_, q⟩
      show Value.bool _ = Value.bool _
      rw [passing_all, List.length_range, List.size_toArray, ← rits.length, ← hbl, L2.all_range]
/-- the same where the element leans on no name of the def -/
theorem pe_allGen {R : Hp → V → Bool → Prop} (hall : X.mg "all" = none) (hg : Gl X "all") (hgp : ∀ g d, X.gp g d ↔ AllBare g) (hcalm : X.calm = true) (hroom : X.A.depth < recursionLimit) (hit : PE X iter ts) (hcode : X.env.code = .ref c) (hcb : CodeB X.base X.mg c T)
    (hR : ∀ (H H' : Hp) (y : V) (b : Bool), RdLe H H' → R H y b → R H' y b)
    (helt : ∀ (code : Value) (C : Addr) (A' : Around) (E' : Value → Shared → Prop) (s2 : Shared) (m2 : Str → Option Value) (H : Hp) (y : V) (v : Value) (b : Bool), A'.handled = none → A'.depth ≤ X.A.depth + 1 → A'.units ≤ X.A.units + 8 → Qs X.prog X.w X.K X.mg X.base H s2 →
      s2.heap.Ns C m2 → m2 x = some v → RelV y v → R H y b → wpAny (model X.prog X.w) A' (eval elt (genEnv scope [] C code builtinsNs X.env)) (fun u s3 => u = .bool b ∧ Keeps s2 s3) E' s2)
    (hco : scope.isCoroutine = false := by rfl) (hclos : closureFor scope X.env = pure [] := by rfl) (hcell : ∀ y ∈ scope.names, y.2 ≠ .cell := by decide) (h0 : scope.names.lookup (".0" : Str) = some NameKind.local := by rfl)
    (hx : scope.names.lookup x = some .local := by rfl) (hkind : scope.kind = .function := by rfl) (hfold : ∀ x, genFold iter X.env x = pure x := by intro _; rfl)
    (he : starEach [.GeneratorExp elt [⟨.Name x px, iter, [], 0⟩] scope gpos] X.env = (false, eval (.GeneratorExp elt [⟨.Name x px, iter, [], 0⟩] scope gpos) X.env) :: starEach [] X.env := by rfl) (hpl : (backTo pos (starEach [] X.env)).any (·.1) = false := by rfl) :
    PE X (.Call (.Name "all" p) [.GeneratorExp elt [⟨.Name x px, iter, [], 0⟩] scope gpos] [] pos) (tAllGen X.K T (fun _ => R) ts) :=
  pe_allGenF hall hg hgp hcalm hroom hit hcode hcb (fun _ => hR) (fun σ code C A' E' s2 m2 H y v b h1 h2 h3 h4 h5 h6 h7 _ h8 => helt code C A' E' s2 m2 H y v b h1 h2 h3 h4 h5 h6 h7 h8) hco hclos hcell h0 hx hkind hfold he hpl
end
end NP
set_option Elab.async false
set_option linter.all false
set_option maxRecDepth 100000
namespace NP
open PySem PySem.Spec PyProof.Rows L2
def TabOf (h : Heap) (mg : Str → Option Value) (n : Str) (c : Addr) : Prop := ∃ (a : Addr) (o : Obj) (fd : FuncData), mg n = some (.ref a) ∧ h.get? a = some o ∧ o.data = .func fd ∧ fd.code = .ref c
def startH (own : Bool) (a : Addr) (sc : HO) (tabs : List (Addr × Addr)) : Hp := fun b => if b = a then (if own then none else some sc) else if b ∈ tabs.map (·.2) then some (TabP b) else none
theorem law_callT {P : Program} {w : World} {K : PySem.W.Frag} {mg mb : Str → Option Value} {k : Nat} {fa a : Addr} {fd : FuncData} {x : Str} {sp : Sp} {s1 : Shared} {vs : List Value} {ns : List Int} {tabs : List (Addr × Addr)}
    (KX : K.In s1.heap) (hns : s1.heap.Ns mainGlobals mg) (hb : s1.heap.Ns builtinsNs mb) (hbb : ∀ x : Str, x ≠ "__name__" → mb x = bootBuiltins x) (hlim : s1.heap.NoLimit) (hg : s1.gens = #[]) (bmod : ∃ bm ob, BMod s1.heap mainGlobals mg bm ob)
    (kc : PySem.W.kb_classed K = true) (ha : s1.heap.get? a = some { cls := .type "list", data := .seq vs.toArray }) (hi : IntsAre vs ns) (hl : ns.length ≤ sizeLine) (hr : Room k callerA)
    (ht : ∀ p ∈ tabs, s1.heap.IsCode p.1 p.2 #[] ∧ s1.heap.TableAt p.1 p.2 #[])
    (F : ∀ base : Heap, K.In base → base.Ns mainGlobals mg → (∀ p ∈ tabs, CodeB base mg p.1 p.2) → FnOk P w K mg base CX0 k fa fd [x] sp) (hbind : ∀ (s : Shared) (u : Value), BindsTo s fd ⟨[u], []⟩ [(x, u)])
    (hsp : ∀ H : Hp, SqL K H a (ns.map V.int) → (∀ p ∈ tabs, H p.2 = some (TabP p.2)) → sp [.ref a] H (fun v H' => v = .bl true ∧ ∀ p ∈ tabs, H' p.2 = some (TabP p.2)) E0) :
    codeAny (model P w) callerA (.call (.ref fa) ⟨[.ref a], []⟩) (fun r s' => r = .ok (.ret (.bool true)) ∧ OldK s1.heap s'.heap ∧ s'.os = s1.os ∧ AllBare s'.gens) s1 := by
  have rv := vals_ints hi
  have lenV := hi.length
  have tabO : ∀ T, T ∈ tabs.map (·.2) → s1.heap.get? T = some { cls := .none, data := .fields #[] } := fun T hT => by
    obtain ⟨p, hp, rfl⟩ := List.mem_map.mp hT
    exact (ht p hp).2.2
  have tabA : ∀ T, T ∈ tabs.map (·.2) → T ≠ a := fun T hT e => by
    have := tabO T hT
    rw [e, ha] at this
    cases this
  have noDict : ∀ {b : Addr} {m : Str → Option Value}, s1.heap.Ns b m → b ≠ a ∧ b ∉ tabs.map (·.2) := fun {b m} ⟨o, es, ep, e, d, _⟩ => by
    refine ⟨fun z => ?_, fun z => ?_⟩
    · rw [z, ha] at e; cases e; cases d
    · rw [tabO b z] at e; cases e; cases d
  have tabK : ∀ T, T ∈ tabs.map (·.2) → K.lookup T = none := fun T hT => by
    cases e : K.lookup T with
    | none => rfl
    | some o =>
      have eo := KX T o e
      rw [tabO T hT] at eo
      cases eo
      have q := List.all_eq_true.mp kc (T, _) (PySem.W.kb_mem e)
      simp only [Bool.or_eq_true, beq_iff_eq] at q
      rcases q with (q | q) | q
      · simp at q
      · obtain ⟨m, hn, _⟩ := hlim
        exact absurd hT (by rw [show T = cStatics from q]; exact (noDict hn).2)
      · exact absurd hT (by rw [show T = mainGlobals from q]; exact (noDict hns).2)
  let sc : HO := .frz { cls := .type "list", data := .seq vs.toArray } (.lst (ns.map V.int))
  have core : ∀ own : Bool, (own = true → (K.lookup a).isSome = true) → (own = false → K.lookup a = none) →
      codeAny (model P w) callerA (.call (.ref fa) ⟨[.ref a], []⟩) (fun r s' => r = .ok (.ret (.bool true)) ∧ OldK s1.heap s'.heap ∧ s'.os = s1.os ∧ AllBare s'.gens) s1 := by
    intro own ho1 ho2
    have Ha : startH own a sc tabs a = if own then none else some sc := if_pos rfl
    have HT : ∀ T, T ∈ tabs.map (·.2) → startH own a sc tabs T = some (TabP T) := fun T hT => by
      unfold startH
      rw [if_neg (tabA T hT), if_pos hT]
    have H0 : ∀ b, b ≠ a → b ∉ tabs.map (·.2) → startH own a sc tabs b = none := fun b h1 h2 => by
      unfold startH
      rw [if_neg h1, if_neg h2]
    have shape : ∀ b u, startH own a sc tabs b = some u → (b = a ∧ own = false ∧ u = sc) ∨ (b ∈ tabs.map (·.2) ∧ u = TabP b) := fun b u e => by
      by_cases h1 : b = a
      · subst h1
        rw [Ha] at e
        cases own with
        | true => cases e
        | false => exact .inl ⟨rfl, rfl, (Option.some.inj e).symm⟩
      · by_cases h2 : b ∈ tabs.map (·.2)
        · rw [HT b h2] at e
          exact .inr ⟨h2, (Option.some.inj e).symm⟩
        · rw [H0 b h1 h2] at e
          cases e
    have kH : ∀ b o, K.lookup b = some o → startH own a sc tabs b = none := fun b o e => by
      cases q : startH own a sc tabs b with
      | none => rfl
      | some u =>
        rcases shape b u q with ⟨rfl, z, _⟩ | ⟨z, _⟩
        · rw [ho2 z] at e; cases e
        · rw [tabK b z] at e; cases e
    have nsK : ∀ {b : Addr} {m : Str → Option Value}, s1.heap.Ns b m → (hidT s1.heap (startH own a sc tabs)).Ns b m := fun {b m} h => by
      obtain ⟨n1, n2⟩ := noDict h
      obtain ⟨o, es, ep, e, d, r⟩ := h
      exact ⟨o, es, ep, hidT_get e (H0 b n1 n2), d, r⟩
    have hKb : K.In (hidT s1.heap (startH own a sc tabs)) := fun b o e => hidT_get (KX b o e) (kH b o e)
    have hM : Mod K mg (hidT s1.heap (startH own a sc tabs)) := ⟨hKb, nsK hns, ⟨mb, nsK hb, hbb⟩, let ⟨mc, h1, h2⟩ := hlim; ⟨mc, nsK h1, h2⟩⟩
    have hok : HOk P w (startH own a sc tabs) s1.heap := fun b u e => by
      rcases shape b u e with ⟨rfl, _, rfl⟩ | ⟨z, rfl⟩
      · exact ⟨ha, by rw [List.length_map]; exact hl, vs, _, rv, ha⟩
      · exact tab_ok (tabO b z) trivial
    have hS : SqL K (startH own a sc tabs) a (ns.map V.int) := by
      cases own with
      | false => exact .inl (.inr ⟨_, Ha⟩)
      | true =>
        obtain ⟨o, e⟩ := Option.isSome_iff_exists.mp (ho1 rfl)
        have eo := KX a o e
        rw [ha] at eo
        cases eo
        exact .inr ⟨_, vs.toArray, _, e, rfl, rfl, rfl, by rw [List.size_toArray, lenV]; exact hl, by simpa using rv⟩
    have hTt : ∀ p ∈ tabs, startH own a sc tabs p.2 = some (TabP p.2) := fun p hp => HT p.2 (List.mem_map.mpr ⟨p, hp, rfl⟩)
    have hC : ∀ p ∈ tabs, CodeB (hidT s1.heap (startH own a sc tabs)) mg p.1 p.2 := fun p hp => by
      obtain ⟨⟨o, vs', file, tf, flags, tg, inF, text, tt, op, e1, e2, e3, e4, e5, e6, e7, _, _, _, ne⟩, ⟨⟨o', vs2, f1, f2, f3, f4⟩, _⟩⟩ := ht p hp
      rw [e1] at f1
      cases f1
      rw [e2] at f3
      cases f3
      have nt : p.1 ∉ tabs.map (·.2) := fun z => by
        rw [tabO _ z] at e1; cases e1; cases f2
      have na : p.1 ≠ a := fun z => by
        rw [z, ha] at e1; cases e1; exact absurd (show Value.type "list" = Value.type "code" from f2) (by decide)
      refine ⟨ne, ⟨o, vs', file, tf, flags, tg, inF, text, tt, hidT_get e1 (H0 _ na nt), f2, f4, e2, e3, e4, e5, e6, e7⟩, ?_⟩
      obtain ⟨bm, ob, M⟩ := bmod
      refine ⟨bm, ob, nsK hns, M.name, M.ne, hidT_get M.obj (H0 _ (fun z => ?_) fun z => ?_), M.cls, M.dict, M.data⟩
      · have := M.obj
        rw [z, ha] at this
        cases this
        exact absurd (show Value.type "list" = Value.type "module" from M.cls) (by decide)
      · have := M.obj
        rw [tabO _ z] at this
        cases this
        cases M.cls
    have e0 : Env0 P w K mg (hidT s1.heap (startH own a sc tabs)) callerA [] s1 (startH own a sc tabs) := ⟨hM, fun b o e => of_hidT e, Nat.le_of_eq (hidT_size _ _), trivial, fun b hb => absurd (show b ∈ ([] : List Addr) from hb) (by simp), hok⟩
    refine codeAny_mono ((F _ hKb (nsK hns) hC).run callerA [] s1 _ ⟨[.ref a], []⟩ [.ref a] [.ref a] _ _ (fun g _ => AllBare g) (fun _ _ _ => Iff.rfl) (.of_eq hg) (fun _ => ⟨rfl, rfl⟩) hr e0 (hbind s1 (.ref a)) (.cons rfl .nil) (hsp _ hS hTt)) fun r s' h => ?_
    cases r with
    | error e => exact h.elim
    | ok fl =>
      cases fl with
      | next => exact False.elim h
      | brk => exact False.elim h
      | cont => exact False.elim h
      | ret u =>
        obtain ⟨v, H', os, bare, un, hok', r', q, qt⟩ := h
        subst q
        obtain rfl : u = Value.bool true := r'
        have kept : ∀ b o, s1.heap.get? b = some o → b ∉ tabs.map (·.2) → s'.heap.get? b = some o := fun b o e nt => by
          cases q : startH own a sc tabs b with
          | none => exact un.keep b o e q (by intro z; exact absurd (show b ∈ ([] : List Addr) from z) (by simp)) (by simp)
          | some u =>
            rcases shape b u q with ⟨rfl, _, rfl⟩ | ⟨z, _⟩
            · obtain ⟨e2, _⟩ := (show ObjOk P w H' s'.heap b sc from hok' b _ (un.frzs b _ _ q))
              rw [ha] at e
              cases e
              exact e2
            · exact absurd z nt
        have tabs' : ∀ p ∈ tabs, ∃ ps, s'.heap.get? p.2 = some { cls := .none, data := .fields ps } := fun p hp => by
          obtain ⟨⟨ps, e, _⟩, _⟩ := (show ObjOk P w H' s'.heap p.2 (TabP p.2) from hok' _ _ (qt p hp))
          exact ⟨ps, e⟩
        refine ⟨rfl, ⟨fun b o e => ?_, fun b o e => ?_⟩, os, bare⟩
        · by_cases nt : b ∈ tabs.map (·.2)
          · obtain ⟨p, hp, rfl⟩ := List.mem_map.mp nt
            obtain ⟨ps, e'⟩ := tabs' p hp
            have e2 := tabO _ nt
            rw [e2] at e
            cases e
            exact .inr (.inl ⟨(ht p hp).2.isCodeTable, rfl, #[], ps, rfl, by rw [e']; simp⟩)
          · exact .inl (kept b o e nt)
        · by_cases nt : b ∈ tabs.map (·.2)
          · obtain ⟨p, hp, rfl⟩ := List.mem_map.mp nt
            obtain ⟨ps, e'⟩ := tabs' p hp
            exact ⟨_, e'⟩
          · exact ⟨o, kept b o e nt⟩
  cases e : K.lookup a with
  | none => exact core false (fun z => by cases z) fun _ => e
  | some o => exact core true (fun _ => by rw [e]; rfl) fun z => by cases z

theorem tabs_of {q : Program} {loose : List Str} {mean : ExcName → Option Value} {mg mb : Str → Option Value} {h : Heap} (T : Top q loose mean mg mb h) : ∀ (names : List Str), (∀ n ∈ names, ((recsOf q).find? fun e => e.name == n).isSome = true) →
    ∃ tabs : List (Addr × Addr), Paired (fun n p => TabOf h mg n p.1) names tabs ∧ ∀ p ∈ tabs, h.IsCode p.1 p.2 #[] ∧ h.TableAt p.1 p.2 #[]
  | [], _ => ⟨[], .nil, fun _ z => by cases z⟩
  | n :: names, hn => by
    obtain ⟨tabs, h1, h2⟩ := tabs_of T names fun m hm => hn m (List.mem_cons_of_mem _ hm)
    obtain ⟨d, hd⟩ := Option.isSome_iff_exists.mp (hn n List.mem_cons_self)
    have en : d.name = n := beq_iff_eq.mp (List.find?_some (p := fun e : DefRec => e.name == n) hd)
    obtain ⟨a, o, fd, c, P, e1, e2, e3, e4, e5, e6⟩ := T.tab d (List.mem_of_find?_eq_some hd)
    refine ⟨(c, P) :: tabs, .cons ⟨a, o, fd, by rw [← en]; exact e1, e2, e3, e4⟩ h1, fun p hp => ?_⟩
    rcases List.mem_cons.mp hp with rfl | hp
    · exact ⟨e5, e6⟩
    · exact h2 p hp

theorem walk_ofT {l : PySem.W.OpenLaw} {n k : Nat} {q : Program} {loose : List Str} {XP : (Str → Option Value) → Heap → Prop} {YP : World → Heap → Prop} {d : DefRec} {K : Params → PySem.W.Frag} {sp : World → List (Addr × Addr) → Sp} {x : Str} (names : List Str)
    (hn : l.most = some n) (hn2 : n ≤ sizeLine) (hdf : d.params.defaults = []) (hr : Room k callerA) (hrec : ∀ m ∈ names, ((recsOf q).find? fun e => e.name == m).isSome = true)
    (hY : ∀ (w : World) (h : Heap), YP w h → (K w.params).In h) (kc : ∀ w : World, PySem.W.kb_classed (K w.params) = true)
    (F : ∀ (w : World) (mg : Str → Option Value) (fa : Addr) (h : Heap) (tabs : List (Addr × Addr)), (K w.params).In h → h.Ns mainGlobals mg → mg d.name = some (.ref fa) → Paired (fun n p => TabOf h mg n p.1) names tabs →
      ∃ fd : FuncData, (∀ (s : Shared) (u : Value), BindsTo s fd ⟨[u], []⟩ [(x, u)]) ∧
        ∀ base : Heap, (K w.params).In base → base.Ns mainGlobals mg → (∀ p ∈ tabs, CodeB base mg p.1 p.2) → FnOk l.prog w (K w.params) mg base CX0 k fa fd [x] (sp w tabs))
    (hsp : ∀ (w : World) (H : Hp) (a : Addr) (ns : List Int) (tabs : List (Addr × Addr)), ns.length ≤ n → SqL (K w.params) H a (ns.map V.int) → (∀ p ∈ tabs, H p.2 = some (TabP p.2)) → sp w tabs [.ref a] H (fun v H' => v = .bl true ∧ ∀ p ∈ tabs, H' p.2 = some (TabP p.2)) E0) :
    PySem.W.WalkO q loose XP YP l.row.toRowW d [] (fun f vs => PySem.call f vs) := by
  refine Att.attach_call hn hdf fun w s0 s1 mg mb fa o pm cd doc a vs ns G Y ho hd hcd hmg hobj hints hlen hg => ?_
  have KX := hY w _ Y
  obtain ⟨tabs, pr, ht⟩ := tabs_of G.T names hrec
  obtain ⟨fd, hb, hF⟩ := F w mg fa _ tabs KX G.T.g hmg pr
  exact law_callT KX G.T.g G.T.b G.T.builtins G.T.nolimit hg (PySem.W.bmod_of_top G.T) (kc w) hobj hints (Nat.le_trans hlen hn2) hr ht hF hb fun H hS hT => hsp w H a ns tabs hlen hS hT
end NP
set_option Elab.async false
set_option linter.all false
set_option maxRecDepth 100000
namespace NP
open PySem PySem.Spec PyProof.Rows L2
def QA (M : Model) (A : Around) (E : Value → Shared → Prop) (env : Env) (s : Shared) (e : Expr) (v : V) : Prop := ∀ tk, wpAny M A (eval e env) (fun u s' => RelV v u ∧ ∃ tk', s' = { s with toks := tk' }) E { s with toks := tk }
def QAs (M : Model) (A : Around) (E : Value → Shared → Prop) (env : Env) (s : Shared) (es : List Expr) (vs : List V) : Prop := ∀ (pos : Pos) tk, wpAny M A (spliced (backTo pos (starEach es env))) (fun us s' => Vals vs us ∧ ∃ tk', s' = { s with toks := tk' }) E { s with toks := tk }
section
variable {P : Program} {w : World} {K : PySem.W.Frag} {mg : Str → Option Value} {base : Heap} {H : Hp} {s : Shared} {A : Around} {E : Value → Shared → Prop} {env : Env} {m : Str → Option Value}
theorem qa_loc {x : Str} {pos : Pos} {v : V} {u : Value} (hk : env.scope.kind = .function) (hx : env.kindOf x = some .local) (hn : s.heap.Ns env.locals m) (hm : m x = some u) (r : RelV v u) (hd : (x == ("__debug__" : Str)) = false := by decide) :
    QA (model P w) A E env s (.Name x pos) v := fun tk => wpAny_Name (wpAny_loadName_local hk hx hn hm ⟨r, tk, rfl⟩) hd
theorem qa_int {i : Int} {j pos} : QA (model P w) A E env s (.Constant (.int i) j pos) (.int i) := fun tk => wpAny_Constant_int ⟨⟨_, rfl⟩, _, rfl⟩
theorem qa_glob {x : Str} {pos : Pos} {v : V} {u : Value} (hk : env.scope.kind = .function) (hx : env.kindOf x = some .globalImplicit) (hgl : env.globals = mainGlobals) (q : Qs P w K mg base H s) (hm : mg x = some u) (r : RelV v u) (hd : (x == ("__debug__" : Str)) = false := by decide) :
    QA (model P w) A E env s (.Name x pos) v := fun tk => Calls.Name_function_global hk hx (Calls.loadGlobal_global (by rw [hgl]; exact q.mod.glob.keeps fun b o e => (q.bs b o e).1) hm ⟨r, tk, rfl⟩) hd
theorem qas_nil : QAs (model P w) A E env s [] [] := fun _ tk => Calls.spliced_nil ⟨.nil, tk, rfl⟩
theorem qas_cons {e : Expr} {es : List Expr} {v : V} {vs : List V} (h1 : QA (model P w) A E env s e v) (h2 : QAs (model P w) A E env s es vs) (hs : starEach (e :: es) env = (false, eval e env) :: starEach es env := by rfl) : QAs (model P w) A E env s (e :: es) (v :: vs) := by
  intro pos tk
  rw [hs]
  show wpAny _ _ (spliced ((false, eval e env) :: backTo pos (starEach es env))) _ _ _
  refine Calls.spliced_cons (thn (h1 tk) fun u s1 ⟨r1, tk1, e1⟩ => ?_)
  subst e1
  exact thn (h2 pos tk1) fun us s2 ⟨r2, tk2, e2⟩ => ⟨.cons r1 r2, tk2, e2⟩
theorem q_call {k : Nat} {f : Addr} {fd : FuncData} {ps : List Str} {sp : Sp} {x : Str} {p pos : Pos} {e : Expr} {es : List Expr} {vs : List V} {r : V} (F : FnOk P w K mg base CX0 k f fd ps sp) (hkk : k < 10) (hb : Binds K fd ps []) (q : Qs P w K mg base H s) (hr : Room k A)
    (hk : env.scope.kind = .function) (hx : env.kindOf x = some .globalImplicit) (hgl : env.globals = mainGlobals) (hm : mg x = some (.ref f)) (hkp : PySem.W.keepIn K (.ref f) = true) (ha : QAs (model P w) A E env s (e :: es) vs) (h : sp vs H (fun v _ => v = r) E0)
    (hd : (x == ("__debug__" : Str)) = false := by decide) (he : starEach (e :: es) env = (false, eval e env) :: starEach es env := by rfl) (hpl : (backTo pos (starEach es env)).any (·.1) = false := by rfl) :
    wpAny (model P w) A (eval (.Call (.Name x p) (e :: es) [] pos) env) (fun u s' => RelV r u ∧ Keeps s s') E s := by
  refine wpAny_Call_Name_kw (Calls.Name_function_global hk hx (Calls.loadGlobal_global (by rw [hgl]; exact q.mod.glob.keeps fun b o e => (q.bs b o e).1) hm ?_) hd)
  refine PySem.W.callWith_K (h₀ := base) q.mod.kin hkp (thn (ha pos s.toks) fun us s1 ⟨rv, tk, e1⟩ => ?_) he hpl
  subst e1
  exact ⟨(q.tok tk).kIn, thn (quiet_call F hkk hb (q.tok tk) hr rv h) fun u s' hq => ⟨hq.1, keeps_tok hq.2⟩⟩
end
theorem room_gen {k j : Nat} {A A' : Around} (hr : Room k A) (hh : A'.handled = none) (hd : A'.depth ≤ A.depth + 1) (hu : A'.units ≤ A.units + 8) (h : j + 1 ≤ k) : Room j A' :=
  ⟨hh, by have := hr.dp; omega, by have := hr.un; omega⟩
end NP
namespace L2
open PySem PySem.Spec PyProof.Rows
/-- a def's rule where its code's address is known -/
theorem Fun.okC {P : Program} {w : World} {K : PySem.W.Frag} {mg : Str → Option Value} {base : Heap} {x qual : Str} {st : Stmt} {f c : Addr} {fd : FuncData} {N ps : List Str} {k : Nat} {sp : Sp} (F : Fun K x qual st f fd) (S : FnScope N ps (defScope st)) (hc : fd.code = .ref c) (len : ∀ vs H Q E, sp vs H Q E → vs.length = ps.length)
    (hbody : ∀ (A : Around) (outer : List Env) (s : Shared) (H : Hp) (vs : List V) (Q : VK) (E : XK) (gp : Array GenState → Drawn → Prop), L2.Cl (k + 1) gp → Room k (A.deeper (envOfC qual (defScope st) s.heap.objs.size f (.ref c))) → sp vs H Q E →
      ∃ t, PSs (cxOf CX0 P w K mg base N qual (defScope st) f (.ref c) A outer s H E gp).nox (defBody st) t ∧ t { nx := fun _ H' => Q .non H', rt := Q } (L2.start N vs) H) : FnOk P w K mg base CX0 (k + 1) f fd ps sp := by
  obtain ⟨oc, od, kV, doc, pm, an, cdv, ct, osl, rfl, lk, hcd⟩ := F.ex
  have e : cdv = .ref c := hc
  subst e
  refine fn_of lk hcd S len fun A outer s H vs Q E gp hcl hr hsp => ?_
  obtain ⟨t, h, q⟩ := hbody A outer s H vs Q E gp hcl hr hsp
  exact ⟨t, h.nox, q⟩
end L2
set_option Elab.async false
set_option linter.all false
set_option maxRecDepth 100000
namespace NP
open PySem PySem.Spec PyProof.Rows L2
theorem from_le : ∀ (ts : List Str) (k : Nat) (acc : Str), (textFrom k acc ts).length ≤ acc.length + piled ts
  | [], k, acc => by show acc.length ≤ acc.length + piled []; omega
  | t :: r, k, acc => by
    have ih := from_le r (k + 1) (acc ++ (if k > 0 then ", " else "" : String) ++ t)
    have e : (acc ++ (if k > 0 then ", " else "" : String) ++ t).length ≤ acc.length + 2 + t.length := by
      rw [strLen_append, strLen_append]
      split
      · exact Nat.le_refl _
      · show acc.length + 0 + t.length ≤ _; omega
    show (textFrom (k + 1) _ r).length ≤ _
    rw [piled_cons]
    omega
theorem list_le (ts : List Str) : (listText ts).length ≤ piled ts + 2 := by
  unfold listText
  rw [strLen_append]
  have h := from_le ts 0 (Str.ofString "[")
  have e : (Str.ofString "[").length = 1 := rfl
  have e2 : ((("]" : String) : Str)).length = 1 := rfl
  rw [e] at h
  rw [e2]
  omega
theorem tup_le (ts : List Str) : (tupleText ts).length ≤ piled ts + 4 := by
  unfold tupleText
  rw [strLen_append, strLen_append]
  have e1 : ((("(" : String) : Str)).length = 1 := rfl
  have e2 : (((if ts.length == 1 then ",)" else ")" : String) : Str)).length ≤ 2 := by split <;> decide
  have e3 : (Str.join ", " ts).length ≤ piled ts := by
    by_cases h : ts = []
    · subst h; exact Nat.le_refl _
    · have := join_length_add ts h; omega
  rw [e1]
  omega
theorem dict_le (ts : List Str) : (dictText ts).length ≤ piled ts + 2 := by
  unfold dictText
  rw [strLen_append, strLen_append]
  have e1 : ((("{" : String) : Str)).length = 1 := rfl
  have e2 : ((("}" : String) : Str)).length = 1 := rfl
  have e3 : (Str.join ", " ts).length ≤ piled ts := by
    by_cases h : ts = []
    · subst h; exact Nat.le_refl _
    · have := join_length_add ts h; omega
  rw [e1, e2]
  omega
/-- data that is shown in n signs, k deep -/
def Gd (K : PySem.W.Frag) (H : Hp) (n k : Nat) (v : V) : Prop := ∃ d, Th K H v d ∧ d.showable = true ∧ d.shown.length ≤ n ∧ d.depth ≤ k
theorem Gd.le {K : PySem.W.Frag} {H : Hp} {n k n' k' : Nat} {v : V} (h : Gd K H n k v) (h1 : n ≤ n') (h2 : k ≤ k') : Gd K H n' k' v := by
  obtain ⟨d, a, b, c, e⟩ := h
  exact ⟨d, a, b, Nat.le_trans c h1, Nat.le_trans e h2⟩
theorem Gd.same {K : PySem.W.Frag} {H H' : Hp} {n k : Nat} {v : V} (h : Gd K H n k v) (e : RdLe H H') : Gd K H' n k v := by
  obtain ⟨d, a, b⟩ := h
  exact ⟨d, th_le e a, b⟩
theorem gd_int {K : PySem.W.Frag} {H : Hp} {i : Int} (h : i.natAbs < 2 ^ 140) : Gd K H 150 0 (.int i) := by
  have hl : i.natAbs.log2 < 140 := by
    by_cases z : i.natAbs = 0
    · rw [z]; decide
    · exact (Nat.log2_lt z).mpr h
  refine ⟨.int i, .dp (.int i), ?_, ?_, ?_⟩
  · unfold PyData.showable
    exact decide_eq_true (by omega)
  · unfold PyData.shown
    have := int_text_length_le (a := i) (k := 140) (by decide) hl
    refine Nat.le_trans ?_ (show 141 ≤ 150 by decide)
    show (Str.ofString (toString i)).length ≤ 141
    rw [PySem.ofString_length]
    exact this
  · unfold PyData.depth; exact Nat.le_refl _
theorem gd_all {K : PySem.W.Frag} {H : Hp} {n k : Nat} : ∀ {xs : List V}, (∀ v ∈ xs, Gd K H n k v) → ∃ ds, ThAll K H xs ds ∧ PyData.showableAll ds = true ∧ piled (PyData.shownAll ds) ≤ (n + 2) * xs.length ∧ PyData.depthAll ds ≤ k
  | [], _ => ⟨[], .nil, by unfold PyData.showableAll; rfl, by unfold PyData.shownAll; exact Nat.le_refl _, by unfold PyData.depthAll; exact Nat.zero_le _⟩
  | v :: xs, h => by
    obtain ⟨ds, a, b, c, e⟩ := gd_all (xs := xs) fun u hu => h u (List.mem_cons_of_mem _ hu)
    obtain ⟨d, a1, b1, c1, e1⟩ := h v List.mem_cons_self
    refine ⟨d :: ds, .cons a1 a, ?_, ?_, ?_⟩
    · unfold PyData.showableAll; rw [b1, b]; rfl
    · unfold PyData.shownAll
      rw [piled_cons, List.length_cons, Nat.mul_succ]
      omega
    · unfold PyData.depthAll; exact Nat.max_le.mpr ⟨e1, e⟩
theorem gd_lst {K : PySem.W.Frag} {H : Hp} {n k c : Nat} {a : Addr} {xs : List V} (hS : SqL K H a xs) (h : ∀ v ∈ xs, Gd K H n k v) (hc : xs.length ≤ c) : Gd K H ((n + 2) * c + 4) (k + 1) (.ref a) := by
  obtain ⟨ds, a1, b, p, e⟩ := gd_all h
  refine ⟨.list ds, .lst hS a1, ?_, ?_, ?_⟩
  · unfold PyData.showable; exact b
  · unfold PyData.shown
    have := list_le (PyData.shownAll ds)
    have h3 : (n + 2) * xs.length ≤ (n + 2) * c := Nat.mul_le_mul_left _ hc
    omega
  · unfold PyData.depth; omega
/-- a thing that may be shown -/
def Sh (K : PySem.W.Frag) (H : Hp) (v : V) : Prop := ∃ d, Th K H v d ∧ Shows d
theorem Sh.same {K : PySem.W.Frag} {H H' : Hp} {v : V} (h : Sh K H v) (e : Same H H') : Sh K H' v := by
  obtain ⟨d, a, b⟩ := h
  exact ⟨d, th_same e a, b⟩
end NP
namespace NP
open PySem PySem.Spec PyProof.Rows L2
section
variable {X : Cx} {es : List Expr} {te : TE} {t : TA} {pos : Pos}
theorem ac {c : Const} {j} (h : PE X (.Constant c j pos) te) (r : PA X es t) : PA X (.Constant c j pos :: es) (tCons te t) := pa_cons h r
theorem an {x : Str} (h : PE X (.Name x pos) te) (r : PA X es t) : PA X (.Name x pos :: es) (tCons te t) := pa_cons h r
theorem aD {k : List (Option Expr)} {l : List Expr} (h : PE X (.Dict k l pos) te) (r : PA X es t) : PA X (.Dict k l pos :: es) (tCons te t) := pa_cons h r
theorem aB {a b : Expr} {o : Operator} (h : PE X (.BinOp a o b pos) te) (r : PA X es t) : PA X (.BinOp a o b pos :: es) (tCons te t) := pa_cons h r
end
end NP
set_option Elab.async false
set_option linter.all false
set_option maxRecDepth 100000
namespace NP
open PySem PySem.Spec PyProof.Rows L2
structure JE (X : Cx) (e : Expr) (t : TE) : Prop where
  p : PE X e t
structure JT (X : Cx) (e : Expr) (t : TT) : Prop where
  p : PT X e t
structure JW (X : Cx) (e : Expr) (t : TT) : Prop where
  p : PW X e t
structure JA (X : Cx) (es : List Expr) (t : TA) : Prop where
  p : PA X es t
structure JS (X : Cx) (st : Stmt) (t : TS) : Prop where
  p : PS X st t
structure JB (X : Cx) (st : List Stmt) (t : TS) : Prop where
  p : PSs X st t
structure JG (X : Cx) (e : Expr) (t : TG) : Prop where
  p : PG X e t
structure JGs (X : Cx) (es : List Expr) (t : TGs) : Prop where
  p : PGs X es t
structure JI (X : Cx) (tg iter : Expr) (t : TI) : Prop where
  p : PI X tg iter t
structure JTs (X : Cx) (es : List Expr) (t : TT) : Prop where
  p : PTs X es t
structure JO (X : Cx) (e : Option Expr) (t : TO) : Prop where
  p : PO X e t
structure JP (X : Cx) (pos : Pos) (ks : List (Option Expr)) (vs : List Expr) (t : List (TE × TE)) : Prop where
  p : PPs X pos ks vs t
section
variable {X : Cx} {a b c o e : Expr} {es rest : List Expr} {ta tb tc te to : TE} {t : TA} {tA tB1 : TT} {pos p apos cpos p2 : Pos}
theorem jv (i : Nat) {x : Str} (hN : X.N[i]? = some x := by rfl) (hv : Vis X.env.scope x := by first | exact Or.inl rfl | exact Or.inr (Or.inl rfl) | exact Or.inr (Or.inr rfl)) (hd : (x == ("__debug__" : Str)) = false := by decide)
    (hcd : (x == ("__classdict__" : Str)) = false := by decide) : JE X (.Name x pos) (tVar i) := ⟨pe_var hN hv hd hcd⟩
theorem je_int {i : Int} {j} : JE X (.Constant (.int i) j pos) (tC (.int i)) := ⟨pe_int⟩
theorem je_bl {i : Bool} {j} : JE X (.Constant (.bool i) j pos) (tC (.bl i)) := ⟨pe_bl⟩
theorem je_non {j} : JE X (.Constant .none j pos) (tC .non) := ⟨pe_non⟩
theorem je_str {x : Str} {j} : JE X (.Constant (.str x) j pos) (tC (.str x)) := ⟨pe_str⟩
theorem je_ty {n : String} {x : Str} (hg : Gl X x) (hm : X.mg x = none) (hv : bootBuiltins x = some (.type n)) (hn : x ≠ "__name__" := by decide) (hd : (x == ("__debug__" : Str)) = false := by decide) : JE X (.Name x pos) (tC (.ty n)) := ⟨pe_bltn hg hm hv rfl hn hd⟩
theorem je_glob {x : Str} {v : V} {u : Value} (hg : Gl X x) (hm : X.mg x = some u) (r : RelV v u) (hd : (x == ("__debug__" : Str)) = false := by decide) : JE X (.Name x pos) (tC v) := ⟨pe_glob hg hm r hd⟩
theorem je_one {op} (h : JE X a ta) : JE X (.BoolOp op [a] pos) ta := ⟨pe_one h.p⟩
theorem je_or (ha : JE X a ta) (hb : JE X (.BoolOp .Or (b :: rest) pos) tb) : JE X (.BoolOp .Or (a :: b :: rest) pos) (tOrV ta tb) := ⟨pe_or ha.p hb.p⟩
theorem je_not (ha : JE X a ta) : JE X (.UnaryOp .Not a pos) (tNotV ta) := ⟨pe_not ha.p⟩
theorem je_if (hc : JT X c tA) (ha : JE X a ta) (hb : JE X b tb) : JE X (.IfExp c a b pos) (tIf tA ta tb) := ⟨pe_ifExp hc.p ha.p hb.p⟩
theorem je_op {op : Operator} {r : R2} (ho : OpR X (binaryOp op) r) (ha : JE X a ta) (hb : JE X b tb) : JE X (.BinOp a op b pos) (tOp r ta tb) := ⟨pe_op ho ha.p hb.p⟩
theorem je_un {op : UnaryOp} {r : V → Hp → VK → Prop} (ho : UnR X (unaryOp op) r) (ha : JE X a ta) : JE X (.UnaryOp op a pos) (tUn r ta) := ⟨pe_un ho ha.p⟩
theorem je_cmp {op : CmpOp} {r : R2} (ho : OpR X (compareOp op) r) (ha : JE X a ta) (hb : JE X b tb) (hm : behindInMarks op b = false) : JE X (.Compare a [op] [b] pos) (tOp r ta tb) := ⟨pe_cmpR ho ha.p hb.p hm⟩
theorem je_ix {r : R2} (hr : IxR X r) (ha : JE X a ta) (hb : JE X b tb) (hs : PlainIx b) : JE X (.Subscript a b pos) (tOp r ta tb) := ⟨pe_ix hr ha.p hb.p hs⟩
theorem je_tup {x1} (h : JA X es t) : JE X (.Tuple es x1 pos) (tTup t) := ⟨pe_tup h.p⟩
theorem je_lst (h : JA X es t) : JE X (.List es pos) (tLst t) := ⟨pe_lst h.p⟩
theorem je_dnew : JE X (.Dict [] [] pos) tDNewK := ⟨pe_dnewK⟩
theorem je_disp {keys : List (Option Expr)} {values : List Expr} {trs : List (TE × TE)} (h : JP X pos keys values trs) (hall : keys.all (·.isSome) = true) (hl : keys.length = values.length) (h0 : keys ≠ []) (h15 : keys.length ≤ 15) : JE X (.Dict keys values pos) (tDisp trs) := ⟨pe_disp h.p hall hl h0 h15⟩
theorem jp_nil : JP X pos [] [] [] := ⟨pps_nil⟩
theorem jp_cons {k v : Expr} {ks : List (Option Expr)} {vs : List Expr} {tk tv : TE} {trs : List (TE × TE)} (hk : JE X k tk) (hv : JE X v tv) (hr : JP X pos ks vs trs) : JP X pos (some k :: ks) (v :: vs) ((tk, tv) :: trs) := ⟨pps_cons hk.p hv.p hr.p⟩
theorem je_slice {r : V → Option Int → Option Int → Hp → VK → Prop} {lo hi : Option Expr} {tl th : TO} (hr : SlR X r) (he : JE X e te) (hl : JO X lo tl) (hu : JO X hi th) : JE X (.Subscript e (.Slice lo hi none p2) pos) (tSl r te tl th) := ⟨pe_slice hr he.p hl.p hu.p⟩
theorem jo_none : JO X none tNoPart := ⟨po_none⟩
theorem jo_some (h : JE X e te) : JO X (some e) (tPart te) := ⟨po_some h.p⟩
theorem je_call {CX : CXT} {k : Nat} {f : Addr} {fd : FuncData} {ps : List Str} {sp : Sp} {dvs : List V} {ds : List Value} {E : XK} {x : Str} (F : FnOk X.prog X.w X.K X.mg X.base CX k f fd ps sp) (hr : Room k X.A) (hg : Gl X x) (hm : X.mg x = some (.ref f)) (hk : PySem.W.keepIn X.K (.ref f) = true)
    (hb : Binds X.K fd ps ds) (hd : Vals dvs ds) (hx : Passes CX X E) (ha : JA X (e :: es) t) (hdb : (x == ("__debug__" : Str)) = false := by decide) (he : starEach (e :: es) X.env = (false, eval e X.env) :: starEach es X.env := by rfl)
    (hpl : (backTo pos (starEach es X.env)).any (·.1) = false := by rfl) (hcl : L2.Cl k X.gp := by first | assumption | exact L2.Cl.mono (by assumption) (by decide)) : JE X (.Call (.Name x p) (e :: es) [] pos) (tCall sp dvs E t) := ⟨pe_call F hr hg hm hk hb hd hx ha.p hdb he hpl hcl⟩
theorem je_callB {id : String} {r : List V → Hp → VK → Prop} {x : Str} (hc : CallR X (.builtin id) r) (hg : Gl X x) (hm : X.mg x = none) (hv : bootBuiltins x = some (.builtin id)) (ha : JA X (e :: es) t) (hn : x ≠ "__name__" := by decide) (hdb : (x == ("__debug__" : Str)) = false := by decide)
    (he : starEach (e :: es) X.env = (false, eval e X.env) :: starEach es X.env := by rfl) (hpl : (backTo pos (starEach es X.env)).any (·.1) = false := by rfl) : JE X (.Call (.Name x p) (e :: es) [] pos) (tCB r t) := ⟨pe_callB hc hg hm hv ha.p hn hdb he hpl⟩
theorem je_callTy {T : String} {r : List V → Hp → VK → Prop} {x : Str} (hc : CallR X (.type T) r) (hg : Gl X x) (hm : X.mg x = none) (hv : bootBuiltins x = some (.type T)) (ha : JA X (e :: es) t) (hn : x ≠ "__name__" := by decide) (hdb : (x == ("__debug__" : Str)) = false := by decide)
    (he : starEach (e :: es) X.env = (false, eval e X.env) :: starEach es X.env := by rfl) (hpl : (backTo pos (starEach es X.env)).any (·.1) = false := by rfl) : JE X (.Call (.Name x p) (e :: es) [] pos) (tCB r t) := ⟨pe_callTy hc hg hm hv ha.p hn hdb he hpl⟩
theorem je_lc {elt tg iter : Expr} {ifs : List Expr} {scope : Scope} {own : List (Str × Nat)} {wi : TI} {g : TG} {tt : TT} (hc : X.calm = true) (hN : X.N.Nodup) (hi : JI X tg iter wi) (ok : BlkOk X.N X.env.scope scope own)
    (hg : ∀ (s : Shared) (H : Hp) (C : Addr) (cl : List (Str × Addr)) (fp : List Addr), JG (X.blk s H scope (compEnvC scope cl C X.env) fp) tg g) (ht : ∀ (s : Shared) (H : Hp) (C : Addr) (cl : List (Str × Addr)) (fp : List Addr), JTs (X.blk s H scope (compEnvC scope cl C X.env) fp) ifs tt)
    (he : ∀ (s : Shared) (H : Hp) (C : Addr) (cl : List (Str × Addr)) (fp : List Addr), JE (X.blk s H scope (compEnvC scope cl C X.env) fp) elt te) (hs : ∀ x, foldedSetIterable iter X.env x = pure x := by intro _; rfl) :
    JE X (.ListComp elt [⟨tg, iter, ifs, 0⟩] scope pos) (tLc wi g tt te (own.map (·.2))) := ⟨pe_lc hc hN hi.p ok (fun s H C cl fp => (hg s H C cl fp).p) (fun s H C cl fp => (ht s H C cl fp).p) (fun s H C cl fp => (he s H C cl fp).p) hs⟩
theorem jts_nil : JTs X [] tYes := ⟨pts_nil⟩
theorem jts_one (h : JT X c tA) : JTs X [c] tA := ⟨pts_one h.p⟩
theorem ja0 : JA X [] tNil := ⟨pa_nil⟩
theorem jc {k : Const} {j} (h : JE X (.Constant k j pos) te) (r : JA X es t) : JA X (.Constant k j pos :: es) (tCons te t) := ⟨pa_cons h.p r.p⟩
theorem ji_ {i : Int} {j} (r : JA X es t) : JA X (.Constant (.int i) j pos :: es) (tCons (tC (.int i)) t) := ⟨pa_cons pe_int r.p⟩
theorem jn {x : Str} (h : JE X (.Name x pos) te) (r : JA X es t) : JA X (.Name x pos :: es) (tCons te t) := ⟨pa_cons h.p r.p⟩
theorem jTu {l : List Expr} {k} (h : JE X (.Tuple l k pos) te) (r : JA X es t) : JA X (.Tuple l k pos :: es) (tCons te t) := ⟨pa_cons h.p r.p⟩
theorem jLi {l : List Expr} (h : JE X (.List l pos) te) (r : JA X es t) : JA X (.List l pos :: es) (tCons te t) := ⟨pa_cons h.p r.p⟩
theorem jDi {k : List (Option Expr)} {l : List Expr} (h : JE X (.Dict k l pos) te) (r : JA X es t) : JA X (.Dict k l pos :: es) (tCons te t) := ⟨pa_cons h.p r.p⟩
theorem jCa {f : Expr} {l : List Expr} {k : List Keyword} (h : JE X (.Call f l k pos) te) (r : JA X es t) : JA X (.Call f l k pos :: es) (tCons te t) := ⟨pa_cons h.p r.p⟩
theorem jSu {a b : Expr} (h : JE X (.Subscript a b pos) te) (r : JA X es t) : JA X (.Subscript a b pos :: es) (tCons te t) := ⟨pa_cons h.p r.p⟩
theorem jBi {a b : Expr} {o : Operator} (h : JE X (.BinOp a o b pos) te) (r : JA X es t) : JA X (.BinOp a o b pos :: es) (tCons te t) := ⟨pa_cons h.p r.p⟩
theorem jUn {a : Expr} {o : UnaryOp} (h : JE X (.UnaryOp o a pos) te) (r : JA X es t) : JA X (.UnaryOp o a pos :: es) (tCons te t) := ⟨pa_cons h.p r.p⟩
theorem jCm {a : Expr} {os : List CmpOp} {bs : List Expr} (h : JE X (.Compare a os bs pos) te) (r : JA X es t) : JA X (.Compare a os bs pos :: es) (tCons te t) := ⟨pa_cons h.p r.p⟩
theorem jt_w (h : JW X a tA) : JT X a tA := ⟨PW.pt h.p⟩
theorem jw_or1 (ha : JT X a tA) : JW X (.BoolOp .Or [a] pos) tA := ⟨pw_or1 ha.p⟩
theorem jw_or (ha : JT X a tA) (hb : JW X (.BoolOp .Or (b :: rest) pos) tB1) : JW X (.BoolOp .Or (a :: b :: rest) pos) (tOr tA tB1) := ⟨pw_or ha.p hb.p⟩
theorem jt_not (ha : JT X a tA) : JT X (.UnaryOp .Not a pos) (tNot tA) := ⟨pt_not ha.p⟩
theorem jt_val (h : JE X e te) (he : ∀ whole, isTrue e X.env whole = (do let v ← whole; standAt e.pos; holding [v] (truthy v)) := by intro _; rfl) : JT X e (tB te) := ⟨pt_val h.p he⟩
theorem jt_cmp {op : CmpOp} {r : R2} (ho : OpR X (compareOp op) r) (ha : JE X a ta) (hb : JE X b tb) (hm : behindInMarks op b = false) : JT X (.Compare a [op] [b] pos) (tTest (tOp r ta tb)) := ⟨pt_cmpR ho ha.p hb.p hm⟩
end
section
variable {X : Cx} {tg e iter : Expr} {te : TE} {t u : TS} {pos : Pos} {st : Stmt} {rest : List Stmt}
theorem jb_nil : JB X [] tNext := ⟨pss_nil⟩
theorem jb_one (h : JS X st t) : JB X [st] t := ⟨pss_one h.p⟩
theorem jb_cons (h : JS X st t) (r : JB X rest u) : JB X (st :: rest) (tSeq t u) := ⟨pss_cons h.p r.p⟩
theorem js_expr (he : JE X e te) (hs : swapsWith e none pos.line X.env = pure false := by rfl) : JS X (.Expr e pos) (tDrop te) := ⟨ps_expr he.p hs⟩
theorem js_ret (he : JE X e te) : JS X (.Return (some e) pos) (tRet te) := ⟨ps_ret he.p⟩
theorem js_if {c : Expr} {a b : List Stmt} {tc : TT} (hc : JT X c tc) (ha : JB X a t) (hb : JB X b u) : JS X (.If c a b pos) (tIfS tc t u) := ⟨ps_if hc.p ha.p hb.p⟩
theorem jb_never : JB X rest tNever := ⟨pss_never⟩
theorem js_asg {g : TG} (he : JE X e te) (hg : JG X tg g) (hs : swapsWithSole [tg] e pos.line X.env = pure false := by rfl) (hw : swappedStores [tg] e X.env = pure none := by rfl) (h1 : (assignEach [tg] X.env).map (·.2) = [assign tg X.env] := by rfl) : JS X (.Assign [tg] e pos) (tAsg te g) := ⟨ps_asg he.p hg.p hs hw h1⟩
theorem js_set {i : Nat} {x : Str} {pos' : Pos} (hN : X.N.Nodup) (hi : X.N[i]? = some x) (hx : Loc X.env.scope x) (he : JE X e te) (hs : swapsWith e (some (.Name x pos')) pos.line X.env = pure false := by rfl) (hf : X.fn x = true ∨ X.env.scope.names.lookup x = some .local := by first | exact .inl rfl | exact .inr rfl | assumption) :
    JS X (.Assign [.Name x pos'] e pos) (tAsg te (gName i)) := ⟨ps_set hN hi hx he.p hs hf⟩
theorem js_setLc {i : Nat} {y : Str} {py : Pos} {elt : Expr} {ifs : List Expr} {scope : Scope} {own : List (Str × Nat)} {spos : Pos} {wi : TI} {g : TG} {tt : TT} (hc : X.calm = true) (hN : X.N.Nodup) (hy : X.N[i]? = some y) (hyl : X.env.scope.names.lookup y = some .local)
    (hsw : swapsWith (.ListComp elt [⟨tg, iter, ifs, 0⟩] scope pos) (some (.Name y py)) spos.line X.env = pure true) (hi : JI X tg iter wi) (ok : BlkOk X.N X.env.scope scope own)
    (hg : ∀ (s : Shared) (H : Hp) (C : Addr) (cl : List (Str × Addr)) (fp : List Addr), JG (X.blk s H scope (compEnvC scope cl C X.env) fp) tg g) (ht : ∀ (s : Shared) (H : Hp) (C : Addr) (cl : List (Str × Addr)) (fp : List Addr), JTs (X.blk s H scope (compEnvC scope cl C X.env) fp) ifs tt)
    (he : ∀ (s : Shared) (H : Hp) (C : Addr) (cl : List (Str × Addr)) (fp : List Addr), JE (X.blk s H scope (compEnvC scope cl C X.env) fp) elt te) (hs : ∀ x, foldedSetIterable iter X.env x = pure x := by intro _; rfl) :
    JS X (.Assign [.Name y py] (.ListComp elt [⟨tg, iter, ifs, 0⟩] scope pos) spos) (tAsg (tLc wi g tt te (own.map (·.2))) (gName i)) :=
  ⟨ps_setLc hc hN hy hyl hsw hi.p ok (fun s H C cl fp => (hg s H C cl fp).p) (fun s H C cl fp => (ht s H C cl fp).p) (fun s H C cl fp => (he s H C cl fp).p) hs⟩
theorem js_for {body : List Stmt} {wi : TI} {g : TG} {tb : TS} (hp : PassesOwn (model X.prog X.w) X.A X.env X.xe) (hc : X.calm = true) (hi : JI X tg iter wi) (hg : JG X tg g) (hb : JB X body tb) (hs : ∀ x, foldedSetIterable iter X.env x = pure x := by intro _; rfl) :
    JS X (.For tg iter body [] pos) (tFor wi g tb) := ⟨ps_for hp hc hi.p hg.p hb.p hs⟩
theorem jg_name {i : Nat} {x : Str} (hN : X.N.Nodup) (hi : X.N[i]? = some x) (hx : Loc X.env.scope x) (hf : X.fn x = true ∨ X.env.scope.names.lookup x = some .local := by first | exact .inl rfl | exact .inr rfl | assumption) : JG X (.Name x pos) (gName i) := ⟨pg_name hN hi hx hf⟩
theorem jg_tup {es : List Expr} {k : Nat} {tt : TGs} {n : Nat} (hc : X.calm = true) (h : JGs X es tt) (hn : (assignEach es X.env).length = n := by rfl) (hst : (assignEach es X.env).findIdx? (·.1) = none := by rfl) : JG X (.Tuple es k pos) (gTup X.K n tt) := ⟨pg_tup hc h.p hn hst⟩
theorem jgs_nil : JGs X [] gNil := ⟨pgs_nil⟩
theorem jgs_cons {es : List Expr} {g : TG} {gs : TGs} (h1 : JG X e g) (h2 : JGs X es gs) (hs : (assignEach (e :: es) X.env).map (·.2) = assign e X.env :: (assignEach es X.env).map (·.2) := by rfl) : JGs X (e :: es) (gCons g gs) := ⟨pgs_cons h1.p h2.p hs⟩
theorem jg_sub {o i : Expr} {to ti : TE} {tt : TSet} (ho : JE X o to) (hi : JE X i ti) (hs : PSet X tt)
    (ha : ∀ v, assign (.Subscript o i pos) X.env v = (do
      let ov ← holding [v] (eval o X.env)
      let iv ← holding [v, ov] (eval i X.env)
      standAt pos
      holding [v, ov, iv] (setItem ov iv v)
      release [v, ov, iv] []) := by intro _; rfl) : JG X (.Subscript o i pos) (gSub to ti tt) := ⟨pg_sub ho.p hi.p hs ha⟩
theorem ji_list {l : Expr} {tl : TE} (hl : JE X l tl) : JI X tg l (iList X.K tl) := ⟨pi_list hl.p⟩
theorem ji_tup {l : Expr} {tl : TE} (hl : JE X l tl) : JI X tg l (iTup X.K tl) := ⟨pi_tup hl.p⟩
theorem ji_range1 {a : Expr} {ta : TA} {p : Pos} (hg : Gl X "range") (hm : X.mg "range" = none) (ha : JA X [a] ta) (hs : starEach [a] X.env = [(false, eval a X.env)] := by rfl) : JI X tg (.Call (.Name "range" p) [a] [] pos) (iRng1 ta) := ⟨pi_range1 hg hm ha.p hs⟩
theorem ji_enum {ta : TA} {p tpos : Pos} {elts : List Expr} {kk : Nat} (hg : Gl X "enumerate") (hm : X.mg "enumerate" = none) (ha : JA X [e] ta) (hs : starEach [e] X.env = [(false, eval e X.env)] := by rfl) : JI X (.Tuple elts kk tpos) (.Call (.Name "enumerate" p) [e] [] pos) (iEnum X.K ta) := ⟨pi_enum hg hm ha.p hs⟩
end
/-- a def's rule by wrapped judgements -/
theorem fnJ {P : Program} {w : World} {K : PySem.W.Frag} {mg : Str → Option Value} {base : Heap} {x qual : Str} {st : Stmt} {f : Addr} {fd : FuncData} {N ps : List Str} {k : Nat} {sp : Sp} (F : Fun K x qual st f fd) (S : FnScope N ps (defScope st)) (len : ∀ vs H Q E, sp vs H Q E → vs.length = ps.length)
    (hbody : ∀ (cdv : Value) (A : Around) (outer : List Env) (s : Shared) (H : Hp) (vs : List V) (Q : VK) (E : XK) (gp : Array GenState → Drawn → Prop), L2.Cl (k + 1) gp → Room k (A.deeper (envOfC qual (defScope st) s.heap.objs.size f cdv)) → sp vs H Q E →
      ∃ t, JB (cxOf CX0 P w K mg base N qual (defScope st) f cdv A outer s H E gp).nox (defBody st) t ∧ t { nx := fun _ H' => Q .non H', rt := Q } (L2.start N vs) H) : FnOk P w K mg base CX0 (k + 1) f fd ps sp :=
  F.ok S len fun cdv A outer s H vs Q E gp hcl hr h => let ⟨t, j, q⟩ := hbody cdv A outer s H vs Q E gp hcl hr h; ⟨t, j.p, q⟩
end NP
set_option Elab.async false
set_option linter.all false
set_option maxRecDepth 100000
namespace NP
open PySem PySem.Spec PyProof.Rows L2
def rangeL (lo : Int) (n : Nat) : List V := (List.range n).map fun (i : Nat) => V.int (lo + (i : Int))
theorem vals_of : ∀ {xs : List V} {us : List Value}, xs.length = us.length → (∀ (i : Nat) (x : V) (u : Value), xs[i]? = some x → us[i]? = some u → RelV x u) → Vals xs us
  | [], [], _, _ => .nil
  | [], _ :: _, h, _ => by cases h
  | _ :: _, [], h, _ => by cases h
  | x :: xs, u :: us, h, f => .cons (f 0 x u rfl rfl) (vals_of (Nat.succ.inj h) fun i y v e1 e2 => f (i + 1) y v (by simpa using e1) (by simpa using e2))
theorem items_vals {lo : Int} {c : Int} (hc : c = 1) {acc : Array Value} {n : Nat} (h : ItemsOf (fun i v => ∃ t, v = .int (lo + i * c) t) acc n) : Vals (rangeL lo n) acc.toList := by
  subst hc
  obtain ⟨h1, h2⟩ := h
  refine vals_of (by unfold rangeL; rw [List.length_map, List.length_range, Array.length_toList, h1]) fun i x u e1 e2 => ?_
  unfold rangeL at e1
  rw [List.getElem?_map] at e1
  obtain ⟨k, hk, rfl⟩ := Option.map_eq_some_iff.mp e1
  have lt := (List.getElem?_eq_some_iff.mp hk).1
  rw [List.getElem?_eq_getElem lt, List.getElem_range] at hk
  cases hk
  obtain ⟨t, rfl⟩ := h2 i u (by rw [← Array.getElem?_toList]; exact e2)
  rw [Int.mul_one]
  exact ⟨t, rfl⟩
theorem map_erase {α β : Type} (f : α → β) : ∀ (l : List α) (j : Nat), (l.map f).eraseIdx j = (l.eraseIdx j).map f
  | [], _ => rfl
  | _ :: _, 0 => rfl
  | x :: l, j + 1 => by
    show f x :: (l.map f).eraseIdx j = f x :: (l.eraseIdx j).map f
    rw [map_erase f l j]
section
variable {X : Cx}
theorem cr_range1 : CallR X (.type "range") (fun xs H Q => ∃ j : Int, xs = [.int j] ∧ ∀ p, H p = none → Q (.ref p) (upd H p (.rng 0 j))) := by
  intro pins s σ H xs us Q I r h
  obtain ⟨j, rfl, q⟩ := h
  obtain ⟨u, rfl, t, rfl⟩ := vals1 r
  refine call_range_1 ⟨.ref s.heap.objs.size, _, I.laid (o := .rng 0 j) (fun b ob q => Heap.get?_push_of_some _ q) (Nat.le_refl _) ⟨_, _, _, Heap.get?_push_size _ rfl⟩, rfl, q _ (I.hok.fresh (Nat.le_refl _))⟩
theorem cr_listR (hc : X.calm = true) : CallR X (.type "list") (fun xs H Q => ∃ (a : Addr) (lo hi : Int), xs = [.ref a] ∧ H a = some (.rng lo hi) ∧ -(2 ^ 62) ≤ lo ∧ lo < 2 ^ 62 ∧ -(2 ^ 62) ≤ hi ∧ hi < 2 ^ 62 ∧ (hi - lo).toNat ≤ 1000 ∧ ∀ p, H p = none → Q (.ref p) (upd H p (.lst (rangeL lo (hi - lo).toNat)))) := by
  intro pins s σ H xs us Q I r h
  obtain ⟨a, lo, hi, rfl, ha, h1, h2, h3, h4, hn, q⟩ := h
  rw [Vals.ref1 r]
  obtain ⟨t, u, v, e⟩ := (show ObjOk X.prog X.w H s.heap a (.rng lo hi) from I.hok a _ ha)
  have hsz : Builtin.Range.rangeSize lo hi 1 = (((hi - lo).toNat : Nat) : Int) := by rw [rangeSize_one]; split <;> omega
  refine call_list_range (n := (hi - lo).toNat) (I.ok.hd hc) (show IsRange s.heap a lo hi 1 t u v from e) (small_one h1 h2 h3 h4) hsz (Nat.le_trans hn (by decide)) fun h' tk acc c' hk hl hi' => ?_
  have hv := items_vals rfl hi'
  refine ⟨.ref s.heap.objs.size, _, I.laid (o := .lst (rangeL lo (hi - lo).toNat)) hk (Nat.le_refl _) ⟨?_, acc.toList, c', hv, by rw [hl]⟩, rfl, q _ (I.hok.fresh (Nat.le_refl _))⟩
  unfold rangeL
  rw [List.length_map, List.length_range]
  exact Nat.le_trans hn (by decide)
end
section
variable {X : Cx}
end
section
variable {X : Cx} {e st : Expr} {te ts : TE} {pos p2 : Pos}
end
end NP
set_option Elab.async false
set_option linter.all false
set_option maxRecDepth 100000
namespace NP
open PySem PySem.Spec PyProof.Rows L2
theorem for_enum {K : PySem.W.Frag} {a : Addr} {xs : List V} {g : TG} {tb : TS} {D : Ends} {σ : L2.St} {H : Hp} (Pv : Nat → L2.St → Hp → Prop) (h0 : Pv 0 σ H) (hl : ∀ i σ H, i ≤ xs.length → Pv i σ H → SqL K H a xs)
    (hs : ∀ i x σ H T, xs[i]? = some x → Pv i σ H → H T = none → g (.ref T) σ (upd H T (.tup [.int ((i : Nat) : Int), x])) fun σ2 H2 => tb { D with nx := Pv (i + 1), ct := Pv (i + 1), bk := D.nx } σ2 H2) (hd : ∀ σ H, Pv xs.length σ H → D.nx σ H) :
    ∃ W : Nat → Nat → L2.St → Hp → Prop, (∃ m, W 0 m σ H) ∧ ∀ i m σ H, W i m σ H →
      ((Ite K a).stop i H ∧ D.nx σ H) ∨ ((Ite K a).go i H ∧ ∃ N : L2.St → Hp → Prop, (∀ σ' H', N σ' H' → ∃ m', m' < m ∧ W (i + 1) m' σ' H') ∧ ∀ x H', (Ite K a).yld i H x H' → g x σ H' fun σ2 H2 => tb { D with nx := N, ct := N, bk := D.nx } σ2 H2) := by
  refine ⟨fun i m σ H => m = xs.length - i ∧ i ≤ xs.length ∧ Pv i σ H, ⟨xs.length, by simp, Nat.zero_le _, h0⟩, ?_⟩
  rintro i m σ H ⟨rfl, hi, p⟩
  have q := hl i σ H hi p
  by_cases hlt : i < xs.length
  · refine .inr ⟨⟨xs, xs[i], q, by simp [hlt]⟩, Pv (i + 1), fun σ' H' p' => ⟨xs.length - (i + 1), by omega, rfl, hlt, p'⟩, fun v H' y => ?_⟩
    obtain ⟨T, x, rfl, hn, rfl, hx⟩ := y
    exact hs i x σ H T (hx xs q) p hn
  · have e : i = xs.length := by omega
    subst e
    exact .inl ⟨⟨xs, q, Nat.le_refl _⟩, hd σ H p⟩
theorem eqva_ints : ∀ (xs ys : List Int), PyData.eqvAll (xs.map PyData.int) (ys.map PyData.int) = decide (xs = ys)
  | [], [] => by simp [PyData.eqvAll]
  | [], _ :: _ => by simp [PyData.eqvAll]
  | _ :: _, [] => by simp [PyData.eqvAll]
  | x :: xs, y :: ys => by
    rw [List.map_cons, List.map_cons]
    unfold PyData.eqvAll
    rw [eqva_ints xs ys]
    by_cases h : x = y
    · subst h
      simp [PyData.eqv]
    · simp [PyData.eqv, h]
theorem eqv_ints (xs ys : List Int) : PyData.eqv (.list (xs.map PyData.int)) (.list (ys.map PyData.int)) = decide (xs = ys) := by
  unfold PyData.eqv
  exact eqva_ints xs ys
theorem lay_all : ∀ xs : List Int, PyData.canLayAll0 (xs.map PyData.int) = true
  | [] => by simp [PyData.canLayAll0]
  | x :: xs => by
    rw [List.map_cons]
    unfold PyData.canLayAll0
    rw [lay_all xs]
    simp [PyData.canLay0]
theorem dep_all : ∀ xs : List Int, PyData.depthAll (xs.map PyData.int) = 0
  | [] => by simp [PyData.depthAll]
  | x :: xs => by
    rw [List.map_cons]
    unfold PyData.depthAll
    rw [dep_all xs]
    simp [PyData.depth]
theorem shaped_ints (xs : List Int) : SeqAt.shaped (.list (xs.map PyData.int)) = true := by
  unfold SeqAt.shaped
  simp [PyData.canLay0, PyData.depth, lay_all, dep_all]
theorem dp_ints {K : PySem.W.Frag} {H : Hp} {a : Addr} {ns : List Int} (h : SqL K H a (ns.map V.int)) : Dp K H (.ref a) (.list (ns.map PyData.int)) := by
  refine .lst h ?_
  clear h
  induction ns with
  | nil => exact .nil
  | cons n ns ih => exact .cons (.int n) ih
def iot (n : Nat) : List Int := (List.range n).map fun (i : Nat) => (i : Int)
theorem iot_len (n : Nat) : (iot n).length = n := by unfold iot; rw [List.length_map, List.length_range]
theorem iot_mem {n : Nat} {x : Int} : x ∈ iot n ↔ 0 ≤ x ∧ x < n := by
  unfold iot
  rw [List.mem_map]
  constructor
  · rintro ⟨i, hi, rfl⟩
    have := List.mem_range.mp hi
    omega
  · rintro ⟨h0, h1⟩
    exact ⟨x.toNat, List.mem_range.mpr (by omega), by omega⟩
theorem iot_nodup (n : Nat) : (iot n).Nodup := by
  unfold iot
  rw [List.nodup_iff_pairwise_ne, List.pairwise_map]
  exact List.Pairwise.imp (fun {a b} h e => h (by omega)) (List.nodup_range (n := n))
theorem range_iot (n : Nat) : rangeL 0 n = (iot n).map V.int := by
  unfold rangeL iot
  rw [List.map_map]
  refine List.map_congr_left fun i _ => ?_
  show V.int (0 + (i : Int)) = V.int (i : Int)
  rw [Int.zero_add]
structure IsOrd (ns : List Int) : Prop where
  len : ns.length ≤ 40
  perm : ns.Perm (iot ns.length)
theorem IsOrd.nodup {ns : List Int} (h : IsOrd ns) : ns.Nodup := h.perm.nodup_iff.mpr (iot_nodup _)
theorem IsOrd.mem {ns : List Int} (h : IsOrd ns) {x : Int} : x ∈ ns ↔ 0 ≤ x ∧ x < ns.length := by rw [h.perm.mem_iff, iot_mem]
theorem iot_sorted (n : Nat) : (iot n).Pairwise (· ≤ ·) := by
  unfold iot
  rw [List.pairwise_map]
  exact List.Pairwise.imp (fun {a b} (h : a < b) => by omega) (List.pairwise_lt_range (n := n))
/-- where each thing stands; how far it moved -/
def bk (ns : List Int) : List Int := (iot ns.length).map fun t => (ns.idxOf t : Int)
def mv (ns : List Int) : List Int := (iot ns.length).map fun t => (ns.idxOf t : Int) - t
theorem sorted_same : ∀ {xs ys : List Int}, xs.Perm ys → xs.Pairwise (· ≤ ·) → ys.Pairwise (· ≤ ·) → xs = ys := fun p s t => p.eq_of_pairwise (fun a b _ _ h1 h2 => Int.le_antisymm h1 h2) s t
section
variable {X : Cx} {x : Str} {px p pos gpos : Pos} {elt iter : Expr} {scope : Scope} {ts : TE} {c T : Addr} {R : L2.St → Hp → V → Bool → Prop} {cl : List (Str × Addr)}
end
section
variable {X : Cx} {o e : Expr} {to : TE} {t : TA} {apos cpos : Pos}
theorem je_popAt (ho : JE X o to) (ha : JA X [e] t) (hbase : attributeBase o "pop" X.env (eval o X.env) = eval o X.env := by rfl)
    (hfew : ((backTo cpos (starEach [e] X.env)).all (fun x => !x.1) && (backToKw cpos (keywordEach [] X.env)).all (fun x => x.1.isSome) && decide ([e].length + ([] : List Keyword).length + (if ([] : List Keyword).isEmpty then 0 else 1) < 30)) = true := by rfl)
    (hline : (apos.endLine == cpos.line) = true := by rfl) (hs : starEach [e] X.env = (false, eval e X.env) :: starEach [] X.env := by rfl) (hplain : (backTo cpos (starEach [] X.env)).any (·.1) = false := by rfl) :
    JE X (.Call (.Attribute o "pop" apos) [e] [] cpos) (tBM X.K "list" rPopAt to t) := ⟨pe_bm PySem.F.plainAttrs_list PySem.F.slot_list_pop PySem.F.type_list_pop mt_popAt ho.p ha.p hbase hfew hline hs hplain⟩
theorem je_append (ho : JE X o to) (ha : JA X [e] t) (hbase : attributeBase o "append" X.env (eval o X.env) = eval o X.env := by rfl)
    (hfew : ((backTo cpos (starEach [e] X.env)).all (fun x => !x.1) && (backToKw cpos (keywordEach [] X.env)).all (fun x => x.1.isSome) && decide ([e].length + ([] : List Keyword).length + (if ([] : List Keyword).isEmpty then 0 else 1) < 30)) = true := by rfl)
    (hline : (apos.endLine == cpos.line) = true := by rfl) (hs : starEach [e] X.env = (false, eval e X.env) :: starEach [] X.env := by rfl) (hplain : (backTo cpos (starEach [] X.env)).any (·.1) = false := by rfl) :
    JE X (.Call (.Attribute o "append" apos) [e] [] cpos) (tBM X.K "list" rAppend to t) := ⟨pe_bm PySem.F.plainAttrs_list PySem.F.slot_list_append PySem.F.type_list_append mt_append ho.p ha.p hbase hfew hline hs hplain⟩
theorem je_index (ho : JE X o to) (ha : JA X [e] t) (hbase : attributeBase o "index" X.env (eval o X.env) = eval o X.env := by rfl)
    (hfew : ((backTo cpos (starEach [e] X.env)).all (fun x => !x.1) && (backToKw cpos (keywordEach [] X.env)).all (fun x => x.1.isSome) && decide ([e].length + ([] : List Keyword).length + (if ([] : List Keyword).isEmpty then 0 else 1) < 30)) = true := by rfl)
    (hline : (apos.endLine == cpos.line) = true := by rfl) (hs : starEach [e] X.env = (false, eval e X.env) :: starEach [] X.env := by rfl) (hplain : (backTo cpos (starEach [] X.env)).any (·.1) = false := by rfl) :
    JE X (.Call (.Attribute o "index" apos) [e] [] cpos) (tBM X.K "list" (rIndex X.K) to t) := ⟨pe_bm PySem.F.plainAttrs_list PySem.F.slot_list_index PySem.F.type_list_index mt_index ho.p ha.p hbase hfew hline hs hplain⟩
end
def rLenK (K : PySem.W.Frag) : List V → Hp → VK → Prop := fun xs H Q => ∃ p ys, xs = [.ref p] ∧ (SqL K H p ys ∨ SqT K H p ys) ∧ Q (.int ((ys.length : Nat) : Int)) H
theorem call_len_K {X : Cx} {K : PySem.W.Frag} (hK : X.K = K) : CallR X (.builtin "len") (rLenK K) := by subst hK; exact call_len_seq
section
variable {X : Cx} {K : PySem.W.Frag} {o e : Expr} {to : TE} {t : TA} {apos cpos : Pos}
theorem je_popAtK (hK : X.K = K) (ho : JE X o to) (ha : JA X [e] t) (hbase : attributeBase o "pop" X.env (eval o X.env) = eval o X.env := by rfl)
    (hfew : ((backTo cpos (starEach [e] X.env)).all (fun x => !x.1) && (backToKw cpos (keywordEach [] X.env)).all (fun x => x.1.isSome) && decide ([e].length + ([] : List Keyword).length + (if ([] : List Keyword).isEmpty then 0 else 1) < 30)) = true := by rfl)
    (hline : (apos.endLine == cpos.line) = true := by rfl) (hs : starEach [e] X.env = (false, eval e X.env) :: starEach [] X.env := by rfl) (hplain : (backTo cpos (starEach [] X.env)).any (·.1) = false := by rfl) :
    JE X (.Call (.Attribute o "pop" apos) [e] [] cpos) (tBM K "list" rPopAt to t) := by subst hK; exact je_popAt ho ha hbase hfew hline hs hplain
end
end NP
set_option Elab.async false
set_option linter.all false
set_option maxRecDepth 100000
namespace NP
open PySem PySem.Spec PyProof.Rows L2
theorem itT {c : Bool} {A B : Prop} (h : c = true) (a : A) : if c = true then A else B := by rw [if_pos h]; exact a
theorem itF {c : Bool} {A B : Prop} (h : c = false) (b : B) : if c = true then A else B := by rw [if_neg (by rw [h]; exact Bool.false_ne_true)]; exact b
def whole : PyData → Bool
  | .int _ => true
  | _ => false
def betw (lo hi : Int) : PyData → Bool
  | .int i => decide (lo ≤ i) && decide (i ≤ hi)
  | _ => false
def reachD : PyData → Bool
  | .tuple ds => decide (ds.length = 2) && ds.all (betw 0 3)
  | _ => false
theorem same_new {H : Hp} {p : Addr} (h : H p = none) (o : HO) : Same H (upd H p o) := fun b u q => by rw [upd_ne (ne_of_none q h)]; exact q
/-- a new object, whatever its address -/
theorem alloc {H : Hp} {o : HO} {G : V → Hp → Prop} (h : ∀ (p : Addr) (H' : Hp), Same H H' → H' p = some o → H p = none → G (.ref p) H') : ∀ p, H p = none → G (.ref p) (upd H p o) := fun p hp => h p _ (same_new hp o) upd_same hp
/-- names of built-ins that the text does not take -/
structure Mg (mg : Str → Option Value) : Prop where
  isi : mg "isinstance" = none
  int : mg "int" = none
  bool : mg "bool" = none
  tuple : mg "tuple" = none
  list : mg "list" = none
  all : mg "all" = none
  len : mg "len" = none
  repr : mg "repr" = none
  dict : mg "dict" = none
  range : mg "range" = none

def spWhole (K : PySem.W.Frag) : Sp := fun vs H Q _ => ∃ x d, vs = [x] ∧ Th K H x d ∧ Q (.bl (whole d)) H
def spBetw (K : PySem.W.Frag) : Sp := fun vs H Q _ => ∃ x d lo hi, vs = [x, .int lo, .int hi] ∧ Th K H x d ∧ Q (.bl (betw lo hi d)) H
def spReach (K : PySem.W.Frag) (T : Addr) : Sp := fun vs H Q _ => ∃ x d, vs = [x] ∧ Th K H x d ∧ H T = some (TabP T) ∧ Q (.bl (reachD d)) H
section
variable {X : Cx}
theorem pe_ty {n : String} {x : Str} {pos : Pos} (hg : Gl X x) (hm : X.mg x = none) (hv : bootBuiltins x = some (.type n)) (hn : x ≠ "__name__" := by decide) (hd : (x == ("__debug__" : Str)) = false := by decide) : PE X (.Name x pos) (tC (.ty n)) :=
  pe_bltn hg hm hv rfl hn hd
end
end NP
namespace NP
open PySem PySem.Spec PyProof.Rows L2
end NP
namespace NP
open PySem PySem.Spec PyProof.Rows L2
/-- a well: what is left, the cell, how many draws were mixed -/
def WellAt (H : Hp) (p : Addr) (c n : Int) : Prop := ∃ z : Int, H p = some (.lst [.int z, .int c, .int n])
/-- all but the object at p is as it was -/
def SameBut (p : Addr) (H H' : Hp) : Prop := ∀ b o, b ≠ p → H b = some o → H' b = some o
theorem SameBut.trans {p : Addr} {H H1 H2 : Hp} (a : SameBut p H H1) (b : SameBut p H1 H2) : SameBut p H H2 := fun c o n h => b c o n (a c o n h)
theorem SameBut.then {p : Addr} {H H1 H2 : Hp} (a : SameBut p H H1) (b : Same H1 H2) : SameBut p H H2 := fun c o n h => b c o (a c o n h)
theorem Same.but {p : Addr} {H H1 : Hp} (a : Same H H1) : SameBut p H H1 := fun c o _ h => a c o h
theorem emod_range {a m : Int} (h : 0 < m) : 0 ≤ a % m ∧ a % m < m := ⟨Int.emod_nonneg _ (by omega), Int.emod_lt_of_pos _ h⟩
end NP
namespace NP
open PySem PySem.Spec PyProof.Rows L2
end NP
namespace NP
open PySem PySem.Spec PyProof.Rows L2
theorem atI_in {α : Type} {xs : List α} {r : Int} (h0 : 0 ≤ r) (h1 : r < (xs.length : Int)) : ∃ v, atI xs r = some v ∧ v ∈ xs := by
  have hk : r.toNat < xs.length := by omega
  have e : r = ((r.toNat : Nat) : Int) := by omega
  have q : atI xs ((r.toNat : Nat) : Int) = some xs[r.toNat] := atI_nat (List.getElem?_eq_getElem hk)
  rw [← e] at q
  exact ⟨_, q, List.getElem_mem hk⟩
theorem new_at {H : Hp} {p : Addr} (_ : H p = none) (o : HO) : upd H p o p = some o := upd_same
end NP
namespace NP
open PySem PySem.Spec PyProof.Rows L2
def spLaw (K : PySem.W.Frag) (tabs : List (Addr × Addr)) : Sp := fun vs H Q _ => ∃ (a : Addr) (ns : List Int), vs = [.ref a] ∧ SqL K H a (ns.map V.int) ∧ ns.length ≤ 63 ∧ (∀ p ∈ tabs, H p.2 = some (TabP p.2)) ∧ ∀ H', Same H H' → Q (.bl true) H'
theorem cut_ints {ns : List Int} {lo hi : Option Int} {x : V} (h : x ∈ cutV (ns.map V.int) lo hi) : ∃ z : Int, x = .int z := by
  unfold cutV at h
  have h1 := List.mem_of_mem_drop (List.mem_of_mem_take h)
  obtain ⟨z, _, e⟩ := List.mem_map.mp h1
  exact ⟨z, e.symm⟩
end NP
namespace NP
open PySem PySem.Spec PyProof.Rows L2
/-- a def as it stands behind the top: its name leads to it, its record, its code, and that it is kept -/
structure DefAt (K : PySem.W.Frag) (x : Str) (st : Stmt) (f : Addr) (fd : FuncData) : Prop where
  ns : PySem.W.nsIn K mainGlobals x = some (some (.ref f))
  fn : Fun K x x st f fd
theorem defAt {K : PySem.W.Frag} {x : Str} {st : Stmt} {f : Addr} {oc : Value} {od an : Option Addr} {osl : Array (Option Value)} {kV doc pm cdv ct : Value} (a : PySem.W.nsIn K mainGlobals x = some (some (.ref f)))
    (l : K.lookup f = some ⟨oc, od, .func (PySem.W.fnOf x x (defArgs st) (defBody st) (defScope st) .none kV doc pm an cdv ct), osl⟩) (c : PySem.W.codeIn K cdv x = true) (k : PySem.W.keepIn K (.ref f) = true) :
    DefAt K x st f (PySem.W.fnOf x x (defArgs st) (defBody st) (defScope st) .none kV doc pm an cdv ct) := ⟨a, fun_mk (st := st) l c k⟩
theorem DefAt.code {K : PySem.W.Frag} {h : Heap} {mg : Str → Option Value} {x : Str} {st : Stmt} {f c : Addr} {fd : FuncData} (D : DefAt K x st f fd) (X : K.In h) (G : h.Ns mainGlobals mg) (t : TabOf h mg x c) : fd.code = .ref c := by
  obtain ⟨a, o, fd', e1, e2, e3, e4⟩ := t
  have e := e1.symm.trans (PySem.W.mg_of X G D.ns)
  cases e
  obtain ⟨oc, od, kV, doc, pm, an, cdv, ct, osl, rfl, lk, _⟩ := D.fn.ex
  have e5 := X _ _ lk
  rw [e2] at e5
  cases e5
  cases e3
  exact e4
theorem walkL {l : PySem.W.OpenLaw} {q : Program} {loose : List Str} {XP : (Str → Option Value) → Heap → Prop} {YP : World → Heap → Prop} {d : DefRec} {K : Params → PySem.W.Frag} (names : List Str) (hn : l.most = some 63) (hdf : d.params.defaults = [])
    (hrec : ∀ m ∈ names, ((recsOf q).find? fun e => e.name == m).isSome = true) (hY : ∀ (w : World) (h : Heap), YP w h → (K w.params).In h) (kc : ∀ w : World, PySem.W.kb_classed (K w.params) = true)
    (F : ∀ (w : World) (mg : Str → Option Value) (fa : Addr) (h : Heap) (tabs : List (Addr × Addr)), (K w.params).In h → h.Ns mainGlobals mg → mg d.name = some (.ref fa) → Paired (fun n p => TabOf h mg n p.1) names tabs →
      ∃ fd : FuncData, (∀ (s : Shared) (u : Value), BindsTo s fd ⟨[u], []⟩ [("script", u)]) ∧
        ∀ base : Heap, (K w.params).In base → base.Ns mainGlobals mg → (∀ p ∈ tabs, CodeB base mg p.1 p.2) → FnOk l.prog w (K w.params) mg base CX0 20 fa fd ["script"] (spLaw (K w.params) tabs)) :
    PySem.W.WalkO q loose XP YP l.row.toRowW d [] (fun f vs => PySem.call f vs) :=
  walk_ofT (n := 63) (k := 20) (x := "script") (sp := fun w tabs => spLaw (K w.params) tabs) names hn (by decide) hdf ⟨rfl, by decide, by decide⟩ hrec hY kc F
    fun w H a ns tabs hl hS hT => ⟨a, ns, rfl, hS, hl, hT, fun H' e => ⟨rfl, fun p hp => e _ _ (hT p hp)⟩⟩
end NP
set_option Elab.async false
set_option linter.all false
set_option maxRecDepth 100000
namespace NP
open PySem PySem.Spec PyProof.Rows L2
structure Mg2 (mg : Str → Option Value) : Prop where
  base : Mg mg
  sorted : mg "sorted" = none
  enumerate : mg "enumerate" = none
  min : mg "min" = none
  max : mg "max" = none
/-- an order at a list -/
def OrdAt (K : PySem.W.Frag) (H : Hp) (v : V) (ns : List Int) : Prop := ∃ a, v = .ref a ∧ SqL K H a (ns.map V.int) ∧ IsOrd ns
theorem OrdAt.same {K : PySem.W.Frag} {H H' : Hp} {v : V} {ns : List Int} (h : OrdAt K H v ns) (e : Same H H') : OrdAt K H' v ns := by
  obtain ⟨a, rfl, hS, ho⟩ := h
  exact ⟨a, rfl, e.seq hS, ho⟩
theorem ixN_at {n : Nat} {i : Int} (h0 : 0 ≤ i) (h1 : i < n) : ixN n i = some i.toNat := by
  unfold ixN
  rw [if_pos h0, if_pos h1]
def spIsOrd (K : PySem.W.Frag) (T : Addr) : Sp := fun vs H Q _ => ∃ v ns, vs = [v] ∧ OrdAt K H v ns ∧ H T = some (TabP T) ∧ ∀ H', Same H H' → Q (.bl true) H'
def spCheckO (K : PySem.W.Frag) (T : Addr) : Sp := fun vs H Q _ => ∃ v ns, vs = [v] ∧ OrdAt K H v ns ∧ H T = some (TabP T) ∧ ∀ H', Same H H' → Q .non H'
def spCheckR (K : PySem.W.Frag) (T : Addr) : Sp := fun vs H Q _ => ∃ x d, vs = [x] ∧ Th K H x d ∧ reachD d = true ∧ H T = some (TabP T) ∧ Q .non H
end NP
namespace NP
open PySem PySem.Spec PyProof.Rows L2
def IsMx (xs : List Int) (m : Int) : Prop := m ∈ xs ∧ ∀ y ∈ xs, y ≤ m
theorem IsMx.uniq {xs : List Int} {a b : Int} (h : IsMx xs a) (k : IsMx xs b) : a = b := Int.le_antisymm (k.2 a h.1) (h.2 b k.1)
def within (l r : Int) (xs : List Int) : Bool := xs.all fun m => decide (-l ≤ m) && decide (m ≤ r)
end NP
namespace NP
open PySem PySem.Spec PyProof.Rows L2
theorem perm_erase {α : Type} : ∀ {l : List α} {k : Nat} {y : α}, l[k]? = some y → (y :: l.eraseIdx k).Perm l
  | [], _, _, h => by simp at h
  | x :: l, 0, y, h => by
    have : x = y := by simpa using h
    subst this
    exact List.Perm.refl _
  | x :: l, k + 1, y, h => by
    have ih := perm_erase (l := l) (k := k) (y := y) (by simpa using h)
    show (y :: x :: l.eraseIdx k).Perm (x :: l)
    exact (List.Perm.swap x y _).trans (ih.cons x)
theorem len_erase1 {α : Type} {l : List α} {k : Nat} {y : α} (h : l[k]? = some y) : (l.eraseIdx k).length + 1 = l.length := by
  have := (perm_erase h).length_eq
  simpa using this
end NP
namespace NP
open PySem PySem.Spec PyProof.Rows L2
end NP
namespace NP
open PySem PySem.Spec PyProof.Rows L2
end NP
namespace NP
open PySem PySem.Spec PyProof.Rows L2
end NP
set_option Elab.async false
set_option linter.all false
set_option maxRecDepth 100000
namespace NP
open PySem PySem.Spec PyProof.Rows L2
/-- the one holds what the other holds, turned about -/
def NegSet (xs ys : List Int) : Prop := ∀ x, x ∈ xs ↔ -x ∈ ys
theorem NegSet.within {xs ys : List Int} (h : NegSet xs ys) (l r : Int) : within l r xs = within r l ys := by
  unfold NP.within
  rw [Bool.eq_iff_iff, List.all_eq_true, List.all_eq_true]
  constructor
  · intro a x hx
    have := a (-x) ((h (-x)).mpr (by rw [Int.neg_neg]; exact hx))
    rw [Bool.and_eq_true, decide_eq_true_eq, decide_eq_true_eq] at this ⊢
    omega
  · intro a x hx
    have := a (-x) ((h x).mp hx)
    rw [Bool.and_eq_true, decide_eq_true_eq, decide_eq_true_eq] at this ⊢
    omega
section
variable {X : Cx} {e a b : Expr} {es : List Expr} {tf : TE} {t : TA} {p1 pos : Pos} {R : Addr → Sp → Prop}
end
end NP
set_option Elab.async false
set_option linter.all false
set_option maxRecDepth 100000
namespace NP
open PySem PySem.Spec PyProof.Rows L2
/-- the enumerate object, when it has drawn i pairs: nothing handed out yet, or one pair that is still there -/
inductive EnS (h : Heap) (e it : Addr) (i : Nat) : Prop
  | new : IsEnum h e it (i : Int) .none → EnS h e it i
  | out {a : Addr} {b : Bool} {y : Value} {o : Obj} : h.get? e = some { cls := .type "enumerate", dict := none, data := .fields #[rawInt (a : Int), .bool b, .ref it, rawInt (i : Int), .none, y], slots := #[] } → h.get? a = some o → a ≠ e → a ≠ it → EnS h e it i
section
variable {prog : Program} {w : World} {A : Around} {E : Value → Shared → Prop} {s : Shared}
end
end NP
set_option Elab.async false
set_option linter.all false
set_option maxRecDepth 100000
namespace NP
open PySem PySem.Spec PyProof.Rows L2
section
variable {prog : Program} {w : World} {A : Around} {E : Value → Shared → Prop} {s : Shared}
end
end NP
set_option Elab.async false
set_option linter.all false
set_option maxRecDepth 100000
namespace NP
open PySem PySem.Spec PyProof.Rows L2
theorem EnS.stay {h h' : Heap} {e it S : Addr} {i : Nat} (x : EnS h e it i) (k : ∀ c o, c ≠ S → h.get? c = some o → h'.get? c = some o) (hS : ∃ o, h'.get? S = some o) (ne : e ≠ S) : EnS h' e it i := by
  cases x with
  | new q => exact .new (k e _ ne q)
  | @out a b y o q qa h1 h2 =>
    by_cases z : a = S
    · obtain ⟨o', ho⟩ := hS
      exact .out (k e _ ne q) (by rw [z]; exact ho) h1 h2
    · exact .out (k e _ ne q) (k a o z qa) h1 h2
section
variable {prog : Program} {w : World} {A : Around} {E : Value → Shared → Prop}
end
/-- the pairs of a list with its places -/
def enK : Nat → List V → List (Key × V)
  | _, [] => []
  | i, x :: xs => (Sum.inl (i : Int), x) :: enK (i + 1) xs
end NP
set_option Elab.async false
set_option linter.all false
set_option maxRecDepth 100000
namespace NP
open PySem PySem.Spec PyProof.Rows L2
def SameEx (X : Addr → Prop) (H H' : Hp) : Prop := ∀ b o, ¬ X b → H b = some o → H' b = some o
def St (K : PySem.W.Frag) (X : Addr → Prop) (n k : Nat) (H : Hp) (v : V) : Prop := ∀ H', SameEx X H H' → Gd K H' n k v
/-- an item of a list that is built; a thing -/
abbrev Oi (K : PySem.W.Frag) (X : Addr → Prop) (H : Hp) (v : V) : Prop := St K X 400 3 H v
abbrev Ot (K : PySem.W.Frag) (X : Addr → Prop) (H : Hp) (v : V) : Prop := St K X 200000 6 H v
theorem SameEx.trans {X : Addr → Prop} {H H1 H2 : Hp} (a : SameEx X H H1) (b : SameEx X H1 H2) : SameEx X H H2 := fun c o n h => b c o n (a c o n h)
theorem Same.ex {X : Addr → Prop} {H H1 : Hp} (a : Same H H1) : SameEx X H H1 := fun c o _ h => a c o h
theorem SameBut.ex {X : Addr → Prop} {p : Addr} {H H1 : Hp} (a : SameBut p H H1) (h : X p) : SameEx X H H1 := fun c o n q => a c o (fun z => n (by rw [z]; exact h)) q
section
variable {K : PySem.W.Frag} {X Y : Addr → Prop} {a : Addr} {n k : Nat} {H H1 : Hp} {v : V}
theorem St.le {n' k' : Nat} (h : St K X n k H v) (h1 : n ≤ n') (h2 : k ≤ k') : St K X n' k' H v := fun H' s => (h H' s).le h1 h2
theorem St.mono (h : St K X n k H v) (s : SameEx X H H1) : St K X n k H1 v := fun H' t => h H' (s.trans t)
theorem St.same (h : St K X n k H v) (s : Same H H1) : St K X n k H1 v := h.mono (Same.ex s)
theorem St.but {p : Addr} (h : St K X n k H v) (s : SameBut p H H1) (hp : X p) : St K X n k H1 v := h.mono (s.ex hp)
theorem St.sub (h : St K Y n k H v) (s : ∀ b, X b → Y b) : St K X n k H v := fun H' t => h H' fun b o nb e => t b o (fun z => nb (s b z)) e
/-- one more object may change: it is new -/
theorem St.grow {l : Addr} (h : St K X n k H v) (hl : H l = none) (s : Same H H1) : St K (fun b => X b ∨ b = l) n k H1 v := fun H' t => h H' fun b o nb e => t b o (fun z => z.elim nb fun y => by rw [y, hl] at e; cases e) (s b o e)
theorem St.gd (h : St K X n k H v) : Gd K H n k v := h H fun _ _ _ e => e
theorem st_lst {c : Nat} {xs : List V} (h : H a = some (.lst xs)) (ne : ¬ X a) (hx : ∀ v ∈ xs, St K X n k H v) (hc : xs.length ≤ c) : St K X ((n + 2) * c + 4) (k + 1) H (.ref a) := fun H' s => gd_lst (SqL.of (s a _ ne h)) (fun v hv => hx v hv H' s) hc
/-- a list of at most hundred items is a thing -/
theorem ot_lst {xs : List V} (h : H a = some (.lst xs)) (ne : ¬ X a) (hx : ∀ v ∈ xs, Oi K X H v) (hc : xs.length ≤ 100) : Ot K X H (.ref a) := (st_lst h ne hx hc).le (by decide) (by decide)
/-- dicts of ints, bounded -/
def IntKV (kvs : List (Key × V)) (c : Nat) (b : Int) : Prop := ∃ kis : List (Int × Int), kvs = kis.map (fun q => ((Sum.inl q.1 : Key), V.int q.2)) ∧ kis.length ≤ c ∧ ∀ q ∈ kis, 0 ≤ q.1 ∧ q.1 ≤ b ∧ 0 ≤ q.2 ∧ q.2 ≤ b
theorem IntKV.put {kvs : List (Key × V)} {c : Nat} {b i j : Int} (h : IntKV kvs c b) (hi0 : 0 ≤ i) (hi : i ≤ b) (hj0 : 0 ≤ j) (hj : j ≤ b) : IntKV (putK kvs (Sum.inl i) (.int j)) (c + 1) b := by
  obtain ⟨kis, rfl, hc, hb⟩ := h
  unfold putK
  split
  · refine ⟨kis.map fun q => if q.1 = i then (q.1, j) else q, ?_, by rw [List.length_map]; omega, fun q hq => ?_⟩
    · rw [List.map_map, List.map_map]
      refine List.map_congr_left fun q _ => ?_
      show (if ((Sum.inl q.1 : Key) = Sum.inl i) then ((Sum.inl q.1 : Key), V.int j) else ((Sum.inl q.1 : Key), V.int q.2)) = _
      by_cases e : q.1 = i
      · rw [if_pos (by rw [e])]
        show _ = ((Sum.inl (if q.1 = i then (q.1, j) else q).1 : Key), V.int (if q.1 = i then (q.1, j) else q).2)
        rw [if_pos e]
      · rw [if_neg (fun z => e (Sum.inl.inj z))]
        show _ = ((Sum.inl (if q.1 = i then (q.1, j) else q).1 : Key), V.int (if q.1 = i then (q.1, j) else q).2)
        rw [if_neg e]
    · obtain ⟨r, hr, rfl⟩ := List.mem_map.mp hq
      have := hb r hr
      split
      · exact ⟨this.1, this.2.1, hj0, hj⟩
      · exact this
  · refine ⟨kis ++ [(i, j)], by rw [List.map_append]; rfl, by rw [List.length_append]; exact Nat.add_le_add_right hc 1, fun q hq => ?_⟩
    rcases List.mem_append.mp hq with hq | hq
    · exact hb q hq
    · rw [List.mem_singleton.mp hq]; exact ⟨hi0, hi, hj0, hj⟩
theorem IntKV.merge {b : Int} : ∀ (ns : List Int) (i c : Nat) (kvs : List (Key × V)), IntKV kvs c b → (∀ x ∈ ns, 0 ≤ x ∧ x ≤ b) → ((i + ns.length : Nat) : Int) ≤ b + 1 → IntKV (mergeK kvs (enK i (ns.map V.int))) (c + ns.length) b
  | [], i, c, kvs, h, _, _ => h
  | n :: ns, i, c, kvs, h, hn, hb => by
    rw [List.length_cons] at hb ⊢
    have h1 := hn n (.head _)
    have step := h.put (i := (i : Int)) (j := n) (by omega) (by omega) h1.1 h1.2
    have := IntKV.merge ns (i + 1) (c + 1) _ step (fun x hx => hn x (.tail _ hx)) (by rw [show i + 1 + ns.length = i + (ns.length + 1) by omega]; exact hb)
    rw [show c + (ns.length + 1) = c + 1 + ns.length by omega]
    exact this
end
section
variable {X : Cx} {o e f : Expr} {td ty tx : TE} {apos cpos : Pos}
theorem je_get2 (hu : X.A.units + 1 < cLine) (ho : JE X o td) (he : JE X e ty) (hf : JE X f tx) (m : M2 X o "get" apos e f cpos) : JE X (.Call (.Attribute o "get" apos) [e, f] [] cpos) (tDGet2 td ty tx) := ⟨pe_dget2 hu ho.p he.p hf.p m⟩
end
end NP
set_option Elab.async false
set_option linter.all false
set_option maxRecDepth 100000
namespace NP
open PySem PySem.Spec PyProof.Rows L2
def numD : PyData → Int
  | .int i => i
  | _ => 0
def isP (ns : List Int) : Bool := decide (ns.Perm (iot ns.length))
def isOrdD : PyData → Bool
  | .list ds => decide (ds.length ≤ 40) && (ds.all whole && isP (ds.map numD))
  | _ => false
theorem ints_of : ∀ {ds : List PyData}, ds.all whole = true → ds = (ds.map numD).map PyData.int
  | [], _ => rfl
  | d :: ds, h => by
    rw [List.all_cons, Bool.and_eq_true] at h
    rw [List.map_cons, List.map_cons, ← ints_of h.2]
    cases d with
    | int i => rfl
    | _ => exact absurd h.1 Bool.false_ne_true
theorem th_int {K : PySem.W.Frag} {H : Hp} {v : V} {i : Int} (h : Th K H v (.int i)) : v = .int i := by
  cases h with
  | dp h => cases h; rfl
theorem tha_ints {K : PySem.W.Frag} {H : Hp} : ∀ {xs : List V} {ns : List Int}, ThAll K H xs (ns.map PyData.int) → xs = ns.map V.int
  | _, [], h => by cases h; rfl
  | _, n :: ns, h => by
    rw [List.map_cons] at h
    cases h with
    | cons h1 h2 => rw [th_int h1, tha_ints h2]; rfl
def spIsO (K : PySem.W.Frag) (T : Addr) : Sp := fun vs H Q _ => ∃ x d, vs = [x] ∧ Th K H x d ∧ H T = some (TabP T) ∧ ∀ H', Same H H' → Q (.bl (isOrdD d)) H'
end NP
set_option Elab.async false
set_option linter.all false
set_option maxRecDepth 100000
namespace NP
open PySem PySem.Spec PyProof.Rows L2
theorem obj_there {P : Program} {w : World} {H : Hp} {h : Heap} {a : Addr} {u : HO} (x : ObjOk P w H h a u) : ∃ o, h.get? a = some o := by
  cases u with
  | lst xs => obtain ⟨_, _, _, _, e⟩ := x; exact ⟨_, e⟩
  | tup xs => obtain ⟨_, _, _, o, e, _⟩ := x; exact ⟨_, e⟩
  | dK kvs => obtain ⟨_, _, _, _, o, _, _, e, _⟩ := x; exact ⟨_, e⟩
  | dT kvs => obtain ⟨_, _, _, _, o, _, _, e, _⟩ := x; exact ⟨_, e⟩
  | set S n => obtain ⟨o, _, _, _, e, _⟩ := x; exact ⟨_, e⟩
  | ins C dx fs => obtain ⟨_, _, _, e, _⟩ := x; exact ⟨_, e⟩
  | own y => obtain ⟨_, e⟩ := x; exact ⟨_, e⟩
  | xd fs => obtain ⟨_, ⟨_, _, _, e, _⟩, _⟩ := x; exact ⟨_, e⟩
  | rng lo hi => obtain ⟨_, _, _, e⟩ := x; exact ⟨_, e⟩
  | frz ob u => obtain ⟨e, _⟩ := x; exact ⟨_, e⟩
  | tbl ps => exact ⟨_, (show h.get? a = some _ from x)⟩
  | met f y => exact ⟨_, (show h.get? a = some _ from x)⟩
  | ext φ => obtain ⟨_, ⟨o, e⟩, _⟩ := x; exact ⟨o, e⟩
def ExAt (h : Heap) (ea T C : Addr) : Prop := ∃ oe vs a0, h.get? ea = some oe ∧ oe.cls = .ref C ∧ oe.data = .fields vs ∧ vs[0]? = some a0 ∧ vs[1]? = some (Value.ref T)
def TbAt (h : Heap) (T : Addr) : Prop := ∃ oT ts, h.get? T = some oT ∧ oT.data = .fields ts ∧ ts[3]? = some Value.none
def exO (ea T C : Addr) : HO := .ext fun h => ExAt h ea T C
def tbO (T : Addr) : HO := .ext fun h => TbAt h T
def xH (H : Hp) (ea T C : Addr) : Hp := upd (upd H T (tbO T)) ea (exO ea T C)
section
variable {P : Program} {w : World} {H H1 : Hp} {h h' : Heap} {ea T T' C : Addr}
theorem xH_ea : xH H ea T C ea = some (exO ea T C) := upd_same
theorem xH_T (ne : ea ≠ T) : xH H ea T C T = some (tbO T) := by
  unfold xH
  rw [upd_ne ne.symm, upd_same]
theorem xH_ne {b : Addr} (h1 : b ≠ ea) (h2 : b ≠ T) : xH H ea T C b = H b := by
  unfold xH
  rw [upd_ne h1, upd_ne h2]
theorem xH_none {b : Addr} (e : xH H ea T C b = none) (ne : ea ≠ T) : b ≠ ea ∧ b ≠ T ∧ H b = none := by
  have n1 : b ≠ ea := fun z => by rw [z, xH_ea] at e; cases e
  have n2 : b ≠ T := fun z => by rw [z, xH_T ne] at e; cases e
  rw [xH_ne n1 n2] at e
  exact ⟨n1, n2, e⟩
theorem xH_of {b : Addr} {u : HO} (h1 : H ea = none) (h2 : H T = none) (e : H b = some u) : xH H ea T C b = some u := by
  rw [xH_ne (ne_of_none e h1) (ne_of_none e h2)]
  exact e
theorem ex_of (ok : HOk P w (xH H ea T C) h) : ExAt h ea T C := (ok ea _ xH_ea).1
theorem tb_of (ok : HOk P w (xH H ea T C) h) (ne : ea ≠ T) : TbAt h T := (ok T _ (xH_T ne)).1
/-- what is tracked beside an exception -/
theorem xH_mk (k : ∀ b u, H1 b = some u → ObjOk P w H1 h b u) (h1 : H1 ea = none) (h2 : H1 T = none) (ne : ea ≠ T) (x : ExAt h ea T C) (y : TbAt h T) : HOk P w (xH H1 ea T C) h := by
  intro b u e
  by_cases n1 : b = ea
  · subst n1
    rw [xH_ea] at e
    cases e
    obtain ⟨oe, vs, a0, e1, e2⟩ := x
    exact ⟨⟨oe, vs, a0, e1, e2⟩, ⟨oe, e1⟩, fun _ _ ⟨oe, vs, a0, e1, e2⟩ kk => ⟨oe, vs, a0, kk _ e1, e2⟩⟩
  · by_cases n2 : b = T
    · subst n2
      rw [xH_T ne] at e
      cases e
      obtain ⟨oT, ts, e1, e2⟩ := y
      exact ⟨⟨oT, ts, e1, e2⟩, ⟨oT, e1⟩, fun _ _ ⟨oT, ts, e1, e2⟩ kk => ⟨oT, ts, kk _ e1, e2⟩⟩
    · rw [xH_ne n1 n2] at e
      exact (k b u e).stay (fun _ _ _ q => q) (fun c q => xH_of h1 h2 q) fun c xs q => xH_of h1 h2 q
theorem xH_un (ok : HOk P w (xH H1 ea T C) h) (h1 : H1 ea = none) (h2 : H1 T = none) : HOk P w H1 h := fun b u e =>
  (ok b u (xH_of h1 h2 e)).stay (fun _ _ _ q => q) (fun c q => by
    by_cases n1 : c = ea
    · rw [n1, xH_ea] at q; cases q
    · by_cases n2 : c = T
      · by_cases ne : ea = T
        · exact absurd (n2.trans ne.symm) n1
        · rw [n2, xH_T ne] at q; cases q
      · rw [xH_ne n1 n2] at q; exact q) fun c xs q => by
    by_cases n1 : c = ea
    · rw [n1, xH_ea] at q; cases q
    · by_cases n2 : c = T
      · by_cases ne : ea = T
        · exact absurd (n2.trans ne.symm) n1
        · rw [n2, xH_T ne] at q; cases q
      · rw [xH_ne n1 n2] at q; exact q
/-- one step behind the other; what the second one spares was not there ahead of the first -/
theorem Un.join {fs fs2 ex : List Addr} {H H1 H2 : Hp} {h h1 h2 : Heap} (a : Un fs [] H H1 h h1) (b : Un fs2 ex H1 H2 h1 h2) (hf : ∀ x ∈ fs2, x ∈ fs ∨ h.get? x = none) (hx : ∀ x ∈ ex, h.get? x = none) : Un fs [] H H2 h h2 := by
  have ne : ∀ c o, h.get? c = some o → c ∉ ex := fun c o q z => by rw [hx c z] at q; cases q
  refine ⟨fun c ob q n hc _ => ?_, fun c ob q n hc _ => ?_, fun c ob q n _ => ?_, fun c ob q _ => ?_, fun c xs q => b.tups c xs (a.tups c xs q), fun c ob xs q => b.frzs c ob xs (a.frzs c ob xs q), fun c ps q => ?_⟩
  · exact b.keep c ob (a.keep c ob q n hc (by simp)) (a.free c ob q n (by simp)) (fun z => (hf c z).elim hc fun y => by rw [y] at q; cases q) (ne c ob q)
  · obtain ⟨sl, e1⟩ := a.slot c ob q n hc (by simp)
    obtain ⟨sl', e2⟩ := b.any e1 (a.free c ob q n (by simp)) (ne c ob q)
    exact ⟨sl', e2⟩
  · obtain ⟨o', e1⟩ := a.there c ob q (by simp)
    exact b.free c o' e1 (a.free c ob q n (by simp)) (ne c ob q)
  · obtain ⟨o', e1⟩ := a.there c ob q (by simp)
    exact b.there c o' e1 (ne c ob q)
  · obtain ⟨m1, e1⟩ := a.tbls c ps q
    obtain ⟨m2, e2⟩ := b.tbls c _ e1
    exact ⟨m1 ++ m2, by rw [e2, Array.append_assoc]⟩
/-- behind a step that changed the exception, its traceback and the frames' slots alone -/
theorem after_g {l : List Env} {base0 : Heap} {a0 : Value} (hl : h.FunFrames base0 l) (hfree : ∀ b ∈ frs l, xH H1 ea T C b = none) (hok : HOk P w (xH H1 ea T C) h) (h1 : H1 ea = none) (h2 : H1 T = none) (ne : ea ≠ T)
    (st : (PySem.W.hideAll h (ea :: T :: frs l)).StaysIn h') (tr : h'.TracedW (PySem.W.hideAll h (ea :: T :: frs l)) ea (.ref C) a0) (up : h.UpToSlots h') :
    ∃ T', H1 T' = none ∧ ea ≠ T' ∧ (T' = T ∨ h.get? T' = none) ∧ Un (frs l) [T] (xH H1 ea T C) (xH H1 ea T' C) h h' ∧ HOk P w (xH H1 ea T' C) h' := by
  obtain ⟨oe, vs, T', oT, ts, e1, ⟨c1, c2⟩, d1, v1, g1, n1, e2, d2, t3⟩ := tr
  have keep : ∀ b o, b ≠ ea → b ≠ T → b ∉ frs l → h.get? b = some o → h'.get? b = some o := fun b o z1 z2 z3 q =>
    st b o (PySem.W.hideAll_get _ q fun z => by
      rcases List.mem_cons.mp z with y | y
      · exact z1 y
      · rcases List.mem_cons.mp y with y | y
        · exact z2 y
        · exact z3 y)
  have slot : ∀ b o, b ∈ frs l → h.get? b = some o → ∃ sl, h'.get? b = some { o with slots := sl } := fun b o hb q => by
    obtain ⟨_, o', q', hd⟩ := hl.mem hb
    rw [q] at q'; cases q'
    exact up b o q hd
  have nfr : T' ∉ frs l := fun hb => by
    obtain ⟨_, o', q', hd⟩ := hl.mem hb
    obtain ⟨sl, q⟩ := up T' o' q' hd
    rw [e2] at q; cases q
    exact hd ts d2
  have alt : T' = T ∨ h.get? T' = none := by
    by_cases z : T' = T
    · exact .inl z
    · refine .inr ?_
      cases q : h.get? T' with
      | none => rfl
      | some o =>
        have := PySem.W.hideAll_get (ea :: T :: frs l) q fun y => by
          rcases List.mem_cons.mp y with y | y
          · exact n1 y
          · rcases List.mem_cons.mp y with y | y
            · exact z y
            · exact nfr y
        rw [g1] at this; cases this
  have hT' : H1 T' = none := by
    rcases alt with z | z
    · rw [z]; exact h2
    · cases q : H1 T' with
      | none => rfl
      | some u =>
        obtain ⟨o, ho⟩ := obj_there (hok T' u (xH_of h1 h2 q))
        rw [z] at ho; cases ho
  refine ⟨T', hT', Ne.symm n1, alt, ?_, ?_⟩
  · have of : ∀ {b : Addr}, xH H1 ea T C b = none → b ≠ ea ∧ b ≠ T ∧ H1 b = none := fun e => xH_none e ne
    refine ⟨fun b o q n hb _ => keep b o (of n).1 (of n).2.1 hb q, fun b o q n hb _ => slot b o hb q, fun b o q n hx => ?_, fun b o q hx => ?_, fun b xs q => ?_, fun b o u q => ?_, fun b ps q => ?_⟩
    · obtain ⟨z1, z2, z3⟩ := of n
      rw [xH_ne z1 fun z => ?_]
      · exact z3
      · rcases alt with y | y
        · exact z2 (z.trans y)
        · rw [← z, q] at y; cases y
    · by_cases z : b = ea
      · rw [z]; exact ⟨oe, e1⟩
      · have zT : b ≠ T := fun y => hx (by rw [y]; exact List.mem_singleton.mpr rfl)
        by_cases zf : b ∈ frs l
        · obtain ⟨sl, e⟩ := slot b o zf q
          exact ⟨_, e⟩
        · exact ⟨o, keep b o z zT zf q⟩
    all_goals
      have z1 : b ≠ ea := fun z => by rw [z, xH_ea] at q; cases q
      have z2 : b ≠ T := fun z => by rw [z, xH_T ne] at q; cases q
      rw [xH_ne z1 z2] at q
    · exact xH_of h1 hT' q
    · exact xH_of h1 hT' q
    · exact ⟨#[], by rw [xH_of h1 hT' q, Array.append_empty]⟩
  · refine xH_mk (fun b u q => ?_) h1 hT' (Ne.symm n1) ⟨oe, vs, a0, e1, c1, d1, c2, v1⟩ ⟨oT, ts, e2, d2, t3⟩
    refine (xH_un hok h1 h2 b u q).stay (fun c v hc e => ?_) (fun c q => q) fun c xs q => q
    have ok : ∀ {c : Addr} {v : HO}, H1 c = some v → ∀ o, h.get? c = some o → h'.get? c = some o := fun {c v} hq o e =>
      keep c o (ne_of_none hq h1) (ne_of_none hq h2) (fun z => by have := hfree c z; rw [xH_of h1 h2 hq] at this; cases this) e
    rcases hc with rfl | hc
    · exact ok q v e
    · exact ok hc v e
end
end NP
set_option Elab.async false
set_option linter.all false
set_option maxRecDepth 100000
namespace NP
open PySem PySem.Spec PyProof.Rows L2
section
variable {P : Program} {w : World} {M : Model} {A : Around} {E : Value → Shared → Prop} {H1 : Hp} {s : Shared} {ea T C L : Addr} {env : Env} {outer : List Env} {base0 : Heap}
theorem frs_in {l : List Env} : ∀ env ∈ l, ∀ a, env.frame = some a → a ∈ ea :: T :: frs l := fun env he a hf => .tail _ (.tail _ (List.mem_filterMap.mpr ⟨env, he, hf⟩))
theorem frs_in1 {l : List Env} : ∀ env ∈ l, ∀ a, env.frame = some a → a ∈ frs l := fun env he a hf => List.mem_filterMap.mpr ⟨env, he, hf⟩
/-- an exception that flies already leaves a frame -/
theorem leave_next {Q : Unit → Shared → Prop} (hfr : A.frames = some (env :: outer)) (hf : env.frame = some L) (hl : s.heap.FunFrames base0 (env :: outer)) (hfree : ∀ b ∈ frs (env :: outer), xH H1 ea T C b = none) (hok : HOk P w (xH H1 ea T C) s.heap) (h1 : H1 ea = none) (h2 : H1 T = none) (ne : ea ≠ T)
    (h : ∀ h' T', H1 T' = none → ea ≠ T' → (T' = T ∨ s.heap.get? T' = none) → Un (frs (env :: outer)) [T] (xH H1 ea T C) (xH H1 ea T' C) s.heap h' → HOk P w (xH H1 ea T' C) h' → Q () { s with heap := h' }) : wpAny M A (leaving env (.ref ea)) Q E s := by
  obtain ⟨oe, vs, a0, e1, c1, d1, v0, v1⟩ := ex_of hok
  obtain ⟨oT, ts, e2, d2, t3⟩ := tb_of hok ne
  refine wpAny_leaving_nextW (base := PySem.W.hideAll s.heap (ea :: T :: frs (env :: outer))) (cls := .ref C) (a0 := a0) hfr (PySem.W.funFrames_hide hl frs_in) hf
    ⟨oe, vs, T, oT, ts, e1, ⟨c1, v0⟩, d1, v1, PySem.W.hideAll_none _ (.tail _ (.head _)), ne.symm, e2, d2, t3⟩ (fun b o q => PySem.W.of_hideAll _ q) (PySem.W.hideAll_none _ (.head _)) fun h' ⟨k1, _, k3, k4⟩ => ?_
  obtain ⟨T', z1, z2, z3, z4, z5⟩ := after_g hl hfree hok h1 h2 ne k1 k3 k4
  exact h h' T' z1 z2 z3 z4 z5
/-- a new exception leaves the frame in which it was made -/
theorem leave_first {h0 : Heap} {args : List Value} {Q : Unit → Shared → Prop} (hfr : A.frames = some (env :: outer)) (hf : env.frame = some L) (hl : h0.FunFrames base0 (env :: outer)) (hfree : ∀ b ∈ frs (env :: outer), H1 b = none) (hok : HOk P w H1 h0)
    (hx : Heap.MadeExcOf h0 s.heap ea (.ref C) args) (h1 : H1 ea = none)
    (h : ∀ h' T', H1 T' = none → ea ≠ T' → h0.get? T' = none → Un (frs (env :: outer)) [] H1 (xH H1 ea T' C) h0 h' → HOk P w (xH H1 ea T' C) h' → Q () { s with heap := h' }) : wpAny M A (leaving env (.ref ea)) Q E s := by
  refine wpAny_leaves_madeW (base := PySem.W.hideAll h0 (frs (env :: outer))) hfr hf (fun b o q => PySem.W.of_hideAll _ q) (PySem.W.funFrames_hide hl frs_in1) hx fun h' t ⟨k1, _, _, k3⟩ _ _ up0 => ?_
  have up : h0.UpToSlots h' := (Heap.UpToSlots.of_keeps hx.keeps).trans up0
  obtain ⟨oe, vs, T', oT, ts, e1, ⟨c1, c2⟩, d1, v1, g1, n1, e2, d2, t3⟩ := k3
  have keep : ∀ b o, b ∉ frs (env :: outer) → h0.get? b = some o → h'.get? b = some o := fun b o z q => k1 b o (PySem.W.hideAll_get _ q z)
  have slot : ∀ b o, b ∈ frs (env :: outer) → h0.get? b = some o → ∃ sl, h'.get? b = some { o with slots := sl } := fun b o hb q => by
    obtain ⟨_, o', q', hd⟩ := hl.mem hb
    rw [q] at q'; cases q'
    exact up b o q hd
  have new : h0.get? T' = none := by
    cases q : h0.get? T' with
    | none => rfl
    | some o =>
      by_cases hb : T' ∈ frs (env :: outer)
      · obtain ⟨_, o', q', hd⟩ := hl.mem hb
        obtain ⟨sl, z⟩ := up T' o' q' hd
        rw [e2] at z; cases z
        exact absurd d2 (hd ts)
      · have := PySem.W.hideAll_get _ q hb
        rw [g1] at this; cases this
  have hT' : H1 T' = none := by
    cases q : H1 T' with
    | none => rfl
    | some u =>
      have ok := hok T' u q
      obtain ⟨o, ho⟩ := obj_there ok
      rw [new] at ho; cases ho
  refine h h' T' hT' (Ne.symm n1) new ⟨fun b o q n hb _ => keep b o hb q, fun b o q n hb _ => slot b o hb q, fun b o q n _ => ?_, fun b o q _ => ?_, fun b xs q => xH_of h1 hT' q, fun b o u q => xH_of h1 hT' q, fun b ps q => ⟨#[], by rw [xH_of h1 hT' q, Array.append_empty]⟩⟩ ?_
  · rw [xH_ne (fun z => by rw [z, hx.new] at q; cases q) fun z => by rw [z, new] at q; cases q]
    exact n
  · by_cases hb : b ∈ frs (env :: outer)
    · obtain ⟨sl, e⟩ := slot b o hb q
      exact ⟨_, e⟩
    · exact ⟨o, keep b o hb q⟩
  · refine xH_mk (fun b u q => ?_) h1 hT' (Ne.symm n1) ⟨oe, vs, _, e1, c1, d1, c2, v1⟩ ⟨oT, ts, e2, d2, t3⟩
    have ok : ∀ {c : Addr} {v : HO}, H1 c = some v → ∀ o, h0.get? c = some o → h'.get? c = some o := fun {c v} hq o e => keep c o (fun z => by have := hfree c z; rw [hq] at this; cases this) e
    refine (hok b u q).stay (fun c v hc e => ?_) (fun c q => q) fun c xs q => q
    rcases hc with rfl | hc
    · exact ok q v e
    · exact ok hc v e
end
def CXe (P : Program) (w : World) : CXT := fun outer H s E e s' => ∃ (ea T C : Addr) (H1 : Hp), e = .ref ea ∧ s'.os = s.os ∧ AllBare s'.gens ∧ Un (frs outer) [] H (xH H1 ea T C) s.heap s'.heap ∧ HOk P w (xH H1 ea T C) s'.heap ∧
  H1 ea = none ∧ H1 T = none ∧ ea ≠ T ∧ s.heap.get? ea = none ∧ s.heap.get? T = none ∧ E e (some C) H1
section
variable {P : Program} {w : World} {K : PySem.W.Frag} {mg : Str → Option Value} {base : Heap} {N : List Str} {qual : Str} {scope : Scope} {f : Addr} {cdv : Value} {A : Around} {outer : List Env} {s : Shared} {H : Hp} {E : XK} {gp : Array GenState → Drawn → Prop}
theorem passE (hgp : ∀ g d, gp g d ↔ AllBare g) : Passes (CXe P w) (cxOf (CXe P w) P w K mg base N qual scope f cdv A outer s H E gp) E := by
  rintro pins σ Hc sc e s' I ⟨ea, T, C, H1, rfl, os, bare, un, hok, h1, h2, ne, f1, f2, q⟩
  have I' := I.call' os un hok ((hgp _ _).mpr bare) (ch := []) fun b z => absurd z (by simp)
  have fr := (I.ok.frames hgp).1
  have back : ∀ b, sc.heap.get? b = none → s.heap.get? b = none := fun b z => by
    cases q : s.heap.get? b with
    | none => rfl
    | some o =>
      obtain ⟨o', e⟩ := I.base.there b o q (fun z => absurd (show b ∈ ([] : List Addr) from z) (by simp))
      rw [z] at e; cases e
  have back' : ∀ b, s'.heap.get? b = none → s.heap.get? b = none := fun b z => by
    cases q : s.heap.get? b with
    | none => rfl
    | some o =>
      obtain ⟨o', e⟩ := I'.base.there b o q (fun z => absurd (show b ∈ ([] : List Addr) from z) (by simp))
      rw [z] at e; cases e
  refine leave_next (base0 := base) (P := P) (w := w) fr rfl I'.stack I'.stkFree hok h1 h2 ne fun h' T' z1 z2 z3 z4 z5 => ?_
  refine ⟨ea, T', C, H1, rfl, os.trans I.os, bare, Un.join I'.base z4 (fun b hb => ?_) (fun b hb => ?_), z5, h1, z1, z2, back _ f1, ?_, q⟩
  · rcases List.mem_cons.mp (I'.stkSub b hb) with z | z
    · exact .inr (by rw [z]; exact Heap.get?_none_of_le I.ok.above)
    · exact .inl z
  · rw [List.mem_singleton.mp hb]; exact back _ f2
  · rcases z3 with z | z
    · rw [z]; exact back _ f2
    · exact back' _ z
/-- where a raise leads -/
def RaisesTo (X : Cx) (C : Addr) (E : XK) : Prop := ∀ (pins : List (Addr × Obj)) (σ : L2.St) (H : Hp) (s : Shared) (h' : Heap) (ea : Addr) (args : List Value), Inv X pins σ H s → Heap.MadeExcOf s.heap h' ea (.ref C) args → E (.ref ea) (some C) H → X.xe (.ref ea) { s with heap := h' }
theorem raiseE {C : Addr} (hgp : ∀ g d, gp g d ↔ AllBare g) : RaisesTo (cxOf (CXe P w) P w K mg base N qual scope f cdv A outer s H E gp) C E := by
  intro pins σ Hc sc h1 ea args I hx q
  have fr := (I.ok.frames hgp).1
  have n1 : Hc ea = none := by
    cases z : Hc ea with
    | none => rfl
    | some u =>
      obtain ⟨o, ho⟩ := obj_there (I.hok ea u z)
      rw [hx.new] at ho; cases ho
  have back : ∀ b, sc.heap.get? b = none → s.heap.get? b = none := fun b z => by
    cases q : s.heap.get? b with
    | none => rfl
    | some o =>
      obtain ⟨o', e⟩ := I.base.there b o q (fun z => absurd (show b ∈ ([] : List Addr) from z) (by simp))
      rw [z] at e; cases e
  refine leave_first (base0 := base) (P := P) (w := w) (s := { sc with heap := h1 }) (h0 := sc.heap) (H1 := Hc) fr rfl I.stack I.stkFree I.hok hx n1 fun h' T' z1 z2 z3 z4 z5 => ?_
  refine ⟨ea, T', C, Hc, rfl, I.os, (hgp _ _).mp I.bare, Un.join I.base z4 (fun b hb => ?_) (fun b hb => absurd hb (by simp)), z5, n1, z1, z2, back _ hx.new, back _ z3, q⟩
  rcases List.mem_cons.mp (I.stkSub b hb) with z | z
  · exact .inr (by rw [z]; exact Heap.get?_none_of_le I.ok.above)
  · exact .inl z
end
/-- nothing leaves: it leaves so, too -/
theorem FnOk.e {P : Program} {w : World} {K : PySem.W.Frag} {mg : Str → Option Value} {base : Heap} {CX : CXT} {k : Nat} {f : Addr} {fd : FuncData} {ps : List Str} {sp : Sp} (F : FnOk P w K mg base CX0 k f fd ps sp) : FnOk P w K mg base CX k f fd ps sp :=
  ⟨F.len, fun A outer s H args us vs Q E gp hc hg hf hr he hb hv hs => codeAny_mono (F.run A outer s H args us vs Q E gp hc hg hf hr he hb hv hs) fun r s' h => by
    cases r with
    | error e => exact h.elim
    | ok fl => cases fl <;> exact h⟩
/-- a def of which two things are known -/
theorem FnOk.or {P : Program} {w : World} {K : PySem.W.Frag} {mg : Str → Option Value} {base : Heap} {CX : CXT} {k : Nat} {f : Addr} {fd : FuncData} {ps : List Str} {sp sp' : Sp} (F : FnOk P w K mg base CX k f fd ps sp) (F' : FnOk P w K mg base CX k f fd ps sp') : FnOk P w K mg base CX k f fd ps (fun vs H Q E => sp vs H Q E ∨ sp' vs H Q E) :=
  ⟨fun vs H Q E h => h.elim (F.len vs H Q E) (F'.len vs H Q E), fun A outer s H args us vs Q E gp hc hg hf hr he hb hv hs => hs.elim (F.run A outer s H args us vs Q E gp hc hg hf hr he hb hv) (F'.run A outer s H args us vs Q E gp hc hg hf hr he hb hv)⟩
/-- a def's rule, where an exception may leave -/
theorem fnX {P : Program} {w : World} {K : PySem.W.Frag} {mg : Str → Option Value} {base : Heap} {x qual : Str} {st : Stmt} {f : Addr} {fd : FuncData} {N ps : List Str} {k : Nat} {sp : Sp} (F : Fun K x qual st f fd) (S : FnScope N ps (defScope st)) (len : ∀ vs H Q E, sp vs H Q E → vs.length = ps.length)
    (hbody : ∀ (cdv : Value) (A : Around) (outer : List Env) (s : Shared) (H : Hp) (vs : List V) (Q : VK) (E : XK) (gp : Array GenState → Drawn → Prop), L2.Cl (k + 1) gp → Room k (A.deeper (envOfC qual (defScope st) s.heap.objs.size f cdv)) → sp vs H Q E →
      ∃ t, JB (cxOf (CXe P w) P w K mg base N qual (defScope st) f cdv A outer s H E gp) (defBody st) t ∧ t { nx := fun _ H' => Q .non H', rt := Q } (L2.start N vs) H) : FnOk P w K mg base (CXe P w) (k + 1) f fd ps sp := by
  obtain ⟨oc, od, kV, doc, pm, an, cdv, ct, osl, rfl, lk, hcd⟩ := F.ex
  refine fn_of lk hcd S len fun A outer s H vs Q E gp hcl hr hsp => ?_
  obtain ⟨t, h, q⟩ := hbody cdv A outer s H vs Q E gp hcl hr hsp
  exact ⟨t, h.p, q⟩
end NP
set_option Elab.async false
set_option linter.all false
set_option maxRecDepth 100000
namespace NP
open PySem PySem.Spec PyProof.Rows L2
def bmV : List Value := [.type "ValueError", .type "Exception", .type "BaseException", .type "object"]
def xIn (K : PySem.W.Frag) (C : Addr) (bm : List Value) : Bool := match K.lookup C with
  | some ⟨c, _, .cls cd, sl⟩ => c == .type "type" && (cd.mro == (.ref C :: bm) && (!cd.hasDel && (sl.size == 6 && (sl[4]? == some (some (.builtin "ValueError.__new__")) && (PySem.W.tailIn K bmV bm && (PySem.W.nsOkIn K cd.ns && PySem.W.nsIn K cd.ns "__init__" == some none))))))
  | _ => false
def XAt (h : Heap) (C : Addr) (bm : List Value) : Prop := ∃ N nm q bs hdct sn sub ab col dd k0 k1 k2 k3 k5 mN, h.get? C = some (excClassObj nm q C N bs bm hdct sn sub ab col dd k0 k1 k2 k3 k5 "ValueError.__new__") ∧ h.Ns N mN ∧ mN "__init__" = none ∧ OwnTail h bmV bm
theorem six {α : Type} {sl : Array α} (h : sl.size = 6) {x : α} (h4 : sl[4]? = some x) : ∃ a b c d e, sl = #[a, b, c, d, x, e] := by
  obtain ⟨l⟩ := sl
  have h : l.length = 6 := h
  have h4 : l[4]? = some x := by rw [List.getElem?_toArray] at h4; exact h4
  match l, h, h4 with
  | [a, b, c, d, y, e], _, h4 =>
    have : y = x := by simpa using h4
    subst this
    exact ⟨a, b, c, d, e, rfl⟩
theorem x_at {K : PySem.W.Frag} {h : Heap} {C : Addr} {bm : List Value} (X : K.In h) (q : xIn K C bm = true) : XAt h C bm := by
  unfold xIn at q
  split at q
  · rename_i c dd cd sl ho
    rw [Bool.and_eq_true, Bool.and_eq_true, Bool.and_eq_true, Bool.and_eq_true, Bool.and_eq_true, Bool.and_eq_true, Bool.and_eq_true] at q
    obtain ⟨q1, q2, q3, q4, q5, q6, q7, q8⟩ := q
    have e1 := beq_iff_eq.mp q1
    have e2 := beq_iff_eq.mp q2
    have e3 : cd.hasDel = false := by cases z : cd.hasDel with | false => rfl | true => rw [z] at q3; cases q3
    obtain ⟨a, b, c', d, e, e5⟩ := six (beq_iff_eq.mp q4) (beq_iff_eq.mp q5)
    have e8 := beq_iff_eq.mp q8
    obtain ⟨x1, x2, x3, x4, x5, x6, x7, x8, x9, x10, x11⟩ := cd
    dsimp only at e2 e3 q7 e8
    subst e1 e2 e3 e5
    exact ⟨x4, x1, x5, x2, x6, x7, x8, x9, x10, dd, a, b, c', d, e, _, X _ _ ho, .of_isNs (PySem.W.isNs_of_in X q7), PySem.W.nsMap_none_of_in X q7 e8, PySem.W.tail_of_in X q6⟩
  · cases q
def tRaise (C : Addr) (E : XK) (t : TA) : TS := fun _ σ H => t σ H fun vs H1 => vs.length ≤ 10 ∧ ∀ ea, E (.ref ea) (some C) H1
theorem js_raise {X : Cx} {C : Addr} {bm : List Value} {E : XK} {x : Str} {e : Expr} {es : List Expr} {t : TA} {np cpos pos : Pos} (hcalm : X.calm = true) (hk : xIn X.K C bm = true) (hb : bm.contains (.type "BaseException") = true) (hg : Gl X x) (hm : X.mg x = some (.ref C)) (hx : RaisesTo X C E)
    (ha : JA X (e :: es) t) (he : starEach (e :: es) X.env = (false, eval e X.env) :: starEach es X.env := by rfl) (hpl : (backTo cpos (starEach (e :: es) X.env)).any (·.1) = false := by rfl) (hd : (x == ("__debug__" : Str)) = false := by decide) : JS X (.Raise (some (.Call (.Name x np) (e :: es) [] cpos)) none pos) (tRaise C E t) := by
  refine ⟨fun pins s σ H D I h => ?_⟩
  obtain ⟨N, nm, q, bs, hdct, sn, sub, ab, col, dd, k0, k1, k2, k3, k5, mN, hC, hN, hni, hT⟩ := x_at I.mod.kin hk
  refine wpAny_Raise_call_subT (C := C) (nm := nm) (q := q) (N := N) (bs := bs) (bm := bm) (hdct := hdct) (sn := sn) (sub := sub) (ab := ab) (col := col) (dd := dd) (k0 := k0) (k1 := k1) (k2 := k2) (k3 := k3) (k5 := k5) PySem.F.excBase_ValueError hb (I.ok.hd hcalm) hpl hni ?_
  refine thn ((pe_glob (v := .ref C) (pos := np) hg hm rfl hd) pins s σ H (fun v H1 => v = .ref C ∧ H1 = H) I ⟨rfl, rfl⟩) fun f s1 ⟨v, H1, I1, r, e1, e2⟩ => ?_
  subst e1 e2
  have hA := ha.p cpos pins s1 σ _ _ I1 h
  rw [he] at hA ⊢
  refine ⟨r, Calls.evalArgs_plain ?_⟩
  refine thn hA fun us s2 ⟨vs, H2, I2, rv, q1, q2⟩ => ?_
  refine ⟨rfl, ?_, I2.bk _ _ hC, hN.keeps I2.bk, hT.keeps I2.bk, fun h' e hmk => hx pins σ H2 s2 h' e _ I2 hmk (q2 e)⟩
  show us.length ≤ sizeLine
  rw [← rv.length]
  exact Nat.le_trans q1 (by decide)
end NP
set_option Elab.async false
set_option linter.all false
set_option maxRecDepth 100000
namespace NP
open PySem PySem.Spec PyProof.Rows L2
section
variable {X : Cx} {pins : List (Addr × Obj)} {σ σ' : L2.St} {H H' H1 : Hp} {s : Shared} {h' : Heap} {T ea C : Addr}
/-- behind a step that spares one tracked record -/
theorem glide {t' : Nat} {u : HO} (I : L2.Inv X pins σ H s) (hex : X.ex = []) (un : Un (frs X.stack) [T] H H' s.heap h') (hok : HOk X.prog X.w H' h') (hT : H T = some u) (h0 : X.s_0.heap.get? T = none) : L2.Inv X pins σ H' { s with heap := h', toks := t' } := by
  have b0 : Un X.fs [] X.H_0 H X.s_0.heap s.heap := hex ▸ I.base
  have nT : ∀ b, H b = none → b ∉ [T] := fun b e z => by rw [List.mem_singleton.mp z, hT] at e; cases e
  have cellK : ∀ x c, X.env.cells.lookup x = some c → ∀ v, s.heap.IsCell c v → h'.IsCell c v := fun x c e v ⟨o, ho, hd⟩ => by
    obtain ⟨sl, q⟩ := un.any ho (I.freeC x c e) (nT c (I.freeC x c e))
    exact ⟨_, q, hd⟩
  refine ⟨I.ok, I.os, I.bare, ?_, ?_, fun x c e => ?_, ?_, fun x c e => ?_, fun p hp => ?_, hok, I.len⟩
  · rw [hex]
    refine Un.join b0 un (fun b hb => ?_) fun b hb => by rw [List.mem_singleton.mp hb]; exact h0
    rcases List.mem_cons.mp (I.stkSub b hb) with z | z
    · exact .inr (by rw [z]; exact Heap.get?_none_of_le I.ok.above)
    · exact .inl z
  · obtain ⟨m, ⟨o, es, ep, ho, r⟩, hl⟩ := I.loc
    obtain ⟨sl, hL⟩ := un.any ho I.free (nT _ I.free)
    refine ⟨m, ⟨_, es, ep, hL, r⟩, fun i x v e1 e2 e3 => ?_⟩
    obtain ⟨w, rv, l⟩ := hl i x v e1 e2 e3
    refine ⟨w, rv, ?_⟩
    rcases l with l | ⟨k, c, e, z⟩
    · exact .inl l
    · exact .inr ⟨k, c, e, cellK x c e _ z⟩
  · obtain ⟨v, z⟩ := I.cell x c e
    exact ⟨v, cellK x c e v z⟩
  · obtain ⟨m, ⟨o, es, ep, ho, r⟩, hl⟩ := I.loc
    exact un.free _ o ho I.free (nT _ I.free)
  · obtain ⟨v, o, ho, hd⟩ := I.cell x c e
    exact un.free c o ho (I.freeC x c e) (nT _ (I.freeC x c e))
  · obtain ⟨e, n, ne, nf, d⟩ := I.pin p hp
    have nfr : p.1 ∉ frs X.stack := fun z => (List.mem_cons.mp (I.stkSub _ z)).elim ne nf
    exact ⟨un.keep p.1 p.2 e n nfr (nT _ n), un.free p.1 p.2 e n (nT _ n), ne, nf, d⟩
/-- the frame's own names changed -/
theorem names {t' : Nat} {m m' : Str → Option Value} (I : L2.Inv X pins σ H s) (sb : Heap.SameBut X.env.locals s.heap h') (hn' : h'.Ns X.env.locals m') (hl : σ'.length = σ.length)
    (hm : ∀ (i : Nat) (x : Str) (v : V), X.N[i]? = some x → σ'[i]? = some (some v) → Vis X.env.scope x → ∃ u, RelV v u ∧ Look X.env s.heap m' x u) : L2.Inv X pins σ' H { s with heap := h', toks := t' } := by
  have kp : ∀ b o, b ≠ X.env.locals → s.heap.get? b = some o → h'.get? b = some o := fun b o ne e => (sb.2 b ne).trans e
  have neL : ∀ b o, X.s_0.heap.get? b = some o → b ≠ X.env.locals := fun b o e => Nat.ne_of_lt (Nat.lt_of_lt_of_le (Heap.lt_size e) I.ok.above)
  have cellK : ∀ x c, X.env.cells.lookup x = some c → ∀ v, s.heap.IsCell c v → h'.IsCell c v := fun x c e v ⟨o, ho, hd⟩ => ⟨o, kp c o (I.cne x c e) ho, hd⟩
  have hne : ∀ {b : Addr} {u : HO}, H b = some u → b ≠ X.env.locals := fun e => ne_of_none e I.free
  refine ⟨I.ok, I.os, I.bare, ⟨fun b o e n hb hx => kp b o (neL b o e) (I.base.keep b o e n hb hx), fun b o e n hb hx => ?_, I.base.free, fun b o e hx => ?_, I.base.tups, I.base.frzs, I.base.tbls⟩, ⟨m', hn', fun i x v e1 e2 e3 => ?_⟩, fun x c e => ?_, I.free, I.freeC, fun p hp => ?_, fun b u e => ?_, hl.trans I.len⟩
  · obtain ⟨sl, q⟩ := I.base.slot b o e n hb hx
    exact ⟨sl, kp b _ (neL b o e) q⟩
  · obtain ⟨o', q⟩ := I.base.there b o e hx
    exact ⟨o', kp b o' (neL b o e) q⟩
  · obtain ⟨u, rv, l⟩ := hm i x v e1 e2 e3
    refine ⟨u, rv, ?_⟩
    rcases l with l | ⟨k, c, e, z⟩
    · exact .inl l
    · exact .inr ⟨k, c, e, cellK x c e _ z⟩
  · obtain ⟨v, z⟩ := I.cell x c e
    exact ⟨v, cellK x c e v z⟩
  · obtain ⟨e, n, ne, nf, d⟩ := I.pin p hp
    exact ⟨kp p.1 p.2 ne e, n, ne, nf, d⟩
  · refine (I.hok b u e).stay (fun c v hc q => kp c v ?_ q) (fun _ q => q) fun _ _ q => q
    rcases hc with rfl | hc
    · exact hne e
    · exact hne hc
theorem s0_none (I : L2.Inv X pins σ H s) (hex : X.ex = []) {b : Addr} (e : s.heap.get? b = none) : X.s_0.heap.get? b = none := by
  cases q : X.s_0.heap.get? b with
  | none => rfl
  | some o =>
    obtain ⟨o', z⟩ := I.base.there b o q (by rw [hex]; simp)
    rw [e] at z; cases z
/-- an exception is no longer in flight -/
theorem flight {M : Model} {A : Around} {E : Value → Shared → Prop} {Q : Unit → Shared → Prop} (J : L2.Inv X pins σ (xH H1 ea T C) s) (hex : X.ex = []) (z1 : H1 ea = none) (z2 : H1 T = none) (ne : ea ≠ T) (h0 : X.s_0.heap.get? T = none)
    (h : ∀ h' T', H1 T' = none → ea ≠ T' → X.s_0.heap.get? T' = none → L2.Inv X pins σ (xH H1 ea T' C) { s with heap := h' } → Q () { s with heap := h' }) : wpAny M A (setFlight (.ref ea) none) Q E s := by
  obtain ⟨oe, vs, a0, e1, c1, d1, v0, v1⟩ := ex_of J.hok
  obtain ⟨oT, ts, e2, d2, t3⟩ := tb_of J.hok ne
  refine wpAny_setFlight_noneW (base := PySem.W.hideAll s.heap (ea :: T :: frs X.stack)) (l := X.stack) (cls := .ref C) (a0 := a0) (fl := .none) (fun b o q => PySem.W.of_hideAll _ q) (PySem.W.funFrames_hide J.stack frs_in)
    ⟨oe, vs, T, oT, ts, e1, ⟨c1, v0⟩, d1, v1, PySem.W.hideAll_none _ (.tail _ (.head _)), ne.symm, e2, d2, t3⟩ fun h' m1 m2 m3 m4 => ?_
  obtain ⟨T', y1, y2, y3, y4, y5⟩ := after_g J.stack J.stkFree J.hok z1 z2 ne m1 m3 (fun b o hb hn => ⟨o.slots, m4 b o hb hn⟩)
  refine h h' T' y1 y2 ?_ (glide (t' := s.toks) J hex y4 y5 (xH_T ne) h0)
  rcases y3 with z | z
  · rw [z]; exact h0
  · exact s0_none J hex z
/-- it is noted in the frame that looks at it -/
theorem noted {M : Model} {A : Around} {E : Value → Shared → Prop} {Q : Unit → Shared → Prop} {L : Addr} (hfr : A.frames = some X.stack) (hstk : X.stack = X.env :: X.outer) (hf : X.env.frame = some L) (J : L2.Inv X pins σ (xH H1 ea T C) s) (hex : X.ex = []) (z1 : H1 ea = none) (z2 : H1 T = none) (ne : ea ≠ T) (h0 : X.s_0.heap.get? T = none)
    (h : ∀ h' T', H1 T' = none → ea ≠ T' → X.s_0.heap.get? T' = none → L2.Inv X pins σ (xH H1 ea T' C) { s with heap := h' } → Q () { s with heap := h' }) : wpAny M A (noteFrame (.ref ea) X.env) (fun _ s2 => wpAny M A (setFlight (.ref ea) none) Q E s2) E s := by
  obtain ⟨oe, vs, a0, e1, c1, d1, v0, v1⟩ := ex_of J.hok
  obtain ⟨oT, ts, e2, d2, t3⟩ := tb_of J.hok ne
  have hS : s.heap.FunFrames (PySem.W.hideAll s.heap (ea :: T :: frs X.stack)) X.stack := PySem.W.funFrames_hide J.stack frs_in
  rw [hstk] at hfr
  refine wpAny_noteFrame_onW (base := PySem.W.hideAll s.heap (ea :: T :: frs X.stack)) (outer := X.outer) (cls := .ref C) (a0 := a0) hfr (hstk ▸ hS) hf
    ⟨oe, vs, T, oT, ts, e1, ⟨c1, v0⟩, d1, v1, PySem.W.hideAll_none _ (.tail _ (.head _)), ne.symm, e2, d2, t3⟩ (fun b o q => PySem.W.of_hideAll _ q) (PySem.W.hideAll_none _ (.head _)) fun h2 ⟨k1, k2, k3, k4⟩ => ?_
  refine wpAny_setFlight_noneW (s := { s with heap := h2 }) (base := PySem.W.hideAll s.heap (ea :: T :: frs X.stack)) (l := X.env :: X.outer) (cls := .ref C) (a0 := a0) (fl := rawInt L) k1 k2 k3 fun h' m1 m2 m3 m4 => ?_
  have up : s.heap.UpToSlots h' := Heap.UpToSlots.trans (h₂ := h2) k4 fun b o hb hn => ⟨o.slots, m4 b o hb hn⟩
  obtain ⟨T', y1, y2, y3, y4, y5⟩ := after_g J.stack J.stkFree J.hok z1 z2 ne m1 m3 up
  refine h h' T' y1 y2 ?_ (glide (t' := s.toks) J hex y4 y5 (xH_T ne) h0)
  rcases y3 with z | z
  · rw [z]; exact h0
  · exact s0_none J hex z
end
end NP
set_option Elab.async false
set_option linter.all false
set_option maxRecDepth 100000
namespace NP
open PySem PySem.Spec PyProof.Rows L2
abbrev trX (X : Cx) (pn : List (Addr × Obj)) (xe : Value → Shared → Prop) : Cx := { X with pn := pn, xe := xe }
abbrev caX (X : Cx) (ea : Addr) : Cx := { X with A := X.A.mark (some (.ref ea)), calm := false, xe := fun _ _ => False }
theorem okTr {X : Cx} (ok : X.Ok) (pn : List (Addr × Obj)) (xe : Value → Shared → Prop) : (trX X pn xe).Ok :=
  ⟨ok.mod, ok.kind, ok.glob, ok.blt, ok.above, ok.inj, ok.has, ok.cab, ok.hd, ok.frames, ok.stk, ok.exf, ok.bs, ok.bsz, ok.noex, ok.exfs, ok.funs, ok.frf⟩
theorem okCa {X : Cx} (ok : X.Ok) (ea : Addr) : (caX X ea).Ok :=
  ⟨ok.mod, ok.kind, ok.glob, ok.blt, ok.above, ok.inj, ok.has, ok.cab, fun z => Bool.noConfusion z, ok.frames, ok.stk, ok.exf, ok.bs, ok.bsz, ok.noex, ok.exfs, ok.funs, ok.frf⟩
theorem invCa {X : Cx} {pins : List (Addr × Obj)} {σ : L2.St} {H : Hp} {s : Shared} (I : L2.Inv X pins σ H s) (ea : Addr) : L2.Inv (caX X ea) pins σ H s := ⟨okCa I.ok ea, I.os, I.bare, I.base, I.loc, I.cell, I.free, I.freeC, I.pin, I.hok, I.len⟩
theorem invUn {X : Cx} {pins : List (Addr × Obj)} {σ : L2.St} {H : Hp} {s : Shared} {ea : Addr} (ok : X.Ok) (I : L2.Inv (caX X ea) pins σ H s) : L2.Inv X pins σ H s := ⟨ok, I.os, I.bare, I.base, I.loc, I.cell, I.free, I.freeC, I.pin, I.hok, I.len⟩
theorem ty_ex {M : Model} {h : Heap} {ea T C : Addr} (x : ExAt h ea T C) : PySem.W.Looks M h (typeOf (.ref ea)) (.ref C) := by
  obtain ⟨oe, _, _, h1, h2, _⟩ := x
  exact h2 ▸ (PySem.W.Looks.ld h1).andThen .now
end NP
set_option Elab.async false
set_option linter.all false
set_option maxRecDepth 100000
namespace NP
open PySem PySem.Spec PyProof.Rows L2
theorem owner_cls : ".".intercalate ("object.__class__".cutAt '.').dropLast = "object" := by decide +kernel
section
variable {prog : Program} {w : World} {A : Around} {E : Value → Shared → Prop} {h : Heap} {g : Array GenState} {d : Drawn} {t : Nat} {os : OsState} {ea C : Addr} {o : Obj} {bm : List Value} {K : PySem.W.Frag}
theorem xc_get {R : Result → Shared → Prop} (XC : XAt h C bm) (ob1 : h.get? ea = some o) (ob2 : o.cls = .ref C) (hq : R (.ok (.ret (.ref C))) ⟨h, g, d, t, os⟩) :
    codeAny (model prog w) A (.call (.builtin "getset_descriptor.__get__") ⟨[.builtin "object.__class__", .ref ea, .ref C], []⟩) R ⟨h, g, d, t, os⟩ := by
  obtain ⟨N, nm, q, bs, hdct, sn, sub, ab, col, dd, k0, k1, k2, k3, k5, mN, cl1, hN, hni, hT⟩ := XC
  have ty5 : (⟨h, g, d, t, os⟩ : Shared).TypeIs (.builtin "object.__class__") "getset_descriptor" := F.typeOf_object_class
  have cb1 : (Value.ref C :: bm).contains (.type (".".intercalate ("object.__class__".cutAt '.').dropLast)) = true := by
    rw [owner_cls, List.contains_cons, hT.hasType (X := "object") (b := true) (by decide +kernel), Bool.or_true]
  refine codeAny_call_builtin F.slot_gs_get.plain F.entry_gs_get (F.slot_gs_get.check _ _ _ _ _ _ _ _ ty5 (F.args_gs_get _ _ _) ?_)
  repeat (any_goals (first | assumption | (with_reducible refine wpAny_loadPart_at ob1 ?_; rw [ob2]) | (with_reducible refine wpAny_isSubtype_exc cl1 ?_; rw [cb1]) | wp_step))
  refine And.intro (Code.quiet_builtin _ (by decide +kernel)) (codeAny_builtin F.entry_object_class ?_)
  repeat (any_goals (first | assumption | (with_reducible refine wpAny_loadPart_at ob1 ?_; rw [ob2]) | wp_step))
theorem xc_entry {tk : Tok} {Q : Fin → Shared → Prop} (KX : K.In h) (hcl : PySem.W.findIn K (.ref C) "__class__" = some (some (.builtin "object.__class__"))) (XC : XAt h C bm) (ob1 : h.get? ea = some o) (ob2 : o.cls = .ref C) (hq : Q (.done (.ret (.ref C))) ⟨h, g, d, t, os⟩) :
    wpAny (model prog w) A (Builtin.«object.__getattribute__» ⟨[.ref ea, .str "__class__" tk], []⟩) Q E ⟨h, g, d, t, os⟩ := by
  have ty5 : (⟨h, g, d, t, os⟩ : Shared).TypeIs (.builtin "object.__class__") "getset_descriptor" := F.typeOf_object_class
  have L1 := PySem.W.looks_findIn (M := model prog w) KX hcl
  have u5 := F.typeOf_object_class
  have u6 := F.slot_gs_get.lookup
  have u7 := F.slot_gs_set.lookup
  repeat (any_goals (first | assumption | (with_reducible refine wpAny_loadPart_at ob1 ?_; rw [ob2]) | with_reducible refine L1.at ?_ | wp_step))
  refine xc_get XC ob1 ob2 ?_
  repeat (any_goals (first | assumption | wp_step))
theorem xc_check {M : Model} {nameV : Value} {Q : Unit → Shared → Prop} (XC : XAt h C bm) (ob1 : h.get? ea = some o) (ob2 : o.cls = .ref C) (hq : Q () ⟨h, g, d, t, os⟩) : wpAny M A (checkBuiltinCall "BaseException.__getattribute__" ⟨[.ref ea, nameV], []⟩) Q E ⟨h, g, d, t, os⟩ := by
  obtain ⟨N, nm, q, bs, hdct, sn, sub, ab, col, dd, k0, k1, k2, k3, k5, mN, cl1, hN, hni, hT⟩ := XC
  have kd1 : builtinKind "BaseException.__getattribute__" = some .slot := by decide +kernel
  have sp1 : splitId "BaseException.__getattribute__" = some ("BaseException", "__getattribute__") := by decide +kernel
  have cb1 : (Value.ref C :: bm).contains (.type "BaseException") = true := by rw [List.contains_cons, hT.hasType (X := "BaseException") (b := true) (by decide +kernel), Bool.or_true]
  have ar1 := F.args_bexc_ga (.ref ea) nameV
  simp only [checkBuiltinCall, kd1, sp1]
  refine wpAny_bind ?_
  unfold isInstance
  repeat (first | (with_reducible refine wpAny_loadPart_at ob1 ?_; rw [ob2]) | (with_reducible refine wpAny_isSubtype_exc cl1 ?_; rw [cb1]) | wp_step)
  exact hq
structure XLook (K : PySem.W.Frag) (C : Addr) : Prop where
  cl : PySem.W.findIn K (.ref C) "__class__" = some (some (.builtin "object.__class__"))
  ga : PySem.W.findIn K (.ref C) "__getattribute__" = some (some (.builtin "BaseException.__getattribute__"))
  gn : PySem.W.findIn K (.ref C) "__getattr__" = some none
theorem xc_by {tk : Tok} {Q : Value → Shared → Prop} (KX : K.In h) (Z : XLook K C) (XC : XAt h C bm) (ob1 : h.get? ea = some o) (ob2 : o.cls = .ref C) (hq : Q (.ref C) ⟨h, g, d, t, os⟩) :
    wpAny (model prog w) A (getAttrBy (.ref ea) (.str "__class__" tk) false) Q E ⟨h, g, d, t, os⟩ := by
  have u3 := F.attrBase_ValueError.ga.bind (.ref ea)
  have nv2 : (Value.builtin "BaseException.__getattribute__" == Value.builtin "object.__getattribute__") = false := by decide +kernel
  have nv1 : (onTheHeap (Value.ref C) && Value.builtin "BaseException.__getattribute__" == Value.builtin "object.__getattribute__") = false := by rw [nv2]; rfl
  have L1 := PySem.W.looks_findIn (M := model prog w) KX Z.ga
  have L2 := PySem.W.looks_findIn (M := model prog w) KX Z.gn
  repeat (any_goals (first | assumption | (with_reducible refine wpAny_loadPart_at ob1 ?_; rw [ob2]) | with_reducible refine L1.at ?_ | with_reducible refine L2.at ?_ | wp_step))
  refine codeAny_call_builtin F.attrBase_ValueError.ga.plain F.entry_bexc_ga (xc_check XC ob1 ob2 (xc_entry KX Z.cl XC ob1 ob2 ?_))
  repeat (any_goals (first | assumption | wp_step))
theorem xc_attr {Q : Option Value → Shared → Prop} (KX : K.In h) (Z : XLook K C) (XC : XAt h C bm) (ob1 : h.get? ea = some o) (ob2 : o.cls = .ref C) (hq : Q (some (.ref C)) ⟨h, g, d, t + 1, os⟩) :
    wpAny (model prog w) A (getAttr? (.ref ea) "__class__") Q E ⟨h, g, d, t, os⟩ := by
  unfold getAttr? getAttrBy?
  repeat (any_goals (first | assumption | with_reducible apply xc_by KX Z XC ob1 ob2 | wp_step))
end
/-- an exception's class, as isinstance asks for it -/
theorem kit_exc {K : PySem.W.Frag} {ea C : Addr} {bm : List Value} (Z : XLook K C) (kd1 : xIn K C bm = true) : PySem.W.KitX K (.ref ea) (.ref C) (fun h => ∃ o, h.get? ea = some o ∧ o.cls = .ref C) where
  ty := fun _ _ _ ⟨o, h1, h2⟩ => h2 ▸ (PySem.W.Looks.ld h1).andThen .now
  it := fun M h KX _ => by
    obtain ⟨N, nm, q, bs, hdct, sn, sub, ab, col, dd, k0, k1, k2, k3, k5, mN, cl1, _⟩ := x_at KX kd1
    intro A Q E s k q
    unfold isType loadHead
    exact wpAny_bind (wpAny_loadPart (k _ _ cl1) (wpAny_pure q))
  ne := fun h tp dd its n sl KX e => by
    obtain ⟨N, nm, q, bs, hdct, sn, sub, ab, col, dd, k0, k1, k2, k3, k5, mN, cl1, _⟩ := x_at KX kd1
    refine Bool.eq_false_iff.mpr fun z => ?_
    have y : C = tp := Value.ref.inj (beq_iff_eq.mp z)
    rw [← y, cl1] at e
    have z3 : Value.type "type" = Value.type "tuple" := congrArg Obj.cls (Option.some.inj e)
    injection z3 with z4
    exact absurd z4 (by decide)
  ca := fun {_ _ _ _ _ s} KX ⟨o, h1, h2⟩ k => by
    obtain ⟨h, g, d, t, os⟩ := s
    exact xc_attr KX Z (x_at KX kd1) h1 h2 k
end NP
set_option Elab.async false
set_option linter.all false
set_option maxRecDepth 100000
namespace NP
open PySem PySem.Spec PyProof.Rows L2
/-- a class of refusals: what it is, how it is looked at -/
structure XOk (K : PySem.W.Frag) (C : Addr) (bm : List Value) : Prop where
  xin : xIn K C bm = true
  look : XLook K C
def clsV : V → Value → Prop
  | .ref c, .ref d => c = d
  | .ty n, .type m => n = m
  | _, _ => False
section
variable {X : Cx} {K : PySem.W.Frag}
theorem cr_isX (hK : X.K = K) : CallR X (.builtin "isinstance") (fun xs H Q => ∃ (ea T C : Addr) (bm : List Value) (y : V) (u : Value) (b : Bool), xs = [.ref ea, y] ∧ H ea = some (exO ea T C) ∧ XOk K C bm ∧ clsV y u ∧ PySem.W.kitOne K (.ref C) u = some b ∧ Q (.bl b) H) := by
  subst hK
  intro pins s σ H xs us Q I r h
  obtain ⟨ea, T, C, bm, y, u, b, rfl, hx, ok, hy, hk, q⟩ := h
  obtain ⟨⟨oe, vs, a0, e1, c1, _⟩, _⟩ := I.hok ea _ hx
  cases r with
  | cons r1 r2 =>
    cases r2 with
    | cons r3 r4 =>
      cases r4
      cases r1
      rename_i uy
      have e : uy = u := by
        cases y with
        | ref c => cases u with
          | ref d => cases r3; have : c = d := hy; rw [this]
          | _ => exact hy.elim
        | ty n => cases u with
          | type m => cases r3; have : n = m := hy; rw [this]
          | _ => exact hy.elim
        | _ => exact hy.elim
      subst e
      exact PySem.W.kia_one (kit_exc ok.look ok.xin) I.kIn ⟨oe, e1, c1⟩ hk (fun z => nomatch z) fun tk => ⟨.bl b, H, I.tok _, rfl, q⟩
theorem refs_of : ∀ {cs : List Addr} {us : List Value}, Vals (cs.map V.ref) us → us = cs.map Value.ref
  | [], _, h => by cases h; rfl
  | c :: cs, _, h => by
    cases h with
    | cons r t => cases r; rw [refs_of t]; rfl
theorem cr_isXT (hK : X.K = K) : CallR X (.builtin "isinstance") (fun xs H Q => ∃ (ea T C tp : Addr) (bm : List Value) (cs : List Addr) (b : Bool), xs = [.ref ea, .ref tp] ∧ H ea = some (exO ea T C) ∧ XOk K C bm ∧ H tp = some (.tup (cs.map V.ref)) ∧ PySem.W.kitAny K (.ref C) (cs.map Value.ref) = some b ∧ Q (.bl b) H) := by
  subst hK
  intro pins s σ H xs us Q I r h
  obtain ⟨ea, T, C, tp, bm, cs, b, rfl, hx, ok, ht, hk, q⟩ := h
  obtain ⟨⟨oe, vs, a0, e1, c1, _⟩, _⟩ := I.hok ea _ hx
  obtain ⟨_, its, rv, it⟩ := I.hok tp _ ht
  obtain ⟨⟨cls, dd, data, sl⟩, ho, hc, n, hd⟩ := it
  simp only at hc hd
  subst hc hd
  rw [refs_of rv] at ho
  cases r with
  | cons r1 r2 =>
    cases r2 with
    | cons r3 r4 =>
      cases r4
      cases r1
      cases r3
      exact PySem.W.kia_tup (kit_exc ok.look ok.xin) I.kIn ⟨oe, e1, c1⟩ ho hk (fun z => nomatch z) fun tk => ⟨.bl b, H, I.tok _, rfl, q⟩
def rCount (K : PySem.W.Frag) : V → List V → Hp → VK → Prop := fun x xs H Q => ∃ (a : Addr) (ys : List V) (y : V), x = V.ref a ∧ xs = [y] ∧ SqL K H a ys ∧ flatV y = true ∧ ys.all flatV = true ∧ Q (.int ((ys.countP fun z => eqV z y : Nat) : Int)) H
theorem count_eqU {y : V} : ∀ {ys : List V} {us : List Value}, Vals ys us → ys.all flatV = true → us.countP (eqU y) = ys.countP fun z => eqV z y
  | [], _, h, _ => by cases h; rfl
  | z :: ys, _, h, f => by
    cases h with
    | cons r t =>
      rw [List.all_cons, Bool.and_eq_true] at f
      rw [List.countP_cons, List.countP_cons, count_eqU t f.2, eqU_of r f.1]
theorem mt_count : MtR X "list.count" (rCount X.K) := by
  intro pins s σ H x xs v us Q I rx rxs h
  obtain ⟨a, ys, y, rfl, rfl, hs, fy, fys, q⟩ := h
  cases rx
  cases rxs with
  | cons ry rt =>
    rename_i uy ut
    cases rt
    obtain ⟨its, rv, ⟨⟨cls, dd, data, sl⟩, n, ho, hc, hdn, hd⟩, hlen⟩ := I.list hs
    simp only at hc hd
    subst hc hd
    refine call_meets PySem.F.slot_list_count ⟨_, ho, rfl⟩ PySem.F.entry_list_count (PySem.F.args_list_count_2 _ _)
      (SeqAt.list_countAt a its.toArray n dd sl uy (eqU y)) ⟨ho, fun u' hu' => mem_eqAt ry fy rv fys u' (by simpa using hu'), ?_⟩
    refine ⟨.int _, H, I.tok _, ⟨_, rfl⟩, ?_⟩
    rw [show its.toArray.toList = its from rfl, count_eqU rv fys]
    exact q
end
section
variable {X : Cx} {o e : Expr} {to : TE} {t : TA} {apos cpos : Pos}
theorem je_count (ho : JE X o to) (ha : JA X [e] t) (hbase : attributeBase o "count" X.env (eval o X.env) = eval o X.env := by rfl)
    (hfew : ((backTo cpos (starEach [e] X.env)).all (fun x => !x.1) && (backToKw cpos (keywordEach [] X.env)).all (fun x => x.1.isSome) && decide (([e] : List Expr).length + ([] : List Keyword).length + (if ([] : List Keyword).isEmpty then 0 else 1) < 30)) = true := by rfl)
    (hline : (apos.endLine == cpos.line) = true := by rfl) (hs : starEach [e] X.env = (false, eval e X.env) :: starEach [] X.env := by rfl) :
    JE X (.Call (.Attribute o "count" apos) [e] [] cpos) (tBM X.K "list" (rCount X.K) to t) := ⟨pe_bm PySem.F.plainAttrs_list PySem.F.slot_list_count PySem.F.type_list_count mt_count ho.p ha.p hbase hfew hline hs⟩
end
section
variable {X : Cx} {CX : CXT} {E : XK} {e a b : Expr} {es : List Expr} {tf : TE} {t : TA} {p1 pos : Pos} {R : Addr → Sp → Prop}
end
end NP
set_option Elab.async false
set_option linter.all false
set_option maxRecDepth 100000
namespace NP
open PySem PySem.Spec PyProof.Rows L2
theorem but_free {p q : Addr} {H H' : Hp} {o : HO} (s : SameBut p H H') (h : H' p = some o) (e : H' q = none) : H q = none := by
  cases z : H q with
  | none => rfl
  | some u =>
    by_cases y : q = p
    · rw [y, h] at e; cases e
    · have := s q u y z
      rw [e] at this; cases this
end NP
namespace NP
open PySem PySem.Spec PyProof.Rows L2
theorem IntKV.get {kvs : List (Key × V)} {c : Nat} {b : Int} (h : IntKV kvs c b) {k : Key} {v : V} (e : valV kvs k = some v) : ∃ j : Int, v = .int j ∧ 0 ≤ j ∧ j ≤ b := by
  obtain ⟨kis, rfl, _, hb⟩ := h
  unfold valV at e
  obtain ⟨kv, e1, rfl⟩ := Option.map_eq_some_iff.mp e
  obtain ⟨q, hq, rfl⟩ := List.mem_map.mp (List.mem_of_find?_eq_some e1)
  exact ⟨q.2, rfl, (hb q hq).2.2⟩
end NP
namespace NP
open PySem PySem.Spec PyProof.Rows L2
/-- where the spoiling stands: the well, the order, lists that are kept, what is built -/
structure BS (K : PySem.W.Frag) (X : Addr → Prop) (p o : Addr) (c : Int) (ns : List Int) (H0 : Hp) (ts : List (Addr × List V)) (items : List V) (n : Int) (H : Hp) : Prop where
  but : SameBut p H0 H
  well : WellAt H p c n
  ord : H o = some (.lst (ns.map V.int))
  tr : ∀ q ∈ ts, H q.1 = some (.lst q.2)
  dom : ∀ a, X a → H a ≠ none
  xp : X p
  xo : ¬ X o
  xt : ∀ q ∈ ts, ¬ X q.1
  good : ∀ v ∈ items, Ot K X H v
section
variable {K : PySem.W.Frag} {X : Addr → Prop} {p o : Addr} {c n : Int} {ns : List Int} {ts : List (Addr × List V)} {items : List V} {H0 H H1 : Hp}
theorem BS.ex (b : BS K X p o c ns H0 ts items n H) (s : SameEx X H H1) (n' : Int) (w : WellAt H1 p c n') (d : ∀ a, H a ≠ none → H1 a ≠ none) (bt : SameBut p H0 H1) : BS K X p o c ns H0 ts items n' H1 :=
  ⟨bt, w, s o _ b.xo b.ord, fun q hq => s q.1 _ (b.xt q hq) (b.tr q hq), fun a h => d a (b.dom a h), b.xp, b.xo, b.xt, fun v hv => (b.good v hv).mono s⟩
theorem BS.same (b : BS K X p o c ns H0 ts items n H) (s : Same H H1) : BS K X p o c ns H0 ts items n H1 := by
  obtain ⟨y, z⟩ := b.well
  refine b.ex (Same.ex s) n ⟨y, s _ _ z⟩ (fun a h => ?_) (b.but.then s)
  cases e : H a with
  | none => exact absurd e h
  | some u => rw [s a u e]; exact fun z => nomatch z
theorem BS.draw {n' : Int} (b : BS K X p o c ns H0 ts items n H) (s : SameBut p H H1) (w : WellAt H1 p c n') : BS K X p o c ns H0 ts items n' H1 := by
  refine b.ex (s.ex b.xp) n' w (fun a h => ?_) (b.but.trans s)
  by_cases e : a = p
  · obtain ⟨y, z⟩ := w
    rw [e, z]; exact fun z => nomatch z
  · cases e1 : H a with
    | none => exact absurd e1 h
    | some u => rw [s a u e e1]; exact fun z => nomatch z
theorem BS.new {a : Addr} (b : BS K X p o c ns H0 ts items n H) (h : H a = none) : ¬ X a := fun z => b.dom a z h
theorem BS.free {a : Addr} (b : BS K X p o c ns H0 ts items n H) (h : H a = none) : H0 a = none := by
  obtain ⟨y, z⟩ := b.well
  exact but_free b.but z h
theorem BS.ne {a : Addr} (b : BS K X p o c ns H0 ts items n H) (h : H a = none) : p ≠ a := by
  obtain ⟨y, z⟩ := b.well
  exact ne_of_none z h
theorem BS.put {v : V} (b : BS K X p o c ns H0 ts items n H) (h : Ot K X H v) : BS K X p o c ns H0 ts (items ++ [v]) n H :=
  ⟨b.but, b.well, b.ord, b.tr, b.dom, b.xp, b.xo, b.xt, fun u hu => (List.mem_append.mp hu).elim (fun e => b.good u e) fun e => by rw [List.mem_singleton.mp e]; exact h⟩
theorem BS.drop {q : Addr × List V} (b : BS K X p o c ns H0 (q :: ts) items n H) : BS K X p o c ns H0 ts items n H :=
  ⟨b.but, b.well, b.ord, fun r hr => b.tr r (.tail _ hr), b.dom, b.xp, b.xo, fun r hr => b.xt r (.tail _ hr), b.good⟩
/-- a list that is written from now on -/
theorem BS.grow {l : Addr} (b : BS K X p o c ns H0 ts items n H) (hl : H l = none) (u : HO) : BS K (fun a => X a ∨ a = l) p o c ns H0 ts items n (upd H l u) := by
  have s := same_new hl u
  have b' := b.same s
  refine ⟨b'.but, b'.well, b'.ord, b'.tr, fun a h => ?_, .inl b.xp, fun h => ?_, fun q hq h => ?_, fun v hv => (b.good v hv).grow hl s⟩
  · rcases h with h | h
    · exact b'.dom a h
    · rw [h, upd_same]; exact fun z => nomatch z
  · exact h.elim b.xo fun e => by have := b.ord; rw [e, hl] at this; cases this
  · exact h.elim (b.xt q hq) fun e => by have := b.tr q hq; rw [e, hl] at this; cases this
theorem BS.write {l : Addr} (b : BS K X p o c ns H0 ts items n H) (xl : X l) (lp : p ≠ l) (l0 : H0 l = none) (u : HO) : BS K X p o c ns H0 ts items n (upd H l u) := by
  obtain ⟨y, z⟩ := b.well
  refine b.ex (fun a w na h => by rw [upd_ne (fun e => na (by rw [e]; exact xl))]; exact h) n ⟨y, by rw [upd_ne lp]; exact z⟩ (fun a h => ?_) fun a w na h => ?_
  · by_cases e : a = l
    · rw [e, upd_same]; exact fun z => nomatch z
    · rw [upd_ne e]; exact h
  · rw [upd_ne (ne_of_none h l0)]
    exact b.but a w na h
theorem BS.sub {Y : Addr → Prop} (b : BS K X p o c ns H0 ts items n H) (h : ∀ a, Y a → X a) (hp : Y p) : BS K Y p o c ns H0 ts items n H :=
  ⟨b.but, b.well, b.ord, b.tr, fun a z => b.dom a (h a z), hp, fun z => b.xo (h _ z), fun q hq z => b.xt q hq (h _ z), fun v hv => (b.good v hv).sub h⟩
theorem BS.start {u : HO} (s : SameBut p H0 H) (w : WellAt H p c n) (ho : H o = some (.lst (ns.map V.int))) (hp : H0 p = some u) (nop : o ≠ p) : BS K (fun a => H0 a ≠ none ∧ a ≠ o) p o c ns H0 [] [] n H := by
  refine ⟨s, w, ho, (fun q z => nomatch z), fun a h => ?_, ⟨by rw [hp]; exact (fun z => nomatch z), nop.symm⟩, fun z => z.2 rfl, (fun q z => nomatch z), (fun v z => nomatch z)⟩
  by_cases e : a = p
  · obtain ⟨y, z⟩ := w
    rw [e, z]; exact fun z => nomatch z
  · cases e1 : H0 a with
    | none => exact absurd e1 h.1
    | some u => rw [s a u e e1]; exact fun z => nomatch z
/-- a new list of small items is a thing -/
theorem BS.lst {a : Addr} {xs : List V} (b : BS K X p o c ns H0 ts items n H) (h : H a = none) (hx : ∀ v ∈ xs, Oi K X H v) (hc : xs.length ≤ 100) : BS K X p o c ns H0 ts (items ++ [.ref a]) n (upd H a (.lst xs)) :=
  (b.same (same_new h _)).put (ot_lst upd_same (b.new h) (fun v hv => (hx v hv).same (same_new h _)) hc)
end
end NP
namespace NP
open PySem PySem.Spec PyProof.Rows L2
end NP
namespace NP
open PySem PySem.Spec PyProof.Rows L2
end NP
set_option Elab.async false
set_option linter.all false
set_option maxRecDepth 100000
namespace NP
open PySem PySem.Spec PyProof.Rows L2
section
variable {X : Cx} {x : Str} {px p pos gpos : Pos} {elt iter : Expr} {ifs : List Expr} {scope : Scope} {ts : TE} {c T : Addr} {R : L2.St → Hp → V → Bool → V → Prop} {cl : List (Str × Addr)}
end
end NP
set_option Elab.async false
set_option linter.all false
set_option maxRecDepth 100000
namespace NP
open PySem PySem.Spec PyProof.Rows L2
section
variable {prog : Program} {w : World} {A : Around} {E : Value → Shared → Prop} {s : Shared} {K : Type} [DecidableEq K] {knd : KeyKind prog w K}
/-- a set of tuples: its keys in the table's order -/
structure TSet (knd : KeyKind prog w K) (h : Heap) (a : Addr) (ks : List (List K)) (t : SetTable) : Prop where
  ex : ∃ o es ep, h.get? a = some o ∧ o.ExactSet ∧ o.data = .set es ep t ∧ t.fits es.size = true ∧ es.size = ks.length ∧ ∀ (i : Nat) (k : List K), ks[i]? = some k → ∃ b, es[i]? = some (tupleKeyHash knd k, Value.ref b) ∧ IsTupleKey knd h k b
  gw : t.gaveWay = false
  pl : t.plain = true
def hashL (hs : List Int) (i : Nat) : Int := (hs[i]?).getD 0
/-- the search, by the table's own probing: a free place, or the place of the key -/
def seek (t : SetTable) (hs : List Int) (ks : List (List K)) (h : Int) (k : List K) : Nat → SetTable.Probe → Option (Nat ⊕ Nat)
  | 0, _ => none
  | n + 1, p => match t.probe (hashL hs) h p with
    | some (.empty j none) => some (.inl j)
    | some (.candidate _ i nx) => if ks[i]? = some k then some (.inr i) else if i < ks.length then seek t hs ks h k n nx else none
    | _ => none
/-- whether a tuple is in it, as the table tells -/
def tellsT (t : SetTable) (hs : List Int) (ks : List (List K)) (h : Int) (k : List K) : Option (Option Nat) := match seek t hs ks h k 60 (t.probeStart h) with
  | some (.inl _) => some none
  | some (.inr i) => some (some i)
  | none => none
theorem TSet.typeIs {a : Addr} {ks : List (List K)} {t : SetTable} (S : TSet knd s.heap a ks t) : s.TypeIs (.ref a) "set" := let ⟨o, _, _, ho, hc, _⟩ := S.ex; ⟨o, ho, hc.1⟩
end
end NP
set_option Elab.async false
set_option linter.all false
set_option maxRecDepth 100000
namespace NP
open PySem PySem.Spec PyProof.Rows L2
section
variable {prog : Program} {w : World} {A : Around} {E : Value → Shared → Prop} {s : Shared} {K : Type} [DecidableEq K] {knd : KeyKind prog w K}
def Ent (knd : KeyKind prog w K) (h : Heap) (k : List K) (e : Int × Value) : Prop := ∃ b, e = (tupleKeyHash knd k, Value.ref b) ∧ IsTupleKey knd h k b
end
end NP
set_option Elab.async false
set_option linter.all false
set_option maxRecDepth 100000
namespace NP
open PySem PySem.Spec PyProof.Rows L2
def hashI (k : List Int) : Int := reduceHash (Builtin.Tuple.tupleHashOf (k.map hashInt))
abbrev kI (k : List Int) : List Key := k.map Sum.inl
/-- the table behind a new key, with the keys' addresses -/
abbrev Kb := List Int × Addr
section
variable {X : Cx} {pins : List (Addr × Obj)} {σ : L2.St} {H : Hp} {s : Shared}
theorem items_of {P : Program} {w : World} : ∀ {k : List Int} {its : List Value}, Vals (k.map V.int) its → ItemsAre (mixKind P w) (kI k) its
  | [], _, h => by cases h; exact .nil
  | i :: k, _, h => by
    cases h with
    | cons r t =>
      obtain ⟨u, rfl⟩ := r
      exact .cons (by show Value.isInt i (.int i u) = true; unfold Value.isInt; simp) (items_of t)
theorem key_of (I : L2.Inv X pins σ H s) {b : Addr} {k : List Int} (h : H b = some (.tup (k.map V.int))) : IsTupleKey (mixKind X.prog X.w) s.heap (kI k) b := by
  obtain ⟨_, its, rv, o, ho, hc, n, hd⟩ := I.hok b _ h
  exact ⟨o, its.toArray, n, ho, hc, hd, by simpa using items_of rv⟩
end
end NP
set_option Elab.async false
set_option linter.all false
set_option maxRecDepth 100000
namespace NP
open PySem PySem.Spec PyProof.Rows L2
end NP
set_option Elab.async false
set_option linter.all false
set_option maxRecDepth 100000
namespace NP
open PySem PySem.Spec PyProof.Rows L2
/-- the world orders sets by itself -/
def byText (w : World) : Bool := w.params.followText "set-order"
/-- a set that stands at an address -/
structure SetSt (w : World) (h : Heap) (a : Addr) (es : Array (Int × Value)) (ep : Nat) (t : SetTable) : Prop where
  ex : ∃ o, h.get? a = some o ∧ o.ExactSet ∧ o.data = .set es ep t
  fits : t.fits es.size = true
  plain : t.plain = true
  led : t.led = !byText w
section
variable {prog : Program} {w : World} {A : Around} {E : Value → Shared → Prop} {s : Shared} {a I : Addr} {es : Array (Int × Value)} {ep : Nat} {t : SetTable}
theorem SetSt.typeIs (S : SetSt w s.heap a es ep t) : s.TypeIs (.ref a) "set" := let ⟨o, ho, hx, _⟩ := S.ex; ⟨o, ho, hx.1⟩
theorem SetSt.state {Q : (Array (Int × Value) × Nat × SetTable) → Shared → Prop} (S : SetSt w s.heap a es ep t) (h : Q (es, ep, t) s) : wpAny (model prog w) A (setState a) Q E s := by
  obtain ⟨o, ho, hx, hd⟩ := S.ex
  exact wpAny_setState_of ho hd S.fits h
theorem SetSt.keeps {h h' : Heap} (S : SetSt w h a es ep t) (k : ∀ o, h.get? a = some o → h'.get? a = some o) : SetSt w h' a es ep t := let ⟨o, ho, r⟩ := S.ex; ⟨⟨o, k o ho, r⟩, S.fits, S.plain, S.led⟩
end
end NP
set_option Elab.async false
set_option linter.all false
set_option maxRecDepth 100000
namespace NP
open PySem PySem.Spec PyProof.Rows L2
section
variable {prog : Program} {w : World} {A : Around} {E : Value → Shared → Prop} {s : Shared} {a I : Addr} {es : Array (Int × Value)} {ep : Nat} {t : SetTable}
end
end NP
set_option Elab.async false
set_option linter.all false
set_option maxRecDepth 100000
namespace NP
open PySem PySem.Spec PyProof.Rows L2
section
variable {prog : Program} {w : World} {A : Around} {E : Value → Shared → Prop} {s : Shared} {a I : Addr} {es : Array (Int × Value)} {ep : Nat} {t : SetTable}
end
end NP
set_option Elab.async false
set_option linter.all false
set_option maxRecDepth 100000
namespace NP
open PySem PySem.Spec PyProof.Rows L2
abbrev iK (k : List Int) : List (Int ⊕ List Nat) := k.map Sum.inl
/-- a tuple of whole numbers stands at an address -/
def TK (h : Heap) (p : Kb) : Prop := ∃ o its n, h.get? p.2 = some o ∧ o.cls = .type "tuple" ∧ o.data = .seq (List.toArray its) n ∧ Vals (p.1.map V.int) its
theorem TK.keep {h h' : Heap} {p : Kb} (t : TK h p) (k : ∀ b o, h.get? b = some o → h'.get? b = some o) : TK h' p := let ⟨o, its, n, ho, r⟩ := t; ⟨o, its, n, k _ _ ho, r⟩
abbrev shI : Nat → Bool := fun _ => false
theorem items_iK : ∀ {k : List Int} {its : List Value} (i : Nat), Vals (k.map V.int) its → tupItems shI i its = some (iK k)
  | [], _, i, h => by cases h; rfl
  | x :: k, _, i, h => by
    cases h with
    | cons r t =>
      obtain ⟨u, rfl⟩ := r
      have ih := items_iK (i + 1) t
      show (if shI i = true then none else (tupItems shI (i + 1) _).map (Sum.inl x :: ·)) = _
      rw [if_neg Bool.false_ne_true, ih]
      rfl
theorem TK.key {h : Heap} {p : Kb} (t : TK h p) : G.tupKeyC h shI (.ref p.2) = some (iK p.1) := by
  obtain ⟨o, its, n, ho, hc, hd, v⟩ := t
  exact G.tupKeyC_of ho hc hd (by simpa using items_iK 0 v)
theorem TK.tup {h : Heap} {p : Kb} (t : TK h p) (ne : p.1 ≠ []) : ∃ f, TupOf h shI (.ref p.2) f := by
  obtain ⟨o, its, n, ho, hc, hd, v⟩ := t
  match e : p.1, v, ne with
  | x :: r, .cons rx _, _ =>
    obtain ⟨u, rfl⟩ := rx
    exact ⟨_, p.2, o, _, n, rfl, ho, hc, hd, rfl, fun _ => ⟨x, u, rfl⟩, fun z => nomatch z⟩
section
variable {prog : Program} {w : World} {A : Around} {E : Value → Shared → Prop} {s : Shared}
end
end NP
set_option Elab.async false
set_option linter.all false
set_option maxRecDepth 100000
namespace NP
open PySem PySem.Spec PyProof.Rows L2
section
variable {prog : Program} {w : World} {A : Around} {E : Value → Shared → Prop} {s : Shared}
end
section
variable {X : Cx}
end
end NP
set_option Elab.async false
set_option linter.all false
set_option maxRecDepth 100000
namespace NP
open PySem PySem.Spec PyProof.Rows L2
section
variable {prog : Program} {w : World} {A : Around} {E : Value → Shared → Prop} {s : Shared}
end
section
variable {X : Cx} {pins : List (Addr × Obj)} {σ : L2.St} {H : Hp} {s : Shared}
theorem jt_truth {a : Expr} {ta : TE} (ha : JE X a ta) (he : ∀ whole, isTrue a X.env whole = (do let v ← whole; standAt a.pos; holding [v] (truthy v)) := by intro _; rfl) : JT X a (fun σ H Q => ta σ H fun x H' => ∃ k, TruV X.K x H' k ∧ Q k H') := ⟨pt_truth ha.p he⟩
end
section
variable {X : Cx} {x : Str} {px p pos gpos : Pos} {elt iter : Expr} {ifs : List Expr} {scope : Scope} {ts : TE} {c T : Addr} {R : L2.St → Hp → V → Bool → V → Prop} {cl : List (Str × Addr)}
end
end NP
set_option Elab.async false
set_option linter.all false
set_option maxRecDepth 100000
namespace NP
open PySem PySem.Spec PyProof.Rows L2
def behindOf (l : Int) (st : List Int) (put : Int) : List Int := ((st ++ [l]).filter fun i => decide (i ≠ put)).map fun i => i - 1
def putsOf (l r : Int) (st : List Int) : List Int := if -r ∈ st then [-r] else st ++ [l]
def stepsOf (l r : Int) (st : List Int) : List (Int × List Int) := (putsOf l r st).map fun p => (p, behindOf l st p)
/-- rising lists of k numbers from lo on, n of them to choose from, in order -/
def risers : Nat → Nat → Int → List (List Int)
  | 0, _, _ => [[]]
  | _ + 1, 0, _ => []
  | k + 1, n + 1, lo => (risers k n (lo + 1)).map (lo :: ·) ++ risers (k + 1) n (lo + 1)
def standsL (l r : Int) : List (List Int) := risers l.toNat (l + r).toNat (-r)
def firstL (l : Int) : List Int := (List.range l.toNat).map fun (i : Nat) => (i : Int)
/-- the table behind a new key, over keys of any kind -/
def newG {α : Type} (hash : α → Int) (ks : List α) (t : SetTable) (x : α) (j : Nat) : Option (List α × SetTable) :=
  let t1 := (t.put j).1
  let p := (t.put j).2
  let ks1 := ks.take p ++ x :: ks.drop p
  if p ≤ ks.length ∧ t1.fits (ks.length + 1) = true ∧ t1.gaveWay = false ∧ t1.plain = true then
    if t1.tooFull = true then
      match t1.relaid (ks1.map hash).toArray (SetTable.grown (ks.length + 1)) with
      | some (t2, order) => if SetTable.sizeAbove (SetTable.grown (ks.length + 1)) ≤ sizeLine ∧ (order.toList.filterMap (ks1[·]?)).length = ks.length + 1 ∧ t2.fits (ks.length + 1) = true ∧ t2.gaveWay = false ∧ t2.plain = true then some (order.toList.filterMap (ks1[·]?), t2) else none
      | none => none
    else some (ks1, t1)
  else none
def addsK (ks : List (List Int)) (t : SetTable) (k : List Int) : Option (List (List Int) × SetTable) := match seek t (ks.map hashI) ks (hashI k) k 60 (t.probeStart (hashI k)) with
  | some (.inl j) => newG hashI ks t k j
  | _ => none
/-- what waits, the set's keys, its table -/
abbrev Wk := List (List Int) × List (List Int) × SetTable
def stepW (l r : Int) (s : Wk) : Option Wk := match s.1.getLast? with
  | none => none
  | some k => match tellsT s.2.2 (s.2.1.map hashI) s.2.1 (hashI k) k with
    | some (some _) => some (s.1.dropLast, s.2.1, s.2.2)
    | some none => match addsK s.2.1 s.2.2 k with
      | some (ks', t') => if s.2.1.length < 900 ∧ s.1.length < 900 ∧ k.length ≤ 3 then some (s.1.dropLast ++ (stepsOf l r k).map (·.2), ks', t') else none
      | none => none
    | none => none
/-- so many steps lead from the one to the other -/
inductive RunsW (l r : Int) : Nat → Wk → Wk → Prop
  | done {s : Wk} : RunsW l r 0 s s
  | step {n : Nat} {s s' f : Wk} : stepW l r s = some s' → RunsW l r n s' f → RunsW l r (n + 1) s f
theorem RunsW.last {l r : Int} {n : Nat} {ks : List (List Int)} {t : SetTable} {f : Wk} (h : RunsW l r n ([], ks, t) f) : f = ([], ks, t) := by
  cases h with
  | done => rfl
  | step e _ => cases e
end NP
set_option Elab.async false
set_option linter.all false
set_option maxRecDepth 100000
namespace NP
open PySem PySem.Spec PyProof.Rows L2
end NP
set_option Elab.async false
set_option linter.all false
set_option maxRecDepth 100000
namespace NP
open PySem PySem.Spec PyProof.Rows L2
/-- a move on a ring of n places: no farther to the left than l -/
def near (n l m : Int) : Int := (m + l) % n - l
end NP
set_option Elab.async false
set_option linter.all false
set_option maxRecDepth 100000
namespace NP
open PySem PySem.Spec PyProof.Rows L2
theorem ix_listK {X : Cx} {K : PySem.W.Frag} (hK : X.K = K) : IxR X (rIxL K) := by subst hK; exact ix_list
end NP
set_option Elab.async false
set_option linter.all false
set_option maxRecDepth 100000
namespace NP
open PySem PySem.Spec PyProof.Rows L2
section
variable {X : Cx}
end
end NP
set_option Elab.async false
set_option linter.all false
set_option maxRecDepth 100000
namespace NP
open PySem PySem.Spec PyProof.Rows L2
section
variable {X : Cx} {pins : List (Addr × Obj)} {σ : L2.St} {H : Hp} {s : Shared} {A : Around} {E : Value → Shared → Prop}
end
end NP
set_option Elab.async false
set_option linter.all false
set_option maxRecDepth 100000
namespace NP
open PySem PySem.Spec PyProof.Rows L2
section
variable {prog : Program} {w : World} {A : Around} {E : Value → Shared → Prop} {s : Shared}
end
section
variable {X : Cx}
end
section
variable {prog : Program} {w : World} {A : Around} {E : Value → Shared → Prop} {s : Shared} {d : Addr} {o : Obj} {es : Array DictEntry} {ep : Nat}
end
end NP
set_option Elab.async false
set_option linter.all false
set_option maxRecDepth 100000
namespace NP
open PySem PySem.Spec PyProof.Rows L2
section
variable {prog : Program} {w : World} {A : Around} {E : Value → Shared → Prop} {s : Shared} {d I : Addr} {o : Obj} {es : Array DictEntry} {ep : Nat}
end
section
variable {X : Cx}
def tDispT (tk tv : TE) : TE := fun σ H Q => ∀ p, H p = none → tk σ (upd H p (.dT [])) fun x H1 => tv σ H1 fun y H2 => ∃ (k : List Key) (b : Addr), x = .ref b ∧ H2 b = some (.tup (k.map kV)) ∧ H2 p = some (.dT []) ∧ Q (.ref p) (upd H2 p (.dT [(k, y)]))
theorem je_dispT {k v : Expr} {tk tv : TE} {pos : Pos} (hu : X.A.units < cLine) (hk : JE X k tk) (hv : JE X v tv) : JE X (.Dict [some k] [v] pos) (tDispT tk tv) := ⟨by
  intro pins s σ H Q I q
  have hn := I.hok.fresh (Nat.le_refl s.heap.objs.size)
  have I1 := I.laid (a := s.heap.objs.size) (o := .dT []) (h' := s.heap.push { cls := .type "dict", data := .dict #[] }) (t' := s.toks) (fun _ _ q => Heap.get?_push_of_some _ q) (Nat.le_refl _) (dt_empty s.heap I.big)
  refine wpAny_Dict_any rfl rfl (List.cons_ne_nil _ _) (show (1 : Nat) ≤ 15 by decide) (pairTrees_cons_walk (thn (hk.p pins _ σ _ _ I1 (q _ hn)) fun u s1 ⟨x, H1, J1, rx, q1⟩ => thn (hv.p pins s1 σ H1 _ J1 q1) fun w2 s2 ⟨y, H2, J2, ry, q2⟩ => pairTrees_nil_walk ?_))
  obtain ⟨ks, b, rfl, hb, hp, q3⟩ := q2
  cases (show u = Value.ref b from rx)
  obtain ⟨z, hd, xs, rel, dd⟩ := dt_of J2.hok hp
  cases rel
  unfold storeAll
  rw [List.forIn_cons]
  refine wpAny_bind (wpAny_bind (wpAny_dictSet_heap (knd := tupleKind (mixKind X.prog X.w)) hu (L2.key_of J2.hok hb) dd fun h' dd' hs => wpAny_pure ?_))
  show wpAny _ _ (forIn _ _ _) _ _ _
  rw [List.forIn_nil]
  refine wpAny_pure ?_
  obtain ⟨q, es, ep, hq, h2, h3, h4, _, h5⟩ := dd'
  refine ⟨.ref _, _, d_write J2 (by rw [hp]; exact True.intro) hs ⟨q, hq⟩ (show ObjOk X.prog X.w _ _ _ (.dT [(ks, y)]) from ⟨(show 1 ≤ sizeLine by decide), hd, _, ?_, q, es, ep, hq, h2, h3, h4, h5⟩), rfl, q3⟩
  refine .cons ⟨rfl, ?_, ry⟩ .nil
  rw [upd_ne (ne_of hb hp (fun z => nomatch z))]
  exact hb⟩
end
end NP
set_option Elab.async false
set_option linter.all false
set_option maxRecDepth 100000
namespace NP
open PySem PySem.Spec PyProof.Rows L2
/-- a reach at a tuple -/
structure RA (K : PySem.W.Frag) (H : Hp) (rp : Addr) (l r : Int) : Prop where
  sq : SqT K H rp [.int l, .int r]
  l0 : 0 ≤ l
  l1 : l ≤ 3
  r0 : 0 ≤ r
  r1 : r ≤ 3
theorem RA.same {K : PySem.W.Frag} {H H' : Hp} {rp : Addr} {l r : Int} (h : RA K H rp l r) (e : Same H H') : RA K H' rp l r := ⟨le_seqT (le_same e) h.sq, h.l0, h.l1, h.r0, h.r1⟩
theorem RA.th {K : PySem.W.Frag} {H : Hp} {rp : Addr} {l r : Int} (h : RA K H rp l r) : Th K H (.ref rp) (.tuple [.int l, .int r]) := .dp (.tup h.sq (.cons (.int l) (.cons (.int r) .nil)))
/-- steps that stand in the heap: a tuple of what is put and the stand behind -/
abbrev Se := Addr × Int × Kb
structure SeAt (H : Hp) (e : Se) : Prop where
  t : H e.1 = some (.tup [.int e.2.1, .ref e.2.2.2])
  b : H e.2.2.2 = some (.tup (e.2.2.1.map V.int))
theorem SeAt.same {H H' : Hp} {e : Se} (h : SeAt H e) (s : Same H H') : SeAt H' e := ⟨s _ _ h.t, s _ _ h.b⟩
end NP
namespace NP
open PySem PySem.Spec PyProof.Rows L2
end NP
namespace NP
open PySem PySem.Spec PyProof.Rows L2
theorem RunsW.next {l r : Int} {m : Nat} {xs ks fks : List (List Int)} {k : List Int} {t ft : SetTable} (h : RunsW l r m (xs ++ [k], ks, t) ([], fks, ft)) : ∃ n s', m = n + 1 ∧ stepW l r (xs ++ [k], ks, t) = some s' ∧ RunsW l r n s' ([], fks, ft) := by
  generalize hs : (xs ++ [k], ks, t) = s0 at h
  cases h with
  | done =>
    injection hs with e _
    exact absurd (congrArg List.length e) (by simp)
  | step e r => exact ⟨_, _, rfl, e, r⟩
end NP
namespace NP
open PySem PySem.Spec PyProof.Rows L2
theorem num_ints : ∀ ns : List Int, (ns.map PyData.int).map numD = ns
  | [] => rfl
  | n :: ns => by rw [List.map_cons, List.map_cons, num_ints ns]; rfl
end NP
namespace NP
open PySem PySem.Spec PyProof.Rows L2
def spWell2 : Sp := fun vs H Q _ => ∃ c : Int, vs = [.int c] ∧ ∀ (z y : Int) (p : Addr) (H' : Hp), Same H H' → H' p = some (.lst [.int z, .int y]) → H p = none → Q (.ref p) H'
def spDraw2 : Sp := fun vs H Q _ => ∃ (p : Addr) (z y m : Int), vs = [.ref p, .int m] ∧ H p = some (.lst [.int z, .int y]) ∧ 0 < m ∧ m < 1073741824 ∧
  ∀ (r z' y' : Int) (H' : Hp), 0 ≤ r → r < m → (∀ b o, b ≠ p → H b = some o → H' b = some o) → H' p = some (.lst [.int z', .int y']) → Q (.int r) H'
end NP
namespace NP
open PySem PySem.Spec PyProof.Rows L2
/-- a list of tuples of numbers, new since H0 -/
structure KL (H0 H : Hp) (a : Addr) (kbs : List Kb) : Prop where
  same : Same H0 H
  new : H0 a = none
  at_ : H a = some (.lst (kbs.map fun q => V.ref q.2))
  ok : ∀ q ∈ kbs, H q.2 = some (.tup (q.1.map V.int))
theorem KL.put {H0 H H1 : Hp} {a b : Addr} {kbs : List Kb} {k : List Int} (h : KL H0 H a kbs) (s : Same H H1) (hb : H1 b = some (.tup (k.map V.int))) : KL H0 (upd H1 a (.lst ((kbs.map fun q => V.ref q.2) ++ [.ref b]))) a (kbs ++ [(k, b)]) := by
  have nt : ∀ {c : Addr} {j : List Int}, H1 c = some (.tup (j.map V.int)) → c ≠ a := fun {c j} hc e => by
    rw [e, s _ _ h.at_] at hc
    cases hc
  refine ⟨fun c o hc => ?_, h.new, ?_, fun q hq => ?_⟩
  · rw [upd_ne (ne_of_none hc h.new)]
    exact s _ _ (h.same _ _ hc)
  · rw [List.map_append]
    exact upd_same
  · rcases List.mem_append.mp hq with z | z
    · have := s _ _ (h.ok q z)
      rw [upd_ne (nt this)]
      exact this
    · rw [List.mem_singleton.mp z, upd_ne (nt hb)]
      exact hb
end NP
namespace NP
open PySem PySem.Spec PyProof.Rows L2
end NP
namespace NP
open PySem PySem.Spec PyProof.Rows L2
end NP
set_option Elab.async false
set_option linter.all false
set_option maxRecDepth 100000
namespace L2
open PySem PySem.Spec PyProof.Rows
section
variable {X : Cx}
end
end L2
set_option Elab.async false
set_option linter.all false
set_option maxRecDepth 100000
namespace ND
open PySem PySem.Spec PyProof.Rows L2 NP
section
variable {X : Cx} {pos apos cpos : Pos}
end
end ND
set_option Elab.async false
set_option linter.all false
set_option maxRecDepth 100000
namespace ND
open PySem PySem.Spec PyProof.Rows L2 NP
abbrev Row := List (List Int × Int)
def rowO (row : Row) : HO := .dT (row.map fun x => (kI x.1, V.int x.2))
abbrev TRow := List Int × Addr × List Se
structure TabAt (l r : Int) (H : Hp) (ta : Addr) (rows : List TRow) : Prop where
  at_ : H ta = some (.dT (rows.map fun x => (kI x.1, V.ref x.2.1)))
  lst : ∀ x ∈ rows, H x.2.1 = some (.lst (x.2.2.map fun e => V.ref e.1))
  se : ∀ x ∈ rows, ∀ e ∈ x.2.2, SeAt H e
  st : ∀ x ∈ rows, x.2.2.map (fun e => (e.2.1, e.2.2.1)) = stepsOf l r x.1
  ks : rows.map (·.1) = standsL l r
theorem TabAt.same {l r : Int} {H H' : Hp} {ta : Addr} {rows : List TRow} (h : TabAt l r H ta rows) (s : Same H H') : TabAt l r H' ta rows :=
  ⟨s _ _ h.at_, fun x hx => s _ _ (h.lst x hx), fun x hx e he => (h.se x hx e he).same s, h.st, h.ks⟩
def look (row : Row) (k : List Int) : Int := ((row.find? fun x => decide (x.1 = k)).map (·.2)).getD 0
theorem stands_nd {l r : Int} (l0 : 0 ≤ l) (l1 : l ≤ 3) (r0 : 0 ≤ r) (r1 : r ≤ 3) : (standsL l r).Nodup ∧ (standsL l r).length ≤ 100 ∧ (∀ k ∈ standsL l r, ∀ p ∈ stepsOf l r k, p.2 ∈ standsL l r) ∧ firstL l ∈ standsL l r := by
  rcases (show l = 0 ∨ l = 1 ∨ l = 2 ∨ l = 3 by omega) with rfl | rfl | rfl | rfl <;> rcases (show r = 0 ∨ r = 1 ∨ r = 2 ∨ r = 3 by omega) with rfl | rfl | rfl | rfl <;> exact ⟨by decide +kernel, by decide +kernel, by decide +kernel, by decide +kernel⟩
theorem nd_at {α : Type} : ∀ {l : List α} {i j : Nat} {x : α}, l.Nodup → l[i]? = some x → l[j]? = some x → i = j
  | [], _, _, _, _, h, _ => by cases h
  | y :: l, 0, 0, _, _, _, _ => rfl
  | y :: l, 0, j + 1, x, nd, h1, h2 => by
    cases h1
    exact absurd (List.mem_of_getElem? (by simpa using h2)) (List.nodup_cons.mp nd).1
  | y :: l, i + 1, 0, x, nd, h1, h2 => by
    cases h2
    exact absurd (List.mem_of_getElem? (by simpa using h1)) (List.nodup_cons.mp nd).1
  | y :: l, i + 1, j + 1, x, nd, h1, h2 => congrArg (· + 1) (nd_at (List.nodup_cons.mp nd).2 (by simpa using h1) (by simpa using h2))
def endRow (l r : Int) (e : List Int) : Row := (standsL l r).map fun k => (k, if k = e then 1 else 0)
def aheadRow (l r : Int) (row : Row) : Row := (standsL l r).map fun k => (k, ((stepsOf l r k).map fun p => look row p.2).sum)
def wr (l r : Int) (row : Row) : Nat → Row
  | 0 => row
  | n + 1 => aheadRow l r (wr l r row n)
/-- rows of numbers, the first with n steps left -/
def RowsAt (l r : Int) (row : Row) (n : Nat) (H : Hp) (as : List Addr) : Prop := as.length = n + 1 ∧ ∀ (i : Nat) (a : Addr), as[i]? = some a → H a = some (rowO (wr l r row (n - i)))
def countP (l r : Int) (n : Nat) : Int := look (wr l r (endRow l r (firstL l)) n) (firstL l)
end ND
set_option Elab.async false
set_option linter.all false
set_option maxRecDepth 100000
namespace L2
open PySem PySem.Spec PyProof.Rows
section
variable {prog : Program} {w : World}
end
section
variable {prog : Program} {w : World} {A : Around} {E : Value → Shared → Prop}
end
section
variable {X : Cx}
end
end L2
set_option Elab.async false
set_option linter.all false
set_option maxRecDepth 100000
namespace NW
open PySem PySem.Spec PyProof.Rows L2 NP
section
variable {prog : Program} {w : World} {A : Around} {E : Value → Shared → Prop}
theorem draw_l {it l : Addr} {its : Array Value} (ne : l ≠ it) : ∀ (n i : Nat) (s : Shared) (Q : List Value → Shared → Prop), s.heap.IsListIter it l i → s.heap.IsList l its → i + n ≤ its.size →
    (∀ g, g.IsListIter it l (i + n) → Heap.SameBut it s.heap g → Q ((its.toList.drop i).take n) { s with heap := g }) → wpAny (model prog w) A (draw (.ref it) n) Q E s
  | 0, i, s, Q, h1, _, _, q => by
    show wpAny _ _ (pure []) Q E s
    exact wpAny_pure (by simpa using q s.heap h1 (Heap.SameBut.refl ..))
  | n + 1, i, s, Q, h1, h2, hn, q => by
    have lt : i < its.size := by omega
    show wpAny _ _ (pyNext (.ref it) >>= _) Q E s
    refine wpAny_bind (wpAny_pyNext_list_item h1 h2 (x := its[i]) (by simp [lt]) fun g1 i1 s1 => ?_)
    refine wpAny_bind (wpAny_holding (draw_l ne n (i + 1) _ _ i1 (h2.extBut s1.extBut ne) (by omega) fun g2 i2 s2 => wpAny_pure ?_))
    have e : its.toList.drop i = its[i] :: its.toList.drop (i + 1) := by simp [List.drop_eq_getElem_cons, lt]
    have := q g2 (by rw [show i + (n + 1) = i + 1 + n by omega]; exact i2) (s1.trans s2)
    rw [e, List.take_succ_cons] at this
    exact this
theorem items_l {s : Shared} {l : Addr} {its : Array Value} {Q : List Value → Shared → Prop} (hh : A.handled = none) (hl : s.heap.IsList l its)
    (q : ∀ g, Heap.ExtBut s.heap.objs.size s.heap g → Q its.toList { s with heap := g }) : wpAny (model prog w) A (unpackItems (.ref l) its.size none) Q E s := by
  have ne : l ≠ s.heap.objs.size := by obtain ⟨o, ho, _⟩ := hl; exact Nat.ne_of_lt (Heap.lt_size ho)
  unfold unpackItems
  refine wpAny_bind ?_
  · unfold notIterableAtAll
    refine wpAny_bind (wpAny_specialOf hl.typeIs PySem.F.slot_list_iter.lookup ?_)
    refine wpAny_pure ?_
    simp only [Bool.false_eq_true, if_false]
    refine wpAny_bind (wpAny_holding (wpAny_pyIter_list hl ?_))
    refine wpAny_bind (wpAny_holding (draw_l ne its.size 0 _ _ ⟨_, Heap.get?_push_size _ rfl, rfl, rfl⟩ (hl.push _) (by omega) fun g1 i1 s1 => ?_))
    have all : List.take its.size (List.drop 0 its.toList) = its.toList := by
      rw [List.drop_zero]; exact List.take_of_length_le (by simp)
    rw [all]
    rw [if_neg (by simp)]
    have l1 : g1.IsList l its := (hl.push _).extBut s1.extBut ne
    refine wpAny_bind (wpAny_holding (wpAny_pyNext_list_end hh i1 l1 (by simp) fun g2 x2 => ?_))
    simp only [Option.isSome_none, Bool.false_eq_true, if_false]
    refine wpAny_pure (q g2 fun b o hb z => x2 b o hb (s1.extBut b o hb (Heap.get?_push_of_some _ z)))
theorem give_l {s : Shared} {env : Env} {es : List Expr} {x1} {pos : Pos} {l : Addr} {its : Array Value} {Q : Unit → Shared → Prop} (hh : A.handled = none) (hl : s.heap.IsList l its)
    (hn : (assignEach es env).length = its.size) (hst : (assignEach es env).findIdx? (·.1) = none)
    (q : ∀ g, Heap.ExtBut s.heap.objs.size s.heap g → wpAny (model prog w) A (assignInOrder ((assignEach es env).map (·.2)) its.toList) Q E { s with heap := g }) :
    wpAny (model prog w) A (assign (.Tuple es x1 pos) env (.ref l)) Q E s := by
  rw [assign_Tuple]
  refine wpAny_bind (wpAny_standAt ?_)
  unfold unpack
  rw [hn, hst]
  exact wpAny_bind (wpAny_holding (items_l hh hl q))
end
def gTupL (K : PySem.W.Frag) (n : Nat) (t : TGs) : TG := fun v σ H Q => ∃ a xs, v = .ref a ∧ SqL K H a xs ∧ xs.length = n ∧ t xs σ H Q
section
variable {X : Cx} {pos : Pos}
theorem jg_tupL {es : List Expr} {k : Nat} {t : TGs} {n : Nat} (hc : X.calm = true) (h : JGs X es t) (hn : (assignEach es X.env).length = n := by rfl) (hst : (assignEach es X.env).findIdx? (·.1) = none := by rfl) : JG X (.Tuple es k pos) (gTupL X.K n t) := ⟨by
  intro pins s σ H v u Q I r hw
  obtain ⟨a, xs, e1, hq, hl, hw⟩ := hw
  subst e1
  cases r
  obtain ⟨its, rv, ⟨o, m, ho, hcl, hdn, hd⟩, hz⟩ := I.list hq
  refine give_l (I.ok.hd hc) ⟨o, ho, hcl, m, hd⟩ (by simp [hn, ← hl, rv.length]) hst fun g hx => ?_
  have I1 : Inv X pins σ H { s with heap := g } := I.kept (t' := s.toks) fun b o e => hx b o (Nat.ne_of_lt (Heap.lt_size e)) e
  exact h.p pins _ σ H xs _ Q I1 (by simpa using rv) hw⟩
end
section
variable {X : Cx} {o e : Expr} {to : TE} {t : TA} {apos cpos : Pos}
end
end NW
set_option Elab.async false
set_option linter.all false
set_option maxRecDepth 100000
namespace NN
open PySem PySem.Spec PyProof.Rows L2 NP
def GExt (a b : Array GenState) : Prop := a.size ≤ b.size ∧ ∀ i, i < a.size → b[i]? = a[i]?
theorem GExt.refl (a : Array GenState) : GExt a a := ⟨Nat.le_refl _, fun _ _ => rfl⟩
theorem GExt.trans {a b c : Array GenState} (x : GExt a b) (y : GExt b c) : GExt a c := ⟨Nat.le_trans x.1 y.1, fun i hi => (y.2 i (Nat.lt_of_lt_of_le hi x.1)).trans (x.2 i hi)⟩
theorem GExt.push (a : Array GenState) (x : GenState) : GExt a (a.push x) := ⟨by rw [Array.size_push]; exact Nat.le_succ _, fun i hi => by rw [Array.getElem?_push_lt hi, Array.getElem?_eq_getElem hi]⟩
theorem bare_set {s : Shared} {g : Nat} {x : GenState} (h : AllBare s.gens) (hx : x.bare = true) : AllBare (s.setGen g x).gens := by
  intro y hy
  obtain ⟨i, hi, rfl⟩ := Array.mem_iff_getElem.mp hy
  by_cases e : i = g
  · subst e
    have : (s.setGen i x).gens[i] = x := by simp [Shared.setGen]
    rw [this]
    exact hx
  · have q := (GenOnly.setGen s g x).2 i e
    rw [Array.getElem?_eq_getElem hi] at q
    obtain ⟨hi', e'⟩ := Array.getElem?_eq_some_iff.mp q.symm
    exact e' ▸ h _ (Array.getElem_mem hi')
/-- what a generator's element may do: take from the heap's end, change the tables ts, make generators -/
def KeepsN (ts : List Addr) (JH : Heap → Prop) (s s' : Shared) : Prop := ∃ h' tk gs, s' = { s with heap := h', toks := tk, gens := gs } ∧ (∀ b o, b ∉ ts → s.heap.get? b = some o → h'.get? b = some o) ∧ GExt s.gens gs ∧ JH h' ∧ AllBare gs
structure ElN (prog : Program) (w : World) (ce : Env) (x : Str) (elt : Expr) (ts : List Addr) (JH : Heap → Prop) (n : Nat) (P : Nat → Value → Prop) (F : Nat → Value → Prop) (D U : Nat) : Prop where
  go : ∀ (B : Around) (E' : Value → Shared → Prop) (i : Nat) (v : Value) (u : Shared) (m : Str → Option Value), B.handled = none → B.depth ≤ D → B.units ≤ U → P i v → u.heap.Ns ce.locals m → m x = some v → JH u.heap → AllBare u.gens →
    wpAny (model prog w) B (eval elt ce) (fun y u' => F i y ∧ KeepsN ts JH u u') E' u
def SinceN (C : Addr) (wr ts : List Addr) (JH : Heap → Prop) (s₀ s : Shared) : Prop := ∃ h' tk gs, s = { s₀ with heap := h', toks := tk, gens := gs } ∧ (∀ b o, b ≠ C → b ∉ wr → b ∉ ts → s₀.heap.get? b = some o → h'.get? b = some o) ∧ GExt s₀.gens gs ∧ JH h' ∧ AllBare gs
theorem SinceN.base {C : Addr} {wr ts : List Addr} {JH : Heap → Prop} {s : Shared} (h : JH s.heap) (b : AllBare s.gens) : SinceN C wr ts JH s s := ⟨s.heap, s.toks, s.gens, rfl, fun _ _ _ _ _ e => e, .refl _, h, b⟩
theorem SinceN.heap {C : Addr} {wr ts : List Addr} {JH : Heap → Prop} {s₀ s : Shared} (x : SinceN C wr ts JH s₀ s) {h' : Heap} {tk : Nat} (k : ∀ b o, b ≠ C → b ∉ wr → b ∉ ts → s.heap.get? b = some o → h'.get? b = some o) (j : JH h') : SinceN C wr ts JH s₀ { s with heap := h', toks := tk } := by
  obtain ⟨h1, tk1, gs, rfl, k1, g1, _, b1⟩ := x
  exact ⟨h', tk, gs, rfl, fun b o h1 h2 h3 e => k b o h1 h2 h3 (k1 b o h1 h2 h3 e), g1, j, b1⟩
theorem SinceN.el {C : Addr} {wr ts : List Addr} {JH : Heap → Prop} {s₀ s s' : Shared} (x : SinceN C wr ts JH s₀ s) (y : KeepsN ts JH s s') : SinceN C wr ts JH s₀ s' := by
  obtain ⟨h1, tk1, gs, rfl, k1, g1, _, _⟩ := x
  obtain ⟨h2, tk2, gs2, rfl, k2, g2, j2, b2⟩ := y
  exact ⟨h2, tk2, gs2, rfl, fun b o n1 n2 n3 e => k2 b o n3 (k1 b o n1 n2 n3 e), g1.trans g2, j2, b2⟩
def protoN (C : Addr) (fp wr ts : List Addr) (JH : Heap → Prop) (n : Nat) (F : Nat → Value → Prop) : Protocol := fun m s₀ v s kap =>
  (∃ i, i + m + 1 = n ∧ F i v) ∧ SinceN C wr ts JH s₀ s ∧ ∀ t : Shared, (∀ b ∈ C :: fp, ∀ o, s.heap.get? b = some o → t.heap.get? b = some o) → AllBare t.gens → kap (.send .none) t
abbrev endN (C : Addr) (wr ts : List Addr) (JH : Heap → Prop) : GenEnd := fun n s₀ r s => r = .ok .next ∧ (n = 0 ∧ SinceN C wr ts JH s₀ s)
/-- what is known of the heap is known by the addresses of fp that the walk does not write -/
structure Frm (C : Addr) (fp wr ts : List Addr) (JH : Heap → Prop) : Prop where
  fr : ∀ h h', JH h → (∀ b ∈ fp, b ∉ wr → ∀ o, h.get? b = some o → h'.get? b = some o) → JH h'
  cf : C ∉ fp
  ct : C ∉ ts
section
variable {prog : Program} {w : World} {A : Around} {elt iter : Expr} {x : Str} {px : Pos} {scope : Scope} {pos : Pos} {I : Addr} {fp fq wr ts : List Addr} {n : Nat} {P F : Nat → Value → Prop} {St : Nat → Heap → Prop} {ce : Env} {JH : Heap → Prop}
theorem loopN (hh : A.handled = none) (Wk : ∀ B : Around, B.handled = none → Walks prog w B I fq wr n P St) (qf : ∀ b ∈ fq, b ∈ fp) (qt : ∀ b ∈ fq, b ∉ ts)
    (fm : Frm ce.locals fp wr ts JH) (kx : ce.kindOf x = some .local) (kp : (ce.scope.kind == .class || (ce.scope.kind == .module && ce.locals != ce.globals)) = false) (ko : ce.scope.isCoroutine = false)
    (el : ElN prog w ce x elt ts JH n P F (A.depth + 1) (A.units + 3)) : ∀ (k i : Nat) (s₀ s : Shared) (m : Str → Option Value), n - i = k → i ≤ n → St i s.heap → s.heap.Ns ce.locals m → SinceN ce.locals wr ts JH s₀ s →
      Seg (model prog w) A (endN ce.locals wr ts JH) (protoN ce.locals fp wr ts JH n F) (n - i) s₀ (.compLoop (.GeneratorExp elt [⟨.Name x px, iter, [], 0⟩] scope pos) 0 (.ref I) .none ce)
        ((model prog w).den (.compLoop (.GeneratorExp elt [⟨.Name x px, iter, [], 0⟩] scope pos) 0 (.ref I) .none ce)) [] s := by
  have h1 : (A.over (.compLoop (.GeneratorExp elt [⟨.Name x px, iter, [], 0⟩] scope pos) 0 (.ref I) .none ce) []).handled = none := hh
  have h2 : (A.over (.compLoop (.GeneratorExp elt [⟨.Name x px, iter, [], 0⟩] scope pos) 0 (.ref I) .none ce) []).depth ≤ A.depth + 1 := Nat.le_of_eq rfl
  have h3 : (A.over (.compLoop (.GeneratorExp elt [⟨.Name x px, iter, [], 0⟩] scope pos) 0 (.ref I) .none ce) []).units ≤ A.units + 3 := Nat.le_of_eq rfl
  have cq : ce.locals ∉ fq := fun z => fm.cf (qf _ z)
  have cw : ce.locals ∉ wr := fun z => cq ((Wk A hh).sub _ z)
  intro k
  induction k with
  | zero =>
    intro i s₀ s m hk hi st hn si
    have e : i = n := by omega
    subst e
    show Seg _ A _ _ _ s₀ _ ((compTurn (.GeneratorExp elt [⟨.Name x px, iter, [], 0⟩] scope pos) 0 (.ref I) .none ce).onRaise (leaving ce)) [] s
    rw [compTurn_gen, Sem.onRaise_eq_wrap]
    refine seg_bind_wrap (wpAny_standAt ?_)
    refine seg_bind_wrap ((Wk _ h1).done s _ _ st fun h' tk hk' => ?_)
    refine seg_end (.ok .next) ⟨rfl, Nat.sub_self _, si.heap (fun b o _ hw _ e => hk' b o hw e) ?_⟩
    obtain ⟨hp, tk1, gs, rfl, _, _, j, _⟩ := si
    exact fm.fr _ _ j fun b _ hw o e => hk' b o hw e
  | succ k ih =>
    intro i s₀ s m hk hi st hn si
    have lt : i < n := by omega
    have js : JH s.heap ∧ AllBare s.gens := by obtain ⟨hp, tk1, gs, rfl, _, _, j, b⟩ := si; exact ⟨j, b⟩
    show Seg _ A _ _ _ s₀ _ ((compTurn (.GeneratorExp elt [⟨.Name x px, iter, [], 0⟩] scope pos) 0 (.ref I) .none ce).onRaise (leaving ce)) [] s
    rw [compTurn_gen, Sem.onRaise_eq_wrap]
    refine seg_bind_wrap (wpAny_standAt ?_)
    refine seg_bind_wrap ((Wk _ h1).item i s _ _ lt st fun v hp1 tk1 pv st1 k1 => ?_)
    refine seg_bind_wrap (wpAny_of_eq (rfl : letOwnedTupleGo (.Name x px) (.ref I) v = pure ()) ?_)
    refine seg_bind_wrap (wpAny_assign_Name (wpAny_storeName_local kx (hn.at' fun o e => k1 _ o cw e) (fun hp2 hn2 s2 => ?_) kp))
    have up : ∀ b o, b ≠ ce.locals → b ∉ wr → s.heap.get? b = some o → hp2.get? b = some o := fun b o nc nw e => s2.extBut b o nc (k1 b o nw e)
    have st2 : St (i + 1) hp2 := (Wk A hh).frame _ _ _ st1 fun b hb o e => s2.extBut b o (fun z => cq (z ▸ hb)) e
    have j2 : JH hp2 := fm.fr _ _ js.1 fun b hb hw o e => up b o (fun z => fm.cf (z ▸ hb)) hw e
    simp only [List.forIn_nil]
    refine seg_bind_wrap (wpAny_pure ?_)
    simp only [if_true]
    obtain ⟨r, hr⟩ : ∃ r, n - i = r + 1 := ⟨n - i - 1, by omega⟩
    rw [hr]
    have hy : ∀ v, yieldOut ce v = yieldValue v := fun v => by simp only [yieldOut, ko, Bool.false_eq_true, if_false]
    simp only [hy]
    rw [Sem.bind_eq_wrap', Sem.bind_eq_wrap', Sem.wrap_wrap, Sem.wrap_wrap]
    have si2 := si.heap (h' := hp2) (tk := tk1) (fun b o nc nw _ e => up b o nc nw e) j2
    refine seg_wrap (wpAny_mono (el.go _ _ i v _ _ h1 h2 h3 pv hn2 (by simp) j2 js.2) (fun y s4 q4 => ?_) fun _ _ e => e)
    obtain ⟨fy, kn⟩ := q4
    have si4 := si2.el kn
    obtain ⟨hp4, tk4, gs4, rfl, k4, g4, j4, b4⟩ := kn
    refine seg_at (seg_yield rfl rfl rfl ⟨⟨i, by omega, fy⟩, si4, fun t al bt => ?_⟩)
    have jt : JH t.heap := fm.fr _ _ j4 fun b hb _ o e => al b (List.mem_cons_of_mem _ hb) o e
    have e5 : n - (i + 1) = r := by omega
    have go := ih (i + 1) t t _ (by omega) lt ((Wk A hh).frame _ _ _ st2 fun b hb o e => al b (List.mem_cons_of_mem _ (qf b hb)) o (k4 b o (qt b hb) e)) ((hn2.at' fun o e => k4 _ o fm.ct e).at' fun o e => al _ (List.mem_cons_self ..) o e) (SinceN.base jt bt)
    rw [e5] at go
    exact seg_again rfl go
theorem startN (hh : A.handled = none) (Wk : ∀ B : Around, B.handled = none → Walks prog w B I fq wr n P St) (qf : ∀ b ∈ fq, b ∈ fp) (qt : ∀ b ∈ fq, b ∉ ts)
    (fm : Frm ce.locals fp wr ts JH) (kx : ce.kindOf x = some .local) (kp : (ce.scope.kind == .class || (ce.scope.kind == .module && ce.locals != ce.globals)) = false) (ko : ce.scope.isCoroutine = false)
    (el : ElN prog w ce x elt ts JH n P F (A.depth + 1) (A.units + 3)) (s : Shared) (m : Str → Option Value) (st : St 0 s.heap) (hn : s.heap.Ns ce.locals m) (j : JH s.heap) (b : AllBare s.gens) :
      Seg (model prog w) A (endN ce.locals wr ts JH) (protoN ce.locals fp wr ts JH n F) n s (.compStart (.GeneratorExp elt [⟨.Name x px, iter, [], 0⟩] scope pos) 0 (.ref I) .none ce)
        ((model prog w).den (.compStart (.GeneratorExp elt [⟨.Name x px, iter, [], 0⟩] scope pos) 0 (.ref I) .none ce)) [] s := by
  have h1 : (A.over (.compStart (.GeneratorExp elt [⟨.Name x px, iter, [], 0⟩] scope pos) 0 (.ref I) .none ce) []).handled = none := hh
  have lp := loopN (iter := iter) (px := px) (scope := scope) (pos := pos) hh Wk qf qt fm kx kp ko el n 0 s s m (Nat.sub_zero _) (Nat.zero_le _) st hn (SinceN.base j b)
  rw [Nat.sub_zero] at lp
  show Seg _ A _ _ _ s _ ((compStart (.GeneratorExp elt [⟨.Name x px, iter, [], 0⟩] scope pos) 0 (.ref I) .none ce).onRaise (leaving ce)) [] s
  unfold compStart
  rw [Sem.onRaise_eq_wrap]
  show Seg _ A _ _ _ s _ ((ask >>= _).wrap _ _ _ _) [] s
  refine seg_bind_wrap (wpAny_askSetting ?_)
  split
  · exact seg_again rfl lp
  · first
      | exact seg_bind_wrap (wpAny_rule (seg_bind_wrap (wpAny_standAt (seg_bind_wrap ((Wk _ h1).self 0 s _ _ st (seg_again rfl lp))))))
      | (refine seg_bind_wrap (wpAny_rule ?_); show Seg _ A _ _ _ s _ ((standAt iter.pos >>= _).wrap _ _ _ _) [] s; exact seg_bind_wrap (wpAny_standAt (seg_bind_wrap ((Wk _ h1).self 0 s _ _ st (seg_again rfl lp)))))
end
def AtN (prog : Program) (w : World) (A : Around) (a : Addr) (g : Nat) (C : Addr) (fp wr ts : List Addr) (JH : Heap → Prop) (n : Nat) (F : Nat → Value → Prop) (j : Nat) (s : Shared) : Prop :=
  s.heap.IsGen a g ∧ s.heap.NoLimit ∧ JH s.heap ∧ AllBare s.gens ∧ ∃ gs, s.gens[g]? = some gs ∧ ∀ t : Shared, (∀ b ∈ C :: fp, ∀ o, s.heap.get? b = some o → t.heap.get? b = some o) → AllBare t.gens →
    gs.Goes (model prog w) A.in1 (endN C wr ts JH) (protoN C fp wr ts JH n F) (n - j) (.send .none) t
/-- what has changed: nothing but the generator's own places and the tables -/
structure MovN (g : Nat) (C : Addr) (wr ts : List Addr) (JH : Heap → Prop) (s s' : Shared) : Prop where
  heap : ∀ b o, b ≠ C → b ∉ wr → b ∉ ts → s.heap.get? b = some o → s'.heap.get? b = some o
  drawn : s'.drawn = s.drawn
  os : s'.os = s.os
  gens : s.gens.size ≤ s'.gens.size ∧ ∀ i, i < s.gens.size → i ≠ g → s'.gens[i]? = s.gens[i]?
  jh : JH s'.heap
  bare : AllBare s'.gens
theorem MovN.then {g : Nat} {C : Addr} {wr ts : List Addr} {JH : Heap → Prop} {s s' s'' : Shared} (x : MovN g C wr ts JH s s') (y : MovN g C wr ts JH s' s'') : MovN g C wr ts JH s s'' :=
  ⟨fun b o h1 h2 h3 e => y.heap b o h1 h2 h3 (x.heap b o h1 h2 h3 e), y.drawn.trans x.drawn, y.os.trans x.os, ⟨Nat.le_trans x.gens.1 y.gens.1, fun i hi hg => (y.gens.2 i (Nat.lt_of_lt_of_le hi x.gens.1) hg).trans (x.gens.2 i hi hg)⟩, y.jh, y.bare⟩
section
variable {prog : Program} {w : World} {A : Around} {a : Addr} {g : Nat} {C : Addr} {fp wr ts : List Addr} {JH : Heap → Prop} {n : Nat} {F : Nat → Value → Prop}
/-- where the generator's object and the limit lie -/
structure Apart (a C : Addr) (fp wr ts : List Addr) : Prop where
  ac : a ≠ C
  af : a ∉ fp
  aw : a ∉ wr
  at_ : a ∉ ts
  sf : cStatics ∈ fp
  sc : cStatics ≠ C
  sw : cStatics ∉ wr
  st : cStatics ∉ ts
theorem gens_run {s s1 : Shared} {gs x : GenState} (hg : s.gens[g]? = some gs) (x1 : SinceN C wr ts JH (s.setGen g .running) s1) : (s1.setGen g x).gens[g]? = some x ∧ s.gens.size ≤ (s1.setGen g x).gens.size ∧ (∀ i, i < s.gens.size → i ≠ g → (s1.setGen g x).gens[i]? = s.gens[i]?) := by
  obtain ⟨h1, tk1, gs1, rfl, _, ⟨e1, e2⟩, _, _⟩ := x1
  have sz : (s.setGen g .running).gens.size = s.gens.size := (GenOnly.setGen s g .running).1
  have sz1 : ∀ (u : Shared), (u.setGen g x).gens.size = u.gens.size := fun u => (GenOnly.setGen u g x).1
  have lt : g < s.gens.size := by
    rcases Nat.lt_or_ge g s.gens.size with z | z
    · exact z
    · rw [Array.getElem?_eq_none z] at hg; cases hg
  refine ⟨?_, ?_, fun i hi hn => ?_⟩
  · refine setGen_self (gs := .running) ?_
    show gs1[g]? = some .running
    rw [e2 g (by rw [sz]; exact lt)]
    exact setGen_self hg
  · rw [sz1]
    show s.gens.size ≤ gs1.size
    rw [← sz]
    exact e1
  · rw [(GenOnly.setGen _ g x).2 i hn]
    show gs1[i]? = s.gens[i]?
    rw [e2 i (by rw [sz]; exact hi)]
    exact (GenOnly.setGen s g .running).2 i hn
theorem itemN (hh : A.handled = none) (hroom : A.depth < recursionLimit) (ap : Apart a C fp wr ts) {j : Nat} (hj : j < n) {s : Shared} {Q : Option Value → Shared → Prop} {E : Value → Shared → Prop} (st : AtN prog w A a g C fp wr ts JH n F j s)
    (hQ : ∀ v s', F j v → AtN prog w A a g C fp wr ts JH n F (j + 1) s' → MovN g C wr ts JH s s' → Q (some v) s') : wpAny (model prog w) A (pyNext (.ref a)) Q E s := by
  obtain ⟨hg, hl, jh, bh, gs, hgs, hgo⟩ := st
  obtain ⟨m, hm⟩ : ∃ m, n - j = m + 1 := ⟨n - j - 1, by omega⟩
  rw [hm] at hgo
  refine wpAny_pyNext_genexpQ (P := fun k s₀ s₁ => k = 0 ∧ SinceN C wr ts JH s₀ s₁) hh hl hroom hg hgs (hgo _ (fun _ _ _ e => e) (bare_set bh rfl)) (fun v s₁ gs' hb hv => ?_) (fun s₁ hp h' hk => absurd hp.1 (Nat.succ_ne_zero m))
  obtain ⟨⟨i, hi, hF⟩, si, hkap⟩ := hv
  have ei : i = j := by omega
  subst ei
  obtain ⟨r1, r2, r3⟩ := gens_run (x := gs') hgs si
  obtain ⟨h₁, tk₁, gs1, rfl, k1, g1, j1, b1⟩ := si
  have key : ∀ b o, b ≠ C → b ∉ wr → b ∉ ts → s.heap.get? b = some o → h₁.get? b = some o := k1
  refine hQ v _ hF ⟨let ⟨o, nm, qn, ho, r⟩ := hg; ⟨o, nm, qn, key a o ap.ac ap.aw ap.at_ ho, r⟩, (let ⟨mc, hns, hnn⟩ := hl; ⟨mc, hns.at' fun o e => key cStatics o ap.sc ap.sw ap.st e, hnn⟩), j1, bare_set b1 hb, gs', r1, fun t al bt => ?_⟩ ⟨key, rfl, rfl, ⟨r2, r3⟩, j1, bare_set b1 hb⟩
  have e : n - (i + 1) = m := by omega
  rw [e]
  exact hkap t al bt
theorem doneN (hh : A.handled = none) (hroom : A.depth < recursionLimit) (fm : Frm C fp wr ts JH) {s : Shared} {Q : Option Value → Shared → Prop} {E : Value → Shared → Prop} (st : AtN prog w A a g C fp wr ts JH n F n s)
    (hQ : ∀ s', MovN g C wr ts JH s s' → Q none s') : wpAny (model prog w) A (pyNext (.ref a)) Q E s := by
  obtain ⟨hg, hl, jh, bh, gs, hgs, hgo⟩ := st
  rw [Nat.sub_self] at hgo
  refine wpAny_pyNext_genexpQ (P := fun k s₀ s₁ => k = 0 ∧ SinceN C wr ts JH s₀ s₁) hh hl hroom hg hgs (hgo _ (fun _ _ _ e => e) (bare_set bh rfl)) (fun v s₁ gs' hb hv => ?_) (fun s₁ hp h' hk => ?_)
  · obtain ⟨_, ⟨_, _, _, e0, _, _, _, b1⟩, hkap⟩ := hv
    exact False.elim (hkap s₁ (fun _ _ _ e => e) (by rw [e0]; exact b1))
  · obtain ⟨_, si⟩ := hp
    obtain ⟨r1, r2, r3⟩ := gens_run (x := .finished) hgs si
    obtain ⟨h₁, tk₁, gs1, rfl, k1, g1, j1, b1⟩ := si
    exact hQ _ ⟨fun b o n1 n2 n3 e => hk b o (k1 b o n1 n2 n3 e), rfl, rfl, ⟨r2, r3⟩, fm.fr _ _ j1 fun b _ _ o e => hk b o e, bare_set b1 rfl⟩
/-- all(..) over such a generator -/
theorem loopAll (hh : A.handled = none) (hroom : A.in1.depth < recursionLimit) (ap : Apart a C fp wr ts) (fm : Frm C fp wr ts JH) {R : Result → Shared → Prop} (tr : Nat → Bool) (htr : TruthOf prog w A.in1 F tr) : ∀ (k i : Nat) (s : Shared), n - i = k → i ≤ n → AtN prog w A.in1 a g C fp wr ts JH n F i s →
    (∀ s', MovN g C wr ts JH s s' → R (.ok (.ret (.bool (((List.range n).drop i).all tr)))) s') → codeAny (model prog w) A (.builtin "all.loop" ⟨[.ref a], []⟩) R s := by
  intro k
  induction k with
  | zero =>
    intro i s hk hi st hR
    have e : i = n := by omega
    subst e
    refine codeAny_builtin PySem.F.entry_all_loop ?_
    rw [Around.under_plainId PySem.F.plain_all_loop _]
    show wpAny _ A.in1 (pyNext (.ref a) >>= _) _ _ s
    refine wpAny_bind (doneN (A := A.in1) hh hroom fm st fun s' hm => wpAny_bind (wpAny_rule (wpAny_pure ?_)))
    have := hR s' hm
    rw [List.drop_of_length_le (by simp)] at this
    exact this
  | succ k ih =>
    intro i s hk hi st hR
    have lt : i < n := by omega
    have hd : (List.range n).drop i = i :: (List.range n).drop (i + 1) := by
      rw [List.drop_eq_getElem_cons (by simpa using lt)]; simp
    refine codeAny_builtin PySem.F.entry_all_loop ?_
    rw [Around.under_plainId PySem.F.plain_all_loop _]
    show wpAny _ A.in1 (pyNext (.ref a) >>= _) _ _ s
    refine wpAny_bind (itemN (A := A.in1) hh hroom ap lt st fun v s' fv st' hm => wpAny_bind (wpAny_holding (htr i v _ _ _ fv (wpAny_bind (wpAny_letGo ?_)))))
    cases hb : tr i with
    | true =>
      simp only [if_true]
      refine wpAny_pure ⟨plainId_quiet PySem.F.plain_all_loop _, ih (i + 1) _ (by omega) lt st' fun s'' hm' => ?_⟩
      have := hR s'' (hm.then hm')
      rw [hd, List.all_cons, hb, Bool.true_and] at this
      exact this
    | false =>
      simp only [Bool.false_eq_true, if_false]
      refine wpAny_bind (wpAny_rule (wpAny_pure ?_))
      have := hR s' hm
      rw [hd, List.all_cons, hb, Bool.false_and] at this
      exact this
theorem call_allN {E : Value → Shared → Prop} {Q : Value → Shared → Prop} {s : Shared} (hh : A.handled = none) (hroom : A.in1.depth < recursionLimit) (ap : Apart a C fp wr ts) (fm : Frm C fp wr ts JH) (tr : Nat → Bool) (htr : TruthOf prog w A.in1 F tr) (st : AtN prog w A.in1 a g C fp wr ts JH n F 0 s)
    (hQ : ∀ s', MovN g C wr ts JH s s' → Q (.bool ((List.range n).all tr)) s') : wpAny (model prog w) A (call (.builtin "all") [.ref a]) Q E s := by
  refine call_function_tree PySem.F.kind_all PySem.F.plain_all PySem.F.entry_all (PySem.F.args_all1 _) ?_
  unfold Builtin.«all»
  refine wpAny_bind (m := oneArg "all" _) (wpAny_pure ?_)
  refine wpAny_bind (wpAny_pyIter_gen st.1 ?_)
  exact wpAny_pure ⟨plainId_quiet PySem.F.plain_all_loop _, loopAll (A := A) hh hroom ap fm tr htr n 0 s rfl (Nat.zero_le _) st fun s' hm => by simpa using hQ s' hm⟩
end
end NN
set_option Elab.async false
set_option linter.all false
set_option maxRecDepth 100000
namespace NN
open PySem PySem.Spec PyProof.Rows L2 NP
section
variable {prog : Program} {w : World} {A : Around} {E : Value → Shared → Prop} {s : Shared}
/-- what is to be known when a generator is made -/
def MadeN (prog : Program) (w : World) (A : Around) (scope : Scope) (cl : List (Str × Addr)) (env : Env) (x : Str) (elt : Expr) (Q : Value → Shared → Prop) (it code : Value) (bi : Addr) (s₄ : Shared) : Prop :=
  ∃ (I : Addr) (fq wr ts : List Addr) (n : Nat) (P F : Nat → Value → Prop) (St : Nat → Heap → Prop) (JH : Heap → Prop), it = .ref I ∧ (∀ B : Around, B.handled = none → Walks prog w B I fq wr n P St) ∧ St 0 s₄.heap ∧ (∀ b ∈ fq, b < s₄.heap.objs.size) ∧ s₄.heap.NoLimit ∧ cStatics ∉ wr ∧
    (∀ b ∈ ts, b < s₄.heap.objs.size ∧ b ∉ fq) ∧ cStatics ∉ ts ∧ (∀ h h', JH h → (∀ b, b < s₄.heap.objs.size → b ∉ wr → ∀ o, h.get? b = some o → h'.get? b = some o) → JH h') ∧ JH s₄.heap ∧ AllBare s₄.gens ∧
    ElN prog w (genEnv scope cl s₄.heap.objs.size code bi env) x elt ts JH n P F (A.depth + 1) (A.units + 8) ∧
    (∀ a h₅ tk gs, gs.bare = true → s₄.heap.objs.size < a → h₅.objs.size = a + 1 → (∀ b o, s₄.heap.get? b = some o → h₅.get? b = some o) →
      Apart a s₄.heap.objs.size (List.range s₄.heap.objs.size) wr ts → Frm s₄.heap.objs.size (List.range s₄.heap.objs.size) wr ts JH →
      AtN prog w A.in1 a s₄.gens.size s₄.heap.objs.size (List.range s₄.heap.objs.size) wr ts JH n F 0 { s₄ with gens := s₄.gens.push gs, toks := tk, heap := h₅ } →
      Q (.ref a) { s₄ with gens := s₄.gens.push gs, toks := tk, heap := h₅ })
theorem genN {env : Env} {elt iter : Expr} {x : Str} {px : Pos} {scope : Scope} {cl : List (Str × Addr)} {pos : Pos} {Q : Value → Shared → Prop} (hh : A.handled = none) (hco : scope.isCoroutine = false) (hclos : closureFor scope env = pure cl) (hcell : ∀ y ∈ scope.names, y.2 ≠ .cell) (h0 : scope.names.lookup (".0" : Str) = some NameKind.local)
    (hx : scope.names.lookup x = some .local) (hkind : scope.kind = .function) (hroom : A.depth < recursionLimit)
    (h : wpAny (model prog w) A (eval iter env) (fun xv s₁ => wpAny (model prog w) A (pyIter xv) (fun it s₂ => s₂.heap.NoLimit ∧ wpAny (model prog w) A (genexprCode env pos (env.qual ++ "<genexpr>") scope) (fun code s₃ => wpAny (model prog w) A (builtinsFor env.globals env.builtins) (fun bi s₄ => MadeN prog w A scope cl env x elt Q it code bi s₄) E s₃) E s₂) E s₁) E s)
    (hs : ∀ x, genFold iter env x = pure x) : wpAny (model prog w) A (eval (.GeneratorExp elt [⟨.Name x px, iter, [], 0⟩] scope pos) env) Q E s := by
  refine wpAny_GeneratorExp_make hco hclos hcell h0 hkind hroom (wpAny_mono h (fun xv s₁ h₁ => wpAny_mono h₁ (fun it s₂ h₂ => ⟨h₂.1, wpAny_mono h₂.2 (fun code s₃ h₃ => wpAny_mono h₃ (fun bi s₄ h₄ => ?_) fun _ _ e => e) fun _ _ e => e⟩) fun _ _ e => e) fun _ _ e => e) hs
  obtain ⟨I, fq, wr, ts, n, P, F, St, JH, rfl, Wk, st, hfq, lim, csw, hts, cst, fr, jh, bare, el, hQ⟩ := h₄
  have cs : cStatics < s₄.heap.objs.size := let ⟨_, hn, _⟩ := lim; hn.lt
  intro h' hn' hs'
  have sz : h'.objs.size = s₄.heap.objs.size + 1 := by rw [hs'.1, Heap.size_push]
  have kp : ∀ b o, s₄.heap.get? b = some o → h'.get? b = some o := fun b o e => hs'.extBut b o (Nat.ne_of_lt (Heap.lt_size e)) (Heap.get?_push_of_some _ e)
  have wlt : ∀ b ∈ wr, b < s₄.heap.objs.size := fun b hb => hfq b ((Wk A hh).sub b hb)
  have big : ¬ h'.objs.size < s₄.heap.objs.size := by omega
  have ap : Apart h'.objs.size s₄.heap.objs.size (List.range s₄.heap.objs.size) wr ts := ⟨by rw [sz]; exact Nat.succ_ne_self _, fun z => big (List.mem_range.mp z), fun z => big (wlt _ z), fun z => big (hts _ z).1, List.mem_range.mpr cs, Nat.ne_of_lt cs, csw, cst⟩
  have fm : Frm s₄.heap.objs.size (List.range s₄.heap.objs.size) wr ts JH := ⟨fun h h' j k => fr h h' j fun b hb hw o e => k b (List.mem_range.mpr hb) hw o e, fun z => Nat.lt_irrefl _ (List.mem_range.mp z), fun z => Nat.lt_irrefl _ (hts _ z).1⟩
  have kq : ∀ b o, s₄.heap.get? b = some o → (h'.push { cls := .type "generator", data := .fields #[.int s₄.gens.size 0, .str "<genexpr>" (s₄.toks + 1), .str (env.qual ++ "<genexpr>") (s₄.toks + 1 + 1)] }).get? b = some o :=
    fun b o e => Heap.get?_push_of_some _ (kp b o e)
  refine hQ _ _ _ _ rfl (by omega) (by rw [Heap.size_push]) kq ap fm ⟨⟨_, _, _, Heap.get?_push_size _ rfl, rfl, rfl, rfl⟩, lim.keeps kq, fr _ _ jh fun b _ _ o e => kq b o e, bare.push rfl, _, Array.getElem?_push_size .., fun t al bt => ⟨rfl, ?_⟩⟩
  refine startN (A := A.in1.in1) (ce := genEnv scope cl s₄.heap.objs.size code bi env) (m := fun y => if y = ".0" then some (.ref I) else none) hh Wk (fun b hb => List.mem_range.mpr (hfq b hb)) (fun b hb z => (hts b z).2 hb) fm hx (by simp [genEnv, hkind]) hco
    ⟨fun B E' i v u m h1 h2 h3 h4 h5 h6 h7 h8 => el.go B E' i v u m h1 h2 (Nat.le_trans h3 ?_) h4 h5 h6 h7 h8⟩ t ((Wk A hh).frame _ _ _ st fun b hb o e => al b (List.mem_cons_of_mem _ (List.mem_range.mpr (hfq b hb))) o (kq b o e)) ?_ (fr _ _ jh fun b hb _ o e => al b (List.mem_cons_of_mem _ (List.mem_range.mpr hb)) o (kq b o e)) bt
  · show A.in1.in1.units + 3 ≤ A.units + 8
    first | exact Nat.le_refl _ | (simp only [Around.in1]; omega) | omega
  · exact (hn'.push _).at' fun o e => al _ (List.mem_cons_self ..) o e
end
end NN
set_option Elab.async false
set_option linter.all false
set_option maxRecDepth 100000
namespace NN
open PySem PySem.Spec PyProof.Rows L2 NP
/-- a predicate over the generators that more of them keep -/
def PB (gp : Array GenState → Drawn → Prop) : Prop := (∀ g d, gp g d → AllBare g) ∧ ∀ a b d, gp a d → AllBare b → GExt a b → gp b d
theorem pb_iff {gp : Array GenState → Drawn → Prop} (h : ∀ g d, gp g d ↔ AllBare g) : PB gp := ⟨fun g d x => (h g d).mp x, fun a b d _ x _ => (h b d).mpr x⟩
structure FnOkB (P : Program) (w : World) (K : PySem.W.Frag) (mg : Str → Option Value) (base : Heap) (k : Nat) (f : Addr) (fd : FuncData) (ps : List Str) (sp : Sp) : Prop where
  len : ∀ vs H Q E, sp vs H Q E → vs.length = ps.length
  run : ∀ (A : Around) (outer : List Env) (s : Shared) (H : Hp) (args : Args) (us : List Value) (vs : List V) (Q : VK) (E : XK) (gp : Array GenState → Drawn → Prop), PB gp → gp s.gens s.drawn → ((∀ g d, gp g d ↔ AllBare g) → A.frames = some outer ∧ A.guards = some []) → Room k A → Env0 P w K mg base A outer s H → BindsTo s fd args (ps.zip us) → Vals vs us → sp vs H Q E →
    codeAny (model P w) A (.call (.ref f) args) (CR gp CX0 outer P w H s Q E) s
theorem FnOkB.ok {P : Program} {w : World} {K : PySem.W.Frag} {mg : Str → Option Value} {base : Heap} {k : Nat} {f : Addr} {fd : FuncData} {ps : List Str} {sp : Sp} (F : FnOkB P w K mg base k f fd ps sp) (hk : 10 ≤ k) : FnOk P w K mg base CX0 k f fd ps sp :=
  ⟨F.len, fun A outer s H args us vs Q E gp hc hg hf hr he hb hv hs => F.run A outer s H args us vs Q E gp (pb_iff (hc hk)) hg hf hr he hb hv hs⟩
theorem fnBx {P : Program} {w : World} {K : PySem.W.Frag} {mg : Str → Option Value} {base : Heap} {x qual : Str} {st : Stmt} {f c : Addr} {fd : FuncData} {N ps : List Str} {k : Nat} {sp : Sp} (F : Fun K x qual st f fd) (S : FnScope N ps (defScope st)) (hc : fd.code = .ref c) (len : ∀ vs H Q E, sp vs H Q E → vs.length = ps.length)
    (hbody : ∀ (A : Around) (outer : List Env) (s : Shared) (H : Hp) (vs : List V) (Q : VK) (E : XK) (gp : Array GenState → Drawn → Prop), PB gp → Room k (A.deeper (envOfC qual (defScope st) s.heap.objs.size f (.ref c))) → sp vs H Q E →
      ∃ t, JB (cxOf CX0 P w K mg base N qual (defScope st) f (.ref c) A outer s H E gp).nox (defBody st) t ∧ t { nx := fun _ H' => Q .non H', rt := Q } (L2.start N vs) H) : FnOkB P w K mg base (k + 1) f fd ps sp := by
  obtain ⟨oc, od, kV, doc, pm, an, cdv, ct, osl, rfl, lk, hcd⟩ := F.ex
  have ec : cdv = .ref c := hc
  subst ec
  refine ⟨len, fun A outer s H args us vs Q E gp hpb hgp hfr hr e0 hb r hsp => ?_⟩
  have hl := len _ _ _ _ hsp
  have KX : K.In s.heap := e0.mod.kin.keeps fun b o e => (e0.bs b o e).1
  have lim : s.heap.NoLimit := e0.mod.nolimit.keeps fun b o e => (e0.bs b o e).1
  have hkind : ∀ y ∈ ps.zip us, (defScope st).names.lookup y.1 = some .local ∨ ((defScope st).names.lookup y.1 = some .cell ∧ ((cellsFrom (s.heap.objs.size + 1) (defScope st).names []).lookup y.1).isSome = true) := fun ⟨n, v⟩ hy => by
    rcases S.par n (List.of_mem_zip hy).1 with q | q
    · exact .inl q
    · exact .inr ⟨q, PySem.W.cellsFrom_some _ _ _ (.inl q)⟩
  refine codeAny_call_function hr.depth (KX _ _ lk) rfl S.co S.gen rfl (PySem.W.codeRec_of KX hcd) (hb _ _ _ _ ?_)
  refine wpAny_newFunctionEnv_cells S.kind hkind fun env he s1 x => ?_
  subst he
  refine ⟨lim.keeps x.toInCall.keep, codeAny_func ?_⟩
  obtain ⟨t, ⟨ht⟩, hq⟩ := hbody A outer s H vs Q E gp hpb (hr.deeper _) hsp
  have ht := ht.nox
  have I : Inv (cxOf CX0 P w K mg base N qual (defScope st) f (.ref c) A outer s H E gp) [] (L2.start N vs) H s1 := inv_start hgp hfr S hr.hd e0 hl r x
  refine wpAny_mono (ht [] s1 (L2.start N vs) H _ I hq) (fun fl s' hs => ?_) fun e s' hs => hs
  have fin : ∀ {σ' : L2.St} {H' : Hp} {v : V} {u : Value}, Inv (cxOf CX0 P w K mg base N qual (defScope st) f (.ref c) A outer s H E gp) [] σ' H' s' → RelV v u → Q v H' → CE gp outer P w H s Q u s' :=
    fun {σ' H' v u} J rv q => ⟨v, H', J.os, J.bare, J.base, J.hok, rv, q⟩
  cases fl with
  | ret u =>
    obtain ⟨v, σ', H', J, rv, q⟩ := hs
    exact fin J rv q
  | next =>
    obtain ⟨σ', H', J, q⟩ := hs
    exact fin (v := V.non) (u := Value.none) J rfl q
  | brk =>
    obtain ⟨_, _, _, q⟩ := hs
    exact False.elim q
  | cont =>
    obtain ⟨_, _, _, q⟩ := hs
    exact False.elim q
def TOk (h : Heap) (t : Addr) : Prop := ∃ ps : Array Value, h.get? t = some { cls := .none, data := .fields ps } ∧ TriplesOk ps.toList
structure QsN (P : Program) (w : World) (K : PySem.W.Frag) (mg : Str → Option Value) (base : Heap) (ts : List Addr) (H : Hp) (s : Shared) : Prop where
  mod : Mod K mg base
  bs : ∀ b o, base.get? b = some o → s.heap.get? b = some o ∧ H b = none
  bsz : base.objs.size ≤ s.heap.objs.size
  hok : HOk P w H s.heap
  fz : ∀ b u, H b = some u → (∃ o u', u = .frz o u') ∨ (b ∈ ts ∧ u = TabP b)
  tb : ∀ t ∈ ts, H t = some (TabP t)
  bare : AllBare s.gens
theorem QsN.tok {P : Program} {w : World} {K : PySem.W.Frag} {mg : Str → Option Value} {base : Heap} {ts : List Addr} {H : Hp} {s : Shared} (q : QsN P w K mg base ts H s) (tk : Nat) : QsN P w K mg base ts H { s with toks := tk } := ⟨q.mod, q.bs, q.bsz, q.hok, q.fz, q.tb, q.bare⟩
theorem QsN.kIn {P : Program} {w : World} {K : PySem.W.Frag} {mg : Str → Option Value} {base : Heap} {ts : List Addr} {H : Hp} {s : Shared} (q : QsN P w K mg base ts H s) : K.In s.heap := q.mod.kin.keeps fun b o e => (q.bs b o e).1
/-- where nothing is tracked but what is known to the object, the older rules serve -/
theorem QsN.quiet {P : Program} {w : World} {K : PySem.W.Frag} {mg : Str → Option Value} {base : Heap} {H : Hp} {s : Shared} (q : QsN P w K mg base [] H s) : Qs P w K mg base H s := ⟨q.mod, q.bs, q.bsz, q.hok, fun b u e => (q.fz b u e).elim id fun z => absurd z.1 (by simp)⟩
def KeepsT (ts : List Addr) (s s' : Shared) : Prop := ∃ h' tk gs, s' = { s with heap := h', toks := tk, gens := gs } ∧ (∀ b o, b ∉ ts → s.heap.get? b = some o → h'.get? b = some o) ∧ GExt s.gens gs ∧ (∀ t ∈ ts, TOk h' t) ∧ AllBare gs
theorem keeps_t {s s' : Shared} (h : Keeps s s') (b : AllBare s.gens) : KeepsT [] s s' := by
  obtain ⟨h', tk, rfl, k⟩ := h
  exact ⟨h', tk, s.gens, rfl, fun b o _ e => k b o e, .refl _, (fun t ht => by cases ht), b⟩
theorem keepsT_tok {ts : List Addr} {s s' : Shared} {tk : Nat} (h : KeepsT ts { s with toks := tk } s') : KeepsT ts s s' := by
  obtain ⟨h', tk', gs, rfl, k, g, t, b⟩ := h
  exact ⟨h', tk', gs, rfl, k, g, t, b⟩
theorem callB {P : Program} {w : World} {K : PySem.W.Frag} {mg : Str → Option Value} {base : Heap} {ts : List Addr} {H : Hp} {s : Shared} {k : Nat} {f : Addr} {fd : FuncData} {ps : List Str} {sp : Sp} {A : Around} {E : Value → Shared → Prop} {us : List Value} {vs : List V} {r : V}
    (F : FnOkB P w K mg base k f fd ps sp) (hb : Binds K fd ps []) (q : QsN P w K mg base ts H s) (hr : Room k A) (rv : Vals vs us) (h : sp vs H (fun v H' => v = r ∧ ∀ t ∈ ts, H' t = some (TabP t)) E0) :
    wpAny (model P w) A (call (.ref f) us) (fun u s' => RelV r u ∧ KeepsT ts s s') E s := by
  have hl : us.length = ps.length := by rw [← rv.length]; exact F.len _ _ _ _ h
  have bd := hb s us q.kIn (by rw [List.append_nil]; exact hl)
  rw [List.append_nil] at bd
  refine wpAny_call (codeAny_mono (F.run A [] s H ⟨us, []⟩ us vs _ E0 (fun g d => AllBare g ∧ d = s.drawn ∧ GExt s.gens g) ⟨fun g d x => x.1, fun a b d x y z => ⟨y, x.2.1, x.2.2.trans z⟩⟩ ⟨q.bare, rfl, .refl _⟩ (fun z => ?_) hr ⟨q.mod, q.bs, q.bsz, trivial, fun b hb => absurd (show b ∈ ([] : List Addr) from hb) (by simp), q.hok⟩ bd rv h) fun res s' hq => ?_)
  · have z1 := ((z s.gens { order := 0 }).mpr q.bare).2.1
    have z2 := ((z s.gens { order := 1 }).mpr q.bare).2.1
    rw [← z2] at z1
    cases z1
  · cases res with
    | error e => exact hq.elim
    | ok fl =>
      cases fl with
      | next => exact hq.elim
      | brk => exact hq.elim
      | cont => exact hq.elim
      | ret u =>
        obtain ⟨v, H', os, ⟨g1, g2, g3⟩, un, hok', r', e, tb⟩ := hq
        obtain rfl : v = r := e
        refine ⟨r', s'.heap, s'.toks, s'.gens, ?_, fun b o nt eb => ?_, g3, fun t ht => ?_, g1⟩
        · obtain ⟨hh, g, d, t, os'⟩ := s'
          obtain rfl : os' = s.os := os
          obtain rfl : d = s.drawn := g2
          rfl
        · cases hb : H b with
          | none => exact un.keep b o eb hb (by intro z; exact absurd (show b ∈ ([] : List Addr) from z) (by simp)) (by simp)
          | some x =>
            rcases q.fz b x hb with ⟨ob, u', rfl⟩ | ⟨z, _⟩
            · obtain ⟨e1, _⟩ := (show ObjOk P w H s.heap b (.frz ob u') from q.hok b _ hb)
              obtain ⟨e2, _⟩ := (show ObjOk P w H' s'.heap b (.frz ob u') from hok' b _ (un.frzs b ob u' hb))
              rw [eb] at e1
              cases e1
              exact e2
            · exact absurd z nt
        · exact (show ObjOk P w H' s'.heap t (TabP t) from hok' t _ (tb t ht)).1
section
variable {P : Program} {w : World} {K : PySem.W.Frag} {mg : Str → Option Value} {base : Heap} {ts : List Addr} {H : Hp} {s : Shared} {A : Around} {E : Value → Shared → Prop} {env : Env}
theorem q_callB {k : Nat} {f : Addr} {fd : FuncData} {ps : List Str} {sp : Sp} {x : Str} {p pos : Pos} {e : Expr} {es : List Expr} {vs : List V} {r : V} (F : FnOkB P w K mg base k f fd ps sp) (hb : Binds K fd ps []) (q : QsN P w K mg base ts H s) (hr : Room k A)
    (hk : env.scope.kind = .function) (hx : env.kindOf x = some .globalImplicit) (hgl : env.globals = mainGlobals) (hm : mg x = some (.ref f)) (hkp : PySem.W.keepIn K (.ref f) = true) (ha : QAs (model P w) A E env s (e :: es) vs) (h : sp vs H (fun v H' => v = r ∧ ∀ t ∈ ts, H' t = some (TabP t)) E0)
    (hd : (x == ("__debug__" : Str)) = false := by decide) (he : starEach (e :: es) env = (false, eval e env) :: starEach es env := by rfl) (hpl : (backTo pos (starEach es env)).any (·.1) = false := by rfl) :
    wpAny (model P w) A (eval (.Call (.Name x p) (e :: es) [] pos) env) (fun u s' => RelV r u ∧ KeepsT ts s s') E s := by
  refine wpAny_Call_Name_kw (Calls.Name_function_global hk hx (Calls.loadGlobal_global (by rw [hgl]; exact q.mod.glob.keeps fun b o e => (q.bs b o e).1) hm ?_) hd)
  refine PySem.W.callWith_K (h₀ := base) q.mod.kin hkp (thn (ha pos s.toks) fun us s1 ⟨rv, tk, e1⟩ => ?_) he hpl
  subst e1
  exact ⟨(q.tok tk).kIn, thn (callB F hb (q.tok tk) hr rv h) fun u s' hq => ⟨hq.1, keepsT_tok hq.2⟩⟩
end
end NN
set_option Elab.async false
set_option linter.all false
set_option maxRecDepth 100000
namespace NN
open PySem PySem.Spec PyProof.Rows L2 NP
def tAllN (K : PySem.W.Frag) (T : Addr) (ts : List Addr) (R : L2.St → Hp → V → Bool → Prop) (ti : TE) : TE := fun σ H Q => ti σ H fun v H1 => ∃ (a : Addr) (xs : List V) (bs : List Bool), v = .ref a ∧ (SqT K H1 a xs ∨ SqL K H1 a xs) ∧ H1 T = some (TabP T) ∧ (∀ t ∈ ts, H1 t = some (TabP t)) ∧ T ∉ ts ∧ bs.length = xs.length ∧
  (∀ (i : Nat) (y : V), xs[i]? = some y → ∃ b, bs[i]? = some b ∧ R σ H1 y b) ∧ Q (.bl (bs.all id)) H1
section
variable {X : Cx} {x : Str} {px p pos gpos : Pos} {elt iter : Expr} {scope : Scope} {ti : TE} {c T : Addr} {R : L2.St → Hp → V → Bool → Prop} {cl : List (Str × Addr)}
set_option maxHeartbeats 2000000 in
theorem pe_allN {ts : List Addr} (hall : X.mg "all" = none) (hg : Gl X "all") (hpb : PB X.gp) (hcalm : X.calm = true) (hroom : X.A.depth < recursionLimit) (hit : PE X iter ti) (hcode : X.env.code = .ref c) (hcb : CodeB X.base X.mg c T)
    (hR : ∀ (σ : L2.St) (H H' : Hp) (y : V) (b : Bool), RdLe H H' → R σ H y b → R σ H' y b)
    (helt : ∀ (σ : L2.St) (code : Value) (C : Addr) (A' : Around) (E' : Value → Shared → Prop) (s2 : Shared) (m2 : Str → Option Value) (H : Hp) (y : V) (v : Value) (b : Bool), A'.handled = none → A'.depth ≤ X.A.depth + 1 → A'.units ≤ X.A.units + 8 → QsN X.prog X.w X.K X.mg X.base ts H s2 →
      s2.heap.Ns C m2 → m2 x = some v → RelV y v → FreeV X σ s2.heap → R σ H y b → wpAny (model X.prog X.w) A' (eval elt (genEnv scope cl C code builtinsNs X.env)) (fun u s3 => u = .bool b ∧ KeepsT ts s2 s3) E' s2)
    (hco : scope.isCoroutine = false := by rfl) (hclos : closureFor scope X.env = pure cl := by rfl) (hcell : ∀ y ∈ scope.names, y.2 ≠ .cell := by decide) (h0 : scope.names.lookup (".0" : Str) = some NameKind.local := by rfl)
    (hx : scope.names.lookup x = some .local := by rfl) (hkind : scope.kind = .function := by rfl) (hfold : ∀ x, genFold iter X.env x = pure x := by intro _; rfl)
    (he : starEach [.GeneratorExp elt [⟨.Name x px, iter, [], 0⟩] scope gpos] X.env = (false, eval (.GeneratorExp elt [⟨.Name x px, iter, [], 0⟩] scope gpos) X.env) :: starEach [] X.env := by rfl) (hpl : (backTo pos (starEach [] X.env)).any (·.1) = false := by rfl) :
    PE X (.Call (.Name "all" p) [.GeneratorExp elt [⟨.Name x px, iter, [], 0⟩] scope gpos] [] pos) (tAllN X.K T ts R ti) := by
  intro pins s σ H Q I h
  have hh := I.ok.hd hcalm
  refine wpAny_Call_Name_kw (ld_blt I hg hall boot_all ?_ (by decide) (by decide))
  refine PyProof.Rows.callWith_builtin1 ?_ he hpl
  rw [he]
  show wpAny _ _ (spliced ((false, eval (.GeneratorExp elt [⟨.Name x px, iter, [], 0⟩] scope gpos) X.env) :: backTo pos (starEach [] X.env))) _ _ s
  refine Calls.spliced_cons ?_
  refine genN (cl := cl) hh hco hclos hcell h0 hx hkind hroom (thn (hit pins s σ H _ I h) fun u s1 ⟨v, H1, I1, rv, q1⟩ => ?_) hfold
  obtain ⟨a, xs, bs, rfl, hsq, hT, hts, Tts, hbl, hbs, q⟩ := q1
  obtain rfl : u = Value.ref a := rv
  have src : ∃ (o : Obj) (its : List Value) (ax : Addr) (St0 : Nat → Heap → Prop), Vals xs its ∧ ax < s1.heap.objs.size ∧ ax ≠ T ∧ ax ∉ ts ∧
      (∀ (Q' : Value → Shared → Prop) (E' : Value → Shared → Prop), Q' (.ref s1.heap.objs.size) { s1 with heap := s1.heap.push o } → wpAny (model X.prog X.w) X.A (pyIter (.ref a)) Q' E' s1) ∧
      (∀ A' : Around, A'.handled = none → Walks X.prog X.w A' s1.heap.objs.size [s1.heap.objs.size, ax] [s1.heap.objs.size] its.toArray.size (fun i v => its.toArray[i]? = some v) St0) ∧ St0 0 (s1.heap.push o) ∧ ∃ o2, (s1.heap.push o).get? s1.heap.objs.size = some o2 := by
    obtain ⟨psT, eT, tT⟩ := (show ObjOk X.prog X.w H1 s1.heap T (TabP T) from I1.hok T _ hT).1
    have tbs : ∀ t ∈ ts, TOk s1.heap t := fun t ht => (show ObjOk X.prog X.w H1 s1.heap t (TabP t) from I1.hok t _ (hts t ht)).1
    rcases hsq with hsq | hsq
    · obtain ⟨its, r, ht, _⟩ := I1.tuple hsq
      have ht' : s1.heap.IsTuple a its.toArray := ht
      have lt : a < s1.heap.objs.size := ht.lt
      refine ⟨_, its, a, _, r, lt, fun e => ?_, fun e => ?_, fun Q' E' hq => wpAny_pyIter_tuple ht' hq, fun A' hA => Walks.tuple hA _ _ (Nat.ne_of_lt lt) _, ⟨⟨_, Heap.get?_push_size _ rfl, rfl, rfl⟩, ht'.push _⟩, _, Heap.get?_push_size _ rfl⟩
      · obtain ⟨ob, e1, e2, _⟩ := ht
        rw [e, eT] at e1
        cases e1
        cases e2
      · obtain ⟨ob, e1, e2, _⟩ := ht
        obtain ⟨ps, e3, _⟩ := tbs a e
        rw [e3] at e1
        cases e1
        cases e2
    · obtain ⟨its, r, ⟨ob, n, e1, e2, e3, e4⟩, _⟩ := I1.list hsq
      have hl : s1.heap.IsList a its.toArray := ⟨ob, e1, e2, n, e4⟩
      have lt : a < s1.heap.objs.size := Heap.lt_size e1
      refine ⟨_, its, a, _, r, lt, fun e => ?_, fun e => ?_, fun Q' E' hq => wpAny_pyIter_list hl hq, fun A' hA => Walks.list hA _ _ (Nat.ne_of_lt lt) _, ⟨⟨_, Heap.get?_push_size _ rfl, rfl, rfl⟩, hl.push _⟩, _, Heap.get?_push_size _ rfl⟩
      · rw [e, eT] at e1
        cases e1
        cases e2
      · obtain ⟨ps, e5, _⟩ := tbs a e
        rw [e5] at e1
        cases e1
        cases e2
  obtain ⟨o, its, ax, St0, rits, axlt, axT, axts, hiter, W, hst, o2, e2⟩ := src
  have tbs : ∀ t ∈ ts, TOk s1.heap t := fun t ht => (show ObjOk X.prog X.w H1 s1.heap t (TabP t) from I1.hok t _ (hts t ht)).1
  have tlt : ∀ t ∈ ts, t < s1.heap.objs.size := fun t ht => let ⟨_, e, _⟩ := tbs t ht; Heap.lt_size e
  have bts : ∀ b o', X.base.get? b = some o' → b ∉ ts := fun b o' e z => by
    have := (I1.bs b o' e).2
    rw [hts b z] at this
    cases this
  refine hiter _ _ ?_
  obtain ⟨psT, eT, tT⟩ := (show ObjOk X.prog X.w H1 s1.heap T (TabP T) from I1.hok T _ hT).1
  obtain ⟨oc, vs, file, tf, flags, tg, inF, text, tt, r1, rc, rv, r2, r3, r4, r5, r6, r7⟩ := hcb.cd
  have Tlt : T < s1.heap.objs.size := Heap.lt_size eT
  have lim2 : (s1.heap.push o).NoLimit := I1.nolimit.push _
  have csT : cStatics ≠ T := fun e => by
    obtain ⟨_, ⟨ob, es, ep, z1, z2, _⟩, _⟩ := I1.nolimit
    rw [e, eT] at z1
    cases z1
    cases z2
  have cslt : cStatics < s1.heap.objs.size := let ⟨_, hn, _⟩ := I1.nolimit; hn.lt
  have bT : ∀ b o', X.base.get? b = some o' → b ≠ T := fun b o' e z => by
    have := (I1.bs b o' e).2
    rw [z, hT] at this
    cases this
  obtain ⟨bm, ob, M⟩ := hcb.bm
  -- behind the code is found or made
  have core : ∀ (code : Value) (h3 : Heap) (tk3 : Nat) (ps3 : Array Value), (∀ b o', b ≠ T → (s1.heap.push o).get? b = some o' → h3.get? b = some o') → h3.get? T = some { cls := .none, data := .fields ps3 } → TriplesOk ps3.toList →
      wpAny (model X.prog X.w) X.A (builtinsFor X.env.globals X.env.builtins) (fun bi s4 => bi = builtinsNs ∧ s4 = { s1 with heap := h3, toks := tk3 } ∧ h3.NoLimit ∧ St0 0 h3 ∧ s1.heap.objs.size < h3.objs.size) X.xe { s1 with heap := h3, toks := tk3 } := by
    intro code h3 tk3 ps3 ext e3 t3
    have M3 : BMod h3 X.env.globals X.mg bm ob := by
      rw [I.ok.glob]
      exact M.keeps fun b o' e => ext b o' (bT b o' e) (Heap.get?_push_of_some _ (I1.bk b o' e))
    refine wpAny_builtinsFor M3.ns M3.name M3.ne M3.obj M3.cls M3.dict M3.data ⟨rfl, rfl, lim2.extBut ext csT, (W X.A hh).frame _ _ _ hst fun b hb o' e => ext b o' ?_ e, Heap.lt_size (ext _ o2 (Nat.ne_of_gt Tlt) e2)⟩
    rcases List.mem_cons.mp hb with z | hb
    · rw [z]; exact Nat.ne_of_gt Tlt
    · rcases List.mem_cons.mp hb with z | hb
      · rw [z]; exact axT
      · cases hb
  have done : ∀ (code : Value) (h3 : Heap) (tk3 : Nat) (ps3 : Array Value) (ext : ∀ b o', b ≠ T → (s1.heap.push o).get? b = some o' → h3.get? b = some o') (e3 : h3.get? T = some { cls := .none, data := .fields ps3 }) (t3 : TriplesOk ps3.toList) (lim3 : h3.NoLimit) (st3 : St0 0 h3) (sz3 : s1.heap.objs.size < h3.objs.size),
      ElN X.prog X.w (genEnv scope cl h3.objs.size code builtinsNs X.env) x elt ts (fun h => (∀ b o', b ≠ T → b ∉ ts → s1.heap.get? b = some o' → h.get? b = some o') ∧ h.get? T = some { cls := .none, data := .fields ps3 } ∧ ∀ t ∈ ts, TOk h t) its.toArray.size (fun i v => its.toArray[i]? = some v) (fun i y => y = Value.bool (bs.getD i false)) (X.A.depth + 1) (X.A.units + 8) ∧
      (∀ (g : Nat) (s5 s' : Shared), s1.gens.size ≤ g → s5.os = s1.os → s5.drawn = s1.drawn → GExt s1.gens s5.gens → (∀ b o, h3.get? b = some o → s5.heap.get? b = some o) → MovN g h3.objs.size [s1.heap.objs.size] ts (fun h => (∀ b o', b ≠ T → b ∉ ts → s1.heap.get? b = some o' → h.get? b = some o') ∧ h.get? T = some { cls := .none, data := .fields ps3 } ∧ ∀ t ∈ ts, TOk h t) s5 s' → Inv X pins σ H1 s') := by
    intro code h3 tk3 ps3 ext e3 t3 lim3 st3 sz3
    refine ⟨⟨fun A' E' i v s2 m2 hA hd hu hP hn hm ⟨k2, eT2, tb2⟩ bare2 => ?_⟩, fun g s5 s' hg ho hdr hge k5 mv => ?_⟩
    · have hiv : its[i]? = some v := by simpa using hP
      have hil : i < xs.length := by rw [rits.length]; exact (List.getElem?_eq_some_iff.mp hiv).1
      obtain ⟨u', e', ru⟩ := rits.get (List.getElem?_eq_getElem hil)
      rw [hiv] at e'
      cases e'
      obtain ⟨b, eb, hRb⟩ := hbs i _ (List.getElem?_eq_getElem hil)
      have s2lt : h3.objs.size < s2.heap.objs.size := hn.lt
      let HN : Hp := fun b => if b ∈ ts then some (TabP b) else frzH s1.heap H1 b
      have HNt : ∀ t ∈ ts, HN t = some (TabP t) := fun t ht => if_pos ht
      have HNf : ∀ b, b ∉ ts → HN b = frzH s1.heap H1 b := fun b hb => if_neg hb
      have fok : HOk X.prog X.w (frzH s1.heap H1) s2.heap ∨ True := .inr trivial
      have old : ∀ b u, b ∉ ts → frzH s1.heap H1 b = some u → ∃ o v, u = .frz o v ∧ sim v = true ∧ ObjOk X.prog X.w H1 s1.heap b v ∧ s1.heap.get? b = some o := fun b u hb e => by
        obtain ⟨ob, v3, rfl, sv, hh3⟩ := frz_shape e
        rcases hh3 with ⟨z1, z2⟩ | z1
        · exact ⟨ob, v3, rfl, sv, I1.hok b _ z1, z2⟩
        · obtain ⟨z2, z3⟩ := (show ObjOk X.prog X.w H1 s1.heap b (.frz ob v3) from I1.hok b _ z1)
          exact ⟨ob, v3, rfl, sv, z3, z2⟩
      have nT : ∀ b u, frzH s1.heap H1 b = some u → b ≠ T := fun b u e z => by
        obtain ⟨o3, v3, _, sv, hh3⟩ := frz_shape e
        rw [z, hT] at hh3
        rcases hh3 with ⟨z1, _⟩ | z1
        · cases z1; cases sv
        · cases z1
      have qs : QsN X.prog X.w X.K X.mg X.base ts HN s2 := by
        refine ⟨I1.ok.mod, fun b o' e => ⟨k2 b o' (bT b o' e) (bts b o' e) (I1.bk b o' e), by rw [HNf b (bts b o' e)]; exact frz_none (I1.bs b o' e).2⟩, Nat.le_trans (Nat.le_trans I1.ok.bsz I1.sz) (Nat.le_of_lt (Nat.lt_trans sz3 s2lt)), fun b u e => ?_, fun b u e => ?_, HNt, bare2⟩
        · by_cases hb : b ∈ ts
          · rw [HNt b hb] at e
            cases e
            obtain ⟨ps, e1, e2⟩ := tb2 b hb
            exact tab_ok e1 e2
          · rw [HNf b hb] at e
            obtain ⟨ob, v3, rfl, sv, ov, eo⟩ := old b u hb e
            have go : ∀ y, s1.heap.get? b = some y → s2.heap.get? b = some y := fun y ey => k2 b y (nT b _ e) hb ey
            refine ⟨go _ eo, ?_⟩
            cases v3 with
            | lst ys => obtain ⟨z, its', n, r, e1⟩ := ov; exact ⟨z, its', n, r, go _ e1⟩
            | tup ys => obtain ⟨z, its', r, ob', e1, c⟩ := ov; exact ⟨z, its', r, ob', go _ e1, c⟩
            | dK kvs => obtain ⟨z, y, vs', r, ob', es, ep, e1, c⟩ := ov; exact ⟨z, y, vs', r, ob', es, ep, go _ e1, c⟩
            | _ => cases sv
        · by_cases hb : b ∈ ts
          · rw [HNt b hb] at e
            cases e
            exact .inr ⟨hb, rfl⟩
          · rw [HNf b hb] at e
            obtain ⟨o3, v3, e3', _⟩ := frz_shape e
            exact .inl ⟨o3, v3, e3'⟩
      have le : RdLe H1 HN := fun a' u su hr => by
        have na : a' ∉ ts := fun z => by
          rcases hr with e | ⟨oo, e⟩
          · rw [hts a' z] at e; cases e; cases su
          · rw [hts a' z] at e; cases e
        have := frz_le I1.hok a' u su hr
        rcases this with e | ⟨oo, e⟩
        · exact .inl (by rw [HNf a' na]; exact e)
        · exact .inr ⟨oo, by rw [HNf a' na]; exact e⟩
      have fv : FreeV X σ s2.heap := fun i y v e1 e2 e3 e4 => by
        obtain ⟨m, _, hloc⟩ := I1.loc
        obtain ⟨u, ru, lk⟩ := hloc i y v e1 e2 e3
        rcases lk with ⟨kk, _⟩ | ⟨_, k, ek, ok, eo, ed⟩
        · rcases e4 with z | z <;> (rw [kk] at z; cases z)
        · refine ⟨u, k, ru, ek, ok, k2 k ok (fun z => ?_) (fun z => ?_) eo, ed⟩
          · rw [z, eT] at eo
            cases eo
            cases ed
          · obtain ⟨ps, e5, _⟩ := tbs k z
            rw [e5] at eo
            cases eo
            cases ed
      refine wpAny_mono (helt σ code h3.objs.size A' E' s2 m2 HN _ v b hA hd hu qs hn hm ru fv (hR _ _ _ _ _ le hRb)) (fun r s3 ⟨hr1, h', tk', gs, hs3, k, ge, tt, ba⟩ => ⟨?_, h', tk', gs, hs3, k, ge, ⟨fun b o' n1 n2 e => k b o' n2 (k2 b o' n1 n2 e), k T _ Tts eT2, tt⟩, ba⟩) fun _ _ e => e
      rw [hr1, List.getD_eq_getElem?_getD, eb]
      rfl
    · obtain ⟨kk, eT', tt'⟩ := mv.jh
      have nT : ∀ b, H1 b = none → b ≠ T := fun b n z => by rw [z, hT] at n; cases n
      have nt : ∀ b, H1 b = none → b ∉ ts := fun b n z => by rw [hts b z] at n; cases n
      have gx : X.gp s'.gens s'.drawn := by
        rw [mv.drawn, hdr]
        refine hpb.2 s1.gens s'.gens _ I1.bare mv.bare ⟨Nat.le_trans hge.1 mv.gens.1, fun i hi => ?_⟩
        rw [mv.gens.2 i (Nat.lt_of_lt_of_le hi hge.1) (by omega)]
        exact hge.2 i hi
      refine I1.call' (ch := []) (mv.os.trans ho) ⟨fun b o' e n _ _ => kk b o' (nT b n) (nt b n) e, fun b o' e n _ _ => ⟨o'.slots, kk b o' (nT b n) (nt b n) e⟩, fun _ _ _ n _ => n, fun b o' e _ => ?_, fun _ _ q => q, fun _ _ _ q => q, fun b ps q => ⟨#[], by rw [q]; simp⟩⟩ (fun b u e => ?_) gx fun b z => by cases z
      · by_cases z : b = T
        · rw [z]; exact ⟨_, eT'⟩
        · by_cases z2 : b ∈ ts
          · obtain ⟨ps, e5, _⟩ := tt' b z2
            exact ⟨_, e5⟩
          · exact ⟨o', kk b o' z z2 e⟩
      · by_cases z : b = T
        · rw [z] at e ⊢
          rw [hT] at e
          cases e
          exact tab_ok eT' t3
        · by_cases z2 : b ∈ ts
          · rw [hts b z2] at e
            cases e
            obtain ⟨ps, e5, e6⟩ := tt' b z2
            exact tab_ok e5 e6
          · refine (I1.hok b u e).stay (fun b' u' hb' q => kk b' u' ?_ ?_ q) (fun _ q => q) fun _ _ q => q
            · rcases hb' with z' | z'
              · rw [z']; exact z
              · intro z''
                rw [z'', hT] at z'
                cases z'
            · rcases hb' with z' | z'
              · rw [z']; exact z2
              · intro z''
                rw [hts b' z''] at z'
                cases z'
  have ic : (s1.heap.push o).IsCode c T psT := ⟨oc, vs, file, tf, flags, tg, inF, text, tt, _, Heap.get?_push_of_some _ (I1.bk c oc r1), r2, r3, r4, r5, r6, r7, Heap.get?_push_of_some _ eT, rfl, tT, hcb.ne⟩
  have gc : wpAny (model X.prog X.w) X.A (genexprCode X.env gpos (X.env.qual ++ "<genexpr>") scope) (fun _ s3 => ∃ h3 tk3 ps3, s3 = { s1 with heap := h3, toks := tk3 } ∧ (∀ b o', b ≠ T → (s1.heap.push o).get? b = some o' → h3.get? b = some o') ∧
      h3.get? T = some { cls := .none, data := .fields ps3 } ∧ TriplesOk ps3.toList) X.xe { s1 with heap := s1.heap.push o } := by
    cases hca : codeAmong gpos psT.toList with
    | some c' => exact wpAny_genexprCode_hit hcode ic hca ⟨s1.heap.push o, s1.toks, psT, rfl, fun _ _ _ e => e, Heap.get?_push_of_some _ eT, tT⟩
    | none =>
      refine wpAny_genexprCodeX hcode ic ⟨⟨oc, vs, Heap.get?_push_of_some _ (I1.bk c oc r1), rc, r2, rv⟩, Heap.get?_push_of_some _ eT⟩ hca fun c' h' tk ext _ _ ic' _ tb _ => ?_
      obtain ⟨_, _, _, _, _, _, _, _, _, op, _, _, _, _, _, _, _, z1, z2, z3, _⟩ := ic'
      exact ⟨h', tk, _, rfl, ext, tb.2, z3⟩
  refine ⟨lim2, thn gc fun code s3 ⟨h3, tk3, ps3, es, ext, e3, t3⟩ => ?_⟩
  subst es
  refine thn (core code h3 tk3 ps3 ext e3 t3) fun bi s4 ⟨eb, e4, lim3, st3, sz3⟩ => ?_
  subst eb
  subst e4
  obtain ⟨qg, after⟩ := done code h3 tk3 ps3 ext e3 t3 lim3 st3 sz3
  have k3 : ∀ b o', b ≠ T → s1.heap.get? b = some o' → h3.get? b = some o' := fun b o' hb e => ext b o' hb (Heap.get?_push_of_some _ e)
  have fr : ∀ h h' : Heap, ((∀ b o', b ≠ T → b ∉ ts → s1.heap.get? b = some o' → h.get? b = some o') ∧ h.get? T = some { cls := .none, data := .fields ps3 } ∧ ∀ t ∈ ts, TOk h t) → (∀ b, b < h3.objs.size → b ∉ [s1.heap.objs.size] → ∀ o', h.get? b = some o' → h'.get? b = some o') →
      ((∀ b o', b ≠ T → b ∉ ts → s1.heap.get? b = some o' → h'.get? b = some o') ∧ h'.get? T = some { cls := .none, data := .fields ps3 } ∧ ∀ t ∈ ts, TOk h' t) := by
    rintro h h' ⟨j1, j2, j3⟩ k
    refine ⟨fun b o' n1 n2 e => ?_, k T (Nat.lt_trans Tlt sz3) (fun z => Nat.ne_of_lt Tlt (List.mem_singleton.mp z)) _ j2, fun t ht => ?_⟩
    · have lt := Heap.lt_size e
      exact k b (Nat.lt_trans lt sz3) (fun z => Nat.ne_of_lt lt (List.mem_singleton.mp z)) o' (j1 b o' n1 n2 e)
    · obtain ⟨ps, e5, e6⟩ := j3 t ht
      exact ⟨ps, k t (Nat.lt_trans (tlt t ht) sz3) (fun z => Nat.ne_of_lt (tlt t ht) (List.mem_singleton.mp z)) _ e5, e6⟩
  refine ⟨s1.heap.objs.size, [s1.heap.objs.size, ax], [s1.heap.objs.size], ts, its.toArray.size, _, _, St0, _, rfl, W, st3, fun b hb => ?_, lim3, fun z => Nat.ne_of_lt cslt (List.mem_singleton.mp z), fun b hb => ⟨Nat.lt_trans (tlt b hb) sz3, fun z => ?_⟩, fun z => ?_, fr, ⟨fun b o' n1 n2 e => k3 b o' n1 e, e3, fun t ht => ?_⟩, hpb.1 _ _ I1.bare, qg, fun g h5 tk gs hgb hlt hsz hk5 ap fm GA => ?_⟩
  · rcases List.mem_cons.mp hb with z | hb
    · rw [z]; exact sz3
    · rcases List.mem_cons.mp hb with z | hb
      · rw [z]; exact Nat.lt_trans axlt sz3
      · cases hb
  · rcases List.mem_cons.mp z with z | z
    · exact Nat.lt_irrefl _ (z ▸ tlt b hb)
    · exact axts ((List.mem_singleton.mp z) ▸ hb)
  · obtain ⟨_, ⟨ob, es, ep, z1, z2, _⟩, _⟩ := I1.nolimit
    obtain ⟨ps, e5, _⟩ := tbs _ z
    rw [e5] at z1
    cases z1
    cases z2
  · obtain ⟨ps, e5, e6⟩ := tbs t ht
    exact ⟨ps, k3 t _ (fun z => Tts (z ▸ ht)) e5, e6⟩
  · refine Calls.spliced_nil ?_
    refine call_allN hh hroom ap fm (fun j => bs.getD j false) (fun i' v' s' Q' E' hv hq => ?_) GA fun s' mv => ?_
    · rw [hv]
      exact wpAny_truthy_bool hq
    · refine ⟨.bl (bs.all id), H1, after s1.gens.size { s1 with heap := h5, toks := tk, gens := s1.gens.push gs } s' (Nat.le_refl _) rfl rfl (GExt.push _ _) hk5 mv, ?_, q⟩
      show Value.bool _ = Value.bool _
      rw [List.size_toArray, ← rits.length, ← hbl, L2.all_range]
theorem je_allN {ts : List Addr} (hall : X.mg "all" = none) (hg : Gl X "all") (hpb : PB X.gp) (hcalm : X.calm = true) (hroom : X.A.depth < recursionLimit) (hit : JE X iter ti) (hcode : X.env.code = .ref c) (hcb : CodeB X.base X.mg c T)
    (hR : ∀ (σ : L2.St) (H H' : Hp) (y : V) (b : Bool), RdLe H H' → R σ H y b → R σ H' y b)
    (helt : ∀ (σ : L2.St) (code : Value) (C : Addr) (A' : Around) (E' : Value → Shared → Prop) (s2 : Shared) (m2 : Str → Option Value) (H : Hp) (y : V) (v : Value) (b : Bool), A'.handled = none → A'.depth ≤ X.A.depth + 1 → A'.units ≤ X.A.units + 8 → QsN X.prog X.w X.K X.mg X.base ts H s2 →
      s2.heap.Ns C m2 → m2 x = some v → RelV y v → FreeV X σ s2.heap → R σ H y b → wpAny (model X.prog X.w) A' (eval elt (genEnv scope cl C code builtinsNs X.env)) (fun u s3 => u = .bool b ∧ KeepsT ts s2 s3) E' s2)
    (hco : scope.isCoroutine = false := by rfl) (hclos : closureFor scope X.env = pure cl := by rfl) (hcell : ∀ y ∈ scope.names, y.2 ≠ .cell := by decide) (h0 : scope.names.lookup (".0" : Str) = some NameKind.local := by rfl)
    (hx : scope.names.lookup x = some .local := by rfl) (hkind : scope.kind = .function := by rfl) (hfold : ∀ x, genFold iter X.env x = pure x := by intro _; rfl)
    (he : starEach [.GeneratorExp elt [⟨.Name x px, iter, [], 0⟩] scope gpos] X.env = (false, eval (.GeneratorExp elt [⟨.Name x px, iter, [], 0⟩] scope gpos) X.env) :: starEach [] X.env := by rfl) (hpl : (backTo pos (starEach [] X.env)).any (·.1) = false := by rfl) :
    JE X (.Call (.Name "all" p) [.GeneratorExp elt [⟨.Name x px, iter, [], 0⟩] scope gpos] [] pos) (tAllN X.K T ts R ti) := ⟨pe_allN hall hg hpb hcalm hroom hit.p hcode hcb hR helt hco hclos hcell h0 hx hkind hfold he hpl⟩
end
end NN
set_option Elab.async false
set_option linter.all false
set_option maxRecDepth 100000
namespace NV
open PySem PySem.Spec PyProof.Rows L2 NP
section
variable {prog : Program} {w : World} {A : Around} {E : Value → Shared → Prop}
theorem walk_rest (hh : A.handled = none) (it l : Addr) (ne : l ≠ it) (x : Value) (its : Array Value) (sz : its.size = (#[x] ++ its).size - 1) : Walks prog w A it [it, l] [it] its.size (fun i v => its[i]? = some v) (fun i h => h.IsListIter it l (i + 1) ∧ h.IsList l (#[x] ++ its)) := by
  have W := Walks.list (prog := prog) (w := w) hh it l ne (#[x] ++ its)
  have e : (#[x] ++ its).size = its.size + 1 := by simp [Nat.add_comm]
  have at1 : ∀ i, (#[x] ++ its)[i + 1]? = its[i]? := fun i => by rw [Array.getElem?_append_right (by simp)]; simp
  refine ⟨W.sub, fun i h h' st k => W.frame (i + 1) h h' st k, fun i s Q E' hi st hQ => W.item (i + 1) s Q E' (by rw [e]; omega) st fun v h' tk pv st' k => hQ v h' tk (by rw [← at1]; exact pv) st' k, fun s Q E' st hQ => W.done s Q E' (by rw [e]; exact st) hQ, fun i s Q E' st hQ => W.self (i + 1) s Q E' st hQ⟩
theorem items_star {s : Shared} {l : Addr} {x : Value} {rest : List Value} {Q : List Value → Shared → Prop} (hh : A.handled = none) (hl : s.heap.IsList l (#[x] ++ rest.toArray)) (hz : rest.length ≤ sizeLine)
    (q : ∀ (g : Heap) (tk : Nat), (∀ b o, s.heap.get? b = some o → g.get? b = some o) → Q [x, .ref g.objs.size] { s with heap := g.push { cls := .type "list", data := .seq rest.toArray }, toks := tk }) : wpAny (model prog w) A (unpackItems (.ref l) 2 (some 1)) Q E s := by
  have lt : l < s.heap.objs.size := by obtain ⟨o, ho, _⟩ := hl; exact Heap.lt_size ho
  have ne : l ≠ s.heap.objs.size := Nat.ne_of_lt lt
  have sz : (#[x] ++ rest.toArray).size = rest.length + 1 := by simp [Nat.add_comm]
  unfold unpackItems
  refine wpAny_bind ?_
  · unfold notIterableAtAll
    refine wpAny_bind (wpAny_specialOf hl.typeIs PySem.F.slot_list_iter.lookup ?_)
    refine wpAny_pure ?_
    simp only [Bool.false_eq_true, if_false]
    refine wpAny_bind (wpAny_holding (wpAny_pyIter_list hl ?_))
    refine wpAny_bind (wpAny_holding (NW.draw_l ne 1 0 _ _ ⟨_, Heap.get?_push_size _ rfl, rfl, rfl⟩ (hl.push _) (by omega) fun g1 i1 s1 => ?_))
    have one : List.take 1 (List.drop 0 (#[x] ++ rest.toArray).toList) = [x] := by simp
    rw [one]
    rw [if_neg (by simp)]
    have l1 : g1.IsList l (#[x] ++ rest.toArray) := (hl.push _).extBut s1.extBut ne
    have Wk := (walk_rest (prog := prog) (w := w) (A := A.in1) hh s.heap.objs.size l ne x rest.toArray (by simp)).toS
    have it1 : g1.IsListIter s.heap.objs.size l (0 + 1) := i1
    refine wpAny_bind (wpAny_holding (wpAny_collect_iter (T := "list_iterator") (.inr (.inr (.inl rfl))) Wk (fun i s2 st => ?_) ⟨it1, l1⟩ (fun b hb => ?_) (by simp) (fun s2 acc mv ia => ?_) (by rw [List.size_toArray]; exact hz)))
    · obtain ⟨o, h1, h2, _⟩ := st.1
      exact ⟨o, h1, h2⟩
    · have big : s.heap.objs.size < g1.objs.size := by obtain ⟨o, ho, _⟩ := i1; exact Heap.lt_size ho
      rcases List.mem_cons.mp hb with z | hb
      · rw [z]; exact big
      · rw [List.mem_singleton.mp hb]; exact Nat.lt_trans lt big
    · have ea : acc.toList = rest := by
        obtain ⟨a1, a2⟩ := ia
        have a3 : acc.size = rest.length := by simpa using a1
        refine List.ext_getElem? fun i => ?_
        by_cases hi : i < acc.size
        · have h1 : acc[i]? = some acc[i] := Array.getElem?_eq_getElem hi
          have h2 := a2 i _ h1
          rw [← Array.getElem?_toList] at h1
          rw [h1]
          simpa using h2.symm
        · rw [List.getElem?_eq_none (by rw [Array.length_toList]; omega), List.getElem?_eq_none (by rw [← a3]; omega)]
      rw [ea]
      simp only [Nat.add_one_sub_one, Nat.reduceSub, Nat.sub_self]
      rw [if_neg (by simp)]
      refine wpAny_bind ?_
      have e1 : List.take (rest.length - 0) rest = rest := by simp
      have e2 : List.drop (rest.length - 0) rest = [] := by simp
      rw [e1, e2]
      refine wpAny_newObj_type (wpAny_pure ?_) (by show rest.toArray.size ≤ sizeLine; rw [List.size_toArray]; exact hz)
      have k : ∀ b o, s.heap.get? b = some o → s2.heap.get? b = some o := fun b o e => mv.heap b o (by simp; exact Nat.ne_of_lt (Heap.lt_size e)) (s1.extBut b o (Nat.ne_of_lt (Heap.lt_size e)) (Heap.get?_push_of_some _ e))
      have es : s2 = { s with heap := s2.heap, toks := s2.toks } := by
        obtain ⟨hp, g, d, t, os⟩ := s2
        obtain rfl : g = s.gens := mv.gens
        obtain rfl : d = s.drawn := mv.drawn
        obtain rfl : os = s.os := mv.os
        rfl
      have := q s2.heap s2.toks k
      rw [es]
      exact this
end
def gStar (K : PySem.W.Frag) (t : TGs) : TG := fun v σ H Q => ∃ (a : Addr) (x : V) (rest : List V), v = .ref a ∧ SqL K H a (x :: rest) ∧ ∀ D, H D = none → t [x, .ref D] σ (upd H D (.lst rest)) Q
theorem jg_star {X : Cx} {x1 x2 : Str} {q1 q2 p2 pos : Pos} {k : Nat} {t : TGs} (hc : X.calm = true) (h : JGs X [.Name x1 q1, .Name x2 q2] t) : JG X (.Tuple [.Name x1 q1, .Starred (.Name x2 q2) p2] k pos) (gStar X.K t) := ⟨by
  have hm : (assignEach [.Name x1 q1, .Starred (.Name x2 q2) p2] X.env).map (·.2) = (assignEach [.Name x1 q1, .Name x2 q2] X.env).map (·.2) := by rfl
  have hn : (assignEach [.Name x1 q1, .Starred (.Name x2 q2) p2] X.env).length = 2 := by rfl
  have hst : (assignEach [.Name x1 q1, .Starred (.Name x2 q2) p2] X.env).findIdx? (·.1) = some 1 := by rfl
  intro pins s σ H v u Q I r hw
  obtain ⟨a, x, rest, e0, hq, hw⟩ := hw
  subst e0
  cases r
  obtain ⟨its, rv, ⟨o, m, ho, hcl, hdn, hd⟩, hz⟩ := I.list hq
  cases rv with
  | @cons _ ux _ us rx rr =>
    rw [assign_Tuple]
    refine wpAny_bind (wpAny_standAt ?_)
    unfold unpack
    rw [hn, hst]
    have lz : us.length ≤ sizeLine := by
      have := rr.length
      rw [List.length_cons] at hz
      omega
    refine wpAny_bind (wpAny_holding (items_star (x := ux) (rest := us) (I.ok.hd hc) ⟨o, ho, hcl, m, by rw [hd]; congr 1; simp⟩ lz fun g tk k => ?_))
    rw [hm]
    have I1 : Inv X pins σ H { s with heap := g, toks := tk } := I.kept (t' := tk) k
    have n1 : H g.objs.size = none := I1.hok.fresh (Nat.le_refl _)
    have I2 := I1.laid (a := g.objs.size) (o := .lst rest) (h' := g.push { cls := .type "list", data := .seq us.toArray }) (t' := tk) (fun b ob q => Heap.get?_push_of_some _ q) (Nat.le_refl _) ⟨by rw [rr.length]; exact lz, us, 0, rr, Heap.get?_push_size _ rfl⟩
    exact h.p pins _ σ _ [x, .ref g.objs.size] [ux, .ref g.objs.size] Q I2 (.cons rx (.cons rfl .nil)) (hw _ n1)⟩
end NV
set_option Elab.async false
set_option linter.all false
set_option maxRecDepth 100000
namespace NT
open PySem PySem.Spec PyProof.Rows L2 NP
section
variable {X : Cx} {o e a : Expr} {to te ta : TE} {pos apos cpos : Pos}
theorem je_m0 {id : String} {name : Str} {r : V → List V → Hp → VK → Prop} (slot : Slot "str" name id) (ty : typeOf (.builtin id) = pure (.type "method_descriptor")) (rule : MtR X id r) (ho : JE X o to)
    (hbase : attributeBase o name X.env (eval o X.env) = eval o X.env := by rfl) (hline : (apos.endLine == pos.line) = true := by rfl) : JE X (.Call (.Attribute o name apos) [] [] pos) (tM0 r to) := ⟨pe_m0 slot ty rule ho.p hbase hline⟩
theorem je_m1 {id : String} {name : Str} {r : V → List V → Hp → VK → Prop} (slot : Slot "str" name id) (ty : typeOf (.builtin id) = pure (.type "method_descriptor")) (rule : MtR X id r) (ho : JE X o to) (he : JE X e te)
    (hs : starEach [e] X.env = [(false, eval e X.env)] := by rfl) (hbase : attributeBase o name X.env (eval o X.env) = eval o X.env := by rfl) (hline : (apos.endLine == pos.line) = true := by rfl) :
    JE X (.Call (.Attribute o name apos) [e] [] pos) (tM1 r to te) := ⟨pe_m1 slot ty rule ho.p he.p hs hbase hline⟩
theorem jt_truth (ha : JE X a ta) (he : ∀ whole, isTrue a X.env whole = (do let v ← whole; standAt a.pos; holding [v] (truthy v)) := by intro _; rfl) :
    JT X a (fun σ H Q => ta σ H fun x H' => ∃ k, TruV X.K x H' k ∧ Q k H') := ⟨pt_truth ha.p he⟩
theorem mt_isascii : MtR X "str.isascii" (fun x xs H Q => ∃ a, x = .str a ∧ xs = [] ∧ True ∧ Q (.bl (Txt.isascii a)) H) :=
  mt0 (C := fun _ => True) (g := fun a => .bl (Txt.isascii a)) fun _ _ s _ _ h => PySem.SC.isascii (h _ s.toks rfl)
/-- isinstance(x, str) -/
theorem kit_str (K : PySem.W.Frag) (d : PyData) : PySem.W.kitOne K (.type (tyD d)) (.type "str") = some (tyD d == "str") := by
  cases d <;> first | rfl | (with_unfolding_all rfl) | decide +kernel
theorem isstr_th {pins : List (Addr × Obj)} {σ : L2.St} {H : Hp} {s : Shared} {A : Around} {E : Value → Shared → Prop} {Q : Value → Shared → Prop} {x : V} {u : Value} {d : PyData} (I : Inv X pins σ H s) (h : Th X.K H x d) (rx : RelV x u) (q : ∀ tk, Q (.bool (tyD d == "str")) { s with toks := tk }) :
    wpAny (model X.prog X.w) A (call (.builtin "isinstance") [u, .type "str"]) Q E s := by
  have e := kit_str X.K d
  cases h with
  | dp hd =>
    cases hd with
    | non => cases (show u = Value.none from rx); exact PySem.W.kia_one PySem.W.kitx_none I.kIn True.intro e (fun z => nomatch z) q
    | bl y => cases (show u = Value.bool y from rx); exact PySem.W.kia_one PySem.W.kitx_bool I.kIn True.intro e (fun z => nomatch z) q
    | int i => obtain ⟨t, z⟩ := (show ∃ t, u = Value.int i t from rx); cases z; exact PySem.W.kia_one PySem.W.kitx_int I.kIn True.intro e (fun z => nomatch z) q
    | str y => obtain ⟨t, z⟩ := (show ∃ t, u = Value.str y t from rx); cases z; exact PySem.W.kia_one PySem.W.kitx_str I.kIn True.intro e (fun z => nomatch z) q
    | @lst a xs ds hs ha =>
      cases (show u = Value.ref a from rx)
      obtain ⟨its, _, ⟨o, _, ho, hc, _⟩, _⟩ := I.list hs
      exact PySem.W.kia_one PySem.W.kitx_list I.kIn ⟨o, ho, hc⟩ e (fun z => nomatch z) q
    | @tup a xs ds hs ha =>
      cases (show u = Value.ref a from rx)
      obtain ⟨its, _, ⟨o, ho, hc, _⟩, _⟩ := I.tuple hs
      exact PySem.W.kia_one PySem.W.kitx_tuple I.kIn ⟨o, ho, hc⟩ e (fun z => nomatch z) q
  | @dct a kis hr =>
    cases (show u = Value.ref a from rx)
    obtain ⟨_, _, vs, _, o, es, ep, h1, h2, _⟩ := dk_rd I.hok hr
    exact PySem.W.kia_one PySem.W.kitx_dict I.kIn ⟨o, h1, h2.1⟩ e (fun z => nomatch z) q
  | @lst a xs ds hs ha =>
    cases (show u = Value.ref a from rx)
    obtain ⟨its, _, ⟨o, _, ho, hc, _⟩, _⟩ := I.list hs
    exact PySem.W.kia_one PySem.W.kitx_list I.kIn ⟨o, ho, hc⟩ e (fun z => nomatch z) q
  | @tup a xs ds hs ha =>
    cases (show u = Value.ref a from rx)
    obtain ⟨its, _, ⟨o, ho, hc, _⟩, _⟩ := I.tuple hs
    exact PySem.W.kia_one PySem.W.kitx_tuple I.kIn ⟨o, ho, hc⟩ e (fun z => nomatch z) q
theorem cr_isStr : CallR X (.builtin "isinstance") (fun xs H Q => ∃ x d, xs = [x, .ty "str"] ∧ Th X.K H x d ∧ Q (.bl (tyD d == "str")) H) := by
  intro pins s σ H xs us Q I r h
  obtain ⟨x, d, rfl, ht, q⟩ := h
  cases r with
  | cons r1 r2 =>
    cases r2 with
    | cons r3 r4 =>
      cases r4
      cases r3
      exact isstr_th I ht r1 fun tk => ⟨.bl _, H, I.tok _, rfl, q⟩
end
def fmtV : V → Option Str
  | .int i => if i.natAbs.log2 < 1920 then some (Str.ofString (toString i)) else none
  | .str x => some x
  | _ => none
abbrev TF := Str → L2.St → Hp → (Str → Hp → Prop) → Prop
structure JF (X : Cx) (es : List Expr) (t : TF) : Prop where
  p : ∀ (pins : List (Addr × Obj)) (s : Shared) (σ : L2.St) (H : Hp) (out : Str) (Q : VK), Inv X pins σ H s → t out σ H (fun y H' => Q (.str y) H') → wpAny (model X.prog X.w) X.A (joinParts out (evalEach es X.env)) (EP X pins σ Q) X.xe s
def fNil : TF := fun out _ H Q => out.length ≤ sizeLine ∧ Q out H
def fCon (x : Str) (t : TF) : TF := fun out σ H Q => (out ++ x).length ≤ sizeLine ∧ t (out ++ x) σ H Q
def fVal (te : TE) (t : TF) : TF := fun out σ H Q => te σ H fun v H1 => ∃ y, fmtV v = some y ∧ y.length ≤ sizeLine ∧ (out ++ y).length ≤ sizeLine ∧ t (out ++ y) σ H1 Q
def tF (t : TF) : TE := fun σ H Q => t Str.empty σ H fun y H' => Q (.str y) H'
section
variable {X : Cx} {e : Expr} {es : List Expr} {te : TE} {t : TF} {pos : Pos}
theorem jf_nil : JF X [] fNil := ⟨fun pins s σ H out Q I h => by
  obtain ⟨h1, h2⟩ := h
  exact PyProof.Rows.joinParts_nil ⟨.str _, H, I.tok _, ⟨_, rfl⟩, h2⟩ h1⟩
theorem jf_con {x : Str} {j} (r : JF X es t) : JF X (.Constant (.str x) j pos :: es) (fCon x t) := ⟨fun pins s σ H out Q I h => by
  obtain ⟨h1, h2⟩ := h
  refine PyProof.Rows.joinParts_cons (wpAny_mono ((je_str (X := X) (x := x) (j := j) (pos := pos)).p pins s σ H (fun v H' => v = .str x ∧ H' = H) I ⟨rfl, rfl⟩) (fun v s1 ⟨y, H1, I1, r1, e1, e2⟩ => ?_) fun _ _ z => z)
  subst e1 e2
  obtain ⟨t1, rfl⟩ := r1
  exact ⟨h1, r.p pins s1 σ H1 _ Q I1 h2⟩⟩
theorem jf_val (he : JE X e te) (r : JF X es t) : JF X (.FormattedValue e (-1) none pos :: es) (fVal te t) := ⟨fun pins s σ H out Q I h => by
  refine PyProof.Rows.joinParts_cons (PyProof.Rows.FormattedValue_plain (wpAny_mono (he.p pins s σ H _ I h) (fun v s1 ⟨y, H1, I1, r1, z, hz, l1, l2, q⟩ => ?_) fun _ _ z => z))
  cases y with
  | int i =>
    obtain ⟨t1, rfl⟩ := r1
    have hz' : (if i.natAbs.log2 < 1920 then some (Str.ofString (toString i)) else none) = some z := hz
    by_cases c : i.natAbs.log2 < 1920
    · rw [if_pos c] at hz'
      cases hz'
      exact wpAny_formatField_int c ⟨l2, r.p pins _ σ H1 _ Q (I1.tok _) q⟩
    · rw [if_neg c] at hz'
      cases hz'
  | str x =>
    obtain ⟨t1, rfl⟩ := r1
    have hz' : some x = some z := hz
    cases hz'
    exact PyProof.Rows.formatField_str (fun t' tk => ⟨l2, r.p pins _ σ H1 _ Q (I1.tok _) q⟩) l1
  | _ => cases hz⟩
theorem je_f {v1 v2 : Expr} (h : JF X (v1 :: v2 :: es) t) : JE X (.JoinedStr (v1 :: v2 :: es) pos) (tF t) := ⟨fun pins s σ H Q I q => PyProof.Rows.JoinedStr_many (h.p pins s σ H Str.empty Q I q)⟩
end
end NT
set_option Elab.async false
set_option linter.all false
set_option maxRecDepth 100000
namespace NT
open PySem PySem.Spec PyProof.Rows L2 NP
def figs (w : Str) (m : Int) : Bool := Txt.isascii w && (Txt.isdigit w && (decide ((w.length : Int) ≤ m) && (decide (w = "0") || !Txt.startswith w "0")))
def valW (w : Str) : Int := (PySem.intText? w).getD 0
def numS (i : Int) : Str := Str.ofString (toString i)
theorem num_nat {i : Int} (h : 0 ≤ i) : TL.tl (numS i) = TL.numL i.toNat := by
  have e : i = ((i.toNat : Nat) : Int) := by omega
  unfold numS
  rw [e]
  exact TL.tl_num _
theorem num_free {i : Int} (h : 0 ≤ i) {s : Nat} (hs : s < 48 ∨ 57 < s) : s ∉ TL.tl (numS i) := by
  rw [num_nat h]
  exact TL.numL_free hs
theorem num_small : ∀ n : Fin 100, figs (numS ((n : Nat) : Int)) 2 = true ∧ PySem.intText? (numS ((n : Nat) : Int)) = some ((n : Nat) : Int) ∧ (numS ((n : Nat) : Int)).length ≤ 2 := by decide +kernel
theorem num_figs {i : Int} (h0 : 0 ≤ i) (h1 : i < 100) : figs (numS i) 2 = true ∧ valW (numS i) = i ∧ (numS i).length ≤ 2 := by
  have z := num_small ⟨i.toNat, by omega⟩
  have e : ((i.toNat : Nat) : Int) = i := by omega
  simp only [e] at z
  refine ⟨z.1, ?_, z.2.2⟩
  unfold valW
  rw [z.2.1]
  rfl
theorem dig_small : ∀ n : Fin 128, Unicode.isDigit n = true → 48 ≤ (n : Nat) ∧ (n : Nat) ≤ 57 := by decide +kernel
theorem figs_ascii {w : Str} {m : Int} (h : figs w m = true) : Txt.isascii w = true ∧ Txt.isdigit w = true ∧ (w.length : Int) ≤ m := by
  unfold figs at h
  rw [Bool.and_eq_true, Bool.and_eq_true, Bool.and_eq_true] at h
  exact ⟨h.1, h.2.1, of_decide_eq_true h.2.2.1⟩
theorem figs_digits {w : Str} {m : Int} (h : figs w m = true) : NumText.AllDigits (TL.tl w) ∧ TL.tl w ≠ [] := by
  obtain ⟨h1, h2, _⟩ := figs_ascii h
  unfold Txt.isascii at h1
  unfold Txt.isdigit at h2
  rw [Bool.and_eq_true] at h2
  refine ⟨fun c hc => ?_, fun z => ?_⟩
  · have c1 : c < 128 := by
      have := (Array.all_eq_true'.mp h1) c (by simpa using hc)
      simpa using this
    have c2 : Unicode.isDigit c = true := (Array.all_eq_true'.mp h2.2) c (by simpa using hc)
    exact dig_small ⟨c, c1⟩ c2
  · have := h2.1
    rw [decide_eq_true_eq, TL.len_tl, z] at this
    exact absurd this (by simp)
theorem figs_int {w : Str} {m : Int} (h : figs w m = true) (hm : m ≤ 9) : PySem.intText? w = some (valW w) ∧ w.length ≤ 9 := by
  obtain ⟨a, b⟩ := figs_digits h
  obtain ⟨_, _, c⟩ := figs_ascii h
  have l : w.length ≤ 9 := by omega
  refine ⟨?_, l⟩
  have e := PySem.intText_digits a b (by omega)
  unfold valW
  rw [e]
  rfl
def textO (ns : List Int) : Str := if ns = [] then "none" else Txt.join " " (ns.map numS)
def textR (l r : Int) : Str := numS l ++ "," ++ numS r
theorem free_none : (110 : Nat) ∈ TL.tl ("none" : Str) := by decide +kernel
theorem split_o {ns : List Int} (hn : ns ≠ []) (h : ∀ i ∈ ns, 0 ≤ i) : Txt.split (textO ns) " " = ns.map numS := by
  unfold textO
  rw [if_neg hn]
  refine TL.split_join (y := " ") (s := 32) (S := []) (by decide +kernel) (by decide +kernel) (fun z => hn (List.map_eq_nil_iff.mp z)) fun p hp => ?_
  obtain ⟨i, hi, rfl⟩ := List.mem_map.mp hp
  exact num_free (h i hi) (.inl (by decide))
theorem text_none {ns : List Int} (hn : ns ≠ []) (h : ∀ i ∈ ns, 0 ≤ i) : textO ns ≠ "none" := fun e => by
  have s1 := split_o hn h
  rw [e] at s1
  have s2 : Txt.split "none" " " = [("none" : Str)] := by decide +kernel
  rw [s2] at s1
  match ns, h with
  | [], _ => cases s1
  | i :: r, h =>
    rw [List.map_cons] at s1
    injection s1 with s1 _
    have := free_none
    rw [s1] at this
    exact num_free (h i (List.mem_cons_self ..)) (.inr (by decide)) this
theorem split_r {l r : Int} (l0 : 0 ≤ l) (r0 : 0 ≤ r) : Txt.split (textR l r) "," = [numS l, numS r] := by
  have e : textR l r = Txt.join "," [numS l, numS r] := by
    rw [TL.join_eq]
    rfl
  rw [e]
  refine TL.split_join (y := ",") (s := 44) (S := []) (by decide +kernel) (by decide +kernel) (fun z => nomatch z) fun p hp => ?_
  rcases List.mem_cons.mp hp with rfl | hp
  · exact num_free l0 (.inl (by decide))
  · rw [List.mem_singleton.mp hp]
    exact num_free r0 (.inl (by decide))
theorem join_len {ys : List Str} {b : Nat} (h : ∀ y ∈ ys, y.length ≤ b) : (ys.map (·.length)).sum ≤ b * ys.length := by
  induction ys with
  | nil => exact Nat.zero_le _
  | cons y ys ih =>
    have := ih fun z hz => h z (List.mem_cons_of_mem _ hz)
    have h1 := h y (List.mem_cons_self ..)
    rw [List.map_cons, List.sum_cons, List.length_cons, Nat.mul_succ]
    omega
theorem joinL_len (S : List Nat) : ∀ ps : List (List Nat), (TL.joinL S ps).length ≤ (ps.map (·.length)).sum + ps.length * S.length
  | [] => Nat.zero_le _
  | [p] => by
    show p.length ≤ _
    simp only [List.map_cons, List.map_nil, List.sum_cons, List.sum_nil]
    omega
  | p :: q :: r => by
    have ih := joinL_len S (q :: r)
    show (p ++ (S ++ TL.joinL S (q :: r))).length ≤ _
    rw [List.length_append, List.length_append, List.map_cons, List.sum_cons, List.length_cons, Nat.succ_mul]
    omega
theorem textO_len {ns : List Int} (hn : ns.length ≤ 100) (h : ∀ i ∈ ns, 0 ≤ i ∧ i < 100) : (textO ns).length ≤ 1000 := by
  unfold textO
  by_cases z : ns = []
  · rw [if_pos z]; decide
  · rw [if_neg z, TL.join_eq, TL.len_tl, TL.tl_join]
    have h1 := joinL_len (TL.tl " ") ((ns.map numS).map TL.tl)
    have h2 : (((ns.map numS).map TL.tl).map (·.length)).sum ≤ 2 * ns.length := by
      rw [List.map_map, List.map_map]
      have : ((ns.map numS).map (·.length)).sum ≤ 2 * (ns.map numS).length := join_len fun y hy => by
        obtain ⟨i, hi, rfl⟩ := List.mem_map.mp hy
        exact (num_figs (h i hi).1 (h i hi).2).2.2
      rw [List.map_map, List.length_map] at this
      refine Nat.le_trans (Nat.le_of_eq ?_) this
      congr 1
    have h3 : (TL.tl " ").length = 1 := by decide +kernel
    rw [h3, List.length_map, List.length_map] at h1
    omega
theorem textR_len {l r : Int} (l0 : 0 ≤ l) (l1 : l < 100) (r0 : 0 ≤ r) (r1 : r < 100) : (textR l r).length ≤ 5 := by
  unfold textR
  rw [strLen_append, strLen_append]
  have a := (num_figs l0 l1).2.2
  have b := (num_figs r0 r1).2.2
  have c : ((("," : String) : Str)).length = 1 := rfl
  omega
end NT
set_option Elab.async false
set_option linter.all false
set_option maxRecDepth 100000
namespace NT
open PySem PySem.Spec PyProof.Rows L2 NP
def spFig : Sp := fun vs H Q _ => ∃ (w : Str) (m : Int), vs = [.str w, .int m] ∧ w.length ≤ sizeLine ∧ Q (.bl (figs w m)) H
def spNums (K : PySem.W.Frag) : Sp := fun vs H Q _ => ∃ (a : Addr) (ns : List Int), vs = [.ref a] ∧ SqL K H a (ns.map V.int) ∧ ns.length ≤ 1000 ∧ (∀ i ∈ ns, 0 ≤ i ∧ i < 100) ∧ ∀ H', Same H H' → Q (.str (Txt.join " " (ns.map numS))) H'
def spSides (K : PySem.W.Frag) : Sp := fun vs H Q _ => ∃ (a : Addr) (l r : Int), vs = [.ref a] ∧ SqT K H a [.int l, .int r] ∧ 0 ≤ l ∧ l < 100 ∧ 0 ≤ r ∧ r < 100 ∧ Q (.str (textR l r)) H
def spOText (K : PySem.W.Frag) (T : Addr) : Sp := fun vs H Q _ => ∃ v ns, vs = [v] ∧ OrdAt K H v ns ∧ H T = some (TabP T) ∧ ∀ H', Same H H' → Q (.str (textO ns)) H'
def spRText (K : PySem.W.Frag) (T : Addr) : Sp := fun vs H Q _ => ∃ (a : Addr) (l r : Int), vs = [.ref a] ∧ SqT K H a [.int l, .int r] ∧ 0 ≤ l ∧ l ≤ 3 ∧ 0 ≤ r ∧ r ≤ 3 ∧ H T = some (TabP T) ∧ Q (.str (textR l r)) H
def spCkW : Sp := fun vs H Q _ => vs = [.bl true] ∧ Q .non H
def partsOf (t b : Str) : List Str := if t = "none" then [] else Txt.split t b
def spParts : Sp := fun vs H Q _ => ∃ t b : Str, vs = [.str t, .str b] ∧ (b.length == 0) = false ∧ t.length + 2 ≤ sizeLine ∧ ∀ p H', Same H H' → H p = none → H' p = some (.lst ((partsOf t b).map V.str)) → Q (.ref p) H'
def spReadN (K : PySem.W.Frag) (T : Addr) : Sp := fun vs H Q _ => ∃ (a : Addr) (ws : List Str), vs = [.ref a] ∧ SqL K H a (ws.map V.str) ∧ ws.length ≤ 1000 ∧ (∀ w ∈ ws, figs w 2 = true) ∧ H T = some (TabP T) ∧ ∀ p H', Same H H' → H p = none → H' p = some (.lst ((ws.map valW).map V.int)) → Q (.ref p) H'
def spReadO (T T2 : Addr) : Sp := fun vs H Q _ => ∃ ns : List Int, vs = [.str (textO ns)] ∧ IsOrd ns ∧ H T = some (TabP T) ∧ H T2 = some (TabP T2) ∧ ∀ p H', Same H H' → H p = none → H' p = some (.lst (ns.map V.int)) → Q (.ref p) H'
def spReadR (T T2 : Addr) : Sp := fun vs H Q _ => ∃ l r : Int, vs = [.str (textR l r)] ∧ 0 ≤ l ∧ l ≤ 3 ∧ 0 ≤ r ∧ r ≤ 3 ∧ H T = some (TabP T) ∧ H T2 = some (TabP T2) ∧ ∀ p H', Same H H' → H p = none → H' p = some (.tup [.int l, .int r]) → Q (.ref p) H'
theorem vals_num {ns : List Int} (h : ∀ i ∈ ns, 0 ≤ i ∧ i < 100) : (ns.map numS).map valW = ns := by
  rw [List.map_map]
  conv => rhs; rw [← List.map_id ns]
  exact List.map_congr_left fun i hi => (num_figs (h i hi).1 (h i hi).2).2.1
theorem ord_small {ns : List Int} (h : IsOrd ns) : ∀ i ∈ ns, 0 ≤ i ∧ i < 100 := fun i hi => by
  have := h.mem.mp hi
  have := h.len
  omega
end NT
set_option Elab.async false
set_option linter.all false
set_option maxRecDepth 100000
namespace NT
open PySem PySem.Spec PyProof.Rows L2 NP
section
variable {X : Cx} {pins : List (Addr × Obj)} {σ : L2.St} {H : Hp} {s : Shared} {A : Around} {E : Value → Shared → Prop}
end
theorem ix_listK {X : Cx} {K : PySem.W.Frag} (hK : X.K = K) : IxR X (rIxL K) := by subst hK; exact ix_list
def spWell2 : Sp := fun vs H Q _ => ∃ c : Int, vs = [.int c] ∧ ∀ (z y : Int) (p : Addr) (H' : Hp), Same H H' → H' p = some (.lst [.int z, .int y]) → H p = none → Q (.ref p) H'
def spDraw2 : Sp := fun vs H Q _ => ∃ (p : Addr) (z y m : Int), vs = [.ref p, .int m] ∧ H p = some (.lst [.int z, .int y]) ∧ 0 < m ∧ m < 1073741824 ∧
  ∀ (r z' y' : Int) (H' : Hp), 0 ≤ r → r < m → (∀ b o, b ≠ p → H b = some o → H' b = some o) → H' p = some (.lst [.int z', .int y']) → Q (.int r) H'
end NT
set_option Elab.async false
set_option linter.all false
set_option maxRecDepth 100000
namespace NN
open PySem PySem.Spec PyProof.Rows L2 NP
/-- the rule of a def that makes generators, where its code's address is known -/
theorem fnBC {P : Program} {w : World} {K : PySem.W.Frag} {mg : Str → Option Value} {base : Heap} {x qual : Str} {st : Stmt} {f c : Addr} {fd : FuncData} {N ps : List Str} {k : Nat} {sp : Sp} (F : Fun K x qual st f fd) (S : FnScope N ps (defScope st)) (hc : fd.code = .ref c) (len : ∀ vs H Q E, sp vs H Q E → vs.length = ps.length)
    (hbody : ∀ (A : Around) (outer : List Env) (s : Shared) (H : Hp) (vs : List V) (Q : VK) (E : XK) (gp : Array GenState → Drawn → Prop), PB gp → Room k (A.deeper (envOfC qual (defScope st) s.heap.objs.size f (.ref c))) → sp vs H Q E →
      ∃ t, JB (cxOf CX0 P w K mg base N qual (defScope st) f (.ref c) A outer s H E gp).nox (defBody st) t ∧ t { nx := fun _ H' => Q .non H', rt := Q } (L2.start N vs) H) : FnOkB P w K mg base (k + 1) f fd ps sp := by
  refine fnBx (c := c) F S hc len ?_
  exact hbody
end NN
namespace NV
open PySem PySem.Spec PyProof.Rows L2 NP NT
section
variable {P : Program} {w : World} {K : PySem.W.Frag} {H : Hp} {s : Shared} {A : Around} {E : Value → Shared → Prop} {env : Env}
theorem qa_free {x : Str} {v : V} {u : Value} {kl : Addr} {p1 : Pos} (hk : env.scope.kind = .function) (h1 : env.kindOf x = some .free) (c1 : env.cells.lookup x = some kl) (i1 : s.heap.IsCell kl (some u)) (r1 : RelV v u) (hd : (x == ("__debug__" : Str)) = false := by decide) (hcd : (x == ("__classdict__" : Str)) = false := by decide) :
    QA (model P w) A E env s (.Name x p1) v := fun tk => wpAny_Name (wpAny_loadName_free hk h1 (s := { s with toks := tk }) c1 i1 ⟨r1, tk, rfl⟩ hcd) hd
end
abbrev Wsh := Bool × Int × Int
def wordS (b : Bool) : Str := if b then "at" else "not"
def wshV (q : Wsh) : List V := [.str (wordS q.1), .int q.2.1, .int q.2.2]
def wshD (q : Wsh) : PyData := .tuple [.str (wordS q.1), .int q.2.1, .int q.2.2]
structure OkW (m : Int) (q : Wsh) : Prop where
  t0 : 0 ≤ q.2.1
  t1 : q.2.1 ≤ m
  p0 : 0 ≤ q.2.2
  p1 : q.2.2 ≤ m
structure WsAt (K : PySem.W.Frag) (H : Hp) (a : Addr) (ws : List (Wsh × Addr)) : Prop where
  at_ : SqL K H a (ws.map fun q => V.ref q.2)
  each : ∀ q ∈ ws, SqT K H q.2 (wshV q.1)
theorem WsAt.le {K : PySem.W.Frag} {H H' : Hp} {a : Addr} {ws : List (Wsh × Addr)} (h : WsAt K H a ws) (e : RdLe H H') : WsAt K H' a ws := ⟨le_seqL e h.at_, fun q hq => le_seqT e (h.each q hq)⟩
theorem WsAt.same {K : PySem.W.Frag} {H H' : Hp} {a : Addr} {ws : List (Wsh × Addr)} (h : WsAt K H a ws) (e : Same H H') : WsAt K H' a ws := h.le (le_same e)
def spIsWish (K : PySem.W.Frag) (T : Addr) : Sp := fun vs H Q _ => ∃ (a : Addr) (m : Int) (q : Wsh), vs = [.ref a, .int m] ∧ SqT K H a (wshV q) ∧ OkW m q ∧ H T = some (TabP T) ∧ ∀ H', Same H H' → Q (.bl true) H'
def spIsWishes (K : PySem.W.Frag) (T T2 : Addr) : Sp := fun vs H Q _ => ∃ (a : Addr) (m : Int) (ws : List (Wsh × Addr)), vs = [.ref a, .int m] ∧ WsAt K H a ws ∧ ws.length ≤ 60 ∧ (∀ q ∈ ws, OkW m q.1) ∧ T ≠ T2 ∧ H T = some (TabP T) ∧ H T2 = some (TabP T2) ∧ ∀ H', Same H H' → Q (.bl true) H'
def spCkWishes (K : PySem.W.Frag) (T T2 : Addr) : Sp := fun vs H Q _ => ∃ (a : Addr) (m : Int) (ws : List (Wsh × Addr)), vs = [.ref a, .int m] ∧ WsAt K H a ws ∧ ws.length ≤ 60 ∧ (∀ q ∈ ws, OkW m q.1) ∧ T ≠ T2 ∧ H T = some (TabP T) ∧ H T2 = some (TabP T2) ∧ ∀ H', Same H H' → Q .non H'
end NV
set_option Elab.async false
set_option linter.all false
set_option maxRecDepth 100000
namespace K51
open PySem PySem.Spec PyProof.Rows L2 NP
def top (i : Nat) : Stmt := PySem.Challenge.pw_nearplace_k51_refused_to_be_written.main.body.getD i (.Pass ⟨0, 0, 0, 0⟩)
abbrev sWhole : Stmt := top 17
abbrev sBetw : Stmt := top 18
abbrev sIsOrder : Stmt := top 19
abbrev sReach : Stmt := top 20
abbrev sCheckO : Stmt := top 21
abbrev sCheckR : Stmt := top 22
abbrev sIsWish : Stmt := top 27
abbrev sIsWishes : Stmt := top 28
abbrev sCkWishes : Stmt := top 29
abbrev sFig : Stmt := top 34
abbrev sNums : Stmt := top 35
abbrev sSides : Stmt := top 36
abbrev sWText : Stmt := top 37
abbrev sOText : Stmt := top 38
abbrev sRText : Stmt := top 39
abbrev sWsText : Stmt := top 40
abbrev sCkW : Stmt := top 41
abbrev sParts : Stmt := top 42
abbrev sReadN : Stmt := top 43
abbrev sReadW : Stmt := top 44
abbrev sReadO : Stmt := top 45
abbrev sReadR : Stmt := top 46
abbrev sReadWs : Stmt := top 47
abbrev sWell : Stmt := top 49
abbrev sDraw : Stmt := top 50
abbrev sLWs : Stmt := top 51
abbrev sOrder : Stmt := top 52
abbrev sWord : Stmt := top 53
abbrev sNoR : Stmt := top 54
abbrev sNoO : Stmt := top 55
abbrev sNoW : Stmt := top 56
abbrev sSaid : Stmt := top 57
abbrev sLaw : Stmt := top 58
section
variable {P : Program} {w : World} {K : PySem.W.Frag} {mg : Str → Option Value} {base : Heap} {f g : Addr} {fd gd : FuncData}
theorem scWhole : FnScope ["thing"] ["thing"] (defScope sWhole) := ⟨rfl, rfl, rfl, by decide +kernel, rfl, by decide +kernel, by decide +kernel⟩
theorem ok_whole (F : Fun K "is_whole" "is_whole" sWhole f fd) (M : Mg mg) : FnOk P w K mg base CX0 1 f fd ["thing"] (spWhole K) := by
  refine F.ok scWhole (fun vs H Q E h => ?_) (fun cdv A outer s H vs Q E gp hcl hr h => ?_)
  · obtain ⟨x, d, rfl, _⟩ := h
    rfl
  obtain ⟨x, d, rfl, ht, q⟩ := h
  refine ⟨_, pss_one (ps_ret (pe_and (pe_callB cr_isinst (by rfl) M.isi (by decide +kernel) (pa_cons (pv 0) (pa_cons (pe_ty (n := "int") (by rfl) M.int (by decide +kernel)) pa_nil)))
    (pe_one (pe_not (pe_callB cr_isinst (by rfl) M.isi (by decide +kernel) (pa_cons (pv 0) (pa_cons (pe_ty (n := "bool") (by rfl) M.bool (by decide +kernel)) pa_nil))))))), ?_⟩
  refine ⟨_, rfl, x, "int", d, rfl, ht, .inl rfl, _, rfl, ?_⟩
  cases d with
  | int i => exact itT rfl ⟨_, rfl, x, "bool", _, rfl, ht, .inr (.inl rfl), _, rfl, q⟩
  | bool b => exact itT rfl ⟨_, rfl, x, "bool", _, rfl, ht, .inr (.inl rfl), _, rfl, q⟩
  | none => exact itF rfl q
  | str y => exact itF rfl q
  | list ds => exact itF rfl q
  | tuple ds => exact itF rfl q
  | dict kvs => exact itF rfl q
theorem scBetw : FnScope ["thing", "least", "most"] ["thing", "least", "most"] (defScope sBetw) := ⟨rfl, rfl, rfl, by decide +kernel, rfl, by decide +kernel, by decide +kernel⟩
theorem ok_betw (F : Fun K "is_whole_between" "is_whole_between" sBetw f fd) (G : FnOk P w K mg base CX0 1 g gd ["thing"] (spWhole K)) (bG : Binds K gd ["thing"] []) (kG : PySem.W.keepIn K (.ref g) = true) (mG : mg "is_whole" = some (.ref g)) :
    FnOk P w K mg base CX0 2 f fd ["thing", "least", "most"] (spBetw K) := by
  refine F.ok scBetw (fun vs H Q E h => ?_) (fun cdv A outer s H vs Q E gp hcl hr h => ?_)
  · obtain ⟨x, d, lo, hi, rfl, _⟩ := h
    rfl
  obtain ⟨x, d, lo, hi, rfl, ht, q⟩ := h
  refine ⟨_, pss_one (ps_ret (pe_and (pe_call G hr rfl mG kG bG .nil pass0 (pa_cons (pv 0) pa_nil)) (pe_one (pe_chain op_le op_le (pv 1) (pv 0) (pv 2))))), ?_⟩
  refine ⟨_, rfl, x, d, rfl, ht, _, rfl, ?_⟩
  cases d with
  | int i =>
    have ex : x = .int i := by cases ht with | dp h => cases h; rfl
    subst ex
    refine itT rfl ?_
    refine ⟨_, rfl, _, rfl, lo, i, rfl, rfl, _, rfl, ?_⟩
    have q' : Q (.bl (decide (lo ≤ i) && decide (i ≤ hi))) H := q
    by_cases c : lo ≤ i
    · refine itT (decide_eq_true c) ⟨_, rfl, i, hi, rfl, rfl, ?_⟩
      rw [decide_eq_true c, Bool.true_and] at q'
      exact q'
    · refine itF (decide_eq_false c) ?_
      rw [decide_eq_false c, Bool.false_and] at q'
      exact q'
  | bool b => exact itF rfl q
  | none => exact itF rfl q
  | str y => exact itF rfl q
  | list ds => exact itF rfl q
  | tuple ds => exact itF rfl q
  | dict kvs => exact itF rfl q
theorem scReach : FnScope ["thing"] ["thing"] (defScope sReach) := ⟨rfl, rfl, rfl, by decide +kernel, rfl, by decide +kernel, by decide +kernel⟩
theorem ok_reach {c T : Addr} {t3 : Tok} (F : Fun K "is_reach" "is_reach" sReach f fd) (hcd : fd.code = .ref c) (hcb : CodeB base mg c T) (M : Mg mg) (G : FnOk P w K mg base CX0 2 g gd ["thing", "least", "most"] (spBetw K)) (bG : Binds K gd ["thing", "least", "most"] [])
    (kG : PySem.W.keepIn K (.ref g) = true) (mG : mg "is_whole_between" = some (.ref g)) (m3 : mg "MOST_REACH" = some (.int 3 t3)) : FnOk P w K mg base CX0 13 f fd ["thing"] (spReach K T) := by
  refine F.okC scReach hcd (fun vs H Q E h => ?_) (fun A outer s H vs Q E gp hcl hr h => ?_)
  · obtain ⟨x, d, rfl, _⟩ := h
    rfl
  obtain ⟨x, d, rfl, ht, hT, q⟩ := h
  refine ⟨_, pss_cons (ps_if (PW.pt (pw_or (pt_not (pt_val (pe_callB cr_isinst (by rfl) M.isi (by decide +kernel) (pa_cons (pv 0) (pa_cons (pe_ty (n := "tuple") (by rfl) M.tuple (by decide +kernel)) pa_nil)))))
      (pw_or1 (pt_cmpR op_ne (pe_callB call_len_seq rfl M.len PySem.boot_len (pa_cons (pv 0) pa_nil)) pe_int (nomark _))))) (pss_one (ps_ret pe_bl)) pss_nil)
    (pss_one (ps_ret (pe_allGen (T := T) (x := "item") (R := fun H y b => ∃ d, Th K H y d ∧ b = betw 0 3 d) M.all (by rfl) (hcl (by decide)) rfl hr.depth (pv 0) rfl hcb
      (fun H H' y b le ⟨d, h1, h2⟩ => ⟨d, th_le le h1, h2⟩)
      (fun code C A' E' s2 m2 H y v b hA hd hu qs hn hm rv ⟨d, h1, h2⟩ => thn (q_call (r := .bl b) G (by decide) bG qs (room_gen hr hA hd hu (by decide)) rfl rfl rfl mG kG (qas_cons (qa_loc rfl rfl hn hm rv) (qas_cons qa_int (qas_cons (qa_glob (v := .int 3) rfl rfl rfl qs m3 ⟨t3, rfl⟩) qas_nil)))
        ⟨y, d, 0, 3, rfl, h1, by rw [← h2]⟩) fun u s3 hq => hq)))), ?_⟩
  refine ⟨_, rfl, x, "tuple", d, rfl, ht, .inr (.inr (.inl rfl)), _, rfl, ?_⟩
  cases d with
  | tuple ds =>
    obtain ⟨a, xs, rfl, hS, hD⟩ := th_tup ht
    refine itF rfl ⟨_, rfl, a, xs, rfl, .inr hS, rfl, _, rfl, ?_⟩
    have hl := tha_len hD
    have q' : Q (.bl (decide (ds.length = 2) && ds.all (betw 0 3))) H := q
    by_cases h2 : ds.length = 2
    · refine itF ?_ ⟨_, rfl, a, xs, ds.map (betw 0 3), rfl, .inl hS, hT, by rw [List.length_map, hl], fun i y e => ?_, ?_⟩
      · rw [decide_eq_true (show V.int ((xs.length : Nat) : Int) = V.int 2 by rw [hl, h2]; rfl)]
        rfl
      · obtain ⟨d, e1, e2⟩ := tha_get hD e
        exact ⟨betw 0 3 d, by rw [List.getElem?_map, e1]; rfl, d, e2, rfl⟩
      · rw [decide_eq_true h2, Bool.true_and] at q'
        rw [List.all_map]
        exact q'
    · refine itT ?_ ?_
      · rw [decide_eq_false]
        · rfl
        · intro z
          injection z with z
          exact h2 (by rw [← hl]; omega)
      · rw [decide_eq_false h2, Bool.false_and] at q'
        exact q'
  | int i => exact itT rfl (itT rfl q)
  | bool b => exact itT rfl (itT rfl q)
  | none => exact itT rfl (itT rfl q)
  | str y => exact itT rfl (itT rfl q)
  | list ds => exact itT rfl (itT rfl q)
  | dict kvs => exact itT rfl (itT rfl q)
theorem scIsOrder : FnScope ["thing"] ["thing"] (defScope sIsOrder) := ⟨rfl, rfl, rfl, by decide +kernel, rfl, by decide +kernel, by decide +kernel⟩
theorem scCheckO : FnScope ["order"] ["order"] (defScope sCheckO) := ⟨rfl, rfl, rfl, by decide +kernel, rfl, by decide +kernel, by decide +kernel⟩
theorem ok_checkO {T : Addr} (F : Fun K "check_order" "check_order" sCheckO f fd) (G : FnOk P w K mg base CX0 13 g gd ["thing"] (spIsOrd K T)) (bG : Binds K gd ["thing"] []) (kG : PySem.W.keepIn K (.ref g) = true) (mG : mg "is_order" = some (.ref g)) : FnOk P w K mg base CX0 14 f fd ["order"] (spCheckO K T) := by
  refine fnJ F scCheckO (fun vs H Q E h => ?_) (fun cdv A outer s H vs Q E gp hcl hr h => ?_)
  · obtain ⟨v, ns, rfl, _⟩ := h
    rfl
  obtain ⟨v, ns, rfl, ho, hT, q⟩ := h
  refine ⟨_, jb_one (js_if (jt_not (jt_val (je_call G hr rfl mG kG bG .nil pass0 (jn (jv 0) ja0)))) jb_never jb_nil), ?_⟩
  exact ⟨_, rfl, v, ns, rfl, ho, hT, fun H' e => ⟨true, rfl, itF rfl (q H' e)⟩⟩
theorem scCheckR : FnScope ["reach"] ["reach"] (defScope sCheckR) := ⟨rfl, rfl, rfl, by decide +kernel, rfl, by decide +kernel, by decide +kernel⟩
theorem ok_checkR {T : Addr} (F : Fun K "check_reach" "check_reach" sCheckR f fd) (G : FnOk P w K mg base CX0 13 g gd ["thing"] (spReach K T)) (bG : Binds K gd ["thing"] []) (kG : PySem.W.keepIn K (.ref g) = true) (mG : mg "is_reach" = some (.ref g)) : FnOk P w K mg base CX0 14 f fd ["reach"] (spCheckR K T) := by
  refine fnJ F scCheckR (fun vs H Q E h => ?_) (fun cdv A outer s H vs Q E gp hcl hr h => ?_)
  · obtain ⟨x, d, rfl, _⟩ := h
    rfl
  obtain ⟨x, d, rfl, ht, hd, hT, q⟩ := h
  refine ⟨_, jb_one (js_if (jt_not (jt_val (je_call G hr rfl mG kG bG .nil pass0 (jn (jv 0) ja0)))) jb_never jb_nil), ?_⟩
  refine ⟨_, rfl, x, d, rfl, ht, hT, _, rfl, itF ?_ q⟩
  rw [hd]
  rfl
end
end K51
set_option Elab.async false
set_option linter.all false
set_option maxRecDepth 100000
namespace NV
open PySem PySem.Spec PyProof.Rows L2 NP NT
def txtW (q : Wsh) : Str := wordS q.1 ++ " " ++ numS q.2.1 ++ " " ++ numS q.2.2
def txtWs (qs : List Wsh) : Str := if qs = [] then "none" else Txt.join "; " (qs.map txtW)
theorem word_free : ∀ b : Bool, (32 : Nat) ∉ TL.tl (wordS b) ∧ (59 : Nat) ∉ TL.tl (wordS b) ∧ (wordS b).length ≤ 3 := by decide +kernel
theorem txtW_tl (q : Wsh) : TL.tl (txtW q) = TL.tl (wordS q.1) ++ ([32] ++ (TL.tl (numS q.2.1) ++ ([32] ++ TL.tl (numS q.2.2)))) := by
  unfold txtW
  have e : TL.tl ((" " : String) : Str) = [32] := by decide +kernel
  simp only [TL.tl_append, e, List.append_assoc]
theorem txtW_join (q : Wsh) : txtW q = Txt.join " " [wordS q.1, numS q.2.1, numS q.2.2] := by
  refine TL.ext_tl ?_
  rw [txtW_tl, TL.join_eq, TL.tl_join]
  have e : TL.tl ((" " : String) : Str) = [32] := by decide +kernel
  rw [e]
  rfl
theorem split_w {q : Wsh} {m : Int} (ok : OkW m q) : Txt.split (txtW q) " " = [wordS q.1, numS q.2.1, numS q.2.2] := by
  rw [txtW_join]
  refine TL.split_join (y := " ") (s := 32) (S := []) (by decide +kernel) (by decide +kernel) (by simp) fun p hp => ?_
  rcases List.mem_cons.mp hp with rfl | hp
  · exact (word_free q.1).1
  · rcases List.mem_cons.mp hp with rfl | hp
    · exact num_free ok.t0 (.inl (by decide))
    · rw [List.mem_singleton.mp hp]
      exact num_free ok.p0 (.inl (by decide))
theorem txtW_free {q : Wsh} {m : Int} (ok : OkW m q) : (59 : Nat) ∉ TL.tl (txtW q) := by
  rw [txtW_tl]
  intro h
  simp only [List.mem_append, List.mem_singleton] at h
  rcases h with h | h | h | h | h
  · exact (word_free q.1).2.1 h
  · cases h
  · exact num_free ok.t0 (.inr (by decide)) h
  · cases h
  · exact num_free ok.p0 (.inr (by decide)) h
theorem txtW_len {q : Wsh} (ok : OkW 99 q) : (txtW q).length ≤ 9 := by
  have h1 := (word_free q.1).2.2
  have h2 := (num_figs ok.t0 (show q.2.1 < 100 by have := ok.t1; omega)).2.2
  have h3 := (num_figs ok.p0 (show q.2.2 < 100 by have := ok.p1; omega)).2.2
  have e : (((" " : String) : Str)).length = 1 := rfl
  unfold txtW
  rw [strLen_append, strLen_append, strLen_append, strLen_append, e]
  omega
theorem split_ws {qs : List Wsh} {m : Int} (ne : qs ≠ []) (ok : ∀ q ∈ qs, OkW m q) : Txt.split (txtWs qs) "; " = qs.map txtW := by
  unfold txtWs
  rw [if_neg ne]
  refine TL.split_join (y := "; ") (s := 59) (S := [32]) (by decide +kernel) (by decide +kernel) (by simpa using ne) fun p hp => ?_
  obtain ⟨q, hq, rfl⟩ := List.mem_map.mp hp
  exact txtW_free (ok q hq)
theorem ws_none {qs : List Wsh} {m : Int} (ne : qs ≠ []) (ok : ∀ q ∈ qs, OkW m q) : txtWs qs ≠ "none" := fun e => by
  have s1 := split_ws ne ok
  rw [e] at s1
  have s2 : Txt.split "none" "; " = [("none" : Str)] := by decide +kernel
  rw [s2] at s1
  match qs with
  | [] => cases s1
  | q :: r =>
    rw [List.map_cons] at s1
    injection s1 with s1 _
    have h1 : (32 : Nat) ∈ TL.tl (txtW q) := by rw [txtW_tl]; simp
    rw [← s1] at h1
    revert h1
    decide +kernel
theorem parts_ws {qs : List Wsh} {m : Int} (ok : ∀ q ∈ qs, OkW m q) : partsOf (txtWs qs) "; " = qs.map txtW := by
  unfold partsOf
  by_cases z : qs = []
  · subst z
    rw [if_pos (show txtWs [] = ("none" : Str) from if_pos rfl)]
    rfl
  · rw [if_neg (ws_none z ok), split_ws z ok]
theorem ws_len {qs : List Wsh} (hn : qs.length ≤ 60) (ok : ∀ q ∈ qs, OkW 99 q) : (txtWs qs).length ≤ 2000 := by
  unfold txtWs
  split
  · decide +kernel
  · rw [TL.len_tl, TL.join_eq, TL.tl_join]
    have h1 := joinL_len (TL.tl "; ") ((qs.map txtW).map TL.tl)
    have h2 : (((qs.map txtW).map TL.tl).map (·.length)).sum ≤ 9 * (qs.map txtW).length := by
      have := join_len (ys := qs.map txtW) (b := 9) fun y hy => by
        obtain ⟨q, hq, rfl⟩ := List.mem_map.mp hy
        exact txtW_len (ok q hq)
      rw [List.map_map]
      have e : ((fun x : List Nat => x.length) ∘ TL.tl) = fun x : Str => x.length := by funext x; exact (TL.len_tl x).symm
      rw [e]
      exact this
    have e2 : (TL.tl ((("; " : String) : Str))).length = 2 := by decide +kernel
    rw [e2] at h1
    rw [List.length_map, List.length_map] at h1
    rw [List.length_map] at h2
    omega
def spWText (K : PySem.W.Frag) : Sp := fun vs H Q _ => ∃ (a : Addr) (q : Wsh), vs = [.ref a] ∧ SqT K H a (wshV q) ∧ OkW 99 q ∧ ∀ H', Same H H' → Q (.str (txtW q)) H'
def spWsText (K : PySem.W.Frag) (T T2 : Addr) : Sp := fun vs H Q _ => ∃ (a : Addr) (ws : List (Wsh × Addr)), vs = [.ref a] ∧ WsAt K H a ws ∧ ws.length ≤ 60 ∧ (∀ q ∈ ws, OkW 99 q.1) ∧ T ≠ T2 ∧ H T = some (TabP T) ∧ H T2 = some (TabP T2) ∧ ∀ H', Same H H' → Q (.str (txtWs (ws.map (·.1)))) H'
def spReadW (T3 : Addr) : Sp := fun vs H Q _ => ∃ q : Wsh, vs = [.str (txtW q)] ∧ OkW 99 q ∧ H T3 = some (TabP T3) ∧ ∀ p H', Same H H' → H p = none → H' p = some (.tup (wshV q)) → Q (.ref p) H'
/-- a new list of wishes, all new -/
structure NewWs (H0 H : Hp) (a : Addr) (ws : List (Wsh × Addr)) : Prop where
  same : Same H0 H
  new : H0 a = none
  at_ : H a = some (.lst (ws.map fun q => V.ref q.2))
  each : ∀ q ∈ ws, H q.2 = some (.tup (wshV q.1)) ∧ q.2 ≠ a ∧ H0 q.2 = none
theorem NewWs.ws {K : PySem.W.Frag} {H0 H : Hp} {a : Addr} {ws : List (Wsh × Addr)} (h : NewWs H0 H a ws) : WsAt K H a ws := ⟨SqL.of h.at_, fun q hq => SqT.of (h.each q hq).1⟩
theorem NewWs.then {H0 H H' : Hp} {a : Addr} {ws : List (Wsh × Addr)} (h : NewWs H0 H a ws) (s : Same H H') : NewWs H0 H' a ws := ⟨h.same.trans s, h.new, s _ _ h.at_, fun q hq => ⟨s _ _ (h.each q hq).1, (h.each q hq).2⟩⟩
theorem NewWs.back {H0 H1 H : Hp} {a : Addr} {ws : List (Wsh × Addr)} (h : NewWs H1 H a ws) (s : Same H0 H1) : NewWs H0 H a ws := ⟨s.trans h.same, s.free h.new, h.at_, fun q hq => ⟨(h.each q hq).1, (h.each q hq).2.1, s.free (h.each q hq).2.2⟩⟩
def spReadWs (T T2 T3 : Addr) : Sp := fun vs H Q _ => ∃ qs : List Wsh, vs = [.str (txtWs qs)] ∧ qs.length ≤ 60 ∧ (∀ q ∈ qs, OkW 99 q) ∧ T ≠ T2 ∧ H T = some (TabP T) ∧ H T2 = some (TabP T2) ∧ H T3 = some (TabP T3) ∧ ∀ a ws H', NewWs H H' a ws → ws.map (·.1) = qs → Q (.ref a) H'
end NV
set_option Elab.async false
set_option linter.all false
set_option maxRecDepth 100000
namespace NV
open PySem PySem.Spec PyProof.Rows L2 NP NT
def wsD (qs : List Wsh) : PyData := .list (qs.map wshD)
theorem dp_wsh {K : PySem.W.Frag} {H : Hp} {a : Addr} {q : Wsh} (h : SqT K H a (wshV q)) : Dp K H (.ref a) (wshD q) := .tup h (.cons (.str _) (.cons (.int _) (.cons (.int _) .nil)))
theorem dp_ws {K : PySem.W.Frag} {H : Hp} {a : Addr} {ws : List (Wsh × Addr)} (h : WsAt K H a ws) : Dp K H (.ref a) (wsD (ws.map (·.1))) := by
  have each := h.each
  refine .lst h.at_ ?_
  clear h
  induction ws with
  | nil => exact .nil
  | cons x ws ih => exact .cons (dp_wsh (each x (.head _))) (ih fun q hq => each q (.tail _ hq))
theorem lay_w (q : Wsh) : (wshD q).canLay0 = true := by
  obtain ⟨b, i, j⟩ := q
  cases b <;> (unfold wshD wordS; simp [PyData.canLay0, PyData.canLayAll0]; try decide +kernel)
theorem lay_ws : ∀ qs : List Wsh, PyData.canLayAll0 (qs.map wshD) = true
  | [] => by simp [PyData.canLayAll0]
  | q :: qs => by
    rw [List.map_cons]
    unfold PyData.canLayAll0
    rw [lay_w, lay_ws qs]
    rfl
theorem dep_w (q : Wsh) : (wshD q).depth = 1 := by
  unfold wshD
  simp [PyData.depth, PyData.depthAll]
theorem dep_ws : ∀ qs : List Wsh, PyData.depthAll (qs.map wshD) ≤ 1
  | [] => by simp [PyData.depthAll]
  | q :: qs => by
    have := dep_ws qs
    rw [List.map_cons]
    unfold PyData.depthAll
    rw [dep_w]
    omega
theorem lay_wsD (qs : List Wsh) : (wsD qs).canLay0 = true := by
  unfold wsD PyData.canLay0
  exact lay_ws qs
theorem shaped_ws (qs : List Wsh) : SeqAt.shaped (wsD qs) = true := by
  have h := dep_ws qs
  unfold SeqAt.shaped
  rw [lay_wsD]
  have : (wsD qs).depth ≤ 2 := by
    unfold wsD PyData.depth
    omega
  simp
  omega
theorem eqv_ws (qs : List Wsh) : PyData.eqv (wsD qs) (wsD qs) = true := SeqAt.eqv_refl _ (lay_wsD qs)
theorem at6 {i0 i1 i2 i3 i4 i5 : Int} {r : Int} (h0 : 0 ≤ r) (h1 : r < 6) : ∃ v, atI [V.int i0, .int i1, .int i2, .int i3, .int i4, .int i5] r = some v ∧ ∃ i, v = .int i ∧ (i = i0 ∨ i = i1 ∨ i = i2 ∨ i = i3 ∨ i = i4 ∨ i = i5) := by
  obtain ⟨v, h, m⟩ := atI_in (xs := [V.int i0, .int i1, .int i2, .int i3, .int i4, .int i5]) h0 h1
  refine ⟨v, h, ?_⟩
  simp only [List.mem_cons, List.not_mem_nil, or_false] at m
  rcases m with h | h | h | h | h | h
  · exact ⟨_, h, .inl rfl⟩
  · exact ⟨_, h, .inr (.inl rfl)⟩
  · exact ⟨_, h, .inr (.inr (.inl rfl))⟩
  · exact ⟨_, h, .inr (.inr (.inr (.inl rfl)))⟩
  · exact ⟨_, h, .inr (.inr (.inr (.inr (.inl rfl))))⟩
  · exact ⟨_, h, .inr (.inr (.inr (.inr (.inr rfl))))⟩
theorem at3i {x y z : Int} {r : Int} (h0 : 0 ≤ r) (h1 : r < 3) : ∃ i, atI [V.int x, .int y, .int z] r = some (.int i) ∧ (i = x ∨ i = y ∨ i = z) := by
  obtain ⟨v, h, m⟩ := atI_in (xs := [V.int x, .int y, .int z]) h0 h1
  simp only [List.mem_cons, List.not_mem_nil, or_false] at m
  rcases m with h' | h' | h' <;> subst h'
  · exact ⟨_, h, .inl rfl⟩
  · exact ⟨_, h, .inr (.inl rfl)⟩
  · exact ⟨_, h, .inr (.inr rfl)⟩
theorem at2w {r : Int} (h0 : 0 ≤ r) (h1 : r < 2) : ∃ b, atI [V.str "at", .str "not"] r = some (.str (wordS b)) := by
  obtain ⟨v, h, m⟩ := atI_in (xs := [V.str "at", .str "not"]) h0 h1
  simp only [List.mem_cons, List.not_mem_nil, or_false] at m
  rcases m with h' | h' <;> subst h'
  · exact ⟨true, h⟩
  · exact ⟨false, h⟩
end NV
set_option Elab.async false
set_option linter.all false
set_option maxRecDepth 100000
namespace NV
open PySem PySem.Spec PyProof.Rows L2 NP NT
theorem tab_is {K : PySem.W.Frag} {base : Heap} {mg : Str → Option Value} {x : Str} {st : Stmt} {f c T c' P : Addr} {fd : FuncData} (D : DefAt K x st f fd) (h : fd.code = .ref c) (X : K.In base) (cb : CodeB base mg c T) (t : PySem.W.tabIn K x = some (c', P)) : P = T := by
  obtain ⟨oc, od, kV, doc, pm, an, cdv, ct, osl, e, lk, _⟩ := D.fn.ex
  unfold PySem.W.tabIn at t
  rw [D.ns] at t
  dsimp only at t
  rw [lk] at t
  dsimp only at t
  rw [h] at t
  dsimp only at t
  obtain ⟨o, vs, file, tf, flags, tg, inF, text, tt, g1, g2, g3, g4, _⟩ := cb.cd
  cases hc : K.lookup c with
  | none => rw [hc] at t; cases t
  | some o2 =>
    have := X _ _ hc
    rw [g1] at this
    cases this
    rw [hc] at t
    obtain ⟨o1, o2, o3, o4⟩ := o
    subst g4
    dsimp only at t
    rw [g3] at t
    cases t
    rfl
def neTabs (K : PySem.W.Frag) (x y : Str) : Bool := match PySem.W.tabIn K x, PySem.W.tabIn K y with
  | some (_, a), some (_, b) => a != b
  | _, _ => false
theorem tab_ne {K : PySem.W.Frag} {base : Heap} {mg : Str → Option Value} {x y : Str} {st su : Stmt} {f g c T e U : Addr} {fd gd : FuncData} (D : DefAt K x st f fd) (h : fd.code = .ref c) (D2 : DefAt K y su g gd) (h2 : gd.code = .ref e) (X : K.In base) (cb : CodeB base mg c T) (cb2 : CodeB base mg e U) (t : neTabs K x y = true) : T ≠ U := by
  unfold neTabs at t
  split at t
  · rename_i c1 a c2 b e1 e2
    rw [← tab_is D h X cb e1, ← tab_is D2 h2 X cb2 e2]
    simpa using t
  · cases t
end NV
set_option Elab.async false
set_option linter.all false
set_option maxRecDepth 100000
namespace NV
open PySem PySem.Spec PyProof.Rows L2 NP NT
def wordD : PyData → Bool
  | .str x => decide (x = "at" ∨ x = "not")
  | _ => false
def wishDt (m : Int) : PyData → Bool
  | .tuple [a, b, c] => wordD a && (betw 0 m b && betw 0 m c)
  | _ => false
def wishesDt (m : Int) : PyData → Bool
  | .list ds => decide (ds.length ≤ 60) && ds.all (wishDt m)
  | _ => false
def spIsWishX (K : PySem.W.Frag) (T : Addr) : Sp := fun vs H Q _ => ∃ (v : V) (m : Int) (d : PyData), vs = [v, .int m] ∧ Th K H v d ∧ H T = some (TabP T) ∧ ∀ H', Same H H' → Q (.bl (wishDt m d)) H'
def spIsWishesX (K : PySem.W.Frag) (T T2 : Addr) : Sp := fun vs H Q _ => ∃ (v : V) (m : Int) (d : PyData), vs = [v, .int m] ∧ Th K H v d ∧ T ≠ T2 ∧ H T = some (TabP T) ∧ H T2 = some (TabP T2) ∧ ∀ H', Same H H' → Q (.bl (wishesDt m d)) H'
theorem inV2 (x a b : Str) : inV (V.str x) [V.str a, V.str b] = decide (x = a ∨ x = b) := by
  show ((a == x) || ((b == x) || false)) = _
  rw [Bool.or_false, Bool.eq_iff_iff]
  constructor
  · intro h
    rw [Bool.or_eq_true] at h
    exact decide_eq_true (h.elim (fun e => .inl (eq_of_beq e).symm) (fun e => .inr (eq_of_beq e).symm))
  · intro h
    rcases of_decide_eq_true h with e | e
    · subst e
      rw [beq_self_eq_true, Bool.true_or]
    · subst e
      rw [beq_self_eq_true, Bool.or_true]
theorem tyD_str {K : PySem.W.Frag} {H : Hp} {v : V} {d : PyData} (h : Th K H v d) : (∃ x, d = .str x ∧ v = .str x) ∨ ((tyD d == "str") = false ∧ wordD d = false) := by
  cases d with
  | str x =>
    refine .inl ⟨x, rfl, ?_⟩
    cases h with
    | dp h => cases h with | str => rfl
  | none => exact .inr ⟨(by show (("NoneType" : String) == "str") = false; decide +kernel), rfl⟩
  | bool b => exact .inr ⟨(by show (("bool" : String) == "str") = false; decide +kernel), rfl⟩
  | int i => exact .inr ⟨(by show (("int" : String) == "str") = false; decide +kernel), rfl⟩
  | list ds => exact .inr ⟨(by show (("list" : String) == "str") = false; decide +kernel), rfl⟩
  | tuple ds => exact .inr ⟨(by show (("tuple" : String) == "str") = false; decide +kernel), rfl⟩
  | dict kvs => exact .inr ⟨(by show (("dict" : String) == "str") = false; decide +kernel), rfl⟩
end NV
set_option Elab.async false
set_option linter.all false
set_option maxRecDepth 100000
namespace K51
open PySem PySem.Spec PyProof.Rows L2 NP NT NV NN
section
variable {P : Program} {w : World} {K : PySem.W.Frag} {mg : Str → Option Value} {base : Heap} {f g : Addr} {fd gd : FuncData}
theorem scFig : FnScope ["word", "most"] ["word", "most"] (defScope sFig) := ⟨rfl, rfl, rfl, by decide +kernel, rfl, by decide +kernel, by decide +kernel⟩
theorem ok_fig (F : Fun K "is_figures" "is_figures" sFig f fd) (M : Mg mg) : FnOk P w K mg base CX0 1 f fd ["word", "most"] spFig := by
  refine fnJ F scFig (fun vs H Q E h => ?_) (fun cdv A outer s H vs Q E gp hcl hr h => ?_)
  · obtain ⟨w, m, rfl, _⟩ := h
    rfl
  obtain ⟨w, m, rfl, hz, q⟩ := h
  refine ⟨_, jb_cons (js_if (jt_w (jw_or (jt_not (jt_val (je_m0 PySem.F.slot_str_isascii PySem.F.type_str_isascii mt_isascii (jv 0))))
      (jw_or (jt_not (jt_val (je_m0 PySem.F.slot_str_isdigit PySem.F.type_str_isdigit mt_isdigit (jv 0))))
      (jw_or1 (jt_cmp op_gt (je_callB call_len_str rfl M.len PySem.boot_len (jn (jv 0) ja0)) (jv 1) (nomark _)))))) (jb_one (js_ret je_bl)) jb_nil)
    (jb_one (js_ret (je_or (je_cmp op_eq (jv 0) je_str (nomark _)) (je_one (je_not (je_m1 PySem.F.slot_str_startswith PySem.F.type_str_startswith mt_startswith (jv 0) je_str)))))), ?_⟩
  unfold figs at q
  refine ⟨_, rfl, ⟨_, rfl⟩, w, rfl, rfl, trivial, _, rfl, ?_⟩
  cases h1 : Txt.isascii w with
  | false => rw [h1] at q; exact itT rfl (itT rfl q)
  | true =>
    rw [h1, Bool.true_and] at q
    refine itF rfl ⟨_, rfl, ⟨_, rfl⟩, w, rfl, rfl, trivial, _, rfl, ?_⟩
    cases h2 : Txt.isdigit w with
    | false => rw [h2] at q; exact itT rfl (itT rfl q)
    | true =>
      rw [h2, Bool.true_and] at q
      refine itF rfl ⟨_, rfl, w, rfl, hz, _, rfl, _, _, rfl, rfl, _, rfl, ?_⟩
      by_cases h3 : (w.length : Int) ≤ m
      · rw [decide_eq_true h3, Bool.true_and] at q
        refine itF (decide_eq_false (by omega)) ⟨_, rfl, rfl, _, rfl, ?_⟩
        have e0 : decide (V.str w = V.str "0") = decide (w = "0") := by
          rw [Bool.eq_iff_iff]
          simp
        rw [e0]
        cases h4 : decide (w = "0") with
        | true =>
          rw [h4] at q
          exact itT rfl q
        | false =>
          rw [h4, Bool.false_or] at q
          exact itF rfl ⟨_, rfl, ⟨_, rfl⟩, _, _, rfl, rfl, _, rfl, q⟩
      · rw [decide_eq_false h3] at q
        exact itT (decide_eq_true (by omega)) q
theorem scNums : FnScope ["numbers", "number"] ["numbers"] (defScope sNums) := ⟨rfl, rfl, rfl, by decide +kernel, rfl, by decide +kernel, by decide +kernel⟩
theorem ok_nums (F : Fun K "numbers_text" "numbers_text" sNums f fd) (mstr : mg "str" = none) : FnOk P w K mg base CX0 1 f fd ["numbers"] (spNums K) := by
  refine fnJ F scNums (fun vs H Q E h => ?_) (fun cdv A outer s H vs Q E gp hcl hr h => ?_)
  · obtain ⟨a, ns, rfl, _⟩ := h
    rfl
  obtain ⟨a, ns, rfl, hS, hn, hb, q⟩ := h
  refine ⟨_, jb_one (js_ret (je_m1 PySem.F.slot_str_join PySem.F.type_str_join mt_join je_str (je_lc (own := [("number", 1)]) (g := gName 1) rfl scNums.nd (ji_list (jv 0)) (blkOk_by (own := [("number", 1)]) (N := ["numbers", "number"]) (sc := defScope sNums) (by decide +kernel))
      (fun _ _ _ _ _ => jg_name (i := 1) scNums.nd rfl (Or.inl rfl)) (fun _ _ _ _ _ => jts_nil)
      (fun _ _ _ _ _ => je_callTy call_str_int (by rfl) mstr (by decide +kernel) (jn (jv 1) ja0))))), ?_⟩
  refine ⟨⟨_, rfl⟩, _, rfl, a, rfl, ⟨_, hS⟩, fun D nD => ?_⟩
  refine lc_list (K := K) (a := a) (xs := ns.map V.int) (fun i H' => Same H H' ∧ H' D = some (.lst (((ns.take i).map numS).map V.str))) ⟨same_new nD _, upd_same⟩ (fun i H' _ ⟨s, _⟩ => s.seq hS) ?_ ?_
  · rintro i x H2 hx ⟨s2, g2⟩
    rw [List.getElem?_map] at hx
    obtain ⟨k, hk, rfl⟩ := Option.map_eq_some_iff.mp hx
    have hi := (List.getElem?_eq_some_iff.mp hk).1
    have kb := hb k (List.mem_of_getElem? hk)
    refine ⟨rfl, _, rfl, k, rfl, ?_, _, g2, ?_, ?_, ?_⟩
    · have : k.natAbs < 100 := by omega
      have h2 : k.natAbs.log2 < 1920 := by
        by_cases z : k.natAbs = 0
        · rw [z]; decide
        · exact (Nat.log2_lt z).mpr (Nat.lt_of_lt_of_le this (by decide))
      exact h2
    · rw [List.length_map, List.length_map, List.length_take]
      exact Nat.lt_of_le_of_lt (show min i ns.length ≤ 1000 by omega) (by decide)
    · intro b o h
      rw [upd_ne (ne_of_none h nD)]
      exact s2 _ _ h
    · rw [upd_same, List.take_add_one, hk, List.map_append, List.map_append]
      rfl
  · rintro H2 ⟨s2, g2⟩
    rw [List.length_map, List.take_length] at g2
    refine ⟨_, D, ns.map numS, rfl, rfl, .inl (SqL.of g2), ?_, q _ s2⟩
    have : ((ns.map numS).map (·.length)).sum ≤ 2 * (ns.map numS).length := join_len fun y hy => by
      obtain ⟨i, hi, rfl⟩ := List.mem_map.mp hy
      exact (num_figs (hb i hi).1 (hb i hi).2).2.2
    have e1 : (((" " : String) : Str)).length = 1 := rfl
    rw [List.length_map] at this ⊢
    rw [e1]
    omega
theorem scSides : FnScope ["sides", "left", "right"] ["sides"] (defScope sSides) := ⟨rfl, rfl, rfl, by decide +kernel, rfl, by decide +kernel, by decide +kernel⟩
theorem ok_sides (F : Fun K "sides_text" "sides_text" sSides f fd) : FnOk P w K mg base CX0 1 f fd ["sides"] (spSides K) := by
  refine fnJ F scSides (fun vs H Q E h => ?_) (fun cdv A outer s H vs Q E gp hcl hr h => ?_)
  · obtain ⟨a, l, r, rfl, _⟩ := h
    rfl
  obtain ⟨a, l, r, rfl, hS, l0, l1, r0, r1, q⟩ := h
  refine ⟨_, jb_cons (js_asg (jv 0) (jg_tup rfl (jgs_cons (jg_name (i := 1) scSides.nd rfl (Or.inl rfl)) (jgs_cons (jg_name (i := 2) scSides.nd rfl (Or.inl rfl)) jgs_nil))))
    (jb_one (js_ret (je_f (jf_val (jv 1) (jf_con (jf_val (jv 2) jf_nil)))))), ?_⟩
  have lg : ∀ k : Int, 0 ≤ k → k < 100 → fmtV (.int k) = some (numS k) := fun k h0 h1 => by
    have : k.natAbs < 100 := by omega
    have h2 : k.natAbs.log2 < 1920 := by
      by_cases z : k.natAbs = 0
      · rw [z]; decide
      · exact (Nat.log2_lt z).mpr (Nat.lt_of_lt_of_le this (by decide))
    show (if k.natAbs.log2 < 1920 then some (numS k) else none) = _
    rw [if_pos h2]
  have a1 := (num_figs l0 l1).2.2
  have a2 := (num_figs r0 r1).2.2
  have sz : 1000 ≤ sizeLine := by decide
  have e0 : (Str.empty).length = 0 := rfl
  have e1 : ((("," : String) : Str)).length = 1 := rfl
  refine ⟨_, rfl, a, _, rfl, hS, rfl, _, _, rfl, _, _, rfl, rfl, ?_⟩
  refine ⟨_, rfl, _, lg l l0 l1, by omega, by rw [strLen_append]; omega, by rw [strLen_append, strLen_append]; omega, _, rfl, _, lg r r0 r1, by omega, by rw [strLen_append, strLen_append, strLen_append]; omega, by rw [strLen_append, strLen_append, strLen_append]; omega, ?_⟩
  have e2 : Str.empty ++ numS l = numS l := TL.ext_tl (by rw [TL.tl_append]; rfl)
  show Q (.str (Str.empty ++ numS l ++ "," ++ numS r)) H
  rw [e2]
  exact q
theorem scOText : FnScope ["order"] ["order"] (defScope sOText) := ⟨rfl, rfl, rfl, by decide +kernel, rfl, by decide +kernel, by decide +kernel⟩
theorem ok_oText {T gN : Addr} {dN : FuncData} {tn : Tok} (F : Fun K "order_text" "order_text" sOText f fd) (mn : mg "NOTHING" = some (.str "none" tn)) (G : FnOk P w K mg base CX0 14 g gd ["order"] (spCheckO K T)) (bG : Binds K gd ["order"] []) (kG : PySem.W.keepIn K (.ref g) = true) (mG : mg "check_order" = some (.ref g))
    (N : FnOk P w K mg base CX0 1 gN dN ["numbers"] (spNums K)) (bN : Binds K dN ["numbers"] []) (kN : PySem.W.keepIn K (.ref gN) = true) (mN : mg "numbers_text" = some (.ref gN)) : FnOk P w K mg base CX0 15 f fd ["order"] (spOText K T) := by
  refine fnJ F scOText (fun vs H Q E h => ?_) (fun cdv A outer s H vs Q E gp hcl hr h => ?_)
  · obtain ⟨v, ns, rfl, _⟩ := h
    rfl
  obtain ⟨v, ns, rfl, ho, hT, q⟩ := h
  have hr1 : Room 1 _ := hr.mono (by decide)
  refine ⟨_, jb_cons (js_expr (je_call G hr rfl mG kG bG .nil pass0 (jn (jv 0) ja0)))
    (jb_one (js_ret (je_if (NT.jt_truth (jv 0)) (je_call N hr1 rfl mN kN bN .nil pass0 (jn (jv 0) ja0)) (je_glob (v := .str "none") rfl mn ⟨tn, rfl⟩)))), ?_⟩
  refine ⟨_, rfl, v, ns, rfl, ho, hT, fun H1 e1 => ?_⟩
  obtain ⟨a, rfl, hS, io⟩ := ho.same e1
  refine ⟨_, rfl, !(ns.map V.int).isEmpty, .inl ⟨_, hS, rfl⟩, ?_⟩
  have ln := io.len
  by_cases z : ns = []
  · subst z
    exact itF rfl (q _ e1)
  · refine itT ?_ ⟨_, rfl, a, ns, rfl, hS, by omega, ord_small io, fun H2 e2 => ?_⟩
    · cases ns with
      | nil => exact absurd rfl z
      | cons => rfl
    · have := q _ (e1.trans e2)
      unfold textO at this
      rw [if_neg z] at this
      exact this
theorem scRText : FnScope ["reach"] ["reach"] (defScope sRText) := ⟨rfl, rfl, rfl, by decide +kernel, rfl, by decide +kernel, by decide +kernel⟩
theorem reach_d {l r : Int} (l0 : 0 ≤ l) (l1 : l ≤ 3) (r0 : 0 ≤ r) (r1 : r ≤ 3) : reachD (.tuple [.int l, .int r]) = true := by
  show (decide (2 = 2) && ((decide (0 ≤ l) && decide (l ≤ 3)) && ((decide (0 ≤ r) && decide (r ≤ 3)) && true))) = true
  rw [decide_eq_true l0, decide_eq_true l1, decide_eq_true r0, decide_eq_true r1]
  rfl
theorem ok_rText {T gN : Addr} {dN : FuncData} (F : Fun K "reach_text" "reach_text" sRText f fd) (G : FnOk P w K mg base CX0 14 g gd ["reach"] (spCheckR K T)) (bG : Binds K gd ["reach"] []) (kG : PySem.W.keepIn K (.ref g) = true) (mG : mg "check_reach" = some (.ref g))
    (N : FnOk P w K mg base CX0 1 gN dN ["sides"] (spSides K)) (bN : Binds K dN ["sides"] []) (kN : PySem.W.keepIn K (.ref gN) = true) (mN : mg "sides_text" = some (.ref gN)) : FnOk P w K mg base CX0 15 f fd ["reach"] (spRText K T) := by
  refine fnJ F scRText (fun vs H Q E h => ?_) (fun cdv A outer s H vs Q E gp hcl hr h => ?_)
  · obtain ⟨a, l, r, rfl, _⟩ := h
    rfl
  obtain ⟨a, l, r, rfl, hS, l0, l1, r0, r1, hT, q⟩ := h
  have hr1 : Room 1 _ := hr.mono (by decide)
  refine ⟨_, jb_cons (js_expr (je_call G hr rfl mG kG bG .nil pass0 (jn (jv 0) ja0)))
    (jb_one (js_ret (je_call N hr1 rfl mN kN bN .nil pass0 (jn (jv 0) ja0)))), ?_⟩
  refine ⟨_, rfl, .ref a, .tuple [.int l, .int r], rfl, .dp (.tup hS (.cons (.int l) (.cons (.int r) .nil))), reach_d l0 l1 r0 r1, hT, ?_⟩
  exact ⟨_, rfl, a, l, r, rfl, hS, l0, by omega, r0, by omega, q⟩
theorem scCkW : FnScope ["writes"] ["writes"] (defScope sCkW) := ⟨rfl, rfl, rfl, by decide +kernel, rfl, by decide +kernel, by decide +kernel⟩
theorem ok_ckW (F : Fun K "check_writes" "check_writes" sCkW f fd) : FnOk P w K mg base CX0 1 f fd ["writes"] spCkW := by
  refine fnJ F scCkW (fun vs H Q E h => ?_) (fun cdv A outer s H vs Q E gp hcl hr h => ?_)
  · obtain ⟨rfl, _⟩ := h
    rfl
  obtain ⟨rfl, q⟩ := h
  refine ⟨_, jb_one (js_if (jt_not (NT.jt_truth (jv 0))) jb_never jb_nil), ?_⟩
  exact ⟨_, rfl, true, rfl, itF rfl q⟩
theorem scParts : FnScope ["text", "between"] ["text", "between"] (defScope sParts) := ⟨rfl, rfl, rfl, by decide +kernel, rfl, by decide +kernel, by decide +kernel⟩
theorem ok_parts {tn : Tok} (F : Fun K "parts_of" "parts_of" sParts f fd) (mn : mg "NOTHING" = some (.str "none" tn)) : FnOk P w K mg base CX0 1 f fd ["text", "between"] spParts := by
  refine fnJ F scParts (fun vs H Q E h => ?_) (fun cdv A outer s H vs Q E gp hcl hr h => ?_)
  · obtain ⟨t, b, rfl, _⟩ := h
    rfl
  obtain ⟨t, b, rfl, hb, ht, q⟩ := h
  refine ⟨_, jb_one (js_ret (je_if (jt_cmp op_eq (jv 0) (je_glob (v := .str "none") rfl mn ⟨tn, rfl⟩) (nomark _)) (je_lst ja0) (je_m1 PySem.F.slot_str_split PySem.F.type_str_split mt_split (jv 0) (jv 1)))), ?_⟩
  refine ⟨_, rfl, rfl, _, rfl, ?_⟩
  unfold partsOf at q
  by_cases z : t = "none"
  · subst z
    refine itT (by simp) ⟨(by show 0 ≤ sizeLine; decide), alloc fun p H' e1 e2 e3 => ?_⟩
    exact q p H' e1 e3 (by rw [if_pos rfl]; exact e2)
  · refine itF (by simp [z]) ⟨_, rfl, ⟨_, rfl⟩, _, rfl, t, b, rfl, rfl, hb, ht, alloc fun p H' e1 e2 e3 => ?_⟩
    exact q p H' e1 e3 (by rw [if_neg z]; exact e2)
theorem scReadN : FnScope ["words", "word"] ["words"] (defScope sReadN) := ⟨rfl, rfl, rfl, by decide +kernel, rfl, by decide +kernel, by decide +kernel⟩
theorem ok_readN {c T gC : Addr} {dC : FuncData} {t2 : Tok} (F : Fun K "read_numbers" "read_numbers" sReadN f fd) (hcd : fd.code = .ref c) (hcb : CodeB base mg c T) (M : Mg mg) (m2 : mg "MOST_FIGURES" = some (.int 2 t2))
    (G : FnOk P w K mg base CX0 1 g gd ["word", "most"] spFig) (bG : Binds K gd ["word", "most"] []) (kG : PySem.W.keepIn K (.ref g) = true) (mG : mg "is_figures" = some (.ref g))
    (C : FnOk P w K mg base CX0 1 gC dC ["writes"] spCkW) (bC : Binds K dC ["writes"] []) (kC : PySem.W.keepIn K (.ref gC) = true) (mC : mg "check_writes" = some (.ref gC)) : FnOk P w K mg base CX0 13 f fd ["words"] (spReadN K T) := by
  refine F.okC scReadN hcd (fun vs H Q E h => ?_) (fun A outer s H vs Q E gp hcl hr h => ?_)
  · obtain ⟨a, ws, rfl, _⟩ := h
    rfl
  obtain ⟨a, ws, rfl, hS, hn, hf, hT, q⟩ := h
  have hr1 : Room 1 _ := hr.mono (by decide)
  have jj : JB (cxOf CX0 P w K mg base ["words", "word"] "read_numbers" (defScope sReadN) f (.ref c) A outer s H E gp).nox (defBody sReadN) _ := jb_cons (js_expr (je_call C hr1 rfl mC kC bC .nil pass0 (jCa ⟨pe_allGen (T := T) (x := "word") (R := fun H y b => ∃ w : Str, y = .str w ∧ w.length ≤ sizeLine ∧ b = figs w 2) M.all (by rfl) (hcl (by decide)) rfl hr.depth (pv 0) rfl hcb
      (fun H H' y b le h => h)
      (fun code C A' E' s2 m2' H y v b hA hd hu qs hn hm rv ⟨w, h1, h2, h3⟩ => thn (q_call (r := .bl b) G (by decide) bG qs (room_gen hr hA hd hu (by decide)) rfl rfl rfl mG kG (qas_cons (qa_loc rfl rfl hn hm rv) (qas_cons (qa_glob (v := .int 2) rfl rfl rfl qs m2 ⟨t2, rfl⟩) qas_nil))
        ⟨w, 2, by rw [h1], h2, by rw [← h3]⟩) fun u s3 hq => hq)⟩ ja0)))
    (jb_one (js_ret (je_lc (own := [("word", 1)]) (g := gName 1) rfl scReadN.nd (ji_list (jv 0)) (blkOk_by (own := [("word", 1)]) (N := ["words", "word"]) (sc := defScope sReadN) (by decide +kernel))
      (fun _ _ _ _ _ => jg_name (i := 1) scReadN.nd rfl (Or.inl rfl)) (fun _ _ _ _ _ => jts_nil)
      (fun _ _ _ _ _ => je_callTy call_int_str (by rfl) M.int (by decide +kernel) (jn (jv 1) ja0)))))
  refine ⟨_, jj.p, ?_⟩
  refine ⟨_, rfl, a, _, ws.map (fun _ => true), rfl, .inr hS, hT, by rw [List.length_map, List.length_map], fun i y e => ?_, ?_⟩
  · rw [List.getElem?_map] at e
    obtain ⟨k, ek, rfl⟩ := Option.map_eq_some_iff.mp e
    have fk := hf k (List.mem_of_getElem? ek)
    have lk := (figs_ascii fk).2.2
    refine ⟨true, by rw [List.getElem?_map, ek]; rfl, k, rfl, Nat.le_trans (show k.length ≤ 2 by omega) (by decide), fk.symm⟩
  have al : (ws.map (fun _ => true)).all id = true := by simp
  rw [al]
  refine ⟨rfl, ?_⟩
  refine ⟨_, rfl, a, rfl, ⟨_, hS⟩, fun D nD => ?_⟩
  refine lc_list (K := K) (a := a) (xs := ws.map V.str) (fun i H' => Same H H' ∧ H' D = some (.lst (((ws.take i).map valW).map V.int))) ⟨same_new nD _, upd_same⟩ (fun i H' _ ⟨s, _⟩ => s.seq hS) ?_ ?_
  · rintro i x H2 hx ⟨s2, g2⟩
    rw [List.getElem?_map] at hx
    obtain ⟨k, hk, rfl⟩ := Option.map_eq_some_iff.mp hx
    have hi := (List.getElem?_eq_some_iff.mp hk).1
    have fk := figs_int (hf k (List.mem_of_getElem? hk)) (by decide)
    refine ⟨rfl, _, rfl, k, _, rfl, fk.1, by omega, _, g2, ?_, ?_, ?_⟩
    · rw [List.length_map, List.length_map, List.length_take]
      exact Nat.lt_of_le_of_lt (show min i ws.length ≤ 1000 by omega) (by decide)
    · intro b o h
      rw [upd_ne (ne_of_none h nD)]
      exact s2 _ _ h
    · rw [upd_same, List.take_add_one, hk, List.map_append, List.map_append]
      rfl
  · rintro H2 ⟨s2, g2⟩
    rw [List.length_map, List.take_length] at g2
    exact q D H2 s2 nD g2
theorem scReadO : FnScope ["text", "order"] ["text"] (defScope sReadO) := ⟨rfl, rfl, rfl, by decide +kernel, rfl, by decide +kernel, by decide +kernel⟩
theorem ok_readO {T T2 gC gP gO : Addr} {dC dP dO : FuncData} (F : Fun K "read_order" "read_order" sReadO f fd) (M : Mg mg) (mstr : mg "str" = none)
    (G : FnOk P w K mg base CX0 13 g gd ["words"] (spReadN K T)) (bG : Binds K gd ["words"] []) (kG : PySem.W.keepIn K (.ref g) = true) (mG : mg "read_numbers" = some (.ref g))
    (C : FnOk P w K mg base CX0 1 gC dC ["writes"] spCkW) (bC : Binds K dC ["writes"] []) (kC : PySem.W.keepIn K (.ref gC) = true) (mC : mg "check_writes" = some (.ref gC))
    (Pa : FnOk P w K mg base CX0 1 gP dP ["text", "between"] spParts) (bP : Binds K dP ["text", "between"] []) (kP : PySem.W.keepIn K (.ref gP) = true) (mP : mg "parts_of" = some (.ref gP))
    (O : FnOk P w K mg base CX0 13 gO dO ["thing"] (spIsOrd K T2)) (bO : Binds K dO ["thing"] []) (kO : PySem.W.keepIn K (.ref gO) = true) (mO : mg "is_order" = some (.ref gO)) : FnOk P w K mg base CX0 14 f fd ["text"] (spReadO T T2) := by
  refine fnJ F scReadO (fun vs H Q E h => ?_) (fun cdv A outer s H vs Q E gp hcl hr h => ?_)
  · obtain ⟨ns, rfl, _⟩ := h
    rfl
  obtain ⟨ns, rfl, io, hT, hT2, q⟩ := h
  have hr1 : Room 1 _ := hr.mono (by decide)
  refine ⟨_, jb_cons (js_expr (je_call C hr1 rfl mC kC bC .nil pass0 (jCa (je_callB cr_isStr (by rfl) M.isi (by decide +kernel) (jn (jv 0) (jn (je_ty (n := "str") (by rfl) mstr (by decide +kernel)) ja0))) ja0)))
    (jb_cons (js_set (i := 1) scReadO.nd rfl (Or.inl rfl) (je_call G hr rfl mG kG bG .nil pass0 (jCa (je_call Pa hr1 rfl mP kP bP .nil pass0 (jn (jv 0) (jc je_str ja0))) ja0)))
    (jb_cons (js_expr (je_call C hr1 rfl mC kC bC .nil pass0 (jCa (je_call O hr rfl mO kO bO .nil pass0 (jn (jv 1) ja0)) ja0)))
    (jb_one (js_ret (jv 1))))), ?_⟩
  have sm := ord_small io
  have ln := io.len
  refine ⟨_, rfl, .str (textO ns), .str (textO ns), rfl, .dp (.str _), rfl, ?_⟩
  refine ⟨_, rfl, _, _, rfl, rfl, Nat.le_trans (Nat.add_le_add_right (textO_len (by omega) sm) 2) (by decide), fun wp H1 e1 n1 g1 => ?_⟩
  have ep : partsOf (textO ns) " " = ns.map numS := by
    unfold partsOf
    by_cases z : ns = []
    · subst z
      rw [if_pos (show textO [] = ("none" : Str) from if_pos rfl)]
      rfl
    · rw [if_neg (text_none z fun i hi => (sm i hi).1), split_o z fun i hi => (sm i hi).1]
  rw [ep] at g1
  refine ⟨wp, ns.map numS, rfl, SqL.of g1, by rw [List.length_map]; omega, fun w hw => ?_, e1 _ _ hT, fun op H2 e2 n2 g2 => ?_⟩
  · obtain ⟨i, hi, rfl⟩ := List.mem_map.mp hw
    exact (num_figs (sm i hi).1 (sm i hi).2).1
  rw [vals_num sm] at g2
  have e12 := e1.trans e2
  refine ⟨_, rfl, .ref op, ns, rfl, ⟨op, rfl, SqL.of g2, io⟩, e12 _ _ hT2, fun H3 e3 => ⟨rfl, ?_⟩⟩
  exact ⟨_, rfl, q op H3 (e12.trans e3) (e1.free n2) (e3 _ _ g2)⟩
theorem scReadR : FnScope ["text", "reach"] ["text"] (defScope sReadR) := ⟨rfl, rfl, rfl, by decide +kernel, rfl, by decide +kernel, by decide +kernel⟩
theorem ok_readR {T T2 gC gO : Addr} {dC dO : FuncData} (F : Fun K "read_reach" "read_reach" sReadR f fd) (M : Mg mg) (mstr : mg "str" = none)
    (G : FnOk P w K mg base CX0 13 g gd ["words"] (spReadN K T)) (bG : Binds K gd ["words"] []) (kG : PySem.W.keepIn K (.ref g) = true) (mG : mg "read_numbers" = some (.ref g))
    (C : FnOk P w K mg base CX0 1 gC dC ["writes"] spCkW) (bC : Binds K dC ["writes"] []) (kC : PySem.W.keepIn K (.ref gC) = true) (mC : mg "check_writes" = some (.ref gC))
    (O : FnOk P w K mg base CX0 13 gO dO ["thing"] (spReach K T2)) (bO : Binds K dO ["thing"] []) (kO : PySem.W.keepIn K (.ref gO) = true) (mO : mg "is_reach" = some (.ref gO)) : FnOk P w K mg base CX0 14 f fd ["text"] (spReadR T T2) := by
  refine fnJ F scReadR (fun vs H Q E h => ?_) (fun cdv A outer s H vs Q E gp hcl hr h => ?_)
  · obtain ⟨l, r, rfl, _⟩ := h
    rfl
  obtain ⟨l, r, rfl, l0, l1, r0, r1, hT, hT2, q⟩ := h
  have hr1 : Room 1 _ := hr.mono (by decide)
  refine ⟨_, jb_cons (js_expr (je_call C hr1 rfl mC kC bC .nil pass0 (jCa (je_callB cr_isStr (by rfl) M.isi (by decide +kernel) (jn (jv 0) (jn (je_ty (n := "str") (by rfl) mstr (by decide +kernel)) ja0))) ja0)))
    (jb_cons (js_set (i := 1) scReadR.nd rfl (Or.inl rfl) (je_callTy call_tuple_of (by rfl) M.tuple (by decide +kernel) (jCa (je_call G hr rfl mG kG bG .nil pass0 (jCa (je_m1 PySem.F.slot_str_split PySem.F.type_str_split mt_split (jv 0) je_str) ja0)) ja0)))
    (jb_cons (js_expr (je_call C hr1 rfl mC kC bC .nil pass0 (jCa (je_call O hr rfl mO kO bO .nil pass0 (jn (jv 1) ja0)) ja0)))
    (jb_one (js_ret (jv 1))))), ?_⟩
  refine ⟨_, rfl, .str (textR l r), .str (textR l r), rfl, .dp (.str _), rfl, ?_⟩
  have tl := textR_len (l := l) (r := r) l0 (by omega) r0 (by omega)
  refine ⟨_, rfl, ⟨_, rfl⟩, _, _, rfl, rfl, rfl, Nat.le_trans (Nat.add_le_add_right tl 2) (by decide), fun wp n1 => ?_⟩
  rw [split_r l0 r0]
  have e1 := same_new n1 (.lst ([numS l, numS r].map V.str))
  have g1 := new_at n1 (.lst ([numS l, numS r].map V.str))
  have fl := num_figs l0 (show l < 100 by omega)
  have fr := num_figs r0 (show r < 100 by omega)
  refine ⟨wp, [numS l, numS r], rfl, SqL.of g1, (by show 2 ≤ 1000; decide), fun w hw => ?_, e1 _ _ hT, fun op H2 e2 n2 g2 => ?_⟩
  · rcases List.mem_cons.mp hw with rfl | hw
    · exact fl.1
    · rw [List.mem_singleton.mp hw]; exact fr.1
  have ev : ([numS l, numS r].map valW).map V.int = [.int l, .int r] := by
    show [V.int (valW (numS l)), V.int (valW (numS r))] = _
    rw [fl.2.1, fr.2.1]
  rw [ev] at g2
  have e12 := e1.trans e2
  refine ⟨op, _, rfl, .inl ⟨SqL.of g2, fun tp n3 => ?_⟩⟩
  have e3 := same_new n3 (.tup [.int l, .int r])
  have g3 := new_at n3 (.tup [.int l, .int r])
  have e13 := e12.trans e3
  refine ⟨_, rfl, .ref tp, .tuple [.int l, .int r], rfl, .dp (.tup (SqT.of g3) (.cons (.int l) (.cons (.int r) .nil))), e13 _ _ hT2, ?_⟩
  rw [reach_d l0 l1 r0 r1]
  exact ⟨rfl, _, rfl, q tp _ e13 (e12.free n3) g3⟩
theorem scWell : FnScope ["cell"] ["cell"] (defScope sWell) := ⟨rfl, rfl, rfl, by decide +kernel, rfl, by decide +kernel, by decide +kernel⟩
theorem ok_well (F : Fun K "_law_well" "_law_well" sWell f fd) : FnOk P w K mg base CX0 1 f fd ["cell"] NP.spWell2 := by
  refine fnJ F scWell (fun vs H Q E h => ?_) (fun cdv A outer s H vs Q E gp hcl hr h => ?_)
  · obtain ⟨c, rfl, _⟩ := h
    rfl
  obtain ⟨c, rfl, q⟩ := h
  refine ⟨_, jb_cons (js_if (jt_cmp op_ge (jv 0) (je_op op_pow je_int je_int) (nomark _)) (jb_one (js_ret (je_lst (jn (jv 0) (jBi (je_op op_mod (jv 0) je_int) ja0))))) jb_nil)
    (jb_one (js_ret (je_lst (ji_ (jBi (je_op op_mod (jv 0) je_int) ja0))))), ?_⟩
  refine ⟨_, rfl, _, _, rfl, rfl, ⟨by decide, by decide, by decide⟩, _, _, rfl, rfl, _, rfl, ?_⟩
  refine ite2 (fun c0 => ?_) (fun c0 => ?_)
  · exact ⟨_, rfl, _, rfl, _, _, rfl, rfl, (show (0 : Int) < 2147483629 by decide), (by show 2 ≤ sizeLine; decide), alloc fun p H' e1 e2 e3 => q _ _ p H' e1 e2 e3⟩
  · exact ⟨_, rfl, _, _, rfl, rfl, (show (0 : Int) < 2147483629 by decide), (by show 2 ≤ sizeLine; decide), alloc fun p H' e1 e2 e3 => q _ _ p H' e1 e2 e3⟩
theorem scDraw : FnScope ["well", "many", "got", "stirred"] ["well", "many"] (defScope sDraw) := ⟨rfl, rfl, rfl, by decide +kernel, rfl, by decide +kernel, by decide +kernel⟩
theorem ok_draw (F : Fun K "_law_draw" "_law_draw" sDraw f fd) : FnOk P w K mg base CX0 1 f fd ["well", "many"] NP.spDraw2 := by
  refine fnJ F scDraw (fun vs H Q E h => ?_) (fun cdv A outer s H vs Q E gp hcl hr h => ?_)
  · obtain ⟨p, z, y, m, rfl, _⟩ := h
    rfl
  obtain ⟨p, z, y, m, rfl, hw, m0, m1, q⟩ := h
  refine ⟨_, jb_cons (js_if (jt_cmp op_gt (je_ix ix_list (jv 0) je_int (fun _ _ => rfl)) je_int (nomark _))
      (jb_cons (js_set (i := 2) scDraw.nd rfl (Or.inl rfl) (je_op op_mod (je_ix ix_list (jv 0) je_int (fun _ _ => rfl)) (jv 1)))
      (jb_cons (js_asg (je_op op_fdiv (je_ix ix_list (jv 0) je_int (fun _ _ => rfl)) (jv 1)) (jg_sub (jv 0) je_int set_list))
      (jb_one (js_ret (jv 2))))) jb_nil)
    (jb_cons (js_set (i := 3) scDraw.nd rfl (Or.inl rfl) (je_op op_mod (je_op op_add (je_op op_mul (je_ix ix_list (jv 0) je_int (fun _ _ => rfl)) je_int) je_int) je_int))
    (jb_cons (js_set (i := 3) scDraw.nd rfl (Or.inl rfl) (je_op op_mod (je_op op_mul (jv 3) (jv 3)) je_int))
    (jb_cons (js_asg (je_op op_mod (je_op op_add (je_op op_mul (jv 3) je_int) je_int) je_int) (jg_sub (jv 0) je_int set_list))
    (jb_one (js_ret (je_op op_mod (je_op op_fdiv (je_ix ix_list (jv 0) je_int (fun _ _ => rfl)) je_int) (jv 1))))))), ?_⟩
  have ix : ∀ (a b : V) (i : Nat) (v : V), ([a, b] : List V)[i]? = some v → atI [a, b] ((i : Nat) : Int) = some v := fun a b i v h => atI_nat h
  have two : (2 : Int) ^ 64 = 18446744073709551616 := by decide
  have cm : ∀ (a b : Int), -1000000000000 < b → b < 1000000000000 → CMul a b := fun a b h1 h2 => .inr ⟨by rw [two]; omega, by rw [two]; omega⟩
  refine ⟨_, rfl, p, _, 0, .int z, rfl, rfl, SqL.of hw, ix _ _ 0 _ rfl, _, _, rfl, rfl, _, rfl, ?_⟩
  refine ite2 (fun c0 => ?_) (fun c0 => ?_)
  · refine ⟨_, rfl, p, _, 0, .int z, rfl, rfl, SqL.of hw, ix _ _ 0 _ rfl, _, rfl, _, _, rfl, rfl, m0, ?_⟩
    refine ⟨_, rfl, p, _, 0, .int z, rfl, rfl, SqL.of hw, ix _ _ 0 _ rfl, _, rfl, _, _, rfl, rfl, ⟨m0, m1⟩, _, rfl, p, _, 0, 0, rfl, rfl, hw, rfl, _, rfl, ?_⟩
    have e := emod_range (a := z) m0
    exact q _ _ _ _ e.1 e.2 (fun b o nb h => by rw [upd_ne nb]; exact h) upd_same
  · refine ⟨_, rfl, p, _, 1, .int y, rfl, rfl, SqL.of hw, ix _ _ 1 _ rfl, _, _, rfl, rfl, cm _ _ (by decide) (by decide), _, _, rfl, rfl, _, _, rfl, rfl, (show (0 : Int) < 2147483647 by decide), ?_⟩
    have e1 := emod_range (a := y * 48271 + 11) (show (0 : Int) < 2147483647 by decide)
    refine ⟨_, rfl, _, rfl, _, _, rfl, rfl, cm _ _ (by omega) (by omega), _, _, rfl, rfl, (show (0 : Int) < 2147483587 by decide), ?_⟩
    refine ⟨_, rfl, _, _, rfl, rfl, cm _ _ (by decide) (by decide), _, _, rfl, rfl, _, _, rfl, rfl, (show (0 : Int) < 2147483629 by decide), _, rfl, p, _, 1, 1, rfl, rfl, hw, rfl, ?_⟩
    refine ⟨_, rfl, p, _, 1, _, rfl, rfl, SqL.of upd_same, ix _ _ 1 _ rfl, _, _, rfl, rfl, ⟨by decide, by decide⟩, _, rfl, _, _, rfl, rfl, m0, ?_⟩
    exact q _ _ _ _ (emod_range m0).1 (emod_range m0).2 (fun b o nb h => by rw [upd_ne nb]; exact h) upd_same
end
end K51
set_option Elab.async false
set_option linter.all false
set_option maxRecDepth 100000
namespace K51
open PySem PySem.Spec PyProof.Rows L2 NP NT NV NN
section
variable {P : Program} {w : World} {K : PySem.W.Frag} {mg : Str → Option Value} {base : Heap} {f g : Addr} {fd gd : FuncData}
theorem scIsWish : FnScope ["thing", "most"] ["thing", "most"] (defScope sIsWish) := ⟨rfl, rfl, rfl, by decide +kernel, rfl, by decide +kernel, by decide +kernel⟩
set_option maxHeartbeats 2000000 in
theorem ok_isWish {c T : Addr} {ta tn : Tok} (F : Fun K "is_wish" "is_wish" sIsWish f fd) (hcd : fd.code = .ref c) (hcb : CodeB base mg c T) (M : Mg2 mg) (mstr : mg "str" = none) (mA : mg "AT" = some (.str "at" ta)) (mN : mg "NOT" = some (.str "not" tn))
    (G : FnOk P w K mg base CX0 2 g gd ["thing", "least", "most"] (spBetw K)) (bG : Binds K gd ["thing", "least", "most"] []) (kG : PySem.W.keepIn K (.ref g) = true) (mG : mg "is_whole_between" = some (.ref g)) : FnOkB P w K mg base 12 f fd ["thing", "most"] (spIsWish K T) := by
  refine fnBC F scIsWish hcd (fun vs H Q E h => ?_) (fun A outer s H vs Q E gp hpb hr h => ?_)
  · obtain ⟨a, m, q, rfl, _⟩ := h
    rfl
  obtain ⟨a, m, q, rfl, hS, ok, hT, hq⟩ := h
  have jj : JB (cxOf CX0 P w K mg base ["thing", "most"] "is_wish" (defScope sIsWish) f (.ref c) A outer s H E gp).nox (defBody sIsWish) _ :=
    jb_cons (js_if (jt_w (jw_or (jt_not (jt_val (je_callB cr_isinst (by rfl) M.base.isi (by decide +kernel) (jn (jv 0) (jn (je_ty (n := "tuple") (by rfl) M.base.tuple (by decide +kernel)) ja0))))) (jw_or1 (jt_cmp op_ne (je_callB call_len_seq rfl M.base.len PySem.boot_len (jn (jv 0) ja0)) je_int (nomark _))))) (jb_one (js_ret je_bl)) jb_nil)
    (jb_cons (js_if (jt_w (jw_or (jt_not (jt_val (je_callB cr_isStr (by rfl) M.base.isi (by decide +kernel) (jSu (je_ix ix_tup (jv 0) je_int (fun _ _ => rfl)) (jn (je_ty (n := "str") (by rfl) mstr (by decide +kernel)) ja0))))) (jw_or1 (jt_cmp op_notIn_seq (je_ix ix_tup (jv 0) je_int (fun _ _ => rfl)) (je_tup (jn (je_glob (v := .str "at") rfl mA ⟨ta, rfl⟩) (jn (je_glob (v := .str "not") rfl mN ⟨tn, rfl⟩) ja0))) (by rfl))))) (jb_one (js_ret je_bl)) jb_nil)
    (jb_one (js_ret (je_allN (ts := []) (T := T) (x := "number") (R := fun σ H y b => ∃ l n : Int, σ[1]? = some (some (.int l)) ∧ y = .int n ∧ b = betw 0 l (.int n)) M.base.all (by rfl) hpb rfl hr.depth (je_slice sl_tup (jv 0) (jo_some je_int) jo_none) rfl hcb
      (fun σ H H' y b le h => h)
      (fun σ code C A' E' s2 m2 H y v b hA hd hu qs hn hm rv fv hh => by
        obtain ⟨l, n, s0', rfl, rfl⟩ := hh
        obtain ⟨ul, kl, rl, cl, il⟩ := fv 1 "most" (.int l) rfl s0' (Or.inr (Or.inl rfl)) (Or.inl rfl)
        exact thn (q_call (r := .bl (betw 0 l (.int n))) G (by decide) bG qs.quiet (room_gen hr hA hd hu (by decide)) rfl rfl rfl mG kG (qas_cons (qa_loc rfl rfl hn hm rv) (qas_cons qa_int (qas_cons (qa_free (v := .int l) rfl rfl cl il rl) qas_nil)))
          ⟨.int n, .int n, 0, l, rfl, .dp (.int n), rfl⟩) fun u s3 hq => ⟨hq.1, keeps_t hq.2 qs.bare⟩)))))
  refine ⟨_, jj, ?_⟩
  have nb : ∀ b : Bool, (!inV (V.str (wordS b)) [V.str "at", V.str "not"]) = false := by decide +kernel
  have dq : Th K H (.ref a) (wshD q) := .dp (.tup hS (.cons (.str _) (.cons (.int _) (.cons (.int _) .nil))))
  refine ⟨_, rfl, .ref a, "tuple", wshD q, rfl, dq, .inr (.inr (.inl rfl)), _, rfl, itF rfl ?_⟩
  refine ⟨_, rfl, a, _, rfl, .inr hS, rfl, _, rfl, itF rfl ?_⟩
  refine ⟨_, rfl, a, _, 0, .str (wordS q.1), rfl, rfl, hS, rfl, .str (wordS q.1), .str (wordS q.1), rfl, .dp (.str _), _, rfl, itF rfl ?_⟩
  refine ⟨_, rfl, a, _, 0, .str (wordS q.1), rfl, rfl, hS, rfl, (by show 2 ≤ sizeLine; decide), fun tp n1 => ?_⟩
  have e1 := same_new n1 (.tup [.str "at", .str "not"])
  have g1 := new_at n1 (.tup [.str "at", .str "not"])
  refine ⟨tp, _, rfl, .inr (SqT.of g1), rfl, by decide +kernel, _, rfl, itF (nb q.1) ?_⟩
  have hS1 := le_seqT (le_same e1) hS
  refine ⟨_, rfl, 1, rfl, a, wshV q, rfl, hS1, (by show ¬ (1 = 0 ∧ 3 = 3); decide), fun sp n2 => ?_⟩
  have e2 := same_new n2 (.tup (cutV (wshV q) (some 1) none))
  have g2 := new_at n2 (.tup (cutV (wshV q) (some 1) none))
  have cut : cutV (wshV q) (some 1) none = [.int q.2.1, .int q.2.2] := rfl
  rw [cut] at g2 e2 ⊢
  have e12 := e1.trans e2
  refine ⟨sp, [.int q.2.1, .int q.2.2], [betw 0 m (.int q.2.1), betw 0 m (.int q.2.2)], rfl, .inl (SqT.of g2), e12 _ _ hT, (fun t ht => by cases ht), (fun z => by cases z), rfl, fun i y e => ?_, ?_⟩
  · cases i with
    | zero => cases e; exact ⟨_, rfl, m, q.2.1, rfl, rfl, rfl⟩
    | succ i =>
      cases i with
      | zero => cases e; exact ⟨_, rfl, m, q.2.2, rfl, rfl, rfl⟩
      | succ i => cases e
  · have al : [betw 0 m (.int q.2.1), betw 0 m (.int q.2.2)].all id = true := by
      show ((decide (0 ≤ q.2.1) && decide (q.2.1 ≤ m)) && ((decide (0 ≤ q.2.2) && decide (q.2.2 ≤ m)) && true)) = true
      rw [decide_eq_true ok.t0, decide_eq_true ok.t1, decide_eq_true ok.p0, decide_eq_true ok.p1]
      rfl
    rw [al]
    exact hq _ e12
theorem scIsWishes : FnScope ["thing", "most"] ["thing", "most"] (defScope sIsWishes) := ⟨rfl, rfl, rfl, by decide +kernel, rfl, by decide +kernel, by decide +kernel⟩
set_option maxHeartbeats 2000000 in
theorem ok_isWishes {c T T2 : Addr} {t60 : Tok} (F : Fun K "is_wishes" "is_wishes" sIsWishes f fd) (hcd : fd.code = .ref c) (hcb : CodeB base mg c T) (M : Mg2 mg) (m60 : mg "MOST_WISHES" = some (.int 60 t60))
    (G : FnOkB P w K mg base 12 g gd ["thing", "most"] (spIsWish K T2)) (bG : Binds K gd ["thing", "most"] []) (kG : PySem.W.keepIn K (.ref g) = true) (mG : mg "is_wish" = some (.ref g)) : FnOkB P w K mg base 14 f fd ["thing", "most"] (spIsWishes K T T2) := by
  refine fnBC F scIsWishes hcd (fun vs H Q E h => ?_) (fun A outer s H vs Q E gp hpb hr h => ?_)
  · obtain ⟨a, m, ws, rfl, _⟩ := h
    rfl
  obtain ⟨a, m, ws, rfl, wa, wl, ok, nT, hT, hT2, hq⟩ := h
  have jj : JB (cxOf CX0 P w K mg base ["thing", "most"] "is_wishes" (defScope sIsWishes) f (.ref c) A outer s H E gp).nox (defBody sIsWishes) _ :=
    jb_cons (js_if (jt_w (jw_or (jt_not (jt_val (je_callB cr_isinst (by rfl) M.base.isi (by decide +kernel) (jn (jv 0) (jn (je_ty (n := "list") (by rfl) M.base.list (by decide +kernel)) ja0))))) (jw_or1 (jt_cmp op_gt (je_callB call_len_seq rfl M.base.len PySem.boot_len (jn (jv 0) ja0)) (je_glob (v := .int 60) rfl m60 ⟨t60, rfl⟩) (nomark _))))) (jb_one (js_ret je_bl)) jb_nil)
    (jb_one (js_ret (je_allN (ts := [T2]) (T := T) (x := "wish") (R := fun σ H y b => ∃ (l : Int) (a : Addr) (q : Wsh), σ[1]? = some (some (.int l)) ∧ y = .ref a ∧ SqT K H a (wshV q) ∧ OkW l q ∧ b = true) M.base.all (by rfl) hpb rfl hr.depth (jv 0) rfl hcb
      (fun σ H H' y b le ⟨l, a, q, h1, h2, h3, h4⟩ => ⟨l, a, q, h1, h2, le_seqT le h3, h4⟩)
      (fun σ code C A' E' s2 m2 H y v b hA hd hu qs hn hm rv fv hh => by
        obtain ⟨l, a, q, s0', rfl, hSq, okq, rfl⟩ := hh
        obtain ⟨ul, kl, rl, cl, il⟩ := fv 1 "most" (.int l) rfl s0' (Or.inr (Or.inl rfl)) (Or.inl rfl)
        exact q_callB (r := .bl true) G bG qs (room_gen hr hA hd hu (by decide)) rfl rfl rfl mG kG (qas_cons (qa_loc rfl rfl hn hm rv) (qas_cons (qa_free (v := .int l) rfl rfl cl il rl) qas_nil))
          ⟨a, l, q, rfl, hSq, okq, qs.tb T2 (.head _), fun H' e => ⟨rfl, fun t ht => e _ _ (qs.tb t ht)⟩⟩))))
  refine ⟨_, jj, ?_⟩
  have dw : Th K H (.ref a) (.list (ws.map fun q => wshD q.1)) := by
    refine .lst wa.at_ ?_
    have each := wa.each
    clear wa wl ok
    induction ws with
    | nil => exact .nil
    | cons x ws ih => exact .cons (.dp (.tup (each x (.head _)) (.cons (.str _) (.cons (.int _) (.cons (.int _) .nil))))) (ih fun q hq => each q (.tail _ hq))
  refine ⟨_, rfl, .ref a, "list", _, rfl, dw, .inr (.inr (.inr rfl)), _, rfl, itF rfl ?_⟩
  refine ⟨_, rfl, a, _, rfl, .inl wa.at_, _, _, rfl, rfl, _, rfl, itF (decide_eq_false (by rw [List.length_map]; omega)) ?_⟩
  refine ⟨_, rfl, a, _, ws.map fun _ => true, rfl, .inr wa.at_, hT, (fun t ht => by rw [List.mem_singleton.mp ht]; exact hT2), (fun z => nT (List.mem_singleton.mp z)), by rw [List.length_map, List.length_map], fun i y e => ?_, ?_⟩
  · rw [List.getElem?_map] at e
    obtain ⟨x, ex, rfl⟩ := Option.map_eq_some_iff.mp e
    have hx := List.mem_of_getElem? ex
    exact ⟨true, by rw [List.getElem?_map, ex]; rfl, m, x.2, x.1, rfl, rfl, wa.each x hx, ok x hx, rfl⟩
  · have al : (ws.map fun _ => true).all id = true := by simp
    rw [al]
    exact hq H (Same.refl H)
theorem scCkWishes : FnScope ["wishes", "most"] ["wishes", "most"] (defScope sCkWishes) := ⟨rfl, rfl, rfl, by decide +kernel, rfl, by decide +kernel, by decide +kernel⟩
theorem ok_ckWishes {T T2 : Addr} (F : Fun K "check_wishes" "check_wishes" sCkWishes f fd) (G : FnOk P w K mg base CX0 14 g gd ["thing", "most"] (spIsWishes K T T2)) (bG : Binds K gd ["thing", "most"] []) (kG : PySem.W.keepIn K (.ref g) = true) (mG : mg "is_wishes" = some (.ref g)) : FnOk P w K mg base CX0 15 f fd ["wishes", "most"] (spCkWishes K T T2) := by
  refine fnJ F scCkWishes (fun vs H Q E h => ?_) (fun cdv A outer s H vs Q E gp hcl hr h => ?_)
  · obtain ⟨a, m, ws, rfl, _⟩ := h
    rfl
  obtain ⟨a, m, ws, rfl, wa, wl, ok, nT, hT, hT2, hq⟩ := h
  refine ⟨_, jb_one (js_if (jt_not (jt_val (je_call G hr rfl mG kG bG .nil pass0 (jn (jv 0) (jn (jv 1) ja0))))) jb_never jb_nil), ?_⟩
  exact ⟨_, rfl, _, rfl, a, m, ws, rfl, wa, wl, ok, nT, hT, hT2, fun H' e => ⟨_, rfl, itF rfl (hq H' e)⟩⟩
theorem fmt_num {k : Int} (h0 : 0 ≤ k) (h1 : k < 100) : fmtV (.int k) = some (numS k) := by
  have : k.natAbs < 100 := by omega
  have h2 : k.natAbs.log2 < 1920 := by
    by_cases z : k.natAbs = 0
    · rw [z]; decide
    · exact (Nat.log2_lt z).mpr (Nat.lt_of_lt_of_le this (by decide))
  show (if k.natAbs.log2 < 1920 then some (numS k) else none) = _
  rw [if_pos h2]
theorem scWText : FnScope ["wish", "word", "thing", "place"] ["wish"] (defScope sWText) := ⟨rfl, rfl, rfl, by decide +kernel, rfl, by decide +kernel, by decide +kernel⟩
theorem ok_wText (F : Fun K "wish_text" "wish_text" sWText f fd) : FnOk P w K mg base CX0 1 f fd ["wish"] (spWText K) := by
  refine fnJ F scWText (fun vs H Q E h => ?_) (fun cdv A outer s H vs Q E gp hcl hr h => ?_)
  · obtain ⟨a, q, rfl, _⟩ := h
    rfl
  obtain ⟨a, q, rfl, hS, ok, hq⟩ := h
  refine ⟨_, jb_cons (js_asg (jv 0) (jg_tup rfl (jgs_cons (jg_name (i := 1) scWText.nd rfl (Or.inl rfl)) (jgs_cons (jg_name (i := 2) scWText.nd rfl (Or.inl rfl)) (jgs_cons (jg_name (i := 3) scWText.nd rfl (Or.inl rfl)) jgs_nil)))))
    (jb_one (js_ret (je_f (jf_val (jv 1) (jf_con (jf_val (jv 2) (jf_con (jf_val (jv 3) jf_nil)))))))), ?_⟩
  have t1 := ok.t1
  have p1 := ok.p1
  have h1 := (word_free q.1).2.2
  have h2 := (num_figs ok.t0 (show q.2.1 < 100 by omega)).2.2
  have h3 := (num_figs ok.p0 (show q.2.2 < 100 by omega)).2.2
  have sz : 1000 ≤ sizeLine := by decide
  have e0 : (Str.empty).length = 0 := rfl
  have e1 : (((" " : String) : Str)).length = 1 := rfl
  refine ⟨_, rfl, a, _, rfl, hS, rfl, _, _, rfl, _, _, rfl, _, _, rfl, rfl, ?_⟩
  refine ⟨_, rfl, wordS q.1, rfl, by omega, by rw [strLen_append]; omega, by rw [strLen_append, strLen_append]; omega, ?_⟩
  refine ⟨_, rfl, _, fmt_num ok.t0 (by omega), by omega, by simp only [strLen_append]; omega, by simp only [strLen_append]; omega, ?_⟩
  refine ⟨_, rfl, _, fmt_num ok.p0 (by omega), by omega, by simp only [strLen_append]; omega, by simp only [strLen_append]; omega, ?_⟩
  have e2 : Str.empty ++ wordS q.1 ++ " " ++ numS q.2.1 ++ " " ++ numS q.2.2 = txtW q := TL.ext_tl (by
    unfold txtW
    simp only [TL.tl_append]
    rfl)
  show Q (.str (Str.empty ++ wordS q.1 ++ " " ++ numS q.2.1 ++ " " ++ numS q.2.2)) H
  rw [e2]
  exact hq H (Same.refl H)
theorem scWsText : FnScope ["wishes", "wish"] ["wishes"] (defScope sWsText) := ⟨rfl, rfl, rfl, by decide +kernel, rfl, by decide +kernel, by decide +kernel⟩
set_option maxHeartbeats 1000000 in
theorem ok_wsText {T T2 gN : Addr} {dN : FuncData} {tn t99 : Tok} (F : Fun K "wishes_text" "wishes_text" sWsText f fd) (mn : mg "NOTHING" = some (.str "none" tn)) (m99 : mg "MOST_IN_WISHES" = some (.int 99 t99))
    (G : FnOk P w K mg base CX0 15 g gd ["wishes", "most"] (spCkWishes K T T2)) (bG : Binds K gd ["wishes", "most"] []) (kG : PySem.W.keepIn K (.ref g) = true) (mG : mg "check_wishes" = some (.ref g))
    (N : FnOk P w K mg base CX0 1 gN dN ["wish"] (spWText K)) (bN : Binds K dN ["wish"] []) (kN : PySem.W.keepIn K (.ref gN) = true) (mN : mg "wish_text" = some (.ref gN)) : FnOk P w K mg base CX0 16 f fd ["wishes"] (spWsText K T T2) := by
  refine fnJ F scWsText (fun vs H Q E h => ?_) (fun cdv A outer s H vs Q E gp hcl hr h => ?_)
  · obtain ⟨a, ws, rfl, _⟩ := h
    rfl
  obtain ⟨a, ws, rfl, wa, wl, ok, nT, hT, hT2, hq⟩ := h
  have hr1 : Room 1 _ := hr.mono (by decide)
  have hc15 : L2.Cl 15 gp := L2.Cl.mono hcl (by decide)
  have hc1 : L2.Cl 1 gp := L2.Cl.mono hcl (by decide)
  refine ⟨_, jb_cons (js_expr (je_call G hr rfl mG kG bG .nil pass0 (jn (jv 0) (jn (je_glob (v := .int 99) rfl m99 ⟨t99, rfl⟩) ja0))))
    (jb_one (js_ret (je_if (NT.jt_truth (jv 0)) (je_m1 PySem.F.slot_str_join PySem.F.type_str_join mt_join je_str (je_lc (own := [("wish", 1)]) (g := gName 1) rfl scWsText.nd (ji_list (jv 0)) (blkOk_by (own := [("wish", 1)]) (N := ["wishes", "wish"]) (sc := defScope sWsText) (by decide +kernel))
      (fun _ _ _ _ _ => jg_name (i := 1) scWsText.nd rfl (Or.inl rfl)) (fun _ _ _ _ _ => jts_nil) (fun _ _ _ _ _ => je_call N hr1 rfl mN kN bN .nil pass0 (jn (jv 1) ja0)))) (je_glob (v := .str "none") rfl mn ⟨tn, rfl⟩)))), ?_⟩
  refine ⟨_, rfl, a, 99, ws, rfl, wa, wl, ok, nT, hT, hT2, fun H1 e1 => ?_⟩
  have wa1 := wa.same e1
  refine ⟨_, rfl, !(ws.map fun q => V.ref q.2).isEmpty, .inl ⟨_, wa1.at_, rfl⟩, ?_⟩
  by_cases z : ws = []
  · subst z
    exact itF rfl (hq _ e1)
  · refine itT (by cases ws with | nil => exact absurd rfl z | cons => rfl) ?_
    refine ⟨⟨_, rfl⟩, _, rfl, a, rfl, ⟨_, wa1.at_⟩, fun D nD => ?_⟩
    refine lc_list (K := K) (a := a) (xs := ws.map fun q => V.ref q.2) (fun i H' => Same H1 H' ∧ H' D = some (.lst (((ws.take i).map fun q => txtW q.1).map V.str))) ⟨same_new nD _, upd_same⟩ (fun i H' _ ⟨s, _⟩ => s.seq wa1.at_) ?_ ?_
    · rintro i x H2 hx ⟨s2, g2⟩
      rw [List.getElem?_map] at hx
      obtain ⟨q, hq1, rfl⟩ := Option.map_eq_some_iff.mp hx
      have hm := List.mem_of_getElem? hq1
      refine ⟨rfl, _, rfl, q.2, q.1, rfl, (wa1.same s2).each q hm, ok q hm, fun H3 e3 => ?_⟩
      refine ⟨_, e3 _ _ g2, ?_, fun b o h => ?_, ?_⟩
      · rw [List.length_map, List.length_map, List.length_take]
        exact Nat.lt_of_le_of_lt (show min i ws.length ≤ 1000 by omega) (by decide)
      · rw [upd_ne (ne_of_none h nD)]
        exact e3 _ _ (s2 _ _ h)
      · rw [upd_same, List.take_add_one, hq1, List.map_append, List.map_append]
        rfl
    · rintro H2 ⟨s2, g2⟩
      rw [List.length_map, List.take_length] at g2
      have hj : SqL K H2 D ((ws.map fun q => txtW q.1).map V.str) := SqL.of g2
      have hsum : ((ws.map (fun q => txtW q.1)).map (·.length)).sum + (ws.map (fun q => txtW q.1)).length * ((("; " : String) : Str)).length ≤ 16777216 := by
        have : ((ws.map (fun q => txtW q.1)).map (·.length)).sum ≤ 9 * (ws.map (fun q => txtW q.1)).length := join_len fun y hy => by
          obtain ⟨q, hq, rfl⟩ := List.mem_map.mp hy
          exact txtW_len (ok q hq)
        have e1 : ((("; " : String) : Str)).length = 2 := rfl
        have sz : 1000 ≤ sizeLine := by decide
        rw [List.length_map] at this ⊢
        rw [e1]
        omega
      have hfin : Q (.str (Txt.join "; " (ws.map (fun q => txtW q.1)))) H2 := by
        have := hq _ (e1.trans s2)
        unfold txtWs at this
        rw [if_neg (fun h => z (List.map_eq_nil_iff.mp h)), List.map_map] at this
        exact this
      generalize ws.map (fun q => txtW q.1) = xs at hj hsum hfin
      generalize H2 = H3 at hj hfin ⊢
      exact ⟨_, D, xs, rfl, rfl, .inl hj, hsum, hfin⟩
theorem scReadW : FnScope ["text", "word", "numbers"] ["text"] (defScope sReadW) := ⟨rfl, rfl, rfl, by decide +kernel, rfl, by decide +kernel, by decide +kernel⟩
set_option maxHeartbeats 1000000 in
theorem ok_readW {T3 : Addr} (F : Fun K "read_as_wish" "read_as_wish" sReadW f fd) (M : Mg2 mg)
    (G : FnOk P w K mg base CX0 13 g gd ["words"] (spReadN K T3)) (bG : Binds K gd ["words"] []) (kG : PySem.W.keepIn K (.ref g) = true) (mG : mg "read_numbers" = some (.ref g)) : FnOk P w K mg base CX0 14 f fd ["text"] (spReadW T3) := by
  refine fnJ F scReadW (fun vs H Q E h => ?_) (fun cdv A outer s H vs Q E gp hcl hr h => ?_)
  · obtain ⟨q, rfl, _⟩ := h
    rfl
  obtain ⟨q, rfl, ok, hT, hq⟩ := h
  refine ⟨_, jb_cons (js_asg (je_m1 PySem.F.slot_str_split PySem.F.type_str_split mt_split (jv 0) je_str) (jg_star rfl (jgs_cons (jg_name (i := 1) scReadW.nd rfl (Or.inl rfl)) (jgs_cons (jg_name (i := 2) scReadW.nd rfl (Or.inl rfl)) jgs_nil))))
    (jb_one (js_ret (je_op op_catT (je_tup (jn (jv 1) ja0)) (je_callTy call_tuple_of (by rfl) M.base.tuple (by decide +kernel) (jCa (je_call G hr rfl mG kG bG .nil pass0 (jn (jv 2) ja0)) ja0))))), ?_⟩
  refine ⟨_, rfl, ⟨_, rfl⟩, _, _, rfl, rfl, rfl, Nat.le_trans (Nat.add_le_add_right (txtW_len ok) 2) (by decide), fun wp n1 => ?_⟩
  rw [split_w ok]
  have e1 := same_new n1 (.lst ([wordS q.1, numS q.2.1, numS q.2.2].map V.str))
  have g1 := new_at n1 (.lst ([wordS q.1, numS q.2.1, numS q.2.2].map V.str))
  refine ⟨wp, .str (wordS q.1), [.str (numS q.2.1), .str (numS q.2.2)], rfl, SqL.of g1, fun D nD => ?_⟩
  have e2 := same_new nD (.lst [.str (numS q.2.1), .str (numS q.2.2)])
  have g2 := new_at nD (.lst [.str (numS q.2.1), .str (numS q.2.2)])
  have e12 := e1.trans e2
  refine ⟨_, _, rfl, _, _, rfl, rfl, ?_⟩
  refine ⟨_, rfl, (by show 1 ≤ sizeLine; decide), fun tp n3 => ?_⟩
  have e3 := same_new n3 (.tup [.str (wordS q.1)])
  have g3 := new_at n3 (.tup [.str (wordS q.1)])
  have e13 := e12.trans e3
  have f1 := num_figs ok.t0 (show q.2.1 < 100 by have := ok.t1; omega)
  have f2 := num_figs ok.p0 (show q.2.2 < 100 by have := ok.p1; omega)
  refine ⟨_, rfl, D, [numS q.2.1, numS q.2.2], rfl, SqL.of (e3 _ _ g2), (by show 2 ≤ 1000; decide), fun x hx => ?_, e13 _ _ hT, fun op H4 e4 n4 g4 => ?_⟩
  · rcases List.mem_cons.mp hx with rfl | hx
    · exact f1.1
    · rw [List.mem_singleton.mp hx]; exact f2.1
  have ev : ([numS q.2.1, numS q.2.2].map valW).map V.int = [.int q.2.1, .int q.2.2] := by
    show [V.int (valW (numS q.2.1)), V.int (valW (numS q.2.2))] = _
    rw [f1.2.1, f2.2.1]
  rw [ev] at g4
  refine ⟨op, _, rfl, .inl ⟨SqL.of g4, fun np n5 => ?_⟩⟩
  have e5 := same_new n5 (.tup [.int q.2.1, .int q.2.2])
  have g5 := new_at n5 (.tup [.int q.2.1, .int q.2.2])
  have e15 := (e13.trans e4).trans e5
  refine ⟨tp, np, _, _, rfl, rfl, SqT.of ((e4.trans e5) _ _ g3), SqT.of g5, ?_⟩
  refine ⟨(by simp), (by show 3 ≤ sizeLine; decide), (fun h => by cases h), fun _ p np => ?_⟩
  exact hq p _ (e15.trans (same_new np _)) (e15.free np) (new_at np _)
theorem scReadWs : FnScope ["text", "wishes", "part"] ["text"] (defScope sReadWs) := ⟨rfl, rfl, rfl, by decide +kernel, rfl, by decide +kernel, by decide +kernel⟩
set_option maxHeartbeats 1000000 in
theorem ok_readWs {T T2 T3 gC gP gO : Addr} {dC dP dO : FuncData} {t99 : Tok} (F : Fun K "read_wishes" "read_wishes" sReadWs f fd) (M : Mg2 mg) (mstr : mg "str" = none) (m99 : mg "MOST_IN_WISHES" = some (.int 99 t99))
    (G : FnOk P w K mg base CX0 14 g gd ["text"] (spReadW T3)) (bG : Binds K gd ["text"] []) (kG : PySem.W.keepIn K (.ref g) = true) (mG : mg "read_as_wish" = some (.ref g))
    (C : FnOk P w K mg base CX0 1 gC dC ["writes"] spCkW) (bC : Binds K dC ["writes"] []) (kC : PySem.W.keepIn K (.ref gC) = true) (mC : mg "check_writes" = some (.ref gC))
    (Pa : FnOk P w K mg base CX0 1 gP dP ["text", "between"] spParts) (bP : Binds K dP ["text", "between"] []) (kP : PySem.W.keepIn K (.ref gP) = true) (mP : mg "parts_of" = some (.ref gP))
    (O : FnOk P w K mg base CX0 14 gO dO ["thing", "most"] (spIsWishes K T T2)) (bO : Binds K dO ["thing", "most"] []) (kO : PySem.W.keepIn K (.ref gO) = true) (mO : mg "is_wishes" = some (.ref gO)) : FnOk P w K mg base CX0 15 f fd ["text"] (spReadWs T T2 T3) := by
  refine fnJ F scReadWs (fun vs H Q E h => ?_) (fun cdv A outer s H vs Q E gp hcl hr h => ?_)
  · obtain ⟨qs, rfl, _⟩ := h
    rfl
  obtain ⟨qs, rfl, hn, ok, nT, hT, hT2, hT3, q⟩ := h
  have hr1 : Room 1 _ := hr.mono (by decide)
  refine ⟨_, jb_cons (js_expr (je_call C hr1 rfl mC kC bC .nil pass0 (jCa (je_callB cr_isStr (by rfl) M.base.isi (by decide +kernel) (jn (jv 0) (jn (je_ty (n := "str") (by rfl) mstr (by decide +kernel)) ja0))) ja0)))
    (jb_cons (js_setLc (i := 1) (own := [("part", 2)]) (g := gName 2) rfl scReadWs.nd rfl rfl (sw_true rfl rfl rfl (by decide +kernel)) (ji_list (je_call Pa hr1 rfl mP kP bP .nil pass0 (jn (jv 0) (jc je_str ja0)))) (blkOk_by (own := [("part", 2)]) (N := ["text", "wishes", "part"]) (sc := defScope sReadWs) (by decide +kernel))
      (fun _ _ _ _ _ => jg_name (i := 2) scReadWs.nd rfl (Or.inl rfl)) (fun _ _ _ _ _ => jts_nil) (fun _ _ _ _ _ => je_call G hr rfl mG kG bG .nil pass0 (jn (jv 2) ja0)))
    (jb_cons (js_expr (je_call C hr1 rfl mC kC bC .nil pass0 (jCa (je_call O hr rfl mO kO bO .nil pass0 (jn (jv 1) (jn (je_glob (v := .int 99) rfl m99 ⟨t99, rfl⟩) ja0))) ja0)))
    (jb_one (js_ret (jv 1))))), ?_⟩
  refine ⟨_, rfl, .str (txtWs qs), .str (txtWs qs), rfl, .dp (.str _), rfl, ?_⟩
  refine ⟨_, rfl, _, _, rfl, rfl, Nat.le_trans (Nat.add_le_add_right (ws_len hn ok) 2) (by decide), fun wp H1 e1 n1 g1 => ?_⟩
  rw [parts_ws ok] at g1
  refine ⟨wp, rfl, ⟨_, SqL.of g1⟩, fun D nD => ?_⟩
  have nD0 : H D = none := e1.free nD
  refine lc_list (K := K) (a := wp) (xs := (qs.map txtW).map V.str) (fun i H' => ∃ ws : List (Wsh × Addr), Same H1 H' ∧ ws.map (·.1) = qs.take i ∧ ws.length = i ∧ H' D = some (.lst (ws.map fun q => V.ref q.2)) ∧ ∀ q ∈ ws, H' q.2 = some (.tup (wshV q.1)) ∧ q.2 ≠ D ∧ H1 q.2 = none)
    ⟨[], same_new nD _, rfl, rfl, upd_same, fun q hq => nomatch hq⟩ (fun i H' _ ⟨_, s, _⟩ => s.seq (SqL.of g1)) ?_ ?_
  · rintro i x H2 hx ⟨ws, s2, ew, lw, gD, hw⟩
    rw [List.map_map, List.getElem?_map] at hx
    obtain ⟨y, hy, rfl⟩ := Option.map_eq_some_iff.mp hx
    have il : i < qs.length := (List.getElem?_eq_some_iff.mp hy).1
    refine ⟨rfl, _, rfl, y, rfl, ok y (List.mem_of_getElem? hy), (e1.trans s2) _ _ hT3, fun p H3 e3 np gp => ?_⟩
    refine ⟨_, e3 _ _ gD, ?_, ws ++ [(y, p)], fun b o h => ?_, ?_, ?_, ?_, fun z hz => ?_⟩
    · rw [List.length_map, lw]
      exact Nat.lt_of_lt_of_le il (Nat.le_trans hn (by decide))
    · rw [upd_ne (ne_of_none h nD)]
      exact e3 _ _ (s2 _ _ h)
    · rw [List.map_append, ew, List.take_add_one, hy]
      rfl
    · rw [List.length_append, lw]
      rfl
    · rw [upd_same, List.map_append]
      rfl
    · have pD : p ≠ D := fun e => by rw [e, gD] at np; cases np
      rcases List.mem_append.mp hz with hz | hz
      · obtain ⟨h1, h2, h3⟩ := hw z hz
        rw [upd_ne h2]
        exact ⟨e3 _ _ h1, h2, h3⟩
      · rw [List.mem_singleton.mp hz]
        show upd H3 D _ p = _ ∧ p ≠ D ∧ H1 p = none
        rw [upd_ne pD]
        exact ⟨gp, pD, s2.free np⟩
  · rintro H2 ⟨ws, s2, ew, lw, gD, hw⟩
    rw [List.length_map, List.length_map] at lw ew
    rw [List.take_length] at ew
    have s12 := e1.trans s2
    have wa : WsAt K H2 D ws := ⟨SqL.of gD, fun z hz => SqT.of (hw z hz).1⟩
    have ok2 : ∀ z ∈ ws, OkW 99 z.1 := fun z hz => ok z.1 (by rw [← ew]; exact List.mem_map_of_mem hz)
    refine ⟨_, rfl, D, 99, ws, rfl, wa, by omega, ok2, nT, s12 _ _ hT, s12 _ _ hT2, fun H3 e3 => ⟨rfl, ?_⟩⟩
    exact ⟨_, rfl, q D ws H3 ⟨s12.trans e3, nD0, e3 _ _ gD, fun z hz => ⟨e3 _ _ (hw z hz).1, (hw z hz).2.1, e1.free (hw z hz).2.2⟩⟩ ew⟩
theorem scLWs : FnScope ["well", "most", "found", "k", "one", "other", "j"] ["well", "most"] (defScope sLWs) := ⟨rfl, rfl, rfl, by decide +kernel, rfl, by decide +kernel, by decide +kernel⟩
set_option maxHeartbeats 2000000 in
theorem ok_isWishX {c T : Addr} {ta tn : Tok} (F : Fun K "is_wish" "is_wish" sIsWish f fd) (hcd : fd.code = .ref c) (hcb : CodeB base mg c T) (M : Mg2 mg) (mstr : mg "str" = none) (mA : mg "AT" = some (.str "at" ta)) (mN : mg "NOT" = some (.str "not" tn))
    (G : FnOk P w K mg base CX0 2 g gd ["thing", "least", "most"] (spBetw K)) (bG : Binds K gd ["thing", "least", "most"] []) (kG : PySem.W.keepIn K (.ref g) = true) (mG : mg "is_whole_between" = some (.ref g)) : FnOkB P w K mg base 12 f fd ["thing", "most"] (spIsWishX K T) := by
  refine fnBC F scIsWish hcd (fun vs H Q E h => ?_) (fun A outer s H vs Q E gp hpb hr h => ?_)
  · obtain ⟨v, m, d, rfl, _⟩ := h
    rfl
  obtain ⟨v, m, d, rfl, ht, hT, hq⟩ := h
  have jj : JB (cxOf CX0 P w K mg base ["thing", "most"] "is_wish" (defScope sIsWish) f (.ref c) A outer s H E gp).nox (defBody sIsWish) _ :=
    jb_cons (js_if (jt_w (jw_or (jt_not (jt_val (je_callB cr_isinst (by rfl) M.base.isi (by decide +kernel) (jn (jv 0) (jn (je_ty (n := "tuple") (by rfl) M.base.tuple (by decide +kernel)) ja0))))) (jw_or1 (jt_cmp op_ne (je_callB call_len_seq rfl M.base.len PySem.boot_len (jn (jv 0) ja0)) je_int (nomark _))))) (jb_one (js_ret je_bl)) jb_nil)
    (jb_cons (js_if (jt_w (jw_or (jt_not (jt_val (je_callB cr_isStr (by rfl) M.base.isi (by decide +kernel) (jSu (je_ix ix_tup (jv 0) je_int (fun _ _ => rfl)) (jn (je_ty (n := "str") (by rfl) mstr (by decide +kernel)) ja0))))) (jw_or1 (jt_cmp op_notIn_seq (je_ix ix_tup (jv 0) je_int (fun _ _ => rfl)) (je_tup (jn (je_glob (v := .str "at") rfl mA ⟨ta, rfl⟩) (jn (je_glob (v := .str "not") rfl mN ⟨tn, rfl⟩) ja0))) (by rfl))))) (jb_one (js_ret je_bl)) jb_nil)
    (jb_one (js_ret (je_allN (ts := []) (T := T) (x := "number") (R := fun σ H y b => ∃ (l : Int) (d : PyData), σ[1]? = some (some (.int l)) ∧ Th K H y d ∧ b = betw 0 l d) M.base.all (by rfl) hpb rfl hr.depth (je_slice sl_tup (jv 0) (jo_some je_int) jo_none) rfl hcb
      (fun σ H H' y b le ⟨l, d, h1, h2, h3⟩ => ⟨l, d, h1, th_le le h2, h3⟩)
      (fun σ code C A' E' s2 m2 H y v b hA hd hu qs hn hm rv fv hh => by
        obtain ⟨l, d, s0', hd', rfl⟩ := hh
        obtain ⟨ul, kl, rl, cl, il⟩ := fv 1 "most" (.int l) rfl s0' (Or.inr (Or.inl rfl)) (Or.inl rfl)
        exact thn (q_call (r := .bl (betw 0 l d)) G (by decide) bG qs.quiet (room_gen hr hA hd hu (by decide)) rfl rfl rfl mG kG (qas_cons (qa_loc rfl rfl hn hm rv) (qas_cons qa_int (qas_cons (qa_free (v := .int l) rfl rfl cl il rl) qas_nil)))
          ⟨y, d, 0, l, rfl, hd', rfl⟩) fun u s3 hq => ⟨hq.1, keeps_t hq.2 qs.bare⟩)))))
  refine ⟨_, jj, ?_⟩
  refine ⟨_, rfl, v, "tuple", d, rfl, ht, .inr (.inr (.inl rfl)), _, rfl, ?_⟩
  have h0 : wishDt m d = false → Q (.bl false) H := fun e => by
    have := hq H (Same.refl H)
    rw [e] at this
    exact this
  cases d with
  | int i => exact itT rfl (itT rfl (h0 rfl))
  | bool b => exact itT rfl (itT rfl (h0 rfl))
  | none => exact itT rfl (itT rfl (h0 rfl))
  | str y => exact itT rfl (itT rfl (h0 rfl))
  | list ds => exact itT rfl (itT rfl (h0 rfl))
  | dict kvs => exact itT rfl (itT rfl (h0 rfl))
  | tuple ds =>
    obtain ⟨a, xs, rfl, hS, hD⟩ := th_tup ht
    refine itF rfl ⟨_, rfl, a, xs, rfl, .inr hS, rfl, _, rfl, ?_⟩
    have hl := NP.tha_len hD
    by_cases l3 : ds.length = 3
    · obtain ⟨d0, d1, d2, rfl⟩ : ∃ d0 d1 d2, ds = [d0, d1, d2] := by
        match ds, l3 with
        | [d0, d1, d2], _ => exact ⟨d0, d1, d2, rfl⟩
      obtain ⟨v0, v1, v2, rfl⟩ : ∃ v0 v1 v2, xs = [v0, v1, v2] := by
        match xs, hl with
        | [v0, v1, v2], _ => exact ⟨v0, v1, v2, rfl⟩
      obtain ⟨_, e0, t0⟩ := NP.tha_get (i := 0) hD rfl
      obtain ⟨_, e1, t1⟩ := NP.tha_get (i := 1) hD rfl
      obtain ⟨_, e2, t2⟩ := NP.tha_get (i := 2) hD rfl
      cases e0
      cases e1
      cases e2
      refine itF rfl ?_
      refine ⟨_, rfl, a, _, 0, v0, rfl, rfl, hS, atI_nat (j := 0) rfl, v0, d0, rfl, t0, _, rfl, ?_⟩
      rcases tyD_str t0 with ⟨x, rfl, rfl⟩ | ⟨n0, w0⟩
      · refine itF rfl ?_
        refine ⟨_, rfl, a, _, 0, .str x, rfl, rfl, hS, atI_nat (j := 0) rfl, (by show 2 ≤ sizeLine; decide), fun tp n1 => ?_⟩
        have s1 := same_new n1 (.tup [.str "at", .str "not"])
        have g1 := new_at n1 (.tup [.str "at", .str "not"])
        have S1 := le_seqT (le_same s1) hS
        have t1' := th_same s1 t1
        have t2' := th_same s1 t2
        have hT' := s1 _ _ hT
        have hq1 := fun H' e => hq H' (s1.trans e)
        generalize upd H tp (.tup [.str "at", .str "not"]) = H1 at *
        refine ⟨tp, [.str "at", .str "not"], rfl, .inr (SqT.of g1), rfl, by decide +kernel, _, rfl, ?_⟩
        have iv : inV (V.str x) [V.str "at", V.str "not"] = wordD (.str x) := inV2 x "at" "not"
        cases c0 : wordD (.str x) with
        | false =>
          have h1 : wishDt m (.tuple [.str x, d1, d2]) = false := by
            show (wordD (.str x) && _) = false
            rw [c0, Bool.false_and]
          have := hq1 H1 (Same.refl H1)
          rw [h1] at this
          exact itT (by show (!inV (V.str x) [V.str "at", V.str "not"]) = true; rw [iv, c0]; rfl) this
        | true =>
          refine itF (by show (!inV (V.str x) [V.str "at", V.str "not"]) = false; rw [iv, c0]; rfl) ?_
          refine ⟨_, rfl, 1, rfl, a, _, rfl, S1, (show ¬ ((1 : Nat) = 0 ∧ 3 = 3) by decide), fun sp n2 => ?_⟩
          have cut : cutV [V.str x, v1, v2] (some 1) none = [v1, v2] := rfl
          rw [cut]
          have s2 := same_new n2 (.tup [v1, v2])
          have g2 := new_at n2 (.tup [v1, v2])
          have q1 := th_same s2 t1'
          have q2 := th_same s2 t2'
          refine ⟨sp, [v1, v2], [betw 0 m d1, betw 0 m d2], rfl, .inl (SqT.of g2), s2 _ _ hT', (fun t ht => by cases ht), (fun z => by cases z), rfl, fun i y e => ?_, ?_⟩
          · cases i with
            | zero => cases e; exact ⟨_, rfl, m, d1, rfl, q1, rfl⟩
            | succ i =>
              cases i with
              | zero => cases e; exact ⟨_, rfl, m, d2, rfl, q2, rfl⟩
              | succ i => cases e
          · have := hq1 _ s2
            have e : wishDt m (.tuple [.str x, d1, d2]) = [betw 0 m d1, betw 0 m d2].all id := by
              show (wordD (.str x) && (betw 0 m d1 && betw 0 m d2)) = (betw 0 m d1 && (betw 0 m d2 && true))
              rw [c0, Bool.true_and, Bool.and_true]
            rw [e] at this
            exact this
      · refine itT (by rw [n0]; rfl) (itT rfl (h0 ?_))
        show (wordD d0 && _) = false
        rw [w0, Bool.false_and]
    · refine itT ?_ (h0 ?_)
      · rw [decide_eq_false]
        · rfl
        · intro z
          injection z with z
          exact l3 (by omega)
      · match ds, l3 with
        | [], _ => rfl
        | [_], _ => rfl
        | [_, _], _ => rfl
        | [_, _, _], l3 => exact absurd rfl l3
        | _ :: _ :: _ :: _ :: _, _ => rfl
set_option maxHeartbeats 2000000 in
theorem ok_isWishesX {c T T2 : Addr} {t60 : Tok} (F : Fun K "is_wishes" "is_wishes" sIsWishes f fd) (hcd : fd.code = .ref c) (hcb : CodeB base mg c T) (M : Mg2 mg) (m60 : mg "MOST_WISHES" = some (.int 60 t60))
    (G : FnOkB P w K mg base 12 g gd ["thing", "most"] (spIsWishX K T2)) (bG : Binds K gd ["thing", "most"] []) (kG : PySem.W.keepIn K (.ref g) = true) (mG : mg "is_wish" = some (.ref g)) : FnOkB P w K mg base 14 f fd ["thing", "most"] (spIsWishesX K T T2) := by
  refine fnBC F scIsWishes hcd (fun vs H Q E h => ?_) (fun A outer s H vs Q E gp hpb hr h => ?_)
  · obtain ⟨v, m, d, rfl, _⟩ := h
    rfl
  obtain ⟨v, m, d, rfl, ht, nT, hT, hT2, hq⟩ := h
  have jj : JB (cxOf CX0 P w K mg base ["thing", "most"] "is_wishes" (defScope sIsWishes) f (.ref c) A outer s H E gp).nox (defBody sIsWishes) _ :=
    jb_cons (js_if (jt_w (jw_or (jt_not (jt_val (je_callB cr_isinst (by rfl) M.base.isi (by decide +kernel) (jn (jv 0) (jn (je_ty (n := "list") (by rfl) M.base.list (by decide +kernel)) ja0))))) (jw_or1 (jt_cmp op_gt (je_callB call_len_seq rfl M.base.len PySem.boot_len (jn (jv 0) ja0)) (je_glob (v := .int 60) rfl m60 ⟨t60, rfl⟩) (nomark _))))) (jb_one (js_ret je_bl)) jb_nil)
    (jb_one (js_ret (je_allN (ts := [T2]) (T := T) (x := "wish") (R := fun σ H y b => ∃ (l : Int) (d : PyData), σ[1]? = some (some (.int l)) ∧ Th K H y d ∧ b = wishDt l d) M.base.all (by rfl) hpb rfl hr.depth (jv 0) rfl hcb
      (fun σ H H' y b le ⟨l, d, h1, h2, h3⟩ => ⟨l, d, h1, th_le le h2, h3⟩)
      (fun σ code C A' E' s2 m2 H y v b hA hd hu qs hn hm rv fv hh => by
        obtain ⟨l, d, s0', hd', rfl⟩ := hh
        obtain ⟨ul, kl, rl, cl, il⟩ := fv 1 "most" (.int l) rfl s0' (Or.inr (Or.inl rfl)) (Or.inl rfl)
        exact q_callB (r := .bl (wishDt l d)) G bG qs (room_gen hr hA hd hu (by decide)) rfl rfl rfl mG kG (qas_cons (qa_loc rfl rfl hn hm rv) (qas_cons (qa_free (v := .int l) rfl rfl cl il rl) qas_nil))
          ⟨y, l, d, rfl, hd', qs.tb T2 (.head _), fun H' e => ⟨rfl, fun t ht => e _ _ (qs.tb t ht)⟩⟩))))
  refine ⟨_, jj, ?_⟩
  refine ⟨_, rfl, v, "list", d, rfl, ht, .inr (.inr (.inr rfl)), _, rfl, ?_⟩
  have h0 : wishesDt m d = false → Q (.bl false) H := fun e => by
    have := hq H (Same.refl H)
    rw [e] at this
    exact this
  cases d with
  | int i => exact itT rfl (itT rfl (h0 rfl))
  | bool b => exact itT rfl (itT rfl (h0 rfl))
  | none => exact itT rfl (itT rfl (h0 rfl))
  | str y => exact itT rfl (itT rfl (h0 rfl))
  | tuple ds => exact itT rfl (itT rfl (h0 rfl))
  | dict kvs => exact itT rfl (itT rfl (h0 rfl))
  | list ds =>
    obtain ⟨a, xs, rfl, hS, hD⟩ := th_lst ht
    have hl := NP.tha_len hD
    refine itF rfl ⟨_, rfl, a, xs, rfl, .inl hS, _, _, rfl, rfl, _, rfl, ?_⟩
    by_cases l60 : ds.length ≤ 60
    · refine itF (decide_eq_false (by rw [hl]; omega)) ?_
      refine ⟨_, rfl, a, xs, ds.map (wishDt m), rfl, .inr hS, hT, (fun t ht => by rw [List.mem_singleton.mp ht]; exact hT2), (fun z => nT (List.mem_singleton.mp z)), by rw [List.length_map, hl], fun i y e => ?_, ?_⟩
      · obtain ⟨d, e1, e2⟩ := NP.tha_get hD e
        exact ⟨wishDt m d, by rw [List.getElem?_map, e1]; rfl, m, d, rfl, e2, rfl⟩
      · have := hq H (Same.refl H)
        have e : wishesDt m (.list ds) = (ds.map (wishDt m)).all id := by
          show (decide (ds.length ≤ 60) && ds.all (wishDt m)) = _
          rw [decide_eq_true l60, Bool.true_and, List.all_map]
          rfl
        rw [e] at this
        exact this
    · refine itT (decide_eq_true (by rw [hl]; omega)) (h0 ?_)
      show (decide (ds.length ≤ 60) && _) = false
      rw [decide_eq_false l60, Bool.false_and]
end
end K51
set_option Elab.async false
set_option linter.all false
set_option maxRecDepth 100000
namespace NV
open PySem PySem.Spec PyProof.Rows L2 NP NT
def spWishesN (K : PySem.W.Frag) : Sp := fun vs H Q _ => ∃ (p : Addr) (mo z y : Int), vs = [.ref p, .int mo] ∧ 0 ≤ mo ∧ mo ≤ 60 ∧ H p = some (.lst [.int z, .int y]) ∧
  ∀ (ws : List (Wsh × Addr)) (a : Addr) (z' y' : Int) (H' : Hp), (ws.length : Int) ≤ max mo 3 → (∀ q ∈ ws, OkW 99 q.1) → SameBut p H H' → H' p = some (.lst [.int z', .int y']) → H a = none → H' a = some (.lst (ws.map fun q => V.ref q.2)) → (∀ q ∈ ws, H' q.2 = some (.tup (wshV q.1)) ∧ H q.2 = none ∧ q.2 ≠ a) → Q (.ref a) H'
end NV
namespace K51
open PySem PySem.Spec PyProof.Rows L2 NP NT NV NN
section
variable {P : Program} {w : World} {K : PySem.W.Frag} {mg : Str → Option Value} {base : Heap} {f g : Addr} {fd gd : FuncData}
set_option maxHeartbeats 4000000 in
theorem ok_lws (F : Fun K "_law_wishes" "_law_wishes" sLWs f fd) (M : Mg mg) (G : FnOk P w K mg base CX0 1 g gd ["well", "many"] NP.spDraw2) (bG : Binds K gd ["well", "many"] []) (kG : PySem.W.keepIn K (.ref g) = true) (mG : mg "_law_draw" = some (.ref g)) :
    FnOk P w K mg base CX0 2 f fd ["well", "most"] (spWishesN K) := by
  refine fnJ F scLWs (fun vs H Q E h => ?_) (fun cdv A outer s H vs Q E gp hcl hr h => ?_)
  · obtain ⟨p, mo, z, y, rfl, _⟩ := h
    rfl
  obtain ⟨p, mo, z, y, rfl, m0, m1, hz, q⟩ := h
  refine ⟨_, jb_cons (js_set (i := 2) scLWs.nd rfl (Or.inl rfl) (je_lst ja0))
    (jb_cons (js_for PassesOwn.never rfl (ji_range1 rfl M.range (jSu (je_ix ix_list (je_lst (jCa (je_call G hr rfl mG kG bG .nil pass0 (jn (jv 0) (ji_ ja0))) (jCa (je_call G hr rfl mG kG bG .nil pass0 (jn (jv 0) (jBi (je_op op_add (jv 1) je_int) ja0))) (jn (jv 1) ja0))))
        (je_ix ix_list (je_lst (ji_ (ji_ (ji_ (ji_ (ji_ (ji_ ja0))))))) (je_call G hr rfl mG kG bG .nil pass0 (jn (jv 0) (ji_ ja0))) (fun _ _ => rfl)) (fun _ _ => rfl)) ja0)) (jg_name (i := 3) scLWs.nd rfl (Or.inl rfl))
      (jb_cons (js_asg (je_lc (own := [("j", 6)]) (g := gName 6) rfl scLWs.nd (ji_range1 rfl M.range (ji_ ja0)) (blkOk_by (own := [("j", 6)]) (N := ["well", "most", "found", "k", "one", "other", "j"]) (sc := defScope sLWs) (by decide +kernel))
          (fun _ _ _ _ _ => jg_name (i := 6) scLWs.nd rfl (Or.inl rfl)) (fun _ _ _ _ _ => jts_nil)
          (fun _ _ _ _ _ => je_ix (NT.ix_listK (K := K) rfl) (je_lst (jCa (je_call G hr rfl mG kG bG .nil pass0 (jn (jv 0) (ji_ ja0))) (jCa (je_call G hr rfl mG kG bG .nil pass0 (jn (jv 0) (ji_ ja0))) (ji_ ja0)))) (je_call G hr rfl mG kG bG .nil pass0 (jn (jv 0) (ji_ ja0))) (fun _ _ => rfl)))
          (NW.jg_tupL rfl (jgs_cons (jg_name (i := 4) scLWs.nd rfl (Or.inl rfl)) (jgs_cons (jg_name (i := 5) scLWs.nd rfl (Or.inl rfl)) jgs_nil))))
      (jb_one (js_expr (je_append (jv 2) (jTu (je_tup (jSu (je_ix ix_list (je_lst (jc je_str (jc je_str ja0))) (je_call G hr rfl mG kG bG .nil pass0 (jn (jv 0) (ji_ ja0))) (fun _ _ => rfl)) (jn (jv 4) (jn (jv 5) ja0)))) ja0))))))
    (jb_one (js_ret (jv 2)))), ?_⟩
  have b62 : (2 : Int) ^ 62 = 4611686018427387904 := by decide
  refine ⟨(by show 0 ≤ sizeLine; decide), fun fp n1 => ?_⟩
  have e1 := same_new n1 (.lst [])
  have g1 := new_at n1 (.lst [])
  have pf : p ≠ fp := ne_of_none hz n1
  refine ⟨_, rfl, p, z, y, 4, rfl, e1 _ _ hz, by decide, by decide, fun r1 z1 y1 H1 a0 a1 s1 w1 => ?_⟩
  refine ⟨_, rfl, _, rfl, _, _, rfl, rfl, p, z1, y1, _, rfl, w1, by omega, by omega, fun r2 z2 y2 H2 b0 b1 s2 w2 => ?_⟩
  refine ⟨_, rfl, (by show 3 ≤ sizeLine; decide), fun lp n3 => ?_⟩
  have e3 := same_new n3 (.lst [.int r1, .int r2, .int mo])
  have g3 := new_at n3 (.lst [.int r1, .int r2, .int mo])
  refine ⟨(by show 6 ≤ sizeLine; decide), fun lq n4 => ?_⟩
  have e4 := same_new n4 (.lst [.int 0, .int 0, .int 0, .int 1, .int 1, .int 2])
  have g4 := new_at n4 (.lst [.int 0, .int 0, .int 0, .int 1, .int 1, .int 2])
  have s14 : SameBut p H (upd (upd H2 lp (.lst [.int r1, .int r2, .int mo])) lq (.lst [.int 0, .int 0, .int 0, .int 1, .int 1, .int 2])) := SameBut.then (SameBut.then (SameBut.trans (SameBut.trans (Same.but e1) s1) s2) e3) e4
  have s14f : SameBut p _ (upd (upd H2 lp (.lst [.int r1, .int r2, .int mo])) lq (.lst [.int 0, .int 0, .int 0, .int 1, .int 1, .int 2])) := SameBut.then (SameBut.then (SameBut.trans s1 s2) e3) e4
  have f4 := s14f _ _ pf.symm g1
  have w4 := e4 _ _ (e3 _ _ w2)
  have nlp : lp ≠ p := (ne_of_none w2 n3).symm
  have nlq : lq ≠ p := (ne_of_none (e3 _ _ w2) n4).symm
  have g34 := e4 _ _ g3
  clear s14f
  generalize upd (upd H2 lp (.lst [.int r1, .int r2, .int mo])) lq (.lst [.int 0, .int 0, .int 0, .int 1, .int 1, .int 2]) = H4 at s14 f4 w4 g34 g4
  refine ⟨_, rfl, p, z2, y2, 6, rfl, w4, by decide, by decide, fun r3 z3 y3 H5 c0 c1 s5 w5 => ?_⟩
  obtain ⟨v, hv, i, rfl, vi⟩ := at6 (i0 := 0) (i1 := 0) (i2 := 0) (i3 := 1) (i4 := 1) (i5 := 2) c0 c1
  have hi0 : 0 ≤ i ∧ i < 3 := by rcases vi with h | h | h | h | h | h <;> subst h <;> exact ⟨by decide, by decide⟩
  refine ⟨lq, _, r3, .int i, rfl, rfl, SqL.of (s5 _ _ nlq g4), hv, ?_⟩
  obtain ⟨n, hn, vn⟩ := at3i (x := r1) (y := r2) (z := mo) hi0.1 hi0.2
  have nn : 0 ≤ n ∧ n ≤ 60 ∧ n ≤ max mo 3 := by rcases vn with h | h | h <;> omega
  refine ⟨lp, _, i, .int n, rfl, rfl, SqL.of (s5 _ _ nlp g34), hn, ?_⟩
  have sH5 := SameBut.trans s14 s5
  refine ⟨n, rfl, by rw [b62]; omega, by rw [b62]; omega, for_range (lo := 0) (n := n.toNat) (fun i σ H' => ∃ (ws : List (Wsh × Addr)) (z' y' : Int) (v3 v4 v5 v6 : Option V), σ = [some (.ref p), some (.int mo), some (.ref fp), v3, v4, v5, v6] ∧ H' fp = some (.lst (ws.map fun q => V.ref q.2)) ∧ ws.length = i ∧ (∀ q ∈ ws, OkW 99 q.1) ∧ SameBut p H H' ∧ H' p = some (.lst [.int z', .int y']) ∧ ∀ q ∈ ws, H' q.2 = some (.tup (wshV q.1)) ∧ H q.2 = none ∧ q.2 ≠ fp)
    ⟨[], z3, y3, _, _, _, _, rfl, s5 _ _ pf.symm f4, rfl, (fun q hq => nomatch hq), sH5, w5, fun q hq => nomatch hq⟩ ?_ ?_⟩
  · rintro i σ H6 hi ⟨ws, z6, y6, v3, v4, v5, v6, rfl, gf, lw, ok, s6, w6, each⟩
    have hin : i < 60 := by have : i < n.toNat := hi; omega
    refine ⟨2, rfl, by rw [b62]; omega, by rw [b62]; omega, fun D nD => ?_⟩
    have pD : p ≠ D := ne_of_none w6 nD
    have e6 := same_new nD (.lst [])
    refine lc_range (lo := 0) (n := (2 : Int).toNat) (fun j H' => ∃ (acc : List Int) (z' y' : Int), H' D = some (.lst (acc.map V.int)) ∧ acc.length = j ∧ (∀ k ∈ acc, 0 ≤ k ∧ k ≤ 99) ∧ SameBut p H6 H' ∧ H' p = some (.lst [.int z', .int y']))
      ⟨[], z6, y6, upd_same, rfl, (fun k hk => nomatch hk), Same.but e6, e6 _ _ w6⟩ ?_ ?_
    · rintro j H7 hj ⟨acc, z7, y7, gD, la, ha, s7, w7⟩
      refine ⟨rfl, ?_⟩
      refine ⟨_, rfl, p, z7, y7, 10, rfl, w7, by decide, by decide, fun r1 z1 y1 H1 a0 a1 s1 w1 => ?_⟩
      refine ⟨_, rfl, p, z1, y1, 100, rfl, w1, by decide, by decide, fun r2 z2 y2 H2 b0 b1 s2 w2 => ?_⟩
      refine ⟨(by show 3 ≤ sizeLine; decide), fun lp n3 => ?_⟩
      have e3 := same_new n3 (.lst [.int r1, .int r2, .int 99])
      have g3 := new_at n3 (.lst [.int r1, .int r2, .int 99])
      have w3 := e3 _ _ w2
      have nlp : lp ≠ p := (ne_of_none w2 n3).symm
      refine ⟨_, rfl, p, z2, y2, 3, rfl, w3, by decide, by decide, fun r3 z3 y3 H8 c0 c1 s8 w8 => ?_⟩
      obtain ⟨m, hm, vm⟩ := at3i (x := r1) (y := r2) (z := 99) c0 c1
      have mm : 0 ≤ m ∧ m ≤ 99 := by rcases vm with h | h | h <;> omega
      refine ⟨lp, _, r3, .int m, rfl, rfl, SqL.of (s8 _ _ nlp g3), hm, ?_⟩
      have s78 : SameBut p H7 H8 := SameBut.trans (SameBut.then (SameBut.trans s1 s2) e3) s8
      refine ⟨_, s78 _ _ pD.symm gD, ?_, acc ++ [m], z3, y3, ?_, ?_, ?_, fun b o nb h => ?_, ?_⟩
      · rw [List.length_map, la]
        exact Nat.lt_of_lt_of_le (show j < 2 from hj) (by decide)
      · rw [upd_same, List.map_append]; rfl
      · rw [List.length_append, la]; rfl
      · intro k hk
        rcases List.mem_append.mp hk with hk | hk
        · exact ha k hk
        · rw [List.mem_singleton.mp hk]; exact mm
      · rw [upd_ne (ne_of_none h nD)]
        exact s78 _ _ nb (s7 _ _ nb h)
      · rw [upd_ne pD]; exact w8
    · rintro H7 ⟨acc, z7, y7, gD, la, ha, s7, w7⟩
      obtain ⟨t, pl, rfl⟩ : ∃ t pl, acc = [t, pl] := by
        match acc, la with
        | [t, pl], _ => exact ⟨t, pl, rfl⟩
      refine ⟨D, _, rfl, SqL.of gD, rfl, _, _, rfl, _, _, rfl, rfl, ?_⟩
      have gf7 := s7 _ _ pf.symm gf
      refine ⟨_, rfl, .inl ⟨rfl, _, SqL.of gf7⟩, ?_⟩
      refine ⟨(by show 2 ≤ sizeLine; decide), fun lq n8 => ?_⟩
      have e8 := same_new n8 (.lst [.str "at", .str "not"])
      have g8 := new_at n8 (.lst [.str "at", .str "not"])
      have nlq : lq ≠ p := (ne_of_none w7 n8).symm
      refine ⟨_, rfl, p, z7, y7, 2, rfl, e8 _ _ w7, by decide, by decide, fun r z9 y9 H9 r0 r1 s9 w9 => ?_⟩
      obtain ⟨b, hb⟩ := at2w r0 r1
      refine ⟨lq, _, r, _, rfl, rfl, SqL.of (s9 _ _ nlq g8), hb, ?_⟩
      refine ⟨_, rfl, _, rfl, (by show 3 ≤ sizeLine; decide), fun tp nA => ?_⟩
      have eA := same_new nA (.tup [.str (wordS b), .int t, .int pl])
      have gA := new_at nA (.tup [.str (wordS b), .int t, .int pl])
      have s69 : SameBut p H6 (upd H9 tp (.tup [.str (wordS b), .int t, .int pl])) := SameBut.then (SameBut.trans (SameBut.then s7 e8) s9) eA
      have wA := eA _ _ w9
      have tpf : tp ≠ fp := fun e => by
        have := (SameBut.trans (SameBut.then s7 e8) s9) _ _ pf.symm gf
        rw [← e, nA] at this
        cases this
      have ntp : H tp = none := by
        cases h : H tp with
        | none => rfl
        | some o =>
          have tpp : tp ≠ p := (ne_of_none w9 nA).symm
          have := (SameBut.trans (SameBut.then s7 e8) s9) _ _ tpp (s6 _ _ tpp h)
          rw [nA] at this
          cases this
      generalize upd H9 tp (.tup [.str (wordS b), .int t, .int pl]) = HA at gA s69 wA
      refine ⟨fp, _, _, rfl, rfl, s69 _ _ pf.symm gf, by rw [List.length_map, lw]; exact Nat.lt_of_lt_of_le hin (by decide), ?_⟩
      have nfH : H fp = none := n1
      refine ⟨ws ++ [((b, t, pl), tp)], z9, y9, _, _, _, _, rfl, by rw [upd_same, List.map_append]; rfl, by rw [List.length_append, lw]; rfl, fun u hu => ?_, fun c o nc h => ?_, by rw [upd_ne pf]; exact wA, fun u hu => ?_⟩
      · rcases List.mem_append.mp hu with hu | hu
        · exact ok u hu
        · rw [List.mem_singleton.mp hu]
          have h1 := ha t (.head _)
          have h2 := ha pl (.tail _ (.head _))
          exact ⟨h1.1, h1.2, h2.1, h2.2⟩
      · rw [upd_ne (ne_of_none h nfH)]
        exact s69 _ _ nc (s6 _ _ nc h)
      · rcases List.mem_append.mp hu with hu | hu
        · obtain ⟨h1, h2, h3⟩ := each u hu
          have up : u.2 ≠ p := fun e => by rw [e, hz] at h2; cases h2
          rw [upd_ne h3]
          exact ⟨s69 _ _ up h1, h2, h3⟩
        · rw [List.mem_singleton.mp hu]
          show upd HA fp _ tp = _ ∧ H tp = none ∧ tp ≠ fp
          rw [upd_ne tpf]
          exact ⟨gA, ntp, tpf⟩
  · rintro σ H6 ⟨ws, z6, y6, v3, v4, v5, v6, rfl, gf, lw, ok, s6, w6, each⟩
    exact ⟨_, rfl, q ws fp z6 y6 H6 (by omega) ok s6 w6 n1 gf each⟩
end
end K51
set_option Elab.async false
set_option linter.all false
set_option maxRecDepth 100000
namespace NT
open PySem PySem.Spec PyProof.Rows L2 NP
def spOrderN (K : PySem.W.Frag) : Sp := fun vs H Q _ => ∃ (p : Addr) (mo z y : Int), vs = [.ref p, .int mo] ∧ 0 ≤ mo ∧ mo ≤ 40 ∧ H p = some (.lst [.int z, .int y]) ∧
  ∀ (ns : List Int) (q : Addr) (z' y' : Int) (H' : Hp), IsOrd ns → SameBut p H H' → H' p = some (.lst [.int z', .int y']) → H q = none → H' q = some (.lst (ns.map V.int)) → Q (.ref q) H'
theorem at3n {x y z : V} {r : Int} (h0 : 0 ≤ r) (h1 : r < 3) : ∃ v, atI [x, y, z] r = some v ∧ (v = x ∨ v = y ∨ v = z) := by
  obtain ⟨v, h, m⟩ := atI_in (xs := [x, y, z]) h0 h1
  refine ⟨v, h, ?_⟩
  simpa using m
end NT
namespace K51
open PySem PySem.Spec PyProof.Rows L2 NP NT NV NN
section
variable {P : Program} {w : World} {K : PySem.W.Frag} {mg : Str → Option Value} {base : Heap} {f g : Addr} {fd gd : FuncData}
theorem scOrder : FnScope ["well", "most", "left", "k"] ["well", "most"] (defScope sOrder) := ⟨rfl, rfl, rfl, by decide +kernel, rfl, by decide +kernel, by decide +kernel⟩
theorem ok_order (F : Fun K "_law_order" "_law_order" sOrder f fd) (M : Mg mg) (G : FnOk P w K mg base CX0 1 g gd ["well", "many"] NP.spDraw2) (bG : Binds K gd ["well", "many"] []) (kG : PySem.W.keepIn K (.ref g) = true) (mG : mg "_law_draw" = some (.ref g)) :
    FnOk P w K mg base CX0 2 f fd ["well", "most"] (spOrderN K) := by
  refine fnJ F scOrder (fun vs H Q E h => ?_) (fun cdv A outer s H vs Q E gp hcl hr h => ?_)
  · obtain ⟨p, mo, z, y, rfl, _⟩ := h
    rfl
  obtain ⟨p, mo, z, y, rfl, m0, m1, hz, q⟩ := h
  have hc1 : L2.Cl 1 gp := L2.Cl.mono hcl (by decide)
  refine ⟨_, jb_cons (js_set (i := 2) scOrder.nd rfl (Or.inr rfl) (je_callTy (cr_listR rfl) (by rfl) M.list (by decide +kernel) (jCa (je_callTy cr_range1 (by rfl) M.range (by decide +kernel)
      (jSu (je_ix ix_list (je_lst (jCa (je_call G hr rfl mG kG bG .nil pass0 (jn (jv 0) (ji_ ja0))) (jCa (je_call G hr rfl mG kG bG .nil pass0 (jn (jv 0) (jBi (je_op op_add (jv 1) je_int) ja0))) (jn (jv 1) ja0)))) (je_call G hr rfl mG kG bG .nil pass0 (jn (jv 0) (ji_ ja0))) (fun _ _ => rfl)) ja0)) ja0)))
    (jb_one (js_ret (je_lc (own := [("k", 3)]) (g := gName 3) rfl scOrder.nd (ji_range1 rfl M.range (jCa (je_callB call_len_seq rfl M.len PySem.boot_len (jn (jv 2) ja0)) ja0)) (blkOk_by (own := [("k", 3)]) (N := ["well", "most", "left", "k"]) (sc := defScope sOrder) (by decide +kernel))
      (fun _ _ _ _ _ => jg_name (i := 3) scOrder.nd rfl (Or.inl rfl)) (fun _ _ _ _ _ => jts_nil)
      (fun _ _ _ _ _ => je_popAtK (K := K) rfl (jv 2) (jCa (je_call G hr rfl mG kG bG .nil pass0 (jn (jv 0) (jCa (je_callB (call_len_K (K := K) rfl) rfl M.len PySem.boot_len (jn (jv 2) ja0)) ja0))) ja0))))), ?_⟩
  have b62 : (2 : Int) ^ 62 = 4611686018427387904 := by decide
  refine ⟨_, rfl, p, z, y, 6, rfl, hz, by decide, by decide, fun r1 z1 y1 H1 a0 a1 s1 w1 => ?_⟩
  refine ⟨_, rfl, _, rfl, _, _, rfl, rfl, p, z1, y1, _, rfl, w1, by omega, by omega, fun r2 z2 y2 H2 b0 b1 s2 w2 => ?_⟩
  refine ⟨_, rfl, (by show 3 ≤ sizeLine; decide), fun lp n3 => ?_⟩
  have e3 := same_new n3 (.lst [.int r1, .int r2, .int mo])
  have g3 := new_at n3 (.lst [.int r1, .int r2, .int mo])
  have s12 : SameBut p H H2 := SameBut.trans s1 s2
  have s13 := SameBut.then s12 e3
  refine ⟨_, rfl, p, z2, y2, 3, rfl, e3 _ _ w2, by decide, by decide, fun r3 z3 y3 H3 c0 c1 s3 w3 => ?_⟩
  have nlp : lp ≠ p := (ne_of_none w2 n3).symm
  obtain ⟨v, hv, vv⟩ := at3n (x := .int r1) (y := .int r2) (z := .int mo) c0 c1
  obtain ⟨n, rfl, n0, n40⟩ : ∃ n : Int, v = .int n ∧ 0 ≤ n ∧ n ≤ 40 := by
    rcases vv with h | h | h
    · exact ⟨r1, h, a0, by omega⟩
    · exact ⟨r2, h, b0, by omega⟩
    · exact ⟨mo, h, by omega, by omega⟩
  refine ⟨lp, _, r3, .int n, rfl, rfl, SqL.of (s3 _ _ nlp g3), hv, n, rfl, fun rp n4 => ?_⟩
  have e4 := same_new n4 (.rng 0 n)
  have g4 := new_at n4 (.rng 0 n)
  refine ⟨rp, 0, n, rfl, g4, by rw [b62]; omega, by rw [b62]; omega, by rw [b62]; omega, by rw [b62]; omega, by omega, fun fp n5 => ?_⟩
  rw [range_iot]
  have tn : (n - 0).toNat = n.toNat := by omega
  rw [tn]
  have e5 := same_new n5 (.lst ((iot n.toNat).map V.int))
  have g5 := new_at n5 (.lst ((iot n.toNat).map V.int))
  have s5 : SameBut p H (upd (upd H3 rp (.rng 0 n)) fp (.lst ((iot n.toNat).map V.int))) := SameBut.then (SameBut.then (SameBut.trans s13 s3) e4) e5
  have w5 := e5 _ _ (e4 _ _ w3)
  generalize upd (upd H3 rp (.rng 0 n)) fp (.lst ((iot n.toNat).map V.int)) = H5 at g5 s5 w5
  have free : ∀ b, H5 b = none → H b = none := fun b hb => by
    cases h : H b with
    | none => rfl
    | some o =>
      have nb : b ≠ p := fun e => by rw [e, w5] at hb; cases hb
      rw [s5 b o nb h] at hb
      cases hb
  have nfp : fp ≠ p := fun e => by
    rw [e, w5] at g5
    injection g5 with g5
    injection g5 with g5
    have l := congrArg List.length g5
    rw [List.length_map, iot_len] at l
    have l2 : n.toNat = 2 := l.symm
    rw [l2] at g5
    have := e4.free n5
    rw [e, w3] at this
    cases this
  have fpH : H fp = none := by
    cases h : H fp with
    | none => rfl
    | some o =>
      have := (SameBut.then (SameBut.trans s13 s3) e4) fp o nfp h
      rw [n5] at this
      cases this
  have ln : ((iot n.toNat).map V.int).length = n.toNat := by rw [List.length_map, iot_len]
  refine ⟨_, rfl, fp, _, rfl, .inl (SqL.of g5), _, rfl, by rw [b62, ln]; omega, by rw [b62, ln]; omega, fun D n6 => ?_⟩
  have fD : fp ≠ D := ne_of_none g5 n6
  have pD : p ≠ D := ne_of_none w5 n6
  have nD : H D = none := free D n6
  refine lc_range (lo := 0) (n := ((((iot n.toNat).map V.int).length : Nat) : Int).toNat) (fun i H' => ∃ (rem acc : List Int) (z' y' : Int), H' fp = some (.lst (rem.map V.int)) ∧ H' D = some (.lst (acc.map V.int)) ∧ acc.length = i ∧ rem.length + i = n.toNat ∧ (acc ++ rem).Perm (iot n.toNat) ∧ H' p = some (.lst [.int z', .int y']) ∧ SameBut p H H')
    ⟨iot n.toNat, [], z3, y3, by rw [upd_ne fD]; exact g5, upd_same, rfl, by rw [iot_len]; rfl, List.Perm.refl _, by rw [upd_ne pD]; exact w5, fun b o nb h => by rw [upd_ne (ne_of_none h nD)]; exact s5 _ _ nb h⟩ ?_ ?_
  · rintro i H6 hi ⟨rem, acc, z6, y6, gl, gD, la, lr, hp, w6, sb⟩
    have hin : i < n.toNat := by rw [ln, Int.toNat_natCast] at hi; exact hi
    refine ⟨rfl, ?_⟩
    refine ⟨_, rfl, .inl ⟨rfl, _, SqL.of gl⟩, _, rfl, _, rfl, fp, _, rfl, .inl (SqL.of gl), p, z6, y6, _, rfl, w6, by rw [List.length_map]; omega, by rw [List.length_map]; omega, fun r z7 y7 H7 r0 r1 s7 w7 => ?_⟩
    rw [List.length_map] at r1
    have rl : r.toNat < rem.length := by omega
    have hy : rem[r.toNat]? = some rem[r.toNat] := List.getElem?_eq_getElem rl
    have g7 := s7 _ _ nfp gl
    have d7 := s7 _ _ pD.symm gD
    refine ⟨fp, _, r, r.toNat, .int rem[r.toNat], rfl, rfl, g7, by omega, by omega, (ixN_seq (ixN_at r0 (by rw [List.length_map]; exact r1))).1, by rw [List.getElem?_map, hy]; rfl, ?_⟩
    refine ⟨_, by rw [upd_ne fD.symm]; exact d7, ?_, ?_⟩
    · rw [List.length_map]
      exact Nat.lt_of_le_of_lt (show acc.length ≤ 64 by omega) (by decide)
    · refine ⟨rem.eraseIdx r.toNat, acc ++ [rem[r.toNat]], z7, y7, ?_, ?_, ?_, ?_, ?_, ?_, fun b o nb h => ?_⟩
      · rw [upd_ne fD, upd_same, map_erase]
      · rw [upd_same, List.map_append]; rfl
      · rw [List.length_append, la]; rfl
      · have := len_erase1 hy; omega
      · rw [List.append_assoc]
        exact ((perm_erase hy).append_left acc).trans hp
      · rw [upd_ne pD, upd_ne nfp.symm]; exact w7
      · rw [upd_ne (ne_of_none h nD), upd_ne (ne_of_none h fpH)]
        exact s7 _ _ nb (sb _ _ nb h)
  · rintro H6 ⟨rem, acc, z6, y6, gl, gD, la, lr, hp, w6, sb⟩
    rw [ln, Int.toNat_natCast] at la lr
    have : rem = [] := List.eq_nil_of_length_eq_zero (by omega)
    subst this
    rw [List.append_nil] at hp
    exact q acc D z6 y6 H6 ⟨by omega, by rw [la]; exact hp⟩ sb w6 nD gD
end
end K51
set_option Elab.async false
set_option linter.all false
set_option maxRecDepth 100000
namespace NQ
open PySem PySem.Spec PyProof.Rows L2 NP
structure Cs7 where
  (c0 c1 c2 c3 c4 c5 c6 c7 c8 o0 o1 o2 cp : Addr)
structure MCs7 (mg : Str → Option Value) (s : Cs7) : Prop where
  m0 : mg "NoOrder" = some (.ref s.c0)
  m1 : mg "NoReach" = some (.ref s.c1)
  m2 : mg "NoNumber" = some (.ref s.c2)
  m3 : mg "NoKeep" = some (.ref s.c3)
  m4 : mg "NoStand" = some (.ref s.c4)
  m5 : mg "TooMany" = some (.ref s.c5)
  m6 : mg "NoWord" = some (.ref s.c6)
  m7 : mg "NoText" = some (.ref s.c7)
  m8 : mg "NoWishes" = some (.ref s.c8)
  n0 : mg "NoAsk" = some (.ref s.o0)
  n1 : mg "NoRolls" = some (.ref s.o1)
  n2 : mg "NoShare" = some (.ref s.o2)
  p : mg "PlaceError" = some (.ref s.cp)
  ve : mg "ValueError" = none
/-- a class that is just the one of the nine with the number i, and a PlaceError and a ValueError -/
structure AnsW (K : PySem.W.Frag) (s : Cs7) (C : Addr) (i : Nat) : Prop where
  ok : XOk K C (.ref s.cp :: bmV)
  k0 : PySem.W.kitOne K (.ref C) (.ref s.c0) = some (i == 0)
  k1 : PySem.W.kitOne K (.ref C) (.ref s.c1) = some (i == 1)
  k2 : PySem.W.kitOne K (.ref C) (.ref s.c2) = some (i == 2)
  k3 : PySem.W.kitOne K (.ref C) (.ref s.c3) = some (i == 3)
  k4 : PySem.W.kitOne K (.ref C) (.ref s.c4) = some (i == 4)
  k5 : PySem.W.kitOne K (.ref C) (.ref s.c5) = some (i == 5)
  k6 : PySem.W.kitOne K (.ref C) (.ref s.c6) = some (i == 6)
  k7 : PySem.W.kitOne K (.ref C) (.ref s.c7) = some (i == 7)
  k8 : PySem.W.kitOne K (.ref C) (.ref s.c8) = some (i == 8)
  od : PySem.W.kitAny K (.ref C) ([s.o0, s.o1, s.o2].map Value.ref) = some false
  ve : PySem.W.kitOne K (.ref C) (.type "ValueError") = some true
  pe : PySem.W.exmOne K (.ref C) (.ref s.cp) = some true
  lt : i < 9
theorem ansW_mk {K : PySem.W.Frag} {s : Cs7} {C : Addr} {i : Nat} (lt : i < 9) (x0 : xIn K C (.ref s.cp :: bmV) = true) (x1 : PySem.W.findIn K (.ref C) "__class__" = some (some (.builtin "object.__class__"))) (x2 : PySem.W.findIn K (.ref C) "__getattribute__" = some (some (.builtin "BaseException.__getattribute__")))
    (x3 : PySem.W.findIn K (.ref C) "__getattr__" = some none) (x4 : PySem.W.kitOne K (.ref C) (.ref s.c0) = some (i == 0)) (x5 : PySem.W.kitOne K (.ref C) (.ref s.c1) = some (i == 1)) (x6 : PySem.W.kitOne K (.ref C) (.ref s.c2) = some (i == 2)) (x7 : PySem.W.kitOne K (.ref C) (.ref s.c3) = some (i == 3))
    (x8 : PySem.W.kitOne K (.ref C) (.ref s.c4) = some (i == 4)) (x9 : PySem.W.kitOne K (.ref C) (.ref s.c5) = some (i == 5)) (x10 : PySem.W.kitOne K (.ref C) (.ref s.c6) = some (i == 6)) (x11 : PySem.W.kitOne K (.ref C) (.ref s.c7) = some (i == 7)) (x12 : PySem.W.kitOne K (.ref C) (.ref s.c8) = some (i == 8))
    (x13 : PySem.W.kitAny K (.ref C) ([s.o0, s.o1, s.o2].map Value.ref) = some false) (x14 : PySem.W.kitOne K (.ref C) (.type "ValueError") = some true) (x15 : PySem.W.exmOne K (.ref C) (.ref s.cp) = some true) : AnsW K s C i := ⟨⟨x0, x1, x2, x3⟩, x4, x5, x6, x7, x8, x9, x10, x11, x12, x13, x14, x15, lt⟩
def wordsL : List Str := ["NoOrder", "NoReach", "NoNumber", "NoKeep", "NoStand", "TooMany", "NoWord", "NoText", "NoWishes"]
def spWordW (K : PySem.W.Frag) (s : Cs7) : Sp := fun vs H Q _ => ∃ (ea T C : Addr) (i : Nat), vs = [.ref ea] ∧ H ea = some (exO ea T C) ∧ AnsW K s C i ∧ ∀ H', Same H H' → Q (.str (wordsL.getD i "")) H'
theorem bmB {cP : Addr} : (Value.ref cP :: bmV).contains (.type "BaseException") = true := by rw [List.contains_cons, show bmV.contains (.type "BaseException") = true by decide +kernel, Bool.or_true]
end NQ
set_option Elab.async false
set_option linter.all false
set_option maxRecDepth 100000
namespace K51
open PySem PySem.Spec PyProof.Rows L2 NP NQ
section
variable {P : Program} {w : World} {K : PySem.W.Frag} {mg : Str → Option Value} {base : Heap} {f g : Addr} {fd gd : FuncData} {cs : Cs7}
theorem scWord : FnScope ["caught", "kinds", "odd", "words"] ["caught"] (defScope sWord) := ⟨rfl, rfl, rfl, by decide +kernel, rfl, by decide +kernel, by decide +kernel⟩
set_option maxHeartbeats 2000000 in
theorem ok_word (F : Fun K "_law_word" "_law_word" sWord f fd) (M : Mg2 mg) (S : MCs7 mg cs) : FnOk P w K mg base CX0 13 f fd ["caught"] (spWordW K cs) := by
  refine fnJ F scWord (fun vs H Q E h => ?_) (fun cdv A outer s H vs Q E gp hcl hr h => ?_)
  · obtain ⟨ea, T, C, i, rfl, _⟩ := h
    rfl
  obtain ⟨ea, T, C, i, rfl, hx, a, q⟩ := h
  refine ⟨_, jb_cons (js_set (i := 1) scWord.nd rfl (Or.inl rfl) (je_lst
      (jCa (je_callB (cr_isX (K := K) rfl) (by rfl) M.base.isi (by decide +kernel) (jn (jv 0) (jn (je_glob (v := .ref cs.c0) (by rfl) S.m0 rfl) ja0)))
      (jCa (je_callB (cr_isX (K := K) rfl) (by rfl) M.base.isi (by decide +kernel) (jn (jv 0) (jn (je_glob (v := .ref cs.c1) (by rfl) S.m1 rfl) ja0)))
      (jCa (je_callB (cr_isX (K := K) rfl) (by rfl) M.base.isi (by decide +kernel) (jn (jv 0) (jn (je_glob (v := .ref cs.c2) (by rfl) S.m2 rfl) ja0))) ja0)))))
    (jb_cons (js_set (i := 1) scWord.nd rfl (Or.inl rfl) (je_op op_cat (jv 1) (je_lst
      (jCa (je_callB (cr_isX (K := K) rfl) (by rfl) M.base.isi (by decide +kernel) (jn (jv 0) (jn (je_glob (v := .ref cs.c3) (by rfl) S.m3 rfl) ja0)))
      (jCa (je_callB (cr_isX (K := K) rfl) (by rfl) M.base.isi (by decide +kernel) (jn (jv 0) (jn (je_glob (v := .ref cs.c4) (by rfl) S.m4 rfl) ja0)))
      (jCa (je_callB (cr_isX (K := K) rfl) (by rfl) M.base.isi (by decide +kernel) (jn (jv 0) (jn (je_glob (v := .ref cs.c5) (by rfl) S.m5 rfl) ja0))) ja0))))))
    (jb_cons (js_set (i := 1) scWord.nd rfl (Or.inl rfl) (je_op op_cat (jv 1) (je_lst
      (jCa (je_callB (cr_isX (K := K) rfl) (by rfl) M.base.isi (by decide +kernel) (jn (jv 0) (jn (je_glob (v := .ref cs.c6) (by rfl) S.m6 rfl) ja0)))
      (jCa (je_callB (cr_isX (K := K) rfl) (by rfl) M.base.isi (by decide +kernel) (jn (jv 0) (jn (je_glob (v := .ref cs.c7) (by rfl) S.m7 rfl) ja0)))
      (jCa (je_callB (cr_isX (K := K) rfl) (by rfl) M.base.isi (by decide +kernel) (jn (jv 0) (jn (je_glob (v := .ref cs.c8) (by rfl) S.m8 rfl) ja0))) ja0))))))
    (jb_cons (js_set (i := 2) scWord.nd rfl (Or.inl rfl) (je_callB (cr_isXT (K := K) rfl) (by rfl) M.base.isi (by decide +kernel) (jn (jv 0) (jTu (je_tup
      (jn (je_glob (v := .ref cs.o0) (by rfl) S.n0 rfl) (jn (je_glob (v := .ref cs.o1) (by rfl) S.n1 rfl) (jn (je_glob (v := .ref cs.o2) (by rfl) S.n2 rfl) ja0)))) ja0))))
    (jb_cons (js_if (jt_w (jw_or (jt_val (jv 2)) (jw_or (jt_cmp op_ne (je_count (jv 1) (jc je_bl ja0)) je_int (nomark _))
      (jw_or1 (jt_not (jt_val (je_callB (cr_isX (K := K) rfl) (by rfl) M.base.isi (by decide +kernel) (jn (jv 0) (jn (je_ty (n := "ValueError") (by rfl) S.ve (by decide +kernel)) ja0)))))))) ) (jb_one (js_ret je_str)) jb_nil)
    (jb_cons (js_set (i := 3) scWord.nd rfl (Or.inl rfl) (je_lst (jc je_str (jc je_str (jc je_str (jc je_str (jc je_str (jc je_str (jc je_str (jc je_str (jc je_str ja0)))))))))))
    (jb_one (js_ret (je_ix ix_list (jv 3) (je_index (jv 1) (jc je_bl ja0)) (fun _ _ => rfl))))))))), ?_⟩
  refine ⟨_, rfl, ea, T, C, _, _, .ref cs.c0, _, rfl, hx, a.ok, rfl, a.k0, ?_⟩
  refine ⟨_, rfl, ea, T, C, _, _, .ref cs.c1, _, rfl, hx, a.ok, rfl, a.k1, ?_⟩
  refine ⟨_, rfl, ea, T, C, _, _, .ref cs.c2, _, rfl, hx, a.ok, rfl, a.k2, (by show 3 ≤ sizeLine; decide), fun l1 q1 => ?_⟩
  have e1 := same_new q1 (.lst [.bl (i == 0), .bl (i == 1), .bl (i == 2)])
  have x1 := e1 _ _ hx
  refine ⟨_, rfl, _, rfl, ea, T, C, _, _, .ref cs.c3, _, rfl, x1, a.ok, rfl, a.k3, ?_⟩
  refine ⟨_, rfl, ea, T, C, _, _, .ref cs.c4, _, rfl, x1, a.ok, rfl, a.k4, ?_⟩
  refine ⟨_, rfl, ea, T, C, _, _, .ref cs.c5, _, rfl, x1, a.ok, rfl, a.k5, (by show 3 ≤ sizeLine; decide), fun l2 q2 => ?_⟩
  have e2 := same_new q2 (.lst [.bl (i == 3), .bl (i == 4), .bl (i == 5)])
  refine ⟨l1, l2, _, _, rfl, rfl, e2 _ _ (new_at q1 _), new_at q2 _, (by show 6 ≤ sizeLine; decide), fun l3 q3 => ?_⟩
  have e3 := same_new q3 (.lst ([.bl (i == 0), .bl (i == 1), .bl (i == 2)] ++ [.bl (i == 3), .bl (i == 4), .bl (i == 5)]))
  have g3 := new_at q3 (.lst ([.bl (i == 0), .bl (i == 1), .bl (i == 2)] ++ [.bl (i == 3), .bl (i == 4), .bl (i == 5)]))
  have s3 := (e1.trans e2).trans e3
  generalize upd _ l3 _ = H3 at *
  have x3 := s3 _ _ hx
  refine ⟨_, rfl, _, rfl, ea, T, C, _, _, .ref cs.c6, _, rfl, x3, a.ok, rfl, a.k6, ?_⟩
  refine ⟨_, rfl, ea, T, C, _, _, .ref cs.c7, _, rfl, x3, a.ok, rfl, a.k7, ?_⟩
  refine ⟨_, rfl, ea, T, C, _, _, .ref cs.c8, _, rfl, x3, a.ok, rfl, a.k8, (by show 3 ≤ sizeLine; decide), fun l4 q4 => ?_⟩
  have e4 := same_new q4 (.lst [.bl (i == 6), .bl (i == 7), .bl (i == 8)])
  refine ⟨l3, l4, _, _, rfl, rfl, e4 _ _ g3, new_at q4 _, (by show 9 ≤ sizeLine; decide), fun l5 q5 => ?_⟩
  have e5 := same_new q5 (.lst (([.bl (i == 0), .bl (i == 1), .bl (i == 2)] ++ [.bl (i == 3), .bl (i == 4), .bl (i == 5)]) ++ [.bl (i == 6), .bl (i == 7), .bl (i == 8)]))
  have g5 := new_at q5 (.lst (([.bl (i == 0), .bl (i == 1), .bl (i == 2)] ++ [.bl (i == 3), .bl (i == 4), .bl (i == 5)]) ++ [.bl (i == 6), .bl (i == 7), .bl (i == 8)]))
  have s5 := s3.trans (e4.trans e5)
  generalize upd _ l5 _ = H5 at *
  have x5 := s5 _ _ hx
  refine ⟨_, rfl, (by show 3 ≤ sizeLine; decide), fun tp q6 => ?_⟩
  have e6 := same_new q6 (.tup [.ref cs.o0, .ref cs.o1, .ref cs.o2])
  have g6 := new_at q6 (.tup [.ref cs.o0, .ref cs.o1, .ref cs.o2])
  have x6 := e6 _ _ x5
  have y6 := e6 _ _ g5
  have s6 := s5.trans e6
  refine ⟨ea, T, C, tp, _, [cs.o0, cs.o1, cs.o2], _, rfl, x6, a.ok, g6, a.od, ?_⟩
  generalize upd H5 tp _ = H6 at *
  refine ⟨_, rfl, _, rfl, itF rfl ?_⟩
  refine ⟨_, rfl, .inl ⟨rfl, _, SqL.of y6⟩, l5, _, .bl true, rfl, rfl, SqL.of y6, rfl, rfl, ?_⟩
  have cnt : ((((([.bl (i == 0), .bl (i == 1), .bl (i == 2)] ++ [.bl (i == 3), .bl (i == 4), .bl (i == 5)]) ++ [.bl (i == 6), .bl (i == 7), .bl (i == 8)] : List V)).countP fun z => eqV z (.bl true) : Nat) : Int) = 1 := by
    have := a.lt
    rcases (show i = 0 ∨ i = 1 ∨ i = 2 ∨ i = 3 ∨ i = 4 ∨ i = 5 ∨ i = 6 ∨ i = 7 ∨ i = 8 by omega) with rfl | rfl | rfl | rfl | rfl | rfl | rfl | rfl | rfl <;> decide +kernel
  rw [cnt]
  refine ⟨rfl, _, rfl, itF (by decide +kernel) ?_⟩
  refine ⟨_, rfl, ea, T, C, _, _, .type "ValueError", _, rfl, x6, a.ok, rfl, a.ve, _, rfl, itF rfl ?_⟩
  refine ⟨(by show 9 ≤ sizeLine; decide), fun l7 q7 => ?_⟩
  have e7 := same_new q7 (.lst [.str "NoOrder", .str "NoReach", .str "NoNumber", .str "NoKeep", .str "NoStand", .str "TooMany", .str "NoWord", .str "NoText", .str "NoWishes"])
  have g7 := new_at q7 (.lst [.str "NoOrder", .str "NoReach", .str "NoNumber", .str "NoKeep", .str "NoStand", .str "TooMany", .str "NoWord", .str "NoText", .str "NoWishes"])
  have y7 := e7 _ _ y6
  refine ⟨_, rfl, _, rfl, .inl ⟨rfl, _, SqL.of y7⟩, ?_⟩
  have lt := a.lt
  rcases (show i = 0 ∨ i = 1 ∨ i = 2 ∨ i = 3 ∨ i = 4 ∨ i = 5 ∨ i = 6 ∨ i = 7 ∨ i = 8 by omega) with rfl | rfl | rfl | rfl | rfl | rfl | rfl | rfl | rfl
  · refine ⟨l5, _, .bl true, 0, .bl true, rfl, rfl, SqL.of y7, rfl, rfl, rfl, rfl, fun m z' hm hz => ?_, ?_⟩
    · omega
    · exact ⟨l7, _, _, .str "NoOrder", rfl, rfl, SqL.of g7, rfl, q _ (s6.trans e7)⟩
  · refine ⟨l5, _, .bl true, 1, .bl true, rfl, rfl, SqL.of y7, rfl, rfl, rfl, rfl, fun m z' hm hz => ?_, ?_⟩
    · rcases (show m = 0 by omega) with rfl <;> (cases hz; rfl)
    · exact ⟨l7, _, _, .str "NoReach", rfl, rfl, SqL.of g7, rfl, q _ (s6.trans e7)⟩
  · refine ⟨l5, _, .bl true, 2, .bl true, rfl, rfl, SqL.of y7, rfl, rfl, rfl, rfl, fun m z' hm hz => ?_, ?_⟩
    · rcases (show m = 0 ∨ m = 1 by omega) with rfl | rfl <;> (cases hz; rfl)
    · exact ⟨l7, _, _, .str "NoNumber", rfl, rfl, SqL.of g7, rfl, q _ (s6.trans e7)⟩
  · refine ⟨l5, _, .bl true, 3, .bl true, rfl, rfl, SqL.of y7, rfl, rfl, rfl, rfl, fun m z' hm hz => ?_, ?_⟩
    · rcases (show m = 0 ∨ m = 1 ∨ m = 2 by omega) with rfl | rfl | rfl <;> (cases hz; rfl)
    · exact ⟨l7, _, _, .str "NoKeep", rfl, rfl, SqL.of g7, rfl, q _ (s6.trans e7)⟩
  · refine ⟨l5, _, .bl true, 4, .bl true, rfl, rfl, SqL.of y7, rfl, rfl, rfl, rfl, fun m z' hm hz => ?_, ?_⟩
    · rcases (show m = 0 ∨ m = 1 ∨ m = 2 ∨ m = 3 by omega) with rfl | rfl | rfl | rfl <;> (cases hz; rfl)
    · exact ⟨l7, _, _, .str "NoStand", rfl, rfl, SqL.of g7, rfl, q _ (s6.trans e7)⟩
  · refine ⟨l5, _, .bl true, 5, .bl true, rfl, rfl, SqL.of y7, rfl, rfl, rfl, rfl, fun m z' hm hz => ?_, ?_⟩
    · rcases (show m = 0 ∨ m = 1 ∨ m = 2 ∨ m = 3 ∨ m = 4 by omega) with rfl | rfl | rfl | rfl | rfl <;> (cases hz; rfl)
    · exact ⟨l7, _, _, .str "TooMany", rfl, rfl, SqL.of g7, rfl, q _ (s6.trans e7)⟩
  · refine ⟨l5, _, .bl true, 6, .bl true, rfl, rfl, SqL.of y7, rfl, rfl, rfl, rfl, fun m z' hm hz => ?_, ?_⟩
    · rcases (show m = 0 ∨ m = 1 ∨ m = 2 ∨ m = 3 ∨ m = 4 ∨ m = 5 by omega) with rfl | rfl | rfl | rfl | rfl | rfl <;> (cases hz; rfl)
    · exact ⟨l7, _, _, .str "NoWord", rfl, rfl, SqL.of g7, rfl, q _ (s6.trans e7)⟩
  · refine ⟨l5, _, .bl true, 7, .bl true, rfl, rfl, SqL.of y7, rfl, rfl, rfl, rfl, fun m z' hm hz => ?_, ?_⟩
    · rcases (show m = 0 ∨ m = 1 ∨ m = 2 ∨ m = 3 ∨ m = 4 ∨ m = 5 ∨ m = 6 by omega) with rfl | rfl | rfl | rfl | rfl | rfl | rfl <;> (cases hz; rfl)
    · exact ⟨l7, _, _, .str "NoText", rfl, rfl, SqL.of g7, rfl, q _ (s6.trans e7)⟩
  · refine ⟨l5, _, .bl true, 8, .bl true, rfl, rfl, SqL.of y7, rfl, rfl, rfl, rfl, fun m z' hm hz => ?_, ?_⟩
    · rcases (show m = 0 ∨ m = 1 ∨ m = 2 ∨ m = 3 ∨ m = 4 ∨ m = 5 ∨ m = 6 ∨ m = 7 by omega) with rfl | rfl | rfl | rfl | rfl | rfl | rfl | rfl <;> (cases hz; rfl)
    · exact ⟨l7, _, _, .str "NoWishes", rfl, rfl, SqL.of g7, rfl, q _ (s6.trans e7)⟩
end
end K51
set_option Elab.async false
set_option linter.all false
set_option maxRecDepth 100000
namespace ND
open PySem PySem.Spec PyProof.Rows L2 NP
abbrev MC := List (Nat × Nat)
def putM (kv : MC) (k v : Nat) : MC := if (kv.any fun x => x.1 == k) = true then kv.map (fun x => if (x.1 == k) = true then (x.1, v) else x) else kv ++ [(k, v)]
def getM (kv : MC) (k : Nat) : Nat := ((kv.find? fun x => x.1 == k).map (·.2)).getD 0
def placeM (l thing mask cnt : Nat) (later : MC) (place : Nat) : MC :=
  if ((mask ||| (1 <<< place)) != mask && (Nat.blt thing l || ((mask ||| (1 <<< place)) >>> (thing - l)) % 2 == 1)) = true then putM later (mask ||| (1 <<< place)) (getM later (mask ||| (1 <<< place)) + cnt) else later
def placesM (l r n thing : Nat) : List Nat := List.range' (thing - l) (min n (thing + r + 1) - (thing - l))
def maskM (l r n thing : Nat) (later : MC) (mc : Nat × Nat) : MC := (placesM l r n thing).foldl (placeM l thing mc.1 mc.2) later
def thingM (l r n : Nat) (counts : MC) (thing : Nat) : MC := counts.foldl (maskM l r n thing) []
/-- no bound on the places -/
def stepU (l r : Nat) (counts : MC) (thing : Nat) : MC := thingM l r (thing + r + 1) counts thing
def okC (l r : Nat) : Nat → List MC → Bool
  | t, c :: c' :: rest => (stepU l r c t == c') && okC l r (t + 1) (c' :: rest)
  | _, _ => true
end ND
set_option Elab.async false
set_option linter.all false
set_option maxRecDepth 100000
namespace ND
open PySem PySem.Spec PyProof.Rows L2 NP
end ND
set_option Elab.async false
set_option linter.all false
set_option maxRecDepth 100000
namespace ND
open PySem PySem.Spec PyProof.Rows L2 NP
end ND
set_option Elab.async false
set_option linter.all false
set_option maxRecDepth 100000
namespace ND
open PySem PySem.Spec PyProof.Rows L2 NP
def mcV (c : MC) : List (Key × V) := c.map fun x => ((Sum.inl ((x.1 : Nat) : Int) : Key), V.int ((x.2 : Nat) : Int))
end ND
set_option Elab.async false
set_option linter.all false
set_option maxRecDepth 100000
namespace NK
open PySem PySem.Spec PyProof.Rows L2 NP ND
section
variable {X : Cx} {CX : CXT} {k : Nat} {f C : Addr} {fd : FuncData} {ps : List Str} {sp : Sp} {E : XK} {x m g : Str} {p pos apos pos' : Pos} {e o value : Expr} {es : List Expr} {ta tv : TE} {t : TA}
end
def flds (sa ts rs : Addr) : List (Str × V) := putF "rows" (.ref rs) (putF "tables" (.ref ts) (putF "start" (.ref sa) []))
structure WObj (l r : Int) (n : Nat) (C : Addr) (H : Hp) (x dx sa ts rs ta : Addr) (rows : List TRow) (as : List Addr) : Prop where
  obj : H x = some (.ins C dx (flds sa ts rs))
  st : H sa = some (.tup ((firstL l).map V.int))
  tabs : H ts = some (.lst (List.replicate n (.ref ta)))
  tab : TabAt l r H ta rows
  rl : H rs = some (.lst (as.map V.ref))
  rw_ : RowsAt l r (endRow l r (firstL l)) n H as
theorem WObj.same {l r : Int} {n : Nat} {C : Addr} {H H' : Hp} {x dx sa ts rs ta : Addr} {rows : List TRow} {as : List Addr} (h : WObj l r n C H x dx sa ts rs ta rows as) (s : Same H H') : WObj l r n C H' x dx sa ts rs ta rows as :=
  ⟨s _ _ h.obj, s _ _ h.st, s _ _ h.tabs, h.tab.same s, s _ _ h.rl, h.rw_.1, fun i a ha => s _ _ (h.rw_.2 i a ha)⟩
end NK
set_option Elab.async false
set_option linter.all false
set_option maxRecDepth 100000
namespace NK
open PySem PySem.Spec PyProof.Rows L2 NP ND
def putAt (steps : List (Int × List Int)) (p : Int) : Option (List Int) := (steps.find? fun q => decide (q.1 = p)).map (·.2)
end NK
set_option Elab.async false
set_option linter.all false
set_option maxRecDepth 100000
namespace NK
open PySem PySem.Spec PyProof.Rows L2 NP ND
end NK
namespace NK
open PySem PySem.Spec PyProof.Rows L2 NP ND
end NK
namespace NK
open PySem PySem.Spec PyProof.Rows L2 NP ND
end NK
namespace NK
open PySem PySem.Spec PyProof.Rows L2 NP ND NQ
section
variable {X : Cx} {CX : CXT} {k : Nat} {f C : Addr} {fd : FuncData} {ps : List Str} {sp : Sp} {E : XK} {m : Str} {pos apos : Pos} {o : Expr} {ta : TE}
end
end NK
set_option Elab.async false
set_option linter.all false
set_option maxRecDepth 100000
namespace NG
open PySem PySem.Spec PyProof.Rows L2 NP ND NK
abbrev Wk (l r : Int) (m : Nat) (s : List Int) : Int := look (wr l r (endRow l r (firstL l)) m) s
end NG
set_option Elab.async false
set_option linter.all false
set_option maxRecDepth 100000
namespace NG
open PySem PySem.Spec PyProof.Rows L2 NP ND NK
def bitsTo (f : Nat → Bool) : Nat → Nat
  | 0 => 0
  | k + 1 => bitsTo f k ||| (if f k = true then 1 <<< k else 0)
def Vd (i : Nat) (s : List Int) : Prop := ∀ x ∈ s, 0 ≤ (i : Int) + x
theorem behind_mem {L : Nat} {s : List Int} {p x : Int} : x ∈ behindOf (L : Int) s p ↔ (x + 1 ∈ s ∨ x + 1 = (L : Int)) ∧ x + 1 ≠ p := by
  unfold behindOf
  rw [List.mem_map]
  constructor
  · rintro ⟨y, hy, rfl⟩
    rw [List.mem_filter, List.mem_append, List.mem_singleton, decide_eq_true_eq] at hy
    rw [Int.sub_add_cancel]
    exact hy
  · rintro ⟨h1, h2⟩
    refine ⟨x + 1, ?_, by omega⟩
    rw [List.mem_filter, List.mem_append, List.mem_singleton, decide_eq_true_eq]
    exact ⟨h1, h2⟩
theorem Vd.step {L R i : Nat} {s : List Int} {p : Int} (v : Vd i s) (hp : p ∈ putsOf (L : Int) (R : Int) s) : Vd (i + 1) (behindOf (L : Int) s p) := fun x hx => by
  obtain ⟨h1, _⟩ := behind_mem.mp hx
  rcases h1 with z | z
  · have := v _ z
    push_cast
    omega
  · push_cast
    omega
def thingsL (n L R i m : Nat) : List Nat := if R ≤ i ∧ m.testBit (i - R) = false then [i - R] else (List.range' (i - R) (min n (i + L + 1) - (i - R))).filter fun t => !m.testBit t
def WL (n L R : Nat) : Nat → Nat → Nat → Nat
  | 0, _, m => if m = 2 ^ n - 1 then 1 else 0
  | k + 1, i, m => ((thingsL n L R i m).map fun t => WL n L R k (i + 1) (m ||| 1 <<< t)).sum
end NG
set_option Elab.async false
set_option linter.all false
set_option maxRecDepth 100000
namespace NG
open PySem PySem.Spec PyProof.Rows L2 NP ND NK
def addK (acc : List Nat) (k : Nat) : List Nat := if k ∈ acc then acc else acc ++ [k]
def zs (ks : List Nat) : MC := ks.map fun k => (k, 0)
def stepM (n L R i : Nat) (acc : List Nat) (m : Nat) : List Nat := (thingsL n L R i m).foldl (fun acc t => addK acc (m ||| 1 <<< t)) acc
def lev (n L R : Nat) : Nat → List Nat
  | 0 => [0]
  | i + 1 => (lev n L R i).foldl (stepM n L R i) []
def valM (n L R i : Nat) (m : Nat) : Nat := WL n L R (n - i) i m
def fin (n L R i : Nat) : MC := if i = n then [(2 ^ n - 1, 1)] else (lev n L R i).map fun m => (m, valM n L R i m)
end NG
set_option Elab.async false
set_option linter.all false
set_option maxRecDepth 100000
namespace NG
open PySem PySem.Spec PyProof.Rows L2 NP ND NK
def rm (L R : Nat) (s : List Int) : Nat := bitsTo (fun k => !(s.contains ((k : Int) - (R : Int)))) (L + R)
end NG
set_option Elab.async false
set_option linter.all false
set_option maxRecDepth 100000
namespace NT
open PySem PySem.Spec PyProof.Rows L2 NP
open AutoSeq1 (wpAny_loadPart')
section
variable {X : Cx}
end
end NT
set_option Elab.async false
set_option linter.all false
set_option maxRecDepth 100000
namespace NT
open PySem PySem.Spec PyProof.Rows L2 NP
open AutoSeq1 (wpAny_loadPart')
theorem nf {b : Bool} (h : b = false) : decide (b = true) = false := by rw [h]; rfl
theorem nt {b : Bool} (h : b = true) : decide (b = true) = true := by rw [h]; rfl
section
variable {X : Cx}
end
end NT
set_option Elab.async false
set_option linter.all false
set_option maxRecDepth 100000
namespace NT
open PySem PySem.Spec PyProof.Rows L2 NP
section
variable {prog : Program} {w : World} {A : Around} {E : Value → Shared → Prop} {s : Shared}
end
section
variable {X : Cx} {e st : Expr} {te ts : TE} {pos p2 : Pos}
end
end NT
set_option Elab.async false
set_option linter.all false
set_option maxRecDepth 100000
namespace NG
open PySem PySem.Spec PyProof.Rows L2 NP ND NK NT
section
variable {X : Cx}
end
end NG
set_option Elab.async false
set_option linter.all false
set_option maxRecDepth 100000
namespace NG
open PySem PySem.Spec PyProof.Rows L2 NP
section
variable {prog : Program} {w : World} {A : Around} {E : Value → Shared → Prop} {s : Shared} {d : Addr} {o : Obj} {es : Array DictEntry} {ep : Nat}
end
section
variable {X : Cx}
end
end NG
set_option Elab.async false
set_option linter.all false
set_option maxRecDepth 100000
namespace NG
open PySem PySem.Spec PyProof.Rows L2 NP ND NK
abbrev nV (ts : List Nat) : List V := ts.map fun t => V.int ((t : Nat) : Int)
end NG
set_option Elab.async false
set_option linter.all false
set_option maxRecDepth 100000
namespace NG
open PySem PySem.Spec PyProof.Rows L2 NP ND NK
structure LvAt (H0 H : Hp) (lv : Addr) (ds : List Addr) (cs : List MC) : Prop where
  same : Same H0 H
  at_ : H lv = some (.lst (ds.map V.ref))
  lvn : H0 lv = none
  len : ds.length = cs.length
  dat : ∀ (i : Nat) (d : Addr) (c : MC), ds[i]? = some d → cs[i]? = some c → H d = some (.dK (mcV c))
  new : ∀ d ∈ ds, H0 d = none
  nd : ds.Nodup
section
variable {H0 H H' : Hp} {lv la : Addr} {ds : List Addr} {cs : List MC} {c : MC}
theorem LvAt.dict (h : LvAt H0 H lv ds cs) {i : Nat} {c : MC} (hc : cs[i]? = some c) : ∃ d, ds[i]? = some d ∧ H d = some (.dK (mcV c)) := by
  have hi := (List.getElem?_eq_some_iff.mp hc).1
  obtain ⟨d, hd⟩ : ∃ d, ds[i]? = some d := ⟨_, List.getElem?_eq_getElem (by rw [h.len]; exact hi)⟩
  exact ⟨d, hd, h.dat i d c hd hc⟩
theorem LvAt.mem (h : LvAt H0 H lv ds cs) {d : Addr} (hd : d ∈ ds) : ∃ c, H d = some (.dK (mcV c)) := by
  obtain ⟨i, hi⟩ := List.mem_iff_getElem?.mp hd
  have lt := (List.getElem?_eq_some_iff.mp hi).1
  exact ⟨_, h.dat i d _ hi (List.getElem?_eq_getElem (by rw [← h.len]; exact lt))⟩
theorem LvAt.ne (h : LvAt H0 H lv ds cs) {d : Addr} (hd : d ∈ ds) : d ≠ lv := fun e => by
  obtain ⟨c, hc⟩ := h.mem hd
  rw [e, h.at_] at hc
  cases hc
theorem LvAt.mono (h : LvAt H0 H lv ds cs) (s : Same H H') : LvAt H0 H' lv ds cs :=
  ⟨h.same.trans s, s _ _ h.at_, h.lvn, h.len, fun i d c hd hc => s _ _ (h.dat i d c hd hc), h.new, h.nd⟩
theorem LvAt.app (h : LvAt H0 H lv ds cs) (hl : H la = some (.dK (mcV c))) (nl : H0 la = none) (nm : la ∉ ds) : LvAt H0 (upd H lv (.lst (ds.map V.ref ++ [.ref la]))) lv (ds ++ [la]) (cs ++ [c]) := by
  have nlv : la ≠ lv := fun e => by rw [e, h.at_] at hl; cases hl
  refine ⟨fun b o hb => ?_, by rw [upd_same, List.map_append]; rfl, h.lvn, by rw [List.length_append, List.length_append, h.len]; rfl, fun i d c' hd hc => ?_, fun d hd => ?_, ?_⟩
  · rw [upd_ne (ne_of_none hb h.lvn)]
    exact h.same _ _ hb
  · rcases Nat.lt_or_ge i ds.length with z | z
    · rw [List.getElem?_append_left z] at hd
      rw [List.getElem?_append_left (by rw [← h.len]; exact z)] at hc
      rw [upd_ne (h.ne (List.mem_of_getElem? hd))]
      exact h.dat i d c' hd hc
    · rw [List.getElem?_append_right z] at hd
      rw [List.getElem?_append_right (by rw [← h.len]; exact z)] at hc
      have i0 : i - ds.length = 0 := by
        have := (List.getElem?_eq_some_iff.mp hd).1
        simpa using this
      rw [i0] at hd
      rw [← h.len, i0] at hc
      cases hd
      cases hc
      rw [upd_ne nlv]
      exact hl
  · rcases List.mem_append.mp hd with z | z
    · exact h.new d z
    · rw [List.mem_singleton.mp z]; exact nl
  · rw [List.nodup_append]
    refine ⟨h.nd, List.nodup_cons.mpr ⟨List.not_mem_nil, List.nodup_nil⟩, fun a ha b hb e => ?_⟩
    rw [List.mem_singleton.mp hb] at e
    exact nm (e ▸ ha)
theorem LvAt.put (h : LvAt H0 H lv ds cs) {j : Nat} {d : Addr} (hd : ds[j]? = some d) (c' : MC) : LvAt H0 (upd H d (.dK (mcV c'))) lv ds (cs.set j c') := by
  have dm := List.mem_of_getElem? hd
  have jl := (List.getElem?_eq_some_iff.mp hd).1
  refine ⟨fun b o hb => ?_, by rw [upd_ne (h.ne dm).symm]; exact h.at_, h.lvn, by rw [List.length_set]; exact h.len, fun i d2 c2 hd2 hc2 => ?_, h.new, h.nd⟩
  · rw [upd_ne (ne_of_none hb (h.new d dm))]
    exact h.same _ _ hb
  · by_cases e : i = j
    · subst e
      rw [hd] at hd2
      cases hd2
      rw [List.getElem?_set_self (by rw [← h.len]; exact jl)] at hc2
      cases hc2
      exact upd_same
    · rw [List.getElem?_set_ne (Ne.symm e)] at hc2
      have ne : d2 ≠ d := fun z => e (nd_at h.nd (z ▸ hd2) hd)
      rw [upd_ne ne]
      exact h.dat i d2 c2 hd2 hc2
theorem LvAt.swap (h : LvAt H0 H lv ds cs) {j : Nat} (hj : j < ds.length) (hl : H la = some (.dK (mcV c))) (nl : H0 la = none) (nm : la ∉ ds) : LvAt H0 (upd H lv (.lst ((ds.map V.ref).set j (.ref la)))) lv (ds.set j la) (cs.set j c) := by
  have nlv : la ≠ lv := fun e => by rw [e, h.at_] at hl; cases hl
  refine ⟨fun b o hb => ?_, by rw [upd_same, List.map_set], h.lvn, by rw [List.length_set, List.length_set]; exact h.len, fun i d2 c2 hd2 hc2 => ?_, fun d hd => ?_, ?_⟩
  · rw [upd_ne (ne_of_none hb h.lvn)]
    exact h.same _ _ hb
  · by_cases e : i = j
    · subst e
      rw [List.getElem?_set_self hj] at hd2
      rw [List.getElem?_set_self (by rw [← h.len]; exact hj)] at hc2
      cases hd2
      cases hc2
      rw [upd_ne nlv]
      exact hl
    · rw [List.getElem?_set_ne (Ne.symm e)] at hd2 hc2
      rw [upd_ne (h.ne (List.mem_of_getElem? hd2))]
      exact h.dat i d2 c2 hd2 hc2
  · rcases List.mem_or_eq_of_mem_set hd with z | z
    · exact h.new d z
    · rw [z]; exact nl
  · rw [List.nodup_iff_pairwise_ne, List.pairwise_iff_getElem] at *
    intro a b ha hb hab
    have hnd := h.nd
    rw [List.nodup_iff_pairwise_ne, List.pairwise_iff_getElem] at hnd
    rw [List.length_set] at ha hb
    rw [List.getElem_set, List.getElem_set]
    split
    · split
      · omega
      · exact fun e => nm (e ▸ List.getElem_mem hb)
    · split
      · exact fun e => nm (e ▸ List.getElem_mem ha)
      · exact hnd a b ha hb hab
end
/-- while the keys of the dict at ca are walked, and the one at la grows -/
structure FzS (H2 H : Hp) (ca la : Addr) (od : Obj) (c lat : MC) : Prop where
  hc : H ca = some (.frz od (.dK (mcV c)))
  hl : H la = some (.dK (mcV lat))
  rest : ∀ a o, a ≠ la → a ≠ ca → H2 a = some o → H a = some o
section
variable {H0 H2 H H' : Hp} {ca la : Addr} {od : Obj} {c lat lat' : MC}
theorem FzS.mono (f : FzS H2 H ca la od c lat) (s : Same H H') : FzS H2 H' ca la od c lat := ⟨s _ _ f.hc, s _ _ f.hl, fun a o h1 h2 h => s _ _ (f.rest a o h1 h2 h)⟩
theorem FzS.put (f : FzS H2 H ca la od c lat) (ne : ca ≠ la) (lat' : MC) : FzS H2 (upd H la (.dK (mcV lat'))) ca la od c lat' := ⟨by rw [upd_ne ne]; exact f.hc, upd_same, fun a o h1 h2 h => by rw [upd_ne h1]; exact f.rest a o h1 h2 h⟩
end
def part (n L R p j : Nat) : MC := ((lev n L R p).take j).map (fun m => (m, valM n L R p m)) ++ zs ((lev n L R p).drop j)
end NG
namespace NG
open PySem PySem.Spec PyProof.Rows L2 NP ND NK
end NG
set_option Elab.async false
set_option linter.all false
set_option maxRecDepth 100000
namespace NG
open PySem PySem.Spec PyProof.Rows L2 NP ND NK
def PotAt (H : Hp) (p : Addr) : Prop := ∃ a b c : Int, H p = some (.lst [.int a, .int b, .int c])
end NG
set_option Elab.async false
set_option linter.all false
set_option maxRecDepth 100000
namespace NG
open PySem PySem.Spec PyProof.Rows L2 NP ND NK
def dcE (c s : Int) : Nat → Int × Int
  | 0 => (1 / c, 1 % c)
  | k + 1 => ((dcE c s k).1 * s + (dcE c s k).2 * s / c, (dcE c s k).2 * s % c)
def okR (c s a b : Int) (k : Nat) : Prop := (dcE c s k).2 * b ≤ a * s ^ k
instance (c s a b : Int) (k : Nat) : Decidable (okR c s a b k) := inferInstanceAs (Decidable (_ ≤ _))
/-- a share at a tuple -/
structure ShA (K : PySem.W.Frag) (H : Hp) (sp : Addr) (a b : Int) : Prop where
  sq : SqT K H sp [.int a, .int b]
  a0 : 0 ≤ a
  a1 : a ≤ 999999999999
  b0 : 1 ≤ b
  b1 : b ≤ 999999999999
theorem ShA.same {K : PySem.W.Frag} {H H' : Hp} {sp : Addr} {a b : Int} (h : ShA K H sp a b) (s : Same H H') : ShA K H' sp a b := ⟨le_seqT (le_same s) h.sq, h.a0, h.a1, h.b0, h.b1⟩
end NG
set_option Elab.async false
set_option linter.all false
set_option maxRecDepth 100000
namespace NG
open PySem PySem.Spec PyProof.Rows L2 NP ND NK NQ
structure OpAt (H : Hp) (op : Addr) (ts : List Addr) (c s : Int) : Prop where
  at_ : H op = some (.lst (ts.map V.ref))
  len : ts.length = 301
  ok : ∀ (k : Nat) (a : Addr), ts[k]? = some a → H a = some (.tup [.int (dcE c s k).1, .int (dcE c s k).2])
theorem OpAt.same {H H' : Hp} {op : Addr} {ts : List Addr} {c s : Int} (h : OpAt H op ts c s) (e : Same H H') : OpAt H' op ts c s := ⟨e _ _ h.at_, h.len, fun k a ha => e _ _ (h.ok k a ha)⟩
end NG
set_option Elab.async false
set_option linter.all false
set_option maxRecDepth 100000
namespace NG
open PySem PySem.Spec PyProof.Rows L2 NP ND NK NQ
def ShsAt (H : Hp) (ss : List Addr) : Prop := ∀ a ∈ ss, ∃ x y : Int, H a = some (.tup [.int x, .int y]) ∧ 0 ≤ x ∧ x ≤ 999999999999 ∧ 1 ≤ y ∧ y ≤ 999999999999
theorem ShsAt.same {H H' : Hp} {ss : List Addr} (h : ShsAt H ss) (e : Same H H') : ShsAt H' ss := fun a ha => by
  obtain ⟨x, y, g, r⟩ := h a ha
  exact ⟨x, y, e _ _ g, r⟩
theorem ShsAt.upd {H : Hp} {ss : List Addr} {p : Addr} {xs ys : List V} (h : ShsAt H ss) (g : H p = some (.lst xs)) : ShsAt (upd H p (.lst ys)) ss := fun a ha => by
  obtain ⟨x, y, g', r⟩ := h a ha
  exact ⟨x, y, by rw [upd_ne (fun e => by rw [e, g] at g'; cases g')]; exact g', r⟩
theorem OpAt.but {H H' : Hp} {op p : Addr} {ts : List Addr} {c s : Int} (h : OpAt H op ts c s) (w : PotAt H p) (e : SameBut p H H') : OpAt H' op ts c s := by
  obtain ⟨x, y, z, w⟩ := w
  refine ⟨e _ _ (fun q => ?_) h.at_, h.len, fun k a ha => e _ _ (fun q => ?_) (h.ok k a ha)⟩
  · rw [← q, h.at_] at w
    injection w with w
    injection w with w
    have := congrArg List.length w
    rw [List.length_map, h.len] at this
    cases this
  · have := h.ok k a ha
    rw [q, w] at this
    cases this
end NG
set_option Elab.async false
set_option linter.all false
set_option maxRecDepth 100000
namespace NG
open PySem PySem.Spec PyProof.Rows L2 NP ND NK NQ
end NG
set_option Elab.async false
set_option linter.all false
set_option maxRecDepth 100000
namespace NG
open PySem PySem.Spec PyProof.Rows L2 NP ND NK NQ
abbrev Arr := List (List Nat)
def addAt (A : Arr) (t p w : Nat) : Arr := A.set t ((A.getD t []).set p ((A.getD t []).getD p 0 + w))
structure WfA (n : Nat) (A : Arr) : Prop where
  len : A.length = n
  row : ∀ r ∈ A, r.length = n
theorem WfA.get {n : Nat} {A : Arr} (h : WfA n A) {t : Nat} (ht : t < n) : A[t]? = some (A.getD t []) ∧ (A.getD t []).length = n := by
  have hl : t < A.length := by rw [h.len]; exact ht
  have e : A.getD t [] = A[t] := by rw [List.getD_eq_getElem?_getD, List.getElem?_eq_getElem hl]; rfl
  rw [e]
  exact ⟨List.getElem?_eq_getElem hl, h.row _ (List.getElem_mem _)⟩
theorem add_zero {n : Nat} {A : Arr} (h : WfA n A) {t p : Nat} (ht : t < n) : addAt A t p 0 = A := by
  unfold addAt
  have hg := h.get ht
  have e : (A.getD t []).set p ((A.getD t []).getD p 0 + 0) = A.getD t [] := by
    rw [Nat.add_zero]
    generalize A.getD t [] = row
    by_cases hp : p < row.length
    · rw [List.getD_eq_getElem?_getD, List.getElem?_eq_getElem hp]
      exact List.set_getElem_self hp
    · exact List.set_eq_of_length_le (by omega)
  rw [e]
  have hl : t < A.length := by rw [h.len]; exact ht
  have e2 : A.getD t [] = A[t] := by rw [List.getD_eq_getElem?_getD, List.getElem?_eq_getElem hl]; rfl
  rw [e2]
  exact List.set_getElem_self hl
abbrev Ent := List (List Int × Nat)
end NG
set_option Elab.async false
set_option linter.all false
set_option maxRecDepth 100000
namespace NG
open PySem PySem.Spec PyProof.Rows L2 NP ND NK NQ
section
variable {l r : Int}
end
end NG
set_option Elab.async false
set_option linter.all false
set_option maxRecDepth 100000
namespace NG
open PySem PySem.Spec PyProof.Rows L2 NP ND NK NQ
theorem nd_subA {α : Type} [DecidableEq α] : ∀ {xs ys : List α}, xs.Nodup → (∀ x ∈ xs, x ∈ ys) → xs.length ≤ ys.length
  | [], _, _, _ => Nat.zero_le _
  | x :: xs, ys, nd, h => by
    have hx := h x (.head _)
    have := nd_subA (xs := xs) (ys := ys.erase x) (List.nodup_cons.mp nd).2 fun y hy => by
      have ne : y ≠ x := fun e => (List.nodup_cons.mp nd).1 (e ▸ hy)
      exact (List.mem_erase_of_ne ne).mpr (h y (.tail _ hy))
    rw [List.length_erase_of_mem hx] at this
    have := List.length_pos_of_mem hx
    rw [List.length_cons]
    omega
theorem ent_len {l r : Int} (l0 : 0 ≤ l) (l1 : l ≤ 3) (r0 : 0 ≤ r) (r1 : r ≤ 3) {E : Ent} (nd : (E.map (·.1)).Nodup) (hs : ∀ x ∈ E, x.1 ∈ standsL l r) : E.length ≤ 100 := by
  obtain ⟨_, few, _, _⟩ := stands_nd l0 l1 r0 r1
  have := nd_subA nd (ys := standsL l r) fun s hs' => by
    obtain ⟨x, hx, rfl⟩ := List.mem_map.mp hs'
    exact hs x hx
  rw [List.length_map] at this
  omega
section
variable {L R : Nat} (hL : L ≤ 3) (hR : R ≤ 3)
include hL hR
end
structure ArrAt (H0 H : Hp) (cp : Addr) (ts : List Addr) (A : Arr) : Prop where
  new : H0 cp = none
  nws : ∀ a ∈ ts, H0 a = none
  at_ : H cp = some (.lst (ts.map V.ref))
  len : ts.length = A.length
  ok : ∀ (i : Nat) (a : Addr), ts[i]? = some a → H a = some (.lst (nV (A.getD i [])))
  nd : ts.Nodup
  ne : ∀ a ∈ ts, a ≠ cp
theorem ArrAt.same {H0 H H' : Hp} {cp : Addr} {ts : List Addr} {A : Arr} (h : ArrAt H0 H cp ts A) (e : Same H H') : ArrAt H0 H' cp ts A := ⟨h.new, h.nws, e _ _ h.at_, h.len, fun i a ha => e _ _ (h.ok i a ha), h.nd, h.ne⟩
theorem ArrAt.keep {H0 H H' : Hp} {cp : Addr} {ts : List Addr} {A : Arr} (h : ArrAt H0 H cp ts A) (e : ∀ b xs, H b = some (.lst xs) → H' b = some (.lst xs)) : ArrAt H0 H' cp ts A := ⟨h.new, h.nws, e _ _ h.at_, h.len, fun i a ha => e _ _ (h.ok i a ha), h.nd, h.ne⟩
theorem nV_set (row : List Nat) (p v : Nat) : (nV row).set p (.int ((v : Nat) : Int)) = nV (row.set p v) := by
  unfold nV
  rw [List.map_set]
theorem ArrAt.put {H0 H : Hp} {cp : Addr} {ts : List Addr} {A : Arr} (h : ArrAt H0 H cp ts A) {t p v : Nat} {a : Addr} (ha : ts[t]? = some a) {w : Nat} (hv : v = (A.getD t []).getD p 0 + w) : ArrAt H0 (upd H a (.lst ((nV (A.getD t [])).set p (.int ((v : Nat) : Int))))) cp ts (addAt A t p w) := by
  have hm := List.mem_of_getElem? ha
  refine ⟨h.new, h.nws, by rw [upd_ne (h.ne a hm).symm]; exact h.at_, by unfold addAt; rw [List.length_set]; exact h.len, fun i b hb => ?_, h.nd, h.ne⟩
  have tl : t < A.length := by rw [← h.len]; exact (List.getElem?_eq_some_iff.mp ha).1
  by_cases c : i = t
  · subst c
    rw [ha] at hb
    cases hb
    rw [upd_same, nV_set, hv]
    unfold addAt
    rw [List.getD_eq_getElem?_getD (l := A.set _ _), List.getElem?_set_self tl]
    rfl
  · have ne : b ≠ a := fun e => by
      subst e
      have h1 := (List.getElem?_eq_some_iff.mp ha)
      have h2 := (List.getElem?_eq_some_iff.mp hb)
      have pw := List.pairwise_iff_getElem.mp h.nd
      rcases Nat.lt_trichotomy i t with z | z | z
      · exact pw i t h2.1 h1.1 z (h2.2.trans h1.2.symm)
      · exact c z
      · exact pw t i h1.1 h2.1 z (h1.2.trans h2.2.symm)
    rw [upd_ne ne, h.ok i b hb]
    unfold addAt
    rw [List.getD_eq_getElem?_getD (l := A.set _ _), List.getElem?_set_ne (fun z => c z.symm), ← List.getD_eq_getElem?_getD]
end NG
set_option Elab.async false
set_option linter.all false
set_option maxRecDepth 100000
namespace NG
open PySem PySem.Spec PyProof.Rows L2 NP ND NK NQ
abbrev Pol := List Nat
/-- a list of counts and a dict of counts tell the same -/
structure PolM (c : Pol) (D : MC) : Prop where
  get : ∀ t, c.getD t 0 = getM D t
  lt : ∀ x ∈ D, x.1 < c.length
  top : c ≠ [] → ∃ x ∈ D, x.1 + 1 = c.length
  nd : (D.map (·.1)).Nodup
end NG
set_option Elab.async false
set_option linter.all false
set_option maxRecDepth 100000
namespace NG
open PySem PySem.Spec PyProof.Rows L2 NP ND NK NQ
section
variable {X : Cx}
end
end NG
set_option Elab.async false
set_option linter.all false
set_option maxRecDepth 100000
namespace NG
open PySem PySem.Spec PyProof.Rows L2 NP ND NK NQ
section
variable {X : Cx} {CX : CXT} {E : XK} {e : Expr} {es : List Expr} {tf : TE} {t : TA} {p1 pos : Pos} {x : Str} {R : Addr → Sp → Prop}
end
end NG
set_option Elab.async false
set_option linter.all false
set_option maxRecDepth 100000
namespace NG
open PySem PySem.Spec PyProof.Rows L2 NP ND NK NQ
section
variable {α β : Type} {f : α → V}
def setG (E : List (List Int × α)) (s : List Int) (v : α) : List (List Int × α) := if (E.any fun x => x.1 == s) = true then E.map fun x => if (x.1 == s) = true then (s, v) else x else E ++ [(s, v)]
def dV (f : α → V) (E : List (List Int × α)) : List (List Key × V) := E.map fun x => (kI x.1, f x.2)
theorem setG_mem {E : List (List Int × α)} {s : List Int} {v : α} {x : List Int × α} (h : x ∈ setG E s v) : x ∈ E ∨ x = (s, v) := by
  unfold setG at h
  split at h
  · obtain ⟨y, hy, rfl⟩ := List.mem_map.mp h
    split
    · exact .inr rfl
    · exact .inl hy
  · exact (List.mem_append.mp h).imp id fun z => List.mem_singleton.mp z
theorem setG_nd {E : List (List Int × α)} {s : List Int} {v : α} (h : (E.map (·.1)).Nodup) : ((setG E s v).map (·.1)).Nodup := by
  unfold setG
  split
  · rw [List.map_map]
    have : E.map ((fun x => x.1) ∘ fun x => if (x.1 == s) = true then (s, v) else x) = E.map (·.1) := List.map_congr_left fun x _ => by
      show (if (x.1 == s) = true then (s, v) else x).1 = x.1
      by_cases c : (x.1 == s) = true
      · rw [if_pos c]; exact (eq_of_beq c).symm
      · rw [if_neg c]
    rw [this]
    exact h
  · rename_i c
    rw [List.map_append, List.nodup_append]
    refine ⟨h, List.nodup_cons.mpr ⟨List.not_mem_nil, List.nodup_nil⟩, fun a ha b hb e => ?_⟩
    obtain ⟨x, hx, rfl⟩ := List.mem_map.mp ha
    rw [List.mem_singleton.mp hb] at e
    exact c (List.any_eq_true.mpr ⟨x, hx, by simpa using e⟩)
end
/-- the row as the program keeps it: each stand, its counts, and where the list of them lies -/
abbrev EntA := List (List Int × Pol × Addr)
def pV (E : EntA) : List (List Key × V) := dV (fun x : Pol × Addr => V.ref x.2) E
/-- what holds of a row -/
structure EntOk (l r : Int) (B : Nat) (E : EntA) : Prop where
  nd : (E.map (·.1)).Nodup
  ks : ∀ x ∈ E, x.1 ∈ standsL l r
  le : ∀ x ∈ E, x.2.1.length ≤ B
theorem EntOk.len {l r : Int} {B : Nat} {E : EntA} (h : EntOk l r B E) (l0 : 0 ≤ l) (l1 : l ≤ 3) (r0 : 0 ≤ r) (r1 : r ≤ 3) : E.length ≤ 100 := by
  have := ent_len (E := E.map fun x => (x.1, 0)) l0 l1 r0 r1 (by rw [List.map_map]; exact h.nd) (fun x hx => by
    obtain ⟨y, hy, rfl⟩ := List.mem_map.mp hx
    exact h.ks y hy)
  rw [List.length_map] at this
  exact this
theorem EntOk.set {l r : Int} {B : Nat} {E : EntA} (h : EntOk l r B E) {s : List Int} {c : Pol} {a : Addr} (hs : s ∈ standsL l r) (hc : c.length ≤ B) : EntOk l r B (setG E s (c, a)) :=
  ⟨setG_nd h.nd, fun x hx => (setG_mem hx).elim (h.ks x) (fun e => by rw [e]; exact hs), fun x hx => (setG_mem hx).elim (h.le x) (fun e => by rw [e]; exact hc)⟩
/-- the row, and the one behind it, while the stands are walked -/
structure SbAt (H0 H : Hp) (aa la : Addr) (od : Obj) (E lat : EntA) : Prop where
  but : ∀ b o, b ≠ aa → H0 b = some o → H b = some o
  fz : H aa = some (.frz od (.dT (pV E)))
  lt : H la = some (.dT (pV lat))
  ls : ∀ x ∈ lat, H x.2.2 = some (.lst (nV x.2.1))
theorem SbAt.on {H0 H H' : Hp} {aa la : Addr} {od : Obj} {E lat : EntA} (h : SbAt H0 H aa la od E lat) (s : Same H H') : SbAt H0 H' aa la od E lat := ⟨fun b o n e => s _ _ (h.but b o n e), s _ _ h.fz, s _ _ h.lt, fun x hx => s _ _ (h.ls x hx)⟩
theorem SbAt.put {H0 H : Hp} {aa la : Addr} {od : Obj} {E lat : EntA} (h : SbAt H0 H aa la od E lat) (nl : H0 la = none) {s : List Int} {c : Pol} {a : Addr} (ha : H a = some (.lst (nV c))) : SbAt H0 (upd H la (.dT (pV (setG lat s (c, a))))) aa la od E (setG lat s (c, a)) := by
  have ne : ∀ {b : Addr} {xs : List V}, H b = some (.lst xs) → b ≠ la := fun e z => by rw [z, h.lt] at e; cases e
  refine ⟨fun b o n e => by rw [upd_ne (ne_of_none e nl)]; exact h.but b o n e, by rw [upd_ne (fun z => by have := h.fz; rw [z, h.lt] at this; cases this)]; exact h.fz, upd_same, fun x hx => ?_⟩
  rcases setG_mem hx with z | z
  · have := h.ls x z
    rw [upd_ne (ne this)]
    exact this
  · rw [z, upd_ne (ne ha)]
    exact ha
end NG
namespace NG
open PySem PySem.Spec PyProof.Rows L2 NP ND NK NQ
end NG
set_option Elab.async false
set_option linter.all false
set_option maxRecDepth 100000
namespace NG
open PySem PySem.Spec PyProof.Rows L2 NP ND NK NQ
structure PairT (L R : Nat) (x : List Int × Pol × Nat) (y : Nat × MC × Nat) : Prop where
  m : y.1 = rm L R x.1
  p : PolM x.2.1 y.2.1
  ne : x.2.1 ≠ []
  st : x.1 ∈ standsL (L : Int) (R : Int)
  g : x.2.2 = y.2.2
inductive AlikeT (L R : Nat) : List (List Int × Pol × Nat) → List (Nat × MC × Nat) → Prop
  | nil : AlikeT L R [] []
  | cons {x y E F} : PairT L R x y → AlikeT L R E F → AlikeT L R (x :: E) (y :: F)
theorem AlikeT.app {L R : Nat} {a b c d} (h : AlikeT L R a b) (h2 : AlikeT L R c d) : AlikeT L R (a ++ c) (b ++ d) := by
  induction h with
  | nil => exact h2
  | cons p _ ih => exact .cons p ih
section
variable {L R : Nat} (hL : L ≤ 3) (hR : R ≤ 3)
include hL hR
end
end NG
set_option Elab.async false
set_option linter.all false
set_option maxRecDepth 100000
namespace NG
open PySem PySem.Spec PyProof.Rows L2 NP ND NK NQ
/-- the rows as a law keeps them: each mask, its dict of counts, and where that lies -/
abbrev RowA := List (Nat × MC × Addr)
def rV (E : RowA) : List (Key × V) := E.map fun x => ((Sum.inl ((x.1 : Nat) : Int) : Key), V.ref x.2.2)
def getA (E : RowA) (m : Nat) : Option (MC × Addr) := (E.find? fun x => x.1 == m).map (·.2)
def setA (E : RowA) (m : Nat) (D : MC) : RowA := E.map fun x => if (x.1 == m) = true then (x.1, D, x.2.2) else x
theorem getA_at : ∀ {E : RowA} {x : Nat × MC × Addr}, (E.map (·.1)).Nodup → x ∈ E → getA E x.1 = some x.2
  | [], _, _, h => by cases h
  | y :: E, x, nd, h => by
    unfold getA
    rw [List.map_cons] at nd
    by_cases e : y.1 = x.1
    · rw [List.find?_cons_of_pos (p := fun z : Nat × MC × Addr => z.1 == x.1) (by simp [e])]
      rcases List.mem_cons.mp h with z | z
      · rw [z]; rfl
      · exact absurd (show y.1 ∈ E.map (·.1) by rw [e]; exact List.mem_map.mpr ⟨x, z, rfl⟩) (List.nodup_cons.mp nd).1
    · rw [List.find?_cons_of_neg (p := fun z : Nat × MC × Addr => z.1 == x.1) (by simpa using e)]
      rcases List.mem_cons.mp h with z | z
      · exact absurd (by rw [z]) e
      · exact getA_at (List.nodup_cons.mp nd).2 z
theorem getA_none {E : RowA} {m : Nat} (h : getA E m = none) : ∀ x ∈ E, x.1 ≠ m := fun x hx e => by
  unfold getA at h
  have := List.find?_eq_none.mp (Option.map_eq_none_iff.mp h) x hx
  exact this (by simpa using e)
theorem rV_set (E : RowA) (m : Nat) (D : MC) : rV (setA E m D) = rV E := by
  unfold rV setA
  rw [List.map_map]
  refine List.map_congr_left fun x _ => ?_
  show ((Sum.inl (((if (x.1 == m) = true then (x.1, D, x.2.2) else x).1 : Nat) : Int) : Key), V.ref (if (x.1 == m) = true then (x.1, D, x.2.2) else x).2.2) = _
  split <;> rfl
/-- what holds of such rows -/
structure RowOk (B : Nat) (E : RowA) : Prop where
  nd : (E.map (·.1)).Nodup
  lt : ∀ x ∈ E, x.1 < 128
  ds : ∀ x ∈ E, (x.2.1.map (·.1)).Nodup ∧ ∀ y ∈ x.2.1, y.1 < B
theorem lt_len {xs : List Nat} {B : Nat} (nd : xs.Nodup) (h : ∀ x ∈ xs, x < B) : xs.length ≤ B := by
  have := nd_subA nd (ys := List.range B) fun x hx => List.mem_range.mpr (h x hx)
  rw [List.length_range] at this
  exact this
theorem RowOk.len {B : Nat} {E : RowA} (h : RowOk B E) : E.length ≤ 128 := by
  have := lt_len h.nd fun m hm => by
    obtain ⟨x, hx, rfl⟩ := List.mem_map.mp hm
    exact h.lt x hx
  rw [List.length_map] at this
  exact this
/-- the rows, and the later ones, while the masks are walked -/
structure MsAt (H0 H : Hp) (ra la : Addr) (od : Obj) (E lat : RowA) : Prop where
  same : Same H0 H
  fz : H ra = some (.frz od (.dK (rV E)))
  lt : H la = some (.dK (rV lat))
  ins : ∀ x ∈ E, H x.2.2 = some (.dK (mcV x.2.1)) ∧ x.2.2 ≠ la
  lns : ∀ x ∈ lat, H x.2.2 = some (.dK (mcV x.2.1)) ∧ H0 x.2.2 = none ∧ x.2.2 ≠ la
  nd : (lat.map (·.2.2)).Nodup
  ap : ∀ x ∈ lat, ∀ y ∈ E, x.2.2 ≠ y.2.2
theorem MsAt.on {H0 H H' : Hp} {ra la : Addr} {od : Obj} {E lat : RowA} (h : MsAt H0 H ra la od E lat) (s : Same H H') : MsAt H0 H' ra la od E lat :=
  ⟨h.same.trans s, s _ _ h.fz, s _ _ h.lt, fun x hx => ⟨s _ _ (h.ins x hx).1, (h.ins x hx).2⟩, fun x hx => ⟨s _ _ (h.lns x hx).1, (h.lns x hx).2⟩, h.nd, h.ap⟩
/-- a new mask -/
theorem MsAt.new {H0 H : Hp} {ra la a : Addr} {od : Obj} {E lat : RowA} {m : Nat} (h : MsAt H0 H ra la od E lat) (nl : H0 la = none) (na : H a = none) : MsAt H0 (upd (upd H a (.dK [])) la (.dK (rV (lat ++ [(m, [], a)])))) ra la od E (lat ++ [(m, [], a)]) := by
  have e := same_new na (.dK [])
  have al : a ≠ la := (ne_of_none h.lt na).symm
  have ral : ra ≠ la := fun z => by have := h.fz; rw [z, h.lt] at this; cases this
  refine ⟨fun b o hb => by rw [upd_ne (ne_of_none hb nl)]; exact e _ _ (h.same _ _ hb), by rw [upd_ne ral]; exact e _ _ h.fz, upd_same, fun x hx => ⟨by rw [upd_ne (h.ins x hx).2]; exact e _ _ (h.ins x hx).1, (h.ins x hx).2⟩, fun x hx => ?_, ?_, fun x hx y hy => ?_⟩
  · rcases List.mem_append.mp hx with z | z
    · exact ⟨by rw [upd_ne (h.lns x z).2.2]; exact e _ _ (h.lns x z).1, (h.lns x z).2⟩
    · rw [List.mem_singleton.mp z]
      exact ⟨by rw [upd_ne al]; exact upd_same, h.same.free na, al⟩
  · rw [List.map_append, List.nodup_append]
    refine ⟨h.nd, List.nodup_cons.mpr ⟨List.not_mem_nil, List.nodup_nil⟩, fun b hb c hc e => ?_⟩
    obtain ⟨x, hx, rfl⟩ := List.mem_map.mp hb
    rw [List.mem_singleton.mp hc] at e
    have := (h.lns x hx).1
    rw [e, na] at this
    cases this
  · rcases List.mem_append.mp hx with z | z
    · exact h.ap x z y hy
    · rw [List.mem_singleton.mp z]
      exact (ne_of_none (h.ins y hy).1 na).symm
/-- more in one of them -/
theorem MsAt.put {H0 H : Hp} {ra la a : Addr} {od : Obj} {E lat : RowA} {m : Nat} {D D' : MC} (h : MsAt H0 H ra la od E lat) (nm : (lat.map (·.1)).Nodup) (hm : (m, D, a) ∈ lat) : MsAt H0 (upd H a (.dK (mcV D'))) ra la od E (setA lat m D') := by
  obtain ⟨h1, h2, h3⟩ := h.lns _ hm
  have raa : ra ≠ a := fun z => by have := h.fz; rw [z, h1] at this; cases this
  have key : ∀ x ∈ lat, (x.1 == m) = true → x = (m, D, a) := fun x hx e => by
    have g1 := getA_at nm hx
    have g2 := getA_at nm hm
    rw [eq_of_beq e, g2] at g1
    injection g1 with g1
    exact Prod.ext (eq_of_beq e) g1.symm
  have other : ∀ x ∈ lat, ¬ (x.1 == m) = true → x.2.2 ≠ a := fun x hx ne e => by
    obtain ⟨i, hi, ei⟩ := List.getElem_of_mem hx
    obtain ⟨j, hj, ej⟩ := List.getElem_of_mem hm
    have pw := List.pairwise_iff_getElem.mp h.nd
    have ni : i ≠ j := fun z => by
      subst z
      rw [ei] at ej
      exact ne (by rw [ej]; simp)
    have a1 : (lat.map (·.2.2))[i]'(by rw [List.length_map]; exact hi) = a := by rw [List.getElem_map, ei]; exact e
    have a2 : (lat.map (·.2.2))[j]'(by rw [List.length_map]; exact hj) = a := by rw [List.getElem_map, ej]
    rcases Nat.lt_or_gt_of_ne ni with z | z
    · exact pw i j _ _ z (a1.trans a2.symm)
    · exact pw j i _ _ z (a2.trans a1.symm)
  refine ⟨fun b o hb => by rw [upd_ne (ne_of_none hb h2)]; exact h.same _ _ hb, by rw [upd_ne raa]; exact h.fz, by rw [rV_set, upd_ne h3.symm]; exact h.lt, fun x hx => ⟨by rw [upd_ne (h.ap _ hm x hx).symm]; exact (h.ins x hx).1, (h.ins x hx).2⟩, fun x hx => ?_, ?_, fun x hx y hy => ?_⟩
  · obtain ⟨z, hz, rfl⟩ := List.mem_map.mp hx
    by_cases c : (z.1 == m) = true
    · rw [if_pos c, key z hz c]
      exact ⟨upd_same, h2, h3⟩
    · rw [if_neg c, upd_ne (other z hz c)]
      exact h.lns z hz
  · have : (setA lat m D').map (·.2.2) = lat.map (·.2.2) := by
      unfold setA
      rw [List.map_map]
      refine List.map_congr_left fun x _ => ?_
      show (if (x.1 == m) = true then (x.1, D', x.2.2) else x).2.2 = x.2.2
      split <;> rfl
    rw [this]
    exact h.nd
  · obtain ⟨z, hz, rfl⟩ := List.mem_map.mp hx
    have : (if (z.1 == m) = true then (z.1, D', z.2.2) else z).2.2 = z.2.2 := by split <;> rfl
    rw [this]
    exact h.ap z hz y hy
end NG
namespace NG
open PySem PySem.Spec PyProof.Rows L2 NP ND NK NQ
theorem RowOk.new {B : Nat} {E : RowA} (h : RowOk B E) {m : Nat} {a : Addr} (hm : m < 128) (hn : getA E m = none) : RowOk B (E ++ [(m, [], a)]) := by
  refine ⟨?_, fun x hx => (List.mem_append.mp hx).elim (h.lt x) fun z => by rw [List.mem_singleton.mp z]; exact hm, fun x hx => (List.mem_append.mp hx).elim (h.ds x) fun z => by rw [List.mem_singleton.mp z]; exact ⟨List.nodup_nil, fun y hy => nomatch hy⟩⟩
  rw [List.map_append, List.nodup_append]
  refine ⟨h.nd, List.nodup_cons.mpr ⟨List.not_mem_nil, List.nodup_nil⟩, fun b hb c hc e => ?_⟩
  obtain ⟨x, hx, rfl⟩ := List.mem_map.mp hb
  rw [List.mem_singleton.mp hc] at e
  exact getA_none hn x hx e
theorem RowOk.set {B : Nat} {E : RowA} (h : RowOk B E) {m : Nat} {D : MC} (hd : (D.map (·.1)).Nodup ∧ ∀ y ∈ D, y.1 < B) : RowOk B (setA E m D) := by
  have ks : (setA E m D).map (·.1) = E.map (·.1) := by
    unfold setA
    rw [List.map_map]
    refine List.map_congr_left fun x _ => ?_
    show (if (x.1 == m) = true then (x.1, D, x.2.2) else x).1 = x.1
    split <;> rfl
  refine ⟨by rw [ks]; exact h.nd, fun x hx => ?_, fun x hx => ?_⟩
  · obtain ⟨z, hz, rfl⟩ := List.mem_map.mp hx
    split
    · exact h.lt z hz
    · exact h.lt z hz
  · obtain ⟨z, hz, rfl⟩ := List.mem_map.mp hx
    split
    · exact hd
    · exact h.ds z hz
end NG
set_option Elab.async false
set_option linter.all false
set_option maxRecDepth 100000
namespace NG
open PySem PySem.Spec PyProof.Rows L2 NP ND NK NQ
end NG
set_option Elab.async false
set_option linter.all false
set_option maxRecDepth 100000
namespace NG
open PySem PySem.Spec PyProof.Rows L2 NP ND NK NQ
end NG
set_option Elab.async false
set_option linter.all false
set_option maxRecDepth 100000
namespace NT
open PySem PySem.Spec PyProof.Rows L2 NP
def smallI (i : Int) : Bool := decide (i.natAbs < 2 ^ 140)
def okKv : List (PyData × PyData) → Bool
  | [] => true
  | [(.int a, .int b)] => smallI a && smallI b
  | _ => false
def okS : Nat → PyData → Bool
  | _, .none => true
  | _, .bool _ => true
  | _, .int i => smallI i
  | _, .str x => decide ((PyData.str x).shown.length ≤ 150) && PyData.strOk x
  | 0, _ => false
  | _ + 1, .dict kvs => okKv kvs
  | k + 1, .tuple ds => decide (ds.length ≤ 8) && ds.all (okS k)
  | k + 1, .list ds => decide (ds.length ≤ 8) && ds.all (okS k)
def bS : Nat → Nat
  | 0 => 150
  | k + 1 => (bS k + 2) * 8 + 400
theorem bS_le : ∀ k, 150 ≤ bS k
  | 0 => Nat.le_refl _
  | k + 1 => by
    have := bS_le k
    show 150 ≤ (bS k + 2) * 8 + 400
    omega
theorem small_int {i : Int} (h : smallI i = true) : (PyData.int i).showable = true ∧ (PyData.int i).shown.length ≤ 150 := by
  have h' : i.natAbs < 2 ^ 140 := of_decide_eq_true h
  obtain ⟨d, h1, h2, h3, h4⟩ := gd_int (K := default) (H := fun _ => none) h'
  cases h1 with
  | dp h1 => cases h1; exact ⟨h2, h3⟩
theorem sb_all {n k : Nat} : ∀ {ds : List PyData}, (∀ d ∈ ds, d.showable = true ∧ d.shown.length ≤ n ∧ d.depth ≤ k) → PyData.showableAll ds = true ∧ piled (PyData.shownAll ds) ≤ (n + 2) * ds.length ∧ PyData.depthAll ds ≤ k
  | [], _ => ⟨by unfold PyData.showableAll; rfl, by unfold PyData.shownAll; exact Nat.le_refl _, by unfold PyData.depthAll; exact Nat.zero_le _⟩
  | d :: ds, h => by
    obtain ⟨b, c, e⟩ := sb_all (ds := ds) fun u hu => h u (List.mem_cons_of_mem _ hu)
    obtain ⟨b1, c1, e1⟩ := h d List.mem_cons_self
    refine ⟨?_, ?_, ?_⟩
    · unfold PyData.showableAll; rw [b1, b]; rfl
    · unfold PyData.shownAll
      rw [piled_cons, List.length_cons, Nat.mul_succ]
      omega
    · unfold PyData.depthAll; exact Nat.max_le.mpr ⟨e1, e⟩
theorem okKv_sound {kvs : List (PyData × PyData)} (h : okKv kvs = true) : PyData.showableKv kvs = true ∧ (PyData.dict kvs).shown.length ≤ 400 ∧ PyData.depthKv kvs = 0 := by
  unfold okKv at h
  split at h
  · exact ⟨by unfold PyData.showableKv; rfl, by unfold PyData.shown PyData.shownKv; have := dict_le []; exact Nat.le_trans this (by decide), by unfold PyData.depthKv; rfl⟩
  · rename_i a b
    rw [Bool.and_eq_true] at h
    obtain ⟨a1, a2⟩ := small_int h.1
    obtain ⟨b1, b2⟩ := small_int h.2
    refine ⟨?_, ?_, ?_⟩
    · simp only [PyData.showableKv, a1, b1, Bool.and_self]
    · unfold PyData.shown
      simp only [PyData.shownKv]
      have h1 := dict_le [(PyData.int a).shown ++ ": " ++ (PyData.int b).shown]
      rw [piled_cons, show piled [] = 0 from rfl, strLen_append, strLen_append] at h1
      have h2 : (((": " : String) : Str)).length = 2 := rfl
      rw [h2] at h1
      omega
    · simp only [PyData.depthKv, PyData.depth]
      rfl
  · cases h
theorem okS_sound : ∀ (k : Nat) (d : PyData), okS k d = true → d.showable = true ∧ d.shown.length ≤ bS k ∧ d.depth ≤ k
  | k, .none, _ => ⟨by unfold PyData.showable; rfl, Nat.le_trans (show (PyData.none).shown.length ≤ 150 by decide +kernel) (bS_le k), by unfold PyData.depth; exact Nat.zero_le _⟩
  | k, .bool b, _ => ⟨by unfold PyData.showable; rfl, Nat.le_trans (show (PyData.bool b).shown.length ≤ 150 by cases b <;> decide +kernel) (bS_le k), by unfold PyData.depth; exact Nat.zero_le _⟩
  | k, .int i, h => by
    have h : smallI i = true := by cases k <;> exact h
    obtain ⟨a, b⟩ := small_int h
    exact ⟨a, Nat.le_trans b (bS_le k), by unfold PyData.depth; exact Nat.zero_le _⟩
  | k, .str x, h => by
    have h : (decide ((PyData.str x).shown.length ≤ 150) && PyData.strOk x) = true := by cases k <;> exact h
    rw [Bool.and_eq_true] at h
    exact ⟨by unfold PyData.showable; rfl, Nat.le_trans (of_decide_eq_true h.1) (bS_le k), by unfold PyData.depth; exact Nat.zero_le _⟩
  | 0, .dict _, h => by cases h
  | 0, .tuple _, h => by cases h
  | 0, .list _, h => by cases h
  | k + 1, .dict kvs, h => by
    obtain ⟨a, b, c⟩ := okKv_sound (show okKv kvs = true from h)
    refine ⟨by unfold PyData.showable; exact a, Nat.le_trans b ?_, by unfold PyData.depth; rw [c]; omega⟩
    show 400 ≤ (bS k + 2) * 8 + 400
    omega
  | k + 1, .tuple ds, h => by
    have h : (decide (ds.length ≤ 8) && ds.all (okS k)) = true := h
    rw [Bool.and_eq_true] at h
    have hl := of_decide_eq_true h.1
    obtain ⟨a, b, c⟩ := sb_all (n := bS k) (k := k) fun d hd => okS_sound k d (List.all_eq_true.mp h.2 d hd)
    have h3 : (bS k + 2) * ds.length ≤ (bS k + 2) * 8 := Nat.mul_le_mul_left _ hl
    have h4 := tup_le (PyData.shownAll ds)
    refine ⟨by unfold PyData.showable; exact a, ?_, by unfold PyData.depth; omega⟩
    unfold PyData.shown
    show (tupleText (PyData.shownAll ds)).length ≤ (bS k + 2) * 8 + 400
    omega
  | k + 1, .list ds, h => by
    have h : (decide (ds.length ≤ 8) && ds.all (okS k)) = true := h
    rw [Bool.and_eq_true] at h
    have hl := of_decide_eq_true h.1
    obtain ⟨a, b, c⟩ := sb_all (n := bS k) (k := k) fun d hd => okS_sound k d (List.all_eq_true.mp h.2 d hd)
    have h3 : (bS k + 2) * ds.length ≤ (bS k + 2) * 8 := Nat.mul_le_mul_left _ hl
    have h4 := list_le (PyData.shownAll ds)
    refine ⟨by unfold PyData.showable; exact a, ?_, by unfold PyData.depth; omega⟩
    unfold PyData.shown
    show (listText (PyData.shownAll ds)).length ≤ (bS k + 2) * 8 + 400
    omega
theorem okS_mono : ∀ {k m : Nat} {d : PyData}, okS k d = true → k ≤ m → okS m d = true
  | k, m, .none, _, _ => by cases m <;> rfl
  | k, m, .bool _, _, _ => by cases m <;> rfl
  | k, m, .int i, h, _ => by cases k <;> cases m <;> exact h
  | k, m, .str x, h, _ => by cases k <;> cases m <;> exact h
  | 0, _, .dict _, h, _ => by cases h
  | 0, _, .tuple _, h, _ => by cases h
  | 0, _, .list _, h, _ => by cases h
  | k + 1, 0, .dict _, _, l => by omega
  | k + 1, 0, .tuple _, _, l => by omega
  | k + 1, 0, .list _, _, l => by omega
  | k + 1, m + 1, .dict kvs, h, _ => h
  | k + 1, m + 1, .tuple ds, h, l => by
    have h : (decide (ds.length ≤ 8) && ds.all (okS k)) = true := h
    rw [Bool.and_eq_true] at h
    show (decide (ds.length ≤ 8) && ds.all (okS m)) = true
    rw [h.1, Bool.true_and]
    exact List.all_eq_true.mpr fun d hd => okS_mono (List.all_eq_true.mp h.2 d hd) (by omega)
  | k + 1, m + 1, .list ds, h, l => by
    have h : (decide (ds.length ≤ 8) && ds.all (okS k)) = true := h
    rw [Bool.and_eq_true] at h
    show (decide (ds.length ≤ 8) && ds.all (okS m)) = true
    rw [h.1, Bool.true_and]
    exact List.all_eq_true.mpr fun d hd => okS_mono (List.all_eq_true.mp h.2 d hd) (by omega)
def GV (K : PySem.W.Frag) (σ : L2.St) (te : TE) (d : PyData) : Prop := ∀ (H : Hp) (Q : VK), (∀ v H', Same H H' → Th K H' v d → Q v H') → te σ H Q
def GA (K : PySem.W.Frag) (σ : L2.St) (t : TA) (ds : List PyData) : Prop := ∀ (H : Hp) (Q : List V → Hp → Prop), (∀ vs H', Same H H' → ThAll K H' vs ds → Q vs H') → t σ H Q
theorem tha_len {K : PySem.W.Frag} {H : Hp} : ∀ {vs : List V} {ds : List PyData}, ThAll K H vs ds → vs.length = ds.length
  | _, _, .nil => rfl
  | _, _, .cons _ h => by rw [List.length_cons, List.length_cons, tha_len h]
section
variable {K : PySem.W.Frag} {σ : L2.St} {te te' : TE} {t : TA} {d : PyData} {ds : List PyData}
end
end NT
set_option Elab.async false
set_option linter.all false
set_option maxRecDepth 100000
namespace NG
open PySem PySem.Spec PyProof.Rows L2 NP ND NK NQ
def ThX (K : PySem.W.Frag) (pp : Addr) (H : Hp) (v : V) (d : PyData) : Prop := ∀ H', SameBut pp H H' → Th K H' v d
def ThXs (K : PySem.W.Frag) (pp : Addr) (H : Hp) (vs : List V) (ds : List PyData) : Prop := ∀ H', SameBut pp H H' → ThAll K H' vs ds
def GI (σ : L2.St) (te : TE) (a : Int) : Prop := ∀ (H : Hp) (Q : VK), Q (.int a) H → te σ H Q
def GX (K : PySem.W.Frag) (pp : Addr) (σ : L2.St) (te : TE) (d : PyData) : Prop := ∀ (H : Hp) (Q : VK), H pp ≠ none → (∀ v H', Same H H' → ThX K pp H' v d → Q v H') → te σ H Q
def GXs (K : PySem.W.Frag) (pp : Addr) (σ : L2.St) (t : TA) (ds : List PyData) : Prop := ∀ (H : Hp) (Q : List V → Hp → Prop), H pp ≠ none → (∀ vs H', Same H H' → ThXs K pp H' vs ds → Q vs H') → t σ H Q
section
variable {K : PySem.W.Frag} {pp : Addr} {H H1 : Hp} {v : V} {vs us : List V} {d : PyData} {ds es : List PyData} {σ : L2.St} {te te' : TE} {t : TA} {a b : Int}
theorem ThX.but (h : ThX K pp H v d) (s : SameBut pp H H1) : ThX K pp H1 v d := fun H' q => h H' (s.trans q)
theorem same_but (s : Same H H1) : SameBut pp H H1 := fun b o _ e => s b o e
theorem ThX.same (h : ThX K pp H v d) (s : Same H H1) : ThX K pp H1 v d := h.but (same_but s)
theorem ThX.th (h : ThX K pp H v d) : Th K H v d := h H fun _ _ _ e => e
theorem ThXs.but (h : ThXs K pp H vs ds) (s : SameBut pp H H1) : ThXs K pp H1 vs ds := fun H' q => h H' (s.trans q)
theorem ThXs.same (h : ThXs K pp H vs ds) (s : Same H H1) : ThXs K pp H1 vs ds := h.but (same_but s)
theorem ThXs.all (h : ThXs K pp H vs ds) : ThAll K H vs ds := h H fun _ _ _ e => e
theorem ThXs.len (h : ThXs K pp H vs ds) : vs.length = ds.length := NT.tha_len h.all
theorem tha_app : ∀ {vs us : List V} {ds es : List PyData}, ThAll K H vs ds → ThAll K H us es → ThAll K H (vs ++ us) (ds ++ es)
  | _, _, _, _, .nil, h => h
  | _, _, _, _, .cons h1 h2, h => .cons h1 (tha_app h2 h)
theorem ThXs.app (h : ThXs K pp H vs ds) (h' : ThXs K pp H us es) : ThXs K pp H (vs ++ us) (ds ++ es) := fun H' s => tha_app (h H' s) (h' H' s)
theorem tha_nth : ∀ {vs : List V} {ds : List PyData} {i : Nat} {v : V} {d : PyData}, ThAll K H vs ds → vs[i]? = some v → ds[i]? = some d → Th K H v d
  | _, _, 0, _, _, .cons h1 _, e, e' => by cases e; cases e'; exact h1
  | _, _, i + 1, _, _, .cons _ h2, e, e' => tha_nth (i := i) h2 (by simpa using e) (by simpa using e')
theorem ThXs.nth {i : Nat} (h : ThXs K pp H vs ds) (e : vs[i]? = some v) (e' : ds[i]? = some d) : ThX K pp H v d := fun H' s => tha_nth (h H' s) e e'
theorem ne_pp (h : H pp ≠ none) {p : Addr} (n : H p = none) : p ≠ pp := fun e => h (by rw [← e]; exact n)
theorem Same.keep (s : Same H H1) (h : H pp ≠ none) : H1 pp ≠ none := fun e => by
  cases q : H pp with
  | none => exact h q
  | some o => rw [s _ _ q] at e; cases e
theorem gi_c : GI σ (tC (.int a)) a := fun _ _ q => q
theorem gi_var {i : Nat} (h : σ[i]? = some (some (.int a)) := by rfl) : GI σ (tVar i) a := fun _ _ q => ⟨_, h, q⟩
theorem gi_neg (h : GI σ te a) : GI σ (tUn (rU fun i => .int (-i)) te) (-a) := fun H Q q => h H _ ⟨_, rfl, q⟩
theorem gi_add (h : GI σ te a) (h' : GI σ te' b) : GI σ (tOp (rI0 fun i j => .int (i + j)) te te') (a + b) := fun H Q q => h H _ (h' H _ ⟨_, _, rfl, rfl, q⟩)
theorem gi_pow (h : CPow a b := by exact ⟨by decide, by decide, by decide⟩) : GI σ (tOp (rI CPow fun i j => .int (i ^ j.toNat)) (tC (.int a)) (tC (.int b))) (a ^ b.toNat) := fun H Q q => ⟨_, _, rfl, rfl, h, q⟩
theorem gx_int (h : GI σ te a) : GX K pp σ te (.int a) := fun H Q _ q => h H Q (q _ H (Same.refl H) fun _ _ => .dp (.int a))
theorem gx_bl {x : Bool} : GX K pp σ (tC (.bl x)) (.bool x) := fun H Q _ q => q _ H (Same.refl H) fun _ _ => .dp (.bl x)
theorem gx_non : GX K pp σ (tC .non) .none := fun H Q _ q => q _ H (Same.refl H) fun _ _ => .dp .non
theorem gx_str {x : Str} : GX K pp σ (tC (.str x)) (.str x) := fun H Q _ q => q _ H (Same.refl H) fun _ _ => .dp (.str x)
theorem gxs_nil : GXs K pp σ tNil [] := fun H Q _ q => q [] H (Same.refl H) fun _ _ => .nil
theorem gxs_cons (h : GX K pp σ te d) (ht : GXs K pp σ t ds) : GXs K pp σ (tCons te t) (d :: ds) := fun H Q n q => h H _ n fun v H1 e1 t1 => ht H1 _ (Same.keep e1 n) fun vs H2 e2 t2 => q _ H2 (e1.trans e2) fun H' s => .cons (t1 H' (SameBut.trans (same_but e2) s)) (t2 H' s)
theorem gx_tup (h : GXs K pp σ t ds) (hl : ds.length ≤ 1000 := by exact Nat.le_of_ble_eq_true rfl) : GX K pp σ (tTup t) (.tuple ds) := fun H Q n q => h H _ n fun vs H1 e1 t1 => ⟨by rw [ThXs.len t1]; exact Nat.le_trans hl (by decide), fun p np => by
  have e2 := same_new np (.tup vs)
  have g2 := new_at np (.tup vs)
  exact q _ _ (e1.trans e2) fun H' s => .tup (SqT.of (s p _ (ne_pp (Same.keep e1 n) np) g2)) (t1 H' (SameBut.trans (same_but e2) s))⟩
theorem gx_lst (h : GXs K pp σ t ds) (hl : ds.length ≤ 1000 := by exact Nat.le_of_ble_eq_true rfl) : GX K pp σ (tLst t) (.list ds) := fun H Q n q => h H _ n fun vs H1 e1 t1 => ⟨by rw [ThXs.len t1]; exact Nat.le_trans hl (by decide), fun p np => by
  have e2 := same_new np (.lst vs)
  have g2 := new_at np (.lst vs)
  exact q _ _ (e1.trans e2) fun H' s => .lst (SqL.of (s p _ (ne_pp (Same.keep e1 n) np) g2)) (t1 H' (SameBut.trans (same_but e2) s))⟩
theorem gx_dnew : GX K pp σ tDNewK (.dict []) := fun H Q n q p np => q _ _ (same_new np _) fun H' s => .dct (kis := []) (Rd.of (s p _ (ne_pp n np) (new_at np _)))
theorem gx_d1 (h : GI σ te a) (h' : GI σ te' b) : GX K pp σ (tDisp [(te, te')]) (.dict [(.int a, .int b)]) := fun H Q n q p np => h _ _ (h' _ _ ⟨upd_same, [(Sum.inl a, .int b)], rfl, (by show 1 ≤ 15; decide), q _ _ (fun c o e => by rw [upd_ne (ne_of_none e np), upd_ne (ne_of_none e np)]; exact e) fun H' s => .dct (kis := [(a, b)]) (Rd.of (s p _ (ne_pp n np) upd_same))⟩)
/-- a list display, with its address -/
theorem gx_list {Q : VK} (h : GXs K pp σ t ds) (n : H pp ≠ none) (hl : ds.length ≤ 1000) (q : ∀ p xs H', Same H H' → H p = none → H' p = some (.lst xs) → ThXs K pp H' xs ds → Q (.ref p) H') : tLst t σ H Q :=
  h H _ n fun vs H1 e1 t1 => ⟨by rw [ThXs.len t1]; exact Nat.le_trans hl (by decide), fun p np => by
    have e2 := same_new np (.lst vs)
    exact q p vs _ (e1.trans e2) (e1.free np) (new_at np _) (t1.same e2)⟩
theorem gx_setL {i : Nat} {r : TS} {D : Ends} (h : GXs K pp σ t ds) (n : H pp ≠ none) (hl : ds.length ≤ 1000) (q : ∀ p xs H', Same H H' → H p = none → H' p = some (.lst xs) → ThXs K pp H' xs ds → r D (σ.set i (some (.ref p))) H') : tSeq (tAsg (tLst t) (gName i)) r D σ H := by
  show tLst t σ H fun x H1 => r D (σ.set i (some x)) H1
  exact gx_list h n hl q
end
theorem small_i {i : Int} (h1 : -(10 ^ 20) ≤ i) (h2 : i ≤ 10 ^ 20) : NT.okS 3 (.int i) = true := by
  show decide (i.natAbs < 2 ^ 140) = true
  have a : (10 : Int) ^ 20 = 100000000000000000000 := by decide
  have b : (2 : Nat) ^ 140 = 1393796574908163946345982392040522594123776 := by decide
  rw [a] at h1 h2
  rw [b]
  exact decide_eq_true (by omega)
end NG
set_option Elab.async false
set_option linter.all false
set_option maxRecDepth 100000
namespace NG
open PySem PySem.Spec PyProof.Rows L2 NP ND NK NQ
def Lk (K : PySem.W.Frag) (H : Hp) (x : V) (t : Value) : Prop := (∃ (ea T C : Addr) (bm : List Value), x = .ref ea ∧ t = .ref C ∧ H ea = some (exO ea T C) ∧ XOk K C bm) ∨ (x = .non ∧ t = .type "NoneType")
theorem Lk.same {K : PySem.W.Frag} {H H' : Hp} {x : V} {t : Value} (h : Lk K H x t) (s : Same H H') : Lk K H' x t := by
  rcases h with ⟨ea, T, C, bm, e1, e2, hx, ok⟩ | h
  · exact .inl ⟨ea, T, C, bm, e1, e2, s _ _ hx, ok⟩
  · exact .inr h
end NG
set_option Elab.async false
set_option linter.all false
set_option maxRecDepth 100000
namespace NG
open PySem PySem.Spec PyProof.Rows L2 NP ND NK NQ
section
variable {P : Program} {w : World} {K : PySem.W.Frag} {mg : Str → Option Value} {base : Heap} {f g : Addr} {fd gd : FuncData} {T T1 cR cN : Addr}
end
theorem jb_deadN {X : Cx} {b : List Stmt} : JB X b (fun _ _ _ => False) := ⟨fun _ _ _ _ _ _ h => h.elim⟩
end NG
set_option Elab.async false
set_option linter.all false
set_option maxRecDepth 100000
namespace NV
open PySem PySem.Spec PyProof.Rows L2 NP NT
/-- one thing is refused -/
def spNoD (K : PySem.W.Frag) (cX : Addr) (ok : PyData → Bool) (tb : Hp → Prop) : Sp := fun vs H _ E => ∃ x d, vs = [x] ∧ Th K H x d ∧ tb H ∧ ok d = false ∧ ∀ ea H', Same H H' → E (.ref ea) (some cX) H'
def spNoDm (K : PySem.W.Frag) (cX : Addr) (ok : Int → PyData → Bool) (tb : Hp → Prop) : Sp := fun vs H _ E => ∃ x d m, vs = [x, .int m] ∧ Th K H x d ∧ tb H ∧ ok m d = false ∧ ∀ ea H', Same H H' → E (.ref ea) (some cX) H'
end NV
namespace K51
open PySem PySem.Spec PyProof.Rows L2 NP NT NV NN NK NQ
section
variable {P : Program} {w : World} {K : PySem.W.Frag} {mg : Str → Option Value} {base : Heap} {f g : Addr} {fd gd : FuncData} {T T1 T2 cR cP : Addr}
theorem no_checkR (F : Fun K "check_reach" "check_reach" sCheckR f fd) (G : FnOk P w K mg base CX0 13 g gd ["thing"] (spReach K T)) (bG : Binds K gd ["thing"] []) (kG : PySem.W.keepIn K (.ref g) = true) (mG : mg "is_reach" = some (.ref g))
    (xk : xIn K cR (.ref cP :: bmV) = true) (mR : mg "NoReach" = some (.ref cR)) : FnOk P w K mg base (CXe P w) 14 f fd ["reach"] (spNoD K cR reachD (fun H => H T = some (TabP T))) := by
  refine fnX F scCheckR (fun vs H Q E h => ?_) (fun cdv A outer s H vs Q E gp hcl hr h => ?_)
  · obtain ⟨x, d, rfl, _⟩ := h
    rfl
  obtain ⟨x, d, rfl, ht, hT, ho, q⟩ := h
  refine ⟨_, jb_one (js_if (jt_not (jt_val (je_call G hr rfl mG kG bG .nil pass0 (jn (jv 0) ja0)))) (jb_one (js_raise rfl xk bmB rfl mR (raiseE (hcl (by decide))) (jc je_str ja0))) jb_nil), ?_⟩
  refine ⟨_, rfl, x, d, rfl, ht, hT, ⟨_, rfl, itT (by rw [ho]; rfl) ?_⟩⟩
  exact ⟨by show 1 ≤ 10; decide, fun ea => q ea H (Same.refl H)⟩
theorem no_checkW (F : Fun K "check_wishes" "check_wishes" sCkWishes f fd) (G : FnOk P w K mg base CX0 14 g gd ["thing", "most"] (spIsWishesX K T T2)) (bG : Binds K gd ["thing", "most"] []) (kG : PySem.W.keepIn K (.ref g) = true) (mG : mg "is_wishes" = some (.ref g))
    (xk : xIn K cR (.ref cP :: bmV) = true) (mR : mg "NoWishes" = some (.ref cR)) : FnOk P w K mg base (CXe P w) 15 f fd ["wishes", "most"] (spNoDm K cR wishesDt (fun H => T ≠ T2 ∧ H T = some (TabP T) ∧ H T2 = some (TabP T2))) := by
  refine fnX F scCkWishes (fun vs H Q E h => ?_) (fun cdv A outer s H vs Q E gp hcl hr h => ?_)
  · obtain ⟨x, d, m, rfl, _⟩ := h
    rfl
  obtain ⟨x, d, m, rfl, ht, ⟨nT, hT, hT2⟩, ho, q⟩ := h
  refine ⟨_, jb_one (js_if (jt_not (jt_val (je_call G hr rfl mG kG bG .nil pass0 (jn (jv 0) (jn (jv 1) ja0))))) (jb_one (js_raise rfl xk bmB rfl mR (raiseE (hcl (by decide))) (jc je_str ja0))) jb_nil), ?_⟩
  exact ⟨_, rfl, _, rfl, x, m, d, rfl, ht, nT, hT, hT2, fun H' e => ⟨_, rfl, itT (by rw [ho]; rfl) ⟨by show 1 ≤ 10; decide, fun ea => q ea H' e⟩⟩⟩
end
end K51
set_option Elab.async false
set_option linter.all false
set_option maxRecDepth 100000
namespace K51
open PySem PySem.Spec PyProof.Rows L2 NP NT NV NN NK NQ
section
variable {P : Program} {w : World} {K : PySem.W.Frag} {mg : Str → Option Value} {base : Heap} {f g : Addr} {fd gd : FuncData}
variable {T cR cP : Addr}
theorem ok_isO {c T : Addr} {t40 : Tok} (F : Fun K "is_order" "is_order" sIsOrder f fd) (hcd : fd.code = .ref c) (hcb : CodeB base mg c T) (M : Mg2 mg) (G : FnOk P w K mg base CX0 1 g gd ["thing"] (spWhole K)) (bG : Binds K gd ["thing"] [])
    (kG : PySem.W.keepIn K (.ref g) = true) (mG : mg "is_whole" = some (.ref g)) (m40 : mg "MOST_THINGS" = some (.int 40 t40)) : FnOk P w K mg base CX0 13 f fd ["thing"] (spIsO K T) := by
  refine F.okC scIsOrder hcd (fun vs H Q E h => ?_) (fun A outer s H vs Q E gp hcl hr h => ?_)
  · obtain ⟨x, d, rfl, _⟩ := h
    rfl
  obtain ⟨x, d, rfl, ht, hT, q⟩ := h
  have jj : JB (cxOf CX0 P w K mg base ["thing"] "is_order" (defScope sIsOrder) f (.ref c) A outer s H E gp).nox (defBody sIsOrder) _ := jb_cons (js_if (jt_w (jw_or (jt_not (jt_val (je_callB cr_isinst (by rfl) M.base.isi (by decide +kernel) (jn (jv 0) (jn (je_ty (n := "list") (by rfl) M.base.list (by decide +kernel)) ja0)))))
      (jw_or1 (jt_cmp op_gt (je_callB call_len_seq rfl M.base.len PySem.boot_len (jn (jv 0) ja0)) (je_glob (v := .int 40) rfl m40 ⟨t40, rfl⟩) (nomark _))))) (jb_one (js_ret je_bl)) jb_nil)
    (jb_cons (js_if (jt_not (jt_val ⟨pe_allGen (T := T) (x := "item") (R := fun H y b => ∃ d, Th K H y d ∧ b = whole d) M.base.all (by rfl) (hcl (by decide)) rfl hr.depth (pv 0) rfl hcb
      (fun H H' y b le ⟨d, h1, h2⟩ => ⟨d, th_le le h1, h2⟩)
      (fun code C A' E' s2 m2 H y v b hA hd hu qs hn hm rv ⟨d, h1, h2⟩ => thn (q_call (r := .bl b) G (by decide) bG qs (room_gen hr hA hd hu (by decide)) rfl rfl rfl mG kG (qas_cons (qa_loc rfl rfl hn hm rv) qas_nil)
        ⟨y, d, rfl, h1, by rw [← h2]⟩) fun u s3 hq => hq)⟩)) (jb_one (js_ret je_bl)) jb_nil)
    (jb_one (js_ret (je_cmp (op_eqD hr.units) (je_callB cr_sorted (by rfl) M.sorted (by decide +kernel) (jn (jv 0) ja0)) (je_callTy (cr_listR rfl) (by rfl) M.base.list (by decide +kernel) (jCa (je_callTy cr_range1 (by rfl) M.base.range (by decide +kernel) (jCa (je_callB call_len_seq rfl M.base.len PySem.boot_len (jn (jv 0) ja0)) ja0)) ja0)) (nomark _)))))
  refine ⟨_, jj.p, ?_⟩
  have no : ∀ (h : isOrdD d = false), Q (.bl false) H := fun h => by have := q H (Same.refl H); rw [h] at this; exact this
  refine ⟨_, rfl, x, "list", d, rfl, ht, .inr (.inr (.inr rfl)), _, rfl, ?_⟩
  cases d with
  | list ds =>
    obtain ⟨a, xs, rfl, hS, hD⟩ := th_lst ht
    have hl := NP.tha_len hD
    refine itF rfl ⟨_, rfl, a, xs, rfl, .inl hS, _, _, rfl, rfl, _, rfl, ?_⟩
    by_cases c40 : ds.length ≤ 40
    · refine itF (decide_eq_false (by rw [hl]; omega)) ?_
      refine ⟨_, rfl, a, xs, ds.map whole, rfl, .inr hS, hT, by rw [List.length_map, hl], fun i y e => ?_, ?_⟩
      · obtain ⟨d, e1, e2⟩ := tha_get hD e
        exact ⟨whole d, by rw [List.getElem?_map, e1]; rfl, d, e2, rfl⟩
      rw [List.all_map]
      have q' : ∀ H', Same H H' → Q (.bl (decide (ds.length ≤ 40) && (ds.all whole && isP (ds.map numD)))) H' := q
      rw [decide_eq_true c40, Bool.true_and] at q'
      have idw : (id ∘ whole) = whole := rfl
      rw [idw]
      cases hw : ds.all whole with
      | false =>
        rw [hw] at q'
        exact ⟨false, rfl, itT rfl (q' H (Same.refl H))⟩
      | true =>
        rw [hw, Bool.true_and] at q'
        refine ⟨true, rfl, itF rfl ?_⟩
        have eds := ints_of hw
        generalize ds.map numD = ns at eds q'
        subst eds
        have exs := tha_ints hD
        subst exs
        rw [List.length_map] at c40
        refine ⟨_, rfl, a, ns, rfl, hS, by omega, fun ns' p hp hs q1 => ?_⟩
        have e1 := same_new q1 (.lst (ns'.map V.int))
        have g1 := new_at q1 (.lst (ns'.map V.int))
        refine ⟨_, rfl, a, _, rfl, .inl (e1.seq hS), _, rfl, fun p2 q2 => ?_⟩
        have e2 := same_new q2 (.rng 0 ((ns.map V.int).length : Nat))
        have g2 := new_at q2 (.rng 0 ((ns.map V.int).length : Nat))
        have l2 : (((ns.map V.int).length : Nat) : Int) = (ns.length : Int) := by rw [List.length_map]
        have b62 : (2 : Int) ^ 62 = 4611686018427387904 := by decide
        refine ⟨p2, 0, _, rfl, g2, by rw [b62]; omega, by rw [b62]; omega, by rw [b62]; omega, by rw [b62]; omega, by omega, fun p3 q3 => ?_⟩
        have tn : ((((ns.map V.int).length : Nat) : Int) - 0).toNat = ns.length := by omega
        have e3 := same_new q3 (.lst (rangeL 0 ((((ns.map V.int).length : Nat) : Int) - 0).toNat))
        have g3 := new_at q3 (.lst (rangeL 0 ((((ns.map V.int).length : Nat) : Int) - 0).toNat))
        refine ⟨.list (ns'.map PyData.int), .list ((iot ns.length).map PyData.int), dp_ints (SqL.of (e3 _ _ (e2 _ _ g1))), ?_, shaped_ints _, shaped_ints _, ?_⟩
        · exact dp_ints (SqL.of (g3.trans (by rw [tn, range_iot])))
        · have es : decide (ns' = iot ns.length) = isP ns := decide_eq_decide.mpr ⟨fun z => by rw [← z]; exact hp.symm, fun z => sorted_same (hp.trans z) hs (iot_sorted _)⟩
          rw [eqv_ints, es]
          exact q' _ ((e1.trans e2).trans e3)
    · refine itT (decide_eq_true (by rw [hl]; omega)) (no ?_)
      show (decide (ds.length ≤ 40) && _) = false
      rw [decide_eq_false c40, Bool.false_and]
  | none => exact itT rfl (no rfl)
  | bool b => exact itT rfl (no rfl)
  | int i => exact itT rfl (no rfl)
  | str y => exact itT rfl (no rfl)
  | tuple ds => exact itT rfl (no rfl)
  | dict kvs => exact itT rfl (no rfl)
theorem no_checkO (F : Fun K "check_order" "check_order" sCheckO f fd) (G : FnOk P w K mg base CX0 13 g gd ["thing"] (spIsO K T)) (bG : Binds K gd ["thing"] []) (kG : PySem.W.keepIn K (.ref g) = true) (mG : mg "is_order" = some (.ref g))
    (xk : xIn K cR (.ref cP :: bmV) = true) (mR : mg "NoOrder" = some (.ref cR)) : FnOk P w K mg base (CXe P w) 14 f fd ["order"] (spNoD K cR isOrdD (fun H => H T = some (TabP T))) := by
  refine fnX F scCheckO (fun vs H Q E h => ?_) (fun cdv A outer s H vs Q E gp hcl hr h => ?_)
  · obtain ⟨x, d, rfl, _⟩ := h
    rfl
  obtain ⟨x, d, rfl, ht, hT, ho, q⟩ := h
  refine ⟨_, jb_one (js_if (jt_not (jt_val (je_call G hr rfl mG kG bG .nil pass0 (jn (jv 0) ja0)))) (jb_one (js_raise rfl xk bmB rfl mR (raiseE (hcl (by decide))) (jc je_str ja0))) jb_nil), ?_⟩
  exact ⟨_, rfl, x, d, rfl, ht, hT, fun H' e => ⟨_, rfl, itT (by rw [ho]; rfl) ⟨by show 1 ≤ 10; decide, fun ea => q ea H' e⟩⟩⟩
end
end K51
set_option Elab.async false
set_option linter.all false
set_option maxRecDepth 100000
namespace K51
open PySem PySem.Spec PyProof.Rows L2 NP NT NV NN NK NQ
section
variable {P : Program} {w : World} {K : PySem.W.Frag} {mg : Str → Option Value} {base : Heap} {f g : Addr} {fd gd : FuncData} {T T1 T2 cR cP : Addr}
theorem no_oText (F : Fun K "order_text" "order_text" sOText f fd) (G : FnOk P w K mg base (CXe P w) 14 g gd ["order"] (spNoD K cR isOrdD (fun H => H T = some (TabP T)))) (bG : Binds K gd ["order"] []) (kG : PySem.W.keepIn K (.ref g) = true) (mG : mg "check_order" = some (.ref g)) :
    FnOk P w K mg base (CXe P w) 15 f fd ["order"] (spNoD K cR isOrdD (fun H => H T = some (TabP T))) := by
  refine fnX F scOText (fun vs H Q E h => ?_) (fun cdv A outer s H vs Q E gp hcl hr h => ?_)
  · obtain ⟨x, d, rfl, _⟩ := h
    rfl
  obtain ⟨x, d, rfl, r⟩ := h
  exact ⟨_, jb_cons (js_expr (je_call G hr rfl mG kG bG .nil (passE (hcl (by decide))) (jn (jv 0) ja0))) jb_never, _, rfl, x, d, rfl, r⟩
theorem no_rText (F : Fun K "reach_text" "reach_text" sRText f fd) (G : FnOk P w K mg base (CXe P w) 14 g gd ["reach"] (spNoD K cR reachD (fun H => H T = some (TabP T)))) (bG : Binds K gd ["reach"] []) (kG : PySem.W.keepIn K (.ref g) = true) (mG : mg "check_reach" = some (.ref g)) :
    FnOk P w K mg base (CXe P w) 15 f fd ["reach"] (spNoD K cR reachD (fun H => H T = some (TabP T))) := by
  refine fnX F scRText (fun vs H Q E h => ?_) (fun cdv A outer s H vs Q E gp hcl hr h => ?_)
  · obtain ⟨x, d, rfl, _⟩ := h
    rfl
  obtain ⟨x, d, rfl, r⟩ := h
  exact ⟨_, jb_cons (js_expr (je_call G hr rfl mG kG bG .nil (passE (hcl (by decide))) (jn (jv 0) ja0))) jb_never, _, rfl, x, d, rfl, r⟩
theorem no_wsText {t99 : Tok} (F : Fun K "wishes_text" "wishes_text" sWsText f fd) (m99 : mg "MOST_IN_WISHES" = some (.int 99 t99)) (G : FnOk P w K mg base (CXe P w) 15 g gd ["wishes", "most"] (spNoDm K cR wishesDt (fun H => T ≠ T2 ∧ H T = some (TabP T) ∧ H T2 = some (TabP T2)))) (bG : Binds K gd ["wishes", "most"] []) (kG : PySem.W.keepIn K (.ref g) = true) (mG : mg "check_wishes" = some (.ref g)) :
    FnOk P w K mg base (CXe P w) 16 f fd ["wishes"] (spNoD K cR (wishesDt 99) (fun H => T ≠ T2 ∧ H T = some (TabP T) ∧ H T2 = some (TabP T2))) := by
  refine fnX F scWsText (fun vs H Q E h => ?_) (fun cdv A outer s H vs Q E gp hcl hr h => ?_)
  · obtain ⟨x, d, rfl, _⟩ := h
    rfl
  obtain ⟨x, d, rfl, r⟩ := h
  exact ⟨_, jb_cons (js_expr (je_call G hr rfl mG kG bG .nil (passE (hcl (by decide))) (jn (jv 0) (jn (je_glob (v := .int 99) rfl m99 ⟨t99, rfl⟩) ja0)))) jb_never, _, rfl, x, d, 99, rfl, r⟩
end
end K51
set_option Elab.async false
set_option linter.all false
set_option maxRecDepth 100000
namespace NP
open PySem PySem.Spec PyProof.Rows L2
def PassesAt (CX : CXT) (X : Cx) (E : XK) (σ : L2.St) : Prop := ∀ (pins : List (Addr × Obj)) (H : Hp) (s : Shared) (e : Value) (s' : Shared), L2.Inv X pins σ H s → CX X.stack H s E e s' → X.xe e s'
def tTryK (tb : L2.St → TS) (tsu : TS) (E : XK) (j : Nat) : TS := fun D σ H => tb σ D σ H ∧ ∀ (ea T C : Addr) (H1 : Hp), H1 ea = none → H1 T = none → ea ≠ T → E (.ref ea) (some C) H1 →
  tsu { nx := fun σ2 H2 => D.nx (σ2.set j none) H2, rt := fun _ _ => False } (σ.set j (some (.ref ea))) (xH H1 ea T C)
def tCallK (σ0 : L2.St) (sp : Sp) (dvs : List V) (E : XK) (t : TA) : TE := fun σ H Q => σ = σ0 ∧ tCall sp dvs E t σ H Q
section
variable {X : Cx} {CX : CXT} {k : Nat} {f C : Addr} {fd : FuncData} {ps : List Str} {sp : Sp} {dvs : List V} {ds : List Value} {E : XK} {x m : Str} {p pos apos : Pos} {e o : Expr} {es : List Expr} {ta : TE} {t : TA} {σ0 : L2.St}
theorem je_callK (F : FnOk X.prog X.w X.K X.mg X.base CX k f fd ps sp) (hr : Room k X.A) (hg : Gl X x) (hm : X.mg x = some (.ref f)) (hk : PySem.W.keepIn X.K (.ref f) = true) (hb : Binds X.K fd ps ds) (hd : Vals dvs ds) (hx : PassesAt CX X E σ0)
    (ha : JA X (e :: es) t) (hdb : (x == ("__debug__" : Str)) = false := by decide) (he : starEach (e :: es) X.env = (false, eval e X.env) :: starEach es X.env := by rfl) (hpl : (backTo pos (starEach es X.env)).any (·.1) = false := by rfl) (hcl : L2.Cl k X.gp := by first | assumption | exact L2.Cl.mono (by assumption) (by decide)) :
    JE X (.Call (.Name x p) (e :: es) [] pos) (tCallK σ0 sp dvs E t) := ⟨by
  intro pins s σ H Q I h
  obtain ⟨rfl, h⟩ := h
  refine wpAny_Call_Name_kw (ld_glob I hg hm ?_ hdb)
  refine PySem.W.callWith_K (h₀ := X.base) I.ok.mod.kin hk (thn (ha.p pos pins s σ H _ I h) fun us s1 ⟨vs, H1, I1, r, q⟩ => ⟨I1.kIn, ?_⟩) he hpl
  have r2 : Vals (vs ++ dvs) (us ++ ds) := r.append hd
  have hl : (us ++ ds).length = ps.length := by rw [← r2.length]; exact F.len _ _ _ _ q
  refine wpAny_call (codeAny_mono (F.run X.A X.stack s1 H1 ⟨us, []⟩ (us ++ ds) (vs ++ dvs) Q E X.gp hcl I1.bare I1.ok.frames hr I1.env0 (hb s1 us I1.kIn hl) r2 q) fun r s' hq => ?_)
  cases r with
  | error e => exact hx pins H1 s1 e s' I1 hq
  | ok fl =>
    cases fl with
    | ret u => exact I1.after hq
    | next => exact False.elim hq
    | brk => exact False.elim hq
    | cont => exact False.elim hq⟩
end
set_option maxHeartbeats 1200000 in
theorem js_tryK {X : Cx} {CP : Addr} {body : List Stmt} {tb : L2.St → TS} {tsu : TS} {E : XK} {x n : Str} {b0 : Stmt} {suite : List Stmt} {j : Nat} {p1 p5 pos : Pos} (hgp : ∀ g d, X.gp g d ↔ AllBare g) (hex : X.ex = []) (hstk : X.stack = X.env :: X.outer) (hf : X.env.frame = some X.env.locals)
    (hN : X.N.Nodup) (hj : X.N[j]? = some n) (hloc : X.env.scope.names.lookup n = some .local) (hg : Gl X x) (hm : X.mg x = some (.ref CP))
    (hC : ∀ ea C H1, E (.ref ea) (some C) H1 → PySem.W.exmOne X.K (.ref C) (.ref CP) = some true) (hb : ∀ pn xe σ0, PassesAt (CXe X.prog X.w) (trX X pn xe) E σ0 → JB (trX X pn xe) body (tb σ0)) (hs : ∀ ea, JB (caX X ea) (b0 :: suite) tsu)
    (hd : (x == ("__debug__" : Str)) = false := by decide) : JS X (.Try body [.ExceptHandler (some (.Name x p1)) (some n) (b0 :: suite) p5] [] [] pos) (tTryK tb tsu E j) := by
  refine ⟨fun pins s σ H D I ⟨t0, th⟩ => ?_⟩
  let XE : Value → Shared → Prop := fun e s1 => ∃ (ea T C : Addr) (H1 : Hp), e = .ref ea ∧ L2.Inv X pins σ (xH H1 ea T C) s1 ∧ H1 ea = none ∧ H1 T = none ∧ ea ≠ T ∧ X.s_0.heap.get? T = none ∧ E e (some C) H1
  have conv : ∀ {pins2 : List (Addr × Obj)} {σ2 : L2.St} {H2 : Hp} {s2 : Shared}, L2.Inv (trX X (X.pn ++ pins) XE) pins2 σ2 H2 s2 → L2.Inv X pins σ2 H2 s2 := fun J =>
    ⟨I.ok, J.os, J.bare, J.base, J.loc, J.cell, J.free, J.freeC, fun p hp => J.pin p (List.mem_append_left _ hp), J.hok, J.len⟩
  have pas : PassesAt (CXe X.prog X.w) (trX X (X.pn ++ pins) XE) E σ := by
    rintro pins2 H2 s2 e s' J ⟨ea, T, C, H1, rfl, os, bare, un, hok, h1, h2, ne, f1, f2, q⟩
    have J' := J.call' os un hok ((hgp _ _).mpr bare) (ch := []) (fun b z => absurd z (by simp))
    exact ⟨ea, T, C, H1, rfl, conv J', h1, h2, ne, s0_none (conv J) hex f2, q⟩
  have I0 : L2.Inv (trX X (X.pn ++ pins) XE) [] σ H s := ⟨okTr I.ok _ _, I.os, I.bare, I.base, I.loc, I.cell, I.free, I.freeC, fun p hp => I.pin p (by simpa using hp), I.hok, I.len⟩
  refine wpAny_Try_except (wpAny_mono ((hb _ XE σ pas).p [] s σ H D I0 t0) (fun f s1 h1 => ?_) (fun e s1 h1 => ?_))
  · cases f with
    | next => obtain ⟨σ', H', J, q⟩ := h1; exact wpAny_execs_nil ⟨σ', H', conv J, q⟩
    | brk => obtain ⟨σ', H', J, q⟩ := h1; exact ⟨σ', H', conv J, q⟩
    | cont => obtain ⟨σ', H', J, q⟩ := h1; exact ⟨σ', H', conv J, q⟩
    | ret u => obtain ⟨v, σ', H', J, r, q⟩ := h1; exact ⟨v, σ', H', conv J, r, q⟩
  · obtain ⟨ea, T, C, H1, rfl, J, z1, z2, ne, h0, q⟩ := h1
    refine noted (I.ok.frames hgp).1 hstk hf J hex z1 z2 ne h0 fun h2 T2 a1 a2 a3 J2 => ?_
    have hE : X.env.kindOf n = some .local := hloc
    refine wpAny_handleBy_cons (codeAny_handlers_test (wpAny_mono ((pe_glob (X := caX X ea) (v := .ref CP) (pos := p1) hg hm rfl hd) pins _ _ _ (fun v H3 => v = .ref CP ∧ H3 = xH H1 ea T2 C) (invCa J2 ea) ⟨rfl, rfl⟩) (fun c s3 h3 => ?_) (fun _ _ z => z.elim))) (by intro q; cases q)
    obtain ⟨v, H3, I3, r, e1, e2⟩ := h3
    subst e1 e2
    have I3 := invUn I.ok I3
    cases r
    refine PySem.W.exm_one (M := model X.prog X.w) I3.kIn (ty_ex (ex_of I3.hok)) (hC ea C H1 q) _ _ _ s3 (fun b o e => e) ?_
    apply codeAny_handlers_suite_as
    refine flight I3 hex z1 a1 a2 a3 fun h4 T4 b1 b2 b3 J4 => ?_
    refine store_ok J4 hN hj (Or.inl hloc) (v := .ref ea) rfl (fun s5 I5 => ?_) (Or.inr hloc)
    refine wpAny_mono ((hs ea).p pins s5 _ _ _ (invCa I5 ea) (th ea T4 C H1 z1 b1 b2 q)) (fun f s6 h6 => ?_) (fun _ _ z => z.elim)
    cases f with
    | brk => obtain ⟨_, _, _, q⟩ := h6; exact q.elim
    | cont => obtain ⟨_, _, _, q⟩ := h6; exact q.elim
    | ret u => obtain ⟨_, _, _, _, _, q⟩ := h6; exact q.elim
    | next =>
      obtain ⟨σ2, H2, I6, q6⟩ := h6
      have I6 := invUn I.ok I6
      obtain ⟨m, hn, hl⟩ := id I6.loc
      refine wpAny_nameGoes_keeps hE hn (by rw [I.ok.kind]; rfl) fun h7 v hns sb => ?_
      refine ⟨σ2.set j none, H2, names (m := m) I6 sb hns (by rw [List.length_set]) (fun i y u e1 e2 e3 => ?_), q6⟩
      have ij : j ≠ i := fun z => by
        subst z
        rw [List.getElem?_set_self'] at e2
        cases hq : σ2[j]? with
        | none => rw [hq] at e2; cases e2
        | some w => rw [hq] at e2; cases e2
      rw [List.getElem?_set_ne ij] at e2
      obtain ⟨w, rv, l⟩ := hl i y u e1 e2 e3
      refine ⟨w, rv, ?_⟩
      rcases l with ⟨l1, l2⟩ | l
      · have yn : y ≠ n := fun z => ij (nodup_ix hN hj (z ▸ e1))
        exact .inl ⟨l1, by show (if y = n then v else m y) = some w; rw [if_neg yn]; exact l2⟩
      · exact .inr l
end NP
set_option Elab.async false
set_option linter.all false
set_option maxRecDepth 100000
namespace NV
open PySem PySem.Spec PyProof.Rows L2 NP NT
def oneK : List (List Key × V) := [([.inr "at", .inl 1, .inl 1], .int 1)]
def oneD : PyData := .dict [(.tuple [.str "at", .int 1, .int 1], .int 1)]
def OneAt (H : Hp) (v : V) : Prop := ∃ p, v = .ref p ∧ H p = some (.dT oneK)
/-- data, or that dict -/
def Zt (K : PySem.W.Frag) (H : Hp) (v : V) (d : PyData) : Prop := Th K H v d ∨ (d = oneD ∧ OneAt H v)
theorem OneAt.same {H H' : Hp} {v : V} (h : OneAt H v) (e : Same H H') : OneAt H' v := let ⟨p, a, b⟩ := h; ⟨p, a, e _ _ b⟩
theorem Zt.same {K : PySem.W.Frag} {H H' : Hp} {v : V} {d : PyData} (h : Zt K H v d) (e : Same H H') : Zt K H' v d := h.elim (fun t => .inl (th_same e t)) fun ⟨a, b⟩ => .inr ⟨a, b.same e⟩
section
variable {X : Cx} {pins : List (Addr × Obj)} {σ : L2.St} {H : Hp} {s : Shared}
theorem one_reads (I : L2.Inv X pins σ H s) {p : Addr} (h : H p = some (.dT oneK)) : (∃ as, Reads s.heap (.ref p) oneD as ∧ sysModules ∉ as) ∧ ∃ o, s.heap.get? p = some o ∧ o.cls = .type "dict" := by
  obtain ⟨_, hm, xs, pr, o, es, ep, ho, hx, hdt, he, _⟩ := (show ObjOk X.prog X.w H s.heap p (.dT oneK) from I.hok p _ h)
  unfold oneK at pr
  cases pr with
  | @cons pq q _ qs hq t =>
    cases t
    obtain ⟨k, b, u⟩ := q
    obtain ⟨e1, e2, e3⟩ := hq
    simp only at e1 e2 e3
    subst e1
    obtain ⟨its, rv, ⟨o2, ho2, hc2, n2, hd2⟩, _⟩ := I.tuple (SqT.of e2)
    have e4 : ([Sum.inr "at", Sum.inl 1, Sum.inl 1] : List Key).map kV = [V.str "at", V.int 1, V.int 1] := rfl
    rw [e4] at rv
    cases rv with
    | cons r1 rv =>
    cases rv with
    | cons r2 rv =>
    cases rv with
    | cons r3 rv =>
    cases rv
    obtain ⟨t1, rfl⟩ := r1
    obtain ⟨t2, rfl⟩ := r2
    obtain ⟨t3, rfl⟩ := r3
    obtain ⟨t4, e3⟩ := (show ∃ t, u = Value.int 1 t from e3)
    subst e3
    have rt : Reads s.heap (.ref b) (.tuple [.str "at", .int 1, .int 1]) ([] ++ ([] ++ ([] ++ []))) := Reads.tuple ho2 hc2 hd2 (.cons (.str _ _) (.cons (.int _ _) (.cons (.int _ _) .nil)))
    refine ⟨⟨_, Reads.dict (kvs := [(.tuple [.str "at", .int 1, .int 1], .int 1)]) ho hx.1 hdt (by rw [he]; exact .cons rt .nil) (by rw [he]; exact .cons (.int _ _) .nil), fun z => ?_⟩, o, ho, hx.1⟩
    have : sysModules = p := by simpa using z
    rw [this] at hm
    simp at hm
theorem cr_reprZ (hu : X.A.units + 64 < cLine) (hgp : ∀ g d, X.gp g d ↔ AllBare g) : CallR X (.builtin "repr") (fun xs H Q => ∃ x d, xs = [x] ∧ Zt X.K H x d ∧ Shows d ∧ Q (.str d.shown) H) := by
  intro pins s σ H xs us Q I r h
  obtain ⟨x, d, rfl, ht | ⟨rfl, p, rfl, hp⟩, S, q⟩ := h
  · exact cr_repr hu hgp pins s σ H _ us Q I r ⟨x, d, rfl, ht, S, q⟩
  have hgu := (I.ok.frames hgp).2
  rw [Vals.ref1 r]
  obtain ⟨⟨as, rd, hs⟩, _⟩ := one_reads I hp
  exact repr_of_reads' rd S.ok (fun _ => hs) hgu (by have := S.dp; omega) (fun _ _ e => e) (fun h' u tk k => ⟨.str oneD.shown, H, I.kept k, ⟨_, rfl⟩, q⟩) S.sz
theorem cr_isinst1 : CallR X (.builtin "isinstance") (fun xs H Q => ∃ x n, xs = [x, .ty n] ∧ OneAt H x ∧ named n ∧ Q (.bl (isi "dict" n)) H) := by
  intro pins s σ H xs us Q I r h
  obtain ⟨x, n, rfl, ⟨p, rfl, hp⟩, hn, q⟩ := h
  cases r with
  | cons r1 r2 =>
    cases r2 with
    | cons r3 r4 =>
      cases r4
      cases r3
      cases r1
      obtain ⟨_, o, ho, hc⟩ := one_reads I hp
      exact PySem.W.kia_one PySem.W.kitx_dict I.kIn ⟨o, ho, hc⟩ (kit_ok X.K (.dict []) hn) (fun z => nomatch z) fun tk => ⟨.bl _, H, I.tok _, rfl, q⟩
end
theorem shows_one : Shows oneD := ⟨by decide +kernel, by decide +kernel, by decide +kernel⟩
def spIsWishes1 : Sp := fun vs H Q _ => ∃ (v : V) (m : Int), vs = [v, .int m] ∧ OneAt H v ∧ Q (.bl false) H
def spNo1 (cX : Addr) : Sp := fun vs H _ E => ∃ x, vs = [x] ∧ OneAt H x ∧ ∀ ea H', Same H H' → E (.ref ea) (some cX) H'
def spNo1m (cX : Addr) : Sp := fun vs H _ E => ∃ x m, vs = [x, .int m] ∧ OneAt H x ∧ ∀ ea H', Same H H' → E (.ref ea) (some cX) H'
end NV
set_option Elab.async false
set_option linter.all false
set_option maxRecDepth 100000
namespace NV
open PySem PySem.Spec PyProof.Rows L2 NP NT
def spSaid (K : PySem.W.Frag) (TO TR T T2 : Addr) : Sp := fun vs H Q _ => ∃ (way : Int) (x : V) (d : PyData), vs = [.int way, x] ∧ H TO = some (TabP TO) ∧ H TR = some (TabP TR) ∧ T ≠ T2 ∧ H T = some (TabP T) ∧ H T2 = some (TabP T2) ∧ Zt K H x d ∧ Shows d ∧
  ((way = 0 ∧ Th K H x d ∧ isOrdD d = false ∧ ∀ H', Same H H' → Q (.str "NoOrder") H') ∨ (way = 1 ∧ Th K H x d ∧ reachD d = false ∧ ∀ H', Same H H' → Q (.str "NoReach") H') ∨
   (way = 2 ∧ wishesDt 99 d = false ∧ ∀ H', Same H H' → Q (.str "NoWishes") H') ∨ (way = 1 ∧ (∃ p l r, x = .ref p ∧ RA K H p l r) ∧ ∀ H', Same H H' → Q (.str "told") H'))
end NV
namespace K51
open PySem PySem.Spec PyProof.Rows L2 NP NT NV NN NK NQ NG
section
variable {P : Program} {w : World} {K : PySem.W.Frag} {mg : Str → Option Value} {base : Heap} {f g : Addr} {fd gd : FuncData} {TO TR T T2 cR cP : Addr}
theorem jt_deadN {X : Cx} {a : Expr} : JT X a (fun _ _ _ => False) := ⟨by intro pins s σ H Q I h; exact h.elim⟩
theorem ok_isWishes1 (F : Fun K "is_wishes" "is_wishes" sIsWishes f fd) (M : Mg2 mg) : FnOk P w K mg base CX0 14 f fd ["thing", "most"] spIsWishes1 := by
  refine fnJ F scIsWishes (fun vs H Q E h => ?_) (fun cdv A outer s H vs Q E gp hcl hr h => ?_)
  · obtain ⟨v, m, rfl, _⟩ := h
    rfl
  obtain ⟨v, m, rfl, ho, q⟩ := h
  refine ⟨_, jb_cons (js_if (jt_w (jw_or (jt_not (jt_val (je_callB cr_isinst1 (by rfl) M.base.isi (by decide +kernel) (jn (jv 0) (jn (je_ty (n := "list") (by rfl) M.base.list (by decide +kernel)) ja0))))) (jw_or1 jt_deadN))) (jb_one (js_ret je_bl)) jb_nil) jb_deadN, ?_⟩
  exact ⟨_, rfl, v, "list", rfl, ho, .inr (.inr (.inr rfl)), _, rfl, itT rfl (itT rfl q)⟩
theorem no_checkW1 (F : Fun K "check_wishes" "check_wishes" sCkWishes f fd) (G : FnOk P w K mg base CX0 14 g gd ["thing", "most"] spIsWishes1) (bG : Binds K gd ["thing", "most"] []) (kG : PySem.W.keepIn K (.ref g) = true) (mG : mg "is_wishes" = some (.ref g))
    (xk : xIn K cR (.ref cP :: bmV) = true) (mR : mg "NoWishes" = some (.ref cR)) : FnOk P w K mg base (CXe P w) 15 f fd ["wishes", "most"] (spNo1m cR) := by
  refine fnX F scCkWishes (fun vs H Q E h => ?_) (fun cdv A outer s H vs Q E gp hcl hr h => ?_)
  · obtain ⟨x, m, rfl, _⟩ := h
    rfl
  obtain ⟨x, m, rfl, ho, q⟩ := h
  refine ⟨_, jb_one (js_if (jt_not (jt_val (je_call G hr rfl mG kG bG .nil pass0 (jn (jv 0) (jn (jv 1) ja0))))) (jb_one (js_raise rfl xk bmB rfl mR (raiseE (hcl (by decide))) (jc je_str ja0))) jb_nil), ?_⟩
  exact ⟨_, rfl, _, rfl, x, m, rfl, ho, _, rfl, itT rfl ⟨by show 1 ≤ 10; decide, fun ea => q ea H (Same.refl H)⟩⟩
theorem no_wsText1 {t99 : Tok} (F : Fun K "wishes_text" "wishes_text" sWsText f fd) (m99 : mg "MOST_IN_WISHES" = some (.int 99 t99)) (G : FnOk P w K mg base (CXe P w) 15 g gd ["wishes", "most"] (spNo1m cR)) (bG : Binds K gd ["wishes", "most"] []) (kG : PySem.W.keepIn K (.ref g) = true) (mG : mg "check_wishes" = some (.ref g)) :
    FnOk P w K mg base (CXe P w) 16 f fd ["wishes"] (spNo1 cR) := by
  refine fnX F scWsText (fun vs H Q E h => ?_) (fun cdv A outer s H vs Q E gp hcl hr h => ?_)
  · obtain ⟨x, rfl, _⟩ := h
    rfl
  obtain ⟨x, rfl, r⟩ := h
  exact ⟨_, jb_cons (js_expr (je_call G hr rfl mG kG bG .nil (passE (hcl (by decide))) (jn (jv 0) (jn (je_glob (v := .int 99) rfl m99 ⟨t99, rfl⟩) ja0)))) jb_never, _, rfl, x, 99, rfl, r⟩
abbrev nSd : List Str := ["way", "thing", "caught", "kept", "e"]
theorem scSaid : FnScope nSd ["way", "thing"] (defScope sSaid) := ⟨rfl, rfl, rfl, by decide +kernel, rfl, by decide +kernel, by decide +kernel⟩
set_option maxHeartbeats 4000000 in
theorem ok_said {cs : Cs7} {gO gR gW gK : Addr} {dO dR dW dK : FuncData} (F : Fun K "_law_said" "_law_said" sSaid f fd) (M : Mg2 mg) (S : MCs7 mg cs) (a0 : AnsW K cs cs.c0 0) (a1 : AnsW K cs cs.c1 1) (a8 : AnsW K cs cs.c8 8)
    (O : FnOk P w K mg base (CXe P w) 15 gO dO ["order"] (spNoD K cs.c0 isOrdD (fun H => H TO = some (TabP TO)))) (bO : Binds K dO ["order"] []) (kO : PySem.W.keepIn K (.ref gO) = true) (mO : mg "order_text" = some (.ref gO))
    (R : FnOk P w K mg base (CXe P w) 15 gR dR ["reach"] (fun vs H Q E => spNoD K cs.c1 reachD (fun H => H TR = some (TabP TR)) vs H Q E ∨ spRText K TR vs H Q E)) (bR : Binds K dR ["reach"] []) (kR : PySem.W.keepIn K (.ref gR) = true) (mR : mg "reach_text" = some (.ref gR))
    (Ws : FnOk P w K mg base (CXe P w) 16 gW dW ["wishes"] (fun vs H Q E => spNoD K cs.c8 (wishesDt 99) (fun H => T ≠ T2 ∧ H T = some (TabP T) ∧ H T2 = some (TabP T2)) vs H Q E ∨ spNo1 cs.c8 vs H Q E)) (bW : Binds K dW ["wishes"] []) (kW : PySem.W.keepIn K (.ref gW) = true) (mW : mg "wishes_text" = some (.ref gW))
    (Ki : FnOk P w K mg base CX0 13 gK dK ["caught"] (spWordW K cs)) (bK : Binds K dK ["caught"] []) (kK : PySem.W.keepIn K (.ref gK) = true) (mK : mg "_law_word" = some (.ref gK)) : FnOk P w K mg base CX0 17 f fd ["way", "thing"] (spSaid K TO TR T T2) := by
  refine fnJ F scSaid (fun vs H Q E h => ?_) (fun cdv A outer s H vs Q E gp hcl hr h => ?_)
  · obtain ⟨way, x, d, rfl, _⟩ := h
    rfl
  obtain ⟨way, x, d, rfl, hTO, hTR, nT, hT, hT2, hz, sw, hc⟩ := h
  have hr13 : Room 13 _ := hr.mono (by decide)
  have hr15 : Room 15 _ := hr.mono (by decide)
  have hr16 : Room 16 _ := hr.mono (by decide)
  let EE : XK := fun e C H1 => Same H H1 ∧ ((C = some cs.c0 ∧ ∀ H', Same H H' → Q (.str "NoOrder") H') ∨ (C = some cs.c1 ∧ ∀ H', Same H H' → Q (.str "NoReach") H') ∨ (C = some cs.c8 ∧ ∀ H', Same H H' → Q (.str "NoWishes") H'))
  refine ⟨_, jb_cons (js_set (i := 2) scSaid.nd rfl (Or.inl rfl) je_non)
    (jb_cons (js_set (i := 3) scSaid.nd rfl (Or.inl rfl) (je_callB (cr_reprZ hr.units (hcl (by decide))) (by rfl) M.base.repr (by decide +kernel) (jn (jv 1) ja0)))
    (jb_cons (js_tryK (CP := cs.cp) (E := EE) (j := 4) (hcl (by decide)) rfl rfl rfl scSaid.nd rfl rfl rfl S.p ?hC
      (fun pn xe σ0 hp => jb_one (js_if (jt_cmp op_eq (jv 0) je_int (nomark _)) (jb_one (js_expr (je_callK O hr15 rfl mO kO bO .nil hp (jn (jv 1) ja0))))
        (jb_one (js_if (jt_cmp op_eq (jv 0) je_int (nomark _)) (jb_one (js_expr (je_callK R hr15 rfl mR kR bR .nil hp (jn (jv 1) ja0))))
          (jb_one (js_expr (je_callK Ws hr16 rfl mW kW bW .nil hp (jn (jv 1) ja0))))))))
      (fun ea => jb_one (js_set (i := 2) scSaid.nd rfl (Or.inl rfl) (jv 4))))
    (jb_cons (js_if (jt_cmp op_ne (je_callB (cr_reprZ hr.units (hcl (by decide))) (by rfl) M.base.repr (by decide +kernel) (jn (jv 1) ja0)) (jv 3) (nomark _)) jb_never jb_nil)
    (jb_one (js_ret (je_if (jt_cmp op_isN (jv 2) je_non (nomark _)) je_str (je_call Ki hr13 rfl mK kK bK .nil pass0 (jn (jv 2) ja0)))))))), ?_⟩
  case hC =>
    rintro ea C H1 ⟨_, ⟨e, _⟩ | ⟨e, _⟩ | ⟨e, _⟩⟩
    · cases e
      exact a0.pe
    · cases e
      exact a1.pe
    · cases e
      exact a8.pe
  refine ⟨_, rfl, x, d, rfl, hz, sw, ?_⟩
  refine ⟨?_, fun ea U1 C H1 n1 n2 ne ⟨e1, ec⟩ => ?_⟩
  · rcases hc with ⟨rfl, ht, hn, q⟩ | ⟨rfl, ht, hn, q⟩ | ⟨rfl, hn, q⟩ | ⟨rfl, ⟨p, l, r, rfl, ra⟩, q⟩
    · exact ⟨_, rfl, rfl, _, rfl, itT rfl ⟨rfl, _, rfl, x, d, rfl, ht, hTO, hn, fun ea H' e => ⟨e, .inl ⟨rfl, q⟩⟩⟩⟩
    · exact ⟨_, rfl, rfl, _, rfl, itF rfl ⟨_, rfl, rfl, _, rfl, itT rfl ⟨rfl, _, rfl, .inl ⟨x, d, rfl, ht, hTR, hn, fun ea H' e => ⟨e, .inr (.inl ⟨rfl, q⟩)⟩⟩⟩⟩⟩
    · refine ⟨_, rfl, rfl, _, rfl, itF rfl ⟨_, rfl, rfl, _, rfl, itF rfl ⟨rfl, _, rfl, ?_⟩⟩⟩
      rcases hz with ht | ⟨_, ho⟩
      · exact .inl ⟨x, d, rfl, ht, ⟨nT, hT, hT2⟩, hn, fun ea H' e => ⟨e, .inr (.inr ⟨rfl, q⟩)⟩⟩
      · exact .inr ⟨x, rfl, ho, fun ea H' e => ⟨e, .inr (.inr ⟨rfl, q⟩)⟩⟩
    · refine ⟨_, rfl, rfl, _, rfl, itF rfl ⟨_, rfl, rfl, _, rfl, itT rfl ⟨rfl, _, rfl, .inr ⟨p, l, r, rfl, ra.sq, ra.l0, ra.l1, ra.r0, ra.r1, hTR, ?_⟩⟩⟩⟩
      refine ⟨_, rfl, .ref p, d, rfl, hz, sw, _, rfl, rfl, _, rfl, itF (by simp) ?_⟩
      exact ⟨_, rfl, rfl, _, rfl, itT rfl (q H (Same.refl H))⟩
  · have sx : ∀ C, Same H (xH H1 ea U1 C) := fun C b o hb => xH_of n1 n2 (e1 b o hb)
    rcases ec with ⟨ec, q⟩ | ⟨ec, q⟩ | ⟨ec, q⟩
    · cases ec
      refine ⟨_, rfl, ?_⟩
      refine ⟨_, rfl, x, d, rfl, hz.same (sx _), sw, _, rfl, rfl, _, rfl, itF (by simp) ?_⟩
      exact ⟨_, rfl, rfl, _, rfl, itF rfl ⟨_, rfl, ea, U1, cs.c0, 0, rfl, xH_ea, a0, fun H' e => by simpa [wordsL] using q H' ((sx _).trans e)⟩⟩
    · cases ec
      refine ⟨_, rfl, ?_⟩
      refine ⟨_, rfl, x, d, rfl, hz.same (sx _), sw, _, rfl, rfl, _, rfl, itF (by simp) ?_⟩
      exact ⟨_, rfl, rfl, _, rfl, itF rfl ⟨_, rfl, ea, U1, cs.c1, 1, rfl, xH_ea, a1, fun H' e => by simpa [wordsL] using q H' ((sx _).trans e)⟩⟩
    · cases ec
      refine ⟨_, rfl, ?_⟩
      refine ⟨_, rfl, x, d, rfl, hz.same (sx _), sw, _, rfl, rfl, _, rfl, itF (by simp) ?_⟩
      exact ⟨_, rfl, rfl, _, rfl, itF rfl ⟨_, rfl, ea, U1, cs.c8, 8, rfl, xH_ea, a8, fun H' e => by simpa [wordsL] using q H' ((sx _).trans e)⟩⟩
end
end K51
set_option Elab.async false
set_option linter.all false
set_option maxRecDepth 100000
namespace NU
open PySem PySem.Spec PyProof.Rows L2
section
variable {prog : Program} {w : World} {A : Around} {E : Value → Shared → Prop} {s : Shared}
end
end NU
set_option Elab.async false
set_option linter.all false
set_option maxRecDepth 100000
namespace NU
open PySem PySem.Spec PyProof.Rows L2
section
variable {prog : Program} {w : World} {A : Around} {E : Value → Shared → Prop} {s : Shared}
end
end NU
set_option Elab.async false
set_option linter.all false
set_option maxRecDepth 100000
namespace NU
open PySem PySem.Spec PyProof.Rows L2
end NU
set_option Elab.async false
set_option linter.all false
set_option maxRecDepth 100000
namespace NU
open PySem PySem.Spec PyProof.Rows L2 NP
open AutoSeq1 (wpAny_loadPart') -- names
section
variable {prog : Program} {w : World} {A : Around} {E : Value → Shared → Prop} {s : Shared}
end
end NU
set_option Elab.async false
set_option linter.all false
set_option maxRecDepth 100000
namespace NG
open PySem PySem.Spec PyProof.Rows L2 NP ND NK NQ
section
variable {P : Program} {w : World} {H : Hp} {s : Shared} {A : Around} {E : Value → Shared → Prop} {env : Env}
end
/-- rolls at a list -/
structure RollsAt (K : PySem.W.Frag) (H : Hp) (p : Addr) (s : Int) (rs : List Int) : Prop where
  sq : SqL K H p (rs.map V.int)
  rg : ∀ x ∈ rs, 0 ≤ x ∧ x < s
/-- as often the count as it goes into the width -/
def fitI (c w : Int) : Int := w / c * c
/-- width and mark behind k rolls, before the parting -/
def wm (c s : Int) (rs : List Int) : Nat → Int × Int
  | 0 => (1, 0)
  | k + 1 => (((wm c s rs k).1 - fitI c (wm c s rs k).1) * s, ((wm c s rs k).2 - fitI c (wm c s rs k).1) * s + rs.getD k 0)
/-- it is drawn behind k rolls -/
def hit (c s : Int) (rs : List Int) (k : Nat) : Prop := (wm c s rs k).2 < fitI c (wm c s rs k).1
instance (c s : Int) (rs : List Int) (k : Nat) : Decidable (hit c s rs k) := inferInstanceAs (Decidable (_ < _))
end NG
set_option Elab.async false
set_option linter.all false
set_option maxRecDepth 100000
namespace NG
open PySem PySem.Spec PyProof.Rows L2 NP ND NK NQ
end NG
set_option Elab.async false
set_option linter.all false
set_option maxRecDepth 100000
namespace NU
open PySem PySem.Spec PyProof.Rows L2 NP ND NK NG NQ
section
open AutoSeq1 (wpAny_loadPart') -- names
end
/-- data that can be shown, and be one of a few in a list that is shown -/
structure Few (d : PyData) : Prop where
  ok : d.showable = true
  sz : d.shown.length ≤ 1200000
  dp : d.depth ≤ 5
theorem few_okS {d : PyData} (h : NT.okS 3 d = true) : Few d := by
  obtain ⟨a, b, c⟩ := NT.okS_sound 3 d h
  have e : NT.bS 3 = 107168 := by decide
  exact ⟨a, by omega, by omega⟩
theorem few_list {ds : List PyData} (h : ∀ d ∈ ds, NT.okS 1 d = true) (hl : ds.length ≤ 700) : Few (.list ds) := by
  obtain ⟨a, b, c⟩ := NT.sb_all (n := NT.bS 1) (k := 1) fun d hd => NT.okS_sound 1 d (h d hd)
  have e : NT.bS 1 = 1616 := by decide
  rw [e] at b
  have h4 := list_le (PyData.shownAll ds)
  have h3 : (1616 + 2) * ds.length ≤ (1616 + 2) * 700 := Nat.mul_le_mul_left _ hl
  refine ⟨by unfold PyData.showable; exact a, ?_, by unfold PyData.depth; omega⟩
  unfold PyData.shown
  omega
theorem few_tuple {ds : List PyData} (h : ∀ d ∈ ds, NT.okS 1 d = true) (hl : ds.length ≤ 700) : Few (.tuple ds) := by
  obtain ⟨a, b, c⟩ := NT.sb_all (n := NT.bS 1) (k := 1) fun d hd => NT.okS_sound 1 d (h d hd)
  have e : NT.bS 1 = 1616 := by decide
  rw [e] at b
  have h4 := tup_le (PyData.shownAll ds)
  have h3 : (1616 + 2) * ds.length ≤ (1616 + 2) * 700 := Nat.mul_le_mul_left _ hl
  refine ⟨by unfold PyData.showable; exact a, ?_, by unfold PyData.depth; omega⟩
  unfold PyData.shown
  omega
def PX (K : PySem.W.Frag) (pp : Addr) (P : PyData → Prop) (H : Hp) (v : V) : Prop := ∃ d, ThX K pp H v d ∧ P d
section
variable {K : PySem.W.Frag} {pp : Addr} {P : PyData → Prop} {H H0 H1 : Hp} {v : V} {d : PyData} {σ : L2.St} {te : TE} {t : TA} {n : Nat}
theorem PX.but (h : PX K pp P H v) (s : SameBut pp H H1) : PX K pp P H1 v := let ⟨d, a, b⟩ := h; ⟨d, a.but s, b⟩
theorem but_free (b : SameBut pp H H1) (w : PotAt H1 pp) {a : Addr} (h : H1 a = none) : H a = none := by
  cases e : H a with
  | none => rfl
  | some o =>
    by_cases c : a = pp
    · obtain ⟨x, y, z, g⟩ := w
      rw [c, g] at h
      cases h
    · rw [b a o c e] at h
      cases h
end
def PLe (d : PyData) : Prop := betw 0 60 d = false ∧ Few d
theorem p20 : (10 : Int) ^ 20 = 100000000000000000000 := by decide
theorem le_int {a : Int} (h0 : 0 ≤ a) (h1 : a < 1000) : PLe (.int (61 + a)) := ⟨by show (decide (0 ≤ 61 + a) && decide (61 + a ≤ 60)) = false; rw [decide_eq_false (show ¬ 61 + a ≤ 60 by omega), Bool.and_false], few_okS (small_i (by rw [p20]; omega) (by rw [p20]; omega))⟩
theorem small_1 {i : Int} (h1 : -(10 ^ 20) ≤ i) (h2 : i ≤ 10 ^ 20) : NT.okS 1 (.int i) = true := small_i h1 h2
theorem tha_ints {K : PySem.W.Frag} {H : Hp} : ∀ ns : List Int, ThAll K H (ns.map V.int) (ns.map PyData.int)
  | [] => .nil
  | n :: ns => .cons (.dp (.int n)) (tha_ints ns)
end NU
set_option Elab.async false
set_option linter.all false
set_option maxRecDepth 100000
namespace NV
open PySem PySem.Spec PyProof.Rows L2 NP NT NG NU
theorem shows_okS {d : PyData} (h : NT.okS 3 d = true) : Shows d := by
  obtain ⟨a, b, c⟩ := NT.okS_sound 3 d h
  have e : NT.bS 3 = 107168 := by decide
  exact ⟨a, Nat.le_trans (m := 107168) (by omega) (by decide), by omega⟩
theorem shows_2 {ds : List PyData} (h : ∀ d ∈ ds, NT.okS 2 d = true) (hl : ds.length ≤ 200) : Shows (.list ds) := by
  obtain ⟨a, b, c⟩ := NT.sb_all (n := NT.bS 2) (k := 2) fun d hd => NT.okS_sound 2 d (h d hd)
  have e : NT.bS 2 = 13344 := by decide
  rw [e] at b
  have h4 := list_le (PyData.shownAll ds)
  have h3 : (13344 + 2) * ds.length ≤ (13344 + 2) * 200 := Nat.mul_le_mul_left _ hl
  refine ⟨by unfold PyData.showable; exact a, ?_, by unfold PyData.depth; omega⟩
  unfold PyData.shown
  exact Nat.le_trans (m := 3000000) (by omega) (by decide)
theorem shows_2t {ds : List PyData} (h : ∀ d ∈ ds, NT.okS 2 d = true) (hl : ds.length ≤ 200) : Shows (.tuple ds) := by
  obtain ⟨a, b, c⟩ := NT.sb_all (n := NT.bS 2) (k := 2) fun d hd => NT.okS_sound 2 d (h d hd)
  have e : NT.bS 2 = 13344 := by decide
  rw [e] at b
  have h4 := tup_le (PyData.shownAll ds)
  have h3 : (13344 + 2) * ds.length ≤ (13344 + 2) * 200 := Nat.mul_le_mul_left _ hl
  refine ⟨by unfold PyData.showable; exact a, ?_, by unfold PyData.depth; omega⟩
  unfold PyData.shown
  exact Nat.le_trans (m := 3000000) (by omega) (by decide)
theorem shows_1 {d : PyData} (h : Shows d) (hz : d.shown.length ≤ 4000000) (hd : d.depth ≤ 8) : Shows (.list [d]) := by
  obtain ⟨a, b, c⟩ := NT.sb_all (n := 4000000) (k := 8) (ds := [d]) fun e he => by rw [List.mem_singleton.mp he]; exact ⟨h.ok, hz, hd⟩
  have h4 := list_le (PyData.shownAll [d])
  refine ⟨by unfold PyData.showable; exact a, ?_, by unfold PyData.depth; omega⟩
  unfold PyData.shown
  have : [d].length = 1 := rfl
  exact Nat.le_trans (m := 4000100) (by omega) (by decide)
theorem few_2 {ds : List PyData} (h : ∀ d ∈ ds, NT.okS 2 d = true) (hl : ds.length ≤ 200) : (PyData.list ds).shown.length ≤ 4000000 ∧ (PyData.list ds).depth ≤ 8 := by
  obtain ⟨a, b, c⟩ := NT.sb_all (n := NT.bS 2) (k := 2) fun d hd => NT.okS_sound 2 d (h d hd)
  have e : NT.bS 2 = 13344 := by decide
  rw [e] at b
  have h4 := list_le (PyData.shownAll ds)
  have h3 : (13344 + 2) * ds.length ≤ (13344 + 2) * 200 := Nat.mul_le_mul_left _ hl
  refine ⟨?_, by unfold PyData.depth; omega⟩
  unfold PyData.shown
  exact Nat.le_trans (m := 3000000) (by omega) (by decide)
def WellAt (H : Hp) (p : Addr) : Prop := ∃ z y : Int, H p = some (.lst [.int z, .int y])
theorem WellAt.same {H H' : Hp} {p : Addr} (h : WellAt H p) (e : Same H H') : WellAt H' p := let ⟨z, y, a⟩ := h; ⟨z, y, e _ _ a⟩
theorem well_ne {H : Hp} {p : Addr} (h : WellAt H p) : H p ≠ none := by obtain ⟨z, y, e⟩ := h; rw [e]; intro z; cases z
theorem freeB {p q : Addr} {H H' : Hp} (s : SameBut p H H') (n : q ≠ p) (e : H' q = none) : H q = none := by
  cases h : H q with
  | none => rfl
  | some o => rw [s q o n h] at e; cases e
theorem cutm {α : Type} (f : α → V) (ws : List α) (lo hi : Option Int) : ∃ ms : List α, cutV (ws.map f) lo hi = ms.map f ∧ ms.length ≤ ws.length ∧ ∀ x ∈ ms, x ∈ ws := by
  unfold cutV
  refine ⟨(ws.drop (HT.sIx (ws.map f).length 0 lo)).take (HT.sIx (ws.map f).length (ws.map f).length hi - HT.sIx (ws.map f).length 0 lo), by rw [List.map_take, List.map_drop], ?_, fun x hx => List.mem_of_mem_drop (List.mem_of_mem_take hx)⟩
  rw [List.length_take, List.length_drop]
  omega
theorem sl_listKn {X : Cx} {K : PySem.W.Frag} (hK : X.K = K) : SlR X (rSlL K) := by subst hK; exact sl_list
def PZ (K : PySem.W.Frag) (pp : Addr) (P : PyData → Prop) (H : Hp) (v : V) : Prop := ∃ d, (∀ H', SameBut pp H H' → Zt K H' v d) ∧ P d
section
variable {K : PySem.W.Frag} {pp : Addr} {P : PyData → Prop} {H H0 H1 : Hp} {v : V} {d : PyData} {σ : L2.St} {te : TE} {t : TA} {n : Nat} {xs : List V} {ds : List PyData}
theorem PZ.but (h : PZ K pp P H v) (s : SameBut pp H H1) : PZ K pp P H1 v := let ⟨d, a, b⟩ := h; ⟨d, fun H' s' => a H' (SameBut.trans s s'), b⟩
theorem PZ.same (h : PZ K pp P H v) (s : Same H H1) : PZ K pp P H1 v := h.but (same_but s)
theorem px_all (h : ThXs K pp H xs ds) (hp : ∀ d ∈ ds, P d) : ∀ v ∈ xs, PX K pp P H v := fun v hv => by
  obtain ⟨i, hi, rfl⟩ := List.getElem_of_mem hv
  have hl := h.len
  exact ⟨ds[i]'(by omega), h.nth (List.getElem?_eq_getElem hi) (List.getElem?_eq_getElem (by omega)), hp _ (List.getElem_mem _)⟩
/-- a new list of such things -/
def NewL (E : Hp → V → Prop) (p : Addr) (H H' : Hp) (a : Addr) : Prop := H a = none ∧ a ≠ p ∧ ∃ xs, H' a = some (.lst xs) ∧ xs.length ≤ 300 ∧ ∀ v ∈ xs, E H' v
def GV (K : PySem.W.Frag) (pp : Addr) (P : PyData → Prop) (H0 : Hp) (σ : L2.St) (te : TE) : Prop := ∀ (H : Hp) (Q : VK), Same H0 H → (∀ v H', Same H H' → PZ K pp P H' v → Q v H') → te σ H Q
def GVs (K : PySem.W.Frag) (pp : Addr) (P : PyData → Prop) (H0 : Hp) (n : Nat) (σ : L2.St) (t : TA) : Prop := ∀ (H : Hp) (Q : List V → Hp → Prop), Same H0 H → (∀ vs H', Same H H' → vs.length = n → (∀ v ∈ vs, PZ K pp P H' v) → Q vs H') → t σ H Q
theorem gv_gx (h : GX K pp σ te d) (w : H0 pp ≠ none) (p : P d) : GV K pp P H0 σ te := fun H Q e q => h H Q (Same.keep e w) fun v H' e' t => q v H' e' ⟨d, fun H2 s => .inl (t H2 s), p⟩
theorem gvs_nil : GVs K pp P H0 0 σ tNil := fun H Q _ q => q [] H (Same.refl H) rfl fun v hv => nomatch hv
theorem gvs_cons (h : GV K pp P H0 σ te) (ht : GVs K pp P H0 n σ t) : GVs K pp P H0 (n + 1) σ (tCons te t) := fun H Q c q => h H _ c fun v H1 e1 x1 => ht H1 _ (c.trans e1) fun vs H2 e2 l2 x2 => q (v :: vs) H2 (e1.trans e2) (by rw [List.length_cons, l2]) fun u hu => by
  rcases List.mem_cons.mp hu with rfl | hu
  · exact x1.same e2
  · exact x2 u hu
theorem gv_list {Q : VK} (h : GVs K pp P H n σ t) (hl : n ≤ 1000) (q : ∀ a xs H', Same H H' → H a = none → H' a = some (.lst xs) → xs.length = n → (∀ v ∈ xs, PZ K pp P H' v) → Q (.ref a) H') : tLst t σ H Q :=
  h H _ (Same.refl H) fun vs H1 e1 l1 x1 => ⟨by rw [l1]; exact Nat.le_trans hl (by decide), fun p np => by
    have e2 := same_new np (.lst vs)
    exact q p vs _ (e1.trans e2) (e1.free np) (new_at np _) l1 fun v hv => (x1 v hv).same e2⟩
theorem gv_setL {i : Nat} {r : TS} {D : Ends} (h : GVs K pp P H n σ t) (hl : n ≤ 1000) (q : ∀ a xs H', Same H H' → H a = none → H' a = some (.lst xs) → xs.length = n → (∀ v ∈ xs, PZ K pp P H' v) → r D (σ.set i (some (.ref a))) H') : tSeq (tAsg (tLst t) (gName i)) r D σ H := by
  show tLst t σ H fun x H1 => r D (σ.set i (some x)) H1
  exact gv_list h hl q
end
theorem okW {q : Wsh} (h : OkW 99 q) : NT.okS 1 (wshD q) = true := by
  obtain ⟨b, i, j⟩ := q
  obtain ⟨h1, h2, h3, h4⟩ := h
  have p : (10 : Int) ^ 20 = 100000000000000000000 := by decide
  have a1 : NT.okS 3 (.int i) = true := small_i (by rw [p]; simp only at h1; omega) (by rw [p]; simp only at h2; omega)
  have a2 : NT.okS 3 (.int j) = true := small_i (by rw [p]; simp only at h3; omega) (by rw [p]; simp only at h4; omega)
  have a1' : NT.okS 0 (.int i) = true := a1
  have a2' : NT.okS 0 (.int j) = true := a2
  have ab : NT.okS 0 (.str (wordS b)) = true := by cases b <;> decide +kernel
  show (decide (3 ≤ 8) && ([PyData.str (wordS b), .int i, .int j]).all (NT.okS 0)) = true
  simp only [List.all_cons, List.all_nil, a1', a2', ab]
  rfl
theorem okW2 {q : Wsh} (h : OkW 99 q) : NT.okS 2 (wshD q) = true := NT.okS_mono (okW h) (by decide)
theorem bad_wishes {as bs : List PyData} {d : PyData} (h : wishDt 99 d = false) : wishesDt 99 (.list (as ++ [d] ++ bs)) = false := by
  show (decide ((as ++ [d] ++ bs).length ≤ 60) && (as ++ [d] ++ bs).all (wishDt 99)) = false
  rw [List.all_append, List.all_append]
  have : ([d] : List PyData).all (wishDt 99) = false := by rw [List.all_cons, h, Bool.false_and]
  rw [this, Bool.and_false, Bool.false_and, Bool.and_false]
theorem tha_wsh {K : PySem.W.Frag} {H : Hp} : ∀ {ws : List (Wsh × Addr)}, (∀ q ∈ ws, SqT K H q.2 (wshV q.1)) → ThAll K H (ws.map fun q => V.ref q.2) (ws.map fun q => wshD q.1)
  | [], _ => .nil
  | q :: ws, h => .cons (.dp (dp_wsh (h q (.head _)))) (tha_wsh fun u hu => h u (.tail _ hu))
end NV
set_option Elab.async false
set_option linter.all false
set_option maxRecDepth 100000
namespace NV
open PySem PySem.Spec PyProof.Rows L2 NP NT NG NU
def nrA (one : Int) : List PyData := [.none, .int 0, .bool true, .str "", .str "1,1", .tuple [], .list [], .dict [], .tuple [.int 1], .tuple [.int 1, .int 1, .int 1], .list [.int one, .int 1], .tuple [.int one, .int (-1)], .tuple [.int (-1), .int one], .tuple [.int one, .int 4], .tuple [.int 4, .int one]]
def nrB (one : Int) : List PyData := [.tuple [.bool true, .int one], .tuple [.int one, .bool false], .tuple [.none, .int one], .tuple [.int one, .none], .tuple [.str "1", .int one], .tuple [.int one, .str "1"], .tuple [.int one, .list [.int 1]], .tuple [.tuple [.int 1], .int one]]
def nrC (one : Int) : List PyData := [.dict [(.int one, .int 1)], .tuple [.int (10 ^ (29 : Int).toNat), .int one], .tuple [.int one, .int (10 ^ (39 : Int).toNat)], .tuple [.tuple [.int 1, .int 1]], .str "11"]
theorem nr_all : ∀ a : Fin 4, (nrA ((a : Nat) : Int) ++ nrB ((a : Nat) : Int) ++ nrC ((a : Nat) : Int)).all (fun d => !reachD d && NT.okS 3 d) = true := by decide +kernel
theorem nr_ok {one : Int} (h0 : 0 ≤ one) (h1 : one < 4) : ∀ d ∈ nrA one ++ nrB one ++ nrC one, reachD d = false ∧ Shows d := by
  obtain ⟨a, rfl⟩ := Int.eq_ofNat_of_zero_le h0
  intro d hd
  have := List.all_eq_true.mp (nr_all ⟨a, by omega⟩) d hd
  rw [Bool.and_eq_true, Bool.not_eq_true'] at this
  exact ⟨this.1, shows_okS this.2⟩
def spNoReaches (K : PySem.W.Frag) : Sp := fun vs H Q _ => ∃ p : Addr, vs = [.ref p] ∧ WellAt H p ∧ ∀ a H', SameBut p H H' → WellAt H' p → NewL (PX K p fun d => reachD d = false ∧ Shows d) p H H' a → Q (.ref a) H'
end NV
namespace K51
open PySem PySem.Spec PyProof.Rows L2 NP NT NV NN NK NQ NG NU
section
variable {P : Program} {w : World} {K : PySem.W.Frag} {mg : Str → Option Value} {base : Heap} {f g : Addr} {fd gd : FuncData}
theorem scNoR : FnScope ["well", "one", "some"] ["well"] (defScope sNoR) := ⟨rfl, rfl, rfl, by decide +kernel, rfl, by decide +kernel, by decide +kernel⟩
set_option maxHeartbeats 4000000 in
theorem ok_noR (F : Fun K "_law_no_reaches" "_law_no_reaches" sNoR f fd) (M : Mg2 mg) (Ta : FnOk P w K mg base CX0 1 g gd ["well", "many"] NP.spDraw2) (bT : Binds K gd ["well", "many"] []) (kT : PySem.W.keepIn K (.ref g) = true) (mT : mg "_law_draw" = some (.ref g)) : FnOk P w K mg base CX0 2 f fd ["well"] (spNoReaches K) := by
  refine fnJ F scNoR (fun vs H Q E h => ?_) (fun cdv A outer s H vs Q E gp hcl hr h => ?_)
  · obtain ⟨p, rfl, _⟩ := h
    rfl
  obtain ⟨p, rfl, ⟨z0, y0, hp⟩, q⟩ := h
  refine ⟨_, (jb_cons (js_set (i := 1) scNoR.nd rfl (Or.inl rfl) (je_call Ta hr rfl mT kT bT .nil pass0 (jn (jv 0) (ji_ ja0))))
    (jb_cons (js_set (i := 2) scNoR.nd rfl (Or.inl rfl) (je_lst (jc je_non (ji_ (jc je_bl (jc je_str (jc je_str (jTu (je_tup ja0) (jLi (je_lst ja0) (jDi je_dnew (jTu (je_tup (ji_ ja0)) (jTu (je_tup (ji_ (ji_ (ji_ ja0)))) (jLi (je_lst (jn (jv 1) (ji_ ja0))) (jTu (je_tup (jn (jv 1) (jUn (je_un un_neg je_int) ja0))) (jTu (je_tup (jUn (je_un un_neg je_int) (jn (jv 1) ja0))) (jTu (je_tup (jn (jv 1) (ji_ ja0))) (jTu (je_tup (ji_ (jn (jv 1) ja0))) ja0)))))))))))))))))
    (jb_cons (js_set (i := 2) scNoR.nd rfl (Or.inl rfl) (je_op op_cat (jv 2) (je_lst (jTu (je_tup (jc je_bl (jn (jv 1) ja0))) (jTu (je_tup (jn (jv 1) (jc je_bl ja0))) (jTu (je_tup (jc je_non (jn (jv 1) ja0))) (jTu (je_tup (jn (jv 1) (jc je_non ja0))) (jTu (je_tup (jc je_str (jn (jv 1) ja0))) (jTu (je_tup (jn (jv 1) (jc je_str ja0))) (jTu (je_tup (jn (jv 1) (jLi (je_lst (ji_ ja0)) ja0))) (jTu (je_tup (jTu (je_tup (ji_ ja0)) (jn (jv 1) ja0))) ja0)))))))))))
    (jb_one (js_ret (je_op op_cat (jv 2) (je_lst (jDi (je_disp (jp_cons (jv 1) je_int jp_nil) rfl rfl (by intro h; cases h) (by decide)) (jTu (je_tup (jBi (je_op op_pow je_int je_int) (jn (jv 1) ja0))) (jTu (je_tup (jn (jv 1) (jBi (je_op op_pow je_int je_int) ja0))) (jTu (je_tup (jTu (je_tup (ji_ (ji_ ja0))) ja0)) (jc je_str ja0)))))))))))), ?_⟩
  refine ⟨_, rfl, p, z0, y0, 4, rfl, hp, by decide, by decide, fun one z1 y1 H1 a0 a1 s1 w1 => ?_⟩
  have h1 : H1 p ≠ none := well_ne ⟨_, _, w1⟩
  dsimp only [gName]
  refine gx_setL (K := K) (pp := p) (ds := nrA one) (by repeat' (first | exact gxs_nil | refine gxs_cons ?_ ?_ | exact gx_non | exact gx_bl | exact gx_str | exact gx_dnew | exact gx_int gi_c | exact gx_int gi_var | exact gx_int (gi_neg gi_c) | exact gx_int gi_pow | exact gx_d1 gi_var gi_c | refine gx_tup ?_ | refine gx_lst ?_)) h1 (by show 15 ≤ 1000; decide) fun p3 x3 H3 e3 _ g3 t3 => ?_
  have w3 := e3 _ _ w1
  refine ⟨_, rfl, gx_list (K := K) (pp := p) (ds := nrB one) (by repeat' (first | exact gxs_nil | refine gxs_cons ?_ ?_ | exact gx_non | exact gx_bl | exact gx_str | exact gx_dnew | exact gx_int gi_c | exact gx_int gi_var | exact gx_int (gi_neg gi_c) | exact gx_int gi_pow | exact gx_d1 gi_var gi_c | refine gx_tup ?_ | refine gx_lst ?_)) (well_ne ⟨_, _, w3⟩) (by show 8 ≤ 1000; decide) fun p4 x4 H4 e4 _ g4 t4 => ?_⟩
  have l3 : x3.length = 15 := t3.len
  have l4 : x4.length = 8 := t4.len
  have w4 := e4 _ _ w3
  refine ⟨p3, p4, x3, x4, rfl, rfl, e4 _ _ g3, g4, by rw [l3, l4]; decide, fun p5 n5 => ?_⟩
  have t5 := ((t3.same e4).app t4).same (same_new n5 (.lst (x3 ++ x4)))
  have g5 := new_at n5 (.lst (x3 ++ x4))
  have e5 := e4.trans (same_new n5 (.lst (x3 ++ x4)))
  have w5 := e5 _ _ w3
  generalize upd H4 p5 (.lst (x3 ++ x4)) = H5 at *
  refine ⟨_, rfl, gx_list (K := K) (pp := p) (ds := nrC one) (by repeat' (first | exact gxs_nil | refine gxs_cons ?_ ?_ | exact gx_non | exact gx_bl | exact gx_str | exact gx_dnew | exact gx_int gi_c | exact gx_int gi_var | exact gx_int (gi_neg gi_c) | exact gx_int gi_pow | exact gx_d1 gi_var gi_c | refine gx_tup ?_ | refine gx_lst ?_)) (well_ne ⟨_, _, w5⟩) (by show 5 ≤ 1000; decide) fun p6 x6 H6 e6 _ g6 t6 => ?_⟩
  have l6 : x6.length = 5 := t6.len
  refine ⟨p5, p6, _, x6, rfl, rfl, e6 _ _ g5, g6, by rw [List.length_append, l3, l4, l6]; decide, fun p7 n7 => ?_⟩
  have e7 := same_new n7 (.lst (x3 ++ x4 ++ x6))
  have t7 := ((t5.same e6).app t6).same e7
  have w6 := e6 _ _ w5
  have sb : SameBut p H _ := SameBut.then s1 ((e3.trans e5).trans (e6.trans e7))
  refine q p7 _ sb ⟨_, _, e7 _ _ w6⟩ ⟨?_, (ne_of_none w6 n7).symm, _, new_at n7 _, by rw [List.length_append, List.length_append, l3, l4, l6]; decide, px_all t7 fun d hd => nr_ok a0 a1 d hd⟩
  exact freeB (SameBut.then s1 ((e3.trans e5).trans e6)) (ne_of_none w6 n7).symm n7
end
end K51
set_option Elab.async false
set_option linter.all false
set_option maxRecDepth 100000
namespace NV
open PySem PySem.Spec PyProof.Rows L2 NP NT NG NU
def nwA : List PyData := [.none, .int 0, .str "at 1 1", .list [.str "at", .int 1, .int 1], .tuple [.str "at", .int 1], .tuple [.str "at", .int 1, .int 1, .int 1], .tuple [.str "At", .int 1, .int 1], .tuple [.str "on", .int 1, .int 1], .tuple [.int 1, .int 1, .str "at"], .tuple []]
def nwB : List PyData := [.tuple [.str "at", .int (-1), .int 1], .tuple [.str "not", .int 1, .int (-1)], .tuple [.str "at", .int 100, .int 1], .tuple [.str "not", .int 1, .int 100], .tuple [.str "at", .bool true, .int 1], .tuple [.str "not", .int 1, .bool false]]
def nwC : List PyData := [.tuple [.str "at", .none, .int 1], .tuple [.str "at", .int 1, .str "1"], .tuple [.str "not", .list [.int 1], .int 1], .tuple [.none, .int 1, .int 1], .tuple [.list [.str "at"], .int 1, .int 1], .tuple [.str "at", .int (10 ^ (39 : Int).toNat), .int 1]]
theorem nw_all : (nwA ++ nwB ++ nwC).all (fun d => !wishDt 99 d && NT.okS 2 d) = true := by decide +kernel
theorem nw_ok : ∀ d ∈ nwA ++ nwB ++ nwC, wishDt 99 d = false ∧ NT.okS 2 d = true := by
  intro d hd
  have := List.all_eq_true.mp nw_all d hd
  rw [Bool.and_eq_true, Bool.not_eq_true'] at this
  exact this
def PNw (d : PyData) : Prop := wishesDt 99 d = false ∧ Shows d
def spNoWishesL (K : PySem.W.Frag) : Sp := fun vs H Q _ => ∃ (p wp : Addr) (ws : List (Wsh × Addr)), vs = [.ref p, .ref wp] ∧ WellAt H p ∧ wp ≠ p ∧ H wp = some (.lst (ws.map fun q => V.ref q.2)) ∧ ws.length ≤ 60 ∧ (∀ q ∈ ws, OkW 99 q.1 ∧ H q.2 = some (.tup (wshV q.1)) ∧ q.2 ≠ p) ∧ ∀ a H', SameBut p H H' → WellAt H' p → NewL (PZ K p PNw) p H H' a → Q (.ref a) H'
theorem at1_ok : OkW 99 (true, 1, 1) := ⟨by decide, by decide, by decide, by decide⟩
theorem nw_sh {d : PyData} (h : NT.okS 3 d = true) (h2 : wishesDt 99 d = false) : PNw d := ⟨h2, shows_okS h⟩
theorem nw_list {as bs : List Wsh} {d : PyData} (ha : ∀ x ∈ as, OkW 99 x) (hb : ∀ x ∈ bs, OkW 99 x) (la : as.length ≤ 60) (lb : bs.length ≤ 60) (hd : wishDt 99 d = false) (h2 : NT.okS 2 d = true) : PNw (.list (as.map wshD ++ [d] ++ bs.map wshD)) := by
  refine ⟨bad_wishes hd, shows_2 (fun e he => ?_) (by simp only [List.length_append, List.length_map, List.length_singleton]; omega)⟩
  rcases List.mem_append.mp he with h | h
  · rcases List.mem_append.mp h with h | h
    · obtain ⟨x, hx, rfl⟩ := List.mem_map.mp h
      exact okW2 (ha x hx)
    · rw [List.mem_singleton.mp h]; exact h2
  · obtain ⟨x, hx, rfl⟩ := List.mem_map.mp h
    exact okW2 (hb x hx)
theorem nw_nest {as : List Wsh} (ha : ∀ x ∈ as, OkW 99 x) (la : as.length ≤ 60) : PNw (.list [.list (as.map wshD ++ [wshD (true, 1, 1)])]) := by
  have hs : ∀ e ∈ as.map wshD ++ [wshD (true, 1, 1)], NT.okS 2 e = true := fun e he => by
    rcases List.mem_append.mp he with h | h
    · obtain ⟨x, hx, rfl⟩ := List.mem_map.mp h
      exact okW2 (ha x hx)
    · rw [List.mem_singleton.mp h]; exact okW2 at1_ok
  have hl : (as.map wshD ++ [wshD (true, 1, 1)]).length ≤ 200 := by rw [List.length_append, List.length_map, List.length_singleton]; omega
  have f2 := few_2 hs hl
  exact ⟨rfl, shows_1 (shows_2 hs hl) f2.1 f2.2⟩
theorem nw_many : PNw (.list (List.replicate 61 (wshD (true, 1, 1)))) := ⟨by decide +kernel, shows_2 (fun e he => by rw [(List.mem_replicate.mp he).2]; exact okW2 at1_ok) (by rw [List.length_replicate]; decide)⟩
theorem nw_tuple {as : List Wsh} (ha : ∀ x ∈ as, OkW 99 x) (la : as.length ≤ 60) : PNw (.tuple (as.map wshD)) := ⟨rfl, shows_2t (fun e he => by
  obtain ⟨x, hx, rfl⟩ := List.mem_map.mp he
  exact okW2 (ha x hx)) (by rw [List.length_map]; omega)⟩
end NV
namespace K51
open PySem PySem.Spec PyProof.Rows L2 NP NT NV NN NK NQ NG NU
section
variable {P : Program} {w : World} {K : PySem.W.Frag} {mg : Str → Option Value} {base : Heap} {f g : Addr} {fd gd : FuncData}
abbrev nNW : List Str := ["well", "wishes", "odd", "at", "found", "some", "thing"]
theorem scNoW : FnScope nNW ["well", "wishes"] (defScope sNoW) := ⟨rfl, rfl, rfl, by decide +kernel, rfl, by decide +kernel, by decide +kernel⟩
set_option maxHeartbeats 8000000 in
theorem ok_noW (F : Fun K "_law_no_wishes" "_law_no_wishes" sNoW f fd) (M : Mg2 mg) (Ta : FnOk P w K mg base CX0 1 g gd ["well", "many"] NP.spDraw2) (bT : Binds K gd ["well", "many"] []) (kT : PySem.W.keepIn K (.ref g) = true) (mT : mg "_law_draw" = some (.ref g)) : FnOk P w K mg base CX0 12 f fd ["well", "wishes"] (spNoWishesL K) := by
  refine fnJ F scNoW (fun vs H Q E h => ?_) (fun cdv A outer s H vs Q E gp hcl hr h => ?_)
  · obtain ⟨p, wp, ws, rfl, _⟩ := h
    rfl
  obtain ⟨p, wp, ws, rfl, ⟨z0, y0, hp⟩, wpp, hw, l60, hws, q⟩ := h
  have hr1 : Room 1 _ := hr.mono (by decide)
  have hc1 : L2.Cl 1 gp := L2.Cl.mono hcl (by decide)
  refine ⟨_, (jb_cons (js_set (i := 2) scNoW.nd rfl (Or.inl rfl) (je_lst (jc je_non (ji_ (jc je_str (jLi (je_lst (jc je_str (ji_ (ji_ ja0)))) (jTu (je_tup (jc je_str (ji_ ja0))) (jTu (je_tup (jc je_str (ji_ (ji_ (ji_ ja0))))) (jTu (je_tup (jc je_str (ji_ (ji_ ja0)))) (jTu (je_tup (jc je_str (ji_ (ji_ ja0)))) (jTu (je_tup (ji_ (ji_ (jc je_str ja0)))) (jTu (je_tup ja0) ja0))))))))))))
    (jb_cons (js_set (i := 2) scNoW.nd rfl (Or.inl rfl) (je_op op_cat (jv 2) (je_lst (jTu (je_tup (jc je_str (jUn (je_un un_neg je_int) (ji_ ja0)))) (jTu (je_tup (jc je_str (ji_ (jUn (je_un un_neg je_int) ja0)))) (jTu (je_tup (jc je_str (ji_ (ji_ ja0)))) (jTu (je_tup (jc je_str (ji_ (ji_ ja0)))) (jTu (je_tup (jc je_str (jc je_bl (ji_ ja0)))) (jTu (je_tup (jc je_str (ji_ (jc je_bl ja0)))) ja0)))))))))
    (jb_cons (js_set (i := 2) scNoW.nd rfl (Or.inl rfl) (je_op op_cat (jv 2) (je_lst (jTu (je_tup (jc je_str (jc je_non (ji_ ja0)))) (jTu (je_tup (jc je_str (ji_ (jc je_str ja0)))) (jTu (je_tup (jc je_str (jLi (je_lst (ji_ ja0)) (ji_ ja0)))) (jTu (je_tup (jc je_non (ji_ (ji_ ja0)))) (jTu (je_tup (jLi (je_lst (jc je_str ja0)) (ji_ (ji_ ja0)))) (jTu (je_tup (jc je_str (jBi (je_op op_pow je_int je_int) (ji_ ja0)))) ja0)))))))))
    (jb_cons (js_set (i := 3) scNoW.nd rfl (by first | exact Or.inl rfl | exact Or.inr rfl) (je_call Ta hr1 rfl mT kT bT .nil pass0 (jn (jv 0) (jBi (je_op op_add (je_callB call_len_seq rfl M.base.len PySem.boot_len (jn (jv 1) ja0)) je_int) ja0))))
    (jb_cons (js_setLc (i := 4) (own := [("thing", 6)]) (g := gName 6) rfl scNoW.nd rfl rfl (sw_true rfl rfl rfl (by decide +kernel)) (ji_list (jv 2)) (blkOk_by (own := [("thing", 6)]) (N := nNW) (sc := defScope sNoW) (by decide +kernel))
      (fun _ _ _ _ _ => jg_name (i := 6) scNoW.nd rfl (Or.inl rfl)) (fun _ _ _ _ _ => jts_nil) (fun _ _ _ _ _ => je_op op_cat (je_op op_cat (je_slice (sl_listKn (K := K) rfl) (jv 1) jo_none (jo_some (jv 3))) (je_lst (jn (jv 6) ja0))) (je_slice (sl_listKn (K := K) rfl) (jv 1) (jo_some (jv 3)) jo_none)))
    (jb_cons (js_set (i := 5) scNoW.nd rfl (Or.inl rfl) (je_lst (jc je_non (ji_ (jc je_bl (jc je_str (jc je_str (jTu (je_tup ja0) (jDi je_dnew (jCa (je_callTy call_tuple_of (by rfl) M.base.tuple (by decide +kernel) (jn (jv 1) ja0)) (jLi (je_lst (jBi (je_op op_cat (jv 1) (je_lst (jTu (je_tup (jc je_str (ji_ (ji_ ja0)))) ja0))) ja0)) (jBi (je_op op_rep (je_lst (jTu (je_tup (jc je_str (ji_ (ji_ ja0)))) ja0)) je_int) ja0))))))))))))
    (jb_one (js_ret (je_op op_cat (je_op op_cat (jv 4) (jv 5)) (je_lst (jDi (je_dispT (Nat.lt_of_le_of_lt (Nat.le_add_right _ _) hr.units) (je_tup (jc je_str (ji_ (ji_ ja0)))) je_int) (jTu (je_tup (jc je_str (ji_ (ji_ ja0)))) (jLi (je_lst (jc je_str (ji_ (ji_ ja0)))) ja0))))))))))))), ?_⟩
  have h0 : H p ≠ none := well_ne ⟨_, _, hp⟩
  refine gx_setL (K := K) (pp := p) (ds := nwA) (by repeat' (first | exact gxs_nil | refine gxs_cons ?_ ?_ | exact gx_non | exact gx_bl | exact gx_str | exact gx_dnew | exact gx_int gi_c | exact gx_int gi_var | exact gx_int (gi_neg gi_c) | exact gx_int gi_pow | exact gx_d1 gi_var gi_c | refine gx_tup ?_ | refine gx_lst ?_)) h0 (by show 10 ≤ 1000; decide) fun p3 x3 H3 e3 _ g3 t3 => ?_
  have w3 := e3 _ _ hp
  refine ⟨_, rfl, gx_list (K := K) (pp := p) (ds := nwB) (by repeat' (first | exact gxs_nil | refine gxs_cons ?_ ?_ | exact gx_non | exact gx_bl | exact gx_str | exact gx_dnew | exact gx_int gi_c | exact gx_int gi_var | exact gx_int (gi_neg gi_c) | exact gx_int gi_pow | exact gx_d1 gi_var gi_c | refine gx_tup ?_ | refine gx_lst ?_)) (well_ne ⟨_, _, w3⟩) (by show 6 ≤ 1000; decide) fun p4 x4 H4 e4 _ g4 t4 => ?_⟩
  have l3 : x3.length = 10 := t3.len
  have l4 : x4.length = 6 := t4.len
  have w4 := e4 _ _ w3
  refine ⟨p3, p4, x3, x4, rfl, rfl, e4 _ _ g3, g4, by rw [l3, l4]; decide, fun p5 n5 => ?_⟩
  have t5 := ((t3.same e4).app t4).same (same_new n5 (.lst (x3 ++ x4)))
  have g5 := new_at n5 (.lst (x3 ++ x4))
  have e5 := e4.trans (same_new n5 (.lst (x3 ++ x4)))
  have w5 := e5 _ _ w3
  generalize upd H4 p5 (.lst (x3 ++ x4)) = H5 at *
  refine ⟨_, rfl, gx_list (K := K) (pp := p) (ds := nwC) (by repeat' (first | exact gxs_nil | refine gxs_cons ?_ ?_ | exact gx_non | exact gx_bl | exact gx_str | exact gx_dnew | exact gx_int gi_c | exact gx_int gi_var | exact gx_int (gi_neg gi_c) | exact gx_int gi_pow | exact gx_d1 gi_var gi_c | refine gx_tup ?_ | refine gx_lst ?_)) (well_ne ⟨_, _, w5⟩) (by show 6 ≤ 1000; decide) fun p6 x6 H6 e6 _ g6 t6 => ?_⟩
  have l6 : x6.length = 6 := t6.len
  refine ⟨p5, p6, _, x6, rfl, rfl, e6 _ _ g5, g6, by rw [List.length_append, l3, l4, l6]; decide, fun p7 n7 => ?_⟩
  have e7 := same_new n7 (.lst (x3 ++ x4 ++ x6))
  have t7 := ((t5.same e6).app t6).same e7
  have g7 := new_at n7 (.lst (x3 ++ x4 ++ x6))
  have w6 := e6 _ _ w5
  have w7 := e7 _ _ w6
  have p7p : p7 ≠ p := (ne_of_none w6 n7).symm
  have e07 : Same H _ := (e3.trans e5).trans (e6.trans e7)
  have lx : (x3 ++ x4 ++ x6).length = 22 := by rw [List.length_append, List.length_append, l3, l4, l6]
  generalize x3 ++ x4 ++ x6 = xs at *
  generalize upd H6 p7 (.lst xs) = H7 at *
  refine ⟨_, rfl, _, rfl, wp, _, rfl, .inl (SqL.of (e07 _ _ hw)), _, _, rfl, rfl, p, _, _, _, rfl, w7, by rw [List.length_map]; omega, by rw [List.length_map]; omega, fun at_ z8 y8 H8 a0 a1 s8 w8 => ?_⟩
  have g8 := s8 _ _ p7p g7
  have t8 := t7.but s8
  have hw8 := s8 _ _ wpp (e07 _ _ hw)
  have hws8 : ∀ u ∈ ws, H8 u.2 = some (.tup (wshV u.1)) := fun u hu => s8 _ _ (hws u hu).2.2 (e07 _ _ (hws u hu).2.1)
  obtain ⟨as, ea, la, ma⟩ := cutm (fun u : Wsh × Addr => V.ref u.2) ws none (some at_)
  obtain ⟨bs, eb, lb, mb⟩ := cutm (fun u : Wsh × Addr => V.ref u.2) ws (some at_) none
  refine ⟨_, rfl, p7, rfl, ⟨_, SqL.of g8⟩, fun D nD => ?_⟩
  have eD := same_new nD (.lst [])
  have Dp : D ≠ p := (ne_of_none w8 nD).symm
  refine lc_list (K := K) (a := p7) (xs := xs) (fun i H' => Same H8 H' ∧ ∃ acc : List V, H' D = some (.lst acc) ∧ acc.length = i ∧ ∀ v ∈ acc, ∃ a o, v = .ref a ∧ H' a = some (.lst (as.map (fun u => V.ref u.2) ++ [o] ++ bs.map (fun u => V.ref u.2))) ∧ o ∈ xs ∧ a ≠ D ∧ a ≠ p)
    ⟨eD, [], upd_same, rfl, fun v hv => nomatch hv⟩ (fun i H' _ ⟨e, _⟩ => SqL.of (e _ _ g8)) ?_ ?_
  · rintro i o HA ho ⟨eA, acc, gD, lac, hacc⟩
    have hi : i < xs.length := (List.getElem?_eq_some_iff.mp ho).1
    refine ⟨rfl, ?_⟩
    refine ⟨_, rfl, _, rfl, at_, rfl, wp, _, rfl, SqL.of (eA _ _ hw8), fun q1 m1 => ?_⟩
    rw [ea]
    have f1 := same_new m1 (.lst (as.map fun u => V.ref u.2))
    have k1 := new_at m1 (.lst (as.map fun u => V.ref u.2))
    refine ⟨_, rfl, (by show 1 ≤ sizeLine; decide), fun q2 m2 => ?_⟩
    have f2 := same_new m2 (.lst [o])
    have k2 := new_at m2 (.lst [o])
    refine ⟨q1, q2, _, _, rfl, rfl, f2 _ _ k1, k2, by rw [List.length_map, List.length_singleton]; exact Nat.le_trans (show as.length + 1 ≤ 1000 by omega) (by decide), fun q3 m3 => ?_⟩
    have f3 := same_new m3 (.lst (as.map (fun u => V.ref u.2) ++ [o]))
    have k3 := new_at m3 (.lst (as.map (fun u => V.ref u.2) ++ [o]))
    have f123 := (f1.trans f2).trans f3
    refine ⟨_, rfl, _, rfl, at_, rfl, wp, _, rfl, SqL.of (f123 _ _ (eA _ _ hw8)), fun q4 m4 => ?_⟩
    rw [eb]
    have f4 := same_new m4 (.lst (bs.map fun u => V.ref u.2))
    have k4 := new_at m4 (.lst (bs.map fun u => V.ref u.2))
    refine ⟨q3, q4, _, _, rfl, rfl, f4 _ _ k3, k4, by rw [List.length_append, List.length_map, List.length_map, List.length_singleton]; exact Nat.le_trans (show as.length + 1 + bs.length ≤ 1000 by omega) (by decide), fun q5 m5 => ?_⟩
    have f5 := same_new m5 (.lst (as.map (fun u => V.ref u.2) ++ [o] ++ bs.map (fun u => V.ref u.2)))
    have k5 := new_at m5 (.lst (as.map (fun u => V.ref u.2) ++ [o] ++ bs.map (fun u => V.ref u.2)))
    have f15 := f123.trans (f4.trans f5)
    have q5D : q5 ≠ D := fun e => by rw [e] at m5; have := (f123.trans f4) _ _ gD; rw [m5] at this; cases this
    have q5p : q5 ≠ p := fun e => by rw [e] at m5; have := (f123.trans f4) _ _ (eA _ _ w8); rw [m5] at this; cases this
    generalize upd (upd (upd (upd (upd HA q1 _) q2 _) q3 _) q4 _) q5 _ = HB at *
    refine ⟨acc, f15 _ _ gD, by rw [lac]; exact Nat.lt_of_lt_of_le (show i < 300 by omega) (by decide), fun b o' h => ?_, acc ++ [.ref q5], upd_same, by rw [List.length_append, lac]; rfl, fun v hv => ?_⟩
    · rw [upd_ne (ne_of_none h nD)]
      exact f15 _ _ (eA _ _ h)
    · rcases List.mem_append.mp hv with hv | hv
      · obtain ⟨a, o', e1, e2, e3', e4', e5'⟩ := hacc v hv
        exact ⟨a, o', e1, by rw [upd_ne e4']; exact f15 _ _ e2, e3', e4', e5'⟩
      · exact ⟨q5, o, List.mem_singleton.mp hv, by rw [upd_ne q5D]; exact k5, List.mem_of_getElem? ho, q5D, q5p⟩
  rintro HA ⟨eA, acc, gD, lac, hacc⟩
  have found : ∀ v ∈ acc, PZ K p PNw HA v := fun v hv => by
    obtain ⟨a, o, rfl, ga, ho, aD, ap⟩ := hacc v hv
    obtain ⟨d, td, pd⟩ := px_all (P := fun d => wishDt 99 d = false ∧ NT.okS 2 d = true) t8 nw_ok o ho
    refine ⟨.list ((as.map (·.1)).map wshD ++ [d] ++ (bs.map (·.1)).map wshD), fun H' s => .inl (.lst (SqL.of (s _ _ ap ga)) ?_), nw_list (fun x hx => ?_) (fun x hx => ?_) (by rw [List.length_map]; omega) (by rw [List.length_map]; omega) pd.1 pd.2⟩
    · have tw : ∀ ms : List (Wsh × Addr), (∀ u ∈ ms, u ∈ ws) → ThAll K H' (ms.map fun u => V.ref u.2) ((ms.map (·.1)).map wshD) := fun ms hm => by
        rw [List.map_map]
        exact tha_wsh fun u hu => SqT.of (s _ _ (hws u (hm u hu)).2.2 (eA _ _ (hws8 u (hm u hu))))
      exact tha_app (tha_app (tw as ma) (.cons (td H' (SameBut.trans (same_but eA) s)) .nil)) (tw bs mb)
    · obtain ⟨u, hu, rfl⟩ := List.mem_map.mp hx
      exact (hws u (ma u hu)).1
    · obtain ⟨u, hu, rfl⟩ := List.mem_map.mp hx
      exact (hws u (mb u hu)).1
  have wA := eA _ _ w8
  have hwA : HA wp = some (.lst (ws.map fun u => V.ref u.2)) := eA _ _ hw8
  have okm : ∀ x ∈ ws.map (·.1), OkW 99 x := fun x hx => by
    obtain ⟨u, hu, rfl⟩ := List.mem_map.mp hx
    exact (hws u hu).1
  have lm : (ws.map (·.1)).length ≤ 60 := by rw [List.length_map]; exact l60
  have tws : ∀ H', SameBut p HA H' → ThAll K H' (ws.map fun u => V.ref u.2) ((ws.map (·.1)).map wshD) := fun H' s => by
    rw [List.map_map]
    exact tha_wsh fun u hu => SqT.of (s _ _ (hws u hu).2.2 (eA _ _ (hws8 u hu)))
  have pw : HA p ≠ none := well_ne ⟨_, _, wA⟩
  dsimp only [gName]
  refine gv_setL (K := K) (pp := p) (P := PNw) (n := 10) (H := HA) (gvs_cons (gv_gx (d := .none) (by repeat' (first | exact gx_non | exact gx_bl | exact gx_str | exact gx_dnew | exact gx_int gi_c | exact gx_int gi_var | exact gx_int (gi_neg gi_c) | exact gx_int gi_pow | exact gx_d1 gi_var gi_c | exact gxs_nil | refine gxs_cons ?_ ?_ | refine gx_tup ?_ | refine gx_lst ?_)) pw (nw_sh (by decide +kernel) rfl))
    (gvs_cons (gv_gx (d := .int 0) (by repeat' (first | exact gx_non | exact gx_bl | exact gx_str | exact gx_dnew | exact gx_int gi_c | exact gx_int gi_var | exact gx_int (gi_neg gi_c) | exact gx_int gi_pow | exact gx_d1 gi_var gi_c | exact gxs_nil | refine gxs_cons ?_ ?_ | refine gx_tup ?_ | refine gx_lst ?_)) pw (nw_sh (by decide +kernel) rfl))
    (gvs_cons (gv_gx (d := .bool true) (by repeat' (first | exact gx_non | exact gx_bl | exact gx_str | exact gx_dnew | exact gx_int gi_c | exact gx_int gi_var | exact gx_int (gi_neg gi_c) | exact gx_int gi_pow | exact gx_d1 gi_var gi_c | exact gxs_nil | refine gxs_cons ?_ ?_ | refine gx_tup ?_ | refine gx_lst ?_)) pw (nw_sh (by decide +kernel) rfl))
    (gvs_cons (gv_gx (d := .str "") (by repeat' (first | exact gx_non | exact gx_bl | exact gx_str | exact gx_dnew | exact gx_int gi_c | exact gx_int gi_var | exact gx_int (gi_neg gi_c) | exact gx_int gi_pow | exact gx_d1 gi_var gi_c | exact gxs_nil | refine gxs_cons ?_ ?_ | refine gx_tup ?_ | refine gx_lst ?_)) pw (nw_sh (by decide +kernel) rfl))
    (gvs_cons (gv_gx (d := .str "none") (by repeat' (first | exact gx_non | exact gx_bl | exact gx_str | exact gx_dnew | exact gx_int gi_c | exact gx_int gi_var | exact gx_int (gi_neg gi_c) | exact gx_int gi_pow | exact gx_d1 gi_var gi_c | exact gxs_nil | refine gxs_cons ?_ ?_ | refine gx_tup ?_ | refine gx_lst ?_)) pw (nw_sh (by decide +kernel) rfl))
    (gvs_cons (gv_gx (d := .tuple []) (by repeat' (first | exact gx_non | exact gx_bl | exact gx_str | exact gx_dnew | exact gx_int gi_c | exact gx_int gi_var | exact gx_int (gi_neg gi_c) | exact gx_int gi_pow | exact gx_d1 gi_var gi_c | exact gxs_nil | refine gxs_cons ?_ ?_ | refine gx_tup ?_ | refine gx_lst ?_)) pw (nw_sh (by decide +kernel) rfl))
    (gvs_cons (gv_gx (d := .dict []) (by repeat' (first | exact gx_non | exact gx_bl | exact gx_str | exact gx_dnew | exact gx_int gi_c | exact gx_int gi_var | exact gx_int (gi_neg gi_c) | exact gx_int gi_pow | exact gx_d1 gi_var gi_c | exact gxs_nil | refine gxs_cons ?_ ?_ | refine gx_tup ?_ | refine gx_lst ?_)) pw (nw_sh (by decide +kernel) rfl))
    (gvs_cons (by intro H2 Q2 e2 q2; exact ⟨_, rfl, wp, _, rfl, .inl ⟨SqL.of (e2 _ _ hwA), fun l hl => q2 _ _ (same_new hl _) ⟨.tuple ((ws.map (·.1)).map wshD), fun H' s => .inl (.tup (SqT.of (s _ _ (ne_of_none (e2 _ _ wA) hl).symm (new_at hl _))) (tws H' (SameBut.trans (same_but (e2.trans (same_new hl _))) s))), nw_tuple okm lm⟩⟩⟩)
    (gvs_cons (by intro H2 Q2 e2 q2; exact ⟨_, rfl, (by show 3 ≤ sizeLine; decide), fun t1 n1 => ⟨(by show 1 ≤ sizeLine; decide), fun l1 n2 => ⟨wp, l1, _, _, rfl, rfl, (e2.trans ((same_new n1 _).trans (same_new n2 _))) _ _ hwA, new_at n2 _, by rw [List.length_map, List.length_singleton]; exact Nat.le_trans (show ws.length + 1 ≤ 1000 by omega) (by decide), fun l2 n3 => ⟨(by show 1 ≤ sizeLine; decide), fun l3 n4 => by
        have f1 := same_new n1 (.tup [.str "at", .int 1, .int 1])
        have k1 := new_at n1 (.tup [.str "at", .int 1, .int 1])
        have f2 := same_new n2 (.lst [.ref t1])
        have f3 := same_new n3 (.lst (ws.map (fun u => V.ref u.2) ++ [.ref t1]))
        have k3 := new_at n3 (.lst (ws.map (fun u => V.ref u.2) ++ [.ref t1]))
        have f4 := same_new n4 (.lst [.ref l2])
        have k4 := new_at n4 (.lst [.ref l2])
        have p1 : t1 ≠ p := (ne_of_none (e2 _ _ wA) n1).symm
        have p3 : l2 ≠ p := (ne_of_none (f2 _ _ (f1 _ _ (e2 _ _ wA))) n3).symm
        have p4 : l3 ≠ p := (ne_of_none (f3 _ _ (f2 _ _ (f1 _ _ (e2 _ _ wA)))) n4).symm
        have f := (f1.trans f2).trans (f3.trans f4)
        exact q2 _ _ f ⟨.list [.list ((ws.map (·.1)).map wshD ++ [wshD (true, 1, 1)])], fun H' s => .inl (.lst (SqL.of (s _ _ p4 k4)) (.cons (.lst (SqL.of (s _ _ p3 (f4 _ _ k3))) (tha_app (tws H' (SameBut.trans (same_but (e2.trans f)) s)) (.cons (.dp (dp_wsh (q := (true, 1, 1)) (SqT.of (s _ _ p1 (f4 _ _ (f3 _ _ (f2 _ _ k1))))))) .nil))) .nil)), nw_nest okm lm⟩⟩⟩⟩⟩)
    (gvs_cons (by intro H2 Q2 e2 q2; exact ⟨(by show 3 ≤ sizeLine; decide), fun t1 n1 => ⟨(by show 1 ≤ sizeLine; decide), fun l1 n2 => ⟨l1, 61, _, rfl, rfl, new_at n2 _, by decide, by decide, (by show 61 ≤ sizeLine; decide), fun l2 n3 => by
        have f1 := same_new n1 (.tup [.str "at", .int 1, .int 1])
        have k1 := new_at n1 (.tup [.str "at", .int 1, .int 1])
        have f2 := same_new n2 (.lst [.ref t1])
        have er : (List.replicate (61 : Int).toNat [V.ref t1]).flatten = List.replicate 61 (V.ref t1) := rfl
        rw [er]
        have f3 := same_new n3 (.lst (List.replicate 61 (V.ref t1)))
        have k3 := new_at n3 (.lst (List.replicate 61 (V.ref t1)))
        have p1 : t1 ≠ p := (ne_of_none (e2 _ _ wA) n1).symm
        have p3 : l2 ≠ p := (ne_of_none (f2 _ _ (f1 _ _ (e2 _ _ wA))) n3).symm
        have rep : ∀ (m : Nat) (H' : Hp), Th K H' (.ref t1) (wshD (true, 1, 1)) → ThAll K H' (List.replicate m (V.ref t1)) (List.replicate m (wshD (true, 1, 1))) := fun m H' t => by
          induction m with
          | zero => exact .nil
          | succ m ih => exact .cons t ih
        exact q2 _ _ ((f1.trans f2).trans f3) ⟨.list (List.replicate 61 (wshD (true, 1, 1))), fun H' s => .inl (.lst (SqL.of (s _ _ p3 k3)) (rep 61 H' (.dp (dp_wsh (q := (true, 1, 1)) (SqT.of (s _ _ p1 (f3 _ _ (f2 _ _ k1)))))))), nw_many⟩⟩⟩⟩)
    gvs_nil)))))))))) (by decide) fun sp ss HB eB nB gB lB xB => ?_
  have wB := eB _ _ wA
  refine ⟨_, rfl, _, rfl, D, sp, acc, ss, rfl, rfl, eB _ _ gD, gB, by rw [lac, lx, lB]; decide, fun cp nC => ?_⟩
  have eC := same_new nC (.lst (acc ++ ss))
  have gC := new_at nC (.lst (acc ++ ss))
  have wC := eC _ _ wB
  have xC : ∀ v ∈ acc ++ ss, PZ K p PNw (upd HB cp (.lst (acc ++ ss))) v := fun v hv => by
    rcases List.mem_append.mp hv with h | h
    · exact ((found v h).same eB).same eC
    · exact (xB v h).same eC
  generalize upd HB cp (.lst (acc ++ ss)) = HC at *
  refine gv_list (K := K) (pp := p) (P := PNw) (n := 3) (H := HC) (gvs_cons (by intro H2 Q2 e2 q2; exact fun d1 n1 => ⟨by show 3 ≤ sizeLine; decide, fun t1 n2 => by
        have f1 := same_new n1 (.dT [])
        have k1 := new_at n1 (.dT [])
        have f2 := same_new n2 (.tup [.str "at", .int 1, .int 1])
        have k2 := new_at n2 (.tup [.str "at", .int 1, .int 1])
        have p1 : d1 ≠ p := (ne_of_none (e2 _ _ wC) n1).symm
        refine ⟨[.inr "at", .inl 1, .inl 1], t1, rfl, k2, f2 _ _ k1, ?_⟩
        have f : Same H2 (upd (upd (upd H2 d1 (.dT [])) t1 (.tup [.str "at", .int 1, .int 1])) d1 (.dT [([.inr "at", .inl 1, .inl 1], .int 1)])) := fun b o h => by
          rw [upd_ne (ne_of_none h n1)]
          exact f2 _ _ (f1 _ _ h)
        exact q2 _ _ f ⟨oneD, fun H' s => .inr ⟨rfl, d1, rfl, s _ _ p1 upd_same⟩, rfl, shows_one⟩⟩)
    (gvs_cons (gv_gx (d := .tuple [.str "at", .int 1, .int 1]) (by repeat' (first | exact gx_non | exact gx_bl | exact gx_str | exact gx_dnew | exact gx_int gi_c | exact gx_int gi_var | exact gx_int (gi_neg gi_c) | exact gx_int gi_pow | exact gx_d1 gi_var gi_c | exact gxs_nil | refine gxs_cons ?_ ?_ | refine gx_tup ?_ | refine gx_lst ?_)) (well_ne ⟨_, _, wC⟩) (nw_sh (by decide +kernel) rfl))
    (gvs_cons (gv_gx (d := .list [.str "at", .int 1, .int 1]) (by repeat' (first | exact gx_non | exact gx_bl | exact gx_str | exact gx_dnew | exact gx_int gi_c | exact gx_int gi_var | exact gx_int (gi_neg gi_c) | exact gx_int gi_pow | exact gx_d1 gi_var gi_c | exact gxs_nil | refine gxs_cons ?_ ?_ | refine gx_tup ?_ | refine gx_lst ?_)) (well_ne ⟨_, _, wC⟩) (nw_sh (by decide +kernel) rfl))
    gvs_nil))) (by decide) fun ep es HE eE nE gE lE xE => ?_
  refine ⟨cp, ep, _, es, rfl, rfl, eE _ _ gC, gE, by rw [List.length_append, lac, lx, lB, lE]; decide, fun rp nR => ?_⟩
  have eR := same_new nR (.lst (acc ++ ss ++ es))
  have wE := eE _ _ wC
  have sb8 : SameBut p H HE := SameBut.then (SameBut.trans (same_but e07) s8) ((eA.trans eB).trans (eC.trans eE))
  have rpp : rp ≠ p := (ne_of_none wE nR).symm
  refine q rp _ (SameBut.then sb8 eR) ⟨_, _, eR _ _ wE⟩ ⟨freeB sb8 rpp nR, rpp, _, new_at nR _, by rw [List.length_append, List.length_append, lac, lx, lB, lE]; decide, fun v hv => ?_⟩
  rcases List.mem_append.mp hv with h | h
  · exact ((xC v h).same eE).same eR
  · exact (xE v h).same eR
end
end K51
set_option Elab.async false
set_option linter.all false
set_option maxRecDepth 100000
namespace NU
open PySem PySem.Spec PyProof.Rows L2 NP ND NK NG NQ
def goodR (K : PySem.W.Frag) : V → Int → Hp → Prop := fun u sd H => ∃ p rs, u = .ref p ∧ RollsAt K H p sd rs
def goodL : V → Int → Hp → Prop := fun u _ _ => ∃ k : Nat, u = .int (k : Int) ∧ k ≤ 60
def goodS (K : PySem.W.Frag) : V → Int → Hp → Prop := fun u _ H => ∃ sp a b, u = .ref sp ∧ ShA K H sp a b
end NU
set_option Elab.async false
set_option linter.all false
set_option maxRecDepth 100000
namespace NU
open PySem PySem.Spec PyProof.Rows L2 NP ND NK NG NQ
def lastGood (K : PySem.W.Frag) (way sd : Int) (u : V) (H : Hp) : Prop := (way = 0 ∧ goodR K u sd H) ∨ (way = 1 ∧ goodL u sd H) ∨ (way = 2 ∧ goodS K u sd H)
theorem few_int {i : Int} (h1 : -(10 ^ 20) ≤ i) (h2 : i ≤ 10 ^ 20) : Few (.int i) := few_okS (small_i h1 h2)
theorem few_pairT {a b : Int} (a1 : -(10 ^ 20) ≤ a) (a2 : a ≤ 10 ^ 20) (b1 : -(10 ^ 20) ≤ b) (b2 : b ≤ 10 ^ 20) : Few (.tuple [.int a, .int b]) := few_tuple (fun d hd => by
  rcases List.mem_cons.mp hd with rfl | hd
  · exact small_1 a1 a2
  · rw [List.mem_singleton.mp hd]; exact small_1 b1 b2) (Nat.le_of_ble_eq_true rfl)
theorem few_pairL {a b : Int} (a1 : -(10 ^ 20) ≤ a) (a2 : a ≤ 10 ^ 20) (b1 : -(10 ^ 20) ≤ b) (b2 : b ≤ 10 ^ 20) : Few (.list [.int a, .int b]) := few_list (fun d hd => by
  rcases List.mem_cons.mp hd with rfl | hd
  · exact small_1 a1 a2
  · rw [List.mem_singleton.mp hd]; exact small_1 b1 b2) (Nat.le_of_ble_eq_true rfl)
/-- the last of the good four, by the way -/
def LastAt (p : Addr) (way sd : Int) (H : Hp) (v : V) : Prop :=
  (way = 0 ∧ ∃ a, v = .ref a ∧ a ≠ p ∧ H a = some (.lst [.int 0, .int (sd - 1)])) ∨ (way = 1 ∧ ∃ k : Nat, v = .int (k : Int) ∧ k ≤ 60) ∨
  (way = 2 ∧ ∃ (a : Addr) (x y : Int), v = .ref a ∧ a ≠ p ∧ H a = some (.tup [.int x, .int y]) ∧ 0 ≤ x ∧ x ≤ 999999999999 ∧ 1 ≤ y ∧ y ≤ 999999999999)
theorem LastAt.but {p : Addr} {way sd : Int} {H H1 : Hp} {v : V} (h : LastAt p way sd H v) (s : SameBut p H H1) : LastAt p way sd H1 v := by
  rcases h with ⟨e, a, ev, na, g⟩ | ⟨e, k, ev, hk⟩ | ⟨e, a, x, y, ev, na, g, r⟩
  · exact .inl ⟨e, a, ev, na, s _ _ na g⟩
  · exact .inr (.inl ⟨e, k, ev, hk⟩)
  · exact .inr (.inr ⟨e, a, x, y, ev, na, s _ _ na g, r⟩)
theorem LastAt.good {K : PySem.W.Frag} {p : Addr} {way sd : Int} {H : Hp} {v : V} (h : LastAt p way sd H v) (s2 : 2 ≤ sd) (s1 : sd ≤ 1000) : lastGood K way sd v H ∧ ∃ d, Th K H v d ∧ Few d := by
  have e20 := p20
  rcases h with ⟨e, a, rfl, na, g⟩ | ⟨e, k, rfl, hk⟩ | ⟨e, a, x, y, rfl, na, g, x0, x1, y0, y1⟩
  · refine ⟨.inl ⟨e, a, [0, sd - 1], rfl, SqL.of g, fun x hx => ?_⟩, .list [.int 0, .int (sd - 1)], .lst (SqL.of g) (.cons (.dp (.int _)) (.cons (.dp (.int _)) .nil)), few_pairL (by decide) (by decide) (by rw [e20]; omega) (by rw [e20]; omega)⟩
    rcases List.mem_cons.mp hx with rfl | hx
    · omega
    · rw [List.mem_singleton.mp hx]; omega
  · exact ⟨.inr (.inl ⟨e, k, rfl, hk⟩), .int (k : Int), .dp (.int _), few_int (by rw [e20]; omega) (by rw [e20]; omega)⟩
  · exact ⟨.inr (.inr ⟨e, a, x, y, rfl, SqT.of g, x0, x1, y0, y1⟩), .tuple [.int x, .int y], .tup (SqT.of g) (.cons (.dp (.int _)) (.cons (.dp (.int _)) .nil)), few_pairT (by rw [e20]; omega) (by rw [e20]; omega) (by rw [e20]; omega) (by rw [e20]; omega)⟩
end NU
set_option Elab.async false
set_option linter.all false
set_option maxRecDepth 100000
namespace NU
open PySem PySem.Spec PyProof.Rows L2 NP ND NK NG NQ
def hide (a : Addr) (H : Hp) : Hp := fun b => if b = a then none else H b
theorem hide_ne {a b : Addr} {H : Hp} (h : b ≠ a) : hide a H b = H b := if_neg h
theorem hide_at {a : Addr} {H : Hp} : hide a H a = none := if_pos rfl
theorem ok_keep {P : Program} {w : World} {H H' : Hp} {h : Heap} (k : ∀ b u, H b = some u → (∀ ys, u ≠ .lst ys) → H' b = some u) : ∀ (o : HO) {a : Addr}, ObjOk P w H h a o → ObjOk P w H' h a o
  | .lst _, _, x => x
  | .tup _, _, x => x
  | .dK _, _, x => x
  | .dT _, _, ⟨h1, h2, xs, p, r⟩ => ⟨h1, h2, xs, L2.Paired.mapP p fun _ _ ⟨e1, e2, e3⟩ => ⟨e1, k _ _ e2 (fun _ z => nomatch z), e3⟩, r⟩
  | .set _ _, _, x => x
  | .ins _ _ _, _, ⟨h1, r⟩ => ⟨k _ _ h1 (fun _ z => nomatch z), r⟩
  | .own _, _, x => x
  | .xd _, _, x => x
  | .rng _ _, _, x => x
  | .frz _ u, _, ⟨h1, h2⟩ => ⟨h1, ok_keep k u h2⟩
  | .tbl _, _, x => x
  | .met _ _, _, x => x
  | .ext _, _, x => x
section
variable {X : Cx} {pins : List (Addr × Obj)} {σ : L2.St} {H H' : Hp} {s s' : Shared} {a : Addr} {xs : List V}
theorem hide_inv (I : L2.Inv X pins σ H s) (hx0 : X.ex = []) (h00 : X.H_0 a = none) (ha : H a = some (.lst xs)) : ∃ (its : List Value) (n : Nat), Vals xs its ∧ xs.length ≤ sizeLine ∧ L2.Inv X ((a, { cls := .type "list", data := .seq its.toArray n }) :: pins) σ (hide a H) s := by
  obtain ⟨hl, its, n, rv, ho⟩ := (show ObjOk X.prog X.w H s.heap a (.lst xs) from I.hok a _ ha)
  have ne : ∀ {b : Addr}, H b = none → b ≠ a := fun h e => by rw [e, ha] at h; cases h
  have nt : ∀ {b : Addr} {u : HO}, H b = some u → (∀ ys, u ≠ .lst ys) → b ≠ a := fun h l e => by rw [e, ha] at h; cases h; exact l _ rfl
  refine ⟨its, n, rv, hl, ⟨I.ok, I.os, I.bare, ⟨I.base.keep, I.base.slot, fun b o q h0 hx => ?_, I.base.there, fun b ys h0 => ?_, fun b o u h0 => ?_, fun b ps h0 => ?_⟩, I.loc, I.cell, ?_, fun x c e => ?_, fun p hp => ?_, fun b o e => ?_, I.len⟩⟩
  · have := I.base.free b o q h0 hx
    rw [hide_ne (ne this)]; exact this
  · have := I.base.tups b ys h0
    rw [hide_ne (nt this fun _ z => nomatch z)]; exact this
  · have := I.base.frzs b o u h0
    rw [hide_ne (nt this fun _ z => nomatch z)]; exact this
  · obtain ⟨more, this⟩ := I.base.tbls b ps h0
    exact ⟨more, by rw [hide_ne (nt this fun _ z => nomatch z)]; exact this⟩
  · rw [hide_ne (ne I.free)]; exact I.free
  · rw [hide_ne (ne (I.freeC x c e))]; exact I.freeC x c e
  · have hp' : p = (a, ({ cls := .type "list", data := .seq its.toArray n } : Obj)) ∨ p ∈ X.pn ++ pins := by
      rcases List.mem_append.mp hp with h | h
      · exact .inr (List.mem_append_left _ h)
      · rcases List.mem_cons.mp h with h | h
        · exact .inl h
        · exact .inr (List.mem_append_right _ h)
    rcases hp' with rfl | hp'
    · refine ⟨ho, hide_at, fun e => ?_, fun hb => ?_, fun v z => nomatch z⟩
      · have := I.free
        rw [← e, ha] at this
        cases this
      · obtain ⟨_, o, h1, h2⟩ := I.ok.funs.mem hb
        have := I.base.free a o h1 h00 (by rw [hx0]; simp)
        rw [ha] at this
        cases this
    · obtain ⟨p1, p2, p3⟩ := I.pin p hp'
      exact ⟨p1, by rw [hide_ne (ne p2)]; exact p2, p3⟩
  · by_cases c : b = a
    · rw [c, hide_at] at e; cases e
    · rw [hide_ne c] at e
      exact ok_keep (fun b u e l => by rw [hide_ne (nt e l)]; exact e) o (I.hok b o e)
theorem unhide (I : L2.Inv X pins σ H s) (ha : H a = some (.lst xs)) {its : List Value} {n : Nat} {σ' : L2.St} (rv : Vals xs its) (hl : xs.length ≤ sizeLine) (I' : L2.Inv X ((a, { cls := .type "list", data := .seq its.toArray n }) :: pins) σ' H' s') : H' a = none ∧ L2.Inv X pins σ' (upd H' a (.lst xs)) s' := by
  have pa := I'.pin (a, { cls := .type "list", data := .seq its.toArray n }) (List.mem_append_right _ List.mem_cons_self)
  have na : H' a = none := pa.2.1
  have ne : ∀ {b : Addr}, H b = none → b ≠ a := fun h e => by rw [e, ha] at h; cases h
  have ns : ∀ {b : Addr} {u : HO}, H' b = some u → b ≠ a := fun h e => by rw [e, na] at h; cases h
  refine ⟨na, ⟨I'.ok, I'.os, I'.bare, ⟨I'.base.keep, I'.base.slot, fun b o q h0 hx => ?_, I'.base.there, fun b ys h0 => ?_, fun b o u h0 => ?_, fun b ps h0 => ?_⟩, I'.loc, I'.cell, ?_, fun x c e => ?_, fun p hp => ?_, fun b o e => ?_, I'.len⟩⟩
  · rw [upd_ne (ne (I.base.free b o q h0 hx))]; exact I'.base.free b o q h0 hx
  · have := I'.base.tups b ys h0
    rw [upd_ne (ns this)]; exact this
  · have := I'.base.frzs b o u h0
    rw [upd_ne (ns this)]; exact this
  · obtain ⟨more, this⟩ := I'.base.tbls b ps h0
    exact ⟨more, by rw [upd_ne (ns this)]; exact this⟩
  · rw [upd_ne (ne I.free)]; exact I'.free
  · rw [upd_ne (ne (I.freeC x c e))]; exact I'.freeC x c e
  · obtain ⟨p1, p2, p3⟩ := I'.pin p (by
      rcases List.mem_append.mp hp with h | h
      · exact List.mem_append_left _ h
      · exact List.mem_append_right _ (List.mem_cons_of_mem _ h))
    exact ⟨p1, by rw [upd_ne (ne (I.pin p hp).2.1)]; exact p2, p3⟩
  · by_cases c : b = a
    · subst c
      rw [upd_same] at e
      cases e
      exact ⟨hl, its, n, rv, pa.1⟩
    · rw [upd_ne c] at e
      exact ok_keep (fun b u e l => by rw [upd_ne (ns e)]; exact e) o (I'.hok b o e)
def tHideA (H0 : Hp) (t : TA) : TA := fun σ H Q => ∃ a xs, H0 a = none ∧ H a = some (.lst xs) ∧ t σ (hide a H) fun vs H' => H' a = none → Q vs (upd H' a (.lst xs))
theorem ja_hide {es : List Expr} {t : TA} (hx0 : X.ex = []) (h : JA X es t) : JA X es (tHideA X.H_0 t) := ⟨fun pos pins s σ H Q I ⟨a, xs, h00, ha, q⟩ => by
  obtain ⟨its, n, rv, hl, I'⟩ := hide_inv I hx0 h00 ha
  exact thn (h.p pos _ s σ _ _ I' q) fun us s1 ⟨vs, H1, I1, r1, q1⟩ => by
    obtain ⟨na, I2⟩ := unhide I ha rv hl I1
    exact ⟨vs, _, I2, r1, q1 na⟩⟩
end
end NU
set_option Elab.async false
set_option linter.all false
set_option maxRecDepth 100000
namespace NU
open PySem PySem.Spec PyProof.Rows L2 NP NT NG
theorem PX.sm {K : PySem.W.Frag} {pp : Addr} {P : PyData → Prop} {H H1 : Hp} {v : V} (h : PX K pp P H v) (s : Same H H1) : PX K pp P H1 v := PX.but h (same_but s)
end NU
namespace NV
open PySem PySem.Spec PyProof.Rows L2 NP NT NG NU
section
variable {K : PySem.W.Frag} {pp : Addr} {P : PyData → Prop} {H H0 H1 H2 : Hp} {v : V} {d : PyData} {σ : L2.St} {te : TE} {t : TA} {n : Nat} {xs ys : List V} {ds : List PyData} {a : Addr}
def GY (K : PySem.W.Frag) (pp : Addr) (P : PyData → Prop) (H0 : Hp) (σ : L2.St) (te : TE) : Prop := ∀ (H : Hp) (Q : VK), Same H0 H → (∀ v H', Same H H' → PX K pp P H' v → Q v H') → te σ H Q
def GYs (K : PySem.W.Frag) (pp : Addr) (P : PyData → Prop) (H0 : Hp) (n : Nat) (σ : L2.St) (t : TA) : Prop := ∀ (H : Hp) (Q : List V → Hp → Prop), Same H0 H → (∀ vs H', Same H H' → vs.length = n → (∀ v ∈ vs, PX K pp P H' v) → Q vs H') → t σ H Q
theorem gy_gx (h : GX K pp σ te d) (w : H0 pp ≠ none) (p : P d) : GY K pp P H0 σ te := fun H Q e q => h H Q (Same.keep e w) fun v H' e' t => q v H' e' ⟨d, t, p⟩
theorem gys_nil : GYs K pp P H0 0 σ tNil := fun H Q _ q => q [] H (Same.refl H) rfl fun v hv => nomatch hv
theorem gys_cons (h : GY K pp P H0 σ te) (ht : GYs K pp P H0 n σ t) : GYs K pp P H0 (n + 1) σ (tCons te t) := fun H Q c q => h H _ c fun v H1 e1 x1 => ht H1 _ (c.trans e1) fun vs H2 e2 l2 x2 => q (v :: vs) H2 (e1.trans e2) (by rw [List.length_cons, l2]) fun u hu => by
  rcases List.mem_cons.mp hu with rfl | hu
  · exact x1.sm e2
  · exact x2 u hu
theorem gy_list {Q : VK} (h : GYs K pp P H n σ t) (hl : n ≤ 1000) (q : ∀ a xs H', Same H H' → H a = none → H' a = some (.lst xs) → xs.length = n → (∀ v ∈ xs, PX K pp P H' v) → Q (.ref a) H') : tLst t σ H Q :=
  h H _ (Same.refl H) fun vs H1 e1 l1 x1 => ⟨by rw [l1]; exact Nat.le_trans hl (by decide), fun p np => by
    have e2 := same_new np (.lst vs)
    exact q p vs _ (e1.trans e2) (e1.free np) (new_at np _) l1 fun v hv => (x1 v hv).sm e2⟩
def GL (H0 : Hp) (σ : L2.St) (te : TE) (xs : List V) : Prop := ∀ (H : Hp) (Q : VK), Same H0 H → (∀ r H', Same H H' → H r = none → H' r = some (.lst xs) → Q (.ref r) H') → te σ H Q
def GP (σ : L2.St) (te : TE) (v : V) : Prop := ∀ (H : Hp) (Q : VK), Q v H → te σ H Q
theorem gp_var {i : Nat} (h : σ[i]? = some (some v) := by rfl) : GP σ (tVar i) v := fun _ _ q => ⟨_, h, q⟩
theorem gp_gi {i : Int} (h : GI σ te i) : GP σ te (.int i) := h
theorem gl_one (h : GP σ te v) : GL H0 σ (tLst (tCons te tNil)) [v] := fun H Q _ q => h H _ ⟨by show 1 ≤ sizeLine; decide, fun p np => q p _ (same_new np _) np (new_at np _)⟩
theorem gl_cat {ta tb : TE} (ha : GL H0 σ ta xs) (hb : GL H0 σ tb ys) (hl : xs.length + ys.length ≤ 1000) : GL H0 σ (tOp rCat ta tb) (xs ++ ys) := fun H Q e q => ha H _ e fun r1 H1 e1 n1 g1 => hb H1 _ (e.trans e1) fun r2 H2 e2 n2 g2 =>
  ⟨r1, r2, _, _, rfl, rfl, e2 _ _ g1, g2, Nat.le_trans hl (by decide), fun p np => q p _ ((e1.trans e2).trans (same_new np _)) ((e1.trans e2).free np) (new_at np _)⟩
theorem gl_var {i : Nat} {tb : TE} (h : σ[i]? = some (some (.ref a))) (ha : H0 a = some (.lst xs)) (hb : GL H0 σ tb ys) (hl : xs.length + ys.length ≤ 1000) : GL H0 σ (tOp rCat (tVar i) tb) (xs ++ ys) := fun H Q e q => ⟨_, h, hb H _ e fun r2 H2 e2 n2 g2 =>
  ⟨a, r2, _, _, rfl, rfl, e2 _ _ (e _ _ ha), g2, Nat.le_trans hl (by decide), fun p np => q p _ (e2.trans (same_new np _)) (e2.free np) (new_at np _)⟩⟩
theorem cutFrom (xs : List V) (i : Nat) (h : i ≤ xs.length) : cutV xs (some ((i : Nat) : Int)) none = xs.drop i := by
  have e1 : HT.sIx xs.length 0 (some ((i : Nat) : Int)) = i := by
    unfold HT.sIx
    simp
    rw [if_neg (by omega)]
    omega
  have e2 : HT.sIx xs.length xs.length none = xs.length := rfl
  unfold cutV
  rw [e1, e2]
  exact List.take_of_length_le (by rw [List.length_drop]; omega)
theorem cutTo (xs : List V) (i : Nat) (h : i ≤ xs.length) : cutV xs none (some ((i : Nat) : Int)) = xs.take i := by
  have e1 : HT.sIx xs.length xs.length (some ((i : Nat) : Int)) = i := by
    unfold HT.sIx
    simp
    rw [if_neg (by omega)]
    omega
  have e2 : HT.sIx xs.length 0 none = 0 := rfl
  unfold cutV
  rw [e1, e2]
  rfl
theorem gl_to {i : Nat} {j : Nat} {ti : TE} (h : σ[j]? = some (some (.ref a))) (ha : SqL K H0 a xs) (hi : GI σ ti (i : Int)) (il : i ≤ xs.length) : GL H0 σ (tSl (rSlL K) (tVar j) tNoPart (tPart ti)) (xs.take i) := fun H Q e q =>
  ⟨_, h, hi H _ ⟨_, rfl, a, _, rfl, le_seqL (le_same e) ha, fun p np => by rw [cutTo _ _ il]; exact q p _ (same_new np _) np (new_at np _)⟩⟩
theorem gl_from {i : Nat} {j : Nat} {ti : TE} (h : σ[j]? = some (some (.ref a))) (ha : SqL K H0 a xs) (hi : GI σ ti (i : Int)) (il : i ≤ xs.length) : GL H0 σ (tSl (rSlL K) (tVar j) (tPart ti) tNoPart) (xs.drop i) := fun H Q e q =>
  ⟨_, h, hi H _ ⟨_, rfl, a, _, rfl, le_seqL (le_same e) ha, fun p np => by rw [cutFrom _ _ il]; exact q p _ (same_new np _) np (new_at np _)⟩⟩
theorem gl_tail {tb : TE} (hb : GL H0 σ tb ys) (h1 : 1 ≤ ys.length) : GL H0 σ (tSl (rSlL K) tb (tPart (tC (.int 1))) tNoPart) (ys.drop 1) := fun H Q e q => hb H _ e fun r2 H2 e2 n2 g2 =>
  ⟨_, rfl, r2, _, rfl, SqL.of g2, fun p np => by
    have : cutV ys (some (1 : Int)) none = ys.drop 1 := cutFrom ys 1 h1
    rw [this]; exact q p _ (e2.trans (same_new np _)) (e2.free np) (new_at np _)⟩
structure Sl (K : PySem.W.Frag) (pp : Addr) (P : PyData → Prop) (a : Addr) (H : Hp) (xs : List V) : Prop where
  at_ : H a = some (.lst xs)
  each : ∀ v ∈ xs, PX K pp P (hide a H) v
theorem hide_upd {u : HO} (h : H a = none) : hide a (upd H a u) = H := by
  funext b
  unfold hide upd
  by_cases c : b = a
  · rw [if_pos c, c, h]
  · rw [if_neg c]
    by_cases c2 : b = a
    · exact absurd c2 c
    · first | rw [if_neg c2] | simp [c]
theorem hide_same : Same (hide a H) H := fun b o e => by
  unfold hide at e
  split at e
  · cases e
  · exact e
theorem hide_but (s : SameBut pp H H1) : SameBut pp (hide a H) (hide a H1) := fun b o nb e => by
  unfold hide at e ⊢
  split
  · rename_i c
    rw [if_pos c] at e
    cases e
  · rename_i c
    rw [if_neg c] at e
    exact s b o nb e
theorem Sl.new (h : H a = none) (hx : ∀ v ∈ xs, PX K pp P H v) : Sl K pp P a (upd H a (.lst xs)) xs := ⟨upd_same, by rw [hide_upd h]; exact hx⟩
theorem Sl.step (h : Sl K pp P a H xs) (s : SameBut pp H H1) (n : a ≠ pp) : Sl K pp P a H1 xs := ⟨s _ _ n h.at_, fun v hv => (h.each v hv).but (hide_but s)⟩
theorem Sl.px (h : Sl K pp P a H xs) : ∀ v ∈ xs, PX K pp P H v := fun v hv => (h.each v hv).sm hide_same
theorem Sl.app (h : Sl K pp P a H xs) (s : Same (hide a H) H1) (n : H1 a = none) (hv : PX K pp P H1 v) : Sl K pp P a (upd (upd H1 a (.lst xs)) a (.lst (xs ++ [v]))) (xs ++ [v]) := by
  have e : upd (upd H1 a (.lst xs)) a (.lst (xs ++ [v])) = upd H1 a (.lst (xs ++ [v])) := by
    funext b
    unfold upd
    split <;> rfl
  rw [e]
  refine .new n fun u hu => ?_
  rcases List.mem_append.mp hu with hu | hu
  · exact (h.each u hu).sm s
  · rw [List.mem_singleton.mp hu]; exact hv
end
def POr (d : PyData) : Prop := isOrdD d = false ∧ Shows d
theorem bad_nw {as bs : List PyData} {d : PyData} (h : whole d = false) : isOrdD (.list (as ++ [d] ++ bs)) = false := by
  show (decide ((as ++ [d] ++ bs).length ≤ 40) && ((as ++ [d] ++ bs).all whole && isP ((as ++ [d] ++ bs).map numD))) = false
  rw [List.all_append, List.all_append]
  have : ([d] : List PyData).all whole = false := by rw [List.all_cons, h, Bool.false_and]
  rw [this, Bool.and_false, Bool.false_and, Bool.false_and, Bool.and_false]
theorem num_ints (ns : List Int) : (ns.map PyData.int).map numD = ns := by
  rw [List.map_map]
  induction ns with
  | nil => rfl
  | cons a t ih => rw [List.map_cons, ih]; rfl
theorem bad_ints {ns : List Int} (h : ¬ ns.Perm (iot ns.length)) : isOrdD (.list (ns.map PyData.int)) = false := by
  show (decide _ && (_ && isP ((ns.map PyData.int).map numD))) = false
  rw [num_ints]
  have : isP ns = false := decide_eq_false h
  rw [this, Bool.and_false, Bool.and_false]
theorem bad_at {ns : List Int} {i : Nat} {j : Int} (io : IsOrd ns) (hi : i < ns.length) (hj : j ≠ ns[i]) : isOrdD (.list ((ns.take i).map PyData.int ++ [.int j] ++ (ns.drop (i + 1)).map PyData.int)) = false := by
  have e : (ns.take i).map PyData.int ++ [.int j] ++ (ns.drop (i + 1)).map PyData.int = (ns.take i ++ [j] ++ ns.drop (i + 1)).map PyData.int := by
    rw [List.map_append, List.map_append]; rfl
  rw [e]
  refine bad_ints fun hp => ?_
  have hl : (ns.take i ++ [j] ++ ns.drop (i + 1)).length = ns.length := by
    simp only [List.length_append, List.length_take, List.length_drop, List.length_singleton]
    omega
  rw [hl] at hp
  have h2 := hp.trans io.perm.symm
  have e2 : ns = ns.take i ++ [ns[i]] ++ ns.drop (i + 1) := by
    rw [List.append_assoc, List.singleton_append, List.getElem_cons_drop, List.take_append_drop]
  have c1 := h2.count_eq j
  have c2 : ns.count j = (ns.take i ++ [ns[i]] ++ ns.drop (i + 1)).count j := congrArg (List.count j) e2
  rw [c2] at c1
  simp only [List.count_append, List.count_singleton] at c1
  have : (ns[i] == j) = false := beq_eq_false_iff_ne.mpr (Ne.symm hj)
  rw [this] at c1
  simp at c1
theorem bad_out {ns : List Int} {x : Int} (hx : x ∈ ns) (h : x < 0 ∨ (ns.length : Int) ≤ x) : isOrdD (.list (ns.map PyData.int)) = false := bad_ints fun hp => by
  have := iot_mem.mp (hp.mem_iff.mp hx)
  omega
theorem bad_miss {ns : List Int} {n : Nat} (hl : ns.length = n + 1) (h : ∀ x ∈ ns, x < n) : isOrdD (.list (ns.map PyData.int)) = false := bad_ints fun hp => by
  have : ((n : Nat) : Int) ∈ ns := hp.mem_iff.mpr (iot_mem.mpr ⟨by omega, by omega⟩)
  have := h _ this
  omega
theorem ok2_int {i : Int} (h0 : -(10 ^ 20) ≤ i) (h1 : i ≤ 10 ^ 20) : NT.okS 2 (.int i) = true := small_i h0 h1
theorem ok2_ord {ns : List Int} (io : IsOrd ns) : ∀ d ∈ ns.map PyData.int, NT.okS 2 d = true := fun d hd => by
  obtain ⟨x, hx, rfl⟩ := List.mem_map.mp hd
  have := io.mem.mp hx
  have l := io.len
  have p : (10 : Int) ^ 20 = 100000000000000000000 := by decide
  exact ok2_int (by rw [p]; omega) (by rw [p]; omega)
theorem str_small : ∀ a : Fin 40, NT.okS 2 (.str (Str.ofString (toString (((a : Nat) : Int))))) = true := by decide +kernel
end NV
set_option Elab.async false
set_option linter.all false
set_option maxRecDepth 100000
namespace NV
open PySem PySem.Spec PyProof.Rows L2 NP NT NG NU
theorem op_neDn {X : Cx} {K : PySem.W.Frag} (hK : X.K = K) (hu : X.A.units + 64 < cLine) : OpR X (compareOp .NotEq) (rNeD K) := by subst hK; exact op_neD hu
theorem cr_sortedn {X : Cx} {K : PySem.W.Frag} (hK : X.K = K) : CallR X (.builtin "sorted") (rSorted K) := by subst hK; exact cr_sorted
def spNoOrders (K : PySem.W.Frag) : Sp := fun vs H Q _ => ∃ (p op : Addr) (ns : List Int), vs = [.ref p, .ref op] ∧ WellAt H p ∧ op ≠ p ∧ H op = some (.lst (ns.map V.int)) ∧ IsOrd ns ∧ ∀ a H', SameBut p H H' → WellAt H' p → NewL (PX K p POr) p H H' a → Q (.ref a) H'
theorem ixAt {n : Nat} {i : Int} (h0 : 0 ≤ i) (h1 : i < n) : ixN n i = some i.toNat := by
  unfold ixN
  rw [if_pos h0, if_pos h1]
theorem ints_px {K : PySem.W.Frag} {p r : Addr} {H : Hp} {ms : List Int} (h : H r = some (.lst (ms.map V.int))) (n : r ≠ p) (hl : ms.length ≤ 40) (hb : ∀ x ∈ ms, -200 ≤ x ∧ x ≤ 200) (bad : ¬ ms.Perm (iot ms.length)) : PX K p POr H (.ref r) :=
  ⟨.list (ms.map PyData.int), fun H' s => .lst (SqL.of (s _ _ n h)) (tha_ints ms), bad_ints bad, shows_2 (fun d hd => by
    obtain ⟨x, hx, rfl⟩ := List.mem_map.mp hd
    have := hb x hx
    have p : (10 : Int) ^ 20 = 100000000000000000000 := by decide
    exact ok2_int (by rw [p]; omega) (by rw [p]; omega)) (by rw [List.length_map]; omega)⟩
def three (x : Int) : Int := if x = 0 then 1 else if x = 4 then 2 else if x = 5 then 6 else x
theorem three_get (x : Int) : (valV (mergeK [] [((Sum.inl 0 : Key), V.int 1), (Sum.inl 4, V.int 2), (Sum.inl 5, V.int 6)]) (Sum.inl x)).getD (.int x) = .int (three x) := by
  have e : mergeK [] [((Sum.inl 0 : Key), V.int 1), (Sum.inl 4, V.int 2), (Sum.inl 5, V.int 6)] = [((Sum.inl 0 : Key), V.int 1), (Sum.inl 4, V.int 2), (Sum.inl 5, V.int 6)] := by decide +kernel
  rw [e]
  unfold three
  by_cases h0 : x = 0
  · subst h0; rfl
  by_cases h4 : x = 4
  · subst h4; rfl
  by_cases h5 : x = 5
  · subst h5; rfl
  rw [if_neg h0, if_neg h4, if_neg h5]
  have : valV [((Sum.inl 0 : Key), V.int 1), (Sum.inl 4, V.int 2), (Sum.inl 5, V.int 6)] (Sum.inl x) = none := by
    simp [valV, Ne.symm h0, Ne.symm h4, Ne.symm h5, h0, h4, h5]
  rw [this]; rfl
end NV
namespace K51
open PySem PySem.Spec PyProof.Rows L2 NP NT NV NN NK NQ NG NU
section
variable {P : Program} {w : World} {K : PySem.W.Frag} {mg : Str → Option Value} {base : Heap} {f g : Addr} {fd gd : FuncData}
abbrev nNO : List Str := ["well", "order", "many", "some", "at", "one", "odd", "to", "step", "two", "any_ones", "three", "k", "thing"]
theorem scNoO : FnScope nNO ["well", "order"] (defScope sNoO) := ⟨rfl, rfl, rfl, by decide +kernel, rfl, by decide +kernel, by decide +kernel⟩
set_option maxHeartbeats 16000000 in
theorem orders_tail (M : Mg2 mg) (Ta : FnOk P w K mg base CX0 1 g gd ["well", "many"] NP.spDraw2) (bT : Binds K gd ["well", "many"] []) (kT : PySem.W.keepIn K (.ref g) = true) (mT : mg "_law_draw" = some (.ref g))
    (cdv : Value) (A : Around) (outer : List Env) (s : Shared) (H : Hp) (E : XK) (gp : Array GenState → Drawn → Prop) (Q : VK) (hcl : L2.Cl 12 gp) (hr : Room 11 (A.deeper (envOfC "_law_no_orders" (defScope sNoO) s.heap.objs.size f cdv)))
    {p op : Addr} {ns : List Int} (hp : WellAt H p) (opp : op ≠ p) (io : IsOrd ns) (q : ∀ a H', SameBut p H H' → WellAt H' p → NewL (PX K p POr) p H H' a → Q (.ref a) H') :
    ∃ t, JB (cxOf CX0 P w K mg base nNO "_law_no_orders" (defScope sNoO) f cdv A outer s H E gp).nox ((defBody sNoO).drop 4) t ∧
      ∀ (a : Addr) (xs : List V) (v4 v5 v6 : Option V) (H8 : Hp), SameBut p H H8 → WellAt H8 p → H8 op = some (.lst (ns.map V.int)) → H a = none → a ≠ p → xs.length ≤ 60 → Sl K p POr a H8 xs →
        t { nx := fun _ H' => Q .non H', rt := Q } [some (.ref p), some (.ref op), some (.int (ns.length : Int)), some (.ref a), v4, v5, v6, none, none, none, none, none, none, none] H8 := by
  have hr1 : Room 1 _ := hr.mono (by decide)
  have hc1 : L2.Cl 1 gp := L2.Cl.mono hcl (by decide)
  have b62 : (2 : Int) ^ 62 = 4611686018427387904 := by decide
  have l40 := io.len
  refine ⟨_, (jb_cons (js_if (jt_cmp op_gt (jv 2) je_int (nomark _)) (jb_cons (js_asg (je_lc (own := [("k", 12)]) (g := gName 12) rfl scNoO.nd (ji_range1 rfl M.base.range (ji_ ja0)) (blkOk_by (own := [("k", 12)]) (N := nNO) (sc := defScope sNoO) (by decide +kernel)) (fun _ _ _ _ _ => jg_name (i := 12) scNoO.nd rfl (Or.inl rfl)) (fun _ _ _ _ _ => jts_nil) (fun _ _ _ _ _ => (je_call Ta hr1 rfl mT kT bT .nil pass0 (jn (jv 0) (jn (jv 2) ja0))))) (NW.jg_tupL rfl (jgs_cons (jg_name (i := 4) scNoO.nd rfl (Or.inl rfl)) (jgs_cons (jg_name (i := 7) scNoO.nd rfl (Or.inl rfl)) jgs_nil))))
      (jb_cons (js_set (i := 8) scNoO.nd rfl (Or.inl rfl) (je_op op_add je_int (je_call Ta hr1 rfl mT kT bT .nil pass0 (jn (jv 0) (ji_ ja0)))))
      (jb_cons (js_set (i := 9) scNoO.nd rfl (Or.inl rfl) (je_callTy call_list_of (by rfl) M.base.list (by decide +kernel) (jn (jv 1) ja0)))
      (jb_cons (js_asg (je_op op_add (je_ix ix_list (jv 9) (jv 4) (fun _ _ => rfl)) (jv 8)) (jg_sub (jv 9) (jv 4) set_list))
      (jb_cons (js_asg (je_op op_sub (je_ix ix_list (jv 9) (jv 7) (fun _ _ => rfl)) (jv 8)) (jg_sub (jv 9) (jv 7) set_list))
      (jb_cons (js_setLc (i := 10) (own := [("thing", 13)]) (g := gName 13) rfl scNoO.nd rfl rfl (sw_true rfl rfl rfl (by decide +kernel)) (ji_list (jv 1)) (blkOk_by (own := [("thing", 13)]) (N := nNO) (sc := defScope sNoO) (by decide +kernel)) (fun _ _ _ _ _ => jg_name (i := 13) scNoO.nd rfl (Or.inl rfl)) (fun _ _ _ _ _ => jts_nil) (fun _ _ _ _ _ => (je_call Ta hr1 rfl mT kT bT .nil pass0 (jn (jv 0) (jn (jv 2) ja0)))))
      (jb_cons (js_setLc (i := 11) (own := [("thing", 13)]) (g := gName 13) rfl scNoO.nd rfl rfl (sw_true rfl rfl rfl (by decide +kernel)) (ji_list (jv 1)) (blkOk_by (own := [("thing", 13)]) (N := nNO) (sc := defScope sNoO) (by decide +kernel)) (fun _ _ _ _ _ => jg_name (i := 13) scNoO.nd rfl (Or.inl rfl)) (fun _ _ _ _ _ => jts_nil) (fun _ _ _ _ _ => (je_get2 (Nat.lt_of_le_of_lt (Nat.add_le_add_left (by decide) _) hr.units) (je_disp (jp_cons je_int je_int (jp_cons je_int je_int (jp_cons je_int je_int jp_nil))) rfl rfl (by intro h; cases h) (by decide)) (jv 13) (jv 13) ⟨rfl, rfl, rfl, rfl⟩)))
      (jb_one (js_set (i := 3) scNoO.nd rfl (Or.inl rfl) (je_op op_cat (jv 3) (je_lc (own := [("one", 5)]) (g := gName 5) rfl scNoO.nd (ji_list (je_lst (jn (jv 9) (jn (jv 10) (jn (jv 11) ja0))))) (blkOk_by (own := [("one", 5)]) (N := nNO) (sc := defScope sNoO) (by decide +kernel)) (fun _ _ _ _ _ => jg_name (i := 5) scNoO.nd rfl (Or.inl rfl)) (fun _ _ _ _ _ => jts_one (jt_cmp (op_neDn (K := K) rfl hr.units) (je_callB (cr_sortedn (K := K) rfl) (by rfl) M.sorted (by decide +kernel) (jn (jv 5) ja0)) (je_callTy (cr_listR rfl) (by rfl) M.base.list (by decide +kernel) (jCa (je_callTy cr_range1 (by rfl) M.base.range (by decide +kernel) (jn (jv 2) ja0)) ja0)) (nomark _))) (fun _ _ _ _ _ => jv 5)))))))))))) jb_nil)
    (jb_one (js_ret (jv 3)))), ?_⟩
  intro a xs v4 v5 v6 H8 c8 w8 go na ap lx S8
  refine ⟨_, rfl, _, _, rfl, rfl, _, rfl, ?_⟩
  have fin : ∀ H', Same H8 H' → WellAt H' p → Q (.ref a) H' := fun H' e w' => q a H' (SameBut.then c8 e) w' ⟨na, ap, xs, e _ _ S8.at_, by omega, fun v hv => (S8.px v hv).sm e⟩
  by_cases n1 : 1 < ns.length
  case neg => exact itF (decide_eq_false (by omega)) ⟨_, rfl, fin H8 (Same.refl _) w8⟩
  refine itT (decide_eq_true (by omega)) ?_
  -- two places
  refine ⟨2, rfl, by rw [b62]; omega, by rw [b62]; omega, fun D nD => ?_⟩
  obtain ⟨z8, y8, w8'⟩ := w8
  have pD : p ≠ D := ne_of_none w8' nD
  refine lc_range (lo := 0) (n := (2 : Int).toNat) (fun j H' => ∃ acc : List Int, H' D = some (.lst (acc.map V.int)) ∧ acc.length = j ∧ (∀ k ∈ acc, 0 ≤ k ∧ k < ns.length) ∧ SameBut p H8 H' ∧ WellAt H' p)
    ⟨[], upd_same, rfl, (fun k hk => nomatch hk), Same.but (same_new nD _), _, _, same_new nD (.lst []) _ _ w8'⟩ ?_ ?_
  · rintro j H7 hj ⟨acc, gD, la, ha, s7, z7, y7, w7⟩
    refine ⟨rfl, ?_⟩
    refine ⟨_, rfl, _, rfl, p, z7, y7, _, rfl, w7, by omega, by omega, fun r z1 y1 H1 a0 a1 s1 w1 => ?_⟩
    refine ⟨_, s1 _ _ pD.symm gD, ?_, acc ++ [r], ?_, ?_, ?_, fun b o nb h => ?_, z1, y1, ?_⟩
    · rw [List.length_map, la]
      exact Nat.lt_of_lt_of_le (show j < 2 from hj) (by decide)
    · rw [upd_same, List.map_append]; rfl
    · rw [List.length_append, la]; rfl
    · intro k hk
      rcases List.mem_append.mp hk with hk | hk
      · exact ha k hk
      · rw [List.mem_singleton.mp hk]; exact ⟨a0, a1⟩
    · rw [upd_ne (ne_of_none h nD)]
      exact s1 _ _ nb (s7 _ _ nb h)
    · rw [upd_ne pD]; exact w1
  rintro H7 ⟨acc, gD, la, ha, s7, z7, y7, w7⟩
  obtain ⟨i, j, rfl⟩ : ∃ i j, acc = [i, j] := by
    match acc, la with
    | [i, j], _ => exact ⟨i, j, rfl⟩
  obtain ⟨i0, i1⟩ := ha i (.head _)
  obtain ⟨j0, j1⟩ := ha j (.tail _ (.head _))
  refine ⟨D, _, rfl, SqL.of gD, rfl, _, _, rfl, _, _, rfl, rfl, ?_⟩
  refine ⟨_, rfl, p, z7, y7, 9, rfl, w7, by decide, by decide, fun st zA yA HA st0 st1 sA wA => ⟨_, _, rfl, rfl, ?_⟩⟩
  dsimp only [gName]
  have c8A : SameBut p H8 HA := SameBut.trans s7 sA
  have goA := c8A _ _ opp go
  refine ⟨_, rfl, op, _, rfl, .inl (SqL.of goA), fun tp nT => ?_⟩
  have eT := same_new nT (.lst (ns.map V.int))
  have gT := new_at nT (.lst (ns.map V.int))
  have tpp : tp ≠ p := (ne_of_none wA nT).symm
  have tpo : op ≠ tp := ne_of_none goA nT
  obtain ⟨i, rfl⟩ := Int.eq_ofNat_of_zero_le i0
  obtain ⟨j, rfl⟩ := Int.eq_ofNat_of_zero_le j0
  have il : i < ns.length := by omega
  have jl : j < ns.length := by omega
  have rg : ∀ x ∈ ns, 0 ≤ x ∧ x < 40 := fun x hx => by have := io.mem.mp hx; omega
  refine ⟨_, rfl, _, rfl, tp, _, _, .int ns[i], rfl, rfl, SqL.of gT, atI_nat (by rw [List.getElem?_map, List.getElem?_eq_getElem il]; rfl), _, rfl, _, _, rfl, rfl, ?_⟩
  refine ⟨_, rfl, _, rfl, tp, _, _, i, rfl, rfl, gT, NV.ixAt (n := (ns.map V.int).length) (i := (i : Int)) (by omega) (by rw [List.length_map]; omega), ?_⟩
  have es1 : (ns.map V.int).set i (.int (ns[i] + (1 + st))) = (ns.set i (ns[i] + (1 + st))).map V.int := by rw [List.map_set]
  rw [es1]
  have rg1 : ∀ x ∈ ns.set i (ns[i] + (1 + st)), 0 ≤ x ∧ x < 80 := fun x hx => by
    rcases List.mem_or_eq_of_mem_set hx with h | h
    · have := rg x h; omega
    · have := rg _ (List.getElem_mem il); omega
  have l1 : (ns.set i (ns[i] + (1 + st))).length = ns.length := List.length_set
  generalize ns.set i (ns[i] + (1 + st)) = ms at rg1 l1
  have jm : j < ms.length := by omega
  have cA1 : Same HA (upd (upd HA tp (.lst (ns.map V.int))) tp (.lst (ms.map V.int))) := fun b o h => by
    rw [upd_ne (ne_of_none h nT)]
    exact eT _ _ h
  have gT1 : upd (upd HA tp (.lst (ns.map V.int))) tp (.lst (ms.map V.int)) tp = some (.lst (ms.map V.int)) := upd_same
  generalize upd (upd HA tp (.lst (ns.map V.int))) tp (.lst (ms.map V.int)) = HB at cA1 gT1
  refine ⟨_, rfl, _, rfl, tp, _, _, .int ms[j], rfl, rfl, SqL.of gT1, atI_nat (by rw [List.getElem?_map, List.getElem?_eq_getElem jm]; rfl), _, rfl, _, _, rfl, rfl, ?_⟩
  refine ⟨_, rfl, _, rfl, tp, _, _, j, rfl, rfl, gT1, NV.ixAt (n := (ms.map V.int).length) (i := (j : Int)) (by omega) (by rw [List.length_map]; omega), ?_⟩
  have es2 : (ms.map V.int).set j (.int (ms[j] - (1 + st))) = (ms.set j (ms[j] - (1 + st))).map V.int := by rw [List.map_set]
  rw [es2]
  have rg2 : ∀ x ∈ ms.set j (ms[j] - (1 + st)), -200 ≤ x ∧ x ≤ 200 := fun x hx => by
    rcases List.mem_or_eq_of_mem_set hx with h | h
    · have := rg1 x h; omega
    · have := rg1 _ (List.getElem_mem jm); omega
  have l2 : (ms.set j (ms[j] - (1 + st))).length = ns.length := by rw [List.length_set]; exact l1
  generalize ms.set j (ms[j] - (1 + st)) = t1 at rg2 l2
  have cA2 : Same HA (upd HB tp (.lst (t1.map V.int))) := fun b o h => by
    rw [upd_ne (ne_of_none h nT)]
    exact cA1 _ _ h
  have gT2 : upd HB tp (.lst (t1.map V.int)) tp = some (.lst (t1.map V.int)) := upd_same
  clear cA1 gT1 eT gT rg1 l1 es1 es2 jm
  generalize upd HB tp (.lst (t1.map V.int)) = HC at cA2 gT2
  have wC := cA2 _ _ wA
  have goC := cA2 _ _ goA
  -- any ones
  refine ⟨_, rfl, op, rfl, ⟨_, SqL.of goC⟩, fun D2 nD2 => ?_⟩
  have pD2 : p ≠ D2 := ne_of_none wC nD2
  refine lc_list (K := K) (a := op) (xs := ns.map V.int) (fun k H' => ∃ acc : List Int, H' D2 = some (.lst (acc.map V.int)) ∧ acc.length = k ∧ (∀ x ∈ acc, 0 ≤ x ∧ x < ns.length) ∧ SameBut p HC H' ∧ WellAt H' p)
    ⟨[], upd_same, rfl, (fun k hk => nomatch hk), Same.but (same_new nD2 _), _, _, same_new nD2 (.lst []) _ _ wC⟩ (fun k H' _ ⟨_, _, _, _, c, _⟩ => SqL.of (c _ _ opp goC)) ?_ ?_
  · rintro k x H1 hx ⟨acc, gD', la', ha', s1, z1, y1, w1⟩
    have hk : k < ns.length := by rw [← List.length_map (f := V.int)]; exact (List.getElem?_eq_some_iff.mp hx).1
    refine ⟨rfl, ?_⟩
    refine ⟨_, rfl, _, rfl, p, z1, y1, _, rfl, w1, by omega, by omega, fun r z2 y2 H2 a0 a1 s2 w2 => ?_⟩
    refine ⟨_, s2 _ _ pD2.symm gD', ?_, acc ++ [r], ?_, ?_, ?_, fun b o nb h => ?_, z2, y2, ?_⟩
    · rw [List.length_map, la']
      exact Nat.lt_of_le_of_lt (show k ≤ 64 by omega) (by decide)
    · rw [upd_same, List.map_append]; rfl
    · rw [List.length_append, la']; rfl
    · intro k hk
      rcases List.mem_append.mp hk with hk | hk
      · exact ha' k hk
      · rw [List.mem_singleton.mp hk]; exact ⟨a0, a1⟩
    · rw [upd_ne (ne_of_none h nD2)]
      exact s2 _ _ nb (s1 _ _ nb h)
    · rw [upd_ne pD2]; exact w2
  rintro HE ⟨t2, gD2, lt2, ht2, sE, zE, yE, wE⟩
  rw [List.length_map] at lt2
  have goE := sE _ _ opp goC
  have gTE := sE _ _ tpp gT2
  dsimp only [gName]
  -- three
  refine ⟨_, rfl, op, rfl, ⟨_, SqL.of goE⟩, fun D3 nD3 => ?_⟩
  have e3 := same_new nD3 (.lst [])
  refine lc_list (K := K) (a := op) (xs := ns.map V.int) (fun k H' => ∃ acc : List Int, H' D3 = some (.lst (acc.map V.int)) ∧ acc.length = k ∧ (∀ x ∈ acc, 0 ≤ x ∧ x < 100) ∧ Same HE H')
    ⟨[], upd_same, rfl, (fun k hk => nomatch hk), e3⟩ (fun k H' _ ⟨_, _, _, _, c⟩ => SqL.of (c _ _ goE)) ?_ ?_
  · rintro k x H1 hx ⟨acc, gD', la', ha', s1⟩
    have hk : k < ns.length := by rw [← List.length_map (f := V.int)]; exact (List.getElem?_eq_some_iff.mp hx).1
    rw [List.getElem?_map] at hx
    obtain ⟨t, ht, rfl⟩ := Option.map_eq_some_iff.mp hx
    have tb := rg t (List.mem_of_getElem? ht)
    refine ⟨rfl, ?_⟩
    refine fun dp q2 => ⟨upd_same, [(Sum.inl 0, .int 1), (Sum.inl 4, .int 2), (Sum.inl 5, .int 6)], rfl, (by show 3 ≤ 15; decide), ?_⟩
    rw [upd_upd]
    have e2 := same_new q2 (.dK (mergeK [] [((Sum.inl 0 : Key), V.int 1), (Sum.inl 4, V.int 2), (Sum.inl 5, V.int 6)]))
    have d2 := new_at q2 (.dK (mergeK [] [((Sum.inl 0 : Key), V.int 1), (Sum.inl 4, V.int 2), (Sum.inl 5, V.int 6)]))
    refine ⟨dp, rfl, .inl ⟨_, .inl d2⟩, _, rfl, _, rfl, _, .inl ⟨_, Sum.inl t, .inl d2, rfl, rfl⟩, ?_⟩
    rw [three_get]
    have t3 : 0 ≤ three t ∧ three t < 100 := by
      unfold three
      split
      · decide
      split
      · decide
      split
      · decide
      · omega
    refine ⟨_, e2 _ _ gD', ?_, acc ++ [three t], ?_, ?_, fun x hx => ?_, fun b o h => ?_⟩
    · rw [List.length_map, la']
      exact Nat.lt_of_le_of_lt (show k ≤ 64 by omega) (by decide)
    · rw [upd_same, List.map_append]; rfl
    · rw [List.length_append, la']; rfl
    · rcases List.mem_append.mp hx with h | h
      · exact ha' x h
      · rw [List.mem_singleton.mp h]; exact t3
    · rw [upd_ne (ne_of_none h nD3)]
      exact e2 _ _ (s1 _ _ h)
  rintro HG ⟨t3, gD3, lt3, ht3, eG⟩
  rw [List.length_map] at lt3
  dsimp only [gName]
  have wG := eG _ _ wE
  have gTG := eG _ _ gTE
  have gD2G := eG _ _ gD2
  have c8G : SameBut p H8 HG := SameBut.then (SameBut.trans (SameBut.then c8A cA2) sE) eG
  have D3p : D3 ≠ p := (ne_of_none wE nD3).symm
  have S9 := S8.step c8G ap
  -- those that are no orders
  refine ⟨_, rfl, _, rfl, _, rfl, _, rfl, (by show 3 ≤ sizeLine; decide), fun lq nL => ?_⟩
  have eL := same_new nL (.lst [.ref tp, .ref D2, .ref D3])
  have gL := new_at nL (.lst [.ref tp, .ref D2, .ref D3])
  have lqp : lq ≠ p := (ne_of_none wG nL).symm
  have S10 := S9.step (same_but eL) ap
  have wL := eL _ _ wG
  have three : ∀ v ∈ [V.ref tp, V.ref D2, V.ref D3], ∃ (r : Addr) (ms : List Int), v = .ref r ∧ upd HG lq (.lst [.ref tp, .ref D2, .ref D3]) r = some (.lst (ms.map V.int)) ∧ r ≠ p ∧ ms.length = ns.length ∧ ∀ x ∈ ms, -200 ≤ x ∧ x ≤ 200 := by
    intro v hv
    simp only [List.mem_cons, List.not_mem_nil, or_false] at hv
    rcases hv with rfl | rfl | rfl
    · exact ⟨tp, t1, rfl, eL _ _ gTG, tpp, l2, rg2⟩
    · exact ⟨D2, t2, rfl, eL _ _ gD2G, pD2.symm, lt2, fun x hx => by have := ht2 x hx; omega⟩
    · exact ⟨D3, t3, rfl, eL _ _ gD3, D3p, lt3, fun x hx => by have := ht3 x hx; omega⟩
  have c8L := SameBut.then c8G eL
  clear gD2G gTG gD3 gD2 gTE gT2 eG eL S9
  generalize upd HG lq (.lst [.ref tp, .ref D2, .ref D3]) = HL at *
  refine ⟨lq, rfl, ⟨_, SqL.of gL⟩, fun D4 nD4 => ?_⟩
  have e4 := same_new nD4 (.lst [])
  refine lc_list (K := K) (a := lq) (xs := [.ref tp, .ref D2, .ref D3]) (fun k H' => ∃ acc : List V, H' D4 = some (.lst acc) ∧ acc.length ≤ k ∧ Same HL H' ∧ ∀ v ∈ acc, PX K p POr HL v)
    ⟨[], upd_same, Nat.le_refl _, e4, fun v hv => nomatch hv⟩ (fun k H' _ ⟨_, _, _, c, _⟩ => SqL.of (c _ _ gL)) ?_ ?_
  · rintro k x H1 hx ⟨acc, gD', la', s1, ha'⟩
    have hk : k < 3 := (List.getElem?_eq_some_iff.mp hx).1
    obtain ⟨r, ms', rfl, gr, rp, lm, bm⟩ := three x (List.mem_of_getElem? hx)
    refine ⟨rfl, ?_⟩
    refine ⟨_, rfl, r, ms', rfl, SqL.of (s1 _ _ gr), by omega, fun so sp hp' hs m1 => ?_⟩
    have f1 := same_new m1 (.lst (so.map V.int))
    have k1 := new_at m1 (.lst (so.map V.int))
    refine ⟨_, rfl, _, rfl, fun rp' m2 => ?_⟩
    have f2 := same_new m2 (.rng 0 (ns.length : Int))
    have k2 := new_at m2 (.rng 0 (ns.length : Int))
    refine ⟨rp', 0, _, rfl, k2, by rw [b62]; omega, by rw [b62]; omega, by rw [b62]; omega, by rw [b62]; omega, by omega, fun p3 m3 => ?_⟩
    rw [range_iot]
    have tn : ((ns.length : Int) - 0).toNat = ns.length := by omega
    rw [tn]
    have f3 := same_new m3 (.lst ((iot ns.length).map V.int))
    have k3 := new_at m3 (.lst ((iot ns.length).map V.int))
    refine ⟨.list (so.map PyData.int), .list ((iot ns.length).map PyData.int), dp_ints (SqL.of (f3 _ _ (f2 _ _ k1))), dp_ints (SqL.of k3), shaped_ints _, shaped_ints _, _, rfl, ?_⟩
    rw [eqv_ints]
    have es : (so = iot ns.length) ↔ ms'.Perm (iot ns.length) := ⟨fun z => by rw [← z]; exact hp'.symm, fun z => sorted_same (hp'.trans z) hs (iot_sorted _)⟩
    have f := (f1.trans f2).trans f3
    by_cases c : so = iot ns.length
    · rw [decide_eq_true c]
      exact ⟨acc, f _ _ gD', by omega, s1.trans f, ha'⟩
    · rw [decide_eq_false c]
      refine ⟨_, rfl, acc, f _ _ gD', Nat.lt_of_le_of_lt (show acc.length ≤ 64 by omega) (by decide), acc ++ [.ref r], upd_same, by rw [List.length_append, List.length_singleton]; omega, fun b o h => ?_, fun v hv => ?_⟩
      · rw [upd_ne (ne_of_none h nD4)]
        exact f _ _ (s1 _ _ h)
      · rcases List.mem_append.mp hv with h | h
        · exact ha' v h
        · rw [List.mem_singleton.mp h]
          exact ints_px gr rp (by omega) bm fun z => c (es.mpr (by rw [lm] at z; exact z))
  rintro HM ⟨acc, gD4, la4, eM, hacc⟩
  have wM := eM _ _ wL
  have l3 : ([V.ref tp, V.ref D2, V.ref D3]).length = 3 := rfl
  rw [l3] at la4
  refine ⟨a, D4, xs, acc, rfl, rfl, eM _ _ S10.at_, gD4, Nat.le_trans (show xs.length + acc.length ≤ 1000 by omega) (by decide), fun rp nR => ?_⟩
  have eR := same_new nR (.lst (xs ++ acc))
  have sb8 : SameBut p H HM := SameBut.then (SameBut.trans c8 c8L) eM
  have rpp : rp ≠ p := (ne_of_none wM nR).symm
  refine ⟨_, rfl, q rp _ (SameBut.then sb8 eR) ⟨_, _, eR _ _ wM⟩ ⟨freeB sb8 rpp nR, rpp, _, new_at nR _, by rw [List.length_append]; omega, fun v hv => ?_⟩⟩
  rcases List.mem_append.mp hv with h | h
  · exact ((S10.px v h).sm eM).sm eR
  · exact ((hacc v h).sm eM).sm eR
end
end K51
set_option Elab.async false
set_option linter.all false
set_option maxRecDepth 100000
namespace NV
open PySem PySem.Spec PyProof.Rows L2 NP NT NG NU
theorem jIf {X : Cx} {c a b : Expr} {es : List Expr} {te : TE} {t : TA} {pos : Pos} (h : JE X (.IfExp c a b pos) te) (r : JA X es t) : JA X (.IfExp c a b pos :: es) (tCons te t) := ⟨pa_cons h.p r.p⟩
theorem js_weak {X : Cx} {st : Stmt} {t u : TS} (h : JS X st t) (w : ∀ D σ H, u D σ H → t D σ H) : JS X st u := ⟨fun pins s σ H D I q => h.p pins s σ H D I (w D σ H q)⟩
section
variable {K : PySem.W.Frag} {pp : Addr} {P : PyData → Prop} {H H0 H1 H2 : Hp} {v : V} {d : PyData} {σ : L2.St} {te : TE} {t : TA} {n : Nat} {xs ys : List V} {a : Addr} {zs : List Int}
theorem gl_eq (h : GL H0 σ te xs) (e : xs = zs.map V.int) : GL H0 σ te (zs.map V.int) := e ▸ h
theorem gp_cmp {i : Nat} {x y : Int} (h : σ[i]? = some (some (.int x)) := by rfl) : GP σ (tOp rEq (tVar i) (tC (.int y))) (.bl (decide (V.int x = V.int y))) := fun _ _ q => ⟨_, h, rfl, q⟩
theorem gi_cast {i j : Int} (h : GI σ te i) (e : i = j) : GI σ te j := e ▸ h
theorem gy_gl (h : GL H0 σ te (zs.map V.int)) (w : H0 pp ≠ none) (hp : POr (.list (zs.map PyData.int))) : GY K pp POr H0 σ te := fun H Q e q => h H Q e fun r H' e' n g => q _ H' e' ⟨_, fun H2 s => .lst (SqL.of (s _ _ (ne_pp (Same.keep e w) n) g)) (tha_ints zs), hp⟩
theorem gy_setL {i : Nat} {r : TS} {D : Ends} (h : GYs K pp P H n σ t) (hl : n ≤ 1000) (q : ∀ a xs H', Same H H' → H a = none → H' a = some (.lst xs) → xs.length = n → (∀ v ∈ xs, PX K pp P H' v) → r D (σ.set i (some (.ref a))) H') : tSeq (tAsg (tLst t) (gName i)) r D σ H := by
  show tLst t σ H fun x H1 => r D (σ.set i (some x)) H1
  exact gy_list h hl q
theorem hide_upd2 {u u' : HO} (h : H a = none) : hide a (upd (upd H a u) a u') = H := by
  have : upd (upd H a u) a u' = upd H a u' := by
    funext b
    unfold upd
    split <;> rfl
  rw [this]
  exact hide_upd h
end
theorem or_sh {d : PyData} (h : NT.okS 3 d = true) (h2 : isOrdD d = false) : POr d := ⟨h2, shows_okS h⟩
theorem ints_2 {ns : List Int} (h : ∀ x ∈ ns, -200 ≤ x ∧ x ≤ 200) : ∀ d ∈ ns.map PyData.int, NT.okS 2 d = true := fun d hd => by
  obtain ⟨x, hx, rfl⟩ := List.mem_map.mp hd
  have := h x hx
  exact ok2_int (by rw [p20]; omega) (by rw [p20]; omega)
theorem r41_bad : isOrdD (.list ((iot 41).map PyData.int)) = false := by
  show (decide (((iot 41).map PyData.int).length ≤ 40) && (((iot 41).map PyData.int).all whole && isP (((iot 41).map PyData.int).map numD))) = false
  have : decide (((iot 41).map PyData.int).length ≤ 40) = false := by decide +kernel
  rw [this, Bool.false_and]
theorem or_ints {ms : List Int} (hl : ms.length ≤ 100) (h : ∀ x ∈ ms, -200 ≤ x ∧ x ≤ 200) (hb : isOrdD (.list (ms.map PyData.int)) = false) : POr (.list (ms.map PyData.int)) := ⟨hb, shows_2 (ints_2 h) (by rw [List.length_map]; omega)⟩
theorem or_big {ns : List Int} (io : IsOrd ns) : POr (.list ((ns ++ [10 ^ (39 : Int).toNat]).map PyData.int)) := by
  have e : (10 : Int) ^ (39 : Int).toNat = 1000000000000000000000000000000000000000 := by decide
  have l := io.len
  refine ⟨bad_out (x := 10 ^ (39 : Int).toNat) (List.mem_append_right _ (.head _)) (.inr ?_), shows_2 (fun d hd => ?_) ?_⟩
  · rw [List.length_append, List.length_singleton, e]; omega
  · rw [List.map_append] at hd
    rcases List.mem_append.mp hd with h | h
    · exact ok2_ord io d h
    · rw [List.mem_singleton.mp h]; decide +kernel
  · rw [List.length_map, List.length_append, List.length_singleton]; omega
theorem str_o {o : Int} (h0 : 0 ≤ o) (h1 : o < 40) : NT.okS 2 (.str (Str.ofString (toString o))) = true := by
  obtain ⟨a, rfl⟩ := Int.eq_ofNat_of_zero_le h0
  exact str_small ⟨a, by omega⟩
theorem log_le {n : Nat} (h : n ≤ 63) : n.log2 ≤ 5 := by
  rcases Nat.eq_zero_or_pos n with z | z
  · rw [z]; decide
  · have := (Nat.log2_lt (n := n) (k := 6) (by omega)).mpr (by omega)
    omega
theorem l1_ok {o : Int} (h0 : 0 ≤ o) (h1 : o < 40) : NT.okS 2 (.list [.int o]) = true ∧ NT.okS 2 (.tuple [.int o]) = true := by
  have : NT.okS 1 (.int o) = true := small_i (by rw [p20]; omega) (by rw [p20]; omega)
  constructor
  · show (decide (1 ≤ 8) && ([PyData.int o]).all (NT.okS 1)) = true
    simp only [List.all_cons, List.all_nil, this]
    rfl
  · show (decide (1 ≤ 8) && ([PyData.int o]).all (NT.okS 1)) = true
    simp only [List.all_cons, List.all_nil, this]
    rfl
theorem o29_ok {o : Int} (h0 : 0 ≤ o) (h1 : o < 40) : NT.okS 2 (.int (o + 10 ^ (29 : Int).toNat)) = true := by
  show decide ((o + 10 ^ (29 : Int).toNat).natAbs < 2 ^ 140) = true
  have e : (10 : Int) ^ (29 : Int).toNat = 100000000000000000000000000000 := by decide
  have b : (2 : Nat) ^ 140 = 1393796574908163946345982392040522594123776 := by decide
  rw [e, b]
  exact decide_eq_true (by omega)
theorem e29 : (10 : Int) ^ (29 : Int).toNat = 100000000000000000000000000000 := by decide
theorem prev_ix {ns : List Int} (io : IsOrd ns) (h1 : 1 < ns.length) {i : Nat} (il : i < ns.length) : ∃ (k : Nat) (kl : k < ns.length), atI (ns.map V.int) ((i : Int) - 1) = some (.int ns[k]) ∧ ns[k] ≠ ns[i] := by
  have nd := io.nodup
  have ne : ∀ k (kl : k < ns.length), k ≠ i → ns[k] ≠ ns[i] := fun k kl ki e => by
    have pw := List.pairwise_iff_getElem.mp nd
    rcases Nat.lt_or_gt_of_ne ki with h | h
    · exact pw k i kl il h e
    · exact pw i k il kl h e.symm
  rcases Nat.eq_zero_or_pos i with z | z
  · refine ⟨ns.length - 1, by omega, ?_, ne _ _ (by omega)⟩
    subst z
    have e : (((0 : Nat) : Int) - 1) = -1 := rfl
    rw [e]
    unfold atI ixN
    rw [if_neg (by decide), if_pos (by rw [List.length_map]; omega)]
    have e2 : (-1 + ((ns.map V.int).length : Int)).toNat = ns.length - 1 := by rw [List.length_map]; omega
    show (ns.map V.int)[(-1 + ((ns.map V.int).length : Int)).toNat]? = _
    rw [e2, List.getElem?_map, List.getElem?_eq_getElem (by omega)]
    rfl
  · refine ⟨i - 1, by omega, ?_, ne _ _ (by omega)⟩
    have e : ((i : Int) - 1) = ((i - 1 : Nat) : Int) := by omega
    rw [e]
    exact atI_nat (by rw [List.getElem?_map, List.getElem?_eq_getElem (by omega)]; rfl)
structure OrdSt (K : PySem.W.Frag) (p op : Addr) (ns : List Int) (H0 : Hp) (a : Addr) (xs : List V) (H : Hp) : Prop where
  free : H0 a = none
  ne : a ≠ p
  opa : op ≠ a
  but : SameBut p H0 H
  well : WellAt H p
  go : H op = some (.lst (ns.map V.int))
  sl : Sl K p POr a H xs
def tAdd (K : PySem.W.Frag) (p op : Addr) (ns : List Int) (H0 : Hp) : TS := fun D σ H => ∃ (a : Addr) (xs : List V) (i : Nat) (il : i < ns.length) (v6 : Option V), σ = [some (.ref p), some (.ref op), some (.int (ns.length : Int)), some (.ref a), some (.int (i : Int)), some (.int ns[i]), v6, none, none, none, none, none, none, none] ∧ OrdSt K p op ns H0 a xs H ∧ xs.length ≤ 100 ∧
  ∀ xs' H', OrdSt K p op ns H0 a xs' H' → xs'.length ≤ xs.length + 1 → D.nx σ H'
/-- a thing more -/
theorem OrdSt.app {K : PySem.W.Frag} {p op : Addr} {ns : List Int} {H0 H HY : Hp} {a r : Addr} {xs : List V} (h : OrdSt K p op ns H0 a xs H) (e : Same (hide a H) HY) (n : HY a = none) (hv : PX K p POr HY (.ref r)) : OrdSt K p op ns H0 a (xs ++ [.ref r]) (upd (upd HY a (.lst xs)) a (.lst (xs ++ [.ref r]))) := by
  have keep : ∀ b o, b ≠ a → H b = some o → upd (upd HY a (.lst xs)) a (.lst (xs ++ [.ref r])) b = some o := fun b o nb hb => by
    rw [upd_ne nb, upd_ne nb]
    exact e _ _ (by rw [hide_ne nb]; exact hb)
  obtain ⟨z, y, w⟩ := h.well
  exact ⟨h.free, h.ne, h.opa, fun b o nb hb => keep b o (ne_of_none hb h.free) (h.but b o nb hb), ⟨z, y, keep _ _ h.ne.symm w⟩, keep _ _ h.opa h.go, h.sl.app e n hv⟩
theorem px_cat {K : PySem.W.Frag} {p r : Addr} {ns : List Int} {i : Nat} {v : V} {HY : Hp} (io : IsOrd ns) (g : HY r = some (.lst ((ns.map V.int).take i ++ [v] ++ (ns.map V.int).drop (i + 1)))) (n : r ≠ p)
    (hv : PX K p (fun d => NT.okS 2 d = true ∧ isOrdD (.list ((ns.take i).map PyData.int ++ [d] ++ (ns.drop (i + 1)).map PyData.int)) = false) HY v) : PX K p POr HY (.ref r) := by
  obtain ⟨d, td, h2, hb⟩ := hv
  have l := io.len
  refine ⟨.list ((ns.take i).map PyData.int ++ [d] ++ (ns.drop (i + 1)).map PyData.int), fun H' s => .lst (SqL.of (s _ _ n g)) ?_, hb, shows_2 (fun e he => ?_) (by simp only [List.length_append, List.length_map, List.length_singleton, List.length_take, List.length_drop]; omega)⟩
  · rw [← List.map_take, ← List.map_drop]
    exact tha_app (tha_app (tha_ints _) (.cons (td H' s) .nil)) (tha_ints _)
  · rcases List.mem_append.mp he with h | h
    · rcases List.mem_append.mp h with h | h
      · obtain ⟨x, hx, rfl⟩ := List.mem_map.mp h
        exact ok2_ord io _ (List.mem_map_of_mem (List.mem_of_mem_take hx))
      · rw [List.mem_singleton.mp h]; exact h2
    · obtain ⟨x, hx, rfl⟩ := List.mem_map.mp h
      exact ok2_ord io _ (List.mem_map_of_mem (List.mem_of_mem_drop hx))
end NV
namespace K51
open PySem PySem.Spec PyProof.Rows L2 NP NT NV NN NK NQ NG NU
section
variable {P : Program} {w : World} {K : PySem.W.Frag} {mg : Str → Option Value} {base : Heap} {f g : Addr} {fd gd : FuncData}
set_option maxHeartbeats 16000000 in
theorem ok_noO (F : Fun K "_law_no_orders" "_law_no_orders" sNoO f fd) (M : Mg2 mg) (mstr : mg "str" = none) (Ta : FnOk P w K mg base CX0 1 g gd ["well", "many"] NP.spDraw2) (bT : Binds K gd ["well", "many"] []) (kT : PySem.W.keepIn K (.ref g) = true) (mT : mg "_law_draw" = some (.ref g)) : FnOk P w K mg base CX0 12 f fd ["well", "order"] (spNoOrders K) := by
  refine fnJ F scNoO (fun vs H Q E h => ?_) (fun cdv A outer s H vs Q E gp hcl hr h => ?_)
  · obtain ⟨p, op, ns, rfl, _⟩ := h
    rfl
  obtain ⟨p, op, ns, rfl, hp, opp, go, io, q⟩ := h
  have hr1 : Room 1 _ := hr.mono (by decide)
  have hc1 : L2.Cl 1 gp := L2.Cl.mono hcl (by decide)
  have b62 : (2 : Int) ^ 62 = 4611686018427387904 := by decide
  have l40 := io.len
  have rg : ∀ x ∈ ns, 0 ≤ x ∧ x < 40 := fun x hx => by have := io.mem.mp hx; omega
  obtain ⟨tT, jT, hT⟩ := orders_tail M Ta bT kT mT cdv A outer s H E gp Q hcl hr hp opp io q
  refine ⟨_, (jb_cons (js_set (i := 2) scNoO.nd rfl (by first | exact Or.inl rfl | exact Or.inr rfl) (je_callB call_len_seq rfl M.base.len PySem.boot_len (jn (jv 1) ja0)))
    (jb_cons (js_set (i := 3) scNoO.nd rfl (Or.inl rfl) (je_lst (jc je_non (ji_ (jc je_bl (jc je_str (jc je_str (jTu (je_tup ja0) (jDi je_dnew (jCa (je_callTy call_tuple_of (by rfl) M.base.tuple (by decide +kernel) (jn (jv 1) ja0)) (jLi (je_lst (jn (jv 1) ja0)) (jLi (je_lst (jc je_non ja0)) (jLi (je_lst (jLi (je_lst (ji_ ja0)) ja0)) (jDi (je_disp (jp_cons je_int je_int jp_nil) rfl rfl (by intro h; cases h) (by decide)) (jLi (je_lst (ji_ ja0)) (jLi (je_lst (ji_ (ji_ ja0))) (jLi (je_lst (jUn (je_un un_neg je_int) ja0)) (jLi (je_lst (jc je_str ja0)) ja0))))))))))))))))))
    (jb_cons (js_set (i := 3) scNoO.nd rfl (Or.inl rfl) (je_op op_cat (jv 3) (je_lst (jCa (je_callTy (cr_listR rfl) (by rfl) M.base.list (by decide +kernel) (jCa (je_callTy cr_range1 (by rfl) M.base.range (by decide +kernel) (ji_ ja0)) ja0)) (jLi (je_lst (jc je_bl ja0)) (jLi (je_lst (jc je_bl ja0)) (jLi (je_lst (ji_ (jc je_bl ja0))) (jBi (je_op op_cat (jv 1) (je_lst (jBi (je_op op_add (jv 2) je_int) ja0))) (jBi (je_op op_cat (jv 1) (je_lst (jBi (je_op op_pow je_int je_int) ja0))) ja0)))))))))
    (jb_cons (js_if (jt_cmp (op_neD hr.units) (jv 1) (je_lst ja0) (nomark _)) (jb_cons (js_set (i := 4) scNoO.nd rfl (by first | exact Or.inl rfl | exact Or.inr rfl) (je_call Ta hr1 rfl mT kT bT .nil pass0 (jn (jv 0) (jn (jv 2) ja0))))
      (jb_cons (js_set (i := 5) scNoO.nd rfl (Or.inl rfl) (je_ix ix_list (jv 1) (jv 4) (fun _ _ => rfl)))
      (jb_cons (js_for PassesOwn.never rfl (ji_list (je_lst (ja_hide (by rfl) (jn (jv 2) (jUn (je_un un_neg je_int) (jc je_non (jCa (je_callTy call_str_int (by rfl) mstr (by decide +kernel) (jn (jv 5) ja0)) (jLi (je_lst (jn (jv 5) ja0)) (jTu (je_tup (jn (jv 5) ja0)) (jIf (je_if (jt_cmp op_gt (jv 2) je_int (nomark _)) (je_ix ix_list (jv 1) (je_op op_sub (jv 4) je_int) (fun _ _ => rfl)) je_int) (jBi (je_op op_add (jv 5) (je_op op_pow je_int je_int)) ja0))))))))))) (jg_name (i := 6) scNoO.nd rfl (Or.inl rfl)) (jb_one (js_expr (je_append (jv 3) (ja_hide (by rfl) (jBi (je_op op_cat (je_op op_cat (je_slice sl_list (jv 1) jo_none (jo_some (jv 4))) (je_lst (jn (jv 6) ja0))) (je_slice sl_list (jv 1) (jo_some (je_op op_add (jv 4) je_int)) jo_none)) ja0))))))
      (jb_cons (js_set (i := 3) scNoO.nd rfl (Or.inl rfl) (je_op op_cat (jv 3) (je_lst (jBi (je_op op_cat (jv 1) (je_lst (jn (jv 5) ja0))) (jBi (je_op op_cat (je_op op_cat (je_slice sl_list (jv 1) jo_none (jo_some (jv 4))) (je_lst (jn (jv 5) ja0))) (je_slice sl_list (jv 1) (jo_some (jv 4)) jo_none)) ja0)))))
      (jb_cons (js_weak (u := tAdd K p op ns H) (js_if (jt_cmp op_in_seq (jv 5) (je_tup (ji_ (ji_ ja0))) (by with_unfolding_all rfl)) (jb_one (js_expr (je_append (jv 3) (ja_hide (by rfl) (jBi (je_op op_cat (je_op op_cat (je_slice sl_list (jv 1) jo_none (jo_some (jv 4))) (je_lst (jCm (je_cmp op_eq (jv 5) je_int (nomark _)) ja0))) (je_slice sl_list (jv 1) (jo_some (je_op op_add (jv 4) je_int)) jo_none)) ja0))))) jb_nil) ?we)
      (jb_one (js_weak (u := tAdd K p op ns H) (js_if (jt_cmp (op_neD hr.units) (jv 1) (je_callB cr_sorted (by rfl) M.sorted (by decide +kernel) (jn (jv 1) ja0)) (nomark _)) (jb_one (js_expr (je_append (jv 3) (ja_hide (by rfl) (jBi (je_op op_cat (je_op op_cat (je_slice sl_list (jv 1) jo_none (jo_some (jv 4))) (je_lst (jn (jv 2) ja0))) (je_slice sl_list (je_slice sl_list (jv 1) (jo_some (jv 4)) jo_none) (jo_some je_int) jo_none)) ja0))))) jb_nil) ?wf))))))) jb_nil)
    jT)))), ?_⟩
  case we =>
    rintro D σ H9 ⟨a, xs, i, il, v6, rfl, S, lx, nx⟩
    refine ⟨_, rfl, (by show 2 ≤ sizeLine; decide), fun tp nt => ⟨tp, _, rfl, .inr (SqT.of (new_at nt _)), rfl, rfl, _, rfl, ?_⟩⟩
    have et := same_new nt (.tup [.int 0, .int 1])
    obtain ⟨z9, y9, w9⟩ := S.well
    have S2 : OrdSt K p op ns H a xs (upd H9 tp (.tup [.int 0, .int 1])) := ⟨S.free, S.ne, S.opa, SameBut.then S.but et, ⟨z9, y9, et _ _ w9⟩, et _ _ S.go, S.sl.step (same_but et) S.ne⟩
    generalize upd H9 tp (.tup [.int 0, .int 1]) = HX at *
    have gop : hide a HX op = some (.lst (ns.map V.int)) := by rw [hide_ne S.opa]; exact S2.go
    obtain ⟨zX, yX, wX⟩ := S2.well
    generalize inV (V.int ns[i]) [V.int 0, V.int 1] = b
    cases b with
    | false => exact itF rfl (nx xs HX S2 (by omega))
    | true =>
      refine itT rfl ⟨_, rfl, .inl ⟨rfl, _, SqL.of S2.sl.at_⟩, a, _, S.free, S2.sl.at_, (gl_cat (gl_cat (gl_to rfl (SqL.of gop) gi_var (by rw [List.length_map]; omega)) (gl_one (gp_cmp)) (by rw [List.length_take, List.length_map, List.length_singleton]; omega)) (gl_from (i := i + 1) rfl (SqL.of gop) (gi_cast (gi_add gi_var gi_c) rfl) (by rw [List.length_map]; omega)) (by rw [List.length_append, List.length_take, List.length_drop, List.length_map, List.length_singleton]; omega)) (hide a HX) _ (Same.refl _) fun r HY eY nY gY => fun nYa => ?_⟩
      refine ⟨a, _, _, rfl, rfl, upd_same, Nat.lt_of_le_of_lt lx (by decide), ?_⟩
      have rp : r ≠ p := fun e => by rw [e, hide_ne S.ne.symm, wX] at nY; cases nY
      exact nx _ _ (S2.app eY nYa (px_cat io gY rp ⟨.bool _, fun _ _ => .dp (.bl _), rfl, bad_nw rfl⟩)) (by rw [List.length_append]; exact Nat.le_refl _)
  case wf =>
    rintro D σ H9 ⟨a, xs, i, il, v6, rfl, S, lx, nx⟩
    refine ⟨_, rfl, _, rfl, op, ns, rfl, SqL.of S.go, by omega, fun so sp hp' hs m1 => ?_⟩
    have et := same_new m1 (.lst (so.map V.int))
    obtain ⟨z9, y9, w9⟩ := S.well
    have S2 : OrdSt K p op ns H a xs (upd H9 sp (.lst (so.map V.int))) := ⟨S.free, S.ne, S.opa, SameBut.then S.but et, ⟨z9, y9, et _ _ w9⟩, et _ _ S.go, S.sl.step (same_but et) S.ne⟩
    refine ⟨.list (ns.map PyData.int), .list (so.map PyData.int), dp_ints (SqL.of S2.go), dp_ints (SqL.of (new_at m1 _)), shaped_ints _, shaped_ints _, _, rfl, ?_⟩
    generalize upd H9 sp (.lst (so.map V.int)) = HX at *
    rw [eqv_ints]
    have gop : hide a HX op = some (.lst (ns.map V.int)) := by rw [hide_ne S.opa]; exact S2.go
    obtain ⟨zX, yX, wX⟩ := S2.well
    by_cases c : ns = so
    · rw [decide_eq_true c]
      exact itF rfl (nx xs HX S2 (by omega))
    · rw [decide_eq_false c]
      refine itT rfl ⟨_, rfl, .inl ⟨rfl, _, SqL.of S2.sl.at_⟩, a, _, S.free, S2.sl.at_, (gl_cat (gl_cat (gl_to rfl (SqL.of gop) gi_var (by rw [List.length_map]; omega)) (gl_one gp_var) (by rw [List.length_take, List.length_map, List.length_singleton]; omega)) (gl_tail (gl_from rfl (SqL.of gop) gi_var (by rw [List.length_map]; omega)) (by rw [List.length_drop, List.length_map]; omega)) (by rw [List.length_append, List.length_take, List.length_drop, List.length_drop, List.length_map, List.length_singleton]; omega)) (hide a HX) _ (Same.refl _) fun r HY eY nY gY => fun nYa => ?_⟩
      refine ⟨a, _, _, rfl, rfl, upd_same, Nat.lt_of_le_of_lt lx (by decide), ?_⟩
      have rp : r ≠ p := fun e => by rw [e, hide_ne S.ne.symm, wX] at nY; cases nY
      rw [List.drop_drop] at gY
      exact nx _ _ (S2.app eY nYa (px_cat io gY rp ⟨.int (ns.length : Int), fun _ _ => .dp (.int _), ok2_int (by rw [p20]; omega) (by rw [p20]; omega), bad_at io il (by have := io.mem.mp (List.getElem_mem il); omega)⟩)) (by rw [List.length_append]; exact Nat.le_refl _)
  obtain ⟨z0, y0, hw⟩ := id hp
  have h0 := well_ne hp
  refine ⟨_, rfl, op, _, rfl, .inl (SqL.of go), ?_⟩
  show gName 2 (V.int (((ns.map V.int).length : Nat) : Int)) _ _ _
  rw [List.length_map]
  dsimp only [gName]
  refine gy_setL (K := K) (pp := p) (P := POr) (n := 16) (H := H) (gys_cons (gy_gx (d := .none) (by repeat' (first | exact gx_non | exact gx_bl | exact gx_str | exact gx_dnew | exact gx_int gi_c | exact gx_int gi_var | exact gx_int (gi_neg gi_c) | exact gx_int gi_pow | exact gx_d1 gi_c gi_c | exact gxs_nil | refine gxs_cons ?_ ?_ | refine gx_tup ?_ | refine gx_lst ?_)) h0 (or_sh (by decide +kernel) (by decide +kernel)))
    (gys_cons (gy_gx (d := .int 0) (by repeat' (first | exact gx_non | exact gx_bl | exact gx_str | exact gx_dnew | exact gx_int gi_c | exact gx_int gi_var | exact gx_int (gi_neg gi_c) | exact gx_int gi_pow | exact gx_d1 gi_c gi_c | exact gxs_nil | refine gxs_cons ?_ ?_ | refine gx_tup ?_ | refine gx_lst ?_)) h0 (or_sh (by decide +kernel) (by decide +kernel)))
    (gys_cons (gy_gx (d := .bool true) (by repeat' (first | exact gx_non | exact gx_bl | exact gx_str | exact gx_dnew | exact gx_int gi_c | exact gx_int gi_var | exact gx_int (gi_neg gi_c) | exact gx_int gi_pow | exact gx_d1 gi_c gi_c | exact gxs_nil | refine gxs_cons ?_ ?_ | refine gx_tup ?_ | refine gx_lst ?_)) h0 (or_sh (by decide +kernel) (by decide +kernel)))
    (gys_cons (gy_gx (d := .str "") (by repeat' (first | exact gx_non | exact gx_bl | exact gx_str | exact gx_dnew | exact gx_int gi_c | exact gx_int gi_var | exact gx_int (gi_neg gi_c) | exact gx_int gi_pow | exact gx_d1 gi_c gi_c | exact gxs_nil | refine gxs_cons ?_ ?_ | refine gx_tup ?_ | refine gx_lst ?_)) h0 (or_sh (by decide +kernel) (by decide +kernel)))
    (gys_cons (gy_gx (d := .str "0 1") (by repeat' (first | exact gx_non | exact gx_bl | exact gx_str | exact gx_dnew | exact gx_int gi_c | exact gx_int gi_var | exact gx_int (gi_neg gi_c) | exact gx_int gi_pow | exact gx_d1 gi_c gi_c | exact gxs_nil | refine gxs_cons ?_ ?_ | refine gx_tup ?_ | refine gx_lst ?_)) h0 (or_sh (by decide +kernel) (by decide +kernel)))
    (gys_cons (gy_gx (d := .tuple []) (by repeat' (first | exact gx_non | exact gx_bl | exact gx_str | exact gx_dnew | exact gx_int gi_c | exact gx_int gi_var | exact gx_int (gi_neg gi_c) | exact gx_int gi_pow | exact gx_d1 gi_c gi_c | exact gxs_nil | refine gxs_cons ?_ ?_ | refine gx_tup ?_ | refine gx_lst ?_)) h0 (or_sh (by decide +kernel) (by decide +kernel)))
    (gys_cons (gy_gx (d := .dict []) (by repeat' (first | exact gx_non | exact gx_bl | exact gx_str | exact gx_dnew | exact gx_int gi_c | exact gx_int gi_var | exact gx_int (gi_neg gi_c) | exact gx_int gi_pow | exact gx_d1 gi_c gi_c | exact gxs_nil | refine gxs_cons ?_ ?_ | refine gx_tup ?_ | refine gx_lst ?_)) h0 (or_sh (by decide +kernel) (by decide +kernel)))
    (gys_cons (by intro H2 Q2 e2 q2; exact ⟨_, rfl, op, _, rfl, .inl ⟨SqL.of (e2 _ _ go), fun l hl => q2 _ _ (same_new hl _) ⟨.tuple (ns.map PyData.int), fun H' s => .tup (SqT.of (s _ _ (ne_pp (Same.keep e2 h0) hl) (new_at hl _))) (tha_ints ns), rfl, shows_2t (ok2_ord io) (by rw [List.length_map]; omega)⟩⟩⟩)
    (gys_cons (by intro H2 Q2 e2 q2; exact ⟨_, rfl, (by show 1 ≤ sizeLine; decide), fun l hl => q2 _ _ (same_new hl _) ⟨.list [.list (ns.map PyData.int)], fun H' s => .lst (SqL.of (s _ _ (ne_pp (Same.keep e2 h0) hl) (new_at hl _))) (.cons (.lst (SqL.of (s _ _ opp (same_new hl _ _ _ (e2 _ _ go)))) (tha_ints ns)) .nil), rfl, shows_1 (shows_2 (ok2_ord io) (by rw [List.length_map]; omega)) (few_2 (ok2_ord io) (by rw [List.length_map]; omega)).1 (few_2 (ok2_ord io) (by rw [List.length_map]; omega)).2⟩⟩)
    (gys_cons (gy_gx (d := .list [.none]) (by repeat' (first | exact gx_non | exact gx_bl | exact gx_str | exact gx_dnew | exact gx_int gi_c | exact gx_int gi_var | exact gx_int (gi_neg gi_c) | exact gx_int gi_pow | exact gx_d1 gi_c gi_c | exact gxs_nil | refine gxs_cons ?_ ?_ | refine gx_tup ?_ | refine gx_lst ?_)) h0 (or_sh (by decide +kernel) (by decide +kernel)))
    (gys_cons (gy_gx (d := .list [.list [.int 0]]) (by repeat' (first | exact gx_non | exact gx_bl | exact gx_str | exact gx_dnew | exact gx_int gi_c | exact gx_int gi_var | exact gx_int (gi_neg gi_c) | exact gx_int gi_pow | exact gx_d1 gi_c gi_c | exact gxs_nil | refine gxs_cons ?_ ?_ | refine gx_tup ?_ | refine gx_lst ?_)) h0 (or_sh (by decide +kernel) (by decide +kernel)))
    (gys_cons (gy_gx (d := .dict [(.int 0, .int 0)]) (by repeat' (first | exact gx_non | exact gx_bl | exact gx_str | exact gx_dnew | exact gx_int gi_c | exact gx_int gi_var | exact gx_int (gi_neg gi_c) | exact gx_int gi_pow | exact gx_d1 gi_c gi_c | exact gxs_nil | refine gxs_cons ?_ ?_ | refine gx_tup ?_ | refine gx_lst ?_)) h0 (or_sh (by decide +kernel) (by decide +kernel)))
    (gys_cons (gy_gx (d := .list [.int 1]) (by repeat' (first | exact gx_non | exact gx_bl | exact gx_str | exact gx_dnew | exact gx_int gi_c | exact gx_int gi_var | exact gx_int (gi_neg gi_c) | exact gx_int gi_pow | exact gx_d1 gi_c gi_c | exact gxs_nil | refine gxs_cons ?_ ?_ | refine gx_tup ?_ | refine gx_lst ?_)) h0 (or_sh (by decide +kernel) (by decide +kernel)))
    (gys_cons (gy_gx (d := .list [.int 0, .int 2]) (by repeat' (first | exact gx_non | exact gx_bl | exact gx_str | exact gx_dnew | exact gx_int gi_c | exact gx_int gi_var | exact gx_int (gi_neg gi_c) | exact gx_int gi_pow | exact gx_d1 gi_c gi_c | exact gxs_nil | refine gxs_cons ?_ ?_ | refine gx_tup ?_ | refine gx_lst ?_)) h0 (or_sh (by decide +kernel) (by decide +kernel)))
    (gys_cons (gy_gx (d := .list [.int (-1)]) (by repeat' (first | exact gx_non | exact gx_bl | exact gx_str | exact gx_dnew | exact gx_int gi_c | exact gx_int gi_var | exact gx_int (gi_neg gi_c) | exact gx_int gi_pow | exact gx_d1 gi_c gi_c | exact gxs_nil | refine gxs_cons ?_ ?_ | refine gx_tup ?_ | refine gx_lst ?_)) h0 (or_sh (by decide +kernel) (by decide +kernel)))
    (gys_cons (gy_gx (d := .list [.str "0"]) (by repeat' (first | exact gx_non | exact gx_bl | exact gx_str | exact gx_dnew | exact gx_int gi_c | exact gx_int gi_var | exact gx_int (gi_neg gi_c) | exact gx_int gi_pow | exact gx_d1 gi_c gi_c | exact gxs_nil | refine gxs_cons ?_ ?_ | refine gx_tup ?_ | refine gx_lst ?_)) h0 (or_sh (by decide +kernel) (by decide +kernel)))
    gys_nil)))))))))))))))) (by decide) fun a1 x1 H1 e1 n1 g1 l1 p1 => ?_
  have w1 := e1 _ _ hw
  have h1' : H1 p ≠ none := well_ne ⟨_, _, w1⟩
  refine ⟨_, rfl, gy_list (K := K) (pp := p) (P := POr) (n := 6) (H := H1) (gys_cons (by
      intro H2 Q2 e2 q2
      refine ⟨41, rfl, fun rp m1 => ?_⟩
      have f1 := same_new m1 (.rng 0 41)
      refine ⟨rp, 0, 41, rfl, new_at m1 _, by rw [b62]; omega, by rw [b62]; omega, by rw [b62]; omega, by rw [b62]; omega, by decide, fun l m2 => ?_⟩
      rw [range_iot]
      have f2 := same_new m2 (.lst ((iot ((41 : Int) - 0).toNat).map V.int))
      exact q2 _ _ (f1.trans f2) ⟨.list ((iot 41).map PyData.int), fun H' s => .lst (SqL.of (s _ _ (ne_pp (Same.keep (e2.trans f1) h1') m2) (new_at m2 _))) (tha_ints _), r41_bad, shows_2 (ints_2 fun x hx => by have := iot_mem.mp hx; omega) (by decide +kernel)⟩)
    (gys_cons (gy_gx (d := .list [.bool true]) (by repeat' (first | exact gx_non | exact gx_bl | exact gx_str | exact gx_dnew | exact gx_int gi_c | exact gx_int gi_var | exact gx_int (gi_neg gi_c) | exact gx_int gi_pow | exact gx_d1 gi_c gi_c | exact gxs_nil | refine gxs_cons ?_ ?_ | refine gx_tup ?_ | refine gx_lst ?_)) h1' (or_sh (by decide +kernel) (by decide +kernel)))
    (gys_cons (gy_gx (d := .list [.bool false]) (by repeat' (first | exact gx_non | exact gx_bl | exact gx_str | exact gx_dnew | exact gx_int gi_c | exact gx_int gi_var | exact gx_int (gi_neg gi_c) | exact gx_int gi_pow | exact gx_d1 gi_c gi_c | exact gxs_nil | refine gxs_cons ?_ ?_ | refine gx_tup ?_ | refine gx_lst ?_)) h1' (or_sh (by decide +kernel) (by decide +kernel)))
    (gys_cons (gy_gx (d := .list [.int 0, .bool true]) (by repeat' (first | exact gx_non | exact gx_bl | exact gx_str | exact gx_dnew | exact gx_int gi_c | exact gx_int gi_var | exact gx_int (gi_neg gi_c) | exact gx_int gi_pow | exact gx_d1 gi_c gi_c | exact gxs_nil | refine gxs_cons ?_ ?_ | refine gx_tup ?_ | refine gx_lst ?_)) h1' (or_sh (by decide +kernel) (by decide +kernel)))
    (gys_cons (gy_gl (gl_eq (zs := ns ++ [(ns.length : Int) + 1]) (gl_var rfl (e1 _ _ go) (gl_one (gp_gi (gi_add gi_var gi_c))) (by rw [List.length_map, List.length_singleton]; omega)) (by rw [List.map_append]; rfl)) h1' (or_ints (by rw [List.length_append, List.length_singleton]; omega) (fun x hx => (List.mem_append.mp hx).elim (fun h => by have := rg x h; omega) (fun h => by rw [List.mem_singleton.mp h]; omega)) (bad_out (x := (ns.length : Int) + 1) (List.mem_append_right _ (.head _)) (.inr (by rw [List.length_append, List.length_singleton]; omega)))))
    (gys_cons (gy_gl (gl_eq (zs := ns ++ [10 ^ (39 : Int).toNat]) (gl_var rfl (e1 _ _ go) (gl_one (gp_gi gi_pow)) (by rw [List.length_map, List.length_singleton]; omega)) (by rw [List.map_append]; rfl)) h1' (or_big io))
    gys_nil)))))) (by decide) fun a2 x2 H2 e2 n2 g2 l2 p2 => ?_⟩
  refine ⟨a1, a2, x1, x2, rfl, rfl, e2 _ _ g1, g2, by rw [l1, l2]; decide, fun a n3 => ?_⟩
  have e3 := same_new n3 (.lst (x1 ++ x2))
  have S3 : Sl K p POr a (upd H2 a (.lst (x1 ++ x2))) (x1 ++ x2) := .new n3 fun v hv => (List.mem_append.mp hv).elim (fun h => (p1 v h).sm e2) (p2 v)
  have e03 := (e1.trans e2).trans e3
  have na : H a = none := (e1.trans e2).free n3
  have ap : a ≠ p := ne_pp h0 na
  have opa : op ≠ a := ne_of_none go na
  have lx : (x1 ++ x2).length = 22 := by rw [List.length_append, l1, l2]
  generalize upd H2 a (.lst (x1 ++ x2)) = H3 at *
  generalize x1 ++ x2 = xs at *
  have w3 := e03 _ _ hw
  have go3 := e03 _ _ go
  dsimp only [gName]
  refine ⟨_, rfl, (by show 0 ≤ sizeLine; decide), fun ep nB => ?_⟩
  have e4 := same_new nB (.lst [])
  refine ⟨.list (ns.map PyData.int), .list (([] : List Int).map PyData.int), dp_ints (SqL.of (e4 _ _ go3)), dp_ints (SqL.of (new_at nB _)), shaped_ints _, shaped_ints _, _, rfl, ?_⟩
  rw [eqv_ints]
  have S4 := S3.step (same_but e4) ap
  have w4 := e4 _ _ w3
  have go4 := e4 _ _ go3
  have e04 := e03.trans e4
  generalize upd H3 ep (.lst []) = H4 at *
  by_cases zn : ns = []
  · rw [decide_eq_true zn]
    exact itF rfl (hT a xs none none none H4 (Same.but e04) ⟨_, _, w4⟩ go4 na ap (by omega) S4)
  rw [decide_eq_false zn]
  have npos : 0 < ns.length := List.length_pos_iff.mpr zn
  refine itT rfl ⟨_, rfl, _, rfl, p, _, _, _, rfl, w4, by omega, by omega, fun at_ z5 y5 H5 a0 a1 s5 w5 => ?_⟩
  obtain ⟨i, rfl⟩ := Int.eq_ofNat_of_zero_le a0
  have il : i < ns.length := by omega
  have go5 := s5 _ _ opp go4
  have S5 := S4.step s5 ap
  have c05 : SameBut p H H5 := SameBut.trans (Same.but e04) s5
  refine ⟨_, rfl, _, rfl, op, _, _, .int ns[i], rfl, rfl, SqL.of go5, atI_nat (by rw [List.getElem?_map, List.getElem?_eq_getElem il]; rfl), ?_⟩
  obtain ⟨o, ho⟩ : ∃ o, o = ns[i] := ⟨_, rfl⟩
  have o0 := rg _ (List.getElem_mem il)
  have om := io.mem.mp (List.getElem_mem il)
  rw [← ho]
  rw [← ho] at o0 om
  dsimp only [gName]
  have hw0 : hide a H5 p ≠ none := by rw [hide_ne ap.symm]; exact well_ne ⟨_, _, w5⟩
  refine ⟨a, _, na, S5.at_, (show GYs K p (fun d => NT.okS 2 d = true ∧ isOrdD (.list ((ns.take i).map PyData.int ++ [d] ++ (ns.drop (i + 1)).map PyData.int)) = false) (hide a H5) 8 _ _ from (gys_cons (gy_gx (d := .int (ns.length : Int)) (gx_int gi_var) hw0 ⟨ok2_int (by rw [p20]; omega) (by rw [p20]; omega), bad_at io il (by have := rg _ (List.getElem_mem il); omega)⟩)
    (gys_cons (gy_gx (d := .int (-1)) (gx_int (gi_neg gi_c)) hw0 ⟨by decide +kernel, bad_at io il (by have := rg _ (List.getElem_mem il); omega)⟩)
    (gys_cons (gy_gx (d := .none) gx_non hw0 ⟨by decide +kernel, bad_nw rfl⟩)
    (gys_cons (by
      intro H2 Q2 e2 q2
      refine ⟨_, rfl, o, rfl, Nat.lt_of_le_of_lt (log_le (show o.natAbs ≤ 63 by omega)) (by decide), ?_⟩
      exact q2 _ H2 (Same.refl _) ⟨.str (toString o), fun _ _ => .dp (.str _), str_o (by omega) (by omega), bad_nw rfl⟩)
    (gys_cons (gy_gx (d := .list [.int o]) (gx_lst (gxs_cons (gx_int gi_var) gxs_nil)) hw0 ⟨(l1_ok (by omega) (by omega)).1, bad_nw rfl⟩)
    (gys_cons (gy_gx (d := .tuple [.int o]) (gx_tup (gxs_cons (gx_int gi_var) gxs_nil)) hw0 ⟨(l1_ok (by omega) (by omega)).2, bad_nw rfl⟩)
    (gys_cons (by
      intro H2 Q2 e2 q2
      refine ⟨_, rfl, _, _, rfl, rfl, _, rfl, ?_⟩
      have fin : ∀ j : Int, -100 ≤ j → j ≤ 100 → j ≠ ns[i] → Q2 (.int j) H2 := fun j j0 j1 jn => q2 _ H2 (Same.refl _) ⟨.int j, fun _ _ => .dp (.int _), ok2_int (by rw [p20]; omega) (by rw [p20]; omega), bad_at io il jn⟩
      by_cases c : 1 < ns.length
      · refine itT (decide_eq_true (by omega)) ?_
        obtain ⟨k, kl, hk, kn⟩ := prev_ix io c il
        refine ⟨_, rfl, _, rfl, _, _, rfl, rfl, op, _, _, .int ns[k], rfl, rfl, SqL.of (e2 _ _ (by rw [hide_ne opa]; exact go5)), hk, fin _ (by have := rg _ (List.getElem_mem kl); omega) (by have := rg _ (List.getElem_mem kl); omega) kn⟩
      · exact itF (decide_eq_false (by omega)) (fin 1 (by omega) (by omega) (by have := io.mem.mp (List.getElem_mem il); omega)))
    (gys_cons (gy_gx (d := .int (o + 10 ^ (29 : Int).toNat)) (gx_int (gi_add gi_var gi_pow)) hw0 ⟨o29_ok (by omega) (by omega), bad_at io il (by rw [e29]; omega)⟩)
    gys_nil))))))))) (hide a H5) _ (Same.refl _) fun vs H6 e6 l6 p6 => fun n6 => ⟨by rw [l6]; decide, fun la n7 => ?_⟩⟩
  have S6 : Sl K p POr a (upd H6 a (.lst xs)) xs := .new n6 fun v hv => (S5.each v hv).sm e6
  have e7 := same_new n7 (.lst vs)
  have gla := new_at n7 (.lst vs)
  have S7 := S6.step (same_but e7) ap
  have laa : la ≠ a := fun e => by rw [e, upd_same] at n7; cases n7
  have k67 : Same H6 (hide a (upd (upd H6 a (.lst xs)) la (.lst vs))) := fun b u h => by
    have nb := ne_of_none h n6
    rw [hide_ne nb]
    exact e7 _ _ (by rw [upd_ne nb]; exact h)
  have k57 : Same (hide a H5) (hide a (upd (upd H6 a (.lst xs)) la (.lst vs))) := e6.trans k67
  have p7 : ∀ v ∈ vs, PX K p _ (hide a (upd (upd H6 a (.lst xs)) la (.lst vs))) v := fun v hv => (p6 v hv).sm k67
  generalize upd (upd H6 a (.lst xs)) la (.lst vs) = H7 at *
  have O7 : OrdSt K p op ns H a xs H7 := ⟨na, ap, opa, fun b u nb h => by
    have nba := ne_of_none h na
    have := k57 b u (by rw [hide_ne nba]; exact c05 b u nb h)
    rwa [hide_ne nba] at this, ⟨z5, y5, by have := k57 p _ (by rw [hide_ne ap.symm]; exact w5); rwa [hide_ne ap.symm] at this⟩, by have := k57 op _ (by rw [hide_ne opa]; exact go5); rwa [hide_ne opa] at this, S7⟩
  refine ⟨la, rfl, ⟨_, SqL.of gla⟩, for_list (K := K) (a := la) (xs := vs) (fun k σ H' => ∃ xs', OrdSt K p op ns H a xs' H' ∧ xs'.length = 22 + k ∧ Same (hide a H7) (hide a H') ∧ ∃ v6, σ = [some (.ref p), some (.ref op), some (.int (ns.length : Int)), some (.ref a), some (.int (i : Int)), some (.int o), v6, none, none, none, none, none, none, none])
    ⟨xs, O7, by omega, Same.refl _, _, rfl⟩ (fun k σ H' _ ⟨_, _, _, e, _⟩ => SqL.of (by have := e la _ (by rw [hide_ne laa]; exact gla); rwa [hide_ne laa] at this)) ?_ ?_⟩
  · rintro k v σ HX hv ⟨xs', OX, lxx, eX, v6, rfl⟩
    have hk : k < 8 := by have := (List.getElem?_eq_some_iff.mp hv).1; omega
    have gop : hide a HX op = some (.lst (ns.map V.int)) := by rw [hide_ne opa]; exact OX.go
    obtain ⟨zX, yX, wX⟩ := OX.well
    refine ⟨_, rfl, .inl ⟨rfl, _, SqL.of OX.sl.at_⟩, a, _, na, OX.sl.at_, (gl_cat (gl_cat (gl_to rfl (SqL.of gop) gi_var (by rw [List.length_map]; omega)) (gl_one gp_var) (by rw [List.length_take, List.length_map, List.length_singleton]; omega)) (gl_from (i := i + 1) rfl (SqL.of gop) (gi_cast (gi_add gi_var gi_c) rfl) (by rw [List.length_map]; omega)) (by rw [List.length_append, List.length_take, List.length_drop, List.length_map, List.length_singleton]; omega)) (hide a HX) _ (Same.refl _) fun r HY eY nY gY => fun nYa => ?_⟩
    refine ⟨a, _, _, rfl, rfl, upd_same, Nat.lt_of_le_of_lt (show xs'.length ≤ 64 by omega) (by decide), ?_⟩
    have rp : r ≠ p := fun e => by rw [e, hide_ne ap.symm, wX] at nY; cases nY
    refine ⟨_, OX.app eY nYa (px_cat io gY rp ((p7 v (List.mem_of_getElem? hv)).sm (eX.trans eY))), by rw [List.length_append, lxx]; rfl, ?_, _, rfl⟩
    rw [hide_upd2 nYa]
    exact eX.trans eY
  rintro σ H8 ⟨xs', O8, lx8, e8, v6, rfl⟩
  rw [l6] at lx8
  have go8 := O8.go
  obtain ⟨z8, y8, w8⟩ := O8.well
  have hw8 : H8 p ≠ none := well_ne O8.well
  have in3 : ∀ x ∈ ns.take i ++ [o] ++ ns.drop i, 0 ≤ x ∧ x < 40 ∧ x < ns.length := fun x hx => by
    rcases List.mem_append.mp hx with h | h
    · rcases List.mem_append.mp h with h | h
      · have := io.mem.mp (List.mem_of_mem_take h); have := rg _ (List.mem_of_mem_take h); omega
      · rw [List.mem_singleton.mp h]; omega
    · have := io.mem.mp (List.mem_of_mem_drop h); have := rg _ (List.mem_of_mem_drop h); omega
  have in3' : ∀ x ∈ ns.take i ++ [o] ++ ns.drop i, x < ns.length := fun x hx => (in3 x hx).2.2
  refine ⟨_, rfl, gy_list (K := K) (pp := p) (P := POr) (n := 2) (H := H8) (gys_cons (gy_gl (gl_eq (zs := ns ++ [o]) (gl_var rfl go8 (gl_one (gp_gi gi_var)) (by rw [List.length_map, List.length_singleton]; omega)) (by rw [List.map_append]; rfl)) hw8 (or_ints (by rw [List.length_append, List.length_singleton]; omega) (fun x hx => (List.mem_append.mp hx).elim (fun h => by have := rg x h; omega) (fun h => by rw [List.mem_singleton.mp h]; omega)) (bad_miss (n := ns.length) (by rw [List.length_append, List.length_singleton]) fun x hx => (List.mem_append.mp hx).elim (fun h => by have := io.mem.mp h; omega) (fun h => by rw [List.mem_singleton.mp h]; omega))))
    (gys_cons (gy_gl (gl_eq (zs := ns.take i ++ [o] ++ ns.drop i) (gl_cat (gl_cat (gl_to rfl (SqL.of go8) gi_var (by rw [List.length_map]; omega)) (gl_one (gp_gi gi_var)) (by rw [List.length_take, List.length_map, List.length_singleton]; omega)) (gl_from rfl (SqL.of go8) gi_var (by rw [List.length_map]; omega)) (by rw [List.length_append, List.length_take, List.length_drop, List.length_map, List.length_singleton]; omega)) (by rw [List.map_append, List.map_append, List.map_take, List.map_drop]; rfl)) hw8 (or_ints (by rw [List.length_append, List.length_append, List.length_take, List.length_drop, List.length_singleton]; omega) (fun x hx => by have := in3 x hx; omega) (bad_miss (n := ns.length) (by rw [List.length_append, List.length_append, List.length_take, List.length_drop, List.length_singleton]; omega) in3')))
    gys_nil)) (by decide) fun aA xA HA eA nA gA lA pA => ?_⟩
  refine ⟨a, aA, xs', xA, rfl, rfl, eA _ _ O8.sl.at_, gA, by rw [lx8, lA]; decide, fun aB nB => ?_⟩
  have eB := same_new nB (.lst (xs' ++ xA))
  have SB : Sl K p POr aB (upd HA aB (.lst (xs' ++ xA))) (xs' ++ xA) := .new nB fun v hv => (List.mem_append.mp hv).elim (fun h => (O8.sl.px v h).sm eA) (pA v)
  have wA := eA _ _ w8
  have aBp : aB ≠ p := (ne_of_none wA nB).symm
  have naB : H aB = none := freeB (SameBut.then O8.but eA) aBp nB
  have OB : OrdSt K p op ns H aB (xs' ++ xA) (upd HA aB (.lst (xs' ++ xA))) := ⟨naB, aBp, ne_of_none go naB, SameBut.then (SameBut.then O8.but eA) eB, ⟨_, _, eB _ _ wA⟩, eB _ _ (eA _ _ go8), SB⟩
  have lB : (xs' ++ xA).length = 32 := by rw [List.length_append, lx8, lA]
  generalize upd HA aB (.lst (xs' ++ xA)) = HB at *
  generalize xs' ++ xA = xB at *
  refine ⟨aB, xB, i, il, v6, by rw [ho]; rfl, OB, by omega, fun xC HC OC lC => ?_⟩
  refine ⟨aB, xC, i, il, v6, by rw [ho]; rfl, OC, by omega, fun xD HD OD lD => ?_⟩
  exact hT aB xD _ _ _ HD OD.but OD.well OD.go OD.free OD.ne (by omega) OD.sl
end
end K51
set_option Elab.async false
set_option linter.all false
set_option maxRecDepth 100000
namespace NV
open PySem PySem.Spec PyProof.Rows L2 NP NT NG NU
theorem parts_o {ns : List Int} (h : ∀ i ∈ ns, 0 ≤ i ∧ i < 100) : (partsOf (textO ns) " ").map valW = ns := by
  by_cases hn : ns = []
  · subst hn
    show (partsOf (textO []) " ").map valW = []
    have : textO [] = "none" := if_pos rfl
    rw [this]
    unfold partsOf
    rw [if_pos rfl]
    rfl
  · unfold partsOf
    rw [if_neg (text_none hn fun i hi => (h i hi).1), split_o hn fun i hi => (h i hi).1]
    exact vals_num h
theorem textO_inj {ns ms : List Int} (h : IsOrd ns) (h2 : IsOrd ms) : textO ns = textO ms ↔ ns = ms := ⟨fun e => by rw [← parts_o (ord_small h), e, parts_o (ord_small h2)], fun e => by rw [e]⟩
theorem lay_lr (l r : Int) : (PyData.tuple [.int l, .int r]).canLay0 = true := by simp [PyData.canLay0, PyData.canLayAll0]
theorem eqv_lr (l r : Int) : PyData.eqv (.tuple [.int l, .int r]) (.tuple [.int l, .int r]) = true := SeqAt.eqv_refl _ (lay_lr l r)
theorem shaped_lr (l r : Int) : SeqAt.shaped (.tuple [.int l, .int r]) = true := by simp [SeqAt.shaped, PyData.canLay0, PyData.canLayAll0, PyData.depth, PyData.depthAll]
theorem dp_lr {K : PySem.W.Frag} {H : Hp} {a : Addr} {l r : Int} (h : SqT K H a [.int l, .int r]) : Dp K H (.ref a) (.tuple [.int l, .int r]) := .tup h (.cons (.int _) (.cons (.int _) .nil))
theorem shows_lr {l r : Int} (l0 : 0 ≤ l) (l1 : l ≤ 3) (r0 : 0 ≤ r) (r1 : r ≤ 3) : Shows (.tuple [.int l, .int r]) := by
  have a1 : NT.okS 2 (.int l) = true := ok2_int (by rw [p20]; omega) (by rw [p20]; omega)
  have a2 : NT.okS 2 (.int r) = true := ok2_int (by rw [p20]; omega) (by rw [p20]; omega)
  exact shows_2t (fun d hd => by
    simp only [List.mem_cons, List.not_mem_nil, or_false] at hd
    rcases hd with rfl | rfl
    · exact a1
    · exact a2) (by show 2 ≤ 200; decide)
theorem ok_of {us ws : List (Wsh × Addr)} (e : us.map (·.1) = ws.map (·.1)) (ok : ∀ u ∈ ws, OkW 99 u.1) {u : Wsh × Addr} (hu : u ∈ us) : OkW 99 u.1 := by
  have : u.1 ∈ us.map (·.1) := List.mem_map_of_mem hu
  rw [e] at this
  obtain ⟨v, hv, e2⟩ := List.mem_map.mp this
  rw [← e2]
  exact ok v hv
end NV
namespace K51
open PySem PySem.Spec PyProof.Rows L2 NP NT NV NN NK NQ NG NU
section
variable {P : Program} {w : World} {K : PySem.W.Frag} {mg : Str → Option Value} {base : Heap} {f g : Addr} {fd gd : FuncData}
abbrev nLw : List Str := ["script", "cell", "well", "order", "other", "wishes", "reach", "way", "some", "text", "most", "thing"]
theorem scLaw : FnScope nLw ["script"] (defScope sLaw) := ⟨rfl, rfl, rfl, by decide +kernel, rfl, by decide +kernel, by decide +kernel⟩
set_option maxHeartbeats 16000000 in
theorem ok_law {c1 c2 c3 c4 c5 TO TR T T2 TN gW gD gL gLW gNo gNr gNw gSa gOt gRo gRt gRr gWt gRw : Addr} {dW dD dL dLW dNo dNr dNw dSa dOt dRo dRt dRr dWt dRw : FuncData} (F : Fun K "law" "law" sLaw f fd) (M : Mg2 mg) (nT : T ≠ T2)
    (W : FnOk P w K mg base CX0 1 gW dW ["cell"] NP.spWell2) (bW : Binds K dW ["cell"] []) (kW : PySem.W.keepIn K (.ref gW) = true) (mW : mg "_law_well" = some (.ref gW))
    (D : FnOk P w K mg base CX0 1 gD dD ["well", "many"] NP.spDraw2) (bD : Binds K dD ["well", "many"] []) (kD : PySem.W.keepIn K (.ref gD) = true) (mD : mg "_law_draw" = some (.ref gD))
    (L : FnOk P w K mg base CX0 2 gL dL ["well", "most"] (spOrderN K)) (bL : Binds K dL ["well", "most"] []) (kL : PySem.W.keepIn K (.ref gL) = true) (mL : mg "_law_order" = some (.ref gL))
    (LW : FnOk P w K mg base CX0 2 gLW dLW ["well", "most"] (spWishesN K)) (bLW : Binds K dLW ["well", "most"] []) (kLW : PySem.W.keepIn K (.ref gLW) = true) (mLW : mg "_law_wishes" = some (.ref gLW))
    (No : FnOk P w K mg base CX0 12 gNo dNo ["well", "order"] (spNoOrders K)) (bNo : Binds K dNo ["well", "order"] []) (kNo : PySem.W.keepIn K (.ref gNo) = true) (mNo : mg "_law_no_orders" = some (.ref gNo))
    (Nr : FnOk P w K mg base CX0 2 gNr dNr ["well"] (spNoReaches K)) (bNr : Binds K dNr ["well"] []) (kNr : PySem.W.keepIn K (.ref gNr) = true) (mNr : mg "_law_no_reaches" = some (.ref gNr))
    (Nw : FnOk P w K mg base CX0 12 gNw dNw ["well", "wishes"] (spNoWishesL K)) (bNw : Binds K dNw ["well", "wishes"] []) (kNw : PySem.W.keepIn K (.ref gNw) = true) (mNw : mg "_law_no_wishes" = some (.ref gNw))
    (Sa : FnOk P w K mg base CX0 17 gSa dSa ["way", "thing"] (spSaid K TO TR T T2)) (bSa : Binds K dSa ["way", "thing"] []) (kSa : PySem.W.keepIn K (.ref gSa) = true) (mSa : mg "_law_said" = some (.ref gSa))
    (Ot : FnOk P w K mg base CX0 15 gOt dOt ["order"] (spOText K TO)) (bOt : Binds K dOt ["order"] []) (kOt : PySem.W.keepIn K (.ref gOt) = true) (mOt : mg "order_text" = some (.ref gOt))
    (Ro : FnOk P w K mg base CX0 14 gRo dRo ["text"] (spReadO TN TO)) (bRo : Binds K dRo ["text"] []) (kRo : PySem.W.keepIn K (.ref gRo) = true) (mRo : mg "read_order" = some (.ref gRo))
    (Rt : FnOk P w K mg base CX0 15 gRt dRt ["reach"] (spRText K TR)) (bRt : Binds K dRt ["reach"] []) (kRt : PySem.W.keepIn K (.ref gRt) = true) (mRt : mg "reach_text" = some (.ref gRt))
    (Rr : FnOk P w K mg base CX0 14 gRr dRr ["text"] (spReadR TN TR)) (bRr : Binds K dRr ["text"] []) (kRr : PySem.W.keepIn K (.ref gRr) = true) (mRr : mg "read_reach" = some (.ref gRr))
    (Wt : FnOk P w K mg base CX0 16 gWt dWt ["wishes"] (spWsText K T T2)) (bWt : Binds K dWt ["wishes"] []) (kWt : PySem.W.keepIn K (.ref gWt) = true) (mWt : mg "wishes_text" = some (.ref gWt))
    (Rw : FnOk P w K mg base CX0 15 gRw dRw ["text"] (spReadWs T T2 TN)) (bRw : Binds K dRw ["text"] []) (kRw : PySem.W.keepIn K (.ref gRw) = true) (mRw : mg "read_wishes" = some (.ref gRw)) :
    FnOk P w K mg base CX0 20 f fd ["script"] (spLaw K [(c1, TO), (c2, TR), (c3, T2), (c4, T), (c5, TN)]) := by
  refine fnJ F scLaw (fun vs H Q E h => ?_) (fun cdv A outer s H vs Q E gp hcl hr h => ?_)
  · obtain ⟨a, ns, rfl, _⟩ := h
    rfl
  obtain ⟨a, cells, rfl, hS, hlen, hTs, q⟩ := h
  have hTO : H TO = some (TabP TO) := hTs (c1, TO) (.head _)
  have hTR : H TR = some (TabP TR) := hTs (c2, TR) (.tail _ (.head _))
  have hT2 : H T2 = some (TabP T2) := hTs (c3, T2) (.tail _ (.tail _ (.head _)))
  have hT : H T = some (TabP T) := hTs (c4, T) (.tail _ (.tail _ (.tail _ (.head _))))
  have hTN : H TN = some (TabP TN) := hTs (c5, TN) (.tail _ (.tail _ (.tail _ (.tail _ (.head _)))))
  have hr1 : Room 1 _ := hr.mono (by decide)
  have hr2 : Room 2 _ := hr.mono (by decide)
  have hr12 : Room 12 _ := hr.mono (by decide)
  have hr14 : Room 14 _ := hr.mono (by decide)
  have hr15 : Room 15 _ := hr.mono (by decide)
  have hr16 : Room 16 _ := hr.mono (by decide)
  have hr17 : Room 17 _ := hr.mono (by decide)
  have hc1 : L2.Cl 1 gp := L2.Cl.mono hcl (by decide)
  have hc2 : L2.Cl 2 gp := L2.Cl.mono hcl (by decide)
  have hc12 : L2.Cl 12 gp := L2.Cl.mono hcl (by decide)
  have hc14 : L2.Cl 14 gp := L2.Cl.mono hcl (by decide)
  have hc15 : L2.Cl 15 gp := L2.Cl.mono hcl (by decide)
  have hc16 : L2.Cl 16 gp := L2.Cl.mono hcl (by decide)
  have hc17 : L2.Cl 17 gp := L2.Cl.mono hcl (by decide)
  refine ⟨_, jb_cons (js_for PassesOwn.never rfl (ji_list (je_op op_cat (je_lst (ji_ (ji_ ja0))) (je_slice sl_list (jv 0) jo_none (jo_some je_int)))) (jg_name (i := 1) scLaw.nd rfl (Or.inl rfl))
      (jb_cons (js_set (i := 2) scLaw.nd rfl (by first | exact Or.inl rfl | exact Or.inr rfl) (je_call W hr1 rfl mW kW bW .nil pass0 (jn (jv 1) ja0)))
      (jb_cons (js_asg (je_lc (own := [("most", 10)]) (g := gName 10) rfl scLaw.nd (ji_tup (je_tup (ji_ (ji_ ja0)))) (blkOk_by (own := [("most", 10)]) (N := nLw) (sc := defScope sLaw) (by decide +kernel))
          (fun _ _ _ _ _ => jg_name (i := 10) scLaw.nd rfl (Or.inl rfl)) (fun _ _ _ _ _ => jts_nil) (fun _ _ _ _ _ => je_call L hr2 rfl mL kL bL .nil pass0 (jn (jv 2) (jn (jv 10) ja0))))
          (NW.jg_tupL rfl (jgs_cons (jg_name (i := 3) scLaw.nd rfl (Or.inl rfl)) (jgs_cons (jg_name (i := 4) scLaw.nd rfl (Or.inl rfl)) jgs_nil))))
      (jb_cons (js_set (i := 5) scLaw.nd rfl (Or.inl rfl) (je_call LW hr2 rfl mLW kLW bLW .nil pass0 (jn (jv 2) (ji_ ja0))))
      (jb_cons (js_set (i := 6) scLaw.nd rfl (Or.inl rfl) (je_tup (jCa (je_call D hr1 rfl mD kD bD .nil pass0 (jn (jv 2) (ji_ ja0))) (jCa (je_call D hr1 rfl mD kD bD .nil pass0 (jn (jv 2) (ji_ ja0))) ja0))))
      (jb_cons (js_for PassesOwn.never rfl (ji_enum rfl M.enumerate (jLi (je_lst (jCa (je_call No hr12 rfl mNo kNo bNo .nil pass0 (jn (jv 2) (jn (jv 3) ja0))) (jCa (je_call Nr hr2 rfl mNr kNr bNr .nil pass0 (jn (jv 2) ja0)) (jCa (je_call Nw hr12 rfl mNw kNw bNw .nil pass0 (jn (jv 2) (jn (jv 5) ja0))) ja0)))) ja0))
          (jg_tup rfl (jgs_cons (jg_name (i := 7) scLaw.nd rfl (by first | exact Or.inl rfl | exact Or.inr rfl)) (jgs_cons (jg_name (i := 8) scLaw.nd rfl (Or.inl rfl)) jgs_nil)))
        (jb_one (js_if (jt_cmp (op_neD hr.units) (je_lc (own := [("thing", 11)]) (g := gName 11) rfl scLaw.nd (ji_list (jv 8)) (blkOk_by (own := [("thing", 11)]) (N := nLw) (sc := defScope sLaw) (by decide +kernel))
            (fun _ _ _ _ _ => jg_name (i := 11) scLaw.nd rfl (Or.inl rfl)) (fun _ _ _ _ _ => jts_one (jt_cmp op_ne (je_call Sa hr17 rfl mSa kSa bSa .nil pass0 (jn (jv 7) (jn (jv 11) ja0))) (je_ix (NT.ix_listK (K := K) rfl) (je_lst (jc je_str (jc je_str (jc je_str ja0)))) (jv 7) (fun _ _ => rfl)) (nomark _)))
            (fun _ _ _ _ _ => jv 11)) (je_lst ja0) (nomark _)) jb_never jb_nil)))
      (jb_cons (js_if (jt_w (jw_or (jt_cmp (op_neD hr.units) (je_call Ro hr14 rfl mRo kRo bRo .nil pass0 (jCa (je_call Ot hr15 rfl mOt kOt bOt .nil pass0 (jn (jv 3) ja0)) ja0)) (jv 3) (nomark _))
          (jw_or1 (jt_cmp op_ne (je_cmp op_eq (je_call Ot hr15 rfl mOt kOt bOt .nil pass0 (jn (jv 4) ja0)) (je_call Ot hr15 rfl mOt kOt bOt .nil pass0 (jn (jv 3) ja0)) (nomark _)) (je_cmp (op_eqD hr.units) (jv 4) (jv 3) (nomark _)) (nomark _))))) jb_never jb_nil)
      (jb_cons (js_set (i := 9) scLaw.nd rfl (Or.inl rfl) (je_call Wt hr16 rfl mWt kWt bWt .nil pass0 (jn (jv 5) ja0)))
      (jb_cons (js_if (jt_w (jw_or (jt_cmp (op_neD hr.units) (je_call Rw hr15 rfl mRw kRw bRw .nil pass0 (jn (jv 9) ja0)) (jv 5) (nomark _))
          (jw_or1 (jt_cmp op_ne (je_call Wt hr16 rfl mWt kWt bWt .nil pass0 (jCa (je_call Rw hr15 rfl mRw kRw bRw .nil pass0 (jn (jv 9) ja0)) ja0)) (jv 9) (nomark _))))) jb_never jb_nil)
      (jb_one (js_if (jt_w (jw_or (jt_cmp (op_neD hr.units) (je_call Rr hr14 rfl mRr kRr bRr .nil pass0 (jCa (je_call Rt hr15 rfl mRt kRt bRt .nil pass0 (jn (jv 6) ja0)) ja0)) (jv 6) (nomark _))
          (jw_or1 (jt_cmp op_ne (je_call Sa hr17 rfl mSa kSa bSa .nil pass0 (ji_ (jn (jv 6) ja0))) je_str (nomark _))))) jb_never jb_nil)))))))))))
    (jb_one (js_ret je_bl)), ?_⟩
  refine ⟨(by show 2 ≤ sizeLine; decide), fun p1 q2 => ?_⟩
  have e2 := same_new q2 (.lst [.int 0, .int 5])
  have g2 := new_at q2 (.lst [.int 0, .int 5])
  refine ⟨_, rfl, 6, rfl, a, _, rfl, e2.seq hS, fun p2 q3 => ?_⟩
  have e3 := same_new q3 (.lst (cutV (cells.map V.int) none (some 6)))
  have g3 := new_at q3 (.lst (cutV (cells.map V.int) none (some 6)))
  have lc : (cutV (cells.map V.int) none (some 6)).length ≤ 63 := Nat.le_trans (cutV_length _ _ _) (by rw [List.length_map]; exact hlen)
  refine ⟨p1, p2, _, _, rfl, rfl, e3 _ _ g2, g3, Nat.le_trans (Nat.add_le_add_left lc _) (by show 65 ≤ sizeLine; decide), fun p3 q4 => ?_⟩
  have e4 := same_new q4 (.lst ([.int 0, .int 5] ++ cutV (cells.map V.int) none (some 6)))
  have g4 := new_at q4 (.lst ([.int 0, .int 5] ++ cutV (cells.map V.int) none (some 6)))
  have e14 := (e2.trans e3).trans e4
  refine ⟨p3, rfl, ⟨_, SqL.of g4⟩, for_list (K := K) (a := p3) (xs := [.int 0, .int 5] ++ cutV (cells.map V.int) none (some 6)) (fun i σ H' => Same H H' ∧ H' p3 = some (.lst ([.int 0, .int 5] ++ cutV (cells.map V.int) none (some 6))) ∧ ∃ v1 v2 v3 v4 v5 v6 v7 v8 v9, σ = [some (.ref a), v1, v2, v3, v4, v5, v6, v7, v8, v9, none, none])
    ⟨e14, g4, _, _, _, _, _, _, _, _, _, rfl⟩ (fun i σ H' _ ⟨_, g, _⟩ => SqL.of g) ?_ ?_⟩
  · rintro i y σ H5 hy ⟨s5, g5, v1, v2, v3, v4, v5, v6, v7, v8, v9, rfl⟩
    obtain ⟨z, rfl⟩ : ∃ z : Int, y = .int z := by
      have hm := List.mem_of_getElem? hy
      rcases List.mem_append.mp hm with h | h
      · rcases List.mem_cons.mp h with h | h
        · exact ⟨0, h⟩
        · exact ⟨5, List.mem_singleton.mp h⟩
      · exact cut_ints h
    refine ⟨_, rfl, z, rfl, fun x1 x2 wp H6 e6 w6 n6 => ?_⟩
    have nw : ∀ {U : Addr} {u : HO}, H5 U = some u → U ≠ wp := fun h => ne_of_none h n6
    -- two orders
    refine ⟨(by show 2 ≤ sizeLine; decide), fun ta n7 => ?_⟩
    have e7 := same_new n7 (.tup [.int 40, .int 3])
    have g7 := new_at n7 (.tup [.int 40, .int 3])
    have taw : ta ≠ wp := (ne_of_none w6 n7).symm
    have w7 := e7 _ _ w6
    refine ⟨ta, rfl, ⟨_, SqT.of g7⟩, fun D nD => ?_⟩
    have s57 : Same H5 (upd H6 ta (.tup [.int 40, .int 3])) := e6.trans e7
    generalize upd H6 ta (.tup [.int 40, .int 3]) = H7 at *
    have Dw : D ≠ wp := (ne_of_none w7 nD).symm
    have eD := same_new nD (.lst [])
    refine lc_tup (K := K) (a := ta) (xs := [.int 40, .int 3]) (fun j H' => SameBut wp H7 H' ∧ WellAt H' wp ∧ ∃ acc : List (Addr × List Int), H' D = some (.lst (acc.map fun q => V.ref q.1)) ∧ acc.length = j ∧ ∀ q ∈ acc, IsOrd q.2 ∧ H' q.1 = some (.lst (q.2.map V.int)) ∧ q.1 ≠ D ∧ q.1 ≠ wp)
      ⟨Same.but eD, ⟨_, _, eD _ _ w7⟩, [], upd_same, rfl, fun q hq => nomatch hq⟩ (fun j H' _ ⟨c, _⟩ => SqT.of (c _ _ taw g7)) ?_ ?_
    · rintro j x H8 hx ⟨c8, ⟨z8, y8, w8⟩, acc, gD, lac, hac⟩
      have hj : j < 2 := (List.getElem?_eq_some_iff.mp hx).1
      obtain ⟨mo, rfl, m0, m1⟩ : ∃ mo : Int, x = .int mo ∧ 0 ≤ mo ∧ mo ≤ 40 := by
        have := List.mem_of_getElem? hx
        simp only [List.mem_cons, List.not_mem_nil, or_false] at this
        rcases this with h | h
        · exact ⟨40, h, by decide, by decide⟩
        · exact ⟨3, h, by decide, by decide⟩
      refine ⟨rfl, ?_⟩
      refine ⟨_, rfl, _, rfl, wp, mo, z8, y8, rfl, m0, m1, w8, fun ns op z9 y9 H9 io s9 w9 n9 g9 => ?_⟩
      have g9D := s9 _ _ Dw gD
      have opD : op ≠ D := fun e => by rw [e, gD] at n9; cases n9
      have opw : op ≠ wp := fun e => by rw [e, w8] at n9; cases n9
      refine ⟨_, g9D, by rw [List.length_map, lac]; exact Nat.lt_of_lt_of_le hj (by decide), fun b o nb h => ?_, ⟨z9, y9, by rw [upd_ne Dw.symm]; exact w9⟩, acc ++ [(op, ns)], by rw [upd_same, List.map_append]; rfl, by rw [List.length_append, lac]; rfl, fun u hu => ?_⟩
      · rw [upd_ne (ne_of_none h nD)]
        exact s9 _ _ nb (c8 _ _ nb h)
      · rcases List.mem_append.mp hu with hu | hu
        · obtain ⟨h1, h2, h3, h4⟩ := hac u hu
          exact ⟨h1, by rw [upd_ne h3]; exact s9 _ _ h4 h2, h3, h4⟩
        · rw [List.mem_singleton.mp hu]
          exact ⟨io, by show upd H9 D _ op = _; rw [upd_ne opD]; exact g9, opD, opw⟩
    rintro H8 ⟨c8, ⟨z8, y8, w8⟩, acc, gD, lac, hac⟩
    obtain ⟨⟨op, ns⟩, ⟨tp, ms⟩, rfl⟩ : ∃ u v, acc = [u, v] := by
      match acc, lac with
      | [u, v], _ => exact ⟨u, v, rfl⟩
    obtain ⟨io, go, opD, opw⟩ := hac _ (.head _)
    obtain ⟨jo, gt, tpD, tpw⟩ := hac _ (.tail _ (.head _))
    simp only at io go opD opw jo gt tpD tpw
    refine ⟨D, _, rfl, SqL.of gD, rfl, _, _, rfl, _, _, rfl, rfl, ?_⟩
    have s58 : SameBut wp H5 H8 := SameBut.trans (Same.but s57) c8
    clear hac gD lac c8 eD nD Dw opD tpD
    -- wishes
    refine ⟨_, rfl, wp, 59, z8, y8, rfl, by decide, by decide, w8, fun ws wa z9 y9 H9 lw ok s9 w9 n9 g9 each => ?_⟩
    have l60 : ws.length ≤ 60 := by omega
    have go9 := s9 _ _ opw go
    have gt9 := s9 _ _ tpw gt
    have waw : wa ≠ wp := fun e => by rw [e, w8] at n9; cases n9
    have hws : ∀ u ∈ ws, OkW 99 u.1 ∧ H9 u.2 = some (.tup (wshV u.1)) ∧ u.2 ≠ wp := fun u hu => ⟨ok u hu, (each u hu).1, fun e => by have := (each u hu).2.1; rw [e, w8] at this; cases this⟩
    have s59 := SameBut.trans s58 s9
    clear each lw s58 go gt
    -- the reach
    refine ⟨_, rfl, wp, z9, y9, 4, rfl, w9, by decide, by decide, fun l zA yA HA l0 l1 sA wA => ?_⟩
    refine ⟨_, rfl, wp, zA, yA, 4, rfl, wA, by decide, by decide, fun r zB yB HB r0 r1 sB wB => ?_⟩
    refine ⟨(by show 2 ≤ sizeLine; decide), fun rp nC => ?_⟩
    have eC := same_new nC (.tup [.int l, .int r])
    have gC := new_at nC (.tup [.int l, .int r])
    have rpw : rp ≠ wp := (ne_of_none wB nC).symm
    have s9C : SameBut wp H9 _ := SameBut.then (SameBut.trans sA sB) eC
    have wC := eC _ _ wB
    generalize upd HB rp (.tup [.int l, .int r]) = HC at *
    have goC := s9C _ _ opw go9
    have gtC := s9C _ _ tpw gt9
    have gwC := s9C _ _ waw g9
    have hwsC : ∀ u ∈ ws, OkW 99 u.1 ∧ HC u.2 = some (.tup (wshV u.1)) ∧ u.2 ≠ wp := fun u hu => ⟨(hws u hu).1, s9C _ _ (hws u hu).2.2 (hws u hu).2.1, (hws u hu).2.2⟩
    have s5C := SameBut.trans s59 s9C
    clear hws s59 sA sB s9 s9C eC
    -- what are none
    refine ⟨_, rfl, _, rfl, wp, op, ns, rfl, ⟨_, _, wC⟩, opw, goC, io, fun aO HoX sO wO NO => ?_⟩
    refine ⟨_, rfl, wp, rfl, wO, fun aR HR sR wR NR => ?_⟩
    have sCR := SameBut.trans sO sR
    refine ⟨_, rfl, _, rfl, wp, wa, ws, rfl, wR, waw, sCR _ _ waw gwC, l60, fun u hu => ⟨(hwsC u hu).1, sCR _ _ (hwsC u hu).2.2 (hwsC u hu).2.1, (hwsC u hu).2.2⟩, fun aW HW sW wW NW => ?_⟩
    refine ⟨(by show 3 ≤ sizeLine; decide), fun lq nL => ?_⟩
    have eL := same_new nL (.lst [.ref aO, .ref aR, .ref aW])
    have gL := new_at nL (.lst [.ref aO, .ref aR, .ref aW])
    have sCL : SameBut wp HC _ := SameBut.then (SameBut.trans sCR sW) eL
    obtain ⟨_, aOw, xO, gO, _, PO⟩ := NO
    obtain ⟨_, aRw, xR, gR, _, PR⟩ := NR
    obtain ⟨_, aWw, xW, gW, _, PW⟩ := NW
    have gOL := (SameBut.then (SameBut.trans sR sW) eL) _ _ aOw gO
    have gRL := (SameBut.then sW eL) _ _ aRw gR
    have gWL := eL _ _ gW
    have POL : ∀ v ∈ xO, PX K wp POr _ v := fun v hv => (PO v hv).but (SameBut.then (SameBut.trans sR sW) eL)
    have PRL : ∀ v ∈ xR, PX K wp _ _ v := fun v hv => (PR v hv).but (SameBut.then sW eL)
    have PWL : ∀ v ∈ xW, PZ K wp PNw _ v := fun v hv => (PW v hv).same eL
    generalize upd HW lq (.lst [.ref aO, .ref aR, .ref aW]) = HL at *
    have goL := sCL _ _ opw goC
    have gtL := sCL _ _ tpw gtC
    have gwL := sCL _ _ waw gwC
    have hwsL : ∀ u ∈ ws, HL u.2 = some (.tup (wshV u.1)) := fun u hu => sCL _ _ (hwsC u hu).2.2 (hwsC u hu).2.1
    have okL : ∀ u ∈ ws, OkW 99 u.1 := fun u hu => (hwsC u hu).1
    have grL := sCL _ _ rpw gC
    have s5L : SameBut wp H5 HL := SameBut.trans s5C sCL
    have up : ∀ {U : Addr} {u : HO}, H U = some u → HL U = some u := fun h => s5L _ _ (nw (s5 _ _ h)) (s5 _ _ h)
    have s5L' : Same H5 HL := fun b o h => s5L _ _ (nw h) h
    clear sO sR sW PO PR PW gO gR gW eL sCR s5C sCL hwsC goC gtC gwC gC g9 go9 gt9 wR wO wB wA w9 w8 s57 w7 e7 g7 w6 e6 wC
    have uTO := up hTO
    have uTR := up hTR
    have uT := up hT
    have uT2 := up hT2
    have uTN := up hTN
    refine ⟨lq, _, rfl, SqL.of gL, for_enum (K := K) (a := lq) (xs := [.ref aO, .ref aR, .ref aW]) (fun k σ H' => Same HL H' ∧ ∃ u7 u8, σ = [some (.ref a), some (.int z), some (.ref wp), some (.ref op), some (.ref tp), some (.ref wa), some (.ref rp), u7, u8, v9, none, none])
      ⟨Same.refl _, _, _, rfl⟩ (fun k σ H' _ ⟨e, _⟩ => SqL.of (e _ _ gL)) ?_ ?_⟩
    · rintro k x σ HM T' hx ⟨eM, u7, u8, rfl⟩ nT'
      have eT := same_new nT' (.tup [.int ((k : Nat) : Int), x])
      have sM := eM.trans eT
      obtain ⟨ax, xs, wd, rfl, gx, hwd, hv⟩ : ∃ (ax : Addr) (xs : List V) (wd : Str), x = .ref ax ∧ HL ax = some (.lst xs) ∧ [V.str "NoOrder", V.str "NoReach", V.str "NoWishes"][k]? = some (.str wd) ∧
          ∀ v ∈ xs, ∀ H', Same HL H' → ∃ d, Zt K H' v d ∧ Shows d ∧ (((k : Int) = 0 ∧ Th K H' v d ∧ isOrdD d = false ∧ wd = "NoOrder") ∨ ((k : Int) = 1 ∧ Th K H' v d ∧ reachD d = false ∧ wd = "NoReach") ∨ ((k : Int) = 2 ∧ wishesDt 99 d = false ∧ wd = "NoWishes")) := by
        match k, hx with
        | 0, hx =>
          cases hx
          refine ⟨aO, xO, "NoOrder", rfl, gOL, rfl, fun v hv H' e => ?_⟩
          obtain ⟨d, td, p1, p2⟩ := POL v hv
          have t' := td H' (same_but e)
          exact ⟨d, .inl t', p2, .inl ⟨rfl, t', p1, rfl⟩⟩
        | 1, hx =>
          cases hx
          refine ⟨aR, xR, "NoReach", rfl, gRL, rfl, fun v hv H' e => ?_⟩
          obtain ⟨d, td, p1, p2⟩ := PRL v hv
          have t' := td H' (same_but e)
          exact ⟨d, .inl t', p2, .inr (.inl ⟨rfl, t', p1, rfl⟩)⟩
        | 2, hx =>
          cases hx
          refine ⟨aW, xW, "NoWishes", rfl, gWL, rfl, fun v hv H' e => ?_⟩
          obtain ⟨d, td, p1, p2⟩ := PWL v hv
          exact ⟨d, td H' (same_but e), p2, .inr (.inr ⟨rfl, p1, rfl⟩)⟩
      have hk : k < 3 := (List.getElem?_eq_some_iff.mp hwd).1
      refine ⟨T', _, rfl, SqT.of (new_at nT' _), rfl, _, _, rfl, _, _, rfl, rfl, ?_⟩
      generalize upd HM T' (.tup [.int ((k : Nat) : Int), .ref ax]) = HN at *
      refine ⟨_, rfl, ax, rfl, ⟨_, SqL.of (sM _ _ gx)⟩, fun D nD => ?_⟩
      have eD := same_new nD (.lst [])
      refine lc_list (K := K) (a := ax) (xs := xs) (fun j H' => Same HN H' ∧ H' D = some (.lst []))
        ⟨eD, upd_same⟩ (fun j H' _ ⟨e, _⟩ => SqL.of (e _ _ (sM _ _ gx))) ?_ ?_
      · rintro j v HP hvj ⟨eP, gD⟩
        have sP := sM.trans eP
        obtain ⟨d, zt, sd, hc⟩ := hv v (List.mem_of_getElem? hvj) HP sP
        refine ⟨rfl, ?_⟩
        have ap := Sa
        refine ⟨_, rfl, _, rfl, ((k : Nat) : Int), v, d, rfl, sP _ _ uTO, sP _ _ uTR, nT, sP _ _ uT, sP _ _ uT2, zt, sd, ?_⟩
        rcases hc with ⟨c1, c2, c3, rfl⟩ | ⟨c1, c2, c3, rfl⟩ | ⟨c1, c2, rfl⟩
        · refine .inl ⟨c1, c2, c3, fun H' e' => ⟨(by show 3 ≤ sizeLine; decide), fun l3 n3 => ⟨_, rfl, l3, _, ((k : Nat) : Int), _, rfl, rfl, SqL.of (new_at n3 _), atI_nat hwd, rfl, _, rfl, ?_⟩⟩⟩
          have ee := (eP.trans e').trans (same_new n3 (.lst [.str "NoOrder", .str "NoReach", .str "NoWishes"]))
          simp only [decide_true, Bool.not_true]
          exact ⟨ee, ((same_new n3 _) _ _ (e' _ _ gD))⟩
        · refine .inr (.inl ⟨c1, c2, c3, fun H' e' => ⟨(by show 3 ≤ sizeLine; decide), fun l3 n3 => ⟨_, rfl, l3, _, ((k : Nat) : Int), _, rfl, rfl, SqL.of (new_at n3 _), atI_nat hwd, rfl, _, rfl, ?_⟩⟩⟩)
          have ee := (eP.trans e').trans (same_new n3 (.lst [.str "NoOrder", .str "NoReach", .str "NoWishes"]))
          simp only [decide_true, Bool.not_true]
          exact ⟨ee, ((same_new n3 _) _ _ (e' _ _ gD))⟩
        · refine .inr (.inr (.inl ⟨c1, c2, fun H' e' => ⟨(by show 3 ≤ sizeLine; decide), fun l3 n3 => ⟨_, rfl, l3, _, ((k : Nat) : Int), _, rfl, rfl, SqL.of (new_at n3 _), atI_nat hwd, rfl, _, rfl, ?_⟩⟩⟩))
          have ee := (eP.trans e').trans (same_new n3 (.lst [.str "NoOrder", .str "NoReach", .str "NoWishes"]))
          simp only [decide_true, Bool.not_true]
          exact ⟨ee, ((same_new n3 _) _ _ (e' _ _ gD))⟩
      rintro HP ⟨eP, gD⟩
      refine ⟨(by show 0 ≤ sizeLine; decide), fun ep nE => ?_⟩
      have eE := same_new nE (.lst [])
      refine ⟨.list (([] : List Int).map PyData.int), .list (([] : List Int).map PyData.int), dp_ints (SqL.of (eE _ _ gD)), dp_ints (SqL.of (new_at nE _)), shaped_ints _, shaped_ints _, _, rfl, itF (by rw [eqv_ints]; simp) ?_⟩
      exact ⟨(sM.trans eP).trans eE, _, _, rfl⟩
    rintro σ HM ⟨eM, u7, u8, rfl⟩
    have uM : ∀ {U : Addr} {u : HO}, HL U = some u → HM U = some u := fun h => eM _ _ h
    -- orders
    refine ⟨_, rfl, .ref op, ns, rfl, ⟨op, rfl, SqL.of (uM goL), io⟩, uM uTO, fun HN eN => ?_⟩
    have sN := eM.trans eN
    refine ⟨ns, rfl, io, sN _ _ uTN, sN _ _ uTO, fun fp HP eP nP gP => ?_⟩
    have sP := sN.trans eP
    refine ⟨_, rfl, .list (ns.map PyData.int), .list (ns.map PyData.int), dp_ints (SqL.of gP), dp_ints (SqL.of (sP _ _ goL)), shaped_ints _, shaped_ints _, _, rfl, itF (by rw [eqv_ints]; simp) ?_⟩
    refine ⟨_, rfl, .ref tp, ms, rfl, ⟨tp, rfl, SqL.of (sP _ _ gtL), jo⟩, sP _ _ uTO, fun HQ eQ => ?_⟩
    have sQ := sP.trans eQ
    refine ⟨_, rfl, .ref op, ns, rfl, ⟨op, rfl, SqL.of (sQ _ _ goL), io⟩, sQ _ _ uTO, fun HR eR => ?_⟩
    have sR := sQ.trans eR
    refine ⟨rfl, _, rfl, _, rfl, .list (ms.map PyData.int), .list (ns.map PyData.int), dp_ints (SqL.of (sR _ _ gtL)), dp_ints (SqL.of (sR _ _ goL)), shaped_ints _, shaped_ints _, rfl, _, rfl, itF ?_ ?_⟩
    · rw [eqv_ints]
      have : (V.str (textO ms) = V.str (textO ns)) ↔ ms = ns := ⟨fun e => (textO_inj jo io).mp (by injection e), fun e => by rw [e]⟩
      simp [this]
    -- wishes
    have dpw : ∀ H', Same HL H' → WsAt K H' wa ws := fun H' e => ⟨SqL.of (e _ _ gwL), fun u hu => SqT.of (e _ _ (hwsL u hu))⟩
    have okm : ∀ u ∈ ws.map (·.1), OkW 99 u := fun u hu => by
      obtain ⟨v, hv, rfl⟩ := List.mem_map.mp hu
      exact okL v hv
    have lm : (ws.map (·.1)).length ≤ 60 := by rw [List.length_map]; exact l60
    refine ⟨_, rfl, wa, ws, rfl, dpw _ sR, l60, okL, nT, sR _ _ uT, sR _ _ uT2, fun HS eS => ?_⟩
    have sS := sR.trans eS
    refine ⟨_, rfl, ws.map (·.1), rfl, lm, okm, nT, sS _ _ uT, sS _ _ uT2, sS _ _ uTN, fun f1 us HT nw1 eu => ?_⟩
    have sT := sS.trans nw1.same
    have dW := dp_ws nw1.ws (K := K)
    rw [eu] at dW
    refine ⟨_, rfl, _, _, dW, dp_ws (dpw _ sT), shaped_ws _, shaped_ws _, _, rfl, itF (by rw [eqv_ws]; rfl) ?_⟩
    refine ⟨_, rfl, ws.map (·.1), rfl, lm, okm, nT, sT _ _ uT, sT _ _ uT2, sT _ _ uTN, fun f2 us2 HU nw2 eu2 => ?_⟩
    have sU := sT.trans nw2.same
    have l2 : us2.length ≤ 60 := by have := congrArg List.length eu2; rw [List.length_map, List.length_map] at this; omega
    refine ⟨f2, us2, rfl, nw2.ws, l2, fun u hu => ok_of eu2 okL hu, nT, sU _ _ uT, sU _ _ uT2, fun HV eV => ?_⟩
    have sV := sU.trans eV
    refine ⟨_, rfl, rfl, _, rfl, itF (by rw [eu2]; simp) ?_⟩
    -- the reach
    have l3 : l ≤ 3 := by omega
    have r3 : r ≤ 3 := by omega
    refine ⟨_, rfl, rp, l, r, rfl, SqT.of (sV _ _ grL), l0, l3, r0, r3, sV _ _ uTR, ?_⟩
    refine ⟨l, r, rfl, l0, l3, r0, r3, sV _ _ uTN, sV _ _ uTR, fun f3 HX eX nX gX => ?_⟩
    have sX := sV.trans eX
    refine ⟨_, rfl, .tuple [.int l, .int r], .tuple [.int l, .int r], dp_lr (SqT.of gX), dp_lr (SqT.of (sX _ _ grL)), shaped_lr _ _, shaped_lr _ _, _, rfl, itF (by rw [eqv_lr]; rfl) ?_⟩
    have dR : Th K HX (.ref rp) (.tuple [.int l, .int r]) := .dp (dp_lr (SqT.of (sX _ _ grL)))
    refine ⟨_, rfl, 1, .ref rp, _, rfl, sX _ _ uTO, sX _ _ uTR, nT, sX _ _ uT, sX _ _ uT2, .inl dR, shows_lr l0 l3 r0 r3, .inr (.inr (.inr ⟨rfl, ⟨rp, l, r, rfl, ⟨SqT.of (sX _ _ grL), l0, l3, r0, r3⟩⟩, fun HY eY => ?_⟩))⟩
    refine ⟨rfl, _, rfl, itF (by simp) ?_⟩
    have sY := (sX.trans eY)
    have s5Y : Same H5 HY := s5L'.trans sY
    exact ⟨s5.trans s5Y, s5Y _ _ g5, _, _, _, _, _, _, _, _, _, rfl⟩
  · rintro σ H5 ⟨s5, g5, v1, v2, v3, v4, v5, v6, v7, v8, v9, rfl⟩
    exact q _ s5
end
end K51
set_option Elab.async false
set_option linter.all false
set_option maxRecDepth 100000
namespace NP
open PySem PySem.Spec PyProof.Rows L2
theorem nums_ints : ∀ (ns : List Int), (ns.map PyData.int).map numD = ns
  | [] => rfl
  | n :: ns => by rw [List.map_cons, List.map_cons, nums_ints ns]; rfl
theorem whole_ints : ∀ (ns : List Int), (ns.map PyData.int).all whole = true
  | [] => rfl
  | n :: ns => by rw [List.map_cons, List.all_cons, whole_ints ns]; rfl
theorem isOrd_ints {ns : List Int} (h : IsOrd ns) : isOrdD (.list (ns.map PyData.int)) = true := by
  show (decide ((ns.map PyData.int).length ≤ 40) && ((ns.map PyData.int).all whole && isP ((ns.map PyData.int).map numD))) = true
  rw [nums_ints, whole_ints, List.length_map, decide_eq_true h.len]
  exact decide_eq_true h.perm
end NP
namespace K51
open PySem PySem.Spec PyProof.Rows L2 NP NT NV NN
set_option maxHeartbeats 4000000 in
theorem all_mk {l : PySem.W.OpenLaw} {w : World} {K : PySem.W.Frag} {h : Heap} {mg : Str → Option Value} {fa f1 f2 f3 f4 f5 f6 f7 f8 f9 f10 f11 f12 f13 f14 f15 f16 f17 f18 f19 f20 f21 f22 f23 f24 f25 f26 f27 f28 f29 f30 f31 f32 f33 : Addr} {d1 d2 d3 d4 d5 d6 d7 d8 d9 d10 d11 d12 d13 d14 d15 d16 d17 d18 d19 d20 d21 d22 d23 d24 d25 d26 d27 d28 d29 d30 d31 d32 d33 : FuncData} {t1 t2 t3 t4 t5 t6 t7 t8 : Tok} {tabs : List (Addr × Addr)} (X : K.In h) (G : h.Ns mainGlobals mg) (hfa : mg "law" = some (.ref fa))
    (pr : Paired (fun n p => TabOf h mg n p.1) ["is_order", "is_reach", "is_wish", "is_wishes", "read_numbers"] tabs)
    (D1 : DefAt K "is_whole" sWhole f1 d1) (D2 : DefAt K "is_whole_between" sBetw f2 d2) (D3 : DefAt K "is_order" sIsOrder f3 d3) (D4 : DefAt K "is_reach" sReach f4 d4) (D5 : DefAt K "check_order" sCheckO f5 d5) (D6 : DefAt K "check_reach" sCheckR f6 d6) (D7 : DefAt K "is_wish" sIsWish f7 d7) (D8 : DefAt K "is_wishes" sIsWishes f8 d8) (D9 : DefAt K "check_wishes" sCkWishes f9 d9) (D10 : DefAt K "is_figures" sFig f10 d10) (D11 : DefAt K "numbers_text" sNums f11 d11) (D12 : DefAt K "sides_text" sSides f12 d12) (D13 : DefAt K "wish_text" sWText f13 d13) (D14 : DefAt K "order_text" sOText f14 d14) (D15 : DefAt K "reach_text" sRText f15 d15) (D16 : DefAt K "wishes_text" sWsText f16 d16) (D17 : DefAt K "check_writes" sCkW f17 d17) (D18 : DefAt K "parts_of" sParts f18 d18) (D19 : DefAt K "read_numbers" sReadN f19 d19) (D20 : DefAt K "read_as_wish" sReadW f20 d20) (D21 : DefAt K "read_order" sReadO f21 d21) (D22 : DefAt K "read_reach" sReadR f22 d22) (D23 : DefAt K "read_wishes" sReadWs f23 d23) (D24 : DefAt K "_law_well" sWell f24 d24) (D25 : DefAt K "_law_draw" sDraw f25 d25) (D26 : DefAt K "_law_wishes" sLWs f26 d26) (D27 : DefAt K "_law_order" sOrder f27 d27) (D28 : DefAt K "_law_word" sWord f28 d28) (D29 : DefAt K "_law_no_reaches" sNoR f29 d29) (D30 : DefAt K "_law_no_orders" sNoO f30 d30) (D31 : DefAt K "_law_no_wishes" sNoW f31 d31) (D32 : DefAt K "_law_said" sSaid f32 d32) (D33 : DefAt K "law" sLaw f33 d33)
    (nt : NV.neTabs K "is_wishes" "is_wish" = true) (bi : ∀ x ∈ (["isinstance", "int", "bool", "tuple", "list", "all", "len", "repr", "dict", "range", "sorted", "enumerate", "min", "max", "str", "ValueError"] : List Str), PySem.W.nsIn K mainGlobals x = some none) (m1 : PySem.W.nsIn K mainGlobals "MOST_THINGS" = some (some (.int 40 t1))) (m2 : PySem.W.nsIn K mainGlobals "MOST_REACH" = some (some (.int 3 t2))) (m3 : PySem.W.nsIn K mainGlobals "AT" = some (some (.str "at" t3))) (m4 : PySem.W.nsIn K mainGlobals "NOT" = some (some (.str "not" t4))) (m5 : PySem.W.nsIn K mainGlobals "MOST_WISHES" = some (some (.int 60 t5))) (m6 : PySem.W.nsIn K mainGlobals "NOTHING" = some (some (.str "none" t6))) (m7 : PySem.W.nsIn K mainGlobals "MOST_FIGURES" = some (some (.int 2 t7))) (m8 : PySem.W.nsIn K mainGlobals "MOST_IN_WISHES" = some (some (.int 99 t8)))
    {e0 e1 e2 e3 e4 e5 e6 e7 e8 g0 g1 g2 ep : Addr} (q0 : PySem.W.nsIn K mainGlobals "NoOrder" = some (some (.ref e0))) (q1 : PySem.W.nsIn K mainGlobals "NoReach" = some (some (.ref e1))) (q2 : PySem.W.nsIn K mainGlobals "NoNumber" = some (some (.ref e2))) (q3 : PySem.W.nsIn K mainGlobals "NoKeep" = some (some (.ref e3))) (q4 : PySem.W.nsIn K mainGlobals "NoStand" = some (some (.ref e4))) (q5 : PySem.W.nsIn K mainGlobals "TooMany" = some (some (.ref e5))) (q6 : PySem.W.nsIn K mainGlobals "NoWord" = some (some (.ref e6))) (q7 : PySem.W.nsIn K mainGlobals "NoText" = some (some (.ref e7))) (q8 : PySem.W.nsIn K mainGlobals "NoWishes" = some (some (.ref e8))) (q9 : PySem.W.nsIn K mainGlobals "NoAsk" = some (some (.ref g0))) (q10 : PySem.W.nsIn K mainGlobals "NoRolls" = some (some (.ref g1))) (q11 : PySem.W.nsIn K mainGlobals "NoShare" = some (some (.ref g2))) (q12 : PySem.W.nsIn K mainGlobals "PlaceError" = some (some (.ref ep))) (A0 : NQ.AnsW K ⟨e0, e1, e2, e3, e4, e5, e6, e7, e8, g0, g1, g2, ep⟩ e0 0) (A1 : NQ.AnsW K ⟨e0, e1, e2, e3, e4, e5, e6, e7, e8, g0, g1, g2, ep⟩ e1 1) (A8 : NQ.AnsW K ⟨e0, e1, e2, e3, e4, e5, e6, e7, e8, g0, g1, g2, ep⟩ e8 8) :
    ∃ fd : FuncData, (∀ (s : Shared) (v : Value), BindsTo s fd ⟨[v], []⟩ [("script", v)]) ∧ ∀ base : Heap, K.In base → base.Ns mainGlobals mg → (∀ p ∈ tabs, CodeB base mg p.1 p.2) → FnOk l.prog w K mg base CX0 20 fa fd ["script"] (spLaw K tabs) := by
  have e := hfa.symm.trans (PySem.W.mg_of X G D33.ns)
  cases e
  have no : ∀ x ∈ (["isinstance", "int", "bool", "tuple", "list", "all", "len", "repr", "dict", "range", "sorted", "enumerate", "min", "max", "str", "ValueError"] : List Str), mg x = none := fun x hx => PySem.W.mg_none_of X G (bi x hx)
  have M : Mg mg := ⟨no _ (by simp), no _ (by simp), no _ (by simp), no _ (by simp), no _ (by simp), no _ (by simp), no _ (by simp), no _ (by simp), no _ (by simp), no _ (by simp)⟩
  have M2 : Mg2 mg := ⟨M, no _ (by simp), no _ (by simp), no _ (by simp), no _ (by simp)⟩
  have mstr : mg "str" = none := no _ (by simp)
  have y0 := PySem.W.mg_of X G q0
  have y1 := PySem.W.mg_of X G q1
  have y2 := PySem.W.mg_of X G q2
  have y3 := PySem.W.mg_of X G q3
  have y4 := PySem.W.mg_of X G q4
  have y5 := PySem.W.mg_of X G q5
  have y6 := PySem.W.mg_of X G q6
  have y7 := PySem.W.mg_of X G q7
  have y8 := PySem.W.mg_of X G q8
  have y9 := PySem.W.mg_of X G q9
  have y10 := PySem.W.mg_of X G q10
  have y11 := PySem.W.mg_of X G q11
  have y12 := PySem.W.mg_of X G q12
  have S : NQ.MCs7 mg ⟨e0, e1, e2, e3, e4, e5, e6, e7, e8, g0, g1, g2, ep⟩ := ⟨y0, y1, y2, y3, y4, y5, y6, y7, y8, y9, y10, y11, y12, no _ (by simp)⟩
  have v1 := PySem.W.mg_of X G m1
  have v2 := PySem.W.mg_of X G m2
  have v3 := PySem.W.mg_of X G m3
  have v4 := PySem.W.mg_of X G m4
  have v5 := PySem.W.mg_of X G m5
  have v6 := PySem.W.mg_of X G m6
  have v7 := PySem.W.mg_of X G m7
  have v8 := PySem.W.mg_of X G m8
  have b1 := D1.fn.binds (ps := ["thing"]) fun _ _ _ _ _ _ us hl => match us, hl with | [_], _ => rfl
  have k1 := D1.fn.kp
  have n1 := PySem.W.mg_of X G D1.ns
  have b2 := D2.fn.binds (ps := ["thing", "least", "most"]) fun _ _ _ _ _ _ us hl => match us, hl with | [_, _, _], _ => rfl
  have k2 := D2.fn.kp
  have n2 := PySem.W.mg_of X G D2.ns
  have b3 := D3.fn.binds (ps := ["thing"]) fun _ _ _ _ _ _ us hl => match us, hl with | [_], _ => rfl
  have k3 := D3.fn.kp
  have n3 := PySem.W.mg_of X G D3.ns
  have b4 := D4.fn.binds (ps := ["thing"]) fun _ _ _ _ _ _ us hl => match us, hl with | [_], _ => rfl
  have k4 := D4.fn.kp
  have n4 := PySem.W.mg_of X G D4.ns
  have b5 := D5.fn.binds (ps := ["order"]) fun _ _ _ _ _ _ us hl => match us, hl with | [_], _ => rfl
  have k5 := D5.fn.kp
  have n5 := PySem.W.mg_of X G D5.ns
  have b6 := D6.fn.binds (ps := ["reach"]) fun _ _ _ _ _ _ us hl => match us, hl with | [_], _ => rfl
  have k6 := D6.fn.kp
  have n6 := PySem.W.mg_of X G D6.ns
  have b7 := D7.fn.binds (ps := ["thing", "most"]) fun _ _ _ _ _ _ us hl => match us, hl with | [_, _], _ => rfl
  have k7 := D7.fn.kp
  have n7 := PySem.W.mg_of X G D7.ns
  have b8 := D8.fn.binds (ps := ["thing", "most"]) fun _ _ _ _ _ _ us hl => match us, hl with | [_, _], _ => rfl
  have k8 := D8.fn.kp
  have n8 := PySem.W.mg_of X G D8.ns
  have b9 := D9.fn.binds (ps := ["wishes", "most"]) fun _ _ _ _ _ _ us hl => match us, hl with | [_, _], _ => rfl
  have k9 := D9.fn.kp
  have n9 := PySem.W.mg_of X G D9.ns
  have b10 := D10.fn.binds (ps := ["word", "most"]) fun _ _ _ _ _ _ us hl => match us, hl with | [_, _], _ => rfl
  have k10 := D10.fn.kp
  have n10 := PySem.W.mg_of X G D10.ns
  have b11 := D11.fn.binds (ps := ["numbers"]) fun _ _ _ _ _ _ us hl => match us, hl with | [_], _ => rfl
  have k11 := D11.fn.kp
  have n11 := PySem.W.mg_of X G D11.ns
  have b12 := D12.fn.binds (ps := ["sides"]) fun _ _ _ _ _ _ us hl => match us, hl with | [_], _ => rfl
  have k12 := D12.fn.kp
  have n12 := PySem.W.mg_of X G D12.ns
  have b13 := D13.fn.binds (ps := ["wish"]) fun _ _ _ _ _ _ us hl => match us, hl with | [_], _ => rfl
  have k13 := D13.fn.kp
  have n13 := PySem.W.mg_of X G D13.ns
  have b14 := D14.fn.binds (ps := ["order"]) fun _ _ _ _ _ _ us hl => match us, hl with | [_], _ => rfl
  have k14 := D14.fn.kp
  have n14 := PySem.W.mg_of X G D14.ns
  have b15 := D15.fn.binds (ps := ["reach"]) fun _ _ _ _ _ _ us hl => match us, hl with | [_], _ => rfl
  have k15 := D15.fn.kp
  have n15 := PySem.W.mg_of X G D15.ns
  have b16 := D16.fn.binds (ps := ["wishes"]) fun _ _ _ _ _ _ us hl => match us, hl with | [_], _ => rfl
  have k16 := D16.fn.kp
  have n16 := PySem.W.mg_of X G D16.ns
  have b17 := D17.fn.binds (ps := ["writes"]) fun _ _ _ _ _ _ us hl => match us, hl with | [_], _ => rfl
  have k17 := D17.fn.kp
  have n17 := PySem.W.mg_of X G D17.ns
  have b18 := D18.fn.binds (ps := ["text", "between"]) fun _ _ _ _ _ _ us hl => match us, hl with | [_, _], _ => rfl
  have k18 := D18.fn.kp
  have n18 := PySem.W.mg_of X G D18.ns
  have b19 := D19.fn.binds (ps := ["words"]) fun _ _ _ _ _ _ us hl => match us, hl with | [_], _ => rfl
  have k19 := D19.fn.kp
  have n19 := PySem.W.mg_of X G D19.ns
  have b20 := D20.fn.binds (ps := ["text"]) fun _ _ _ _ _ _ us hl => match us, hl with | [_], _ => rfl
  have k20 := D20.fn.kp
  have n20 := PySem.W.mg_of X G D20.ns
  have b21 := D21.fn.binds (ps := ["text"]) fun _ _ _ _ _ _ us hl => match us, hl with | [_], _ => rfl
  have k21 := D21.fn.kp
  have n21 := PySem.W.mg_of X G D21.ns
  have b22 := D22.fn.binds (ps := ["text"]) fun _ _ _ _ _ _ us hl => match us, hl with | [_], _ => rfl
  have k22 := D22.fn.kp
  have n22 := PySem.W.mg_of X G D22.ns
  have b23 := D23.fn.binds (ps := ["text"]) fun _ _ _ _ _ _ us hl => match us, hl with | [_], _ => rfl
  have k23 := D23.fn.kp
  have n23 := PySem.W.mg_of X G D23.ns
  have b24 := D24.fn.binds (ps := ["cell"]) fun _ _ _ _ _ _ us hl => match us, hl with | [_], _ => rfl
  have k24 := D24.fn.kp
  have n24 := PySem.W.mg_of X G D24.ns
  have b25 := D25.fn.binds (ps := ["well", "many"]) fun _ _ _ _ _ _ us hl => match us, hl with | [_, _], _ => rfl
  have k25 := D25.fn.kp
  have n25 := PySem.W.mg_of X G D25.ns
  have b26 := D26.fn.binds (ps := ["well", "most"]) fun _ _ _ _ _ _ us hl => match us, hl with | [_, _], _ => rfl
  have k26 := D26.fn.kp
  have n26 := PySem.W.mg_of X G D26.ns
  have b27 := D27.fn.binds (ps := ["well", "most"]) fun _ _ _ _ _ _ us hl => match us, hl with | [_, _], _ => rfl
  have k27 := D27.fn.kp
  have n27 := PySem.W.mg_of X G D27.ns
  have b28 := D28.fn.binds (ps := ["caught"]) fun _ _ _ _ _ _ us hl => match us, hl with | [_], _ => rfl
  have k28 := D28.fn.kp
  have n28 := PySem.W.mg_of X G D28.ns
  have b29 := D29.fn.binds (ps := ["well"]) fun _ _ _ _ _ _ us hl => match us, hl with | [_], _ => rfl
  have k29 := D29.fn.kp
  have n29 := PySem.W.mg_of X G D29.ns
  have b30 := D30.fn.binds (ps := ["well", "order"]) fun _ _ _ _ _ _ us hl => match us, hl with | [_, _], _ => rfl
  have k30 := D30.fn.kp
  have n30 := PySem.W.mg_of X G D30.ns
  have b31 := D31.fn.binds (ps := ["well", "wishes"]) fun _ _ _ _ _ _ us hl => match us, hl with | [_, _], _ => rfl
  have k31 := D31.fn.kp
  have n31 := PySem.W.mg_of X G D31.ns
  have b32 := D32.fn.binds (ps := ["way", "thing"]) fun _ _ _ _ _ _ us hl => match us, hl with | [_, _], _ => rfl
  have k32 := D32.fn.kp
  have n32 := PySem.W.mg_of X G D32.ns
  refine ⟨d33, ?_, fun base XB _ hC => ?_⟩
  · obtain ⟨oc, od, kV, doc, pm, an, cdv, ct, osl, rfl, _, _⟩ := D33.fn.ex
    exact fun s v => .of_eq rfl
  cases pr with
  | @cons _ ct1 _ _ r1 r1' => cases r1' with
  | @cons _ ct2 _ _ r2 r2' => cases r2' with
  | @cons _ ct3 _ _ r3 r3' => cases r3' with
  | @cons _ ct4 _ _ r4 r4' => cases r4' with
  | @cons _ ct5 _ _ r5 r5' =>
    cases r5'
    obtain ⟨c1, T1⟩ := ct1
    obtain ⟨c2, T2⟩ := ct2
    obtain ⟨c3, T3⟩ := ct3
    obtain ⟨c4, T4⟩ := ct4
    obtain ⟨c5, T5⟩ := ct5
    have h1 := D3.code X G r1
    have cb1 := hC (c1, T1) (.head _)
    have h2 := D4.code X G r2
    have cb2 := hC (c2, T2) (.tail _ (.head _))
    have h3 := D7.code X G r3
    have cb3 := hC (c3, T3) (.tail _ (.tail _ (.head _)))
    have h4 := D8.code X G r4
    have cb4 := hC (c4, T4) (.tail _ (.tail _ (.tail _ (.head _))))
    have h5 := D19.code X G r5
    have cb5 := hC (c5, T5) (.tail _ (.tail _ (.tail _ (.tail _ (.head _)))))
    have nT : T4 ≠ T3 := NV.tab_ne D8 h4 D7 h3 XB cb4 cb3 nt
    have O1 : FnOk l.prog w K mg base CX0 1 f1 d1 ["thing"] (spWhole K) := ok_whole D1.fn M
    have O2 : FnOk l.prog w K mg base CX0 2 f2 d2 ["thing", "least", "most"] (spBetw K) := ok_betw D2.fn O1 b1 k1 n1
    have Y3 : FnOk l.prog w K mg base CX0 13 f3 d3 ["thing"] (spIsO K T1) := ok_isO D3.fn h1 cb1 M2 O1 b1 k1 n1 v1
    have O3 : FnOk l.prog w K mg base CX0 13 f3 d3 ["thing"] (spIsOrd K T1) := Y3.imp fun vs H Q E ⟨v, ns, e, ⟨ad, e2, hS, io⟩, hT, q⟩ => ⟨v, .list (ns.map PyData.int), e, by subst e2; exact .dp (dp_ints hS), hT, fun H' e => by rw [isOrd_ints io]; exact q H' e⟩
    have O4 : FnOk l.prog w K mg base CX0 13 f4 d4 ["thing"] (spReach K T2) := ok_reach D4.fn h2 cb2 M O2 b2 k2 n2 v2
    have O5 : FnOk l.prog w K mg base CX0 14 f5 d5 ["order"] (spCheckO K T1) := ok_checkO D5.fn O3 b3 k3 n3
    have O6 : FnOk l.prog w K mg base CX0 14 f6 d6 ["reach"] (spCheckR K T2) := ok_checkR D6.fn O4 b4 k4 n4
    have Y7 : FnOkB l.prog w K mg base 12 f7 d7 ["thing", "most"] (spIsWishX K T3) := ok_isWishX D7.fn h3 cb3 M2 mstr v3 v4 O2 b2 k2 n2
    have O7 : FnOkB l.prog w K mg base 12 f7 d7 ["thing", "most"] (spIsWish K T3) := ok_isWish D7.fn h3 cb3 M2 mstr v3 v4 O2 b2 k2 n2
    have O8B : FnOkB l.prog w K mg base 14 f8 d8 ["thing", "most"] (spIsWishes K T4 T3) := ok_isWishes D8.fn h4 cb4 M2 v5 O7 b7 k7 n7
    have O8 : FnOk l.prog w K mg base CX0 14 f8 d8 ["thing", "most"] (spIsWishes K T4 T3) := O8B.ok (by decide)
    have Y8B : FnOkB l.prog w K mg base 14 f8 d8 ["thing", "most"] (spIsWishesX K T4 T3) := ok_isWishesX D8.fn h4 cb4 M2 v5 Y7 b7 k7 n7
    have Y8 : FnOk l.prog w K mg base CX0 14 f8 d8 ["thing", "most"] (spIsWishesX K T4 T3) := Y8B.ok (by decide)
    have Z8 : FnOk l.prog w K mg base CX0 14 f8 d8 ["thing", "most"] spIsWishes1 := ok_isWishes1 D8.fn M2
    have O9 : FnOk l.prog w K mg base CX0 15 f9 d9 ["wishes", "most"] (spCkWishes K T4 T3) := ok_ckWishes D9.fn O8 b8 k8 n8
    have O10 : FnOk l.prog w K mg base CX0 1 f10 d10 ["word", "most"] spFig := ok_fig D10.fn M
    have O11 : FnOk l.prog w K mg base CX0 1 f11 d11 ["numbers"] (spNums K) := ok_nums D11.fn mstr
    have O12 : FnOk l.prog w K mg base CX0 1 f12 d12 ["sides"] (spSides K) := ok_sides D12.fn
    have O13 : FnOk l.prog w K mg base CX0 1 f13 d13 ["wish"] (spWText K) := ok_wText D13.fn
    have O14 : FnOk l.prog w K mg base CX0 15 f14 d14 ["order"] (spOText K T1) := ok_oText D14.fn v6 O5 b5 k5 n5 O11 b11 k11 n11
    have O15 : FnOk l.prog w K mg base CX0 15 f15 d15 ["reach"] (spRText K T2) := ok_rText D15.fn O6 b6 k6 n6 O12 b12 k12 n12
    have O16 : FnOk l.prog w K mg base CX0 16 f16 d16 ["wishes"] (spWsText K T4 T3) := ok_wsText D16.fn v6 v8 O9 b9 k9 n9 O13 b13 k13 n13
    have O17 : FnOk l.prog w K mg base CX0 1 f17 d17 ["writes"] spCkW := ok_ckW D17.fn
    have O18 : FnOk l.prog w K mg base CX0 1 f18 d18 ["text", "between"] spParts := ok_parts D18.fn v6
    have O19 : FnOk l.prog w K mg base CX0 13 f19 d19 ["words"] (spReadN K T5) := ok_readN D19.fn h5 cb5 M v7 O10 b10 k10 n10 O17 b17 k17 n17
    have O20 : FnOk l.prog w K mg base CX0 14 f20 d20 ["text"] (spReadW T5) := ok_readW D20.fn M2 O19 b19 k19 n19
    have O21 : FnOk l.prog w K mg base CX0 14 f21 d21 ["text"] (spReadO T5 T1) := ok_readO D21.fn M mstr O19 b19 k19 n19 O17 b17 k17 n17 O18 b18 k18 n18 O3 b3 k3 n3
    have O22 : FnOk l.prog w K mg base CX0 14 f22 d22 ["text"] (spReadR T5 T2) := ok_readR D22.fn M mstr O19 b19 k19 n19 O17 b17 k17 n17 O4 b4 k4 n4
    have O23 : FnOk l.prog w K mg base CX0 15 f23 d23 ["text"] (spReadWs T4 T3 T5) := ok_readWs D23.fn M2 mstr v8 O20 b20 k20 n20 O17 b17 k17 n17 O18 b18 k18 n18 O8 b8 k8 n8
    have O24 : FnOk l.prog w K mg base CX0 1 f24 d24 ["cell"] NP.spWell2 := ok_well D24.fn
    have O25 : FnOk l.prog w K mg base CX0 1 f25 d25 ["well", "many"] NP.spDraw2 := ok_draw D25.fn
    have O26 : FnOk l.prog w K mg base CX0 2 f26 d26 ["well", "most"] (spWishesN K) := ok_lws D26.fn M O25 b25 k25 n25
    have O27 : FnOk l.prog w K mg base CX0 2 f27 d27 ["well", "most"] (spOrderN K) := ok_order D27.fn M O25 b25 k25 n25
    have O28 : FnOk l.prog w K mg base CX0 13 f28 d28 ["caught"] (NQ.spWordW K _) := ok_word D28.fn M2 S
    have O29 : FnOk l.prog w K mg base CX0 2 f29 d29 ["well"] (spNoReaches K) := ok_noR D29.fn M2 O25 b25 k25 n25
    have O30 : FnOk l.prog w K mg base CX0 12 f30 d30 ["well", "order"] (spNoOrders K) := ok_noO D30.fn M2 mstr O25 b25 k25 n25
    have O31 : FnOk l.prog w K mg base CX0 12 f31 d31 ["well", "wishes"] (spNoWishesL K) := ok_noW D31.fn M2 O25 b25 k25 n25
    have X5 := no_checkO (P := l.prog) (w := w) (base := base) D5.fn Y3 b3 k3 n3 A0.ok.xin y0
    have X6 := no_checkR (P := l.prog) (w := w) (base := base) D6.fn O4 b4 k4 n4 A1.ok.xin y1
    have X9 := no_checkW (P := l.prog) (w := w) (base := base) D9.fn Y8 b8 k8 n8 A8.ok.xin y8
    have Z9 := no_checkW1 (P := l.prog) (w := w) (base := base) D9.fn Z8 b8 k8 n8 A8.ok.xin y8
    have X14 := no_oText D14.fn X5 b5 k5 n5
    have X15 := FnOk.or (no_rText D15.fn X6 b6 k6 n6) (FnOk.e O15)
    have X16 := FnOk.or (no_wsText D16.fn v8 X9 b9 k9 n9) (no_wsText1 D16.fn v8 Z9 b9 k9 n9)
    have O32 : FnOk l.prog w K mg base CX0 17 f32 d32 ["way", "thing"] (spSaid K T1 T2 T4 T3) := ok_said D32.fn M2 S A0 A1 A8 X14 b14 k14 n14 X15 b15 k15 n15 X16 b16 k16 n16 O28 b28 k28 n28
    exact ok_law D33.fn M2 nT O24 b24 k24 n24 O25 b25 k25 n25 O27 b27 k27 n27 O26 b26 k26 n26 O30 b30 k30 n30 O29 b29 k29 n29 O31 b31 k31 n31 O32 b32 k32 n32 O14 b14 k14 n14 O21 b21 k21 n21 O15 b15 k15 n15 O22 b22 k22 n22 O16 b16 k16 n16 O23 b23 k23 n23
end K51
open PySem PySem.W PyProof.Rows
set_option maxRecDepth 100000 in
set_option maxHeartbeats 0 in
theorem PySem.Challenge.cw_nearplace_k51_refused_to_be_written_holds : PySem.Challenge.rw_nearplace_k51_refused_to_be_written.Holds := by
  w_on; o_law; k_head; (case hw => w_witness2)
  k_fill
  refine NP.walkL (l := PySem.Challenge.rw_nearplace_k51_refused_to_be_written) ["is_order", "is_reach", "is_wish", "is_wishes", "read_numbers"] rfl rfl ?R (fun w h Y => PySem.W.kIn_of Y) ?C ?F
  case R =>
    intro m hm
    simp only [List.mem_cons, List.not_mem_nil, or_false] at hm
    rcases hm with rfl | rfl | rfl | rfl | rfl <;> rfl
  case C => intro w; exact Eq.refl true
  case F =>
    intro w mg fa h tabs KX G hmg pr
    refine' K51.all_mk KX G hmg pr (NP.defAt ?a1 ?l1 ?c1 ?k1) (NP.defAt ?a2 ?l2 ?c2 ?k2) (NP.defAt ?a3 ?l3 ?c3 ?k3) (NP.defAt ?a4 ?l4 ?c4 ?k4) (NP.defAt ?a5 ?l5 ?c5 ?k5) (NP.defAt ?a6 ?l6 ?c6 ?k6) (NP.defAt ?a7 ?l7 ?c7 ?k7) (NP.defAt ?a8 ?l8 ?c8 ?k8) (NP.defAt ?a9 ?l9 ?c9 ?k9) (NP.defAt ?a10 ?l10 ?c10 ?k10) (NP.defAt ?a11 ?l11 ?c11 ?k11) (NP.defAt ?a12 ?l12 ?c12 ?k12) (NP.defAt ?a13 ?l13 ?c13 ?k13) (NP.defAt ?a14 ?l14 ?c14 ?k14) (NP.defAt ?a15 ?l15 ?c15 ?k15) (NP.defAt ?a16 ?l16 ?c16 ?k16) (NP.defAt ?a17 ?l17 ?c17 ?k17) (NP.defAt ?a18 ?l18 ?c18 ?k18) (NP.defAt ?a19 ?l19 ?c19 ?k19) (NP.defAt ?a20 ?l20 ?c20 ?k20) (NP.defAt ?a21 ?l21 ?c21 ?k21) (NP.defAt ?a22 ?l22 ?c22 ?k22) (NP.defAt ?a23 ?l23 ?c23 ?k23) (NP.defAt ?a24 ?l24 ?c24 ?k24) (NP.defAt ?a25 ?l25 ?c25 ?k25) (NP.defAt ?a26 ?l26 ?c26 ?k26) (NP.defAt ?a27 ?l27 ?c27 ?k27) (NP.defAt ?a28 ?l28 ?c28 ?k28) (NP.defAt ?a29 ?l29 ?c29 ?k29) (NP.defAt ?a30 ?l30 ?c30 ?k30) (NP.defAt ?a31 ?l31 ?c31 ?k31) (NP.defAt ?a32 ?l32 ?c32 ?k32) (NP.defAt ?a33 ?l33 ?c33 ?k33) ?nt ?bi ?m1 ?m2 ?m3 ?m4 ?m5 ?m6 ?m7 ?m8 ?q0 ?q1 ?q2 ?q3 ?q4 ?q5 ?q6 ?q7 ?q8 ?q9 ?q10 ?q11 ?q12 (NQ.ansW_mk (by decide) ?xa0 ?xa1 ?xa2 ?xa3 ?xa4 ?xa5 ?xa6 ?xa7 ?xa8 ?xa9 ?xa10 ?xa11 ?xa12 ?xa13 ?xa14 ?xa15) (NQ.ansW_mk (by decide) ?xb0 ?xb1 ?xb2 ?xb3 ?xb4 ?xb5 ?xb6 ?xb7 ?xb8 ?xb9 ?xb10 ?xb11 ?xb12 ?xb13 ?xb14 ?xb15) (NQ.ansW_mk (by decide) ?xc0 ?xc1 ?xc2 ?xc3 ?xc4 ?xc5 ?xc6 ?xc7 ?xc8 ?xc9 ?xc10 ?xc11 ?xc12 ?xc13 ?xc14 ?xc15)
    (case a1 => k_is); (case l1 => k_is); (case c1 => k_is); (case k1 => k_is)
    (case a2 => k_is); (case l2 => k_is); (case c2 => k_is); (case k2 => k_is)
    (case a3 => k_is); (case l3 => k_is); (case c3 => k_is); (case k3 => k_is)
    (case a4 => k_is); (case l4 => k_is); (case c4 => k_is); (case k4 => k_is)
    (case a5 => k_is); (case l5 => k_is); (case c5 => k_is); (case k5 => k_is)
    (case a6 => k_is); (case l6 => k_is); (case c6 => k_is); (case k6 => k_is)
    (case a7 => k_is); (case l7 => k_is); (case c7 => k_is); (case k7 => k_is)
    (case a8 => k_is); (case l8 => k_is); (case c8 => k_is); (case k8 => k_is)
    (case a9 => k_is); (case l9 => k_is); (case c9 => k_is); (case k9 => k_is)
    (case a10 => k_is); (case l10 => k_is); (case c10 => k_is); (case k10 => k_is)
    (case a11 => k_is); (case l11 => k_is); (case c11 => k_is); (case k11 => k_is)
    (case a12 => k_is); (case l12 => k_is); (case c12 => k_is); (case k12 => k_is)
    (case a13 => k_is); (case l13 => k_is); (case c13 => k_is); (case k13 => k_is)
    (case a14 => k_is); (case l14 => k_is); (case c14 => k_is); (case k14 => k_is)
    (case a15 => k_is); (case l15 => k_is); (case c15 => k_is); (case k15 => k_is)
    (case a16 => k_is); (case l16 => k_is); (case c16 => k_is); (case k16 => k_is)
    (case a17 => k_is); (case l17 => k_is); (case c17 => k_is); (case k17 => k_is)
    (case a18 => k_is); (case l18 => k_is); (case c18 => k_is); (case k18 => k_is)
    (case a19 => k_is); (case l19 => k_is); (case c19 => k_is); (case k19 => k_is)
    (case a20 => k_is); (case l20 => k_is); (case c20 => k_is); (case k20 => k_is)
    (case a21 => k_is); (case l21 => k_is); (case c21 => k_is); (case k21 => k_is)
    (case a22 => k_is); (case l22 => k_is); (case c22 => k_is); (case k22 => k_is)
    (case a23 => k_is); (case l23 => k_is); (case c23 => k_is); (case k23 => k_is)
    (case a24 => k_is); (case l24 => k_is); (case c24 => k_is); (case k24 => k_is)
    (case a25 => k_is); (case l25 => k_is); (case c25 => k_is); (case k25 => k_is)
    (case a26 => k_is); (case l26 => k_is); (case c26 => k_is); (case k26 => k_is)
    (case a27 => k_is); (case l27 => k_is); (case c27 => k_is); (case k27 => k_is)
    (case a28 => k_is); (case l28 => k_is); (case c28 => k_is); (case k28 => k_is)
    (case a29 => k_is); (case l29 => k_is); (case c29 => k_is); (case k29 => k_is)
    (case a30 => k_is); (case l30 => k_is); (case c30 => k_is); (case k30 => k_is)
    (case a31 => k_is); (case l31 => k_is); (case c31 => k_is); (case k31 => k_is)
    (case a32 => k_is); (case l32 => k_is); (case c32 => k_is); (case k32 => k_is)
    (case a33 => k_is); (case l33 => k_is); (case c33 => k_is); (case k33 => k_is)
    (case q0 => k_is)
    (case q1 => k_is)
    (case q2 => k_is)
    (case q3 => k_is)
    (case q4 => k_is)
    (case q5 => k_is)
    (case q6 => k_is)
    (case q7 => k_is)
    (case q8 => k_is)
    (case q9 => k_is)
    (case q10 => k_is)
    (case q11 => k_is)
    (case q12 => k_is)
    (case xa0 => kernel_rfl)
    (case xa1 => exact Eq.refl _)
    (case xa2 => exact Eq.refl _)
    (case xa3 => exact Eq.refl _)
    (case xa4 => exact Eq.refl _)
    (case xa5 => exact Eq.refl _)
    (case xa6 => exact Eq.refl _)
    (case xa7 => exact Eq.refl _)
    (case xa8 => exact Eq.refl _)
    (case xa9 => exact Eq.refl _)
    (case xa10 => exact Eq.refl _)
    (case xa11 => exact Eq.refl _)
    (case xa12 => exact Eq.refl _)
    (case xa13 => exact Eq.refl _)
    (case xa14 => exact Eq.refl _)
    (case xa15 => exact Eq.refl _)
    (case xb0 => kernel_rfl)
    (case xb1 => exact Eq.refl _)
    (case xb2 => exact Eq.refl _)
    (case xb3 => exact Eq.refl _)
    (case xb4 => exact Eq.refl _)
    (case xb5 => exact Eq.refl _)
    (case xb6 => exact Eq.refl _)
    (case xb7 => exact Eq.refl _)
    (case xb8 => exact Eq.refl _)
    (case xb9 => exact Eq.refl _)
    (case xb10 => exact Eq.refl _)
    (case xb11 => exact Eq.refl _)
    (case xb12 => exact Eq.refl _)
    (case xb13 => exact Eq.refl _)
    (case xb14 => exact Eq.refl _)
    (case xb15 => exact Eq.refl _)
    (case xc0 => kernel_rfl)
    (case xc1 => exact Eq.refl _)
    (case xc2 => exact Eq.refl _)
    (case xc3 => exact Eq.refl _)
    (case xc4 => exact Eq.refl _)
    (case xc5 => exact Eq.refl _)
    (case xc6 => exact Eq.refl _)
    (case xc7 => exact Eq.refl _)
    (case xc8 => exact Eq.refl _)
    (case xc9 => exact Eq.refl _)
    (case xc10 => exact Eq.refl _)
    (case xc11 => exact Eq.refl _)
    (case xc12 => exact Eq.refl _)
    (case xc13 => exact Eq.refl _)
    (case xc14 => exact Eq.refl _)
    (case xc15 => exact Eq.refl _)
    (case m1 => k_is)
    (case m2 => k_is)
    (case m3 => k_is)
    (case m4 => k_is)
    (case m5 => k_is)
    (case m6 => k_is)
    (case m7 => k_is)
    (case m8 => k_is)
    (case nt => exact Eq.refl true)
    (case bi =>
      intro x hx
      simp only [List.mem_cons, List.not_mem_nil, or_false] at hx
      rcases hx with rfl | rfl | rfl | rfl | rfl | rfl | rfl | rfl | rfl | rfl | rfl | rfl | rfl | rfl | rfl | rfl <;> k_is)
#print axioms PySem.Challenge.cw_nearplace_k51_refused_to_be_written_holds

