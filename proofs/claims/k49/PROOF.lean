import PyProof.Rows.All
import Wide.All
import OpenK.AllK
import Wide.FinOn
import PyProof.EqAt
import PyProof.EqKinds
import PyProof.TupleCall
import KE.BitLaws
import PyProof.ExcBaseAll.ValueError
import OpenK.KOwn
import KE.KTryMore
import PyProof.NsDelKeeps
import PyProof.ExcAttrAll.ValueError
import PyProof.TupleOfGen
import PyProof.SetNew
import KE.KSortTupUse
import PyProof.TupleOfStr
import PyProof.ListRange
import PyProof.Rows.InDataRows
import PyProof.Rows.TupDisplay
import PyProof.DictWalks
import PyProof.Rows.SeqMore
import PyProof.DictCompW
import PyProof.P3In
import PyProof.CollectIter
import PyProof.FString
import PyProof.Rows.FStr
import PyProof.StrCalls
import PyProof.StrOps2
import PyProof.FactsAll.str_4
import KE.KNest
import PySem.Challenge.RW_nearplace_k49_wishes_written
set_option Elab.async false
set_option linter.all false
set_option maxRecDepth 100000
namespace L2
open PySem PySem.Spec PyProof.Rows
/-- a key: an int or a str -/
abbrev Key := Sum Int Str
def keyIs : Key → Value → Bool
  | .inl k, v => Value.isInt k v
  | .inr x, v => Value.isStrOf x v
def keyH (w : World) : Key → Int
  | .inl k => hashInt k
  | .inr x => hashStr w x
theorem keyIs_shape : ∀ {k : Key} {v : Value}, keyIs k v = true → (∃ i t, k = Sum.inl i ∧ v = Value.int i t) ∨ (∃ x t, k = Sum.inr x ∧ v = Value.str x t)
  | .inl i, v, h => by
    obtain ⟨t, e⟩ := Value.isInt_shape (k := i) (v := v) h
    exact .inl ⟨i, t, rfl, e⟩
  | .inr x, v, h => by
    obtain ⟨t, e⟩ := Value.isStrOf_shape (x := x) (v := v) h
    exact .inr ⟨x, t, rfl, e⟩
theorem key_ll (a b : Int) : decide ((Sum.inl a : Key) = Sum.inl b) = (a == b) := by
  by_cases e : a = b
  · subst e; simp
  · have h : ¬ (Sum.inl a : Key) = Sum.inl b := fun q => e (Sum.inl.inj q)
    rw [decide_eq_false h]
    exact (beq_eq_false_iff_ne.mpr e).symm
theorem key_rr (a b : Str) : decide ((Sum.inr a : Key) = Sum.inr b) = decide (a = b) := by
  by_cases e : a = b
  · subst e; simp
  · have h : ¬ (Sum.inr a : Key) = Sum.inr b := fun q => e (Sum.inr.inj q)
    rw [decide_eq_false h, decide_eq_false e]
theorem key_lr (a : Int) (b : Str) : decide ((Sum.inl a : Key) = Sum.inr b) = false := decide_eq_false (fun q => nomatch q)
theorem key_rl (a : Str) (b : Int) : decide ((Sum.inr a : Key) = Sum.inl b) = false := decide_eq_false (fun q => nomatch q)

def mixKind (prog : Program) (w : World) : PySem.KeyKind prog w Key where
  is := keyIs
  hash := keyH w
  inj := fun v a b ha hb => by
    rcases keyIs_shape ha with ⟨i, t, rfl, rfl⟩ | ⟨x, t, rfl, rfl⟩
    · rcases keyIs_shape hb with ⟨j, u, rfl, e⟩ | ⟨y, u, rfl, e⟩
      · injection e with e1 _; rw [e1]
      · exact nomatch e
    · rcases keyIs_shape hb with ⟨j, u, rfl, e⟩ | ⟨y, u, rfl, e⟩
      · exact nomatch e
      · injection e with e1 _; rw [e1]
  byValue := fun k v h => by
    rcases keyIs_shape h with ⟨i, t, rfl, rfl⟩ | ⟨x, t, rfl, rfl⟩ <;> rfl
  pyHash := fun hv h => by
    rcases keyIs_shape hv with ⟨i, t, rfl, rfl⟩ | ⟨x, t, rfl, rfl⟩
    · exact wpAny_pyHash_int h
    · exact wpAny_pyHash_str h
  eqBool := fun hu hv h => by
    rcases keyIs_shape hu with ⟨i, t, rfl, rfl⟩ | ⟨x, t, rfl, rfl⟩
    · rcases keyIs_shape hv with ⟨j, u, rfl, rfl⟩ | ⟨y, u, rfl, rfl⟩
      · rw [key_ll] at h; exact wpAny_eqBool_int h
      · rw [key_lr] at h; exact SeqAt.EqAt.int_str i t y u _ _ _ _ h
    · rcases keyIs_shape hv with ⟨j, u, rfl, rfl⟩ | ⟨y, u, rfl, rfl⟩
      · rw [key_rl] at h; exact SeqAt.EqAt.str_int x t j u _ _ _ _ h
      · rw [key_rr] at h; exact wpAny_eqBool_str h
  «strs» := fun k x t v h => by
    rcases keyIs_shape h with ⟨i, u, rfl, e⟩ | ⟨y, u, rfl, e⟩
    · exact nomatch e
    · injection e with e1 _
      subst e1
      cases v <;> rfl

end L2
namespace L2
open PySem PySem.Spec PyProof.Rows
/-- a value, without the heap -/
inductive V where
  | non | bl (b : Bool) | int (i : Int) | str (x : Str) | byt (b : Array UInt8) | flt (b : UInt64) | ref (a : Addr) | ty (n : String)
  deriving DecidableEq

def RelV : V → Value → Prop
  | .non, u => u = Value.none
  | .bl b, u => u = Value.bool b
  | .int i, u => ∃ t, u = Value.int i t
  | .str x, u => ∃ t, u = Value.str x t
  | .byt b, u => ∃ t, u = Value.bytes b t
  | .flt b, u => ∃ t, u = Value.float b t
  | .ref a, u => u = Value.ref a
  | .ty n, u => u = Value.type n

abbrev Vals : List V → List Value → Prop := Paired RelV
theorem Vals.length {xs : List V} {us : List Value} (r : Vals xs us) : xs.length = us.length := Paired.length r
theorem Vals.get : ∀ {xs : List V} {us : List Value} {i : Nat} {x : V}, Vals xs us → xs[i]? = some x → ∃ u, us[i]? = some u ∧ RelV x u
  | _, _, _, _, .nil, e => by simp at e
  | _, _, 0, _, .cons r _, e => by simp at e; subst e; exact ⟨_, rfl, r⟩
  | _, _, i + 1, x, .cons _ t, e => by
    obtain ⟨u, h1, h2⟩ := Vals.get (i := i) (x := x) t (by simpa using e)
    exact ⟨u, by simpa using h1, h2⟩
theorem Vals.set {x : V} {u : Value} (r : RelV x u) : ∀ {xs : List V} {us : List Value} (i : Nat), Vals xs us → Vals (xs.set i x) (us.set i u)
  | _, _, _, .nil => .nil
  | _, _, 0, .cons _ t => .cons r t
  | _, _, i + 1, .cons q t => .cons q (Vals.set r i t)
theorem Vals.append : ∀ {xs ys : List V} {us ws : List Value}, Vals xs us → Vals ys ws → Vals (xs ++ ys) (us ++ ws)
  | _, _, _, _, .nil, s => s
  | _, _, _, _, .cons r t, s => .cons r (Vals.append t s)
theorem Vals.take : ∀ {xs : List V} {us : List Value} (n : Nat), Vals xs us → Vals (xs.take n) (us.take n)
  | _, _, 0, _ => .nil
  | _, _, _ + 1, .nil => .nil
  | _, _, n + 1, .cons r t => .cons r (Vals.take n t)
theorem Vals.drop : ∀ {xs : List V} {us : List Value} (n : Nat), Vals xs us → Vals (xs.drop n) (us.drop n)
  | _, _, 0, r => r
  | _, _, _ + 1, .nil => .nil
  | _, _, n + 1, .cons _ t => Vals.drop n t
def RelO : Option V → Option Value → Prop
  | some v, some u => RelV v u
  | none, none => True
  | _, _ => False
def KV {κ : Type} : List (κ × V) → List (κ × Value) → Prop := Paired fun (p : κ × V) (q : κ × Value) => p.1 = q.1 ∧ RelV p.2 q.2

/-- a key of a dict (00_mix): an int or a text -/
def kV : Key → V
  | .inl i => .int i
  | .inr x => .str x

/-- what stands at a tracked address -/
inductive HO where
  /-- a list -/
  | lst (xs : List V)
  /-- a tuple (never changes) -/
  | tup (xs : List V)
  /-- a dict whose keys are ints and texts; one whose keys are tuples of ints and texts (the empty one is both) -/
  | dK (kvs : List (Key × V)) | dT (kvs : List (List Key × V))
  /-- a set of ints: its members, its size -/
  | set (S : Int → Bool) (n : Nat)
  /-- an instance of the class at C, its dict at dx, its attributes -/
  | ins (C dx : Addr) (fs : List (Str × V))
  /-- the dict of the instance at x -/
  | own (x : Addr)
  /-- the dict of an exception -/
  | xd (fs : List (Str × V))
  /-- a bound method, f of x -/
  | met (f x : Addr)
  /-- a range object lo, lo + 1, .. below hi -/
  | rng (lo hi : Int)
  /-- a thing that is known to the object (the script; a dict while a loop walks it): read, never written while it is so -/
  | frz (o : Obj) (u : HO)
  /-- a code object's table -/
  | tbl (ps : Array Value)
  /-- any other thing, by what is true of its one object (a def of one's own: SetO a S n := HO.ext fun h => ..) -/
  | ext (φ : Heap → Prop)

abbrev Hp := Addr → Option HO
def upd (H : Hp) (a : Addr) (o : HO) : Hp := fun b => if b = a then some o else H b
theorem upd_same {H : Hp} {a : Addr} {o : HO} : upd H a o a = some o := by unfold upd; rw [if_pos rfl]
theorem upd_ne {H : Hp} {a b : Addr} {o : HO} (h : b ≠ a) : upd H a o b = H b := by unfold upd; rw [if_neg h]
theorem ne_of_none {H : Hp} {a b : Addr} {o : HO} (h : H a = some o) (h' : H b = none) : a ≠ b := by
  intro e; subst e; rw [h] at h'; cases h'

section
variable (P : Program) (w : World)
def ObjOk (H : Hp) (h : Heap) (a : Addr) : HO → Prop
  | .lst xs => xs.length ≤ sizeLine ∧ ∃ (its : List Value) (n : Nat), Vals xs its ∧ h.get? a = some { cls := .type "list", data := .seq its.toArray n }
  | .tup xs => xs.length ≤ sizeLine ∧ ∃ its : List Value, Vals xs its ∧ IsTup h a its.toArray
  | .dK kvs => kvs.length ≤ sizeLine ∧ (a == sysModules) = false ∧ ∃ vs, KV kvs vs ∧ h.DictOf (mixKind P w) a vs
  | .dT kvs => kvs.length ≤ sizeLine ∧ (a == sysModules) = false ∧ ∃ xs : List (List Key × Addr × Value),
      Paired (fun (p : List Key × V) (q : List Key × Addr × Value) => p.1 = q.1 ∧ H q.2.1 = some (.tup (p.1.map kV)) ∧ RelV p.2 q.2.2) kvs xs ∧
      ∃ o es ep, h.get? a = some o ∧ o.ExactDict ∧ o.data = .dict es ep ∧ es.toList = xs.map (entryOfKey (tupleKind (mixKind P w))) ∧ (xs.map (·.1)).Nodup
  | .set S n => h.SetOf (intKind P w) a S n
  | .ins C dx fs => H dx = some (.own a) ∧ fs.length ≤ 1000 ∧ dx ≠ a ∧ h.get? a = some (PySem.W.instObj C dx) ∧
      ∃ mA, h.Ns1 dx mA ∧ (∀ f, RelO (fs.lookup f) (mA f)) ∧ PySem.Within mA (fs.map (·.1))
  | .own _ => ∃ o, h.get? a = some o
  | .xd fs => ∃ mA, h.Ns1 a mA ∧ ∀ f, RelO (fs.lookup f) (mA f)
  | .rng lo hi => ∃ t u v, h.get? a = some { cls := .type "range", data := .fields #[.int lo t, .int hi u, .int 1 v] }
  | .frz o u => h.get? a = some o ∧ ObjOk H h a u
  | .tbl ps => h.get? a = some { cls := .none, data := .fields ps }
  | .met f x => h.get? a = some (PySem.W.methodObj (.ref f) (.ref x))
  | .ext φ => φ h ∧ (∃ o, h.get? a = some o) ∧ ∀ h1 h2 : Heap, φ h1 → (∀ o, h1.get? a = some o → h2.get? a = some o) → φ h2
/-- the abstract heap is held -/
def HOk (H : Hp) (h : Heap) : Prop := ∀ a o, H a = some o → ObjOk P w H h a o
end
section
variable {P : Program} {w : World} {H H' : Hp} {h h' : Heap} {a : Addr} {o : HO}
theorem ObjOk.lt (x : ObjOk P w H h a o) : a < h.objs.size := by
  cases o with
  | lst xs => obtain ⟨_, _, _, _, e⟩ := x; exact Heap.lt_size e
  | tup xs => obtain ⟨_, _, _, p⟩ := x; exact p.lt
  | dK kvs => obtain ⟨_, _, _, _, o, _, _, e, _⟩ := x; exact Heap.lt_size e
  | dT kvs => obtain ⟨_, _, _, _, o, _, _, e, _⟩ := x; exact Heap.lt_size e
  | set S n => obtain ⟨o, _, _, _, e, _⟩ := x; exact Heap.lt_size e
  | ins C dx fs => obtain ⟨_, _, _, e, _⟩ := x; exact Heap.lt_size e
  | own y => obtain ⟨_, e⟩ := x; exact Heap.lt_size e
  | xd fs => obtain ⟨_, ⟨_, _, _, e, _⟩, _⟩ := x; exact Heap.lt_size e
  | rng lo hi => obtain ⟨_, _, _, e⟩ := x; exact Heap.lt_size e
  | frz ob u => obtain ⟨e, _⟩ := x; exact Heap.lt_size e
  | tbl ps => exact Heap.lt_size (show h.get? a = some _ from x)
  | met f y => exact Heap.lt_size (show h.get? a = some _ from x)
  | ext φ => obtain ⟨_, ⟨_, e⟩, _⟩ := x; exact Heap.lt_size e
theorem Paired.mapP {α β : Type} {F G : α → β → Prop} : ∀ {l₁ : List α} {l₂ : List β}, Paired F l₁ l₂ → (∀ a b, F a b → G a b) → Paired G l₁ l₂
  | _, _, .nil, _ => .nil
  | _, _, .cons r t, f => .cons (f _ _ r) (Paired.mapP t f)
/-- what an object's description leans on: its own object, its own dict, the tuples -/
theorem ObjOk.stay (x : ObjOk P w H h a o) (k : ∀ b u, (b = a ∨ H b = some (.own a)) → h.get? b = some u → h'.get? b = some u)
    (ho : ∀ b, H b = some (.own a) → H' b = some (.own a)) (ht : ∀ b xs, H b = some (.tup xs) → H' b = some (.tup xs)) : ObjOk P w H' h' a o := by
  induction o with
  | lst xs => obtain ⟨z, its, n, r, e⟩ := x; exact ⟨z, its, n, r, k _ _ (.inl rfl) e⟩
  | tup xs => obtain ⟨z, its, r, ob, e, c⟩ := x; exact ⟨z, its, r, ob, k _ _ (.inl rfl) e, c⟩
  | dK kvs => obtain ⟨z, y, vs, r, ob, es, ep, e, c⟩ := x; exact ⟨z, y, vs, r, ob, es, ep, k _ _ (.inl rfl) e, c⟩
  | dT kvs =>
    obtain ⟨z, y, xs, r, ob, es, ep, e, c⟩ := x
    exact ⟨z, y, xs, Paired.mapP r fun p q z => ⟨z.1, ht _ _ z.2.1, z.2.2⟩, ob, es, ep, k _ _ (.inl rfl) e, c⟩
  | set S n => obtain ⟨ob, es, ep, t, e, c⟩ := x; exact ⟨ob, es, ep, t, k _ _ (.inl rfl) e, c⟩
  | ins C dx fs =>
    obtain ⟨d, z, ne, e, mA, ⟨od, es, ep, e2, c⟩, r⟩ := x
    exact ⟨ho _ d, z, ne, k _ _ (.inl rfl) e, mA, ⟨od, es, ep, k _ _ (.inr d) e2, c⟩, r⟩
  | own y => obtain ⟨ob, e⟩ := x; exact ⟨ob, k _ _ (.inl rfl) e⟩
  | xd fs => obtain ⟨mA, ⟨od, es, ep, e, c⟩, r⟩ := x; exact ⟨mA, ⟨od, es, ep, k _ _ (.inl rfl) e, c⟩, r⟩
  | rng lo hi => obtain ⟨t, u, v, e⟩ := x; exact ⟨t, u, v, k _ _ (.inl rfl) e⟩
  | frz ob u ih => obtain ⟨e, q⟩ := x; exact ⟨k _ _ (.inl rfl) e, ih q⟩
  | tbl ps =>
    have e : h.get? a = some { cls := .none, data := .fields ps } := x
    show h'.get? a = some { cls := .none, data := .fields ps }
    exact k a _ (.inl rfl) e
  | met f y =>
    have e : h.get? a = some (PySem.W.methodObj (.ref f) (.ref y)) := x
    show h'.get? a = some (PySem.W.methodObj (.ref f) (.ref y))
    exact k a _ (.inl rfl) e
  | ext φ => obtain ⟨p, ⟨o, e⟩, st⟩ := x; exact ⟨st _ _ p fun o q => k _ _ (.inl rfl) q, ⟨o, k _ _ (.inl rfl) e⟩, st⟩
theorem HOk.lt (x : HOk P w H h) (e : H a = some o) : a < h.objs.size := (x a o e).lt
theorem HOk.fresh (x : HOk P w H h) (e : h.objs.size ≤ a) : H a = none := by
  cases q : H a with
  | none => rfl
  | some u => exact absurd (Nat.lt_of_lt_of_le (x.lt q) e) (Nat.lt_irrefl _)
/-- every object of the heap is kept -/
theorem HOk.kept (x : HOk P w H h) (k : ∀ b u, h.get? b = some u → h'.get? b = some u) : HOk P w H h' := fun a o e =>
  (x a o e).stay (fun b u _ q => k b u q) (fun _ q => q) fun _ _ q => q
/-- a new object is laid and tracked -/
theorem HOk.laid (x : HOk P w H h) (k : ∀ b u, h.get? b = some u → h'.get? b = some u) (hp : h.objs.size ≤ a) (new : ObjOk P w (upd H a o) h' a o) : HOk P w (upd H a o) h' := fun b u e => by
  have hn := x.fresh hp
  by_cases hb : b = a
  · subst hb; rw [upd_same] at e; cases e; exact new
  · rw [upd_ne hb] at e
    exact (x b u e).stay (fun c v _ q => k c v q) (fun c q => by rw [upd_ne (ne_of_none q hn)]; exact q) fun c xs q => by rw [upd_ne (ne_of_none q hn)]; exact q
end
/-- what may be read as u: it is u, or a known u -/
def Rd (H : Hp) (a : Addr) (u : HO) : Prop := H a = some u ∨ ∃ o, H a = some (.frz o u)
theorem Rd.of {H : Hp} {a : Addr} {u : HO} (h : H a = some u) : Rd H a u := .inl h
theorem Rd.ok {P : Program} {w : World} {H : Hp} {h : Heap} {a : Addr} {u : HO} (r : Rd H a u) (x : HOk P w H h) : ObjOk P w H h a u := by
  rcases r with r | ⟨o, r⟩
  · exact x a u r
  · obtain ⟨_, q⟩ := x a _ r
    exact q
/-- what may be written -/
def Mut : Option HO → Prop
  | some (.lst _) => True
  | some (.dK _) => True
  | some (.dT _) => True
  | some (.set _ _) => True
  | some (.ins _ _ _) => True
  | some (.ext _) => True
  | _ => False
section
variable {P : Program} {w : World} {H : Hp} {h h' : Heap} {x e : Addr} {o' : HO}
/-- the object at e is changed: x itself, or the dict of the instance x -/
theorem HOk.write (ok : HOk P w H h) (mu : Mut (H x)) (he : e = x ∨ H e = some (.own x)) (k : ∀ b u, b ≠ e → h.get? b = some u → h'.get? b = some u) (heo : ∃ u, h'.get? e = some u)
    (new : ObjOk P w (upd H x o') h' x o') : HOk P w (upd H x o') h' := fun b u q => by
  have nown : ∀ c y, H c = some (.own y) → c ≠ x := fun c y r z => by subst z; rw [r] at mu; exact mu
  have ntup : ∀ c xs, H c = some (.tup xs) → c ≠ x := fun c xs r z => by subst z; rw [r] at mu; exact mu
  by_cases hb : b = x
  · subst hb; rw [upd_same] at q; cases q; exact new
  · rw [upd_ne hb] at q
    by_cases hbe : b = e
    · have q' : H b = some (.own x) := by
        rcases he with z | z
        · exact absurd (hbe.trans z) hb
        · rw [hbe]; exact z
      rw [q] at q'; cases q'
      obtain ⟨v, hv⟩ := heo
      exact ⟨v, by rw [hbe]; exact hv⟩
    · refine (ok b u q).stay (fun c v hc r => k c v ?_ r) (fun c r => by rw [upd_ne (nown c b r)]; exact r) fun c xs r => by rw [upd_ne (ntup c xs r)]; exact r
      rcases hc with rfl | hc
      · exact hbe
      · rintro rfl
        rcases he with z | z
        · exact nown c b hc z
        · rw [hc] at z; cases z; exact hb rfl
end
structure Un (fs ex : List Addr) (H H' : Hp) (h h' : Heap) : Prop where
  keep : ∀ b o, h.get? b = some o → H b = none → b ∉ fs → b ∉ ex → h'.get? b = some o
  slot : ∀ b o, h.get? b = some o → H b = none → b ∈ fs → b ∉ ex → ∃ sl, h'.get? b = some { o with slots := sl }
  free : ∀ b o, h.get? b = some o → H b = none → b ∉ ex → H' b = none
  there : ∀ b o, h.get? b = some o → b ∉ ex → ∃ o', h'.get? b = some o'
  tups : ∀ b xs, H b = some (.tup xs) → H' b = some (.tup xs)
  frzs : ∀ b o u, H b = some (.frz o u) → H' b = some (.frz o u)
  tbls : ∀ b ps, H b = some (.tbl ps) → ∃ more, H' b = some (.tbl (ps ++ more))
section
variable {fs fs' ex ex' : List Addr} {H H1 H2 : Hp} {h h1 h2 h' : Heap} {a x e : Addr} {o : HO}
theorem Un.any (u : Un fs ex H H1 h h1) {b : Addr} {ob : Obj} (q : h.get? b = some ob) (n : H b = none) (hx : b ∉ ex) : ∃ sl, h1.get? b = some { ob with slots := sl } := by
  by_cases hb : b ∈ fs
  · exact u.slot b ob q n hb hx
  · exact ⟨ob.slots, u.keep b ob q n hb hx⟩
theorem Un.trans (a : Un fs ex H H1 h h1) (b : Un fs ex H1 H2 h1 h2) : Un fs ex H H2 h h2 where
  keep := fun c ob q n hc hx => b.keep c ob (a.keep c ob q n hc hx) (a.free c ob q n hx) hc hx
  slot := fun c ob q n hc hx => by
    obtain ⟨sl, e1⟩ := a.slot c ob q n hc hx
    obtain ⟨sl', e2⟩ := b.slot c _ e1 (a.free c ob q n hx) hc hx
    exact ⟨sl', e2⟩
  free := fun c ob q n hx => by
    obtain ⟨o', e1⟩ := a.there c ob q hx
    exact b.free c o' e1 (a.free c ob q n hx) hx
  there := fun c ob q hx => by
    obtain ⟨o', e1⟩ := a.there c ob q hx
    exact b.there c o' e1 hx
  tups := fun c xs q => b.tups c xs (a.tups c xs q)
  frzs := fun c ob xs q => b.frzs c ob xs (a.frzs c ob xs q)
  tbls := fun c ps q => by
    obtain ⟨m1, e1⟩ := a.tbls c ps q
    obtain ⟨m2, e2⟩ := b.tbls c _ e1
    exact ⟨m1 ++ m2, by rw [e2, Array.append_assoc]⟩
theorem Un.kept (k : ∀ b u, h.get? b = some u → h'.get? b = some u) : Un fs ex H H h h' :=
  ⟨fun b ob q _ _ _ => k b ob q, fun b ob q _ _ _ => ⟨ob.slots, k b ob q⟩, fun _ _ _ n _ => n, fun b ob q _ => ⟨ob, k b ob q⟩, fun _ _ q => q, fun _ _ _ q => q, fun _ ps q => ⟨#[], by rw [q]; simp⟩⟩
theorem Un.refl : Un fs ex H H h h := Un.kept fun _ _ q => q
theorem Un.laid (k : ∀ b u, h.get? b = some u → h'.get? b = some u) (hp : h.objs.size ≤ a) (hn : H a = none) : Un fs ex H (upd H a o) h h' where
  keep := fun b u q _ _ _ => k b u q
  slot := fun b u q _ _ _ => ⟨u.slots, k b u q⟩
  free := fun b u q n _ => by rw [upd_ne (Nat.ne_of_lt (Nat.lt_of_lt_of_le (Heap.lt_size q) hp))]; exact n
  there := fun b u q _ => ⟨u, k b u q⟩
  tups := fun b xs q => by rw [upd_ne (ne_of_none q hn)]; exact q
  frzs := fun b u xs q => by rw [upd_ne (ne_of_none q hn)]; exact q
  tbls := fun b ps q => ⟨#[], by rw [upd_ne (ne_of_none q hn), q]; simp⟩
theorem Un.write (mu : Mut (H x)) (he : e = x ∨ H e = some (.own x)) (k : ∀ b u, b ≠ e → h.get? b = some u → h'.get? b = some u) (heo : ∃ u, h'.get? e = some u) : Un fs ex H (upd H x o) h h' := by
  have hx : ∀ b, H b = none → b ≠ x := fun b n z => by subst z; rw [n] at mu; exact mu
  have hb : ∀ b, H b = none → b ≠ e := fun b n z => by
    subst z
    rcases he with r | r
    · exact hx b n r
    · rw [n] at r; cases r
  have hm : ∀ b u, H b = some u → ¬ Mut (some u) → b ≠ x := fun b u q nm z => by subst z; rw [q] at mu; exact nm mu
  refine ⟨fun b u q n _ _ => k b u (hb b n) q, fun b u q n _ _ => ⟨u.slots, k b u (hb b n) q⟩, fun b u q n _ => by rw [upd_ne (hx b n)]; exact n, fun b u q _ => ?_,
    fun b xs q => by rw [upd_ne (hm b _ q fun z => z)]; exact q, fun b u xs q => by rw [upd_ne (hm b _ q fun z => z)]; exact q, fun b ps q => ⟨#[], by rw [upd_ne (hm b _ q fun z => z), q]; simp⟩⟩
  by_cases hbe : b = e
  · subst hbe; exact heo
  · exact ⟨u, k b u hbe q⟩
theorem Un.mono (u : Un fs ex H H1 h h1) (hs : ∀ b ∈ fs, b ∈ fs') (hx : ∀ b ∈ ex, b ∈ ex') : Un fs' ex' H H1 h h1 :=
  ⟨fun b ob q n hb he => u.keep b ob q n (fun z => hb (hs b z)) fun z => he (hx b z), fun _ _ q n _ he => u.any q n fun z => he (hx _ z), fun b ob q n he => u.free b ob q n fun z => he (hx b z), fun b ob q he => u.there b ob q fun z => he (hx b z), u.tups, u.frzs, u.tbls⟩
end
def trk (h : Heap) (H : Hp) : List Addr := (List.range h.objs.size).filter fun a => (H a).isSome
def hidT (h : Heap) (H : Hp) : Heap := PySem.W.hideAll h (trk h H)
theorem hidT_size (h : Heap) (H : Hp) : (hidT h H).objs.size = h.objs.size := PySem.W.hideAll_size _ _
theorem hidT_get {h : Heap} {H : Hp} {b : Addr} {o : Obj} (e : h.get? b = some o) (n : H b = none) : (hidT h H).get? b = some o :=
  PySem.W.hideAll_get _ e fun hm => by
    have q : (H b).isSome = true := (List.mem_filter.mp hm).2
    rw [n] at q; simp at q
theorem of_hidT {h : Heap} {H : Hp} {b : Addr} {o : Obj} (e : (hidT h H).get? b = some o) : h.get? b = some o ∧ H b = none := by
  have e' : h.get? b = some o := PySem.W.of_hideAll (trk h H) e
  refine ⟨e', ?_⟩
  cases q : H b with
  | none => rfl
  | some x =>
    have hm : b ∈ trk h H := List.mem_filter.mpr ⟨List.mem_range.mpr (Heap.lt_size e'), by simp [q]⟩
    have z : (hidT h H).get? b = none := PySem.W.hideAll_none (trk h H) hm
    rw [z] at e; cases e

def allNews (g h : Heap) (L : Addr) : List (Addr × Obj) := (List.range h.objs.size).filterMap fun a => if a = L ∨ (g.get? a).isSome = true then none else (h.get? a).map fun o => (a, o)
def rest (g h : Heap) (L d : Addr) : List (Addr × Obj) := (allNews g h L).filter fun p => decide (p.1 ≠ d)
end L2
namespace L2
open PySem PySem.Spec PyProof.Rows
/-- the module's facts, over the base: the heap at the law's entry without what is tracked there -/
structure Mod (K : PySem.W.Frag) (mg : Str → Option Value) (base : Heap) : Prop where
  kin : K.In base
  glob : base.Ns mainGlobals mg
  blt : ∃ mb, base.Ns builtinsNs mb ∧ ∀ x : Str, x ≠ "__name__" → mb x = bootBuiltins x
  nolimit : base.NoLimit

/-- the context: a def's body (or a comprehension's block) running. base: fixed through the whole law; s₀, H₀: the entry; outer: the frames whose slots others may change (a def's callers); stack: all frames that run;
   ex: iterators that were made ahead of the entry and are walked here (a comprehension's); fn: the names whose cells were made at the entry (a def: all; a comprehension's block: its own); calm: not within an except suite; pn: pins that every state bears; xe: what is wanted of an exception that leaves the code -/
structure Cx where
  prog : Program
  w : World
  K : PySem.W.Frag
  mg : Str → Option Value
  base : Heap
  A : Around
  N : List Str
  s_0 : Shared
  H_0 : Hp
  env : Env
  outer : List Env
  stack : List Env
  ex : List Addr
  fn : Str → Bool
  calm : Bool
  pn : List (Addr × Obj)
  xe : Value → Shared → Prop
  gp : Array GenState → Drawn → Prop
/-- the callers' frames -/
def frs (l : List Env) : List Addr := l.filterMap (·.frame)
abbrev Cx.fs (X : Cx) : List Addr := frs X.outer

def Vis (sc : Scope) (x : Str) : Prop := sc.names.lookup x = some .local ∨ sc.names.lookup x = some .cell ∨ sc.names.lookup x = some .free
def Loc (sc : Scope) (x : Str) : Prop := sc.names.lookup x = some .local ∨ sc.names.lookup x = some .cell
def Look (env : Env) (h : Heap) (m : Str → Option Value) (x : Str) (u : Value) : Prop :=
  (env.kindOf x = some .local ∧ m x = some u) ∨ ((env.kindOf x = some .cell ∨ env.kindOf x = some .free) ∧ ∃ c, env.cells.lookup x = some c ∧ h.IsCell c (some u))

structure Cx.Ok (X : Cx) : Prop where
  mod : Mod X.K X.mg X.base
  kind : X.env.scope.kind = .function
  glob : X.env.globals = mainGlobals
  blt : X.env.builtins = builtinsNs
  above : X.s_0.heap.objs.size ≤ X.env.locals
  inj : ∀ x y c, X.env.cells.lookup x = some c → X.env.cells.lookup y = some c → x = y
  has : ∀ x, (X.env.kindOf x = some .cell ∨ X.env.kindOf x = some .free) → ∃ c, X.env.cells.lookup x = some c
  cab : ∀ x c, X.fn x = true → X.env.cells.lookup x = some c → X.s_0.heap.objs.size ≤ c
  hd : X.calm = true → X.A.handled = none
  frames : (∀ g d, X.gp g d ↔ AllBare g) → X.A.frames = some X.stack ∧ X.A.guards = some []
  stk : X.stack = X.outer ∨ (X.stack = X.env :: X.outer ∧ X.env.frame = some X.env.locals)
  exf : ∀ b ∈ X.ex, b ≠ X.env.locals ∧ ∀ x c, X.env.cells.lookup x = some c → c ≠ b
  bs : ∀ b o, X.base.get? b = some o → X.s_0.heap.get? b = some o ∧ X.H_0 b = none
  bsz : X.base.objs.size ≤ X.s_0.heap.objs.size
  noex : ∀ b o, X.base.get? b = some o → b ∉ X.ex
  exfs : ∀ b ∈ X.ex, b ∉ X.fs
  funs : X.s_0.heap.FunFrames X.base X.outer
  frf : ∀ b ∈ X.fs, X.H_0 b = none

structure Inv (X : Cx) (pins : List (Addr × Obj)) (σ : List (Option V)) (H : Hp) (s : Shared) : Prop where
  ok : X.Ok
  os : s.os = X.s_0.os
  bare : X.gp s.gens s.drawn
  base : Un X.fs X.ex X.H_0 H X.s_0.heap s.heap
  loc : ∃ m, s.heap.Ns X.env.locals m ∧ ∀ (i : Nat) (x : Str) (v : V), X.N[i]? = some x → σ[i]? = some (some v) → Vis X.env.scope x → ∃ u, RelV v u ∧ Look X.env s.heap m x u
  cell : ∀ x c, X.env.cells.lookup x = some c → ∃ v, s.heap.IsCell c v
  free : H X.env.locals = none
  freeC : ∀ x c, X.env.cells.lookup x = some c → H c = none
  pin : ∀ p ∈ X.pn ++ pins, s.heap.get? p.1 = some p.2 ∧ H p.1 = none ∧ p.1 ≠ X.env.locals ∧ p.1 ∉ X.fs ∧ ∀ v, p.2.data ≠ .cell v
  hok : HOk X.prog X.w H s.heap
  len : σ.length = X.N.length

section
variable {X : Cx} {pins : List (Addr × Obj)} {σ : List (Option V)} {H H' : Hp} {s : Shared} {h' : Heap}
theorem Cx.Ok.nofr (ok : X.Ok) {b : Addr} {o : Obj} (e : X.base.get? b = some o) : b ∉ X.fs := fun hb => by
  have := (ok.funs.mem hb).1
  rw [e] at this; cases this
theorem Inv.bs (I : Inv X pins σ H s) : ∀ b o, X.base.get? b = some o → s.heap.get? b = some o ∧ H b = none := fun b o e =>
  ⟨I.base.keep b o (I.ok.bs b o e).1 (I.ok.bs b o e).2 (I.ok.nofr e) (I.ok.noex b o e), I.base.free b o (I.ok.bs b o e).1 (I.ok.bs b o e).2 (I.ok.noex b o e)⟩
theorem Inv.bk (I : Inv X pins σ H s) : ∀ b o, X.base.get? b = some o → s.heap.get? b = some o := fun b o e => (I.bs b o e).1
theorem Inv.mod (I : Inv X pins σ H s) : Mod X.K X.mg X.base := I.ok.mod
theorem Inv.kIn (I : Inv X pins σ H s) : X.K.In s.heap := I.ok.mod.kin.keeps I.bk
theorem Inv.nolimit (I : Inv X pins σ H s) : s.heap.NoLimit := I.ok.mod.nolimit.keeps I.bk
/-- the frame over the base: for OpenK's rules (K.In X.base is I.mod.kin) -/
theorem Inv.fr (I : Inv X pins σ H s) : ∃ m, Fr X.base X.env.locals s.heap m :=
  let ⟨m, hn, _⟩ := I.loc
  ⟨m, hn, I.bk, Nat.le_trans I.ok.bsz I.ok.above⟩
theorem Inv.lt (I : Inv X pins σ H s) : X.env.locals < s.heap.objs.size := let ⟨_, hn, _⟩ := I.loc; hn.lt
theorem Inv.sz (I : Inv X pins σ H s) : X.s_0.heap.objs.size ≤ s.heap.objs.size := Nat.le_trans I.ok.above (Nat.le_of_lt I.lt)
theorem Inv.nofs (I : Inv X pins σ H s) {a : Addr} (h : s.heap.objs.size ≤ a) : a ∉ X.fs := fun hb => by
  obtain ⟨_, o, ho, _⟩ := I.ok.funs.mem hb
  exact absurd (Nat.lt_of_lt_of_le (Heap.lt_size ho) (Nat.le_trans I.sz h)) (Nat.lt_irrefl _)
theorem Inv.cne (I : Inv X pins σ H s) : ∀ x c, X.env.cells.lookup x = some c → c ≠ X.env.locals := fun x c e z => by
  obtain ⟨v, o, ho, hd⟩ := I.cell x c e
  obtain ⟨m, ⟨o', es, ep, ho', hd', _⟩, _⟩ := I.loc
  rw [z, ho'] at ho; cases ho; rw [hd'] at hd; cases hd
theorem Inv.funs (I : Inv X pins σ H s) : s.heap.FunFrames X.base X.outer := by
  have all : ∀ (l : List Env), (∀ b ∈ frs l, b ∈ X.fs) → X.s_0.heap.FunFrames X.base l → s.heap.FunFrames X.base l := by
    intro l
    induction l with
    | nil => intro _ _; trivial
    | cons env r ih =>
      intro hs hl
      obtain ⟨hk, ⟨L, o, hf, hn, ho, hd⟩, hr⟩ := hl
      have hL : L ∈ X.fs := hs L (by unfold frs; rw [List.filterMap_cons, hf]; exact List.mem_cons_self)
      obtain ⟨sl, e⟩ := I.base.slot L o ho (I.ok.frf L hL) hL fun z => I.ok.exfs L z hL
      exact ⟨hk, ⟨L, _, hf, hn, e, hd⟩, ih (fun b hb => hs b (by unfold frs; rw [List.filterMap_cons, hf]; exact List.mem_cons_of_mem _ hb)) hr⟩
  exact all X.outer (fun _ hb => hb) I.ok.funs

/-- the frames that run, for a call -/
theorem Inv.stack (I : Inv X pins σ H s) : s.heap.FunFrames X.base X.stack := by
  rcases I.ok.stk with e | ⟨e, hf⟩
  · rw [e]; exact I.funs
  · rw [e]
    obtain ⟨m, hn, _⟩ := I.loc
    refine .cons (by rw [I.ok.kind]; decide) hf hn ?_ I.funs
    exact Heap.get?_none_of_le (Nat.le_trans I.ok.bsz I.ok.above)
theorem Inv.stkSub (I : Inv X pins σ H s) : ∀ b ∈ frs X.stack, b ∈ X.env.locals :: X.fs := fun b hb => by
  rcases I.ok.stk with e | ⟨e, hf⟩
  · rw [e] at hb; exact List.mem_cons_of_mem _ hb
  · rw [e] at hb
    unfold frs at hb
    rw [List.filterMap_cons, hf] at hb
    exact hb
theorem Inv.stkFree (I : Inv X pins σ H s) : ∀ b ∈ frs X.stack, H b = none := fun b hb => by
  rcases List.mem_cons.mp (I.stkSub b hb) with e | hb
  · rw [e]; exact I.free
  · obtain ⟨_, o, ho, _⟩ := I.ok.funs.mem hb
    exact I.base.free b o ho (I.ok.frf b hb) fun z => I.ok.exfs b z hb

/-- THE STEP: the untracked objects but the frame and the records at ch are kept (the callers' frames up to slots), the frame's map is kept, the new abstract heap is held -/
theorem Inv.step {g' : Array GenState} {t' : Nat} {d' : Drawn} {ch : List Addr} (I : Inv X pins σ H s)
    (hch : ∀ b ∈ ch, (b ∈ X.ex ∨ X.s_0.heap.objs.size ≤ b) ∧ b ≠ X.env.locals ∧ (∀ x c, X.env.cells.lookup x = some c → c ≠ b) ∧ ∀ p ∈ X.pn ++ pins, p.1 ≠ b)
    (keep : ∀ b o, b ≠ X.env.locals → b ∉ X.fs → b ∉ ch → s.heap.get? b = some o → H b = none → h'.get? b = some o)
    (slot : ∀ b o, b ≠ X.env.locals → b ∈ X.fs → b ∉ ch → s.heap.get? b = some o → H b = none → ∃ sl, h'.get? b = some { o with slots := sl }) (free : ∀ b o, b ∉ ch → s.heap.get? b = some o → H b = none → H' b = none)
    (there : ∀ b o, b ∉ ch → s.heap.get? b = some o → ∃ o', h'.get? b = some o')
    (tups : ∀ b xs, H b = some (.tup xs) → H' b = some (.tup xs)) (frzs : ∀ b o u, H b = some (.frz o u) → H' b = some (.frz o u)) (tbls : ∀ b ps, H b = some (.tbl ps) → ∃ more, H' b = some (.tbl (ps ++ more)))
    (ns : ∀ m, s.heap.Ns X.env.locals m → h'.Ns X.env.locals m) (hok : HOk X.prog X.w H' h') (hg : X.gp g' d') :
    Inv X pins σ H' { s with heap := h', gens := g', drawn := d', toks := t' } := by
  have neL : ∀ b o, X.s_0.heap.get? b = some o → b ≠ X.env.locals := fun b o e => Nat.ne_of_lt (Nat.lt_of_lt_of_le (Heap.lt_size e) I.ok.above)
  have neC : ∀ b o, X.s_0.heap.get? b = some o → b ∉ X.ex → b ∉ ch := fun b o e hx hb => by
    rcases (hch b hb).1 with z | z
    · exact hx z
    · exact absurd (Nat.lt_of_lt_of_le (Heap.lt_size e) z) (Nat.lt_irrefl _)
  have cellK : ∀ x c, X.env.cells.lookup x = some c → ∀ v, s.heap.IsCell c v → h'.IsCell c v := fun x c e v ⟨o, ho, hd⟩ => by
    have nch : c ∉ ch := fun z => (hch c z).2.2.1 x c e rfl
    by_cases hc : c ∈ X.fs
    · obtain ⟨sl, q⟩ := slot c o (I.cne x c e) hc nch ho (I.freeC x c e)
      exact ⟨_, q, hd⟩
    · exact ⟨o, keep c o (I.cne x c e) hc nch ho (I.freeC x c e), hd⟩
  refine ⟨I.ok, I.os, hg, ⟨fun b o e n hb hx => ?_, fun b o e n hb hx => ?_, fun b o e n hx => ?_, fun b o e hx => ?_, fun b xs e => tups b xs (I.base.tups b xs e), fun b o xs e => frzs b o xs (I.base.frzs b o xs e), fun b ps e => ?_⟩, ?_, fun x c e => ?_, ?_, fun x c e => ?_, fun p hp => ?_, hok, I.len⟩
  · exact keep b o (neL b o e) hb (neC b o e hx) (I.base.keep b o e n hb hx) (I.base.free b o e n hx)
  · obtain ⟨sl, e1⟩ := I.base.slot b o e n hb hx
    obtain ⟨sl', e2⟩ := slot b _ (neL b o e) hb (neC b o e hx) e1 (I.base.free b o e n hx)
    exact ⟨sl', e2⟩
  · obtain ⟨o', e1⟩ := I.base.there b o e hx
    exact free b o' (neC b o e hx) e1 (I.base.free b o e n hx)
  · obtain ⟨o', e1⟩ := I.base.there b o e hx
    exact there b o' (neC b o e hx) e1
  · obtain ⟨m1, e1⟩ := I.base.tbls b ps e
    obtain ⟨m2, e2⟩ := tbls b _ e1
    exact ⟨m1 ++ m2, by rw [e2, Array.append_assoc]⟩
  · obtain ⟨m, hn, hl⟩ := I.loc
    refine ⟨m, ns m hn, fun i x v e1 e2 e3 => ?_⟩
    obtain ⟨u, r, l⟩ := hl i x v e1 e2 e3
    refine ⟨u, r, ?_⟩
    rcases l with l | ⟨k, c, e, z⟩
    · exact .inl l
    · exact .inr ⟨k, c, e, cellK x c e _ z⟩
  · obtain ⟨v, z⟩ := I.cell x c e
    exact ⟨v, cellK x c e v z⟩
  · obtain ⟨m, ⟨o, _, _, ho, _⟩, _⟩ := I.loc
    exact free _ o (fun z => (hch _ z).2.1 rfl) ho I.free
  · obtain ⟨v, o, ho, hd⟩ := I.cell x c e
    exact free c o (fun z => (hch c z).2.2.1 x c e rfl) ho (I.freeC x c e)
  · obtain ⟨e, n, ne, nf, d⟩ := I.pin p hp
    have nch : p.1 ∉ ch := fun z => (hch p.1 z).2.2.2 p hp rfl
    exact ⟨keep p.1 p.2 ne nf nch e n, free p.1 p.2 nch e n, ne, nf, d⟩
/-- .. where the frame's own object is kept too -/
theorem Inv.un {t' : Nat} (I : Inv X pins σ H s) (u : Un X.fs [] H H' s.heap h') (hok : HOk X.prog X.w H' h') : Inv X pins σ H' { s with heap := h', toks := t' } := by
  obtain ⟨m, ⟨o, es, ep, ho, r⟩, _⟩ := id I.loc
  obtain ⟨sl, hL⟩ := u.any ho I.free (by simp)
  exact I.step (g' := s.gens) (d' := s.drawn) (ch := []) (fun _ z => nomatch z) (fun b o _ hb _ e n => u.keep b o e n hb (by simp)) (fun b o _ hb _ e n => u.slot b o e n hb (by simp)) (fun b o _ e n => u.free b o e n (by simp)) (fun b o _ e => u.there b o e (by simp)) u.tups u.frzs u.tbls (fun m' hm => by
    obtain ⟨o', es', ep', ho', r'⟩ := hm
    rw [ho] at ho'; cases ho'
    exact ⟨_, es', ep', hL, r'⟩) hok I.bare
/-- behind a call (or a comprehension's block): the slots of this frame may have changed too, the records at ch may have turned -/
theorem Inv.call {g' : Array GenState} {t' : Nat} {d' : Drawn} {ch : List Addr} (I : Inv X pins σ H s) (u : Un (frs X.stack) ch H H' s.heap h') (hok : HOk X.prog X.w H' h') (hg : X.gp g' d')
    (hch : ∀ b ∈ ch, (b ∈ X.ex ∨ X.s_0.heap.objs.size ≤ b) ∧ b ≠ X.env.locals ∧ (∀ x c, X.env.cells.lookup x = some c → c ≠ b) ∧ ∀ p ∈ X.pn ++ pins, p.1 ≠ b) :
    Inv X pins σ H' { s with heap := h', gens := g', drawn := d', toks := t' } := by
  obtain ⟨m, ⟨o, es, ep, ho, r⟩, _⟩ := id I.loc
  obtain ⟨sl, hL⟩ := u.any ho I.free fun z => (hch _ z).2.1 rfl
  exact I.step (ch := ch) hch (fun b o hL hb hc e n => u.keep b o e n (fun z => (List.mem_cons.mp (I.stkSub b z)).elim hL hb) hc) (fun b o _ _ hc e n => u.any e n hc) (fun b o hc e n => u.free b o e n hc) (fun b o hc e => u.there b o e hc) u.tups u.frzs u.tbls (fun m' hm => by
    obtain ⟨o', es', ep', ho', r'⟩ := hm
    rw [ho] at ho'; cases ho'
    exact ⟨_, es', ep', hL, r'⟩) hok hg
/-- an untracked record of ours (an iterator) has turned -/
theorem Inv.turned {t' : Nat} {it : Addr} (I : Inv X pins σ H s) (k : ∀ b o, b ≠ it → s.heap.get? b = some o → h'.get? b = some o) (hn : H it = none) (hL : it ≠ X.env.locals)
    (h1 : it ∈ X.ex ∨ X.s_0.heap.objs.size ≤ it) (h2 : ∀ x c, X.env.cells.lookup x = some c → c ≠ it) (h3 : ∀ p ∈ X.pn ++ pins, p.1 ≠ it) : Inv X pins σ H { s with heap := h', toks := t' } := by
  have nit : ∀ b u, H b = some u → b ≠ it := fun b u e z => by rw [z, hn] at e; cases e
  refine I.step (g' := s.gens) (d' := s.drawn) (ch := [it]) (fun b hb => ?_) (fun b o _ _ hc e _ => k b o (fun z => hc (by simp [z])) e) (fun b o _ _ hc e _ => ⟨o.slots, k b o (fun z => hc (by simp [z])) e⟩) (fun _ _ _ _ n => n)
    (fun b o hc e => ⟨o, k b o (fun z => hc (by simp [z])) e⟩) (fun _ _ e => e) (fun _ _ _ e => e) (fun b ps e => ⟨#[], by rw [e]; simp⟩) (fun m hm => ?_) (fun b u e => ?_) I.bare
  · have e : b = it := by simpa using hb
    subst e
    exact ⟨h1, hL, h2, h3⟩
  · obtain ⟨o, es, ep, ho, r⟩ := hm
    exact ⟨o, es, ep, k _ o (Ne.symm hL) ho, r⟩
  · refine (I.hok b u e).stay (fun c v hc q => k c v ?_ q) (fun _ q => q) fun _ _ q => q
    rcases hc with z | z
    · rw [z]; exact nit b u e
    · exact nit c _ z
theorem Inv.tok (I : Inv X pins σ H s) (t : Nat) : Inv X pins σ H { s with toks := t } := I.un (h' := s.heap) (t' := t) Un.refl I.hok
/-- all objects kept -/
theorem Inv.kept {t' : Nat} (I : Inv X pins σ H s) (k : ∀ b u, s.heap.get? b = some u → h'.get? b = some u) : Inv X pins σ H { s with heap := h', toks := t' } := I.un (Un.kept k) (I.hok.kept k)
/-- a new object laid and tracked -/
theorem Inv.laid {a : Addr} {o : HO} {t' : Nat} (I : Inv X pins σ H s) (k : ∀ b u, s.heap.get? b = some u → h'.get? b = some u) (hp : s.heap.objs.size ≤ a) (new : ObjOk X.prog X.w (upd H a o) h' a o) :
    Inv X pins σ (upd H a o) { s with heap := h', toks := t' } := I.un (Un.laid k hp (I.hok.fresh hp)) (I.hok.laid k hp new)
/-- an object written -/
theorem Inv.write {x e : Addr} {o : HO} {t' : Nat} (I : Inv X pins σ H s) (mu : Mut (H x)) (he : e = x ∨ H e = some (.own x)) (k : ∀ b u, b ≠ e → s.heap.get? b = some u → h'.get? b = some u) (heo : ∃ u, h'.get? e = some u)
    (new : ObjOk X.prog X.w (upd H x o) h' x o) : Inv X pins σ (upd H x o) { s with heap := h', toks := t' } := I.un (Un.write mu he k heo) (I.hok.write mu he k heo new)
/-- forgetting slots, pins -/
theorem Inv.weak {σ' : List (Option V)} (I : Inv X pins σ H s) (hl : σ'.length = σ.length) (w : ∀ (i : Nat) v, σ'[i]? = some (some v) → σ[i]? = some (some v)) : Inv X pins σ' H s :=
  ⟨I.ok, I.os, I.bare, I.base, let ⟨m, hn, hl'⟩ := I.loc; ⟨m, hn, fun i x v e1 e2 e3 => hl' i x v e1 (w i v e2) e3⟩, I.cell, I.free, I.freeC, I.pin, I.hok, hl.trans I.len⟩
theorem Inv.pins_of {pins' : List (Addr × Obj)} (I : Inv X pins σ H s) (h : ∀ p ∈ pins', s.heap.get? p.1 = some p.2 ∧ H p.1 = none ∧ p.1 ≠ X.env.locals ∧ p.1 ∉ X.fs ∧ ∀ v, p.2.data ≠ .cell v) : Inv X pins' σ H s :=
  ⟨I.ok, I.os, I.bare, I.base, I.loc, I.cell, I.free, I.freeC, fun p hp => (List.mem_append.mp hp).elim (fun z => I.pin p (List.mem_append_left _ z)) (h p), I.hok, I.len⟩

theorem nodup_ix {N : List Str} (hN : N.Nodup) {i j : Nat} {x : Str} (a : N[i]? = some x) (b : N[j]? = some x) : i = j := by
  obtain ⟨h1, e1⟩ := List.getElem?_eq_some_iff.mp a
  obtain ⟨h2, e2⟩ := List.getElem?_eq_some_iff.mp b
  exact (List.getElem_inj hN).mp (e1.trans e2.symm)

/-- a name is stored; what changed -/
theorem store_ok2 {M : Model} {A : Around} {E : Value → Shared → Prop} {i : Nat} {x : Str} {v : V} {u : Value} {Q : Unit → Shared → Prop} (I : Inv X pins σ H s) (hN : X.N.Nodup) (hi : X.N[i]? = some x) (hx : Loc X.env.scope x) (r : RelV v u)
    (h : ∀ s', Inv X pins (σ.set i (some v)) H s' → (∃ a, Heap.SameBut a s.heap s'.heap ∧ (a = X.env.locals ∨ X.env.cells.lookup x = some a)) → Q () s') (hf : X.fn x = true ∨ X.env.scope.names.lookup x = some .local := by first | exact .inl rfl | exact .inr rfl | assumption) : wpAny M A (storeName X.env x u) Q E s := by
  obtain ⟨m, hn, hl⟩ := id I.loc
  have hcls : (X.env.scope.kind == .class || (X.env.scope.kind == .module && X.env.locals != X.env.globals)) = false := by rw [I.ok.kind]; rfl
  have hiσ : i < σ.length := by rw [I.len]; exact (List.getElem?_eq_some_iff.mp hi).1
  have cne := I.cne
  have tracked : ∀ {a : Addr} {h' : Heap}, (∃ o, s.heap.get? a = some o ∧ H a = none) → Heap.SameBut a s.heap h' → HOk X.prog X.w H h' := fun {a h'} ha hs b ob e => by
    obtain ⟨_, _, hfree⟩ := ha
    refine (I.hok b ob e).stay (fun c w' hc q => (hs.2 c ?_).trans q) (fun _ q => q) fun _ _ q => q
    rintro rfl
    rcases hc with rfl | hc
    · rw [hfree] at e; cases e
    · rw [hfree] at hc; cases hc
  rcases hx with hk | hk
  · refine wpAny_storeName_local hk hn (fun h' hn' hs => ?_) hcls
    obtain ⟨oL, _, _, hoL, _⟩ := id hn
    refine h _ ⟨I.ok, I.os, I.bare, ⟨fun b o e n hb hx => ?_, fun b o e n hb hx => ?_, I.base.free, fun b o e hx => ?_, I.base.tups, I.base.frzs, I.base.tbls⟩, ⟨_, hn', fun j y v' e1 e2 e3 => ?_⟩, fun y c e => ?_, I.free, I.freeC, fun p hp => ?_, tracked ⟨oL, hoL, I.free⟩ hs, by simpa using I.len⟩ ⟨_, hs, .inl rfl⟩
    · exact (hs.2 b (Nat.ne_of_lt (Nat.lt_of_lt_of_le (Heap.lt_size e) I.ok.above))).trans (I.base.keep b o e n hb hx)
    · obtain ⟨sl, e1⟩ := I.base.slot b o e n hb hx
      exact ⟨sl, (hs.2 b (Nat.ne_of_lt (Nat.lt_of_lt_of_le (Heap.lt_size e) I.ok.above))).trans e1⟩
    · obtain ⟨o', e1⟩ := I.base.there b o e hx
      exact ⟨o', (hs.2 b (Nat.ne_of_lt (Nat.lt_of_lt_of_le (Heap.lt_size e) I.ok.above))).trans e1⟩
    · by_cases hj : j = i
      · subst hj
        rw [hi] at e1; cases e1
        rw [List.getElem?_set_self hiσ] at e2
        cases e2
        exact ⟨u, r, .inl ⟨hk, by simp⟩⟩
      · rw [List.getElem?_set_ne (Ne.symm hj)] at e2
        obtain ⟨u', r', q⟩ := hl j y v' e1 e2 e3
        refine ⟨u', r', ?_⟩
        rcases q with ⟨k, e⟩ | ⟨k, c, e, z⟩
        · refine .inl ⟨k, ?_⟩
          have : y ≠ x := fun e => hj (nodup_ix hN e1 (e ▸ hi))
          simp [this, e]
        · exact .inr ⟨k, c, e, z.sameBut hs (cne y c e)⟩
    · obtain ⟨w', z⟩ := I.cell y c e
      exact ⟨w', z.sameBut hs (cne y c e)⟩
    · obtain ⟨e, n, ne, nf, d⟩ := I.pin p hp
      exact ⟨(hs.2 p.1 ne).trans e, n, ne, nf, d⟩
  · have hfn : X.fn x = true := by
      rcases hf with z | z
      · exact z
      · rw [z] at hk; cases hk
    obtain ⟨c, hc⟩ := I.ok.has x (.inl hk)
    obtain ⟨w', z⟩ := I.cell x c hc
    refine wpAny_storeName_cell I.ok.kind hk hc z (fun h' hc' hs => ?_)
    obtain ⟨oc, hoc, hocd⟩ := id z
    refine h { s with heap := h' } ⟨I.ok, I.os, I.bare, ⟨fun b o e n hb hx => ?_, fun b o e n hb hx => ?_, I.base.free, fun b o e hx => ?_, I.base.tups, I.base.frzs, I.base.tbls⟩, ⟨m, hn.sameBut hs (Ne.symm (cne x c hc)), fun j y v' e1 e2 e3 => ?_⟩, fun y c' e => ?_, I.free, I.freeC, fun p hp => ?_, tracked ⟨oc, hoc, I.freeC x c hc⟩ hs, by simpa using I.len⟩ ⟨c, hs, .inr hc⟩
    · exact (hs.2 b (Nat.ne_of_lt (Nat.lt_of_lt_of_le (Heap.lt_size e) (I.ok.cab x c hfn hc)))).trans (I.base.keep b o e n hb hx)
    · obtain ⟨sl, e1⟩ := I.base.slot b o e n hb hx
      exact ⟨sl, (hs.2 b (Nat.ne_of_lt (Nat.lt_of_lt_of_le (Heap.lt_size e) (I.ok.cab x c hfn hc)))).trans e1⟩
    · obtain ⟨o', e1⟩ := I.base.there b o e hx
      exact ⟨o', (hs.2 b (Nat.ne_of_lt (Nat.lt_of_lt_of_le (Heap.lt_size e) (I.ok.cab x c hfn hc)))).trans e1⟩
    · by_cases hj : j = i
      · subst hj
        rw [hi] at e1; cases e1
        rw [List.getElem?_set_self hiσ] at e2
        cases e2
        exact ⟨u, r, .inr ⟨.inl hk, c, hc, hc'⟩⟩
      · rw [List.getElem?_set_ne (Ne.symm hj)] at e2
        obtain ⟨u', r', q⟩ := hl j y v' e1 e2 e3
        refine ⟨u', r', ?_⟩
        rcases q with q | ⟨k, c', e, z'⟩
        · exact .inl q
        · refine .inr ⟨k, c', e, z'.sameBut hs ?_⟩
          rintro rfl
          exact hj (nodup_ix hN e1 (I.ok.inj _ _ _ e hc ▸ hi))
    · by_cases hcc : c' = c
      · subst hcc; exact ⟨_, hc'⟩
      · obtain ⟨w2, z2⟩ := I.cell y c' e
        exact ⟨w2, z2.sameBut hs hcc⟩
    · obtain ⟨e, n, ne, nf, d⟩ := I.pin p hp
      refine ⟨(hs.2 p.1 ?_).trans e, n, ne, nf, d⟩
      intro q
      rw [q, hoc] at e
      have q' : oc = p.2 := Option.some.inj e
      exact d w' (by rw [← q']; exact hocd)
theorem store_ok {M : Model} {A : Around} {E : Value → Shared → Prop} {i : Nat} {x : Str} {v : V} {u : Value} {Q : Unit → Shared → Prop} (I : Inv X pins σ H s) (hN : X.N.Nodup) (hi : X.N[i]? = some x) (hx : Loc X.env.scope x) (r : RelV v u)
    (h : ∀ s', Inv X pins (σ.set i (some v)) H s' → Q () s') (hf : X.fn x = true ∨ X.env.scope.names.lookup x = some .local := by first | exact .inl rfl | exact .inr rfl | assumption) : wpAny M A (storeName X.env x u) Q E s :=
  store_ok2 I hN hi hx r (fun s' I' _ => h s' I') hf
/-- behind a call or a block, the state as it is -/
theorem Inv.call' {s' : Shared} {ch : List Addr} (I : Inv X pins σ H s) (ho : s'.os = s.os) (u : Un (frs X.stack) ch H H' s.heap s'.heap) (hok : HOk X.prog X.w H' s'.heap) (hg : X.gp s'.gens s'.drawn)
    (hch : ∀ b ∈ ch, (b ∈ X.ex ∨ X.s_0.heap.objs.size ≤ b) ∧ b ≠ X.env.locals ∧ (∀ x c, X.env.cells.lookup x = some c → c ≠ b) ∧ ∀ p ∈ X.pn ++ pins, p.1 ≠ b) : Inv X pins σ H' s' := by
  obtain ⟨h', g', d', t', o'⟩ := s'
  have e : o' = s.os := ho
  subst e
  exact I.call (g' := g') (t' := t') (d' := d') u hok hg hch
end
/-- an exception: its class, its own dict's address (where it has one), the abstract heap behind it -/
abbrev XK := Value → Option Addr → Hp → Prop
abbrev St := List (Option V)
abbrev VK := V → Hp → Prop
/-- an expression's reading; a test's; an argument list's -/
abbrev TE := St → Hp → VK → Prop
abbrev TT := St → Hp → (Bool → Hp → Prop) → Prop
abbrev TA := St → Hp → (List V → Hp → Prop) → Prop
/-- what is wanted behind a statement -/
structure Ends where
  nx : St → Hp → Prop
  rt : VK
  bk : St → Hp → Prop := fun _ _ => False
  ct : St → Hp → Prop := fun _ _ => False
abbrev TS := Ends → St → Hp → Prop

def EP (X : Cx) (pins : List (Addr × Obj)) (σ : St) (Q : VK) (u : Value) (s' : Shared) : Prop := ∃ v H', Inv X pins σ H' s' ∧ RelV v u ∧ Q v H'
def TP (X : Cx) (pins : List (Addr × Obj)) (σ : St) (Q : Bool → Hp → Prop) (b : Bool) (s' : Shared) : Prop := ∃ H', Inv X pins σ H' s' ∧ Q b H'
def AP (X : Cx) (pins : List (Addr × Obj)) (σ : St) (Q : List V → Hp → Prop) (us : List Value) (s' : Shared) : Prop := ∃ vs H', Inv X pins σ H' s' ∧ Vals vs us ∧ Q vs H'
def SP (X : Cx) (pins : List (Addr × Obj)) (D : Ends) (f : Flow) (s' : Shared) : Prop :=
  match f with
  | .next => ∃ σ' H', Inv X pins σ' H' s' ∧ D.nx σ' H'
  | .brk => ∃ σ' H', Inv X pins σ' H' s' ∧ D.bk σ' H'
  | .cont => ∃ σ' H', Inv X pins σ' H' s' ∧ D.ct σ' H'
  | .ret u => ∃ v σ' H', Inv X pins σ' H' s' ∧ RelV v u ∧ D.rt v H'

def PE (X : Cx) (e : Expr) (t : TE) : Prop :=
  ∀ (pins : List (Addr × Obj)) (s : Shared) (σ : St) (H : Hp) (Q : VK), Inv X pins σ H s → t σ H Q → wpAny (model X.prog X.w) X.A (eval e X.env) (EP X pins σ Q) X.xe s
def PT (X : Cx) (e : Expr) (t : TT) : Prop :=
  ∀ (pins : List (Addr × Obj)) (s : Shared) (σ : St) (H : Hp) (Q : Bool → Hp → Prop), Inv X pins σ H s → t σ H Q → wpAny (model X.prog X.w) X.A (isTrue e X.env (eval e X.env)) (TP X pins σ Q) X.xe s
/-- a test whatever its 'whole' is (and, or) -/
def PW (X : Cx) (e : Expr) (t : TT) : Prop :=
  ∀ (whole : Sem Value) (pins : List (Addr × Obj)) (s : Shared) (σ : St) (H : Hp) (Q : Bool → Hp → Prop), Inv X pins σ H s → t σ H Q → wpAny (model X.prog X.w) X.A (isTrue e X.env whole) (TP X pins σ Q) X.xe s
theorem PW.pt {X : Cx} {e : Expr} {t : TT} (h : PW X e t) : PT X e t := h _
/-- an argument list (no star), from the left -/
def PA (X : Cx) (es : List Expr) (t : TA) : Prop :=
  ∀ (pos : Pos) (pins : List (Addr × Obj)) (s : Shared) (σ : St) (H : Hp) (Q : List V → Hp → Prop), Inv X pins σ H s → t σ H Q → wpAny (model X.prog X.w) X.A (spliced (backTo pos (starEach es X.env))) (AP X pins σ Q) X.xe s
def PS (X : Cx) (st : Stmt) (t : TS) : Prop :=
  ∀ (pins : List (Addr × Obj)) (s : Shared) (σ : St) (H : Hp) (D : Ends), Inv X pins σ H s → t D σ H → wpAny (model X.prog X.w) X.A (exec st X.env) (SP X pins D) X.xe s
def PSs (X : Cx) (st : List Stmt) (t : TS) : Prop :=
  ∀ (pins : List (Addr × Obj)) (s : Shared) (σ : St) (H : Hp) (D : Ends), Inv X pins σ H s → t D σ H → wpAny (model X.prog X.w) X.A (execs st X.env) (SP X pins D) X.xe s
/-- weaken the end -/
theorem thn {α : Type} {t : Sem α} {Q Q' : α → Shared → Prop} {M : Model} {A : Around} {E : Value → Shared → Prop} {s : Shared} (h : wpAny M A t Q E s) (hQ : ∀ a s, Q a s → Q' a s) : wpAny M A t Q' E s := wpAny_mono h hQ fun _ _ x => x
end L2
namespace L2
open PySem PySem.Spec PyProof.Rows
section
variable {X : Cx}
def tVar (i : Nat) : TE := fun σ H Q => ∃ v, σ[i]? = some (some v) ∧ Q v H
def tC (v : V) : TE := fun _ H Q => Q v H
theorem pe_var {i : Nat} {x : Str} {pos : Pos} (hN : X.N[i]? = some x) (hv : Vis X.env.scope x) (hd : (x == ("__debug__" : Str)) = false := by decide) (hcd : (x == ("__classdict__" : Str)) = false := by decide) : PE X (.Name x pos) (tVar i) := by
  intro pins s σ H Q I h
  obtain ⟨v, e, h⟩ := h
  obtain ⟨m, hn, hl⟩ := I.loc
  obtain ⟨u, r, l⟩ := hl i x v hN e hv
  have fin : EP X pins σ Q u s := ⟨v, H, I, r, h⟩
  rcases l with ⟨hk, hm⟩ | ⟨hk, c, hc, hcell⟩
  · exact wpAny_Name (wpAny_loadName_local I.ok.kind hk hn hm fin) hd
  · rcases hk with hk | hk
    · exact wpAny_Name (wpAny_loadName_cell I.ok.kind hk hc hcell fin) hd
    · exact wpAny_Name (wpAny_loadName_free I.ok.kind hk hc hcell fin hcd) hd
theorem pe_int {i j pos} : PE X (.Constant (.int i) j pos) (tC (.int i)) := fun _ _ _ H _ I h => wpAny_Constant_int ⟨.int i, H, I.tok _, ⟨_, rfl⟩, h⟩
theorem pe_bl {b j pos} : PE X (.Constant (.bool b) j pos) (tC (.bl b)) := fun _ _ _ H _ I h => Constant_bool ⟨.bl b, H, I, rfl, h⟩
theorem pe_non {j pos} : PE X (.Constant .none j pos) (tC .non) := fun _ _ _ H _ I h => Constant_none ⟨.non, H, I, rfl, h⟩
theorem pe_str {x j pos} : PE X (.Constant (.str x) j pos) (tC (.str x)) := fun _ _ _ H _ I h => Calls.Constant_str ⟨.str x, H, I.tok _, ⟨_, rfl⟩, h⟩

/-- a global name of the def -/
def Gl (X : Cx) (x : Str) : Prop := X.env.kindOf x = some .globalImplicit
theorem ld_glob {E : Value → Shared → Prop} {pins : List (Addr × Obj)} {s : Shared} {σ : St} {H : Hp} {x : Str} {u : Value} {pos : Pos} {Q : Value → Shared → Prop} (I : Inv X pins σ H s) (hg : Gl X x) (hm : X.mg x = some u) (h : Q u s)
    (hd : (x == ("__debug__" : Str)) = false := by decide) : wpAny (model X.prog X.w) X.A (eval (.Name x pos) X.env) Q E s :=
  Calls.Name_function_global I.ok.kind hg (Calls.loadGlobal_global (by rw [I.ok.glob]; exact I.mod.glob.keeps I.bk) hm h) hd
theorem ld_blt {E : Value → Shared → Prop} {pins : List (Addr × Obj)} {s : Shared} {σ : St} {H : Hp} {x : Str} {u : Value} {pos : Pos} {Q : Value → Shared → Prop} (I : Inv X pins σ H s) (hg : Gl X x) (hm : X.mg x = none) (hv : bootBuiltins x = some u) (h : Q u s)
    (hn : x ≠ "__name__" := by decide) (hd : (x == ("__debug__" : Str)) = false := by decide) : wpAny (model X.prog X.w) X.A (eval (.Name x pos) X.env) Q E s := by
  obtain ⟨mb, h1, h2⟩ := I.mod.blt
  exact Calls.Name_function_global I.ok.kind hg (Calls.loadGlobal_builtin (by rw [I.ok.glob]; exact I.mod.glob.keeps I.bk) hm (by rw [I.ok.blt]; exact h1.keeps I.bk) ((h2 x hn).trans hv) h) hd
/-- a module's constant, a class, a function, as a value -/
theorem pe_glob {x : Str} {v : V} {u : Value} {pos : Pos} (hg : Gl X x) (hm : X.mg x = some u) (r : RelV v u) (hd : (x == ("__debug__" : Str)) = false := by decide) : PE X (.Name x pos) (tC v) :=
  fun _ _ _ H _ I h => ld_glob I hg hm ⟨v, H, I, r, h⟩ hd
theorem pe_bltn {x : Str} {v : V} {u : Value} {pos : Pos} (hg : Gl X x) (hm : X.mg x = none) (hv : bootBuiltins x = some u) (r : RelV v u) (hn : x ≠ "__name__" := by decide) (hd : (x == ("__debug__" : Str)) = false := by decide) : PE X (.Name x pos) (tC v) :=
  fun _ _ _ H _ I h => ld_blt I hg hm hv ⟨v, H, I, r, h⟩ hn hd

variable {a b : Expr} {ta tb : TE} {pos : Pos}
/-- a comparison as a value, as a test -/
def tB (t : TE) : TT := fun σ H Q => t σ H fun x H1 => ∃ c, x = .bl c ∧ Q c H1
/-- an expression whose value is a bool, as a test -/
theorem pt_val {e : Expr} {t : TE} (h : PE X e t) (he : ∀ whole, isTrue e X.env whole = (do let v ← whole; standAt e.pos; holding [v] (truthy v)) := by intro _; rfl) : PT X e (tB t) := by
  intro pins s σ H Q I hw
  refine isTrue_plain (thn (h pins s σ H _ I hw) fun v s1 ⟨x, H1, I1, r1, q1⟩ => ?_) (he _)
  obtain ⟨d, rfl, q⟩ := q1
  cases r1
  exact wpAny_truthy_bool ⟨H1, I1, q⟩

variable {tA tB' : TT} {rest : List Expr}
def tOr (t u : TT) : TT := fun σ H Q => t σ H fun c H1 => if c = true then Q true H1 else u σ H1 Q
def tNot (t : TT) : TT := fun σ H Q => t σ H fun c H1 => Q (!c) H1
theorem pw_or1 (ha : PT X a tA) : PW X (.BoolOp .Or [a] pos) tA := by
  intro wh pins s σ H Q I h
  refine isTrue_or (thn (ha pins s σ H Q I h) fun c s1 e => ?_)
  cases c with
  | false => exact isTrue_or_nil e
  | true => exact e
theorem pw_or (ha : PT X a tA) (hb : PW X (.BoolOp .Or (b :: rest) pos) tB') : PW X (.BoolOp .Or (a :: b :: rest) pos) (tOr tA tB') := by
  intro wh pins s σ H Q I h
  refine isTrue_or (thn (ha pins s σ H _ I h) fun c s1 ⟨H1, I1, q1⟩ => ?_)
  cases c with
  | true => exact ⟨H1, I1, q1⟩
  | false => exact hb wh pins s1 σ H1 Q I1 q1
theorem pt_not (ha : PT X a tA) : PT X (.UnaryOp .Not a pos) (tNot tA) := by
  intro pins s σ H Q I h
  exact isTrue_not (ha pins s σ H (fun c H1 => Q (!c) H1) I h)
/-- .. as values (bools) -/
def tAndV (ta tb : TE) : TE := fun σ H Q => ta σ H fun x H1 => ∃ c, x = .bl c ∧ if c = true then tb σ H1 Q else Q (.bl false) H1
def tOrV (ta tb : TE) : TE := fun σ H Q => ta σ H fun x H1 => ∃ c, x = .bl c ∧ if c = true then Q (.bl true) H1 else tb σ H1 Q
def tNotV (ta : TE) : TE := fun σ H Q => ta σ H fun x H1 => ∃ c, x = .bl c ∧ Q (.bl (!c)) H1
theorem pe_one {op} {t : TE} (h : PE X a t) : PE X (.BoolOp op [a] pos) t := fun pins s σ H Q I hw => BoolOp_one (h pins s σ H Q I hw)
theorem pe_and (ha : PE X a ta) (hb : PE X (.BoolOp .And (b :: rest) pos) tb) : PE X (.BoolOp .And (a :: b :: rest) pos) (tAndV ta tb) := by
  intro pins s σ H Q I h
  refine BoolOp_and (thn (ha pins s σ H _ I h) fun v s1 ⟨x, H1, I1, r1, q1⟩ => ?_)
  obtain ⟨c, rfl, q1⟩ := q1
  cases r1
  refine wpAny_truthy_bool ?_
  cases c with
  | true => exact hb pins s1 σ H1 Q I1 q1
  | false => exact ⟨.bl false, H1, I1, rfl, q1⟩
theorem pe_or (ha : PE X a ta) (hb : PE X (.BoolOp .Or (b :: rest) pos) tb) : PE X (.BoolOp .Or (a :: b :: rest) pos) (tOrV ta tb) := by
  intro pins s σ H Q I h
  refine BoolOp_or (thn (ha pins s σ H _ I h) fun v s1 ⟨x, H1, I1, r1, q1⟩ => ?_)
  obtain ⟨c, rfl, q1⟩ := q1
  cases r1
  refine wpAny_truthy_bool ?_
  cases c with
  | false => exact hb pins s1 σ H1 Q I1 q1
  | true => exact ⟨.bl true, H1, I1, rfl, q1⟩
theorem pe_not (ha : PE X a ta) : PE X (.UnaryOp .Not a pos) (tNotV ta) := by
  intro pins s σ H Q I h
  refine UnaryOp_ (thn (ha pins s σ H _ I h) fun v s1 ⟨x, H1, I1, r1, q1⟩ => ?_)
  obtain ⟨c, rfl, q1⟩ := q1
  cases r1
  exact not_of (wpAny_truthy_bool ⟨.bl (!c), H1, I1, rfl, q1⟩)
/-- a if t else b -/
def tIf (t : TT) (ta tb : TE) : TE := fun σ H Q => t σ H fun c H1 => if c = true then ta σ H1 Q else tb σ H1 Q
theorem pe_ifExp {c : Expr} (hc : PT X c tA) (ha : PE X a ta) (hb : PE X b tb) : PE X (.IfExp c a b pos) (tIf tA ta tb) := by
  intro pins s σ H Q I h
  refine wpAny_IfExp (thn (hc pins s σ H _ I h) fun d s1 ⟨H1, I1, q1⟩ => ?_)
  cases d with
  | true => exact ha pins s1 σ H1 Q I1 q1
  | false => exact hb pins s1 σ H1 Q I1 q1
end
end L2
namespace L2
open PySem PySem.Spec PyProof.Rows
def SqL (K : PySem.W.Frag) (H : Hp) (a : Addr) (xs : List V) : Prop :=
  Rd H a (.lst xs) ∨
    ∃ (o : Obj) (its : Array Value) (n : Nat), K.lookup a = some o ∧ o.cls = .type "list" ∧ o.dict = none ∧ o.data = .seq its n ∧ its.size ≤ sizeLine ∧ Vals xs its.toList
def SqT (K : PySem.W.Frag) (H : Hp) (a : Addr) (xs : List V) : Prop :=
  Rd H a (.tup xs) ∨
    ∃ (o : Obj) (its : Array Value) (n : Nat), K.lookup a = some o ∧ o.cls = .type "tuple" ∧ o.data = .seq its n ∧ its.size ≤ sizeLine ∧ Vals xs its.toList
def absV : Value → Option V
  | .none => some .non
  | .bool b => some (.bl b)
  | .int i _ => some (.int i)
  | .str x _ => some (.str x)
  | .bytes b _ => some (.byt b)
  | .float b _ => some (.flt b)
  | .ref a => some (.ref a)
  | .type n => some (.ty n)
  | _ => none
theorem RelV.abs {x : V} {u : Value} (r : RelV x u) : absV u = some x := by
  cases x with
  | non => cases r; rfl
  | bl _ => cases r; rfl
  | int _ => obtain ⟨t, rfl⟩ := r; rfl
  | str _ => obtain ⟨t, rfl⟩ := r; rfl
  | byt _ => obtain ⟨t, rfl⟩ := r; rfl
  | flt _ => obtain ⟨t, rfl⟩ := r; rfl
  | ref _ => cases r; rfl
  | ty _ => cases r; rfl
theorem RelV.inj {x y : V} {u : Value} (r : RelV x u) (q : RelV y u) : x = y := Option.some.inj (r.abs.symm.trans q.abs)
theorem Vals.inj : ∀ {xs ys : List V} {us : List Value}, Vals xs us → Vals ys us → xs = ys
  | _, _, _, .nil, .nil => rfl
  | _, _, _, .cons r t, .cons r' t' => by rw [r.inj r', Vals.inj t t']
section
variable {X : Cx} {pins : List (Addr × Obj)} {σ : St} {H : Hp} {s : Shared} {a : Addr} {xs ys : List V}
theorem SqL.of {K : PySem.W.Frag} (h : H a = some (.lst xs)) : SqL K H a xs := .inl (.inl h)
theorem SqT.of {K : PySem.W.Frag} (h : H a = some (.tup xs)) : SqT K H a xs := .inl (.inl h)
theorem Inv.list (I : Inv X pins σ H s) (h : SqL X.K H a xs) : ∃ its : List Value, Vals xs its ∧ PlainL s.heap a its.toArray ∧ xs.length ≤ sizeLine := by
  rcases h with h | ⟨o, its, n, hk, hc, hd, hs, hz, r⟩
  · obtain ⟨z, its, n, r, e⟩ := h.ok I.hok
    exact ⟨its, r, ⟨_, n, e, rfl, rfl, rfl⟩, z⟩
  · refine ⟨its.toList, r, ⟨o, n, I.kIn a o hk, hc, hd, by simpa using hs⟩, ?_⟩
    have e := r.length
    simp only [Array.length_toList] at e
    omega
theorem Inv.tuple (I : Inv X pins σ H s) (h : SqT X.K H a xs) : ∃ its : List Value, Vals xs its ∧ IsTup s.heap a its.toArray ∧ xs.length ≤ sizeLine := by
  rcases h with h | ⟨o, its, n, hk, hc, hs, hz, r⟩
  · obtain ⟨z, its, r, p⟩ := h.ok I.hok
    exact ⟨its, r, p, z⟩
  · refine ⟨its.toList, r, ⟨o, I.kIn a o hk, hc, n, by simpa using hs⟩, ?_⟩
    have e := r.length
    simp only [Array.length_toList] at e
    omega
theorem Inv.list_inj (I : Inv X pins σ H s) (h : SqL X.K H a xs) (h' : SqL X.K H a ys) : xs = ys := by
  obtain ⟨its, r, ⟨o, n, e, _, _, d⟩, _⟩ := I.list h
  obtain ⟨its', r', ⟨o', n', e', _, _, d'⟩, _⟩ := I.list h'
  rw [e] at e'; cases e'
  rw [d] at d'
  injection d' with d1 _
  have : its = its' := by simpa using congrArg Array.toList d1
  subst this
  exact r.inj r'
end
abbrev Cx.wish (X : Cx) (E : Value → Shared → Prop) : Cx := { X with xe := E }
/-- no exception leaves -/
abbrev Cx.nox (X : Cx) : Cx := X.wish fun _ _ => False
theorem Cx.Ok.wish {X : Cx} (ok : X.Ok) (E : Value → Shared → Prop) : (X.wish E).Ok :=
  ⟨ok.mod, ok.kind, ok.glob, ok.blt, ok.above, ok.inj, ok.has, ok.cab, ok.hd, ok.frames, ok.stk, ok.exf, ok.bs, ok.bsz, ok.noex, ok.exfs, ok.funs, ok.frf⟩
theorem Cx.Ok.unwish {X : Cx} {E : Value → Shared → Prop} (ok : (X.wish E).Ok) : X.Ok :=
  ⟨ok.mod, ok.kind, ok.glob, ok.blt, ok.above, ok.inj, ok.has, ok.cab, ok.hd, ok.frames, ok.stk, ok.exf, ok.bs, ok.bsz, ok.noex, ok.exfs, ok.funs, ok.frf⟩
section
variable {X : Cx} {pins : List (Addr × Obj)} {σ : St} {H : Hp} {s : Shared} {E : Value → Shared → Prop}
theorem Inv.wish (I : Inv X pins σ H s) (E : Value → Shared → Prop) : Inv (X.wish E) pins σ H s := ⟨I.ok.wish E, I.os, I.bare, I.base, I.loc, I.cell, I.free, I.freeC, I.pin, I.hok, I.len⟩
theorem Inv.unwish (I : Inv (X.wish E) pins σ H s) : Inv X pins σ H s := ⟨I.ok.unwish, I.os, I.bare, I.base, I.loc, I.cell, I.free, I.freeC, I.pin, I.hok, I.len⟩
theorem SP.unwish {D : Ends} {f : Flow} {s' : Shared} (h : SP (X.wish E) pins D f s') : SP X pins D f s' := by
  cases f with
  | next => obtain ⟨σ', H', I, q⟩ := h; exact ⟨σ', H', I.unwish, q⟩
  | brk => obtain ⟨σ', H', I, q⟩ := h; exact ⟨σ', H', I.unwish, q⟩
  | cont => obtain ⟨σ', H', I, q⟩ := h; exact ⟨σ', H', I.unwish, q⟩
  | ret u => obtain ⟨v, σ', H', I, r, q⟩ := h; exact ⟨v, σ', H', I.unwish, r, q⟩
theorem PE.nox {e : Expr} {t : TE} (h : PE X.nox e t) : PE X e t := fun pins s σ H Q I hw =>
  wpAny_mono (h pins s σ H Q (I.wish _) hw) (fun _ _ ⟨v, H', I', r, q⟩ => ⟨v, H', I'.unwish, r, q⟩) fun _ _ z => False.elim z
theorem PT.nox {e : Expr} {t : TT} (h : PT X.nox e t) : PT X e t := fun pins s σ H Q I hw =>
  wpAny_mono (h pins s σ H Q (I.wish _) hw) (fun _ _ ⟨H', I', q⟩ => ⟨H', I'.unwish, q⟩) fun _ _ z => False.elim z
theorem PSs.nox {st : List Stmt} {t : TS} (h : PSs X.nox st t) : PSs X st t := fun pins s σ H D I hw =>
  wpAny_mono (h pins s σ H D (I.wish _) hw) (fun _ _ q => q.unwish) fun _ _ z => False.elim z
end
section
variable {X : Cx} {st : Stmt} {rest : List Stmt} {t u : TS} {e : Expr} {te : TE} {pos : Pos}
def tNext : TS := fun D σ H => D.nx σ H
def tSeq (t u : TS) : TS := fun D σ H => t { D with nx := u D } σ H
theorem pss_nil : PSs X [] tNext := fun _ _ σ H _ I h => wpAny_execs_nil ⟨σ, H, I, h⟩
theorem pss_cons (h1 : PS X st t) (h2 : PSs X rest u) : PSs X (st :: rest) (tSeq t u) := by
  intro pins s σ H D I h
  refine wpAny_execs_cons (thn (h1 pins s σ H { D with nx := u D } I h) fun f s1 q => ?_)
  cases f with
  | next =>
    obtain ⟨σ', H', I', q⟩ := q
    exact h2 pins s1 σ' H' D I' q
  | ret v => exact q
  | brk => exact q
  | cont => exact q
theorem pss_one (h1 : PS X st t) : PSs X [st] t := by
  intro pins s σ H D I h
  refine wpAny_execs_cons (thn (h1 pins s σ H D I h) fun f s1 q => ?_)
  cases f with
  | next => exact wpAny_execs_nil q
  | ret v => exact q
  | brk => exact q
  | cont => exact q
/-- in a def's body nothing is shown -/
theorem Inv.quiet {pins : List (Addr × Obj)} {σ : St} {H : Hp} {s : Shared} (I : Inv X pins σ H s) : interactive X.env = false := by simp [interactive, I.ok.kind]
/-- an expression whose value is dropped -/
def tDrop (te : TE) : TS := fun D σ H => te σ H fun _ H1 => D.nx σ H1
theorem ps_expr (he : PE X e te) (hs : swapsWith e none pos.line X.env = pure false := by rfl) : PS X (.Expr e pos) (tDrop te) := by
  intro pins s σ H D I h
  exact wpAny_Expr_any (thn (he pins s σ H _ I h) fun v s1 ⟨x, H1, I1, r1, q1⟩ => ⟨σ, H1, I1, q1⟩) I.quiet hs
def tRet (te : TE) : TS := fun D σ H => te σ H D.rt
theorem ps_ret (he : PE X e te) : PS X (.Return (some e) pos) (tRet te) := by
  intro pins s σ H D I h
  exact wpAny_Return_some (thn (he pins s σ H _ I h) fun v s1 ⟨x, H1, I1, r1, q1⟩ => ⟨x, σ, H1, I1, r1, q1⟩)
def tIfS (c : TT) (t u : TS) : TS := fun D σ H => c σ H fun b H1 => if b = true then t D σ H1 else u D σ H1
theorem ps_if {c : Expr} {a b : List Stmt} {tc : TT} (hc : PT X c tc) (ha : PSs X a t) (hb : PSs X b u) : PS X (.If c a b pos) (tIfS tc t u) := by
  intro pins s σ H D I h
  refine wpAny_If (thn (hc pins s σ H _ I h) fun d s1 ⟨H1, I1, q1⟩ => ?_)
  cases d with
  | true => exact ha pins s1 σ H1 D I1 q1
  | false => exact hb pins s1 σ H1 D I1 q1
/-- code that the proof never comes to -/
def tNever : TS := fun _ _ _ => False
theorem pss_never {sts : List Stmt} : PSs X sts tNever := fun _ _ _ _ _ _ h => h.elim
end
abbrev TG := V → St → Hp → (St → Hp → Prop) → Prop
abbrev TGs := List V → St → Hp → (St → Hp → Prop) → Prop
def PG (X : Cx) (target : Expr) (t : TG) : Prop :=
  ∀ (pins : List (Addr × Obj)) (s : Shared) (σ : St) (H : Hp) (v : V) (u : Value) (Q : St → Hp → Prop), Inv X pins σ H s → RelV v u → t v σ H Q →
    wpAny (model X.prog X.w) X.A (assign target X.env u) (fun _ s' => ∃ σ' H', Inv X pins σ' H' s' ∧ Q σ' H') X.xe s
/-- several targets, one after another -/
def PGs (X : Cx) (ts : List Expr) (t : TGs) : Prop :=
  ∀ (pins : List (Addr × Obj)) (s : Shared) (σ : St) (H : Hp) (vs : List V) (us : List Value) (Q : St → Hp → Prop), Inv X pins σ H s → Vals vs us → t vs σ H Q →
    wpAny (model X.prog X.w) X.A (assignInOrder ((assignEach ts X.env).map (·.2)) us) (fun _ s' => ∃ σ' H', Inv X pins σ' H' s' ∧ Q σ' H') X.xe s
/-- o[i] = v, by values -/
abbrev TSet := V → V → V → Hp → (Hp → Prop) → Prop
def PSet (X : Cx) (t : TSet) : Prop :=
  ∀ (pins : List (Addr × Obj)) (s : Shared) (σ : St) (H : Hp) (o i v : V) (ov iv u : Value) (Q : Hp → Prop), Inv X pins σ H s → RelV o ov → RelV i iv → RelV v u → t o i v H Q →
    wpAny (model X.prog X.w) X.A (setItem ov iv u) (fun _ s' => ∃ H', Inv X pins σ H' s' ∧ Q H') X.xe s
section
variable {X : Cx} {pos : Pos}
def gName (i : Nat) : TG := fun v σ H Q => Q (σ.set i (some v)) H
theorem pg_name {i : Nat} {x : Str} (hN : X.N.Nodup) (hi : X.N[i]? = some x) (hx : Loc X.env.scope x) (hf : X.fn x = true ∨ X.env.scope.names.lookup x = some .local := by first | exact .inl rfl | exact .inr rfl | assumption) : PG X (.Name x pos) (gName i) := by
  intro pins s σ H v u Q I r h
  exact wpAny_assign_Name (store_ok I hN hi hx r (fun s' I' => ⟨_, H, I', h⟩) hf)
def gNil : TGs := fun vs σ H Q => vs = [] ∧ Q σ H
def gCons (t : TG) (u : TGs) : TGs := fun vs σ H Q => ∃ v r, vs = v :: r ∧ t v σ H fun σ' H' => u r σ' H' Q
theorem pgs_nil : PGs X [] gNil := by
  intro pins s σ H vs us Q I r h
  obtain ⟨e, h⟩ := h
  subst e
  cases r
  exact assignInOrder_nil ⟨σ, H, I, h⟩
theorem pgs_cons {e : Expr} {es : List Expr} {t : TG} {u : TGs} (h1 : PG X e t) (h2 : PGs X es u)
    (hs : (assignEach (e :: es) X.env).map (·.2) = assign e X.env :: (assignEach es X.env).map (·.2) := by rfl) : PGs X (e :: es) (gCons t u) := by
  intro pins s σ H vs us Q I r h
  obtain ⟨v, vr, e1, h⟩ := h
  subst e1
  cases r with
  | cons r rr =>
    rw [hs]
    refine assignInOrder_cons (thn (h1 pins s σ H _ _ _ I r h) fun _ s1 ⟨σ1, H1, I1, q1⟩ => ?_)
    exact h2 pins s1 σ1 H1 _ _ Q I1 rr q1
/-- (a, b, ..) = a tuple of that length -/
def gTup (K : PySem.W.Frag) (n : Nat) (t : TGs) : TG := fun v σ H Q => ∃ a xs, v = .ref a ∧ SqT K H a xs ∧ xs.length = n ∧ t xs σ H Q
theorem pg_tup {es : List Expr} {k : Nat} {t : TGs} {n : Nat} (hc : X.calm = true) (h : PGs X es t)
    (hn : (assignEach es X.env).length = n := by rfl) (hst : (assignEach es X.env).findIdx? (·.1) = none := by rfl) : PG X (.Tuple es k pos) (gTup X.K n t) := by
  intro pins s σ H v u Q I r hw
  obtain ⟨a, xs, e1, hq, hl, hw⟩ := hw
  subst e1
  cases r
  obtain ⟨its, rv, ht, hz⟩ := I.tuple hq
  refine assign_Tuple_tuple (I.ok.hd hc) ht (by simp [hn, ← hl, rv.length]) hst fun h' hx => ?_
  have I1 : Inv X pins σ H { s with heap := h' } := I.kept (t' := s.toks) fun b o e => hx b o (Nat.ne_of_lt (Heap.lt_size e)) e
  exact h pins _ σ H xs _ Q I1 (by simpa using rv) hw
/-- o[i] = .. -/
def gSub (to ti : TE) (t : TSet) : TG := fun v σ H Q => to σ H fun o H1 => ti σ H1 fun i H2 => t o i v H2 fun H3 => Q σ H3
theorem pg_sub {o i : Expr} {to ti : TE} {t : TSet} (ho : PE X o to) (hi : PE X i ti) (hs : PSet X t)
    (ha : ∀ v, assign (.Subscript o i pos) X.env v = (do
      let ov ← holding [v] (eval o X.env)
      let iv ← holding [v, ov] (eval i X.env)
      standAt pos
      holding [v, ov, iv] (setItem ov iv v)
      release [v, ov, iv] []) := by intro _; rfl) : PG X (.Subscript o i pos) (gSub to ti t) := by
  intro pins s σ H v u Q I r h
  rw [ha]
  refine wpAny_bind (wpAny_holding (thn (ho pins s σ H _ I h) fun ov s1 ⟨x, H1, I1, r1, q1⟩ => ?_))
  refine wpAny_bind (wpAny_holding (thn (hi pins s1 σ H1 _ I1 q1) fun iv s2 ⟨y, H2, I2, r2, q2⟩ => ?_))
  refine wpAny_bind (wpAny_standAt (wpAny_bind (wpAny_holding (thn (hs pins s2 σ H2 x y v ov iv u _ I2 r1 r2 r q2) fun _ s3 ⟨H3, I3, q3⟩ => ?_))))
  exact wpAny_release ⟨σ, H3, I3, q3⟩
/-- target = value -/
def tAsg (te : TE) (g : TG) : TS := fun D σ H => te σ H fun x H1 => g x σ H1 D.nx
theorem ps_asg {tg e : Expr} {te : TE} {g : TG} (he : PE X e te) (hg : PG X tg g) (hs : swapsWithSole [tg] e pos.line X.env = pure false := by rfl) (hw : swappedStores [tg] e X.env = pure none := by rfl)
    (h1 : (assignEach [tg] X.env).map (·.2) = [assign tg X.env] := by rfl) : PS X (.Assign [tg] e pos) (tAsg te g) := by
  intro pins s σ H D I h
  refine wpAny_Assign_stores (thn (he pins s σ H _ I h) fun v s1 ⟨x, H1, I1, r1, q1⟩ => ?_) hs hw
  rw [h1]
  exact thn (hg pins s1 σ H1 x v _ I1 r1 q1) fun _ s2 q => q
/-- name = value -/
theorem ps_set {i : Nat} {x : Str} {e : Expr} {te : TE} {pos' : Pos} (hN : X.N.Nodup) (hi : X.N[i]? = some x) (hx : Loc X.env.scope x) (he : PE X e te) (hs : swapsWith e (some (.Name x pos')) pos.line X.env = pure false := by rfl) (hf : X.fn x = true ∨ X.env.scope.names.lookup x = some .local := by first | exact .inl rfl | exact .inr rfl | assumption) :
    PS X (.Assign [.Name x pos'] e pos) (tAsg te (gName i)) := by
  intro pins s σ H D I h
  refine wpAny_Assign_Name (thn (he pins s σ H _ I h) fun v s1 ⟨y, H1, I1, r1, q1⟩ => ?_) hs
  exact store_ok I1 hN hi hx r1 (fun s2 I2 => ⟨_, H1, I2, q1⟩) hf
end
section
variable {X : Cx} {pos : Pos}
end
/-- at turn i: it yields x (the heap may grow), or it stops -/
structure It where
  go : Nat → Hp → Prop
  yld : Nat → Hp → V → Hp → Prop
  stop : Nat → Hp → Prop
/-- the iterator's own objects may turn: they are not the frame's, not pinned, younger than the entry (or a comprehension's own) -/
def FpOk (X : Cx) (pins : List (Addr × Obj)) (H : Hp) (b : Addr) : Prop :=
  H b = none ∧ b ≠ X.env.locals ∧ b ∉ X.fs ∧ (b ∈ X.ex ∨ X.s_0.heap.objs.size ≤ b) ∧ (∀ x c, X.env.cells.lookup x = some c → c ≠ b) ∧ ∀ p ∈ X.pn ++ pins, p.1 ≠ b
theorem Inv.fpOk {X : Cx} {pins : List (Addr × Obj)} {σ : St} {H H' : Hp} {s : Shared} {b : Addr} (I : Inv X pins σ H s) (hb : s.heap.objs.size ≤ b) (hn : H' b = none) : FpOk X pins H' b := by
  refine ⟨hn, Nat.ne_of_gt (Nat.lt_of_lt_of_le I.lt hb), I.nofs hb, .inr (Nat.le_trans I.sz hb), fun x c e z => ?_, fun p hp z => ?_⟩
  · obtain ⟨v, q⟩ := I.cell x c e
    exact absurd (Nat.lt_of_lt_of_le q.lt (by rw [z]; exact hb)) (Nat.lt_irrefl _)
  · exact absurd (Nat.lt_of_lt_of_le (Heap.lt_size (I.pin p hp).1) (by rw [z]; exact hb)) (Nat.lt_irrefl _)
structure Turn (P : Program) (w : World) (K : PySem.W.Frag) (tg : Expr) (J : It) (fp : List Addr) (it : Addr) (tn : Nat → Heap → Prop) : Prop where
  mem : it ∈ fp
  obj : ∀ i h, tn i h → ∀ b ∈ fp, ∃ o, h.get? b = some o ∧ ∀ v, o.data ≠ .cell v
  keep : ∀ i h h', tn i h → (∀ b ∈ fp, ∀ o, h.get? b = some o → h'.get? b = some o) → tn i h'
  item : ∀ (X : Cx), X.prog = P → X.w = w → X.K = K → X.calm = true → ∀ (i : Nat) (pins : List (Addr × Obj)) (s : Shared) (σ : St) (H : Hp) (E : Value → Shared → Prop), Inv X pins σ H s → (∀ b ∈ fp, FpOk X pins H b) → tn i s.heap → J.go i H →
    wpAny (model P w) X.A (pyNext (.ref it)) (fun r s1 => ∃ u, r = some u ∧
      wpAny (model P w) X.A (letOwnedTupleGo tg (.ref it) u) (fun _ s2 => ∃ x H', Inv X pins σ H' s2 ∧ RelV x u ∧ J.yld i H x H' ∧ tn (i + 1) s2.heap ∧ ∀ b ∈ fp, H' b = none) E s1) E s
  done : ∀ (X : Cx), X.prog = P → X.w = w → X.K = K → X.calm = true → ∀ (i : Nat) (pins : List (Addr × Obj)) (s : Shared) (σ : St) (H : Hp) (E : Value → Shared → Prop), Inv X pins σ H s → (∀ b ∈ fp, FpOk X pins H b) → tn i s.heap → J.stop i H →
    wpAny (model P w) X.A (pyNext (.ref it)) (fun r s1 => r = none ∧ Inv X pins σ H s1) E s
  self : ∀ (A : Around) (i : Nat) (s : Shared) (Q : Value → Shared → Prop) (E : Value → Shared → Prop), tn i s.heap → Q (.ref it) s → wpAny (model P w) A (pyIter (.ref it)) Q E s
abbrev TI := St → Hp → (It → Hp → Prop) → Prop
/-- an iterator has come -/
def PIE (X : Cx) (pins : List (Addr × Obj)) (σ : St) (tg : Expr) (R : It → Hp → Prop) (itv : Value) (s2 : Shared) : Prop :=
  ∃ (it : Addr) (fp : List Addr) (tn : Nat → Heap → Prop) (J : It) (H' : Hp), itv = .ref it ∧ Inv X pins σ H' s2 ∧ Turn X.prog X.w X.K tg J fp it tn ∧ tn 0 s2.heap ∧ (∀ b ∈ fp, FpOk X pins H' b) ∧ R J H'
def PI (X : Cx) (tg iter : Expr) (wi : TI) : Prop :=
  ∀ (pins : List (Addr × Obj)) (s : Shared) (σ : St) (H : Hp) (R : It → Hp → Prop), Inv X pins σ H s → wi σ H R →
    wpAny (model X.prog X.w) X.A (eval iter X.env) (fun v s1 => wpAny (model X.prog X.w) X.A (pyIter v) (PIE X pins σ tg R) X.xe s1) X.xe s

/-- the step ahead of the store is nothing for an iterator that keeps no tuple -/
theorem go_of {M : Model} {A : Around} {E : Value → Shared → Prop} {s : Shared} {tg : Expr} {it : Addr} {u : Value} {o : Obj} {n : String} {vs : Array Value} {Q : Unit → Shared → Prop} (ho : s.heap.get? it = some o) (hc : o.cls = .type n) (hd : o.data = .fields vs)
    (hn : ["enumerate", "zip", "dict_itemiterator", "dict_reverseitemiterator", "odict_iterator", "itertools.zip_longest", "itertools.pairwise"].contains n = false) (hQ : Q () s) : wpAny M A (letOwnedTupleGo tg (.ref it) u) Q E s := by
  unfold letOwnedTupleGo
  cases tg <;> first
    | exact wpAny_pure hQ
    | (cases u <;> first
        | exact wpAny_pure hQ
        | (refine wpAny_bind (wpAny_load ho ?_)
           rw [hc, hd]
           show wpAny M A (if (["enumerate", "zip", "dict_itemiterator", "dict_reverseitemiterator", "odict_iterator", "itertools.zip_longest", "itertools.pairwise"].contains n && vs[0]? == some (rawInt _)) = true then _ else _) Q E s
           rw [if_neg (by intro h; rw [hn, Bool.false_and] at h; cases h)]
           exact wpAny_pure hQ))

/-- the list at a, as it stands at each turn (a loop may append to it) -/
def Itl (K : PySem.W.Frag) (a : Addr) : It :=
  ⟨fun i H => ∃ xs x, SqL K H a xs ∧ xs[i]? = some x, fun i H x H' => H' = H ∧ ∀ xs, SqL K H a xs → xs[i]? = some x, fun i H => ∃ xs, SqL K H a xs ∧ xs.length ≤ i⟩
/-- lo, lo + 1, .. (n of them) -/
def Itr (lo : Int) (n : Nat) : It := ⟨fun i _ => i < n, fun i H x H' => H' = H ∧ x = .int (lo + i), fun i _ => n ≤ i⟩
theorem turn_list {P : Program} {w : World} {K : PySem.W.Frag} {tg : Expr} (a it : Addr) : Turn P w K tg (Itl K a) [it] it (fun i h => h.IsListIter it a i) where
  mem := by simp
  obj := fun i h st b hb => by
    have e : b = it := by simpa using hb
    subst e
    obtain ⟨o, e, c, d⟩ := st
    exact ⟨o, e, fun v z => by rw [d] at z; cases z⟩
  keep := fun i h h' st k => st.at fun o e => k it (by simp) o e
  item := by
    intro X hP hw hK hc i pins s σ H E I hf st hg
    subst hP hw hK
    obtain ⟨xs, x, hq, hx⟩ := hg
    obtain ⟨its, rv, p, hz⟩ := I.list hq
    obtain ⟨u, hu, ru⟩ := rv.get hx
    obtain ⟨f0, f1, f2, f3, f4, f5⟩ := hf it (by simp)
    refine wpAny_pyNext_list_item st p.isList (x := u) (by simpa using hu) fun h' st' sb => ?_
    have I1 : Inv X pins σ H { s with heap := h' } := I.turned (t' := s.toks) (fun b o hb e => (sb.2 b hb).trans e) f0 f1 f3 f4 f5
    obtain ⟨o, e, c, d⟩ := id st'
    exact ⟨u, rfl, go_of (s := { s with heap := h' }) e c d (by decide) ⟨x, H, I1, ru, ⟨rfl, fun ys hy => by rw [I.list_inj hy hq]; exact hx⟩, st', fun b hb => (hf b hb).1⟩⟩
  done := by
    intro X hP hw hK hc i pins s σ H E I hf st hg
    subst hP hw hK
    obtain ⟨xs, hq, hx⟩ := hg
    obtain ⟨its, rv, p, hz⟩ := I.list hq
    obtain ⟨f0, f1, f2, f3, f4, f5⟩ := hf it (by simp)
    have hl := rv.length
    exact wpAny_pyNext_list_end (I.ok.hd hc) st p.isList (by simp; omega) fun h' eb => ⟨rfl, I.turned (t' := s.toks) (fun b o hb e => eb b o hb e) f0 f1 f3 f4 f5⟩
  self := fun _ _ _ _ _ st h => wpAny_pyIter_listiter st h
theorem turn_range {P : Program} {w : World} {K : PySem.W.Frag} {tg : Expr} (it : Addr) (lo : Int) (n : Nat) : Turn P w K tg (Itr lo n) [it] it (fun i h => IsRangeIter h it (lo + (i : Nat) * 1) ((n : Int) - (i : Nat)) 1) where
  mem := by simp
  obj := fun i h st b hb => by
    have e : b = it := by simpa using hb
    subst e
    exact ⟨_, st, fun v z => by
      have z' : Data.fields _ = Data.cell v := z
      cases z'⟩
  keep := fun i h h' st k => k it (by simp) _ st
  item := by
    intro X hP hw hK hc i pins s σ H E I hf st hg
    subst hP hw hK
    obtain ⟨f0, f1, f2, f3, f4, f5⟩ := hf it (by simp)
    have W := Walks.range (prog := X.prog) (w := X.w) (I.ok.hd hc) it lo 1 n
    refine W.item i s _ _ hg st fun v h' tk hv st' kk => ?_
    obtain ⟨t, rfl⟩ := hv
    have I1 : Inv X pins σ H { s with heap := h', toks := tk } := I.turned (fun b o hb e => kk b o (by simpa using hb) e) f0 f1 f3 f4 f5
    refine ⟨_, rfl, go_of (s := { s with heap := h', toks := tk }) (n := "range_iterator") st' rfl rfl (by decide) ⟨.int (lo + i), H, I1, ⟨t, ?_⟩, ⟨rfl, rfl⟩, st', fun b hb => (hf b hb).1⟩⟩
    rw [Int.mul_one]
  done := by
    intro X hP hw hK hc i pins s σ H E I hf st hg
    subst hP hw hK
    obtain ⟨f0, f1, f2, f3, f4, f5⟩ := hf it (by simp)
    exact wpAny_pyNext_range_end (I.ok.hd hc) st (by have : n ≤ i := hg; omega) fun h' eb => ⟨rfl, I.turned (t' := s.toks) (fun b o hb e => eb b o hb e) f0 f1 f3 f4 f5⟩
  self := fun _ _ _ _ _ st h => wpAny_pyIter_rangeiter st h
end L2
namespace L2
open PySem PySem.Spec PyProof.Rows
section
variable {X : Cx} {tg : Expr}
def iList (K : PySem.W.Frag) (tl : TE) : TI := fun σ H R => tl σ H fun x H1 => ∃ a, x = .ref a ∧ (∃ xs, SqL K H1 a xs) ∧ R (Itl K a) H1
theorem pi_list {l : Expr} {tl : TE} (hl : PE X l tl) : PI X tg l (iList X.K tl) := by
  intro pins s σ H R I h
  refine thn (hl pins s σ H _ I h) fun v s1 ⟨x, H1, I1, r1, q1⟩ => ?_
  obtain ⟨a, e, ⟨xs, hq⟩, q⟩ := q1
  subst e
  cases r1
  obtain ⟨its, rv, p, hz⟩ := I1.list hq
  refine wpAny_pyIter_list p.isList ?_
  refine ⟨s1.heap.objs.size, [s1.heap.objs.size], _, _, H1, rfl, I1.kept (t' := s1.toks) fun b o e => Heap.get?_push_of_some _ e, turn_list a _, ⟨_, Heap.get?_push_size _ rfl, rfl, rfl⟩, fun b hb => ?_, q⟩
  have e : b = s1.heap.objs.size := by simpa using hb
  subst e
  exact I1.fpOk (Nat.le_refl _) (I1.hok.fresh (Nat.le_refl _))
/-- a range object just made, walked -/
theorem range_it {pins : List (Addr × Obj)} {σ : St} {H : Hp} {s : Shared} {R : It → Hp → Prop} {E : Value → Shared → Prop} {lo hi : Int} {t u v : Tok} {tk : Nat} (I : Inv X pins σ H s) (h1 : -(2 ^ 62) ≤ lo) (h2 : lo < 2 ^ 62) (h3 : -(2 ^ 62) ≤ hi) (h4 : hi < 2 ^ 62)
    (q : R (Itr lo (hi - lo).toNat) H) : wpAny (model X.prog X.w) X.A (pyIter (.ref s.heap.objs.size)) (PIE X pins σ tg R) E { s with heap := s.heap.push { cls := .type "range", data := .fields #[.int lo t, .int hi u, .int 1 v] }, toks := tk } := by
  refine wpAny_pyIter_range (IsRange.new ..) (small_one h1 h2 h3 h4) ?_
  have I1 : Inv X pins σ H { s with heap := s.heap.push { cls := .type "range", data := .fields #[.int lo t, .int hi u, .int 1 v] }, toks := tk } := I.kept fun b o e => Heap.get?_push_of_some _ e
  refine ⟨(s.heap.push { cls := .type "range", data := .fields #[.int lo t, .int hi u, .int 1 v] }).objs.size, [(s.heap.push { cls := .type "range", data := .fields #[.int lo t, .int hi u, .int 1 v] }).objs.size], _, _, H, rfl,
    I1.kept (t' := tk) fun b o e => Heap.get?_push_of_some _ e, turn_range _ lo (hi - lo).toNat, ?_, fun b hb => ?_, q⟩
  · have e1 : lo + ((0 : Nat) : Int) * 1 = lo := by simp
    have e2 : (((hi - lo).toNat : Nat) : Int) - ((0 : Nat) : Int) = Builtin.Range.rangeSize lo hi 1 := by rw [rangeSize_one]; split <;> omega
    show IsRangeIter _ _ (lo + ((0 : Nat) : Int) * 1) ((((hi - lo).toNat : Nat) : Int) - ((0 : Nat) : Int)) 1
    rw [e1, e2]
    exact Heap.get?_push_size _ rfl
  · have e : b = (s.heap.push { cls := .type "range", data := .fields #[.int lo t, .int hi u, .int 1 v] }).objs.size := by simpa using hb
    subst e
    exact I1.fpOk (Nat.le_refl _) (I1.hok.fresh (Nat.le_refl _))
def iRng1 (ta : TA) : TI := fun σ H R => ta σ H fun vs H1 => ∃ j : Int, vs = [.int j] ∧ -(2 ^ 62) ≤ j ∧ j < 2 ^ 62 ∧ R (Itr 0 j.toNat) H1
theorem pi_range1 {a : Expr} {ta : TA} {p pos : Pos} (hg : Gl X "range") (hm : X.mg "range" = none) (ha : PA X [a] ta) (hs : starEach [a] X.env = [(false, eval a X.env)] := by rfl) : PI X tg (.Call (.Name "range" p) [a] [] pos) (iRng1 ta) := by
  intro pins s σ H R I h
  refine Call_ (ld_blt I hg hm boot_range (PyProof.Rows.callWith_type1 (thn (ha pos pins s σ H _ I h) fun us s1 ⟨vs, H1, I1, r1, q1⟩ => ?_) hs rfl))
  obtain ⟨j, e, q1, q2, q⟩ := q1
  subst e
  cases r1 with
  | cons r rr =>
    cases rr
    obtain ⟨t, rfl⟩ := r
    exact call_range_1 (range_it I1 (by omega) (by omega) q1 q2 (by simpa using q))
/-- W: the invariant by the turn and a measure; N: what the body is to reach -/
def tFor (wi : TI) (g : TG) (tb : TS) : TS := fun D σ H => wi σ H fun J H1 => ∃ W : Nat → Nat → St → Hp → Prop, (∃ m, W 0 m σ H1) ∧ ∀ i m σ H, W i m σ H →
  (J.stop i H ∧ D.nx σ H) ∨ (J.go i H ∧ ∃ N : St → Hp → Prop, (∀ σ' H', N σ' H' → ∃ m', m' < m ∧ W (i + 1) m' σ' H') ∧ ∀ x H', J.yld i H x H' → g x σ H' fun σ2 H2 => tb { D with nx := N, ct := N, bk := D.nx } σ2 H2)
/-- the records at fp as they stand -/
def pinsAt (fp : List Addr) (h : Heap) : List (Addr × Obj) := fp.filterMap fun b => (h.get? b).map fun o => (b, o)
theorem mem_pinsAt {fp : List Addr} {h : Heap} {b : Addr} {o : Obj} (hb : b ∈ fp) (e : h.get? b = some o) : (b, o) ∈ pinsAt fp h := List.mem_filterMap.mpr ⟨b, hb, by rw [e]; rfl⟩
theorem of_pinsAt {fp : List Addr} {h : Heap} {p : Addr × Obj} (hp : p ∈ pinsAt fp h) : p.1 ∈ fp ∧ h.get? p.1 = some p.2 := by
  obtain ⟨b, hb, e⟩ := List.mem_filterMap.mp hp
  cases q : h.get? b with
  | none => rw [q] at e; cases e
  | some o =>
    rw [q] at e
    have e' : (b, o) = p := Option.some.inj e
    subst e'
    exact ⟨hb, q⟩
theorem Inv.pinned {pins : List (Addr × Obj)} {σ : St} {H : Hp} {s : Shared} {fp : List Addr} (I : Inv X pins σ H s) (hf : ∀ b ∈ fp, FpOk X pins H b) (ho : ∀ b ∈ fp, ∃ o, s.heap.get? b = some o ∧ ∀ v, o.data ≠ .cell v) : Inv X (pins ++ pinsAt fp s.heap) σ H s :=
  I.pins_of fun p hp => (List.mem_append.mp hp).elim (fun z => I.pin p (List.mem_append_right _ z)) fun z => by
    obtain ⟨hb, e⟩ := of_pinsAt z
    obtain ⟨f0, f1, f2, _⟩ := hf p.1 hb
    obtain ⟨o, e', d⟩ := ho p.1 hb
    rw [e] at e'; cases e'
    exact ⟨e, f0, f1, f2, d⟩
theorem Inv.unpinned {pins pl : List (Addr × Obj)} {σ : St} {H : Hp} {s : Shared} (I : Inv X (pins ++ pl) σ H s) : Inv X pins σ H s := I.pins_of fun p hp => I.pin p (List.mem_append_right _ (List.mem_append_left _ hp))
theorem ps_for {iter : Expr} {body : List Stmt} {wi : TI} {g : TG} {tb : TS} {pos : Pos} (hp : PassesOwn (model X.prog X.w) X.A X.env X.xe) (hc : X.calm = true) (hi : PI X tg iter wi) (hg : PG X tg g) (hb : PSs X body tb)
    (hs : ∀ x, foldedSetIterable iter X.env x = pure x := by intro _; rfl) : PS X (.For tg iter body [] pos) (tFor wi g tb) := by
  intro pins s σ H D I h
  refine wpAny_For (thn (hi pins s σ H _ I h) fun v s1 h1 => thn h1 fun itv s2 h2 => ?_) hs
  obtain ⟨it, fp, tn, J, H2, e, I2, T, st2, f2, W, ⟨m0, w0⟩, turn⟩ := h2
  subst e
  -- what stays true of the iterator's objects through the loop
  have stat : ∀ {H' : Hp}, (∀ b ∈ fp, H' b = none) → ∀ b ∈ fp, FpOk X pins H' b := fun hn b hb => ⟨hn b hb, (f2 b hb).2⟩
  refine codeAny_forLoop_any (fun n s' => ∃ i σ' H', Inv X pins σ' H' s' ∧ tn i s'.heap ∧ (∀ b ∈ fp, H' b = none) ∧ W i n σ' H') ?_ m0 ⟨0, σ, H2, I2, st2, fun b hb => (f2 b hb).1, w0⟩
  rintro n s3 ⟨i, σ3, H3, I3, st3, fr3, w3⟩
  rcases turn i n σ3 H3 w3 with ⟨stop, qn⟩ | ⟨go, N, hN, step⟩
  · refine wpAny_passesOwn hp (thn (T.done X rfl rfl rfl hc i pins s3 σ3 H3 X.xe I3 (stat fr3) st3 stop) fun r s4 ⟨hr, I4⟩ => ?_)
    subst hr
    exact wpAny_execs_nil ⟨σ3, H3, I4, qn⟩
  · refine wpAny_passesOwn hp (thn (T.item X rfl rfl rfl hc i pins s3 σ3 H3 X.xe I3 (stat fr3) st3 go) fun r s4 ⟨u, hr, h4⟩ => ?_)
    subst hr
    refine wpAny_passesOwn hp (thn h4 fun _ s5 ⟨x, H5, I5, r5, y5, st5, fr5⟩ => ?_)
    have I5' := I5.pinned (stat fr5) (T.obj _ _ st5)
    refine wpAny_passesOwn hp (thn (hg _ s5 σ3 H5 x u _ I5' r5 (step x H5 y5)) fun _ s6 ⟨σ6, H6, I6, q6⟩ => ?_)
    refine wpAny_passesOwn hp (thn (hb _ s6 σ6 H6 _ I6 q6) fun f s7 q7 => ?_)
    have again : ∀ {σ7 : St} {H7 : Hp}, Inv X (pins ++ pinsAt fp s5.heap) σ7 H7 s7 → N σ7 H7 → ∃ m, m < n ∧ ∃ i σ' H', Inv X pins σ' H' s7 ∧ tn i s7.heap ∧ (∀ b ∈ fp, H' b = none) ∧ W i m σ' H' := fun {σ7 H7} I7 n7 => by
      obtain ⟨m', hm, w7⟩ := hN σ7 H7 n7
      refine ⟨m', hm, i + 1, σ7, H7, I7.unpinned, T.keep _ _ _ st5 fun b hb o e => (I7.pin (b, o) (List.mem_append_right _ (List.mem_append_right _ (mem_pinsAt hb e)))).1, fun b hb => ?_, w7⟩
      obtain ⟨o, e, d⟩ := T.obj _ _ st5 b hb
      exact (I7.pin (b, o) (List.mem_append_right _ (List.mem_append_right _ (mem_pinsAt hb e)))).2.1
    cases f with
    | next => obtain ⟨σ7, H7, I7, n7⟩ := q7; exact again I7 n7
    | cont => obtain ⟨σ7, H7, I7, n7⟩ := q7; exact again I7 n7
    | brk => obtain ⟨σ7, H7, I7, q7⟩ := q7; exact ⟨σ7, H7, I7.unpinned, q7⟩
    | ret v => obtain ⟨x7, σ7, H7, I7, r7, q7⟩ := q7; exact ⟨x7, σ7, H7, I7.unpinned, r7, q7⟩
end
/-- over a list that the body leaves as it is -/
theorem for_list {K : PySem.W.Frag} {a : Addr} {xs : List V} {g : TG} {tb : TS} {D : Ends} {σ : St} {H : Hp} (Pv : Nat → St → Hp → Prop) (h0 : Pv 0 σ H) (hl : ∀ i σ H, i ≤ xs.length → Pv i σ H → SqL K H a xs)
    (hs : ∀ i x σ H, xs[i]? = some x → Pv i σ H → g x σ H fun σ2 H2 => tb { D with nx := Pv (i + 1), ct := Pv (i + 1), bk := D.nx } σ2 H2) (hd : ∀ σ H, Pv xs.length σ H → D.nx σ H) :
    ∃ W : Nat → Nat → St → Hp → Prop, (∃ m, W 0 m σ H) ∧ ∀ i m σ H, W i m σ H →
      ((Itl K a).stop i H ∧ D.nx σ H) ∨ ((Itl K a).go i H ∧ ∃ N : St → Hp → Prop, (∀ σ' H', N σ' H' → ∃ m', m' < m ∧ W (i + 1) m' σ' H') ∧ ∀ x H', (Itl K a).yld i H x H' → g x σ H' fun σ2 H2 => tb { D with nx := N, ct := N, bk := D.nx } σ2 H2) := by
  refine ⟨fun i m σ H => m = xs.length - i ∧ i ≤ xs.length ∧ Pv i σ H, ⟨xs.length, by simp, Nat.zero_le _, h0⟩, ?_⟩
  rintro i m σ H ⟨rfl, hi, p⟩
  have q := hl i σ H hi p
  by_cases hlt : i < xs.length
  · refine .inr ⟨⟨xs, xs[i], q, by simp [hlt]⟩, Pv (i + 1), fun σ' H' p' => ⟨xs.length - (i + 1), by omega, rfl, hlt, p'⟩, fun x H' y => ?_⟩
    obtain ⟨e, y⟩ := y
    subst e
    exact hs i x σ _ (y xs q) p
  · have e : i = xs.length := by omega
    subst e
    exact .inl ⟨⟨xs, q, Nat.le_refl _⟩, hd σ H p⟩
theorem for_range {lo : Int} {n : Nat} {g : TG} {tb : TS} {D : Ends} {σ : St} {H : Hp} (Pv : Nat → St → Hp → Prop) (h0 : Pv 0 σ H)
    (hs : ∀ i σ H, i < n → Pv i σ H → g (.int (lo + i)) σ H fun σ2 H2 => tb { D with nx := Pv (i + 1), ct := Pv (i + 1), bk := D.nx } σ2 H2) (hd : ∀ σ H, Pv n σ H → D.nx σ H) :
    ∃ W : Nat → Nat → St → Hp → Prop, (∃ m, W 0 m σ H) ∧ ∀ i m σ H, W i m σ H →
      ((Itr lo n).stop i H ∧ D.nx σ H) ∨ ((Itr lo n).go i H ∧ ∃ N : St → Hp → Prop, (∀ σ' H', N σ' H' → ∃ m', m' < m ∧ W (i + 1) m' σ' H') ∧ ∀ x H', (Itr lo n).yld i H x H' → g x σ H' fun σ2 H2 => tb { D with nx := N, ct := N, bk := D.nx } σ2 H2) := by
  refine ⟨fun i m σ H => m = n - i ∧ i ≤ n ∧ Pv i σ H, ⟨n, by simp, Nat.zero_le _, h0⟩, ?_⟩
  rintro i m σ H ⟨rfl, hi, p⟩
  by_cases hlt : i < n
  · refine .inr ⟨hlt, Pv (i + 1), fun σ' H' p' => ⟨n - (i + 1), by omega, rfl, hlt, p'⟩, fun x H' y => ?_⟩
    obtain ⟨e, y⟩ := y
    subst e y
    exact hs i σ _ hlt p
  · have e : i = n := by omega
    subst e
    exact .inl ⟨Nat.le_refl _, hd σ H p⟩
end L2
namespace L2
open PySem PySem.Spec PyProof.Rows
abbrev R2 := V → V → Hp → VK → Prop
/-- a two-place operation on values: f is binaryOp op, inplaceOp op or compareOp op -/
def OpR (X : Cx) (f : Value → Value → Sem Value) (r : R2) : Prop :=
  ∀ (pins : List (Addr × Obj)) (s : Shared) (σ : St) (H : Hp) (x y : V) (v u : Value) (Q : VK), Inv X pins σ H s → RelV x v → RelV y u → r x y H Q →
    wpAny (model X.prog X.w) X.A (f v u) (EP X pins σ Q) X.xe s
/-- a call of a value that is known (a builtin, a type) with values -/
def CallR (X : Cx) (f : Value) (r : List V → Hp → VK → Prop) : Prop :=
  ∀ (pins : List (Addr × Obj)) (s : Shared) (σ : St) (H : Hp) (xs : List V) (us : List Value) (Q : VK), Inv X pins σ H s → Vals xs us → r xs H Q →
    wpAny (model X.prog X.w) X.A (call f us) (EP X pins σ Q) X.xe s
/-- a value's truth -/
def TruR (X : Cx) (r : V → Hp → (Bool → Hp → Prop) → Prop) : Prop :=
  ∀ (pins : List (Addr × Obj)) (s : Shared) (σ : St) (H : Hp) (x : V) (v : Value) (Q : Bool → Hp → Prop), Inv X pins σ H s → RelV x v → r x H Q →
    wpAny (model X.prog X.w) X.A (truthy v) (TP X pins σ Q) X.xe s

def tOp (r : R2) (ta tb : TE) : TE := fun σ H Q => ta σ H fun x H1 => tb σ H1 fun y H2 => r x y H2 Q
/-- ints in, under C, and a value out -/
def rI (C : Int → Int → Prop) (g : Int → Int → V) : R2 := fun x y H Q => ∃ i j, x = .int i ∧ y = .int j ∧ C i j ∧ Q (g i j) H
def rI0 (g : Int → Int → V) : R2 := fun x y H Q => ∃ i j, x = .int i ∧ y = .int j ∧ Q (g i j) H
section
variable {X : Cx} {a b c : Expr} {ta tb tc : TE} {pos : Pos}
theorem binT (ha : PE X a ta) (hb : PE X b tb) {pins : List (Addr × Obj)} {s : Shared} {σ : St} {H : Hp} {R : V → V → Hp → Prop} (I : Inv X pins σ H s)
    (h : ta σ H fun x H1 => tb σ H1 fun y H2 => R x y H2) {Q : Value → Shared → Prop} {f : Value → Value → Sem Value}
    (hf : ∀ v u s2 x y H2, Inv X pins σ H2 s2 → RelV x v → RelV y u → R x y H2 → wpAny (model X.prog X.w) X.A (f v u) Q X.xe s2) :
    wpAny (model X.prog X.w) X.A (eval a X.env) (fun v s₁ => wpAny (model X.prog X.w) X.A (eval b X.env) (fun u s₂ => wpAny (model X.prog X.w) X.A (f v u) Q X.xe s₂) X.xe s₁) X.xe s := by
  refine thn (ha pins s σ H _ I h) fun v s1 ⟨x, H1, I1, r1, q1⟩ => ?_
  refine thn (hb pins s1 σ H1 _ I1 q1) fun u s2 ⟨y, H2, I2, r2, q2⟩ => ?_
  exact hf v u s2 x y H2 I2 r1 r2 q2

theorem pe_op {op : Operator} {r : R2} (ho : OpR X (binaryOp op) r) (ha : PE X a ta) (hb : PE X b tb) : PE X (.BinOp a op b pos) (tOp r ta tb) := by
  intro pins s σ H Q I h
  exact wpAny_BinOp (binT ha hb I h fun v u s2 x y H2 I2 rx ry q => ho pins s2 σ H2 x y v u Q I2 rx ry q)
theorem opI {f : Value → Value → Sem Value} {C : Int → Int → Prop} {g : Int → Int → Int}
    (rule : ∀ (i j : Int) (t u : Tok) (s : Shared) (Q : Value → Shared → Prop) (E : Value → Shared → Prop), C i j → Q (.int (g i j) s.toks) { s with toks := s.toks + 1 } → wpAny (model X.prog X.w) X.A (f (.int i t) (.int j u)) Q E s) :
    OpR X f (rI C fun i j => .int (g i j)) := by
  intro pins s σ H x y v u Q I rx ry h
  obtain ⟨i, j, rfl, rfl, hc, q⟩ := h
  obtain ⟨t, rfl⟩ := rx
  obtain ⟨t', rfl⟩ := ry
  exact rule i j t t' s _ _ hc ⟨.int (g i j), H, I.tok _, ⟨_, rfl⟩, q⟩
theorem opI0 {f : Value → Value → Sem Value} {g : Int → Int → Int}
    (rule : ∀ (i j : Int) (t u : Tok) (s : Shared) (Q : Value → Shared → Prop) (E : Value → Shared → Prop), Q (.int (g i j) s.toks) { s with toks := s.toks + 1 } → wpAny (model X.prog X.w) X.A (f (.int i t) (.int j u)) Q E s) :
    OpR X f (rI0 fun i j => .int (g i j)) := by
  intro pins s σ H x y v u Q I rx ry h
  obtain ⟨i, j, rfl, rfl, q⟩ := h
  obtain ⟨t, rfl⟩ := rx
  obtain ⟨t', rfl⟩ := ry
  exact rule i j t t' s _ _ ⟨.int (g i j), H, I.tok _, ⟨_, rfl⟩, q⟩
theorem opB0 {f : Value → Value → Sem Value} {g : Int → Int → Bool}
    (rule : ∀ (i j : Int) (t u : Tok) (s : Shared) (Q : Value → Shared → Prop) (E : Value → Shared → Prop), Q (.bool (g i j)) s → wpAny (model X.prog X.w) X.A (f (.int i t) (.int j u)) Q E s) :
    OpR X f (rI0 fun i j => .bl (g i j)) := by
  intro pins s σ H x y v u Q I rx ry h
  obtain ⟨i, j, rfl, rfl, q⟩ := h
  obtain ⟨t, rfl⟩ := rx
  obtain ⟨t', rfl⟩ := ry
  exact rule i j t t' s _ _ ⟨.bl (g i j), H, I, rfl, q⟩

def CDiv (i j : Int) : Prop := 0 < j ∧ j < 1073741824
def CPow (i j : Int) : Prop := 0 ≤ j ∧ j ≤ 1000000 ∧ i.natAbs < 2 ^ 64
def CMul (i j : Int) : Prop := (-(2 ^ 64) < i ∧ i < 2 ^ 64) ∨ (-(2 ^ 64) < j ∧ j < 2 ^ 64)
theorem CMul.ok {i j : Int} (h : CMul i j) : IntMulOk i j := by
  rcases h with ⟨h1, h2⟩ | ⟨h1, h2⟩
  · exact .of_left (intBits_le_64 h1 h2)
  · exact .of_right (intBits_le_64 h1 h2)
theorem op_add : OpR X (binaryOp .Add) (rI0 fun i j => .int (i + j)) := opI0 fun _ _ _ _ _ _ _ q => add_int q
theorem op_mul : OpR X (binaryOp .Mult) (rI CMul fun i j => .int (i * j)) := opI fun _ _ _ _ _ _ _ hc q => mul_int q hc.ok
/-- // by a positive divisor -/
theorem op_fdiv : OpR X (binaryOp .FloorDiv) (rI CDiv fun i j => .int (i / j)) := opI fun i j _ _ _ _ _ hc q => by
  have h1 : (0 : Int) < j := hc.1
  have h2 : j < 1073741824 := hc.2
  exact floordiv_int (by omega) (by rw [Int.fdiv_eq_ediv_of_nonneg i (by omega)]; exact q) (.inl (PyProof.noPylong_small (by omega)))
/-- % by a positive divisor of any size -/
theorem op_mod : OpR X (binaryOp .Mod) (rI (fun _ j => 0 < j) fun i j => .int (i % j)) := opI fun i j _ _ _ _ _ hc q => by
  have h1 : (0 : Int) < j := hc
  exact mod_int' (by omega) (by rw [Int.fmod_eq_emod_of_nonneg i (by omega)]; exact q)
theorem op_pow : OpR X (binaryOp .Pow) (rI CPow fun i j => .int (i ^ j.toNat)) := opI fun _ _ _ _ _ _ _ hc q => pow_int_small hc.1 hc.2.1 hc.2.2 q
end
/-- the scalars that == tells apart as data does -/
def scal : V → V → Bool
  | .non, .non => true | .non, .int _ => true | .int _, .non => true | .non, .bl _ => true | .bl _, .non => true | .non, .str _ => true | .str _, .non => true
  | .int _, .int _ => true | .bl _, .bl _ => true | .str _, .str _ => true | .byt _, .byt _ => true
  | .int _, .str _ => true | .str _, .int _ => true | .bl _, .str _ => true | .str _, .bl _ => true
  | _, _ => false
def rEq : R2 := fun x y H Q => scal x y = true ∧ Q (.bl (decide (x = y))) H
def rNe : R2 := fun x y H Q => scal x y = true ∧ Q (.bl (!decide (x = y))) H

theorem dec_int {i j : Int} : decide (V.int i = V.int j) = (i == j) := by
  rw [Bool.eq_iff_iff]
  simp
theorem dec_bl {i j : Bool} : decide (V.bl i = V.bl j) = (i == j) := by
  rw [Bool.eq_iff_iff]
  simp
theorem dec_str {i j : Str} : decide (V.str i = V.str j) = (i == j) := by
  rw [Bool.eq_iff_iff]
  simp
theorem dec_byt {i j : Array UInt8} : decide (V.byt i = V.byt j) = (i.toList == j.toList) := by
  rw [Bool.eq_iff_iff]
  cases i
  cases j
  simp

section
variable {X : Cx} {a b c : Expr} {ta tb tc : TE} {pos : Pos}
theorem fin_bl {pins : List (Addr × Obj)} {σ : St} {H : Hp} {s : Shared} {Q : VK} {k k' : Bool} (I : Inv X pins σ H s) (q : Q (.bl k) H) (e : k = k') : EP X pins σ Q (.bool k') s := by
  subst e
  exact ⟨.bl k, H, I, rfl, q⟩
theorem op_eq : OpR X (compareOp .Eq) rEq := by
  intro pins s σ H x y v u Q I rx ry h
  obtain ⟨hs, q⟩ := h
  cases x with
  | non =>
    cases rx
    cases y with
    | non => cases ry; exact PySem.EqNone.eq_none_none (fin_bl I q (by simp))
    | bl j => cases ry; exact PySem.EqNone.eq_none_bool (fin_bl I q (by simp))
    | int j => obtain ⟨t', rfl⟩ := ry; exact PySem.EqNone.eq_none_int (fin_bl I q (by simp))
    | str j => obtain ⟨t', rfl⟩ := ry; exact PySem.EqNone.eq_none_str (fin_bl I q (by simp))
    | _ => exact absurd (show false = true from hs) Bool.false_ne_true
  | bl i =>
    cases rx
    cases y with
    | non => cases ry; exact PySem.EqNone.eq_bool_none (fin_bl I q (by simp))
    | bl j => cases ry; exact eq_bool (fin_bl I q dec_bl)
    | str j => obtain ⟨t', rfl⟩ := ry; exact PySem.EqMixed.eq_bool_str (fin_bl I q (by simp))
    | _ => exact absurd (show false = true from hs) Bool.false_ne_true
  | int i =>
    obtain ⟨t, rfl⟩ := rx
    cases y with
    | non => cases ry; exact PySem.EqNone.eq_int_none (fin_bl I q (by simp))
    | int j => obtain ⟨t', rfl⟩ := ry; exact eq_int (fin_bl I q dec_int)
    | str j => obtain ⟨t', rfl⟩ := ry; exact PySem.EqMixed.eq_int_str (fin_bl I q (by simp))
    | _ => exact absurd (show false = true from hs) Bool.false_ne_true
  | str i =>
    obtain ⟨t, rfl⟩ := rx
    cases y with
    | non => cases ry; exact PySem.EqNone.eq_str_none (fin_bl I q (by simp))
    | bl j => cases ry; exact PySem.EqMixed.eq_str_bool (fin_bl I q (by simp))
    | int j => obtain ⟨t', rfl⟩ := ry; exact PySem.EqMixed.eq_str_int (fin_bl I q (by simp))
    | str j => obtain ⟨t', rfl⟩ := ry; exact eq_str (fin_bl I q dec_str)
    | _ => exact absurd (show false = true from hs) Bool.false_ne_true
  | byt i =>
    obtain ⟨t, rfl⟩ := rx
    cases y with
    | byt j => obtain ⟨t', rfl⟩ := ry; exact PySem.W.eq_bytes (fin_bl I q dec_byt)
    | _ => exact absurd (show false = true from hs) Bool.false_ne_true
  | _ => cases y <;> exact absurd (show false = true from hs) Bool.false_ne_true
theorem op_ne : OpR X (compareOp .NotEq) rNe := by
  intro pins s σ H x y v u Q I rx ry h
  obtain ⟨hs, q⟩ := h
  cases x with
  | non =>
    cases rx
    cases y with
    | non => cases ry; exact PySem.EqNone.ne_none_none (fin_bl I q (by simp))
    | bl j => cases ry; exact PySem.EqNone.ne_none_bool (fin_bl I q (by simp))
    | int j => obtain ⟨t', rfl⟩ := ry; exact PySem.EqNone.ne_none_int (fin_bl I q (by simp))
    | str j => obtain ⟨t', rfl⟩ := ry; exact PySem.EqNone.ne_none_str (fin_bl I q (by simp))
    | _ => exact absurd (show false = true from hs) Bool.false_ne_true
  | bl i =>
    cases rx
    cases y with
    | non => cases ry; exact PySem.EqNone.ne_bool_none (fin_bl I q (by simp))
    | bl j => cases ry; exact ne_bool (fin_bl I q (congrArg not dec_bl))
    | str j => obtain ⟨t', rfl⟩ := ry; exact PySem.EqMixed.ne_bool_str (fin_bl I q (by simp))
    | _ => exact absurd (show false = true from hs) Bool.false_ne_true
  | int i =>
    obtain ⟨t, rfl⟩ := rx
    cases y with
    | non => cases ry; exact PySem.EqNone.ne_int_none (fin_bl I q (by simp))
    | int j => obtain ⟨t', rfl⟩ := ry; exact ne_int (fin_bl I q (congrArg not dec_int))
    | str j => obtain ⟨t', rfl⟩ := ry; exact PySem.EqMixed.ne_int_str (fin_bl I q (by simp))
    | _ => exact absurd (show false = true from hs) Bool.false_ne_true
  | str i =>
    obtain ⟨t, rfl⟩ := rx
    cases y with
    | non => cases ry; exact PySem.EqNone.ne_str_none (fin_bl I q (by simp))
    | bl j => cases ry; exact PySem.EqMixed.ne_str_bool (fin_bl I q (by simp))
    | int j => obtain ⟨t', rfl⟩ := ry; exact PySem.EqMixed.ne_str_int (fin_bl I q (by simp))
    | str j => obtain ⟨t', rfl⟩ := ry; exact ne_str (fin_bl I q (congrArg not dec_str))
    | _ => exact absurd (show false = true from hs) Bool.false_ne_true
  | byt i =>
    obtain ⟨t, rfl⟩ := rx
    cases y with
    | byt j => obtain ⟨t', rfl⟩ := ry; exact PySem.W.ne_bytes (fin_bl I q (congrArg not dec_byt))
    | _ => exact absurd (show false = true from hs) Bool.false_ne_true
  | _ => cases y <;> exact absurd (show false = true from hs) Bool.false_ne_true

theorem op_le : OpR X (compareOp .LtE) (rI0 fun i j => .bl (decide (i ≤ j))) := opB0 fun _ _ _ _ _ _ _ q => le_int q
theorem op_gt : OpR X (compareOp .Gt) (rI0 fun i j => .bl (decide (j < i))) := opB0 fun _ _ _ _ _ _ _ q => gt_int q
theorem op_ge : OpR X (compareOp .GtE) (rI0 fun i j => .bl (decide (j ≤ i))) := opB0 fun _ _ _ _ _ _ _ q => ge_int q
/-- is None, is not None: the right side a value none -/
theorem op_isN : OpR X (compareOp .Is) (fun x y H Q => y = .non ∧ Q (.bl (decide (x = .non))) H) := by
  intro pins s σ H x y v u Q I rx ry h
  obtain ⟨rfl, q⟩ := h
  cases ry
  refine is_none_gen (fin_bl I q ?_)
  cases x <;> first
    | (cases rx; rfl)
    | (obtain ⟨t, rfl⟩ := rx; rfl)
/-- two rules for one operation: by cases -/
theorem OpR.or {f : Value → Value → Sem Value} {r r' : R2} (h : OpR X f r) (h' : OpR X f r') : OpR X f (fun x y H Q => r x y H Q ∨ r' x y H Q) := by
  intro pins s σ H x y v u Q I rx ry q
  rcases q with q | q
  · exact h pins s σ H x y v u Q I rx ry q
  · exact h' pins s σ H x y v u Q I rx ry q

theorem nomark (b : Expr) {op : CmpOp} (h : op ≠ .In := by decide) (h2 : op ≠ .NotIn := by decide) : behindInMarks op b = false := by
  have e1 : (op == CmpOp.In) = false := by cases op <;> first | rfl | exact absurd rfl h
  have e2 : (op == CmpOp.NotIn) = false := by cases op <;> first | rfl | exact absurd rfl h2
  cases b <;> simp [behindInMarks, e1, e2]
/-- a comparison as a value; hm: nomark b, or (for in, not in) by with_unfolding_all rfl -/
theorem pe_cmpR {op : CmpOp} {r : R2} (ho : OpR X (compareOp op) r) (ha : PE X a ta) (hb : PE X b tb) (hm : behindInMarks op b = false) : PE X (.Compare a [op] [b] pos) (tOp r ta tb) := by
  intro pins s σ H Q I h
  exact wpAny_Compare1 (binT ha hb I h fun v u s2 x y H2 I2 rx ry q => ho pins s2 σ H2 x y v u Q I2 rx ry q) hm
/-- a reading of a value as a test -/
def tTest (t : TE) : TT := fun σ H Q => t σ H fun x H' => ∃ k, x = .bl k ∧ Q k H'
theorem pt_cmpR {op : CmpOp} {r : R2} (ho : OpR X (compareOp op) r) (ha : PE X a ta) (hb : PE X b tb) (hm : behindInMarks op b = false) : PT X (.Compare a [op] [b] pos) (tTest (tOp r ta tb)) := by
  intro pins s σ H Q I h
  refine wpAny_isTrue_Compare1 (thn (ha pins s σ H _ I h) fun v s1 ⟨x, H1, I1, r1, q1⟩ => thn (hb pins s1 σ H1 _ I1 q1) fun u s2 ⟨y, H2, I2, r2, q2⟩ =>
    thn (ho pins s2 σ H2 x y v u _ I2 r1 r2 q2) fun c s3 ⟨z, H3, I3, r3, k, e, q3⟩ => ?_) hm
  subst e
  cases r3
  exact wpAny_truthy_bool ⟨H3, I3, q3⟩
/-- a op1 b op2 c -/
def tChain (r r' : R2) (ta tb tc : TE) : TE := fun σ H Q => ta σ H fun x H1 => tb σ H1 fun y H2 => r x y H2 fun z H3 => ∃ k, z = .bl k ∧
  (if k = true then tc σ H3 fun w' H4 => r' y w' H4 Q else Q (.bl false) H3)
theorem pe_chain {op op' : CmpOp} {r r' : R2} (ho : OpR X (compareOp op) r) (ho' : OpR X (compareOp op') r') (ha : PE X a ta) (hb : PE X b tb) (hc : PE X c tc)
    (hm : lastMarks [op, op'] [b, c] = false := by with_unfolding_all rfl) : PE X (.Compare a [op, op'] [b, c] pos) (tChain r r' ta tb tc) := by
  intro pins s σ H Q I h
  refine Compare_chain (thn (ha pins s σ H _ I h) fun v s1 ⟨x, H1, I1, r1, q1⟩ => chain_link (thn (hb pins s1 σ H1 _ I1 q1) fun u s2 ⟨y, H2, I2, r2, q2⟩ =>
    thn (ho pins s2 σ H2 x y v u _ I2 r1 r2 q2) fun d s3 ⟨z, H3, I3, r3, k, e, q3⟩ => ?_)) hm
  subst e
  cases r3
  refine wpAny_truthy_bool ?_
  cases k with
  | false => exact ite_ff ⟨.bl false, H3, I3, rfl, q3⟩
  | true => exact ite_tt (chain_last (thn (hc pins s3 σ H3 _ I3 q3) fun w' s4 ⟨z', H4, I4, r4, q4⟩ => ho' pins s4 σ H4 y z' u w' Q I4 r2 r4 q4))
/-- a value's truth by the abstract heap -/
def TruV (K : PySem.W.Frag) (x : V) (H : Hp) (k : Bool) : Prop :=
  match x with
  | .non => k = false
  | .bl b => k = b
  | .int i => k = (i != 0)
  | .str y => y.length ≤ sizeLine ∧ k = ((y.length : Int) != 0)
  | .byt y => y.size ≤ sizeLine ∧ k = ((y.size : Int) != 0)
  | .ref p => (∃ xs, SqL K H p xs ∧ k = !xs.isEmpty) ∨ (∃ xs, SqT K H p xs ∧ k = !xs.isEmpty) ∨ ∃ kvs, H p = some (.dK kvs) ∧ k = !kvs.isEmpty
  | _ => False
theorem isEmpty_kv {κ : Type} {kvs : List (κ × V)} {vs : List (κ × Value)} (r : KV kvs vs) : (!vs.isEmpty) = !kvs.isEmpty := by
  cases r <;> rfl
theorem isEmpty_of {xs : List V} {its : List Value} (r : Vals xs its) : (!its.toArray.isEmpty) = !xs.isEmpty := by
  cases r <;> simp
theorem line63 : (sizeLine : Nat) < 2 ^ 63 := by rw [sizeLine_eq]; decide
theorem tru_ok : TruR X (fun x H Q => ∃ k, TruV X.K x H k ∧ Q k H) := by
  intro pins s σ H x v Q I rx h
  obtain ⟨k, e, q⟩ := h
  have hl := line63
  have hs : sizeLine = 16777216 := sizeLine_eq
  cases x with
  | non =>
    cases rx
    have e' : k = false := e
    subst e'
    exact truthy_none ⟨H, I, q⟩
  | bl b =>
    cases rx
    have e' : k = b := e
    subst e'
    exact wpAny_truthy_bool ⟨H, I, q⟩
  | int i =>
    obtain ⟨t, rfl⟩ := rx
    have e' : k = (i != 0) := e
    subst e'
    exact PySem.P.truthy_int ⟨H, I, q⟩
  | str y =>
    obtain ⟨t, rfl⟩ := rx
    obtain ⟨hy, e'⟩ : y.length ≤ sizeLine ∧ k = ((y.length : Int) != 0) := e
    subst e'
    exact PySem.P.truthy_str (by omega) ⟨H, I.tok _, q⟩
  | byt y =>
    obtain ⟨t, rfl⟩ := rx
    obtain ⟨hy, e'⟩ : y.size ≤ sizeLine ∧ k = ((y.size : Int) != 0) := e
    subst e'
    exact PySem.W.truthy_bytes (by omega) ⟨H, I.tok _, q⟩
  | ref p =>
    cases rx
    have e' : (∃ xs, SqL X.K H p xs ∧ k = !xs.isEmpty) ∨ (∃ xs, SqT X.K H p xs ∧ k = !xs.isEmpty) ∨ ∃ kvs, H p = some (.dK kvs) ∧ k = !kvs.isEmpty := e
    rcases e' with ⟨xs, hx, e'⟩ | ⟨xs, hx, e'⟩ | ⟨kvs, hx, e'⟩
    · subst e'
      obtain ⟨its, r, pl, hz⟩ := I.list hx
      have hlen := r.length
      exact wpAny_truthy_list pl.isList (by simp only [List.size_toArray]; omega) ⟨H, I.tok _, by rw [isEmpty_of r]; exact q⟩
    · subst e'
      obtain ⟨its, r, pl, hz⟩ := I.tuple hx
      have hlen := r.length
      exact truthy_tuple pl (by simp only [List.size_toArray]; omega) ⟨H, I.tok _, by rw [isEmpty_of r]; exact q⟩
    · subst e'
      obtain ⟨hz, hS, vs, r, m⟩ : kvs.length ≤ sizeLine ∧ (p == sysModules) = false ∧ ∃ vs, KV kvs vs ∧ s.heap.DictOf (mixKind X.prog X.w) p vs := I.hok p _ hx
      have hlen : kvs.length = vs.length := Paired.length r
      exact wpAny_truthy_dict hS m (by omega) ⟨H, I.tok _, by rw [isEmpty_kv r]; exact q⟩
  | _ => exact (show False from e).elim
/-- any expression whose test is its value's truth (a name, a call, a subscript, a field ..: he by fun _ => rfl) -/
theorem pt_truth (ha : PE X a ta) (he : ∀ whole, isTrue a X.env whole = (do let v ← whole; standAt a.pos; holding [v] (truthy v))) :
    PT X a (fun σ H Q => ta σ H fun x H' => ∃ k, TruV X.K x H' k ∧ Q k H') := by
  intro pins s σ H Q I h
  exact isTrue_plain (thn (ha pins s σ H _ I h) fun v s1 ⟨x, H1, I1, r1, q1⟩ => tru_ok pins s1 σ H1 x v Q I1 r1 q1) (he _)

theorem op_add_str : OpR X (binaryOp .Add) (fun x y H Q => ∃ i j, x = .str i ∧ y = .str j ∧ i.length + j.length ≤ sizeLine ∧ Q (.str (i ++ j)) H) := by
  intro pins s σ H x y v u Q I rx ry h
  obtain ⟨i, j, rfl, rfl, hz, q⟩ := h
  obtain ⟨t, rfl⟩ := rx
  obtain ⟨t', rfl⟩ := ry
  exact add_str (fun t' tk => ⟨.str (i ++ j), H, I.tok _, ⟨_, rfl⟩, q⟩) hz
theorem vals1 {x : V} {us : List Value} (r : Vals [x] us) : ∃ u, us = [u] ∧ RelV x u := by
  cases r with
  | cons r1 r2 => cases r2; exact ⟨_, rfl, r1⟩
theorem vals2 {x y : V} {us : List Value} (r : Vals [x, y] us) : ∃ u w', us = [u, w'] ∧ RelV x u ∧ RelV y w' := by
  cases r with
  | cons r1 r2 =>
    cases r2 with
    | cons r3 r4 => cases r4; exact ⟨_, _, rfl, r1, r3⟩
theorem call_int1 : CallR X (.type "int") (fun xs H Q => (∃ i, xs = [.int i] ∧ Q (.int i) H) ∨ ∃ k, xs = [.bl k] ∧ Q (.int (if k then 1 else 0)) H) := by
  intro pins s σ H xs us Q I r h
  rcases h with ⟨i, rfl, q⟩ | ⟨k, rfl, q⟩
  · obtain ⟨u, rfl, t, rfl⟩ := vals1 r
    exact call_int_int ⟨.int i, H, I, ⟨_, rfl⟩, q⟩
  · obtain ⟨u, rfl, r1⟩ := vals1 r
    cases r1
    exact call_int_bool ⟨.int (if k then 1 else 0), H, I.tok _, ⟨_, rfl⟩, q⟩
end
end L2
namespace L2
open PySem PySem.Spec PyProof.Rows
structure ObjM (h : Heap) (x dx C : Addr) (mA : Str → Option Value) : Prop where
  obj : h.get? x = some (PySem.W.instObj C dx)
  ns : h.Ns1 dx mA
  ne : dx ≠ x

theorem lookIn_ns {h : Heap} {dx : Addr} {mA : Str → Option Value} (n : h.Ns1 dx mA) : ∃ od, h.get? dx = some od ∧ ∀ name, PySem.W.lookIn name od = some (mA name) := by
  obtain ⟨o, es, ep, ho, hd, hk, _, hm⟩ := n
  refine ⟨o, ho, fun name => ?_⟩
  have e := hm name
  unfold nsFind findBy at e
  rw [← Array.find?_toList] at e
  unfold PySem.W.lookIn
  rw [hd]
  dsimp only
  split
  · rename_i y q
    rw [q] at e
    exact congrArg some e
  · rename_i q
    rw [q] at e
    have a : es.toList.any (·.refKey) = false := by
      rw [List.any_eq_false]
      intro y hy
      obtain ⟨z, t, hkey⟩ := hk y (Array.mem_toList_iff.mp hy)
      simp [DictEntry.refKey, hkey]
    have a' : ¬ es.toList.any (·.refKey) = true := by rw [a]; exact Bool.false_ne_true
    rw [if_neg a']
    exact congrArg some e

theorem ObjM.look {h : Heap} {x dx C : Addr} {mA : Str → Option Value} (I : ObjM h x dx C mA) : ∃ od, PySem.W.InstAt h x (PySem.W.instObj C dx) C (some od) ∧ ∀ name, PySem.W.lookIn name od = some (mA name) :=
  let ⟨od, ho, hl⟩ := lookIn_ns I.ns
  ⟨od, ⟨I.obj, rfl, rfl, ho⟩, hl⟩

section
variable {prog : Program} {w : World} {A : Around} {E : Value → Shared → Prop} {s : Shared} {K : PySem.W.Frag} {x dx C f : Addr} {mA : Str → Option Value} {name : Str} {v : Value}
end
section
variable {P : Program} {w : World} {H H' : Hp} {h h' : Heap} {a C dx : Addr} {fs fs' : List (Str × V)}
end
structure Cls (K : PySem.W.Frag) (C : Addr) : Prop where
  pg : PySem.W.plainGet K C Str.empty = true
  hd : PySem.W.hasDictIn K C = true
  po : PySem.W.plainOver K C = true
  sa : PySem.W.findIn K (.ref C) "__setattr__" = some (some (.builtin "object.__setattr__"))
theorem Cls.get {K : PySem.W.Frag} {C : Addr} (c : Cls K C) (f : Str) : PySem.W.plainGet K C f = true := c.pg
section
variable {X : Cx} {pins : List (Addr × Obj)} {σ : St} {H : Hp} {s : Shared} {a C dx : Addr} {fs : List (Str × V)} {f : Str} {v : V} {A : Around} {E : Value → Shared → Prop}
/-- a new instance, tracked, without attributes -/
theorem Inv.made (I : Inv X pins σ H s) : Inv X pins σ (upd (upd H s.heap.objs.size (.own (s.heap.objs.size + 1))) (s.heap.objs.size + 1) (.ins C s.heap.objs.size []))
    { s with heap := (s.heap.push PySem.W.emptyDict).push (PySem.W.instObj C s.heap.objs.size) } := by
  have e1 : (s.heap.push PySem.W.emptyDict).get? s.heap.objs.size = some PySem.W.emptyDict := Heap.get?_push_size s.heap rfl
  have e2 : ((s.heap.push PySem.W.emptyDict).push (PySem.W.instObj C s.heap.objs.size)).get? (s.heap.objs.size + 1) = some (PySem.W.instObj C s.heap.objs.size) := by
    have := Heap.get?_push_size (s.heap.push PySem.W.emptyDict) (o := PySem.W.instObj C s.heap.objs.size) rfl
    rwa [Heap.size_push] at this
  have e3 : (s.heap.push PySem.W.emptyDict).Ns s.heap.objs.size (fun _ => none) := ⟨PySem.W.emptyDict, #[], _, e1, rfl, (fun e he => absurd he (by simp)), fun _ => rfl⟩
  have I1 := I.laid (a := s.heap.objs.size) (o := .own (s.heap.objs.size + 1)) (h' := s.heap.push PySem.W.emptyDict) (t' := s.toks) (fun b u q => Heap.get?_push_of_some _ q) (Nat.le_refl _) ⟨_, e1⟩
  refine I1.laid (a := s.heap.objs.size + 1) (o := .ins C s.heap.objs.size []) (t' := s.toks) (fun b u q => Heap.get?_push_of_some _ q) (Nat.le_of_eq (Heap.size_push _ _)) ?_
  have ne : s.heap.objs.size ≠ s.heap.objs.size + 1 := Nat.ne_of_lt (Nat.lt_succ_self _)
  refine ⟨by rw [upd_ne ne, upd_same], Nat.zero_le _, ne, e2, fun _ => none, (Heap.Ns1.of_empty e3).at fun o q => Heap.get?_push_of_some _ q, fun _ => True.intro, fun y hy => absurd rfl hy⟩

end
section
variable {X : Cx} {o e value : Expr} {f : Str} {pos pos' tpos : Pos} {ta tv : TE}
end
section
variable {X : Cx} {pins : List (Addr × Obj)} {σ : St} {H : Hp} {s : Shared} {A : Around} {E : Value → Shared → Prop} {Q : Value → Shared → Prop} {c : Value} {b : Bool}
end
end L2
namespace L2
open PySem PySem.Spec PyProof.Rows
structure Room (k : Nat) (A : Around) : Prop where
  hd : A.handled = none
  dp : A.depth + 3 * k + 5 < recursionLimit
  un : A.units + 16 * k + 200 < cLine
theorem Room.mono {j k : Nat} {A : Around} (r : Room k A) (h : j ≤ k) : Room j A := ⟨r.hd, by have := r.dp; omega, by have := r.un; omega⟩
theorem Room.deeper {k : Nat} {A : Around} (r : Room (k + 1) A) (env : Env) : Room k (A.deeper env) :=
  ⟨r.hd, by have := r.dp; show A.depth + 1 + 3 * k + 5 < _; omega, by have := r.un; show A.units + 3 + 16 * k + 200 < _; omega⟩
theorem Room.in1 {k : Nat} {A : Around} (r : Room (k + 1) A) : Room k A.in1 :=
  ⟨r.hd, by have := r.dp; show A.depth + 3 * k + 5 < _; omega, by have := r.un; show A.units + 1 + 16 * k + 200 < _; omega⟩
theorem make_depth {A : Around} {C : Addr} {us : List Value} {kw : List (Str × Value)} : (A.under (.builtin "type.__call__" ⟨.ref C :: us, kw⟩)).depth = A.depth + 1 := by
  first | rfl | simp [Around.under, Code.weight, Code.isCreation, Code.isGuard, Code.isCaller, Code.frames, Code.isFrame, guardIds]
theorem make_units {A : Around} {C : Addr} {us : List Value} {kw : List (Str × Value)} : (A.under (.builtin "type.__call__" ⟨.ref C :: us, kw⟩)).units = A.units + 1 := by
  first | rfl | simp [Around.under, Code.cUnits, Code.frames, Code.isFrame]
theorem Room.make {k : Nat} {A : Around} (r : Room (k + 1) A) (C : Addr) (us : List Value) (kw : List (Str × Value)) : Room k (A.under (.builtin "type.__call__" ⟨.ref C :: us, kw⟩)) :=
  ⟨r.hd, by have := r.dp; rw [make_depth]; omega, by have := r.un; rw [make_units]; omega⟩
theorem Room.depth {k : Nat} {A : Around} (r : Room k A) : A.depth < recursionLimit := by have := r.dp; omega
theorem Room.units {k : Nat} {A : Around} (r : Room k A) : A.units + 64 < cLine := by have := r.un; omega
def tNil : TA := fun _ H Q => Q [] H
def tCons (ta : TE) (tr : TA) : TA := fun σ H Q => ta σ H fun x H1 => tr σ H1 fun xs H2 => Q (x :: xs) H2
section
variable {X : Cx} {e : Expr} {es : List Expr} {te : TE} {t : TA} {pos : Pos}
theorem pa_nil : PA X [] tNil := fun _ _ _ _ H Q I h => Calls.spliced_nil ⟨[], H, I, .nil, h⟩
theorem pa_cons (ha : PE X e te) (hr : PA X es t) (hs : starEach (e :: es) X.env = (false, eval e X.env) :: starEach es X.env := by rfl) : PA X (e :: es) (tCons te t) := by
  intro pos pins s σ H Q I h
  rw [hs]
  show wpAny _ _ (spliced ((false, eval e X.env) :: backTo pos (starEach es X.env))) _ _ s
  refine Calls.spliced_cons (thn (ha pins s σ H _ I h) fun u s1 ⟨x, H1, I1, r1, q1⟩ => ?_)
  exact thn (hr pos pins s1 σ H1 _ I1 q1) fun us s2 ⟨xs, H2, I2, r2, q2⟩ => ⟨x :: xs, H2, I2, .cons r1 r2, q2⟩

/-- a tuple, a list of written items -/
def tTup (t : TA) : TE := fun σ H Q => t σ H fun xs H1 => xs.length ≤ sizeLine ∧ ∀ p, H1 p = none → Q (.ref p) (upd H1 p (.tup xs))
def tLst (t : TA) : TE := fun σ H Q => t σ H fun xs H1 => xs.length ≤ sizeLine ∧ ∀ p, H1 p = none → Q (.ref p) (upd H1 p (.lst xs))
theorem pe_tup {x1} (h : PA X es t) : PE X (.Tuple es x1 pos) (tTup t) := by
  intro pins s σ H Q I hq
  refine wpAny_Tuple_spliced (thn (h pos pins s σ H _ I hq) fun us s1 ⟨xs, H1, I1, r, z, q⟩ => ⟨by rw [← r.length]; exact z, ?_⟩)
  have hf : H1 s1.heap.objs.size = none := I1.hok.fresh (Nat.le_refl _)
  refine ⟨.ref s1.heap.objs.size, upd H1 s1.heap.objs.size (.tup xs), I1.laid (t' := s1.toks) (fun b u e => Heap.get?_push_of_some _ e) (Nat.le_refl _) ?_, rfl, q _ hf⟩
  exact ⟨z, us, r, ⟨_, Heap.get?_push_size _ rfl, rfl, _, rfl⟩⟩
theorem pe_lst (h : PA X es t) : PE X (.List es pos) (tLst t) := by
  intro pins s σ H Q I hq
  refine wpAny_List_spliced (thn (h pos pins s σ H _ I hq) fun us s1 ⟨xs, H1, I1, r, z, q⟩ => ⟨by rw [← r.length]; exact z, ?_⟩)
  have hf : H1 s1.heap.objs.size = none := I1.hok.fresh (Nat.le_refl _)
  refine ⟨.ref s1.heap.objs.size, upd H1 s1.heap.objs.size (.lst xs), I1.laid (t' := s1.toks) (fun b u e => Heap.get?_push_of_some _ e) (Nat.le_refl _) ?_, rfl, q _ hf⟩
  exact ⟨z, us, 0, r, Heap.get?_push_size _ rfl⟩
end
/-- a def's promise: the bound arguments in the parameters' order, the heap, the wanted end, the wanted exception -/
abbrev Sp := List V → Hp → VK → XK → Prop
/-- how an exception lies behind a call (file 08 gives it): the callers' frames, abstract heap and state ahead of the call, the wish, the exception, the state -/
abbrev CXT := List Env → Hp → Shared → XK → Value → Shared → Prop

/-- the state at a call -/
structure Env0 (P : Program) (w : World) (K : PySem.W.Frag) (mg : Str → Option Value) (base : Heap) (A : Around) (outer : List Env) (s : Shared) (H : Hp) : Prop where
  mod : Mod K mg base
  bs : ∀ b o, base.get? b = some o → s.heap.get? b = some o ∧ H b = none
  bsz : base.objs.size ≤ s.heap.objs.size
  funs : s.heap.FunFrames base outer
  frf : ∀ b ∈ frs outer, H b = none
  hok : HOk P w H s.heap
/-- which generators' predicates a def of k calls keeps -/
def Cl (k : Nat) (gp : Array GenState → Drawn → Prop) : Prop := 10 ≤ k → ∀ g d, gp g d ↔ AllBare g
theorem Cl.mono {j k : Nat} {gp : Array GenState → Drawn → Prop} (h : Cl k gp) (l : j ≤ k) : Cl j gp := fun z => h (Nat.le_trans z l)
/-- a call's end -/
def CE (gp : Array GenState → Drawn → Prop) (outer : List Env) (P : Program) (w : World) (H : Hp) (s : Shared) (Q : VK) (u : Value) (s' : Shared) : Prop :=
  ∃ v H', s'.os = s.os ∧ gp s'.gens s'.drawn ∧ Un (frs outer) [] H H' s.heap s'.heap ∧ HOk P w H' s'.heap ∧ RelV v u ∧ Q v H'
def CR (gp : Array GenState → Drawn → Prop) (CX : CXT) (outer : List Env) (P : Program) (w : World) (H : Hp) (s : Shared) (Q : VK) (E : XK) (r : Result) (s' : Shared) : Prop :=
  match r with
  | .ok (.ret u) => CE gp outer P w H s Q u s'
  | .ok _ => False
  | .error e => CX outer H s E e s'
structure FnOk (P : Program) (w : World) (K : PySem.W.Frag) (mg : Str → Option Value) (base : Heap) (CX : CXT) (k : Nat) (f : Addr) (fd : FuncData) (ps : List Str) (sp : Sp) : Prop where
  len : ∀ vs H Q E, sp vs H Q E → vs.length = ps.length
  run : ∀ (A : Around) (outer : List Env) (s : Shared) (H : Hp) (args : Args) (us : List Value) (vs : List V) (Q : VK) (E : XK) (gp : Array GenState → Drawn → Prop), Cl k gp → gp s.gens s.drawn → ((∀ g d, gp g d ↔ AllBare g) → A.frames = some outer ∧ A.guards = some []) → Room k A → Env0 P w K mg base A outer s H → BindsTo s fd args (ps.zip us) → Vals vs us → sp vs H Q E →
    codeAny (model P w) A (.call (.ref f) args) (CR gp CX outer P w H s Q E) s
theorem FnOk.mono {P : Program} {w : World} {K : PySem.W.Frag} {mg : Str → Option Value} {base : Heap} {CX : CXT} {j k : Nat} {f : Addr} {fd : FuncData} {ps : List Str} {sp : Sp} (F : FnOk P w K mg base CX j f fd ps sp) (h : j ≤ k) :
    FnOk P w K mg base CX k f fd ps sp := ⟨F.len, fun A outer s H args us vs Q E gp hc hg hf hr => F.run A outer s H args us vs Q E gp (hc.mono h) hg hf (hr.mono h)⟩
theorem Env0.make {P : Program} {w : World} {K : PySem.W.Frag} {mg : Str → Option Value} {base : Heap} {A : Around} {outer : List Env} {s : Shared} {H : Hp} (e : Env0 P w K mg base A outer s H) (C : Addr) (us : List Value) (kw : List (Str × Value)) :
    Env0 P w K mg base (A.under (.builtin "type.__call__" ⟨.ref C :: us, kw⟩)) outer s H := ⟨e.mod, e.bs, e.bsz, e.funs, e.frf, e.hok⟩
theorem Env0.in1 {P : Program} {w : World} {K : PySem.W.Frag} {mg : Str → Option Value} {base : Heap} {A : Around} {outer : List Env} {s : Shared} {H : Hp} (e : Env0 P w K mg base A outer s H) :
    Env0 P w K mg base A.in1 outer s H := ⟨e.mod, e.bs, e.bsz, e.funs, e.frf, e.hok⟩

section
variable {X : Cx} {pins : List (Addr × Obj)} {σ : St} {H : Hp} {s s' : Shared}
/-- from a body: what a callee wants -/
theorem Inv.env0 (I : Inv X pins σ H s) : Env0 X.prog X.w X.K X.mg X.base X.A X.stack s H :=
  ⟨I.ok.mod, I.bs, Nat.le_trans I.ok.bsz I.sz, I.stack, I.stkFree, I.hok⟩
/-- behind a call -/
theorem Inv.after {Q : VK} {u : Value} (I : Inv X pins σ H s) (h : CE X.gp X.stack X.prog X.w H s Q u s') : EP X pins σ Q u s' := by
  obtain ⟨v, H', os, bare, un, hok, r, q⟩ := h
  obtain ⟨hh, g, d, t, os'⟩ := s'
  obtain rfl : os' = s.os := os
  exact ⟨v, H', I.call (h' := hh) (g' := g) (d' := d) (t' := t) (ch := []) un hok bare (fun b z => absurd z (by simp)), r, q⟩
end
/-- f(..): the written arguments, then the defaults dvs; E: what is wanted of an exception -/
def tCall (sp : Sp) (dvs : List V) (E : XK) (t : TA) : TE := fun σ H Q => t σ H fun vs H1 => sp (vs ++ dvs) H1 Q E
/-- how the parameters are bound: us the positional arguments, kw the keywords' values by name, ds the defaults that fill up -/
def Binds (K : PySem.W.Frag) (fd : FuncData) (ps : List Str) (ds : List Value) : Prop :=
  ∀ (s : Shared) (us : List Value), K.In s.heap → (us ++ ds).length = ps.length → BindsTo s fd ⟨us, []⟩ (ps.zip (us ++ ds))
/-- every parameter is given -/
theorem Binds.all {K : PySem.W.Frag} {fd : FuncData} {ps : List Str} (h : ∀ us : List Value, us.length = ps.length → bindArgs fd ⟨us, []⟩ = pure (ps.zip us)) : Binds K fd ps [] := fun s us _ hl => by
  rw [List.append_nil] at hl ⊢
  exact .of_eq (h us hl)

/-- an exception of a callee reaches what this body wants of exceptions -/
def Passes (CX : CXT) (X : Cx) (E : XK) : Prop := ∀ (pins : List (Addr × Obj)) (σ : St) (H : Hp) (s : Shared) (e : Value) (s' : Shared), Inv X pins σ H s → CX X.stack H s E e s' → X.xe e s'

section
variable {X : Cx} {CX : CXT} {k : Nat} {f C : Addr} {fd : FuncData} {ps : List Str} {sp : Sp} {dvs : List V} {ds : List Value} {E : XK} {x m : Str} {p pos apos : Pos} {e o : Expr} {es : List Expr} {ta : TE} {t : TA}
/-- the callee runs -/
theorem run_fn {pins : List (Addr × Obj)} {σ : St} {H : Hp} {s : Shared} {Q : VK} {us : List Value} {vs : List V} (F : FnOk X.prog X.w X.K X.mg X.base CX k f fd ps sp) (hcl : Cl k X.gp) (hr : Room k X.A) (hb : Binds X.K fd ps ds) (hd : Vals dvs ds) (hx : Passes CX X E)
    (I : Inv X pins σ H s) (r : Vals vs us) (h : sp (vs ++ dvs) H Q E) : wpAny (model X.prog X.w) X.A (call (.ref f) us) (EP X pins σ Q) X.xe s := by
  have r2 : Vals (vs ++ dvs) (us ++ ds) := r.append hd
  have hl : (us ++ ds).length = ps.length := by rw [← r2.length]; exact F.len _ _ _ _ h
  refine wpAny_call (codeAny_mono (F.run X.A X.stack s H ⟨us, []⟩ (us ++ ds) (vs ++ dvs) Q E X.gp hcl I.bare I.ok.frames hr I.env0 (hb s us I.kIn hl) r2 h) fun r s' hq => ?_)
  cases r with
  | error e => exact hx pins σ H s e s' I hq
  | ok fl =>
    cases fl with
    | ret u => exact I.after hq
    | next => exact False.elim hq
    | brk => exact False.elim hq
    | cont => exact False.elim hq

theorem pe_call (F : FnOk X.prog X.w X.K X.mg X.base CX k f fd ps sp) (hr : Room k X.A) (hg : Gl X x) (hm : X.mg x = some (.ref f)) (hk : PySem.W.keepIn X.K (.ref f) = true) (hb : Binds X.K fd ps ds) (hd : Vals dvs ds) (hx : Passes CX X E)
    (ha : PA X (e :: es) t) (hdb : (x == ("__debug__" : Str)) = false := by decide) (he : starEach (e :: es) X.env = (false, eval e X.env) :: starEach es X.env := by rfl) (hpl : (backTo pos (starEach es X.env)).any (·.1) = false := by rfl) (hcl : Cl k X.gp := by first | assumption | exact Cl.mono (by assumption) (by decide)) :
    PE X (.Call (.Name x p) (e :: es) [] pos) (tCall sp dvs E t) := by
  intro pins s σ H Q I h
  refine wpAny_Call_Name_kw (ld_glob I hg hm ?_ hdb)
  refine PySem.W.callWith_K (h₀ := X.base) I.ok.mod.kin hk (thn (ha pos pins s σ H _ I h) fun us s1 ⟨vs, H1, I1, r, q⟩ => ⟨I1.kIn, ?_⟩) he hpl
  exact run_fn F hcl hr hb hd hx I1 r q
end
section
variable {X : Cx} {CX : CXT} {k : Nat} {f C : Addr} {fd : FuncData} {ps ks : List Str} {sp : Sp} {E : XK} {x m : Str} {p pos apos kpos : Pos} {e o : Expr} {es : List Expr} {kws : List Keyword} {te ta : TE} {t tk : TA} {nm : Option Str}
variable {g : List Value → List Value → List Value} {gV : List V → List V → List V}
end
/-- names: the parameters first -/
structure FnScope (N P : List Str) (sc : Scope) : Prop where
  kind : sc.kind = .function
  co : sc.isCoroutine = false
  gen : sc.isGenerator = false
  nd : N.Nodup
  pre : N.take P.length = P
  par : ∀ x ∈ P, sc.names.lookup x = some .local ∨ sc.names.lookup x = some .cell
  nofree : ∀ y ∈ sc.names, y.2 ≠ .free

theorem bindL_out {kindOf : Str → Option NameKind} {x : Str} : ∀ {binds : List (Str × Value)} {m : Str → Option Value}, (∀ v, (x, v) ∉ binds) → bindL kindOf binds m x = m x
  | [], _, _ => rfl
  | (n, v) :: r, m, h => by
    unfold bindL
    rw [bindL_out fun w hw => h w (List.mem_cons_of_mem _ hw)]
    split
    · have : x ≠ n := by rintro rfl; exact h v List.mem_cons_self
      simp [this]
    · rfl
theorem bindC_out {kindOf : Str → Option NameKind} {x : Str} : ∀ {binds : List (Str × Value)} {m : Str → Option Value}, (∀ v, (x, v) ∉ binds) → bindC kindOf binds m x = m x
  | [], _, _ => rfl
  | (n, v) :: r, m, h => by
    unfold bindC
    rw [bindC_out fun w hw => h w (List.mem_cons_of_mem _ hw)]
    split
    · rfl
    · have : x ≠ n := by rintro rfl; exact h v List.mem_cons_self
      simp [this]
theorem bindL_get {kindOf : Str → Option NameKind} {x : Str} {v : Value} : ∀ {P : List Str} {vs : List Value} {i : Nat} {m : Str → Option Value}, P.Nodup → P[i]? = some x → vs[i]? = some v → kindOf x = some .local →
    bindL kindOf (P.zip vs) m x = some v
  | [], _, _, _, _, h, _, _ => by simp at h
  | _ :: _, [], _, _, _, _, h, _ => by simp at h
  | p :: P, w :: vs, 0, m, nd, h1, h2, hk => by
    simp at h1 h2; subst h1; subst h2
    show bindL kindOf ((p, w) :: P.zip vs) m p = _
    unfold bindL
    rw [bindL_out fun v hv => (List.nodup_cons.mp nd).1 (List.of_mem_zip hv).1, if_pos hk]
    simp
  | p :: P, w :: vs, i + 1, m, nd, h1, h2, hk => by
    show bindL kindOf ((p, w) :: P.zip vs) m x = _
    unfold bindL
    exact bindL_get (i := i) (List.nodup_cons.mp nd).2 (by simpa using h1) (by simpa using h2) hk
theorem bindC_get {kindOf : Str → Option NameKind} {x : Str} {v : Value} : ∀ {P : List Str} {vs : List Value} {i : Nat} {m : Str → Option Value}, P.Nodup → P[i]? = some x → vs[i]? = some v → kindOf x ≠ some .local →
    bindC kindOf (P.zip vs) m x = some v
  | [], _, _, _, _, h, _, _ => by simp at h
  | _ :: _, [], _, _, _, _, h, _ => by simp at h
  | p :: P, w :: vs, 0, m, nd, h1, h2, hk => by
    simp at h1 h2; subst h1; subst h2
    show bindC kindOf ((p, w) :: P.zip vs) m p = _
    unfold bindC
    rw [bindC_out fun v hv => (List.nodup_cons.mp nd).1 (List.of_mem_zip hv).1, if_neg hk]
    simp
  | p :: P, w :: vs, i + 1, m, nd, h1, h2, hk => by
    show bindC kindOf ((p, w) :: P.zip vs) m x = _
    unfold bindC
    exact bindC_get (i := i) (List.nodup_cons.mp nd).2 (by simpa using h1) (by simpa using h2) hk

/-- the names' values at the entry -/
def start (N : List Str) (vs : List V) : St := vs.map some ++ List.replicate (N.length - vs.length) none

/-- the context of a def's body, at its entry; an exception leaves the frame, then lies as CX says -/
def cxOf (CX : CXT) (P : Program) (w : World) (K : PySem.W.Frag) (mg : Str → Option Value) (base : Heap) (N : List Str) (qual : Str) (scope : Scope) (f : Addr) (cd : Value) (A : Around) (outer : List Env) (s : Shared) (H : Hp) (E : XK) (gp : Array GenState → Drawn → Prop) : Cx where
  prog := P
  w := w
  K := K
  mg := mg
  base := base
  A := A.deeper (envOfC qual scope s.heap.objs.size f cd)
  N := N
  s_0 := s
  H_0 := H
  env := envOfC qual scope s.heap.objs.size f cd
  outer := outer
  stack := envOfC qual scope s.heap.objs.size f cd :: outer
  ex := []
  calm := true
  fn := fun _ => true
  pn := []
  xe := fun e s' => wpAny (model P w) (A.deeper (envOfC qual scope s.heap.objs.size f cd)) (leaving (envOfC qual scope s.heap.objs.size f cd) e) (fun _ s'' => CX outer H s E e s'') (fun e' s'' => CX outer H s E e' s'') s'
  gp := gp

theorem cell_has {sc : Scope} {n : Nat} {x : Str} (h : sc.names.lookup x = some .cell) : ∃ c, (cellsFrom n sc.names []).lookup x = some c := by
  have q := PySem.W.cellsFrom_some sc.names n [] (.inl h)
  exact Option.isSome_iff_exists.mp q

theorem inv_start {CX : CXT} {P : Program} {w : World} {K : PySem.W.Frag} {mg : Str → Option Value} {base : Heap} {N ps : List Str} {qual : Str} {scope : Scope} {f : Addr} {cd : Value} {A : Around} {outer : List Env} {s s1 : Shared} {H : Hp} {E : XK} {us : List Value} {vs : List V} {gp : Array GenState → Drawn → Prop}
    (hgp : gp s.gens s.drawn) (hfr : (∀ g d, gp g d ↔ AllBare g) → A.frames = some outer ∧ A.guards = some []) (S : FnScope N ps scope) (hd : A.handled = none) (e0 : Env0 P w K mg base A outer s H) (hl : vs.length = ps.length) (r : Vals vs us)
    (x : InCallC s s.heap.objs.size (bindL (envOfC qual scope s.heap.objs.size f cd).kindOf (ps.zip us) fun _ => none) (cellsFrom (s.heap.objs.size + 1) scope.names []) (bindC (envOfC qual scope s.heap.objs.size f cd).kindOf (ps.zip us) fun _ => none) s1) :
    Inv (cxOf CX P w K mg base N qual scope f cd A outer s H E gp) [] (start N vs) H s1 := by
  have hpl : ps.length ≤ N.length := by have := congrArg List.length S.pre; rw [List.length_take] at this; omega
  obtain ⟨h1, tk, rfl, hk⟩ := x.done
  have noA : ∀ b : Addr, b ∉ (cxOf CX P w K mg base N qual scope f cd A outer s H E gp).ex := fun b z => absurd (show b ∈ ([] : List Addr) from z) (by simp)
  refine ⟨⟨e0.mod, S.kind, rfl, rfl, Nat.le_refl _, fun y z c h1 h2 => ?_, fun y hy => ?_, fun y c _ h => ?_, fun _ => hd, fun z => ⟨Around.frames_deeper (hfr z).1, (hfr z).2⟩, .inr ⟨rfl, rfl⟩, fun b z => absurd z (noA b), e0.bs, e0.bsz, fun b _ _ => noA b, fun b z => absurd z (noA b), e0.funs, e0.frf⟩,
    rfl, hgp, Un.kept hk, ⟨_, x.toInCall.ns, fun i y v h1 h2 h3 => ?_⟩, fun y c h => ⟨_, x.cell y c h⟩, e0.hok.fresh (Nat.le_refl _), fun y c h => ?_, fun p hp => absurd (show p ∈ ([] : List (Addr × Obj)) from hp) (by simp), e0.hok.kept hk, ?_⟩
  · exact name_of_addr x.apart (PySem.mem_of_lookup h1) (PySem.mem_of_lookup h2)
  · have hy : scope.names.lookup y = some .cell ∨ scope.names.lookup y = some .free := hy
    rcases hy with hy | hy
    · exact cell_has hy
    · exact absurd rfl (S.nofree _ (PySem.mem_of_lookup hy))
  · exact Nat.le_of_lt (x.above y c (PySem.mem_of_lookup h))
  · have hi : i < vs.length := by
      unfold start at h2
      by_cases hi : i < vs.length
      · exact hi
      · rw [List.getElem?_append_right (by simpa using hi)] at h2
        rw [List.getElem?_replicate] at h2
        split at h2 <;> cases h2
    have ha : vs[i]? = some v := by
      unfold start at h2
      rw [List.getElem?_append_left (by simpa using hi), List.getElem?_map] at h2
      cases e : vs[i]? with
      | none => rw [e] at h2; cases h2
      | some a => rw [e] at h2; cases h2; rfl
    obtain ⟨u, hu, rv⟩ := r.get ha
    have hp : ps[i]? = some y := by
      rw [← S.pre, List.getElem?_take_of_lt (by omega)]; exact h1
    have ndP : ps.Nodup := by rw [← S.pre]; exact S.nd.sublist (List.take_sublist _ _)
    refine ⟨u, rv, ?_⟩
    rcases S.par y (List.mem_of_getElem? hp) with k | k
    · exact .inl ⟨k, bindL_get ndP hp hu k⟩
    · obtain ⟨c, e⟩ := cell_has (n := s.heap.objs.size + 1) k
      refine .inr ⟨.inl k, c, e, ?_⟩
      have q := x.cell y c e
      rw [bindC_get ndP hp hu (by show scope.names.lookup y ≠ _; rw [k]; decide)] at q
      exact q
  · exact e0.hok.fresh (Nat.le_of_lt (x.above y c (PySem.mem_of_lookup h)))
  · unfold start
    show _ = N.length
    rw [List.length_append, List.length_map, List.length_replicate]
    omega

/-- THE RULE: a def (or a method) of the text, by its body. The body's reading t is chosen for each entry; it is run at the parameters' values -/
theorem fn_of {CX : CXT} {P : Program} {w : World} {K : PySem.W.Frag} {mg : Str → Option Value} {base : Heap} {k : Nat} {f : Addr} {name qual : Str} {params : Arguments} {body : List Stmt} {scope : Scope} {dV kV doc pm cdv ct oc : Value} {an od : Option Addr}
    {osl : Array (Option Value)} {N ps : List Str} {sp : Sp} (lk : K.lookup f = some ⟨oc, od, .func (PySem.W.fnOf name qual params body scope dV kV doc pm an cdv ct), osl⟩) (hcd : PySem.W.codeIn K cdv qual = true) (S : FnScope N ps scope)
    (len : ∀ vs H Q E, sp vs H Q E → vs.length = ps.length)
    (hbody : ∀ (A : Around) (outer : List Env) (s : Shared) (H : Hp) (vs : List V) (Q : VK) (E : XK) (gp : Array GenState → Drawn → Prop), Cl (k + 1) gp → Room k (A.deeper (envOfC qual scope s.heap.objs.size f cdv)) → sp vs H Q E →
      ∃ t, PSs (cxOf CX P w K mg base N qual scope f cdv A outer s H E gp) body t ∧ t { nx := fun _ H' => Q .non H', rt := Q } (start N vs) H) :
    FnOk P w K mg base CX (k + 1) f (PySem.W.fnOf name qual params body scope dV kV doc pm an cdv ct) ps sp := by
  refine ⟨len, fun A outer s H args us vs Q E gp hcl hgp hfr hr e0 hb r hsp => ?_⟩
  have hl := len _ _ _ _ hsp
  have KX : K.In s.heap := e0.mod.kin.keeps fun b o e => (e0.bs b o e).1
  have lim : s.heap.NoLimit := e0.mod.nolimit.keeps fun b o e => (e0.bs b o e).1
  have hkind : ∀ y ∈ ps.zip us, scope.names.lookup y.1 = some .local ∨ (scope.names.lookup y.1 = some .cell ∧ ((cellsFrom (s.heap.objs.size + 1) scope.names []).lookup y.1).isSome = true) := fun ⟨n, v⟩ hy => by
    rcases S.par n (List.of_mem_zip hy).1 with q | q
    · exact .inl q
    · exact .inr ⟨q, PySem.W.cellsFrom_some _ _ _ (.inl q)⟩
  refine codeAny_call_function hr.depth (KX _ _ lk) rfl S.co S.gen rfl (PySem.W.codeRec_of KX hcd) (hb _ _ _ _ ?_)
  refine wpAny_newFunctionEnv_cells S.kind hkind fun env he s1 x => ?_
  subst he
  refine ⟨lim.keeps x.toInCall.keep, codeAny_func ?_⟩
  obtain ⟨t, ht, hq⟩ := hbody A outer s H vs Q E gp hcl (hr.deeper _) hsp
  have I : Inv (cxOf CX P w K mg base N qual scope f cdv A outer s H E gp) [] (start N vs) H s1 := inv_start hgp hfr S hr.hd e0 hl r x
  refine wpAny_mono (ht [] s1 (start N vs) H _ I hq) (fun fl s' hs => ?_) fun e s' hs => hs
  have fin : ∀ {σ' : St} {H' : Hp} {v : V} {u : Value}, Inv (cxOf CX P w K mg base N qual scope f cdv A outer s H E gp) [] σ' H' s' → RelV v u → Q v H' → CE gp outer P w H s Q u s' :=
    fun {σ' H' v u} J rv q => ⟨v, H', J.os, J.bare, J.base, J.hok, rv, q⟩
  cases fl with
  | ret u =>
    obtain ⟨v, σ', H', J, rv, q⟩ := hs
    exact fin J rv q
  | next =>
    obtain ⟨σ', H', J, q⟩ := hs
    exact fin (v := V.non) (u := Value.none) J rfl q
  | brk =>
    obtain ⟨_, _, _, q⟩ := hs
    exact False.elim q
  | cont =>
    obtain ⟨_, _, _, q⟩ := hs
    exact False.elim q
end L2
namespace L2
open PySem PySem.Spec PyProof.Rows
section
variable {X : Cx} {x : Str} {p pos : Pos} {e : Expr} {es : List Expr} {t : TA} {id T : String} {r : List V → Hp → VK → Prop}
def tCB (r : List V → Hp → VK → Prop) (t : TA) : TE := fun σ H Q => t σ H fun vs H1 => r vs H1 Q
/-- f(e, ..), f a built-in function -/
theorem pe_callB (hc : CallR X (.builtin id) r) (hg : Gl X x) (hm : X.mg x = none) (hv : bootBuiltins x = some (.builtin id)) (ha : PA X (e :: es) t) (hn : x ≠ "__name__" := by decide) (hdb : (x == ("__debug__" : Str)) = false := by decide)
    (he : starEach (e :: es) X.env = (false, eval e X.env) :: starEach es X.env := by rfl) (hpl : (backTo pos (starEach es X.env)).any (·.1) = false := by rfl) : PE X (.Call (.Name x p) (e :: es) [] pos) (tCB r t) := by
  intro pins s σ H Q I h
  refine wpAny_Call_Name_kw (ld_blt I hg hm hv ?_ hn hdb)
  exact PyProof.Rows.callWith_builtin1 (thn (ha pos pins s σ H _ I h) fun us s1 ⟨vs, H1, I1, r1, q1⟩ => hc pins s1 σ H1 vs us Q I1 r1 q1) he hpl
/-- T(e, ..), T a built-in type -/
theorem pe_callTy (hc : CallR X (.type T) r) (hg : Gl X x) (hm : X.mg x = none) (hv : bootBuiltins x = some (.type T)) (ha : PA X (e :: es) t) (hn : x ≠ "__name__" := by decide) (hdb : (x == ("__debug__" : Str)) = false := by decide)
    (he : starEach (e :: es) X.env = (false, eval e X.env) :: starEach es X.env := by rfl) (hpl : (backTo pos (starEach es X.env)).any (·.1) = false := by rfl) : PE X (.Call (.Name x p) (e :: es) [] pos) (tCB r t) := by
  intro pins s σ H Q I h
  refine wpAny_Call_Name_kw (ld_blt I hg hm hv ?_ hn hdb)
  exact PyProof.Rows.callWith_type1 (thn (ha pos pins s σ H _ I h) fun us s1 ⟨vs, H1, I1, r1, q1⟩ => hc pins s1 σ H1 vs us Q I1 r1 q1) he hpl
end
end L2
namespace HT
open PySem PyProof.Rows
section
open PySem.SeqAt
open PySem.AutoSeq1 (wpAny_loadPart')
open PySem.MeetsSeq PySem.MeetsSeq2 PySem.MeetsSeq3
end
section
variable {prog : Program} {w : World} {A : Around} {E : Value → Shared → Prop} {s : Shared}
/-- t + u, t not empty -/
theorem cat_tup {t b : Addr} {vs ws : List Value} {Q : Value → Shared → Prop} (ht : IsTup s.heap t vs.toArray) (hb : IsTup s.heap b ws.toArray) (hv : vs ≠ [])
    (h1 : ws = [] → Q (.ref t) s) (h2 : ws ≠ [] → Q (.ref s.heap.objs.size) { s with heap := s.heap.push { cls := .type "tuple", data := .seq (vs ++ ws).toArray } })
    (hsz : vs.length + ws.length ≤ sizeLine) : wpAny (model prog w) A (binaryOp .Add (.ref t) (.ref b)) Q E s := by
  obtain ⟨⟨cls, dd, data, sl⟩, ho, hc, n, hd⟩ := id ht
  obtain ⟨⟨cls2, dd2, data2, sl2⟩, ho2, hc2, n2, hd2⟩ := id hb
  simp only at hc hd hc2 hd2
  subst hc hd hc2 hd2
  have e : vs.toArray ++ ws.toArray = (vs ++ ws).toArray := by simp
  by_cases hw : ws = []
  · exact concat_meets ⟨_, ho, rfl⟩ ⟨_, ho2, rfl⟩ noFill_tuple_add seq_tuple_add PySem.F.slot_tuple_add PySem.F.entry_tuple_add (PySem.F.args_tuple_add_2 _ _)
      (tuple_addW1 t b vs.toArray ws.toArray n n2 dd dd2 sl sl2 (by simpa using hv) (by simp [hw])) ⟨ho, ho2, h1 hw⟩
  · refine concat_meets ⟨_, ho, rfl⟩ ⟨_, ho2, rfl⟩ noFill_tuple_add seq_tuple_add PySem.F.slot_tuple_add PySem.F.entry_tuple_add (PySem.F.args_tuple_add_2 _ _)
      (tuple_addW2 t b vs.toArray ws.toArray n n2 dd dd2 sl sl2 (by simpa using hv) (by simpa using hw) (by rw [List.size_toArray, List.size_toArray]; exact hsz)) ⟨ho, ho2, ?_⟩
    rw [e]
    exact h2 hw

/-- a slice's bound as a place among n (d where it is left out) -/
def sIx (n d : Nat) : Option Int → Nat
  | none => d
  | some v => if v < 0 then (v + (n : Int)).toNat else min v.toNat n
theorem sIx_le (n d : Nat) (hd : d ≤ n) (o : Option Int) : sIx n d o ≤ n := by
  cases o with
  | none => exact hd
  | some v =>
    show (if v < 0 then (v + (n : Int)).toNat else min v.toNat n) ≤ n
    by_cases hv : v < 0
    · rw [if_pos hv]; omega
    · rw [if_neg hv]; exact Nat.min_le_right _ _
theorem clip_eq (v : Int) (n d : Nat) : (if v < 0 then max (v + (n : Int)) 0 else min v (n : Int)) = ((sIx n d (some v) : Nat) : Int) := by
  show (if v < 0 then max (v + (n : Int)) 0 else min v (n : Int)) = (((if v < 0 then (v + (n : Int)).toNat else min v.toNat n) : Nat) : Int)
  by_cases hv : v < 0
  · simp only [if_pos hv]; omega
  · simp only [if_neg hv]; omega
theorem adjust_gen (lo hi : Option Int) (n : Nat) : Builtin.Slice.sliceAdjust lo hi 1 (n : Int) = (((sIx n 0 lo : Nat) : Int), ((sIx n n hi : Nat) : Int)) := by
  have h1 : ¬ ((1 : Int) < 0) := by omega
  unfold Builtin.Slice.sliceAdjust
  simp only [h1, if_false]
  refine Prod.ext ?_ ?_
  · cases lo with
    | none => rfl
    | some v => exact clip_eq v n 0
  · cases hi with
    | none => rfl
    | some v => exact clip_eq v n n
theorem places_gen (i j : Nat) : Builtin.Slice.slicePlaces (i : Int) (j : Int) 1 = j - i := by
  unfold Builtin.Slice.slicePlaces
  have h1 : (1 : Int) > 0 := by omega
  simp only [h1, if_true, Int.ediv_one]
  split <;> omega
theorem slicePart_ {v : Value} {o : Option Int} {Q : Option Int → Shared → Prop} (p : IsPart v o) (h : Q o s) : wpAny (model prog w) A (Builtin.Slice.slicePartIndex v) Q E s := by
  cases p with
  | none => exact slicePart_none h
  | int i t => exact slicePart_int h
theorem sliceApplied_gen {sl : Addr} {vl vu : Value} {lo hi : Option Int} {n : Nat} {Q : Int × Int × Nat → Shared → Prop} (hs : s.heap.IsSliceOf sl vl vu .none) (pl : IsPart vl lo) (pu : IsPart vu hi)
    (h : Q (((sIx n 0 lo : Nat) : Int), 1, sIx n n hi - sIx n 0 lo) s) : wpAny (model prog w) A (Builtin.Slice.sliceApplied (.ref sl) (pure (n : Int))) Q E s := by
  obtain ⟨os, hos, hcs, hds⟩ := id hs
  unfold Builtin.Slice.sliceApplied Builtin.Slice.sliceFields
  refine wpAny_bind (wpAny_bind (wpAny_field hos hds (x := vl) rfl (wpAny_bind (wpAny_field hos hds (x := vu) rfl (wpAny_bind (wpAny_field hos hds (x := .none) rfl (wpAny_pure ?_)))))))
  refine wpAny_bind (slicePart_none ?_)
  show wpAny _ _ (if ((1 : Int) == 0) = true then _ else _) _ _ s
  rw [if_neg (by decide)]
  refine wpAny_bind (slicePart_ pl (wpAny_bind (slicePart_ pu (wpAny_bind (wpAny_pure ?_)))))
  show wpAny _ _ (match Builtin.Slice.sliceAdjust lo hi 1 (n : Int) with | (lo, hi) => pure (lo, (1 : Int), Builtin.Slice.slicePlaces lo hi 1)) _ _ s
  rw [adjust_gen lo hi n]
  show wpAny _ _ (pure (((sIx n 0 lo : Nat) : Int), (1 : Int), Builtin.Slice.slicePlaces ((sIx n 0 lo : Nat) : Int) ((sIx n n hi : Nat) : Int) 1)) _ _ s
  rw [places_gen]
  exact wpAny_pure h
theorem pick_gen (xs : Array Value) (i k : Nat) : ((List.range k).filterMap fun (m : Nat) => xs[((i : Int) + (m : Int) * 1).toNat]?).toArray = ((xs.toList.drop i).take k).toArray := by
  have e : (fun (m : Nat) => xs[((i : Int) + (m : Int) * 1).toNat]?) = fun m => xs[i + m]? := by
    funext m
    have : ((i : Int) + (m : Int) * 1).toNat = i + m := by omega
    rw [this]
  rw [e]
  have := pick_run xs i k
  rw [List.filterMap_map] at this
  have e2 : ((fun x => xs[x]?) ∘ fun x => i + x) = fun m => xs[i + m]? := rfl
  rw [e2] at this
  rw [this]

theorem getItem_tuple_cut {t sl : Addr} {items : Array Value} {vl vu : Value} {lo hi : Option Int} {Q : Value → Shared → Prop} (ht : IsTup s.heap t items) (hs : s.heap.IsSliceOf sl vl vu .none) (pl : IsPart vl lo) (pu : IsPart vu hi)
    (hw : ¬ (sIx items.size 0 lo = 0 ∧ sIx items.size items.size hi = items.size))
    (h : Q (.ref s.heap.objs.size) { s with heap := s.heap.push { cls := .type "tuple", data := .seq ((items.toList.drop (sIx items.size 0 lo)).take (sIx items.size items.size hi - sIx items.size 0 lo)).toArray } })
    (hsz : items.size ≤ sizeLine) : wpAny (model prog w) A (getItem (.ref t) (.ref sl)) Q E s := by
  have htake : sizeOk (.seq ((items.toList.drop (sIx items.size 0 lo)).take (sIx items.size items.size hi - sIx items.size 0 lo)).toArray) := by
    show ((items.toList.drop (sIx items.size 0 lo)).take (sIx items.size items.size hi - sIx items.size 0 lo)).toArray.size ≤ sizeLine
    rw [List.size_toArray, List.length_take, List.length_drop, Array.length_toList]
    omega
  have hj : sIx items.size items.size hi ≤ items.size := sIx_le _ _ (Nat.le_refl _) hi
  obtain ⟨os, hos, hcs, hds⟩ := id hs
  have hTs : s.TypeIs (.ref sl) "slice" := ⟨os, hos, hcs⟩
  unfold getItem
  try with_reducible refine wpAny_holding ?_
  first | refine wpAny_bind (wpAny_pure ?_) | skip
  refine wpAny_bind (wpAny_sequenceKey ht.typeIs (by decide) ?_)
  refine wpAny_bind (wpAny_callSpecial?_slot (name := Str.ofString "__getitem__") ht.typeIs PyProof.Rows.slot_tuple_getitem
    (wpAny_call_entry PyProof.Rows.slot_tuple_getitem ht.typeIs entry_tuple_getitem ?_ (args_tuple_getitem _ _)))
  show wpAny _ _ (Builtin.Tuple.tupleItemsOf (.ref t) >>= _) _ _ s
  refine wpAny_bind (tupleItemsOf_ ht ?_)
  refine wpAny_bind (wpAny_typeOf hTs ?_)
  rw [if_pos (by decide)]
  refine wpAny_bind (sliceApplied_gen hs pl pu ?_)
  have hno : ¬ ((((sIx items.size 0 lo : Nat) : Int) == 0 && (1 : Int) == 1 && (sIx items.size items.size hi - sIx items.size 0 lo) == items.size) = true) := by
    intro q
    rw [Bool.and_eq_true, Bool.and_eq_true] at q
    have q1 : ((sIx items.size 0 lo : Nat) : Int) = 0 := eq_of_beq q.1.1
    have q2 : sIx items.size items.size hi - sIx items.size 0 lo = items.size := eq_of_beq q.2
    exact hw ⟨by omega, by omega⟩
  show wpAny _ _ (if (((sIx items.size 0 lo : Nat) : Int) == 0 && (1 : Int) == 1 && (sIx items.size items.size hi - sIx items.size 0 lo) == items.size) = true then _ else _) _ _ s
  rw [if_neg hno, pick_gen]
  first
    | exact wpAny_bind (m := Builtin.Tuple.tupleExact _) (wpAny_newObj_type (wpAny_pure ⟨_, rfl, wpAny_pure h⟩) htake)
    | exact wpAny_bind (m := Builtin.Tuple.tupleExact _) (wpAny_newObj_type (wpAny_bind (wpAny_pure (wpAny_pure ⟨_, rfl, wpAny_pure h⟩))) htake)
    | exact wpAny_bind (wpAny_bind (m := Builtin.Tuple.tupleExact _) (wpAny_newObj_type (wpAny_pure (wpAny_pure ⟨_, rfl, wpAny_pure h⟩)) htake))
    | exact wpAny_bind (wpAny_bind (m := Builtin.Tuple.tupleExact _) (wpAny_newObj_type (wpAny_pure ⟨_, rfl, wpAny_pure h⟩) htake))
end
end HT
namespace L2
open PySem PySem.Spec PyProof.Rows
abbrev TO := St → Hp → (Option Int → Hp → Prop) → Prop
/-- a slice's part (left out, or an int) -/
def PO (X : Cx) (e : Option Expr) (t : TO) : Prop :=
  ∀ (pins : List (Addr × Obj)) (s : Shared) (σ : St) (H : Hp) (Q : Option Int → Hp → Prop), Inv X pins σ H s → t σ H Q →
    wpAny (model X.prog X.w) X.A (evalPart e X.env) (fun u s' => ∃ o H', Inv X pins σ H' s' ∧ IsPart u o ∧ Q o H') X.xe s
def tNoPart : TO := fun _ H Q => Q none H
def tPart (t : TE) : TO := fun σ H Q => t σ H fun x H1 => ∃ i, x = .int i ∧ Q (some i) H1

section
variable {X : Cx} {e : Expr} {te : TE} {lo hi : Option Expr} {tl th : TO} {pos p2 : Pos}
theorem po_none : PO X none tNoPart := by
  intro pins s σ H Q I h
  rw [evalPart_none]
  exact wpAny_pure ⟨none, H, I, .none, h⟩
theorem po_some (h : PE X e te) : PO X (some e) (tPart te) := by
  intro pins s σ H Q I hw
  rw [evalPart_some]
  refine thn (h pins s σ H _ I hw) fun u s1 ⟨x, H1, I1, r1, q1⟩ => ?_
  obtain ⟨i, rfl, q⟩ := q1
  obtain ⟨t, rfl⟩ := r1
  exact ⟨some i, H1, I1, .int i t, q⟩

/-- what a slice of a value is, by values: the slice object stands at sl -/
def SlR (X : Cx) (r : V → Option Int → Option Int → Hp → VK → Prop) : Prop :=
  ∀ (pins : List (Addr × Obj)) (s : Shared) (σ : St) (H : Hp) (x : V) (v vl vu : Value) (lo hi : Option Int) (sl : Addr) (Q : VK), Inv X pins σ H s → RelV x v → s.heap.IsSliceOf sl vl vu .none → IsPart vl lo → IsPart vu hi → r x lo hi H Q →
    ∃ T id, typeLookup (.type T) "__getitem__" = pure (some (.builtin id)) ∧ s.TypeIs v T ∧ wpAny (model X.prog X.w) X.A (getItem v (.ref sl)) (EP X pins σ Q) X.xe s
theorem SlR.or {r r' : V → Option Int → Option Int → Hp → VK → Prop} (h : SlR X r) (h' : SlR X r') : SlR X (fun x lo hi H Q => r x lo hi H Q ∨ r' x lo hi H Q) := by
  intro pins s σ H x v vl vu lo hi sl Q I rx hs pl pu q
  rcases q with q | q
  · exact h pins s σ H x v vl vu lo hi sl Q I rx hs pl pu q
  · exact h' pins s σ H x v vl vu lo hi sl Q I rx hs pl pu q
def tSl (r : V → Option Int → Option Int → Hp → VK → Prop) (te : TE) (tl th : TO) : TE := fun σ H Q => te σ H fun x H1 => tl σ H1 fun l H2 => th σ H2 fun u H3 => r x l u H3 Q
/-- a[lo:hi], any a -/
theorem pe_slice {r : V → Option Int → Option Int → Hp → VK → Prop} (hr : SlR X r) (he : PE X e te) (hl : PO X lo tl) (hu : PO X hi th) : PE X (.Subscript e (.Slice lo hi none p2) pos) (tSl r te tl th) := by
  intro pins s σ H Q I h
  refine Subscript_ (thn (he pins s σ H _ I h) fun v s1 ⟨x, H1, I1, r1, q1⟩ => ?_)
  refine wpAny_Slice (thn (hl pins s1 σ H1 _ I1 q1) fun vl s2 ⟨l, H2, I2, pl, q2⟩ => thn (hu pins s2 σ H2 _ I2 q2) fun vu s3 ⟨u, H3, I3, pu, q3⟩ => ?_)
  rw [evalPart_none]
  refine wpAny_pure ?_
  have I4 : Inv X pins σ H3 { s3 with heap := s3.heap.push { cls := .type "slice", data := .fields #[vl, vu, .none] } } := I3.kept (t' := s3.toks) fun b ob q => Heap.get?_push_of_some _ q
  obtain ⟨T, id, hT, ht, hg⟩ := hr pins { s3 with heap := s3.heap.push { cls := .type "slice", data := .fields #[vl, vu, .none] } } σ H3 x v vl vu l u s3.heap.objs.size Q I4 r1 (Heap.IsSliceOf.new ..) pl pu q3
  show wpAny (model X.prog X.w) X.A (subscriptTail e (.Slice lo hi none p2) v (.ref s3.heap.objs.size)) (EP X pins σ Q) X.xe { s3 with heap := s3.heap.push { cls := .type "slice", data := .fields #[vl, vu, .none] } }
  exact tail_any (ops := [.ref s3.heap.objs.size, v]) ht hT hg (by with_unfolding_all rfl)

/-- the items of xs[lo:hi] -/
def cutV (xs : List V) (lo hi : Option Int) : List V := (xs.drop (HT.sIx xs.length 0 lo)).take (HT.sIx xs.length xs.length hi - HT.sIx xs.length 0 lo)
theorem cutV_length (xs : List V) (lo hi : Option Int) : (cutV xs lo hi).length ≤ xs.length := by
  unfold cutV
  rw [List.length_take, List.length_drop]
  omega
/-- t[lo:hi], not the whole of it (the whole would be t itself) -/
def rSlT (K : PySem.W.Frag) : V → Option Int → Option Int → Hp → VK → Prop := fun x lo hi H Q => ∃ a xs, x = .ref a ∧ SqT K H a xs ∧
  ¬ (HT.sIx xs.length 0 lo = 0 ∧ HT.sIx xs.length xs.length hi = xs.length) ∧ ∀ p, H p = none → Q (.ref p) (upd H p (.tup (cutV xs lo hi)))
theorem sl_tup : SlR X (rSlT X.K) := by
  intro pins s σ H x v vl vu lo hi sl Q I rx hs pl pu h
  obtain ⟨a, xs, rfl, hx, hw, q⟩ := h
  cases rx
  obtain ⟨its, r, ht, hz⟩ := I.tuple hx
  have hlen : its.toArray.size = xs.length := by rw [List.size_toArray]; exact r.length.symm
  refine ⟨"tuple", _, PyProof.Rows.slot_tuple_getitem.lookup, ht.typeIs, ?_⟩
  refine HT.getItem_tuple_cut ht hs pl pu (by rw [hlen]; exact hw) ?_ (by rw [hlen]; exact hz)
  rw [hlen]
  refine ⟨.ref s.heap.objs.size, _, I.laid (t' := s.toks) (o := .tup (cutV xs lo hi)) (fun b ob q => Heap.get?_push_of_some _ q) (Nat.le_refl _) ?_, rfl, q _ (I.hok.fresh (Nat.le_refl _))⟩
  exact ⟨Nat.le_trans (cutV_length xs lo hi) hz, _, (r.drop (HT.sIx xs.length 0 lo)).take (HT.sIx xs.length xs.length hi - HT.sIx xs.length 0 lo), IsTup.new _ _⟩

/-- t + u, t not empty: u empty gives t itself -/
def rCatT (K : PySem.W.Frag) : R2 := fun x y H Q => ∃ a b xs ys, x = .ref a ∧ y = .ref b ∧ SqT K H a xs ∧ SqT K H b ys ∧ xs ≠ [] ∧ xs.length + ys.length ≤ sizeLine ∧
  (ys = [] → Q (.ref a) H) ∧ (ys ≠ [] → ∀ p, H p = none → Q (.ref p) (upd H p (.tup (xs ++ ys))))
theorem Vals.nil_iff {xs : List V} {us : List Value} (r : Vals xs us) : us = [] ↔ xs = [] := by
  cases r with
  | nil => simp
  | cons _ _ => simp
theorem op_catT : OpR X (binaryOp .Add) (rCatT X.K) := by
  intro pins s σ H x y v u Q I rx ry h
  obtain ⟨a, b, xs, ys, rfl, rfl, ha, hb, hx, hz, q1, q2⟩ := h
  cases rx
  cases ry
  obtain ⟨its, r1, p1, _⟩ := I.tuple ha
  obtain ⟨its2, r2, p2, _⟩ := I.tuple hb
  refine HT.cat_tup p1 p2 (fun z => hx (r1.nil_iff.mp z)) (fun z => ⟨.ref a, H, I, rfl, q1 (r2.nil_iff.mp z)⟩) (fun z => ?_) (by rw [← r1.length, ← r2.length]; exact hz)
  refine ⟨.ref s.heap.objs.size, _, I.laid (t' := s.toks) (o := .tup (xs ++ ys)) (fun b ob q => Heap.get?_push_of_some _ q) (Nat.le_refl _) ?_, rfl, q2 (fun w => z (r2.nil_iff.mpr w)) _ (I.hok.fresh (Nat.le_refl _))⟩
  exact ⟨by rw [List.length_append]; exact hz, _, r1.append r2, IsTup.new _ _⟩
end
end L2
namespace L2
open PySem PySem.Spec PyProof.Rows
/-- the place that an index of any sign means -/
def ixN (n : Nat) (i : Int) : Option Nat := if 0 ≤ i then (if i < n then some i.toNat else none) else if -(n : Int) ≤ i then some (i + n).toNat else none
def atI {α : Type} (xs : List α) (i : Int) : Option α := (ixN xs.length i).bind fun j => xs[j]?
theorem ixN_seq {n : Nat} {i : Int} {j : Nat} (h : ixN n i = some j) : seqIndex? i n = some j ∧ j < n ∧ -(n : Int) ≤ i ∧ i < n := by
  unfold ixN at h
  by_cases h0 : 0 ≤ i
  · rw [if_pos h0] at h
    by_cases h1 : i < n
    · rw [if_pos h1] at h
      have e : i.toNat = j := Option.some.inj h
      exact ⟨by rw [seqIndex_of h0 h1, e], by omega, by omega, h1⟩
    · rw [if_neg h1] at h; cases h
  · rw [if_neg h0] at h
    by_cases h1 : -(n : Int) ≤ i
    · rw [if_pos h1] at h
      have e : (i + n).toNat = j := Option.some.inj h
      exact ⟨by rw [seqIndex_neg (by omega) h1, e], by omega, h1, by omega⟩
    · rw [if_neg h1] at h; cases h
theorem atI_get {α : Type} {xs : List α} {i : Int} {v : α} (h : atI xs i = some v) : ∃ j, seqIndex? i xs.length = some j ∧ xs[j]? = some v ∧ j < xs.length ∧ -(xs.length : Int) ≤ i ∧ i < xs.length := by
  unfold atI at h
  cases e : ixN xs.length i with
  | none => rw [e] at h; cases h
  | some j =>
    rw [e] at h
    obtain ⟨h1, h2, h3, h4⟩ := ixN_seq e
    exact ⟨j, h1, h, h2, h3, h4⟩
theorem atI_nat {α : Type} {xs : List α} {j : Nat} {v : α} (h : xs[j]? = some v) : atI xs (j : Int) = some v := by
  have hj : j < xs.length := (List.getElem?_eq_some_iff.mp h).1
  have e : ixN xs.length (j : Int) = some j := by
    unfold ixN
    rw [if_pos (by omega), if_pos (by omega)]; simp
  unfold atI; rw [e]; exact h
/-- what stands as an index of a plain subscript -/
def PlainIx (b : Expr) : Prop := ∀ o i, subscripted b false o i = operate [o, i] (getItem o i)
/-- a subscript by values -/
def IxR (X : Cx) (r : R2) : Prop :=
  ∀ (value slice : Expr) (pins : List (Addr × Obj)) (s : Shared) (σ : St) (H : Hp) (x y : V) (v u : Value) (Q : VK), Inv X pins σ H s → RelV x v → RelV y u → r x y H Q →
    subscripted slice false v u = operate [v, u] (getItem v u) → wpAny (model X.prog X.w) X.A (subscriptTail value slice v u) (EP X pins σ Q) X.xe s
/-- a call of a builtin's method by values: the receiver, the arguments -/
def MtR (X : Cx) (id : String) (r : V → List V → Hp → VK → Prop) : Prop :=
  ∀ (pins : List (Addr × Obj)) (s : Shared) (σ : St) (H : Hp) (x : V) (xs : List V) (v : Value) (us : List Value) (Q : VK), Inv X pins σ H s → RelV x v → Vals xs us → r x xs H Q →
    wpAny (model X.prog X.w) X.A (call (.builtin id) (v :: us)) (EP X pins σ Q) X.xe s
section
variable {X : Cx} {a b : Expr} {ta tb : TE} {pos : Pos}
theorem IxR.or {r r' : R2} (h : IxR X r) (h' : IxR X r') : IxR X (fun x y H Q => r x y H Q ∨ r' x y H Q) := by
  intro value slice pins s σ H x y v u Q I rx ry q hs
  rcases q with q | q
  · exact h value slice pins s σ H x y v u Q I rx ry q hs
  · exact h' value slice pins s σ H x y v u Q I rx ry q hs
theorem MtR.or {id : String} {r r' : V → List V → Hp → VK → Prop} (h : MtR X id r) (h' : MtR X id r') : MtR X id (fun x xs H Q => r x xs H Q ∨ r' x xs H Q) := by
  intro pins s σ H x xs v us Q I rx rs q
  rcases q with q | q
  · exact h pins s σ H x xs v us Q I rx rs q
  · exact h' pins s σ H x xs v us Q I rx rs q
/-- a[b] -/
theorem pe_ix {r : R2} (hr : IxR X r) (ha : PE X a ta) (hb : PE X b tb) (hs : PlainIx b) : PE X (.Subscript a b pos) (tOp r ta tb) := by
  intro pins s σ H Q I h
  exact Subscript_ (binT ha hb I h fun v u s2 x y H2 I2 rx ry q => hr a b pins s2 σ H2 x y v u Q I2 rx ry q (hs _ _))

def rIxL (K : PySem.W.Frag) : R2 := fun x y H Q => ∃ p xs i v, x = .ref p ∧ y = .int i ∧ SqL K H p xs ∧ atI xs i = some v ∧ Q v H
def rIxT (K : PySem.W.Frag) : R2 := fun x y H Q => ∃ p xs i v, x = .ref p ∧ y = .int i ∧ SqT K H p xs ∧ atI xs i = some v ∧ Q v H
def rIxS : R2 := fun x y H Q => ∃ z i c, x = .str z ∧ y = .int i ∧ z.length ≤ sizeLine ∧ atI z.cps.toList i = some c ∧ Q (.str ⟨#[c]⟩) H
theorem ix_list : IxR X (rIxL X.K) := by
  intro value slice pins s σ H x y v u Q I rx ry h hs
  obtain ⟨p, xs, i, z, rfl, rfl, hq, he, q⟩ := h
  cases rx
  obtain ⟨t, rfl⟩ := ry
  obtain ⟨its, r, pl, hz⟩ := I.list hq
  obtain ⟨j, h1, h2, h3, h4, h5⟩ := atI_get he
  obtain ⟨w, ew, rw'⟩ := r.get h2
  have hl := r.length
  have hn := line63
  have fin : EP X pins σ Q w s := ⟨z, H, I, rw', q⟩
  by_cases h0 : 0 ≤ i
  · have hj : i.toNat = j := by
      rw [seqIndex_of h0 h5] at h1
      exact Option.some.inj h1
    exact item_listR pl.isList h0 (by omega) (by rw [hj]; simpa using ew) fin hs
  · have hj : (i + (its.toArray.size : Int)).toNat = j := by
      rw [seqIndex_neg (by omega) h4] at h1
      rw [List.size_toArray, ← hl]
      exact Option.some.inj h1
    exact subscriptTail_builtinR (x := w) pl.isList.typeIs slot_list_getitem.lookup
      (wpAny_getItem_list_neg (Q := fun r s' => r = w ∧ EP X pins σ Q r s') pl.isList (by omega) (by rw [List.size_toArray] <;> omega) (by omega) (by rw [hj]; simpa using ew) ⟨rfl, fin⟩) hs
theorem ix_tup : IxR X (rIxT X.K) := by
  intro value slice pins s σ H x y v u Q I rx ry h hs
  obtain ⟨p, xs, i, z, rfl, rfl, hq, he, q⟩ := h
  cases rx
  obtain ⟨t, rfl⟩ := ry
  obtain ⟨its, r, pl, hz⟩ := I.tuple hq
  obtain ⟨j, h1, h2, h3, h4, h5⟩ := atI_get he
  obtain ⟨w, ew, rw'⟩ := r.get h2
  have hl := r.length
  have hn := line63
  have fin : EP X pins σ Q w s := ⟨z, H, I, rw', q⟩
  exact subscriptTail_builtinR (x := w) pl.typeIs slot_tuple_getitem.lookup
    (getItem_tuple (j := j) (Q := fun r s' => r = w ∧ EP X pins σ Q r s') pl (by omega) (by omega) (by rw [List.size_toArray, ← hl]; exact h1) (by simpa using ew) ⟨rfl, fin⟩) hs
theorem ix_str : IxR X rIxS := by
  intro value slice pins s σ H x y v u Q I rx ry h hs
  obtain ⟨z, i, c, rfl, rfl, hz, he, q⟩ := h
  obtain ⟨t, rfl⟩ := rx
  obtain ⟨t', rfl⟩ := ry
  obtain ⟨j, h1, h2, h3, h4, h5⟩ := atI_get he
  have hl : z.cps.toList.length = z.length := by simp [Str.length]
  rw [hl] at h1 h4 h5
  have hn := line63
  exact tail_any (typeIs_str s z t) slot_str_getitem.lookup (getItem_str (c := c) (by
    have e1 : decide (i < -(2 ^ 63 : Int)) = false := decide_eq_false (by omega)
    have e2 : decide (i ≥ 2 ^ 63) = false := decide_eq_false (by omega)
    rw [e1, e2, Bool.or_false]) (by rw [h1]; simpa using h2) ⟨.str ⟨#[c]⟩, H, I.tok _, ⟨_, rfl⟩, q⟩) hs
/-- the list's object behind a store -/
theorem mapSeq_set (its : List Value) (n j : Nat) (u : Value) : Obj.mapSeq (·.setIfInBounds j u) { cls := .type "list", data := .seq its.toArray n } = { cls := .type "list", data := .seq (its.set j u).toArray n } := by
  simp [Obj.mapSeq]
theorem Inv.lst {pins : List (Addr × Obj)} {σ : St} {H : Hp} {s : Shared} {p : Addr} {xs : List V} (I : Inv X pins σ H s) (h : H p = some (.lst xs)) :
    ∃ (its : List Value) (n : Nat), Vals xs its ∧ s.heap.get? p = some { cls := .type "list", data := .seq its.toArray n } ∧ xs.length ≤ sizeLine := by
  obtain ⟨z, its, n, r, e⟩ := I.hok p _ h
  exact ⟨its, n, r, e, z⟩
/-- the list at p is written by an update of its object -/
theorem Inv.lstUpd {pins : List (Addr × Obj)} {σ : St} {H : Hp} {s : Shared} {p : Addr} {xs ys : List V} {its its' : List Value} {n n' : Nat} {f : Obj → Obj} (I : Inv X pins σ H s) (h : H p = some (.lst xs))
    (ho : s.heap.get? p = some { cls := .type "list", data := .seq its.toArray n }) (hf : f { cls := .type "list", data := .seq its.toArray n } = { cls := .type "list", data := .seq its'.toArray n' }) (r : Vals ys its') (hz : ys.length ≤ sizeLine) (t : Nat) :
    Inv X pins σ (upd H p (.lst ys)) { s with heap := s.heap.update p f, toks := t } := by
  have e : (s.heap.update p f).get? p = some { cls := .type "list", data := .seq its'.toArray n' } := by
    rw [Heap.get?_update_self f ho (by rw [hf] <;> rfl), hf]
  refine I.write (x := p) (e := p) (by rw [h]; trivial) (.inl rfl) (fun b u hb q => (Heap.get?_update_other _ _ (Ne.symm hb)).trans q) ⟨_, e⟩ ?_
  exact ⟨hz, its', n', r, e⟩
def rSetL : V → V → V → Hp → (Hp → Prop) → Prop := fun o i v H Q => ∃ p xs k j, o = .ref p ∧ i = .int k ∧ H p = some (.lst xs) ∧ ixN xs.length k = some j ∧ Q (upd H p (.lst (xs.set j v)))
theorem set_list : PSet X rSetL := by
  intro pins s σ H o i v ov iv u Q I ro ri rv h
  obtain ⟨p, xs, k, j, rfl, rfl, hp, hj, q⟩ := h
  cases ro
  obtain ⟨t, rfl⟩ := ri
  obtain ⟨its, n, r, ho, hz⟩ := I.lst hp
  obtain ⟨h1, h2, h3, h4⟩ := ixN_seq hj
  have hl := r.length
  have hn := line63
  have I' : Inv X pins σ (upd H p (.lst (xs.set j v))) { s with heap := s.heap.update p (Obj.mapSeq (·.setIfInBounds j u)) } :=
    I.lstUpd hp ho (mapSeq_set its n j u) (r.set rv j) (by rw [List.length_set]; exact hz) s.toks
  by_cases h0 : 0 ≤ k
  · have hk : k.toNat = j := by
      rw [seqIndex_of h0 h4] at h1
      exact Option.some.inj h1
    exact PySem.W.ki_setAt ho h0 (by omega) (by rw [List.size_toArray, ← hl]; exact h4) (by rw [hk]; exact ⟨_, I', q⟩)
  · have hk : (k + (its.toArray.size : Int)).toNat = j := by
      rw [seqIndex_neg (by omega) h3] at h1
      rw [List.size_toArray, ← hl]
      exact Option.some.inj h1
    exact PySem.W.ki_setBack ho (by omega) (by rw [List.size_toArray, ← hl]; exact h3) (by omega) (by rw [hk]; exact ⟨_, I', q⟩)

theorem slice_bounds (lo hi : Option Int) (n : Nat) : (sliceBounds lo hi none n).1 = ((HT.sIx n 0 lo : Nat) : Int) ∧ (sliceBounds lo hi none n).2.1 = ((HT.sIx n n hi : Nat) : Int) ∧ (sliceBounds lo hi none n).2.2 = 1 := by
  refine ⟨?_, ?_, rfl⟩
  · cases lo with
    | none => simp [sliceBounds, HT.sIx]
    | some i =>
      simp only [sliceBounds, HT.sIx, Option.getD_none, show (1 : Int) > 0 by decide, if_true]
      by_cases h : i < 0
      · simp only [h, if_true] <;> omega
      · simp only [h, if_false] <;> omega
  · cases hi with
    | none => simp [sliceBounds, HT.sIx]
    | some i =>
      simp only [sliceBounds, HT.sIx, Option.getD_none, show (1 : Int) > 0 by decide, if_true]
      by_cases h : i < 0
      · simp only [h, if_true] <;> omega
      · simp only [h, if_false] <;> omega
theorem slicePick_cut (its : List Value) (lo hi : Option Int) : slicePick its.toArray lo hi none = ((its.drop (HT.sIx its.length 0 lo)).take (HT.sIx its.length its.length hi - HT.sIx its.length 0 lo)).toArray := by
  obtain ⟨h1, h2, h3⟩ := slice_bounds lo hi its.toArray.size
  unfold slicePick
  rw [h1, h2, h3]
  simp only [sliceRange_one, pick_run, List.size_toArray] <;> rfl
/-- xs[lo:hi] of a list: a new list -/
def rSlL (K : PySem.W.Frag) : V → Option Int → Option Int → Hp → VK → Prop := fun x lo hi H Q => ∃ a xs, x = .ref a ∧ SqL K H a xs ∧ ∀ p, H p = none → Q (.ref p) (upd H p (.lst (cutV xs lo hi)))
theorem sl_list : SlR X (rSlL X.K) := by
  intro pins s σ H x v vl vu lo hi sl Q I rx hs pl pu h
  obtain ⟨a, xs, rfl, hx, q⟩ := h
  cases rx
  obtain ⟨its, r, ht, hz⟩ := I.list hx
  have hlen := r.length
  refine ⟨"list", _, slot_list_getitem.lookup, ht.isList.typeIs, ?_⟩
  refine wpAny_getItem_list_slice ht.isList hs pl pu .none (by simp) ?_ (by rw [List.size_toArray] <;> omega)
  rw [slicePick_cut, ← hlen]
  refine ⟨.ref s.heap.objs.size, _, I.laid (t' := s.toks) (o := .lst (cutV xs lo hi)) (fun b ob q => Heap.get?_push_of_some _ q) (Nat.le_refl _) ?_, rfl, q _ (I.hok.fresh (Nat.le_refl _))⟩
  exact ⟨Nat.le_trans (cutV_length xs lo hi) hz, _, 0, (r.drop (HT.sIx xs.length 0 lo)).take (HT.sIx xs.length xs.length hi - HT.sIx xs.length 0 lo), Heap.get?_push_size _ rfl⟩

def flatV : V → Bool
  | .non => true
  | .bl _ => true
  | .int _ => true
  | .str _ => true
  | _ => false
/-- == of flat values -/
def eqV : V → V → Bool
  | .non, .non => true
  | .bl a, .bl b => a == b
  | .bl a, .int b => (if a then 1 else 0) == b
  | .int a, .bl b => a == (if b then 1 else 0)
  | .int a, .int b => a == b
  | .str a, .str b => a == b
  | _, _ => false
theorem eqAt_V {A : Around} {s : Shared} {y x : V} {u v : Value} (ry : RelV y u) (rx : RelV x v) (fy : flatV y = true) (fx : flatV x = true) : SeqAt.EqAt A s u v (eqV y x) := by
  cases y with
  | non =>
    cases ry
    cases x with
    | non => cases rx; exact SeqAt.EqAt.same _
    | bl b => cases rx; exact SeqAt.EqAt.none_bool b
    | int b => obtain ⟨t, rfl⟩ := rx; exact SeqAt.EqAt.none_int b t
    | str b => obtain ⟨t, rfl⟩ := rx; exact SeqAt.EqAt.none_str b t
    | _ => exact absurd (show false = true from fx) Bool.false_ne_true
  | bl a =>
    cases ry
    cases x with
    | non => cases rx; exact SeqAt.EqAt.bool_none a
    | bl b => cases rx; exact SeqAt.EqAt.bool_bool a b
    | int b => obtain ⟨t, rfl⟩ := rx; exact SeqAt.EqAt.bool_int a b t
    | str b => obtain ⟨t, rfl⟩ := rx; exact SeqAt.EqAt.bool_str a b t
    | _ => exact absurd (show false = true from fx) Bool.false_ne_true
  | int a =>
    obtain ⟨t', rfl⟩ := ry
    cases x with
    | non => cases rx; exact SeqAt.EqAt.int_none a t'
    | bl b => cases rx; exact SeqAt.EqAt.int_bool a t' b
    | int b => obtain ⟨t, rfl⟩ := rx; exact SeqAt.EqAt.int_int a t' b t
    | str b => obtain ⟨t, rfl⟩ := rx; exact SeqAt.EqAt.int_str a t' b t
    | _ => exact absurd (show false = true from fx) Bool.false_ne_true
  | str a =>
    obtain ⟨t', rfl⟩ := ry
    cases x with
    | non => cases rx; exact SeqAt.EqAt.str_none a t'
    | bl b => cases rx; exact SeqAt.EqAt.str_bool a t' b
    | int b => obtain ⟨t, rfl⟩ := rx; exact SeqAt.EqAt.str_int a t' b t
    | str b => obtain ⟨t, rfl⟩ := rx; exact SeqAt.EqAt.str_str a t' b t
    | _ => exact absurd (show false = true from fx) Bool.false_ne_true
  | _ => exact absurd (show false = true from fy) Bool.false_ne_true
/-- the items' answers, read off the values (a value's own answer does not lean on its token) -/
def eqU (x : V) (u : Value) : Bool := match u with
  | .none => eqV .non x
  | .bool b => eqV (.bl b) x
  | .int i _ => eqV (.int i) x
  | .str z _ => eqV (.str z) x
  | _ => false
theorem eqU_of {x y : V} {u : Value} (r : RelV y u) (f : flatV y = true) : eqU x u = eqV y x := by
  cases y with
  | non => cases r; rfl
  | bl b => cases r; rfl
  | int i => obtain ⟨t, rfl⟩ := r; rfl
  | str z => obtain ⟨t, rfl⟩ := r; rfl
  | _ => exact absurd (show false = true from f) Bool.false_ne_true
theorem any_eqU {x : V} : ∀ {xs : List V} {us : List Value}, Vals xs us → xs.all flatV = true → us.any (eqU x) = xs.any fun y => eqV y x
  | _, _, .nil, _ => rfl
  | y :: xs, u :: us, .cons r t, f => by
    rw [List.all_cons, Bool.and_eq_true] at f
    rw [List.any_cons, List.any_cons, eqU_of r f.1, any_eqU t f.2]
theorem mem_eqAt {A : Around} {s : Shared} {x : V} {v : Value} (rx : RelV x v) (fx : flatV x = true) : ∀ {xs : List V} {us : List Value}, Vals xs us → xs.all flatV = true → ∀ u ∈ us, SeqAt.EqAt A s u v (eqU x u)
  | _, _, .nil, _ => fun u hu => by cases hu
  | y :: xs, u :: us, .cons r t, f => fun u' hu => by
    rw [List.all_cons, Bool.and_eq_true] at f
    rcases List.mem_cons.mp hu with rfl | hu
    · rw [eqU_of r f.1]; exact eqAt_V r rx f.1 fx
    · exact mem_eqAt rx fx t f.2 u' hu
def inV (x : V) (xs : List V) : Bool := xs.any fun y => eqV y x
/-- x in a list or tuple of flat items -/
def rIn (K : PySem.W.Frag) (neg : Bool) : R2 := fun x y H Q => ∃ p xs, y = .ref p ∧ (SqL K H p xs ∨ SqT K H p xs) ∧ flatV x = true ∧ xs.all flatV = true ∧ Q (.bl (if neg then !inV x xs else inV x xs)) H
theorem op_notIn_seq : OpR X (compareOp .NotIn) (rIn X.K true) := by
  intro pins s σ H x y v u Q I rx ry h
  obtain ⟨p, xs, rfl, hq, fx, fs, q⟩ := h
  cases ry
  rcases hq with hq | hq
  · obtain ⟨its, r, pl, hz⟩ := I.list hq
    refine SeqAt.notIn_listAt (eqU x) pl.isList (fun w hw => mem_eqAt rx fx r fs w (by simpa using hw)) ⟨.bl _, H, I, rfl, ?_⟩
    rw [show its.toArray.any (eqU x) = its.any (eqU x) by simp, any_eqU r fs]
    exact q
  · obtain ⟨its, r, pl, hz⟩ := I.tuple hq
    refine SeqAt.notIn_tupleAt (eqU x) pl (fun w hw => mem_eqAt rx fx r fs w (by simpa using hw)) ⟨.bl _, H, I, rfl, ?_⟩
    rw [show its.toArray.any (eqU x) = its.any (eqU x) by simp, any_eqU r fs]
    exact q
theorem call_len_seq : CallR X (.builtin "len") (fun xs H Q => ∃ p ys, xs = [.ref p] ∧ (SqL X.K H p ys ∨ SqT X.K H p ys) ∧ Q (.int ys.length) H) := by
  intro pins s σ H xs us Q I r h
  obtain ⟨p, ys, rfl, hq, q⟩ := h
  obtain ⟨u, rfl, rx⟩ := vals1 r
  cases rx
  have hn := line63
  rcases hq with hq | hq
  · obtain ⟨its, r', pl, hz⟩ := I.list hq
    have hlen := r'.length
    exact Calls.call_len_list pl.isList (by simp only [List.size_toArray] <;> omega) ⟨.int ys.length, H, I.tok _, ⟨s.toks + 1, by rw [List.size_toArray, hlen]⟩, q⟩
  · obtain ⟨its, r', pl, hz⟩ := I.tuple hq
    have hlen := r'.length
    exact len_tuple pl (by simp only [List.size_toArray] <;> omega) ⟨.int ys.length, H, I.tok _, ⟨s.toks + 1, by rw [List.size_toArray, hlen]⟩, q⟩
theorem call_len_str : CallR X (.builtin "len") (fun xs H Q => ∃ z, xs = [.str z] ∧ z.length ≤ sizeLine ∧ Q (.int z.length) H) := by
  intro pins s σ H xs us Q I r h
  obtain ⟨z, rfl, hz, q⟩ := h
  obtain ⟨u, rfl, t, rfl⟩ := vals1 r
  have hn := line63
  exact len_str (by omega) ⟨.int z.length, H, I.tok _, ⟨_, rfl⟩, q⟩
theorem CallR.or {f : Value} {r r' : List V → Hp → VK → Prop} (h : CallR X f r) (h' : CallR X f r') : CallR X f (fun xs H Q => r xs H Q ∨ r' xs H Q) := by
  intro pins s σ H xs us Q I rs q
  rcases q with q | q
  · exact h pins s σ H xs us Q I rs q
  · exact h' pins s σ H xs us Q I rs q
theorem call_list_of : CallR X (.type "list") (fun xs H Q => ∃ p ys, xs = [.ref p] ∧ (SqL X.K H p ys ∨ SqT X.K H p ys) ∧ ∀ l, H l = none → Q (.ref l) (upd H l (.lst ys))) := by
  intro pins s σ H xs us Q I r h
  obtain ⟨p, ys, rfl, hq, q⟩ := h
  obtain ⟨u, rfl, rx⟩ := vals1 r
  cases rx
  have fin : ∀ (its : List Value), Vals ys its → ys.length ≤ sizeLine → ∀ (h' : Heap) (c' : Nat), (∀ b o', s.heap.get? b = some o' → h'.get? b = some o') →
      h'.get? s.heap.objs.size = some { cls := .type "list", dict := none, data := .seq its.toArray c', slots := #[] } → EP X pins σ Q (.ref s.heap.objs.size) { s with heap := h' } := fun its r' hz h' c' kp e =>
    ⟨.ref s.heap.objs.size, _, I.laid (t' := s.toks) kp (Nat.le_refl _) (show ObjOk X.prog X.w _ h' _ (.lst ys) from ⟨hz, its, c', r', e⟩), rfl, q _ (I.hok.fresh (Nat.le_refl _))⟩
  rcases hq with hq | hq
  · obtain ⟨its, r', pl, hz⟩ := I.list hq
    have hlen := r'.length
    obtain ⟨o, ho, hc, n, hd⟩ := pl.isList
    exact call_list_seq p (.inl rfl) ho hc hd (fun h' c' kp e => fin its r' hz h' c' kp e) (by simp only [List.size_toArray] <;> omega)
  · obtain ⟨its, r', pl, hz⟩ := I.tuple hq
    have hlen := r'.length
    obtain ⟨o, ho, hc, n, hd⟩ := pl
    exact call_list_seq p (.inr rfl) ho hc hd (fun h' c' kp e => fin its r' hz h' c' kp e) (by simp only [List.size_toArray] <;> omega)
theorem call_tuple_of : CallR X (.type "tuple") (fun xs H Q => ∃ p ys, xs = [.ref p] ∧ ((SqL X.K H p ys ∧ ∀ l, H l = none → Q (.ref l) (upd H l (.tup ys))) ∨ (SqT X.K H p ys ∧ Q (.ref p) H))) := by
  intro pins s σ H xs us Q I r h
  obtain ⟨p, ys, rfl, h⟩ := h
  obtain ⟨u, rfl, rx⟩ := vals1 r
  cases rx
  rcases h with ⟨hq, q⟩ | ⟨hq, q⟩
  · obtain ⟨its, r', pl, hz⟩ := I.list hq
    have hlen := r'.length
    refine call_tuple_list pl.isList (fun h' kp => ?_) (by simp only [List.size_toArray] <;> omega)
    have I1 : Inv X pins σ H { s with heap := h' } := I.kept (t' := s.toks) kp
    have I2 : Inv X pins σ (upd H h'.objs.size (.tup ys)) { s with heap := h'.push { cls := .type "tuple", data := .seq its.toArray } } :=
      I1.laid (t' := s.toks) (fun b o e => Heap.get?_push_of_some _ e) (Nat.le_refl _) (show ObjOk X.prog X.w _ _ _ (.tup ys) from ⟨hz, its, r', IsTup.new _ _⟩)
    exact ⟨.ref h'.objs.size, _, I2, rfl, q _ (I1.hok.fresh (Nat.le_refl _))⟩
  · obtain ⟨its, r', pl, hz⟩ := I.tuple hq
    exact call_tuple_same pl ⟨.ref p, H, I, rfl, q⟩

/-- the value is of that builtin type -/
def tyV (K : PySem.W.Frag) (T : String) (x : V) (H : Hp) : Prop := match x with
  | .str _ => T = "str"
  | .int _ => T = "int"
  | .ref p => (T = "list" ∧ ∃ xs, SqL K H p xs) ∨ (T = "tuple" ∧ ∃ o, K.lookup p = some o ∧ o.cls = .type "tuple" ∧ o.dict = none) ∨
      (T = "dict" ∧ ((∃ kvs, H p = some (.dK kvs)) ∨ ∃ kvs, H p = some (.dT kvs))) ∨ (T = "set" ∧ ∃ S n, H p = some (.set S n))
  | _ => False
theorem tyV_is {pins : List (Addr × Obj)} {σ : St} {H : Hp} {s : Shared} {T : String} {x : V} {v : Value} (I : Inv X pins σ H s) (r : RelV x v) (ty : tyV X.K T x H) :
    s.TypeIs v T ∧ ∀ a, v = .ref a → ∃ ob, s.heap.get? a = some ob ∧ ob.dict = none := by
  cases x with
  | str z =>
    obtain ⟨t, rfl⟩ := r
    cases (show T = "str" from ty)
    exact ⟨typeIs_str s z t, fun _ e => nomatch e⟩
  | int i =>
    obtain ⟨t, rfl⟩ := r
    cases (show T = "int" from ty)
    exact ⟨typeIs_int s i t, fun _ e => nomatch e⟩
  | ref p =>
    cases r
    rcases ty with ⟨rfl, xs, hq⟩ | ⟨rfl, o, hk, hc, hd⟩ | ⟨rfl, hk⟩ | ⟨rfl, S, n, hk⟩
    · obtain ⟨its, _, pl, _⟩ := I.list hq
      refine ⟨pl.isList.typeIs, fun a e => ?_⟩
      cases e
      obtain ⟨o, n, e, c, hd, _⟩ := pl
      exact ⟨o, e, hd⟩
    · refine ⟨⟨o, I.kIn p o hk, hc⟩, fun a e => ?_⟩
      cases e
      exact ⟨o, I.kIn _ o hk, hd⟩
    · have z : ∃ o, s.heap.get? p = some o ∧ o.ExactDict := by
        rcases hk with ⟨kvs, hk⟩ | ⟨kvs, hk⟩
        · obtain ⟨_, _, _, _, o, _, _, e, ex, _⟩ := I.hok p _ hk
          exact ⟨o, e, ex⟩
        · obtain ⟨_, _, _, _, o, _, _, e, ex, _⟩ := I.hok p _ hk
          exact ⟨o, e, ex⟩
      obtain ⟨o, e, ex⟩ := z
      refine ⟨⟨o, e, ex.1⟩, fun a e2 => ?_⟩
      cases e2
      exact ⟨o, e, ex.2.1⟩
    · obtain ⟨o, _, _, _, e, ex, _⟩ := I.hok p _ hk
      refine ⟨⟨o, e, ex.1⟩, fun a e2 => ?_⟩
      cases e2
      exact ⟨o, e, ex.2.1⟩
  | _ => exact False.elim ty
def tBM0 (K : PySem.W.Frag) (T : String) (r : V → List V → Hp → VK → Prop) (to : TE) : TE := fun σ H Q => to σ H fun x H1 => tyV K T x H1 ∧ r x [] H1 Q
def tBM (K : PySem.W.Frag) (T : String) (r : V → List V → Hp → VK → Prop) (to : TE) (t : TA) : TE := fun σ H Q => to σ H fun x H1 => tyV K T x H1 ∧ t σ H1 fun xs H2 => r x xs H2 Q
variable {o e : Expr} {es : List Expr} {to : TE} {t : TA} {name : Str} {apos cpos : Pos} {T id : String} {r : V → List V → Hp → VK → Prop}
theorem pe_bm0 (pa : PlainAttrs T) (slot : Slot T name id) (hty : typeOf (.builtin id) = pure (.type "method_descriptor")) (hm : MtR X id r) (ho : PE X o to)
    (hbase : attributeBase o name X.env (eval o X.env) = eval o X.env := by rfl) (hline : (apos.endLine == cpos.line) = true := by rfl) : PE X (.Call (.Attribute o name apos) [] [] cpos) (tBM0 X.K T r to) := by
  intro pins s σ H Q I h
  refine wpAny_Call_method0_late hbase hline (thn (ho pins s σ H _ I h) fun v s1 ⟨x, H1, I1, r1, ty, q1⟩ => ?_)
  obtain ⟨h1, h2⟩ := tyV_is I1 r1 ty
  exact ⟨T, id, pa, slot, hty, h1, h2, Calls.callWith_builtin rfl (PySem.evalArgs_none (hm pins s1 σ H1 x [] v [] Q I1 r1 .nil q1))⟩
theorem pe_bm (pa : PlainAttrs T) (slot : Slot T name id) (hty : typeOf (.builtin id) = pure (.type "method_descriptor")) (hm : MtR X id r) (ho : PE X o to) (ha : PA X (e :: es) t)
    (hbase : attributeBase o name X.env (eval o X.env) = eval o X.env := by rfl)
    (hfew : ((backTo cpos (starEach (e :: es) X.env)).all (fun x => !x.1) && (backToKw cpos (keywordEach [] X.env)).all (fun x => x.1.isSome)
      && decide ((e :: es).length + ([] : List Keyword).length + (if ([] : List Keyword).isEmpty then 0 else 1) < 30)) = true := by rfl)
    (hline : (apos.endLine == cpos.line) = true := by rfl) (hs : starEach (e :: es) X.env = (false, eval e X.env) :: starEach es X.env := by rfl) (hplain : (backTo cpos (starEach es X.env)).any (·.1) = false := by rfl) :
    PE X (.Call (.Attribute o name apos) (e :: es) [] cpos) (tBM X.K T r to t) := by
  intro pins s σ H Q I h
  refine wpAny_Call_method_late hbase hfew hline rfl (thn (ho pins s σ H _ I h) fun v s1 ⟨x, H1, I1, r1, ty, q1⟩ => ?_)
  obtain ⟨h1, h2⟩ := tyV_is I1 r1 ty
  refine ⟨T, id, pa, slot, hty, h1, h2, ?_⟩
  have hA := ha cpos pins s1 σ H1 _ I1 q1
  rw [hs] at hA ⊢
  refine Calls.callWith_builtin (by show (false || (backTo cpos (starEach es X.env)).any (·.1)) = false; rw [hplain] <;> rfl) (Calls.evalArgs_plain ?_)
  exact thn hA fun us s2 ⟨vs, H2, I2, r2, q2⟩ => hm pins s2 σ H2 x vs v us Q I2 r1 r2 q2
end
end L2
namespace L2
open PySem PySem.Spec PyProof.Rows
def MtM (X : Cx) (id : String) (r : V → List V → Hp → VK → Prop) : Prop :=
  ∀ (pins : List (Addr × Obj)) (s : Shared) (σ : St) (H : Hp) (x : V) (xs : List V) (v : Value) (us : List Value) (Q : VK), Inv X pins σ H s → RelV x v → Vals xs us → r x xs H Q →
    wpAny (model X.prog X.w) X.A (call (.builtin id) (v :: us)) (EP X pins σ Q) X.xe s

theorem Vals.one : ∀ {x : V} {us : List Value}, Vals [x] us → ∃ u, us = [u] ∧ RelV x u
  | _, _, .cons r .nil => ⟨_, rfl, r⟩
theorem Vals.two : ∀ {x y : V} {us : List Value}, Vals [x, y] us → ∃ u v, us = [u, v] ∧ RelV x u ∧ RelV y v
  | _, _, _, .cons r (.cons q .nil) => ⟨_, _, rfl, r, q⟩
theorem Vals.zero : ∀ {us : List Value}, Vals [] us → us = []
  | _, .nil => rfl
theorem Vals.dropLast {xs : List V} {us : List Value} (h : Vals xs us) : Vals xs.dropLast us.dropLast := by
  induction h with
  | nil => exact .nil
  | cons r t ih =>
    cases t with
    | nil => exact .nil
    | cons q t' => exact .cons r ih
theorem Vals.eraseIdx : ∀ {xs : List V} {us : List Value} (i : Nat), Vals xs us → Vals (xs.eraseIdx i) (us.eraseIdx i)
  | _, _, _, .nil => .nil
  | _, _, 0, .cons _ t => t
  | _, _, i + 1, .cons r t => .cons r (Vals.eraseIdx i t)
theorem erase_last {α : Type} (l : List α) : l.eraseIdx (l.length - 1) = l.dropLast := by
  induction l with
  | nil => rfl
  | cons a r ih =>
    cases r with
    | nil => rfl
    | cons b r =>
      have e : (a :: b :: r).length - 1 = ((b :: r).length - 1) + 1 := by
        have h1 : (a :: b :: r).length = r.length + 2 := rfl
        have h2 : (b :: r).length = r.length + 1 := rfl
        omega
      rw [e, List.eraseIdx_cons_succ, ih]
      all_goals rfl
section
variable {X : Cx} {pins : List (Addr × Obj)} {σ : St} {H : Hp} {s : Shared} {l b : Addr} {xs ys zs : List V}
theorem Inv.lset {its its' : List Value} {n : Nat} {f : Array Value → Array Value} {t' : Nat} (I : Inv X pins σ H s) (hH : H l = some (.lst xs))
    (e : s.heap.get? l = some { cls := .type "list", data := .seq its.toArray n }) (hf : f its.toArray = its'.toArray) (hv : Vals ys its') (hz : ys.length ≤ sizeLine) :
    Inv X pins σ (upd H l (.lst ys)) { s with heap := s.heap.update l (Obj.mapSeq f), toks := t' } := by
  have q := PySem.IsL.update e f
  rw [hf] at q
  refine I.write (x := l) (e := l) (by rw [hH]; exact trivial) (.inl rfl) (fun b' u hb hu => (Heap.get?_update_other s.heap (Obj.mapSeq f) (Ne.symm hb)).trans hu) ⟨_, q⟩ ?_
  exact ⟨hz, its', _, hv, q⟩
theorem Inv.lnew {its : List Value} {t' : Nat} (I : Inv X pins σ H s) (hv : Vals ys its) (hz : ys.length ≤ sizeLine) :
    Inv X pins σ (upd H s.heap.objs.size (.lst ys)) { s with heap := s.heap.push { cls := .type "list", data := .seq its.toArray }, toks := t' } :=
  I.laid (fun _ _ q => Heap.get?_push_of_some _ q) (Nat.le_refl _) ⟨hz, its, 0, hv, Heap.get?_push_size _ rfl⟩
theorem Inv.fresh (I : Inv X pins σ H s) : H s.heap.objs.size = none := I.hok.fresh (Nat.le_refl _)
theorem Inv.lstM (I : Inv X pins σ H s) (hH : H l = some (.lst xs)) : xs.length ≤ sizeLine ∧ ∃ (its : List Value) (n : Nat), Vals xs its ∧ xs.length = its.length ∧ s.heap.get? l = some { cls := .type "list", data := .seq its.toArray n } := by
  obtain ⟨z, its, n, r, e⟩ := I.hok l _ hH
  exact ⟨z, its, n, r, r.length, e⟩

end
section
variable {X : Cx}
def rAppend : V → List V → Hp → VK → Prop := fun x vs H Q => ∃ l xs y, x = .ref l ∧ vs = [y] ∧ H l = some (.lst xs) ∧ xs.length < sizeLine ∧ Q .non (upd H l (.lst (xs ++ [y])))
theorem mt_append : MtM X "list.append" rAppend := by
  intro pins s σ H x vs v us Q I rx rv h
  obtain ⟨l, xs, y, rfl, rfl, hH, hz, q⟩ := h
  cases rx
  obtain ⟨u, rfl, ru⟩ := rv.one
  obtain ⟨z, its, n, r, hl, e⟩ := I.lstM hH
  refine call_meets F.slot_list_append ⟨_, e, rfl⟩ F.entry_list_append (F.args_list_append_2 _ _) (PySem.list_append l its.toArray n u (by rw [List.size_toArray]; omega)) ⟨e, ?_⟩
  refine ⟨.non, _, I.lset (its' := its ++ [u]) hH e (by simp) (r.append (.cons ru .nil)) ?_, rfl, q⟩
  rw [List.length_append, List.length_singleton]
  omega

def rPop : V → List V → Hp → VK → Prop := fun x vs H Q => ∃ l xs y, x = .ref l ∧ vs = [] ∧ H l = some (.lst xs) ∧ xs[xs.length - 1]? = some y ∧ Q y (upd H l (.lst xs.dropLast))
theorem mt_pop : MtM X "list.pop" rPop := by
  intro pins s σ H x vs v us Q I rx rv h
  obtain ⟨l, xs, y, rfl, rfl, hH, hy, q⟩ := h
  cases rx
  have hus := rv.zero
  subst hus
  obtain ⟨z, its, n, r, hl, e⟩ := I.lstM hH
  obtain ⟨u, hu, ru⟩ := r.get hy
  have hy' : its.toArray[its.toArray.size - 1]? = some u := by
    show its.toArray[its.length - 1]? = some u
    rw [← Array.getElem?_toList, ← hl]
    exact hu
  refine call_meets F.slot_list_pop ⟨_, e, rfl⟩ F.entry_list_pop (F.args_list_pop_1 _) (MeetsSeq.list_pop_last l its.toArray n u hy' (by rw [List.size_toArray]; omega)) ⟨e, ?_⟩
  refine ⟨y, _, I.lset (its' := its.dropLast) hH e ?_ r.dropLast ?_, ru, q⟩
  · show its.toArray.eraseIdxIfInBounds (its.toArray.size - 1) = its.dropLast.toArray
    rw [List.size_toArray, List.eraseIdxIfInBounds_toArray, erase_last]
  · rw [List.length_dropLast]
    omega

def rCat : R2 := fun x y H Q => ∃ l b xs zs, x = .ref l ∧ y = .ref b ∧ H l = some (.lst xs) ∧ H b = some (.lst zs) ∧ xs.length + zs.length ≤ sizeLine ∧ ∀ p, H p = none → Q (.ref p) (upd H p (.lst (xs ++ zs)))
theorem op_cat : OpR X (binaryOp .Add) rCat := by
  intro pins s σ H x y v u Q I rx ry h
  obtain ⟨l, b, xs, zs, rfl, rfl, hH, hB, hz, q⟩ := h
  cases rx
  cases ry
  obtain ⟨z, its, n, r, hl, e⟩ := I.lstM hH
  obtain ⟨z2, its2, n2, r2, hl2, e2⟩ := I.lstM hB
  refine PySem.P.add_list e e2 ?_ (by rw [List.size_toArray, List.size_toArray]; omega)
  have ea : its.toArray ++ its2.toArray = (its ++ its2).toArray := by simp
  rw [ea]
  exact ⟨.ref _, _, I.lnew (t' := s.toks) (r.append r2) (by rw [List.length_append]; omega), rfl, q _ I.fresh⟩
end
section
variable {prog : Program} {w : World} {A : Around} {E : Value → Shared → Prop} {s : Shared}
end
section
variable {X : Cx}
end
end L2
namespace L2
open PySem PySem.Spec PyProof.Rows
theorem Vals.ints : ∀ {ns : List Int} {us : List Value}, Vals (ns.map V.int) us → IntsAre us ns
  | [], us, h => by
    rw [List.map_nil] at h
    cases h
    exact IntsAre.nil
  | n :: ns, us, h => by
    rw [List.map_cons] at h
    cases h with
    | cons r t =>
      obtain ⟨k, rfl⟩ := r
      exact IntsAre.cons n k (Vals.ints t)
theorem Vals.strs : ∀ {xs : List Str} {us : List Value}, Vals (xs.map V.str) us → StrsAre us xs
  | [], us, h => by
    rw [List.map_nil] at h
    cases h
    exact StrsAre.nil
  | x :: xs, us, h => by
    rw [List.map_cons] at h
    cases h with
    | cons r t =>
      obtain ⟨k, rfl⟩ := r
      exact StrsAre.cons x k (Vals.strs t)
section
variable {prog : Program} {w : World} {A : Around} {E : Value → Shared → Prop} {s : Shared} {l : Addr} {its : List Value} {ns : List Int} {Q : Value → Shared → Prop}
end
section
variable {X : Cx}
end
section
variable {X : Cx}
end
section
variable {X : Cx}
end
theorem all_range : ∀ bs : List Bool, (List.range bs.length).all (fun i => bs.getD i false) = bs.all id
  | [] => rfl
  | b :: bs => by
    rw [List.length_cons, List.range_succ_eq_map, List.all_cons, List.all_map, List.all_cons, ← all_range bs]
    all_goals rfl
section
variable {X : Cx}
end
mutual
inductive Dp (K : PySem.W.Frag) (H : Hp) : V → PyData → Prop
  | non : Dp K H .non .none
  | bl (b : Bool) : Dp K H (.bl b) (.bool b)
  | int (i : Int) : Dp K H (.int i) (.int i)
  | str (x : Str) : Dp K H (.str x) (.str x)
  | lst {a : Addr} {xs : List V} {ds : List PyData} : SqL K H a xs → DpAll K H xs ds → Dp K H (.ref a) (.list ds)
  | tup {a : Addr} {xs : List V} {ds : List PyData} : SqT K H a xs → DpAll K H xs ds → Dp K H (.ref a) (.tuple ds)
inductive DpAll (K : PySem.W.Frag) (H : Hp) : List V → List PyData → Prop
  | nil : DpAll K H [] []
  | cons {v : V} {vs : List V} {d : PyData} {ds : List PyData} : Dp K H v d → DpAll K H vs ds → DpAll K H (v :: vs) (d :: ds)
end
section
variable {X : Cx} {pins : List (Addr × Obj)} {σ : St} {H : Hp} {s : Shared}
mutual
theorem Dp.reads (I : Inv X pins σ H s) : ∀ (d : PyData) (v : V) (u : Value), Dp X.K H v d → RelV v u → ∃ as, Reads s.heap u d as
  | .none, _, _, h, r => by
    cases h
    cases r
    exact ⟨_, Reads.none⟩
  | .bool b, _, _, h, r => by
    cases h
    cases r
    exact ⟨_, Reads.bool b⟩
  | .int i, _, _, h, r => by
    cases h
    obtain ⟨t, rfl⟩ := r
    exact ⟨_, Reads.int i t⟩
  | .str x, _, _, h, r => by
    cases h
    obtain ⟨t, rfl⟩ := r
    exact ⟨_, Reads.str x t⟩
  | .list ds, _, _, h, r => by
    cases h with
    | lst hs ha =>
      cases r
      obtain ⟨its, rv, ⟨o, n, ho, hc, _, hd⟩, _⟩ := I.list hs
      obtain ⟨as, hr⟩ := Dp.readsAll I ds _ its ha rv
      exact ⟨_, Reads.list ho hc hd hr⟩
  | .tuple ds, _, _, h, r => by
    cases h with
    | tup hs ha =>
      cases r
      obtain ⟨its, rv, ⟨o, ho, hc, n, hd⟩, _⟩ := I.tuple hs
      obtain ⟨as, hr⟩ := Dp.readsAll I ds _ its ha rv
      exact ⟨_, Reads.tuple ho hc hd hr⟩
  | .dict _, _, _, h, _ => by cases h
theorem Dp.readsAll (I : Inv X pins σ H s) : ∀ (ds : List PyData) (vs : List V) (us : List Value), DpAll X.K H vs ds → Vals vs us → ∃ as, ReadsAll s.heap us ds as
  | [], _, _, h, r => by
    cases h
    cases r
    exact ⟨_, ReadsAll.nil⟩
  | d :: ds, _, _, h, r => by
    cases h with
    | cons h1 h2 =>
      cases r with
      | cons r1 r2 =>
        obtain ⟨as, q1⟩ := Dp.reads I d _ _ h1 r1
        obtain ⟨bs, q2⟩ := Dp.readsAll I ds _ _ h2 r2
        exact ⟨_, ReadsAll.cons q1 q2⟩
end
end
section
variable {X : Cx}
def rEqD (K : PySem.W.Frag) : R2 := fun x y H Q => ∃ d e, Dp K H x d ∧ Dp K H y e ∧ SeqAt.shaped d = true ∧ SeqAt.shaped e = true ∧ Q (.bl (PyData.eqv d e)) H
def rNeD (K : PySem.W.Frag) : R2 := fun x y H Q => ∃ d e, Dp K H x d ∧ Dp K H y e ∧ SeqAt.shaped d = true ∧ SeqAt.shaped e = true ∧ Q (.bl (!PyData.eqv d e)) H
theorem op_eqD (hu : X.A.units + 64 < cLine) : OpR X (compareOp .Eq) (rEqD X.K) := by
  intro pins s σ H x y v u Q I rx ry h
  obtain ⟨d, e, hd, he, sd, se, q⟩ := h
  obtain ⟨as, r1⟩ := Dp.reads I d x v hd rx
  obtain ⟨bs, r2⟩ := Dp.reads I e y u he ry
  exact SeqAt.compareEq_shaped r1 r2 sd se hu ⟨.bl _, H, I, rfl, q⟩
theorem op_neD (hu : X.A.units + 64 < cLine) : OpR X (compareOp .NotEq) (rNeD X.K) := by
  intro pins s σ H x y v u Q I rx ry h
  obtain ⟨d, e, hd, he, sd, se, q⟩ := h
  obtain ⟨as, r1⟩ := Dp.reads I d x v hd rx
  obtain ⟨bs, r2⟩ := Dp.reads I e y u he ry
  exact SeqAt.compareNe_shaped r1 r2 sd se hu ⟨.bl _, H, I, rfl, q⟩
end
end L2
namespace L2
open PySem PySem.Spec PyProof.Rows
abbrev CellAt (h : Heap) (c : Addr) (v : Option Value) : Prop := h.IsCell c v
def relS (scope sc : Scope) : Scope :=
  { scope with names := scope.names.map fun (n, k) => if (k == .free && sc.kind == .function && sc.names.lookup n == some .cell) then (n, .cell) else (n, k) }

def cloFrom (cells : List (Str × Addr)) : List (Str × NameKind) → List (Str × Addr) → List (Str × Addr)
  | [], acc => acc
  | (n, k) :: r, acc => if k == .free then cloFrom cells r ((n, (cells.lookup n).getD 0) :: acc) else cloFrom cells r acc

theorem closure_loop (env : Env) (f : Str × NameKind → List (Str × Addr) → Sem (ForInStep (List (Str × Addr))))
    (hf : ∀ n k c, f (n, k) c = if k == .free then (do let a ← cellOf env n; pure (.yield ((n, a) :: c))) else pure (.yield c)) :
    ∀ (names : List (Str × NameKind)) (acc : List (Str × Addr)), (∀ y ∈ names, y.2 = .free → ∃ c, env.cells.lookup y.1 = some c) → forIn names acc f = pure (cloFrom env.cells names acc)
  | [], acc, _ => by rw [List.forIn_nil]; rfl
  | (n, k) :: r, acc, h => by
    rw [List.forIn_cons, hf]
    have ih := fun acc => closure_loop env f hf r acc fun y hy => h y (List.mem_cons_of_mem _ hy)
    unfold cloFrom
    by_cases hk : (k == NameKind.free) = true
    · rw [if_pos hk, if_pos hk]
      obtain ⟨c, hc⟩ := h (n, k) List.mem_cons_self (by simpa using hk)
      have e : cellOf env n = pure c := by unfold cellOf; rw [hc]
      rw [e]
      have e2 : (env.cells.lookup n).getD 0 = c := by rw [hc]; rfl
      rw [e2]
      exact ih _
    · rw [if_neg hk, if_neg hk]
      exact ih _
theorem closure_ok {scope : Scope} {env : Env} (h : ∀ y ∈ scope.names, y.2 = .free → ∃ c, env.cells.lookup y.1 = some c) : closureFor scope env = pure (cloFrom env.cells scope.names []) := by
  simp only [closureFor]
  rw [closure_loop env _ (fun n k c => rfl) scope.names [] h]
  rfl

theorem mem_lookup {α : Type} : ∀ {l : List (Str × α)} {n : Str} {c : α}, (n, c) ∈ l → ∃ c', l.lookup n = some c'
  | (k, v) :: r, n, c, h => by
    rw [List.lookup_cons]
    cases hb : n == k with
    | true => exact ⟨_, rfl⟩
    | false =>
      rcases List.mem_cons.mp h with e | h
      · cases e; simp at hb
      · exact mem_lookup h

theorem cloFrom_mem {cells : List (Str × Addr)} : ∀ {names : List (Str × NameKind)} {acc : List (Str × Addr)} {n : Str} {c : Addr}, (n, c) ∈ cloFrom cells names acc → (n, c) ∈ acc ∨ ((n, .free) ∈ names ∧ c = (cells.lookup n).getD 0)
  | [], _, _, _, h => .inl h
  | (m, k) :: r, acc, n, c, h => by
    unfold cloFrom at h
    split at h
    · rename_i hk
      have hk : k = .free := by simpa using hk
      rcases cloFrom_mem h with h | ⟨h1, h2⟩
      · rcases List.mem_cons.mp h with e | h
        · cases e; exact .inr ⟨hk ▸ List.mem_cons_self, rfl⟩
        · exact .inl h
      · exact .inr ⟨List.mem_cons_of_mem _ h1, h2⟩
    · rcases cloFrom_mem h with h | ⟨h1, h2⟩
      · exact .inl h
      · exact .inr ⟨List.mem_cons_of_mem _ h1, h2⟩
theorem cloFrom_acc {cells : List (Str × Addr)} : ∀ {names : List (Str × NameKind)} {acc : List (Str × Addr)} {p : Str × Addr}, p ∈ acc → p ∈ cloFrom cells names acc
  | [], _, _, h => h
  | (m, k) :: r, acc, p, h => by
    unfold cloFrom
    split
    · exact cloFrom_acc (List.mem_cons_of_mem _ h)
    · exact cloFrom_acc h
theorem cloFrom_has {cells : List (Str × Addr)} : ∀ {names : List (Str × NameKind)} {acc : List (Str × Addr)} {n : Str}, (n, .free) ∈ names → (n, (cells.lookup n).getD 0) ∈ cloFrom cells names acc
  | (m, k) :: r, acc, n, h => by
    unfold cloFrom
    rcases List.mem_cons.mp h with e | h
    · cases e
      exact cloFrom_acc List.mem_cons_self
    · split
      · exact cloFrom_has h
      · exact cloFrom_has h

theorem cells_mem : ∀ {names : List (Str × NameKind)} {h : Heap} {acc : List (Str × Addr)} {x : Str} {c : Addr}, (x, c) ∈ cellsFrom h.objs.size names acc →
    (x, c) ∈ acc ∨ ((x, .cell) ∈ names ∧ h.objs.size ≤ c ∧ CellAt (pushCells h names) c none)
  | [], _, _, _, _, h => .inl h
  | (n, k) :: r, h, acc, x, c, hm => by
    unfold cellsFrom at hm
    unfold pushCells
    split at hm
    · rename_i hk
      rw [if_pos hk]
      have hk : k = .cell := by simpa using hk
      rw [← Heap.size_push h { cls := .type "cell", data := .cell none }] at hm
      rcases cells_mem hm with hm | ⟨h1, h2, h3⟩
      · rcases List.mem_cons.mp hm with e | hm
        · cases e
          exact .inr ⟨hk ▸ List.mem_cons_self, Nat.le_refl _, _, pushCells_keeps r _ _ _ (Heap.get?_push_size _ rfl), rfl⟩
        · exact .inl hm
      · rw [Heap.size_push] at h2
        exact .inr ⟨List.mem_cons_of_mem _ h1, Nat.le_of_succ_le h2, h3⟩
    · rename_i hk
      rw [if_neg hk]
      rcases cells_mem hm with hm | ⟨h1, h2, h3⟩
      · exact .inl hm
      · exact .inr ⟨List.mem_cons_of_mem _ h1, h2, h3⟩
theorem cells_acc : ∀ {names : List (Str × NameKind)} {n : Nat} {acc : List (Str × Addr)} {p : Str × Addr}, p ∈ acc → p ∈ cellsFrom n names acc
  | [], _, _, _, h => h
  | (m, k) :: r, n, acc, p, h => by
    unfold cellsFrom
    split
    · exact cells_acc (List.mem_cons_of_mem _ h)
    · exact cells_acc h
theorem cells_has : ∀ {names : List (Str × NameKind)} {n : Nat} {acc : List (Str × Addr)} {x : Str}, (x, .cell) ∈ names → ∃ c, (x, c) ∈ cellsFrom n names acc
  | (m, k) :: r, n, acc, x, h => by
    unfold cellsFrom
    rcases List.mem_cons.mp h with e | h
    · cases e
      exact ⟨n, cells_acc List.mem_cons_self⟩
    · split
      · exact cells_has h
      · exact cells_has h
theorem cells_inj : ∀ {names : List (Str × NameKind)} {h : Heap} {acc : List (Str × Addr)} {x y : Str} {c : Addr}, (∀ p ∈ acc, p.2 < h.objs.size) → (∀ x y c, (x, c) ∈ acc → (y, c) ∈ acc → x = y) →
    (x, c) ∈ cellsFrom h.objs.size names acc → (y, c) ∈ cellsFrom h.objs.size names acc → x = y
  | [], _, _, _, _, _, _, hi, h1, h2 => hi _ _ _ h1 h2
  | (n, k) :: r, h, acc, x, y, c, hl, hi, h1, h2 => by
    unfold cellsFrom at h1 h2
    split at h1
    · rename_i hk
      rw [if_pos hk] at h2
      rw [← Heap.size_push h { cls := .type "cell", data := .cell none }] at h1 h2
      refine cells_inj (h := h.push _) (fun p hp => ?_) (fun x y c a b => ?_) h1 h2
      · rw [Heap.size_push]
        rcases List.mem_cons.mp hp with rfl | hp
        · exact Nat.lt_succ_self _
        · exact Nat.lt_succ_of_lt (hl p hp)
      · rcases List.mem_cons.mp a with e | a <;> rcases List.mem_cons.mp b with e' | b
        · cases e; cases e'; rfl
        · cases e; exact absurd (hl _ b) (Nat.lt_irrefl _)
        · cases e'; exact absurd (hl _ a) (Nat.lt_irrefl _)
        · exact hi _ _ _ a b
    · rename_i hk
      rw [if_neg hk] at h2
      exact cells_inj hl hi h1 h2

theorem newEnv_comp {M : Model} {A : Around} {E : Value → Shared → Prop} {s : Shared} {scope : Scope} {globals : Addr} {closure : List (Str × Addr)} {qual : Str} {func : Option Addr} {code : Value} {around : Env} {builtins : Addr} {Q : Env → Shared → Prop}
    (h : Q (newEnv scope s.heap.objs.size globals (cellsFrom (s.heap.objs.size + 1) scope.names closure) qual func code (some around) builtins)
      { s with heap := pushCells (s.heap.push { cls := .type "dict", data := .dict #[] }) scope.names }) :
    wpAny M A (newFunctionEnv scope globals closure [] qual func code (some around) builtins) Q E s := by
  simp only [newFunctionEnv, Option.isSome_some, if_true]
  refine wpAny_bind (wpAny_alloc ?_)
  refine wpAny_bind (wpAny_layCells _ (fun n k c => rfl) scope.names closure _ _ ?_)
  rw [show ({ s with heap := s.heap.push { cls := .type "dict", data := .dict #[] } } : Shared).heap.objs.size = s.heap.objs.size + 1 from Heap.size_push ..]
  rw [List.forIn_nil]
  exact wpAny_bind (wpAny_pure (wpAny_pure h))

/-- every name of the written scope, in the scope that runs -/
theorem lookup_relS {sc : Scope} : ∀ {names : List (Str × NameKind)} {x : Str} {k : NameKind},
    (names.map fun (n, k) => if (k == NameKind.free && sc.kind == .function && sc.names.lookup n == some .cell) then (n, NameKind.cell) else (n, k)).lookup x = some k →
    ∃ k', names.lookup x = some k' ∧ (k = k' ∨ (k' = .free ∧ k = .cell))
  | [], _, _, h => by simp at h
  | (n, k₀) :: r, x, k, h => by
    have ih := @lookup_relS sc r x k
    have h' : List.lookup x ((if (k₀ == NameKind.free && sc.kind == .function && sc.names.lookup n == some .cell) = true then (n, NameKind.cell) else (n, k₀)) :: (r.map _)) = some k := h
    cases hx : x == n with
    | true =>
      simp only [List.lookup_cons, hx]
      by_cases hc : (k₀ == NameKind.free && sc.kind == .function && sc.names.lookup n == some .cell) = true
      · rw [if_pos hc] at h'
        simp only [List.lookup_cons, hx] at h'
        cases h'
        simp only [Bool.and_eq_true, beq_iff_eq] at hc
        exact ⟨k₀, rfl, .inr ⟨hc.1.1, rfl⟩⟩
      · rw [if_neg hc] at h'
        simp only [List.lookup_cons, hx] at h'
        cases h'
        exact ⟨_, rfl, .inl rfl⟩
    | false =>
      simp only [List.lookup_cons, hx]
      by_cases hc : (k₀ == NameKind.free && sc.kind == .function && sc.names.lookup n == some .cell) = true
      · rw [if_pos hc] at h'
        simp only [List.lookup_cons, hx] at h'
        exact ih h'
      · rw [if_neg hc] at h'
        simp only [List.lookup_cons, hx] at h'
        exact ih h'
/-- the names of a comprehension's block: its own (with their places in N), or captured -/
structure BlkOk (N : List Str) (sc scope : Scope) (own : List (Str × Nat)) : Prop where
  kind : scope.kind = .function
  uniq : ∀ y ∈ scope.names, scope.names.lookup y.1 = some y.2
  ix : ∀ p ∈ own, N[p.2]? = some p.1
  free : ∀ y ∈ scope.names, y.2 = .free → sc.names.lookup y.1 = some .cell ∨ sc.names.lookup y.1 = some .free
  own : ∀ y ∈ scope.names, y.2 = .local ∨ y.2 = .cell → y.1 ∈ own.map (·.1) ∨ y.1 ∉ N
/-- the slots of the block's own names forgotten -/
def wipe (σ : St) : List Nat → St
  | [] => σ
  | v :: vs => (wipe σ vs).set v none
theorem wipe_length (σ : St) : ∀ vs : List Nat, (wipe σ vs).length = σ.length
  | [] => rfl
  | v :: vs => by unfold wipe; rw [List.length_set, wipe_length σ vs]
theorem wipe_some {σ : St} {i : Nat} {x : V} : ∀ {vs : List Nat}, (wipe σ vs)[i]? = some (some x) → σ[i]? = some (some x) ∧ i ∉ vs
  | [], h => ⟨h, by simp⟩
  | v :: vs, h => by
    unfold wipe at h
    by_cases hi : v = i
    · subst hi
      by_cases hv : v < (wipe σ vs).length
      · rw [List.getElem?_set_self hv] at h; cases h
      · rw [List.getElem?_eq_none (by simpa using hv)] at h; cases h
    · rw [List.getElem?_set_ne hi] at h
      obtain ⟨h1, h2⟩ := wipe_some h
      exact ⟨h1, by simp only [List.mem_cons, not_or]; exact ⟨fun e => hi e.symm, h2⟩⟩

/-- the context of a block that starts at s, its iterator's objects at fp -/
abbrev Cx.blk (X : Cx) (s : Shared) (H : Hp) (scope : Scope) (cenv : Env) (fp : List Addr) : Cx := { X with s_0 := s, H_0 := H, env := cenv, outer := X.stack, ex := fp, fn := fun x => scope.names.lookup x == some .cell, pn := [], xe := fun _ _ => False }
section
variable {X : Cx} {pins : List (Addr × Obj)} {σ : St} {H : Hp} {s : Shared}
theorem block_start {scope : Scope} {own : List (Str × Nat)} {fp : List Addr} (I : Inv X pins σ H s) (ok : BlkOk X.N X.env.scope scope own) (hN : X.N.Nodup) (hfp : ∀ b ∈ fp, FpOk X pins H b ∧ b < s.heap.objs.size) :
    Inv (X.blk s H scope (compEnvC scope (cellsFrom (s.heap.objs.size + 1) scope.names (cloFrom X.env.cells scope.names [])) s.heap.objs.size X.env) fp) [] (wipe σ (own.map (·.2))) H { s with heap := pushCells (s.heap.push { cls := .type "dict", data := .dict #[] }) scope.names } := by
  have hfree : ∀ y ∈ scope.names, y.2 = .free → ∃ c, X.env.cells.lookup y.1 = some c := fun y hy e => by
    rcases ok.free y hy e with k | k
    · exact I.ok.has _ (.inl k)
    · exact I.ok.has _ (.inr k)
  generalize hcenv : compEnvC scope (cellsFrom (s.heap.objs.size + 1) scope.names (cloFrom X.env.cells scope.names [])) s.heap.objs.size X.env = cenv
  have kp : ∀ b o, s.heap.get? b = some o → (pushCells (s.heap.push { cls := .type "dict", data := .dict #[] }) scope.names).get? b = some o := fun b o e => pushCells_keeps _ _ _ _ (Heap.get?_push_of_some _ e)
  have hL : cenv.locals = s.heap.objs.size := by rw [← hcenv]; rfl
  have hcl : cenv.cells = cellsFrom (s.heap.objs.size + 1) scope.names (cloFrom X.env.cells scope.names []) := by rw [← hcenv]; rfl
  have hsc : cenv.scope = relS scope X.env.scope := by rw [← hcenv]; rfl
  rw [← Heap.size_push s.heap { cls := .type "dict", data := .dict #[] }] at hcl
  have cm : ∀ {y c}, (y, c) ∈ cloFrom X.env.cells scope.names [] → X.env.cells.lookup y = some c ∧ c < s.heap.objs.size := fun {y c} hm => by
    rcases cloFrom_mem hm with hm | ⟨h1, rfl⟩
    · cases hm
    · obtain ⟨c, hc⟩ := hfree _ h1 rfl
      rw [hc]
      obtain ⟨w, z⟩ := I.cell _ _ hc
      exact ⟨rfl, z.lt⟩
  have mem : ∀ {y c}, cenv.cells.lookup y = some c → (X.env.cells.lookup y = some c ∧ c < s.heap.objs.size) ∨ (s.heap.objs.size + 1 ≤ c ∧ CellAt (pushCells (s.heap.push { cls := .type "dict", data := .dict #[] }) scope.names) c none) := fun {y c} e => by
    rw [hcl] at e
    rcases cells_mem (PySem.mem_of_lookup e) with hm | ⟨_, h2, h3⟩
    · exact .inl (cm hm)
    · rw [Heap.size_push] at h2; exact .inr ⟨h2, h3⟩
  have look : ∀ {y}, scope.names.lookup y = some .free → ∃ c, cenv.cells.lookup y = some c ∧ X.env.cells.lookup y = some c := fun {y} hl => by
    have hy : (y, NameKind.free) ∈ scope.names := PySem.mem_of_lookup hl
    obtain ⟨c', e'⟩ := mem_lookup (cells_acc (names := scope.names) (n := (s.heap.push { cls := .type "dict", data := .dict #[] }).objs.size) (cloFrom_has (cells := X.env.cells) (acc := []) hy))
    rw [← hcl] at e'
    refine ⟨c', e', ?_⟩
    rw [hcl] at e'
    rcases cells_mem (PySem.mem_of_lookup e') with hm | ⟨h1, _, _⟩
    · exact (cm hm).1
    · have := ok.uniq _ h1
      rw [hl] at this; cases this
  have okB : (X.blk s H scope cenv fp).Ok := by
    refine ⟨I.ok.mod, by show cenv.scope.kind = _; rw [hsc]; exact ok.kind, by show cenv.globals = _; rw [← hcenv]; exact I.ok.glob, by show cenv.builtins = _; rw [← hcenv]; exact I.ok.blt, by show s.heap.objs.size ≤ cenv.locals; rw [hL]; exact Nat.le_refl _,
      fun y z c e1 e2 => ?_, fun y hy => ?_, fun y c z e => ?_, I.ok.hd, I.ok.frames, .inl rfl, fun b hb => ⟨?_, fun y c e z => ?_⟩, I.bs, Nat.le_trans I.ok.bsz I.sz, fun b o e hb => ?_, fun b hb z => ?_, I.stack, I.stkFree⟩
    · have e1 : cenv.cells.lookup y = some c := e1
      have e2 : cenv.cells.lookup z = some c := e2
      rw [hcl] at e1 e2
      refine cells_inj (fun p hp => ?_) (fun y z c a b => I.ok.inj y z c (cm a).1 (cm b).1) (PySem.mem_of_lookup e1) (PySem.mem_of_lookup e2)
      rw [Heap.size_push]
      exact Nat.lt_succ_of_lt (cm (y := p.1) (c := p.2) hp).2
    · show ∃ c, cenv.cells.lookup y = some c
      have key : ∀ k, cenv.kindOf y = some k → (k = .cell ∨ k = .free) → ∃ c, cenv.cells.lookup y = some c := fun k hk hk' => by
        unfold Env.kindOf at hk
        rw [hsc] at hk
        obtain ⟨k', e, r⟩ := lookup_relS hk
        have : k' = .cell ∨ k' = .free := by
          rcases r with rfl | ⟨rfl, _⟩
          · exact hk'
          · exact .inr rfl
        rcases this with rfl | rfl
        · obtain ⟨c, hm⟩ := cells_has (n := (s.heap.push { cls := .type "dict", data := .dict #[] }).objs.size) (acc := cloFrom X.env.cells scope.names []) (PySem.mem_of_lookup e)
          obtain ⟨c', e'⟩ := mem_lookup hm
          exact ⟨c', by rw [hcl]; exact e'⟩
        · obtain ⟨c, h1, _⟩ := look e
          exact ⟨c, h1⟩
      rcases hy with hy | hy
      · exact key _ hy (.inl rfl)
      · exact key _ hy (.inr rfl)
    · have z : (scope.names.lookup y == some NameKind.cell) = true := z
      have z : scope.names.lookup y = some .cell := by simpa using z
      have e : cenv.cells.lookup y = some c := e
      rw [hcl] at e
      rcases cells_mem (PySem.mem_of_lookup e) with hm | ⟨_, h2, _⟩
      · rcases cloFrom_mem hm with hm | ⟨h1, _⟩
        · cases hm
        · have q := ok.uniq _ h1
          rw [z] at q; cases q
      · rw [Heap.size_push] at h2
        exact Nat.le_of_succ_le h2
    · show b ≠ cenv.locals
      rw [hL]; exact Nat.ne_of_lt (hfp b hb).2
    · have e : cenv.cells.lookup y = some c := e
      rcases mem e with ⟨h1, _⟩ | ⟨h1, _⟩
      · exact (hfp b hb).1.2.2.2.2.1 y c h1 z
      · have h2 : s.heap.objs.size + 1 ≤ b := by rw [← z]; exact h1
        exact absurd (Nat.lt_of_lt_of_le (hfp b hb).2 (Nat.le_of_succ_le h2)) (Nat.lt_irrefl _)
    · rcases (hfp b hb).1.2.2.2.1 with z | z
      · exact I.ok.noex b o e z
      · exact absurd (Nat.lt_of_lt_of_le (Heap.lt_size e) (Nat.le_trans I.ok.bsz z)) (Nat.lt_irrefl _)
    · rcases List.mem_cons.mp (I.stkSub b z) with z | z
      · exact (hfp b hb).1.2.1 z
      · exact (hfp b hb).1.2.2.1 z
  refine ⟨okB, rfl, I.bare, Un.kept kp, ⟨fun _ => none, ?_, fun i y av e1 e2 e3 => ?_⟩, fun y c e => ?_, ?_, fun y c e => ?_, fun p hp => ?_, I.hok.kept kp, by rw [wipe_length]; exact I.len⟩
  · show Heap.Ns _ cenv.locals _
    rw [hL]
    exact Heap.Ns.keeps (Heap.Ns.new ..) fun b o e => pushCells_keeps _ _ _ _ e
  · obtain ⟨e2, hne⟩ := wipe_some e2
    have hfr : scope.names.lookup y = some .free ∧ (cenv.kindOf y = some .cell ∨ cenv.kindOf y = some .free) := by
      have key : ∀ k, cenv.scope.names.lookup y = some k → k = .local ∨ k = .cell ∨ k = .free → scope.names.lookup y = some .free ∧ (cenv.kindOf y = some .cell ∨ cenv.kindOf y = some .free) := fun k hk hk' => by
        have hk0 := hk
        rw [hsc] at hk
        obtain ⟨k', e, r⟩ := lookup_relS hk
        have no : ¬ (k' = .local ∨ k' = .cell) := fun hh => by
          rcases ok.own _ (PySem.mem_of_lookup e) hh with e' | e'
          · obtain ⟨p, hp, hpy⟩ := List.mem_map.mp e'
            have e3 := ok.ix p hp
            have : p.1 = y := hpy
            rw [this] at e3
            exact hne (List.mem_map.mpr ⟨p, hp, nodup_ix hN e3 e1⟩)
          · exact e' (List.mem_of_getElem? e1)
        rcases r with rfl | ⟨rfl, rfl⟩
        · rcases hk' with rfl | rfl | rfl
          · exact absurd (.inl rfl) no
          · exact absurd (.inr rfl) no
          · exact ⟨e, .inr hk0⟩
        · exact ⟨e, .inl hk0⟩
      have e3 : Vis cenv.scope y := e3
      rcases e3 with e3 | e3 | e3
      · exact key _ e3 (.inl rfl)
      · exact key _ e3 (.inr (.inl rfl))
      · exact key _ e3 (.inr (.inr rfl))
    obtain ⟨m, hn, hl⟩ := I.loc
    have hvis : Vis X.env.scope y := (ok.free _ (PySem.mem_of_lookup hfr.1) rfl).elim (fun k => .inr (.inl k)) (fun k => .inr (.inr k))
    obtain ⟨w, r, q⟩ := hl i y av e1 e2 hvis
    refine ⟨w, r, .inr ⟨hfr.2, ?_⟩⟩
    obtain ⟨c, h1, h2⟩ := look hfr.1
    rcases q with ⟨k, _⟩ | ⟨_, c', e', z⟩
    · have k : X.env.scope.names.lookup y = some .local := k
      rcases ok.free _ (PySem.mem_of_lookup hfr.1) rfl with k' | k' <;> rw [show X.env.scope.names.lookup y = _ from k'] at k <;> cases k
    · rw [h2] at e'; cases e'
      exact ⟨c, h1, z.keeps kp⟩
  · have e : cenv.cells.lookup y = some c := e
    rcases mem e with ⟨h1, _⟩ | ⟨_, z⟩
    · obtain ⟨w, z⟩ := I.cell y c h1
      exact ⟨w, z.keeps kp⟩
    · exact ⟨_, z⟩
  · show H cenv.locals = none
    rw [hL]; exact I.hok.fresh (Nat.le_refl _)
  · have e : cenv.cells.lookup y = some c := e
    rcases mem e with ⟨h1, _⟩ | ⟨h1, _⟩
    · exact I.freeC y c h1
    · exact I.hok.fresh (Nat.le_of_succ_le h1)
  · exact absurd (show p ∈ ([] : List (Addr × Obj)) ++ [] from hp) (by simp)

/-- an item appended to a tracked list -/
theorem app_ok {E : Value → Shared → Prop} {D : Addr} {xs : List V} {y : V} {v : Value} {Q : Value → Shared → Prop} (I : Inv X pins σ H s) (hD : H D = some (.lst xs)) (hz : xs.length < sizeLine) (r : RelV y v)
    (h : ∀ s', Inv X pins σ (upd H D (.lst (xs ++ [y]))) s' → Q .none s') : wpAny (model X.prog X.w) X.A (call (.builtin "list.append") [.ref D, v]) Q E s := by
  obtain ⟨hz', its, n, ri, e⟩ := I.hok D _ hD
  have hl := ri.length
  refine append_at (hsz := by rw [List.size_toArray]; omega) e fun h' sb ho' => ?_
  refine h { s with heap := h' } (I.write (t' := s.toks) (by rw [hD]; trivial) (.inl rfl) (fun b u hb q => (sb.2 b hb).trans q) ⟨_, ho'⟩ ⟨by rw [List.length_append]; exact hz, its ++ [v], n + 1, ri.append (.cons r .nil), ?_⟩)
  rw [ho']
  simp

/-- a clause's tests -/
def PTs (X : Cx) (ifs : List Expr) (t : TT) : Prop :=
  ∀ (pins : List (Addr × Obj)) (s : Shared) (σ : St) (H : Hp) (Q : Bool → Hp → Prop), Inv X pins σ H s → t σ H Q →
    wpAny (model X.prog X.w) X.A (forIn ifs true fun c r => if r = true then do let ok ← isTrue c X.env (eval c X.env); pure (ForInStep.yield ok) else pure (ForInStep.yield r)) (TP X pins σ Q) X.xe s
def tYes : TT := fun _ H Q => Q true H
theorem pts_nil : PTs X [] tYes := fun _ _ _ H _ I h => wpAny_tests_nil ⟨H, I, h⟩
theorem pts_one {c : Expr} {t : TT} (h : PT X c t) : PTs X [c] t := fun pins s σ H Q I hw => wpAny_tests_one (h pins s σ H Q I hw)
end
theorem thnF {α : Type} {t : Sem α} {Q Q' : α → Shared → Prop} {M : Model} {A : Around} {E : Value → Shared → Prop} {s : Shared} (h : wpAny M A t Q (fun _ _ => False) s) (hQ : ∀ a s, Q a s → Q' a s) : wpAny M A t Q' E s := wpAny_mono h hQ fun _ _ z => False.elim z

/-- the loop of a list comprehension's block, the target of any form (codeAny_compLoop_tests asks a target that no tuple goes to; statement and proof follow it, PyProof/CompMap.lean:41-61, with the step letOwnedTupleGo kept) -/
theorem compLoop_any {prog : Program} {w : World} {A : Around} {R : Result → Shared → Prop} {s : Shared} {elt target iter : Expr} {ifs : List Expr} {scope : Scope} {pos : Pos} {it acc : Value} {env : Env} (I : Nat → Shared → Prop)
    (turn : ∀ n s, I n s → wpAny (model prog w) A (pyNext it) (fun r s₁ => match r with
      | none => R (.ok .next) s₁
      | some v => wpAny (model prog w) A (letOwnedTupleGo target it v) (fun _ s₁' => wpAny (model prog w) A (assign target env v) (fun _ s₂ =>
          wpAny (model prog w) A (forIn ifs true fun c r => if r = true then do let ok ← isTrue c env (eval c env); pure (ForInStep.yield ok) else pure (ForInStep.yield r)) (fun ok s₃ =>
            if ok = true then wpAny (model prog w) A (eval elt env) (fun x s₄ =>
              wpAny (model prog w) A (call (.builtin "list.append") [acc, x]) (fun _ s₅ => ∃ m, m < n ∧ I m s₅) (notedBy (model prog w) A env fun e s' => R (.error e) s') s₄) (notedBy (model prog w) A env fun e s' => R (.error e) s') s₃
            else ∃ m, m < n ∧ I m s₃) (notedBy (model prog w) A env fun e s' => R (.error e) s') s₂) (notedBy (model prog w) A env fun e s' => R (.error e) s') s₁') (notedBy (model prog w) A env fun e s' => R (.error e) s') s₁) (notedBy (model prog w) A env fun e s' => R (.error e) s') s)
    (n : Nat) (h : I n s) :
    codeAny (model prog w) A (.compLoop (.ListComp elt [⟨target, iter, ifs, 0⟩] scope pos) 0 it acc env) R s := by
  refine codeAny_loop rfl I (fun n s hI => ?_) n h
  show wpAny _ A ((compTurn (.ListComp elt [⟨target, iter, ifs, 0⟩] scope pos) 0 it acc env).onRaise (fun x => do noteFrame x env; theTreesLotGoes x)) _ _ s
  refine wpAny_noted ?_
  rw [compTurn_list]
  refine wpAny_bind (wpAny_standAt (wpAny_bind (wpAny_mono (turn n s hI) (fun r s₁ h₁ => ?_) fun _ _ h' => h')))
  cases r with
  | none => exact wpAny_pure h₁
  | some v =>
    refine wpAny_bind (wpAny_mono h₁ (fun _ s₁' h₁' => ?_) fun _ _ h' => h')
    refine wpAny_bind (wpAny_mono h₁' (fun _ s₂ h₂ => wpAny_bind (wpAny_mono h₂ (fun ok s₃ h₃ => ?_) fun _ _ h' => h')) fun _ _ h' => h')
    cases ok with
    | false => exact wpAny_pure ⟨rfl, h₃⟩
    | true =>
      exact wpAny_bind (wpAny_bind (wpAny_mono h₃ (fun x s₄ h₄ => wpAny_bind (wpAny_mono h₄ (fun _ s₅ h₅ => wpAny_pure (wpAny_pure ⟨rfl, h₅⟩)) fun _ _ h' => h')) fun _ _ h' => h'))

section
variable {X : Cx}
/-- [elt for target in iter if ..]: D the new list; W by the turn and a measure, Nx what a turn is to reach -/
def tLc (wi : TI) (g : TG) (tt : TT) (te : TE) (vs : List Nat) : TE := fun σ H Q => wi σ H fun J H1 => ∀ D, H1 D = none → ∃ W : Nat → Nat → Hp → Prop, (∃ m, W 0 m (upd H1 D (.lst []))) ∧ ∀ i m H, W i m H →
  (J.stop i H ∧ Q (.ref D) H) ∨ (J.go i H ∧ ∃ Nx : Hp → Prop, (∀ H', Nx H' → ∃ m', m' < m ∧ W (i + 1) m' H') ∧ ∀ x H', J.yld i H x H' → g x (wipe σ vs) H' fun σ2 H2 => wipe σ2 vs = wipe σ vs ∧ tt σ2 H2 fun b H3 =>
    if b = true then te σ2 H3 fun y H4 => ∃ acc, H4 D = some (.lst acc) ∧ acc.length < sizeLine ∧ Nx (upd H4 D (.lst (acc ++ [y]))) else Nx H3)
theorem lc_core {pins : List (Addr × Obj)} {s : Shared} {σ : St} {H : Hp} {Q : VK} {elt tg iter : Expr} {ifs : List Expr} {scope : Scope} {own : List (Str × Nat)} {pos pos' : Pos} {wi : TI} {g : TG} {tt : TT} {te : TE} {use : Option (Value → Sem Unit)} {Qf : Value → Shared → Prop}
    (hc : X.calm = true) (hN : X.N.Nodup) (I : Inv X pins σ H s) (hi : PI X tg iter wi) (ok : BlkOk X.N X.env.scope scope own)
    (hg : ∀ (s : Shared) (H : Hp) (C : Addr) (cl : List (Str × Addr)) (fp : List Addr), PG (X.blk s H scope (compEnvC scope cl C X.env) fp) tg g) (ht : ∀ (s : Shared) (H : Hp) (C : Addr) (cl : List (Str × Addr)) (fp : List Addr), PTs (X.blk s H scope (compEnvC scope cl C X.env) fp) ifs tt)
    (he : ∀ (s : Shared) (H : Hp) (C : Addr) (cl : List (Str × Addr)) (fp : List Addr), PE (X.blk s H scope (compEnvC scope cl C X.env) fp) elt te) (hs : ∀ x, foldedSetIterable iter X.env x = pure x)
    (h : tLc wi g tt te (own.map (·.2)) σ H Q)
    (hRR : ∀ D C s' m H', Inv X pins σ H' s' → Q (.ref D) H' → s'.heap.Ns C m → FpOk X pins H' C → compPost (model X.prog X.w) X.A X.xe use Qf (.ref D) C (.ok .next) s') :
    wpAny (model X.prog X.w) X.A (comprehension (.ListComp elt [⟨tg, iter, ifs, 0⟩] scope pos) scope X.env pos' (newList []) false (eval iter X.env) use) Qf X.xe s := by
  have hfree : ∀ y ∈ scope.names, y.2 = .free → ∃ c, X.env.cells.lookup y.1 = some c := fun y hy e => by
    rcases ok.free y hy e with k | k
    · exact I.ok.has _ (.inl k)
    · exact I.ok.has _ (.inr k)
  refine wpAny_comprehension_free (use := use) rfl hs (closure_ok hfree) ok.kind (fun y hy e => by rw [ok.uniq y hy, e])
    (thn (hi pins s σ H _ I h) fun xv s1 hx => thn hx fun itv s2 h2 => ?_)
  obtain ⟨it, fp, tn, J, H2, e, I2, T, st2, f2, q⟩ := h2
  subst e
  refine wpAny_newObj_type (newEnv_comp ?_) (by show 0 ≤ sizeLine; decide)
  generalize hD : s2.heap.objs.size = D
  have hDn : H2 D = none := I2.hok.fresh (Nat.le_of_eq hD)
  obtain ⟨W, ⟨m0, w0⟩, turn⟩ := q D hDn
  -- the new list
  generalize hs3 : ({ s2 with heap := s2.heap.push { cls := .type "list", data := .seq ([] : List Value).toArray } } : Shared) = s3
  have I3 : Inv X pins σ (upd H2 D (.lst [])) s3 := by
    rw [← hs3]
    refine I2.laid (t' := s2.toks) (fun b o e => Heap.get?_push_of_some _ e) (Nat.le_of_eq hD) ⟨Nat.zero_le _, [], 0, .nil, ?_⟩
    rw [← hD]
    exact Heap.get?_push_size _ rfl
  have h3 : s3.heap = s2.heap.push { cls := .type "list", data := .seq ([] : List Value).toArray } := by rw [← hs3]
  have sz : ∀ b ∈ fp, b < s2.heap.objs.size := fun b hb => by
    obtain ⟨o, e, _⟩ := T.obj _ _ st2 b hb
    exact Heap.lt_size e
  have f3 : ∀ b ∈ fp, FpOk X pins (upd H2 D (.lst [])) b ∧ b < s3.heap.objs.size := fun b hb => by
    have hlt := sz b hb
    refine ⟨⟨?_, (f2 b hb).2⟩, by rw [h3, Heap.size_push]; exact Nat.lt_succ_of_lt hlt⟩
    rw [upd_ne (by rw [← hD]; exact Nat.ne_of_lt hlt)]
    exact (f2 b hb).1
  have st3 : tn 0 s3.heap := T.keep _ _ _ st2 fun b _ o e => by rw [h3]; exact Heap.get?_push_of_some _ e
  have I4 := block_start I3 ok hN f3
  have pg := hg s3 (upd H2 D (.lst [])) s3.heap.objs.size (cellsFrom (s3.heap.objs.size + 1) scope.names (cloFrom X.env.cells scope.names [])) fp
  have pt := ht s3 (upd H2 D (.lst [])) s3.heap.objs.size (cellsFrom (s3.heap.objs.size + 1) scope.names (cloFrom X.env.cells scope.names [])) fp
  have pe := he s3 (upd H2 D (.lst [])) s3.heap.objs.size (cellsFrom (s3.heap.objs.size + 1) scope.names (cloFrom X.env.cells scope.names [])) fp
  show codeAny _ _ (.compStart (.ListComp elt [⟨tg, iter, ifs, 0⟩] scope pos) 0 (.ref it) (.ref D) (compEnvC scope (cellsFrom (s3.heap.objs.size + 1) scope.names (cloFrom X.env.cells scope.names [])) s3.heap.objs.size X.env)) (compPost (model X.prog X.w) X.A X.xe use Qf (.ref D) s3.heap.objs.size) { s3 with heap := pushCells (s3.heap.push { cls := .type "dict", data := .dict #[] }) scope.names }
  have nfp : ∀ b ∈ fp, (upd H2 D (.lst [])) b = none := fun b hb => (f3 b hb).1.1
  generalize hce : compEnvC scope (cellsFrom (s3.heap.objs.size + 1) scope.names (cloFrom X.env.cells scope.names [])) s3.heap.objs.size X.env = ce at I4 pg pt pe ⊢
  have cL : ce.locals = s3.heap.objs.size := by subst hce; rfl
  generalize hH3 : upd H2 D (.lst []) = H3 at I3 I4 pg pt pe w0 nfp f3
  generalize hs4 : ({ s3 with heap := pushCells (s3.heap.push { cls := .type "dict", data := .dict #[] }) scope.names } : Shared) = s4 at I4 ⊢
  have st4 : tn 0 s4.heap := T.keep _ _ _ st3 fun b _ o e => by rw [← hs4]; exact pushCells_keeps _ _ _ _ (Heap.get?_push_of_some _ e)
  have stat : ∀ {σ' : St} {H' : Hp} {s' : Shared}, Inv (X.blk s3 H3 scope ce fp) [] σ' H' s' → (∀ b ∈ fp, H' b = none) → ∀ b ∈ fp, FpOk (X.blk s3 H3 scope ce fp) [] H' b := fun {σ' H' s'} I' hn b hb =>
    ⟨hn b hb, (I'.ok.exf b hb).1, I'.ok.exfs b hb, .inl hb, fun x c e => (I'.ok.exf b hb).2 x c e, fun p hp => absurd (show p ∈ ([] : List (Addr × Obj)) ++ [] from hp) (by simp)⟩
  have loop : codeAny (model X.prog X.w) X.A (.compLoop (.ListComp elt [⟨tg, iter, ifs, 0⟩] scope pos) 0 (.ref it) (.ref D) ce) (compPost (model X.prog X.w) X.A X.xe use Qf (.ref D) s3.heap.objs.size) s4 := by
    refine compLoop_any (fun n s' => ∃ i H', Inv (X.blk s3 H3 scope ce fp) [] (wipe σ (own.map (·.2))) H' s' ∧ tn i s'.heap ∧ (∀ b ∈ fp, H' b = none) ∧ W i n H') ?_ m0 ⟨0, H3, I4, st4, nfp, w0⟩
    rintro n s5 ⟨i, H5, I5, st5, n5, w5⟩
    rcases turn i n H5 w5 with ⟨stop, qq⟩ | ⟨go, Nx, hNx, step⟩
    · have td := T.done (X.blk s3 H3 scope ce fp) rfl rfl rfl hc i [] s5 _ H5 (fun _ _ => False) I5 (stat I5 n5) st5 stop
      refine thnF td fun r s6 ⟨hr, I6⟩ => ?_
      subst hr
      -- back in the def's context
      have I7 : Inv X pins σ H5 s6 := I3.call' (ch := fp) I6.os I6.base I6.hok I6.bare fun b hb => ⟨(f3 b hb).1.2.2.2.1, (f3 b hb).1.2.1, (f3 b hb).1.2.2.2.2.1, (f3 b hb).1.2.2.2.2.2⟩
      have nC : H5 s3.heap.objs.size = none := by
        have z : H5 ce.locals = none := I6.free
        rw [cL] at z
        exact z
      obtain ⟨m, hn, _⟩ := I6.loc
      have hn : s6.heap.Ns ce.locals m := hn
      rw [cL] at hn
      exact hRR D s3.heap.objs.size s6 m H5 I7 qq hn (I3.fpOk (Nat.le_refl _) nC)
    · have ti := T.item (X.blk s3 H3 scope ce fp) rfl rfl rfl hc i [] s5 _ H5 (fun _ _ => False) I5 (stat I5 n5) st5 go
      refine thnF ti fun r s6 ⟨u, hr, h6⟩ => ?_
      subst hr
      refine thnF h6 fun _ s7 ⟨x, H7, I7, r7, y7, st7, n7⟩ => ?_
      have I7' := I7.pinned (stat I7 n7) (T.obj _ _ st7)
      refine thnF (pg _ s7 _ H7 x u _ I7' r7 (step x H7 y7)) fun _ s8 ⟨σ8, H8, I8, hw8, q8⟩ => ?_
      refine thnF (pt _ s8 σ8 H8 _ I8 q8) fun b s9 ⟨H9, I9, q9⟩ => ?_
      -- the turn's end
      have fin : ∀ {s' : Shared} {H' : Hp}, Inv (X.blk s3 H3 scope ce fp) ([] ++ pinsAt fp s7.heap) σ8 H' s' → Nx H' → ∃ m, m < n ∧ ∃ i H', Inv (X.blk s3 H3 scope ce fp) [] (wipe σ (own.map (·.2))) H' s' ∧ tn i s'.heap ∧ (∀ b ∈ fp, H' b = none) ∧ W i m H' := fun {s' H'} I' nx => by
        obtain ⟨m', hm, w'⟩ := hNx H' nx
        have pin' : ∀ b ∈ fp, ∀ o, s7.heap.get? b = some o → s'.heap.get? b = some o ∧ H' b = none := fun b hb o e =>
          let z := I'.pin (b, o) (List.mem_append_right _ (List.mem_append_right _ (mem_pinsAt hb e)))
          ⟨z.1, z.2.1⟩
        have hl : (wipe σ (own.map (·.2))).length = σ8.length := by rw [← hw8, wipe_length]
        refine ⟨m', hm, i + 1, H', (I'.unpinned (pins := [])).weak hl (fun j v e => ?_), T.keep _ _ _ st7 fun b hb o e => (pin' b hb o e).1, fun b hb => ?_, w'⟩
        · rw [← hw8] at e
          exact (wipe_some e).1
        · obtain ⟨o, e, _⟩ := T.obj _ _ st7 b hb
          exact (pin' b hb o e).2
      cases b with
      | false =>
        simp only [Bool.false_eq_true, if_false] at q9 ⊢
        exact fin I9 q9
      | true =>
        simp only [if_true] at q9 ⊢
        refine thnF (pe _ s9 σ8 H9 _ I9 q9) fun z s10 ⟨yv, H10, I10, r10, acc, hD10, hz10, nx⟩ => ?_
        exact app_ok (X := X.blk s3 H3 scope ce fp) I10 hD10 hz10 r10 fun s11 I11 => fin I11 nx
  exact codeAny_compStart_list loop (T.self X.A 0 _ _ _ st4 loop)
/-- as a value -/
theorem pe_lc {elt tg iter : Expr} {ifs : List Expr} {scope : Scope} {own : List (Str × Nat)} {pos : Pos} {wi : TI} {g : TG} {tt : TT} {te : TE} (hc : X.calm = true) (hN : X.N.Nodup) (hi : PI X tg iter wi) (ok : BlkOk X.N X.env.scope scope own)
    (hg : ∀ (s : Shared) (H : Hp) (C : Addr) (cl : List (Str × Addr)) (fp : List Addr), PG (X.blk s H scope (compEnvC scope cl C X.env) fp) tg g) (ht : ∀ (s : Shared) (H : Hp) (C : Addr) (cl : List (Str × Addr)) (fp : List Addr), PTs (X.blk s H scope (compEnvC scope cl C X.env) fp) ifs tt)
    (he : ∀ (s : Shared) (H : Hp) (C : Addr) (cl : List (Str × Addr)) (fp : List Addr), PE (X.blk s H scope (compEnvC scope cl C X.env) fp) elt te) (hs : ∀ x, foldedSetIterable iter X.env x = pure x := by intro _; rfl) :
    PE X (.ListComp elt [⟨tg, iter, ifs, 0⟩] scope pos) (tLc wi g tt te (own.map (·.2))) := by
  intro pins s σ H Q I h
  rw [eval_ListComp]
  refine lc_core hc hN I hi ok hg ht he hs h fun D C s' m H' I' q hn f => ⟨m, hn, fun h'' sb => ?_⟩
  obtain ⟨f0, f1, f2, f3, f4, f5⟩ := f
  exact ⟨.ref D, H', I'.turned (t' := s'.toks) (fun b o hb e => (sb.2 b hb).trans e) f0 f1 f3 f4 f5, rfl, q⟩
/-- name = [..] on one line, the name a local -/
theorem ps_setLc {i : Nat} {y : Str} {py : Pos} {elt tg iter : Expr} {ifs : List Expr} {scope : Scope} {own : List (Str × Nat)} {pos spos : Pos} {wi : TI} {g : TG} {tt : TT} {te : TE} (hc : X.calm = true) (hN : X.N.Nodup) (hy : X.N[i]? = some y) (hyl : X.env.scope.names.lookup y = some .local)
    (hsw : swapsWith (.ListComp elt [⟨tg, iter, ifs, 0⟩] scope pos) (some (.Name y py)) spos.line X.env = pure true) (hi : PI X tg iter wi) (ok : BlkOk X.N X.env.scope scope own)
    (hg : ∀ (s : Shared) (H : Hp) (C : Addr) (cl : List (Str × Addr)) (fp : List Addr), PG (X.blk s H scope (compEnvC scope cl C X.env) fp) tg g) (ht : ∀ (s : Shared) (H : Hp) (C : Addr) (cl : List (Str × Addr)) (fp : List Addr), PTs (X.blk s H scope (compEnvC scope cl C X.env) fp) ifs tt)
    (he : ∀ (s : Shared) (H : Hp) (C : Addr) (cl : List (Str × Addr)) (fp : List Addr), PE (X.blk s H scope (compEnvC scope cl C X.env) fp) elt te) (hs : ∀ x, foldedSetIterable iter X.env x = pure x := by intro _; rfl) :
    PS X (.Assign [.Name y py] (.ListComp elt [⟨tg, iter, ifs, 0⟩] scope pos) spos) (tAsg (tLc wi g tt te (own.map (·.2))) (gName i)) := by
  intro pins s σ H D I h
  rw [exec_Assign_Name_used _ _ _ _ hsw]
  refine wpAny_bind (wpAny_standAt (wpAny_bind ?_))
  show wpAny _ X.A (do let _ ← comprehension (.ListComp elt [⟨tg, iter, ifs, 0⟩] scope pos) scope X.env (firstIterPos [⟨tg, iter, ifs, 0⟩] pos) (newList []) false (eval iter X.env) (some (assign (.Name y py) X.env))) _ _ s
  have h : tLc wi g tt te (own.map (·.2)) σ H (fun x H1 => gName i x σ H1 D.nx) := h
  refine wpAny_bind (thn (lc_core (Qf := fun _ s' => SP X pins D .next s') hc hN I hi ok hg ht he hs h fun L C s' m H' I' q hn f => ?_) fun _ s' hq => wpAny_pure (wpAny_pure hq))
  show wpAny _ _ (assign (.Name y py) X.env (.ref L)) _ _ _
  refine wpAny_assign_Name (store_ok2 (v := V.ref L) I' hN hy (.inl hyl) rfl (fun s2 I2 ⟨a, sb, ha⟩ => ?_) (.inr hyl))
  obtain ⟨f0, f1, f2, f3, f4, f5⟩ := f
  have haC : C ≠ a := by
    rcases ha with z | z
    · rw [z]; exact f1
    · exact fun e => f4 y a z e.symm
  refine ⟨m, hn.sameBut sb haC, fun h3 sb3 => ?_⟩
  exact ⟨_, H', I2.turned (t' := s2.toks) (fun b o hb e => (sb3.2 b hb).trans e) f0 f1 f3 f4 f5, q⟩
theorem sw_true {elt : Expr} {gs : List Comprehension} {scope : Scope} {pos py : Pos} {y : Str} {l : Nat} {env : Env} (hk : env.scope.kind = .function) (hy : env.scope.names.lookup y = some .local) (hl : (py.line == pos.line) = true)
    (ha : (scope.names.any fun (n, k) => n == y && (k == .local || k == .cell)) = false) : swapsWith (.ListComp elt gs scope pos) (some (.Name y py)) l env = pure true := by
  have ky : env.kindOf y = some .local := hy
  have hb : env.blockKind = .function := by unfold Env.blockKind; rw [hk]; rfl
  unfold swapsWith
  simp only [hb, ky, ha, Expr.pos, hl]
  rfl
end
/-- over a range: Pv by the turn and the heap (the new list at D within) -/
theorem lc_range {lo : Int} {n : Nat} {g : TG} {tt : TT} {te : TE} {vs : List Nat} {σ : St} {H1 : Hp} {D : Addr} {Qd : Hp → Prop} (Pv : Nat → Hp → Prop) (h0 : Pv 0 (upd H1 D (.lst [])))
    (hs : ∀ i H, i < n → Pv i H → g (.int (lo + i)) (wipe σ vs) H fun σ2 H2 => wipe σ2 vs = wipe σ vs ∧ tt σ2 H2 fun b H3 =>
      if b = true then te σ2 H3 fun y H4 => ∃ acc, H4 D = some (.lst acc) ∧ acc.length < sizeLine ∧ Pv (i + 1) (upd H4 D (.lst (acc ++ [y]))) else Pv (i + 1) H3) (hd : ∀ H, Pv n H → Qd H) :
    ∃ W : Nat → Nat → Hp → Prop, (∃ m, W 0 m (upd H1 D (.lst []))) ∧ ∀ i m H, W i m H →
      ((Itr lo n).stop i H ∧ Qd H) ∨ ((Itr lo n).go i H ∧ ∃ Nx : Hp → Prop, (∀ H', Nx H' → ∃ m', m' < m ∧ W (i + 1) m' H') ∧ ∀ x H', (Itr lo n).yld i H x H' → g x (wipe σ vs) H' fun σ2 H2 => wipe σ2 vs = wipe σ vs ∧ tt σ2 H2 fun b H3 =>
        if b = true then te σ2 H3 fun y H4 => ∃ acc, H4 D = some (.lst acc) ∧ acc.length < sizeLine ∧ Nx (upd H4 D (.lst (acc ++ [y]))) else Nx H3) := by
  refine ⟨fun i m H => m = n - i ∧ i ≤ n ∧ Pv i H, ⟨n, by simp, Nat.zero_le _, h0⟩, ?_⟩
  rintro i m H ⟨rfl, hi, p⟩
  by_cases hlt : i < n
  · refine .inr ⟨hlt, Pv (i + 1), fun H' p' => ⟨n - (i + 1), by omega, rfl, hlt, p'⟩, fun x H' y => ?_⟩
    obtain ⟨e, y⟩ := y
    subst e y
    exact hs i _ hlt p
  · have e : i = n := by omega
    subst e
    exact .inl ⟨Nat.le_refl _, hd H p⟩
/-- over a list that the block leaves as it is -/
theorem lc_list {K : PySem.W.Frag} {a : Addr} {xs : List V} {g : TG} {tt : TT} {te : TE} {vs : List Nat} {σ : St} {H1 : Hp} {D : Addr} {Qd : Hp → Prop} (Pv : Nat → Hp → Prop) (h0 : Pv 0 (upd H1 D (.lst []))) (hl : ∀ i H, i ≤ xs.length → Pv i H → SqL K H a xs)
    (hs : ∀ i x H, xs[i]? = some x → Pv i H → g x (wipe σ vs) H fun σ2 H2 => wipe σ2 vs = wipe σ vs ∧ tt σ2 H2 fun b H3 =>
      if b = true then te σ2 H3 fun y H4 => ∃ acc, H4 D = some (.lst acc) ∧ acc.length < sizeLine ∧ Pv (i + 1) (upd H4 D (.lst (acc ++ [y]))) else Pv (i + 1) H3) (hd : ∀ H, Pv xs.length H → Qd H) :
    ∃ W : Nat → Nat → Hp → Prop, (∃ m, W 0 m (upd H1 D (.lst []))) ∧ ∀ i m H, W i m H →
      ((Itl K a).stop i H ∧ Qd H) ∨ ((Itl K a).go i H ∧ ∃ Nx : Hp → Prop, (∀ H', Nx H' → ∃ m', m' < m ∧ W (i + 1) m' H') ∧ ∀ x H', (Itl K a).yld i H x H' → g x (wipe σ vs) H' fun σ2 H2 => wipe σ2 vs = wipe σ vs ∧ tt σ2 H2 fun b H3 =>
        if b = true then te σ2 H3 fun y H4 => ∃ acc, H4 D = some (.lst acc) ∧ acc.length < sizeLine ∧ Nx (upd H4 D (.lst (acc ++ [y]))) else Nx H3) := by
  refine ⟨fun i m H => m = xs.length - i ∧ i ≤ xs.length ∧ Pv i H, ⟨xs.length, by simp, Nat.zero_le _, h0⟩, ?_⟩
  rintro i m H ⟨rfl, hi, p⟩
  have q := hl i H hi p
  by_cases hlt : i < xs.length
  · refine .inr ⟨⟨xs, xs[i], q, by simp [hlt]⟩, Pv (i + 1), fun H' p' => ⟨xs.length - (i + 1), by omega, rfl, hlt, p'⟩, fun x H' y => ?_⟩
    obtain ⟨e, y⟩ := y
    subst e
    exact hs i x _ (y xs q) p
  · have e : i = xs.length := by omega
    subst e
    exact .inl ⟨⟨xs, q, Nat.le_refl _⟩, hd H p⟩
def blkC (N : List Str) (sc scope : Scope) (own : List (Str × Nat)) : Bool :=
  (match scope.kind with | .function => true | _ => false) && (scope.names.all fun y => decide (scope.names.lookup y.1 = some y.2)) && (own.all fun p => decide (N[p.2]? = some p.1)) &&
    (scope.names.all fun y => match y.2 with
      | .free => (match sc.names.lookup y.1 with | some .cell => true | some .free => true | _ => false)
      | .local => decide (y.1 ∈ own.map (·.1)) || decide (y.1 ∉ N)
      | .cell => decide (y.1 ∈ own.map (·.1)) || decide (y.1 ∉ N)
      | _ => true)
theorem blkOk_by {N : List Str} {sc scope : Scope} {own : List (Str × Nat)} (h : blkC N sc scope own = true) : BlkOk N sc scope own := by
  unfold blkC at h
  simp only [Bool.and_eq_true, List.all_eq_true, decide_eq_true_eq] at h
  obtain ⟨⟨⟨h1, h2⟩, h3⟩, h4⟩ := h
  refine ⟨?_, h2, h3, fun y hy e => ?_, fun y hy e => ?_⟩
  · split at h1
    · assumption
    · cases h1
  · have q := h4 y hy
    simp only [e] at q
    split at q <;> first | exact .inl (by assumption) | exact .inr (by assumption) | cases q
  · have q := h4 y hy
    rcases e with e | e <;> (simp only [e, Bool.or_eq_true, decide_eq_true_eq] at q; exact q)
end L2
namespace L2
open PySem PySem.Spec PyProof.Rows
section
variable {prog : Program} {w : World} {A : Around} {R : Result → Shared → Prop} {s : Shared} {elt t0 i0 t1 i1 : Expr} {ifs0 ifs1 : List Expr} {scope : Scope} {pos : Pos} {it acc : Value} {env : Env}
end
section
variable {X : Cx}
end
end L2
namespace L2
open PySem PySem.Spec PyProof.Rows
section
variable {κ : Type} [DecidableEq κ]
def valV (kvs : List (κ × V)) (k : κ) : Option V := (kvs.find? fun kv => decide (kv.1 = k)).map (·.2)
/-- in its place, or at the end -/
def putK (kvs : List (κ × V)) (k : κ) (v : V) : List (κ × V) :=
  if (kvs.any fun kv => decide (kv.1 = k)) = true then kvs.map (fun kv => if kv.1 = k then (kv.1, v) else kv) else kvs ++ [(k, v)]
def dropK (kvs : List (κ × V)) (k : κ) : List (κ × V) := kvs.filter fun kv => decide (kv.1 ≠ k)

theorem valV_pos {p : κ × V} {r : List (κ × V)} {k : κ} (e : p.1 = k) : valV (p :: r) k = some p.2 := by simp [valV, List.find?_cons, e]
theorem valV_neg {p : κ × V} {r : List (κ × V)} {k : κ} (e : ¬ p.1 = k) : valV (p :: r) k = valV r k := by simp [valV, List.find?_cons, e]
theorem valV_any (k : κ) : ∀ kvs : List (κ × V), (kvs.any fun kv => decide (kv.1 = k)) = (valV kvs k).isSome
  | [] => rfl
  | p :: r => by
    rw [List.any_cons]
    by_cases e : p.1 = k
    · simp only [valV_pos e, decide_eq_true e, Bool.true_or, Option.isSome_some]
    · rw [valV_neg e, decide_eq_false e, Bool.false_or]; exact valV_any k r
theorem RelO.isSome_eq {o : Option V} {u : Option Value} (r : RelO o u) : o.isSome = u.isSome := by
  cases o with
  | none => cases u with
    | none => rfl
    | some _ => exact (show False from r).elim
  | some _ => cases u with
    | none => exact (show False from r).elim
    | some _ => rfl
theorem RelO.getD {o : Option V} {u : Option Value} {d : V} {d' : Value} (r : RelO o u) (rd : RelV d d') : RelV (o.getD d) (u.getD d') := by
  cases o with
  | none => cases u with
    | none => exact rd
    | some _ => exact (show False from r).elim
  | some _ => cases u with
    | none => exact (show False from r).elim
    | some _ => exact r

/-- raw tables of the same keys -/
theorem KV.val {kvs : List (κ × V)} {vs : List (κ × Value)} (r : KV kvs vs) (k : κ) : RelO (valV kvs k) (valueAt vs k) := by
  unfold KV at r
  induction r with
  | nil => exact True.intro
  | @cons p q ps qs h t ih =>
    obtain ⟨h1, h2⟩ := h
    by_cases e : p.1 = k
    · have e' : q.1 = k := h1.symm.trans e
      have b : valueAt (q :: qs) k = some q.2 := by simp [valueAt, List.find?_cons, e']
      rw [valV_pos e, b]; exact h2
    · have e' : ¬ q.1 = k := fun z => e (h1.trans z)
      have b : valueAt (q :: qs) k = valueAt qs k := by simp [valueAt, List.find?_cons, e']
      rw [valV_neg e, b]; exact ih
theorem KV.any {kvs : List (κ × V)} {vs : List (κ × Value)} (r : KV kvs vs) (k : κ) : (kvs.any fun kv => decide (kv.1 = k)) = vs.any fun kv => decide (kv.1 = k) := by
  unfold KV at r
  induction r with
  | nil => rfl
  | cons h t ih => rw [List.any_cons, List.any_cons, ih, h.1]
theorem KV.repl {kvs : List (κ × V)} {vs : List (κ × Value)} (r : KV kvs vs) (k : κ) {y : V} {u : Value} (ry : RelV y u) :
    KV (kvs.map fun kv => if kv.1 = k then (kv.1, y) else kv) (vs.map fun kv => if kv.1 = k then (kv.1, u) else kv) := by
  unfold KV at r ⊢
  induction r with
  | nil => exact .nil
  | @cons p q ps qs h t ih =>
    rw [List.map_cons, List.map_cons]
    refine .cons ?_ ih
    obtain ⟨h1, h2⟩ := h
    by_cases e : p.1 = k
    · rw [if_pos e, if_pos (h1.symm.trans e)]; exact ⟨h1, ry⟩
    · rw [if_neg e, if_neg (fun z => e (h1.trans z))]; exact ⟨h1, h2⟩
theorem KV.put {kvs : List (κ × V)} {vs : List (κ × Value)} (r : KV kvs vs) (k : κ) {y : V} {u : Value} (ry : RelV y u) : KV (putK kvs k y) (stored vs k u) := by
  unfold putK stored
  rw [r.any k]
  by_cases e : (vs.any fun kv => decide (kv.1 = k)) = true
  · rw [if_pos e, if_pos e]; exact r.repl k ry
  · rw [if_neg e, if_neg e]; exact Paired.snoc r ⟨rfl, ry⟩
theorem KV.drop {kvs : List (κ × V)} {vs : List (κ × Value)} (r : KV kvs vs) (k : κ) : KV (dropK kvs k) (without vs k) := by
  unfold KV at r ⊢
  unfold dropK without
  induction r with
  | nil => exact .nil
  | @cons p q ps qs h t ih =>
    obtain ⟨h1, h2⟩ := h
    rw [List.filter_cons, List.filter_cons]
    by_cases e : p.1 = k
    · have a : ¬ decide (p.1 ≠ k) = true := by simp [e]
      have b : ¬ decide (q.1 ≠ k) = true := by simp [h1.symm.trans e]
      rw [if_neg a, if_neg b]; exact ih
    · have e' : ¬ q.1 = k := fun z => e (h1.trans z)
      have a : decide (p.1 ≠ k) = true := by simp [e]
      have b : decide (q.1 ≠ k) = true := by simp [e']
      rw [if_pos a, if_pos b]; exact .cons ⟨h1, h2⟩ ih
theorem KV.keys {kvs : List (κ × V)} {vs : List (κ × Value)} (r : KV kvs vs) : kvs.map (·.1) = vs.map (·.1) := by
  unfold KV at r
  induction r with
  | nil => rfl
  | cons h t ih => rw [List.map_cons, List.map_cons, ih, h.1]
theorem KV.length {kvs : List (κ × V)} {vs : List (κ × Value)} (r : KV kvs vs) : kvs.length = vs.length := Paired.length r
end
/-- raw entries of a dict with tuple keys -/
abbrev KT (H : Hp) : List (List Key × V) → List (List Key × Addr × Value) → Prop := Paired fun p q => p.1 = q.1 ∧ H q.2.1 = some (.tup (p.1.map kV)) ∧ RelV p.2 q.2.2
theorem KT.val {H : Hp} {kvs : List (List Key × V)} {xs : List (List Key × Addr × Value)} (r : KT H kvs xs) (k : List Key) : RelO (valV kvs k) ((atKey xs k).map (·.2)) := by
  induction r with
  | nil => exact True.intro
  | @cons p q ps qs h t ih =>
    obtain ⟨h1, _, h2⟩ := h
    by_cases e : p.1 = k
    · have e' : q.1 = k := h1.symm.trans e
      have b : atKey (q :: qs) k = some q.2 := by simp [atKey, List.find?_cons, e']
      rw [valV_pos e, b]; exact h2
    · have e' : ¬ q.1 = k := fun z => e (h1.trans z)
      have b : atKey (q :: qs) k = atKey qs k := by simp [atKey, List.find?_cons, e']
      rw [valV_neg e, b]; exact ih
theorem KT.repl {H : Hp} {kvs : List (List Key × V)} {xs : List (List Key × Addr × Value)} (r : KT H kvs xs) (k : List Key) {y : V} {u : Value} (ry : RelV y u) :
    KT H (kvs.map fun kv => if kv.1 = k then (kv.1, y) else kv) (xs.map (putAt k u)) := by
  induction r with
  | nil => exact .nil
  | @cons p q ps qs h t ih =>
    rw [List.map_cons, List.map_cons]
    refine .cons ?_ ih
    obtain ⟨h1, h2, h3⟩ := h
    unfold putAt
    by_cases e : p.1 = k
    · rw [if_pos e, if_pos (h1.symm.trans e)]; exact ⟨h1, h2, ry⟩
    · rw [if_neg e, if_neg (fun z => e (h1.trans z))]; exact ⟨h1, h2, h3⟩
theorem KT.put {H : Hp} {kvs : List (List Key × V)} {xs : List (List Key × Addr × Value)} (r : KT H kvs xs) (k : List Key) {b : Addr} {y : V} {u : Value} (hb : H b = some (.tup (k.map kV))) (ry : RelV y u) :
    KT H (putK kvs k y) (storedH xs k b u) := by
  have e : (kvs.any fun kv => decide (kv.1 = k)) = (atKey xs k).isSome := by
    rw [valV_any, (r.val k).isSome_eq, Option.isSome_map]
  unfold putK storedH
  rw [e]
  by_cases q : (atKey xs k).isSome = true
  · rw [if_pos q, if_pos q]; exact r.repl k ry
  · rw [if_neg q, if_neg q]; exact Paired.snoc r ⟨rfl, hb, ry⟩
theorem KT.keeps {H H' : Hp} {kvs : List (List Key × V)} {xs : List (List Key × Addr × Value)} (r : KT H kvs xs) (ht : ∀ b ys, H b = some (.tup ys) → H' b = some (.tup ys)) : KT H' kvs xs :=
  Paired.mapP r fun _ _ z => ⟨z.1, ht _ _ z.2.1, z.2.2⟩

section
variable {P : Program} {w : World} {H : Hp} {h : Heap} {a : Addr}
theorem rd_of {u : HO} (ok : HOk P w H h) (e : Rd H a u) : ObjOk P w H h a u := e.ok ok
theorem dk_rd {kvs : List (Key × V)} (ok : HOk P w H h) (e : Rd H a (.dK kvs)) : kvs.length ≤ sizeLine ∧ (a == sysModules) = false ∧ ∃ vs, KV kvs vs ∧ h.DictOf (mixKind P w) a vs :=
  show ObjOk P w H h a (.dK kvs) from rd_of ok e
end
/-- what the dict at a holds at the key y -/
def DGet (H : Hp) (a : Addr) (y : V) (r : Option V) : Prop :=
  (∃ kvs k, Rd H a (.dK kvs) ∧ y = kV k ∧ r = valV kvs k) ∨ ∃ kvs k b, Rd H a (.dT kvs) ∧ y = .ref b ∧ H b = some (.tup (k.map kV)) ∧ r = valV kvs k
/-- the heap behind a[y] = v -/
def DPut (H : Hp) (a : Addr) (y v : V) (H' : Hp) : Prop :=
  (∃ kvs k, H a = some (.dK kvs) ∧ y = kV k ∧ kvs.length < sizeLine ∧ H' = upd H a (.dK (putK kvs k v))) ∨
  ∃ kvs k b, H a = some (.dT kvs) ∧ y = .ref b ∧ H b = some (.tup (k.map kV)) ∧ kvs.length < sizeLine ∧ H' = upd H a (.dT (putK kvs k v))
theorem DGet.k {H : Hp} {a : Addr} {kvs : List (Key × V)} {k : Key} (e : H a = some (.dK kvs)) : DGet H a (kV k) (valV kvs k) := .inl ⟨kvs, k, .inl e, rfl, rfl⟩
theorem DGet.t {H : Hp} {a b : Addr} {kvs : List (List Key × V)} {k : List Key} (e : H a = some (.dT kvs)) (eb : H b = some (.tup (k.map kV))) : DGet H a (.ref b) (valV kvs k) := .inr ⟨kvs, k, b, .inl e, rfl, eb, rfl⟩
theorem DPut.k {H : Hp} {a : Addr} {kvs : List (Key × V)} {k : Key} {v : V} (e : H a = some (.dK kvs)) (hl : kvs.length < sizeLine) : DPut H a (kV k) v (upd H a (.dK (putK kvs k v))) := .inl ⟨kvs, k, e, rfl, hl, rfl⟩
theorem DPut.t {H : Hp} {a b : Addr} {kvs : List (List Key × V)} {k : List Key} {v : V} (e : H a = some (.dT kvs)) (eb : H b = some (.tup (k.map kV))) (hl : kvs.length < sizeLine) :
    DPut H a (.ref b) v (upd H a (.dT (putK kvs k v))) := .inr ⟨kvs, k, b, e, rfl, eb, hl, rfl⟩


section
variable {X : Cx} {pins : List (Addr × Obj)} {σ : St} {H : Hp} {s : Shared} {a : Addr} {y v : V} {u r : Value} {o : Option V} {A : Around} {E : Value → Shared → Prop}
theorem Inv.big (I : Inv X pins σ H s) : sysModules < s.heap.objs.size := by
  have h : mainGlobals < s.heap.objs.size := (I.mod.glob.keeps I.bk).lt
  exact Nat.lt_trans (by decide) h

end
section
variable {X : Cx} {pins : List (Addr × Obj)} {σ : St} {H : Hp} {s : Shared} {a : Addr} {kvs : List (Key × V)} {k : Key} {u : Value} {A : Around} {E : Value → Shared → Prop}
end
section
variable {X : Cx} {o i e value : Expr} {pos pos' tpos : Pos} {td ty tv : TE}
end
section
variable {X : Cx} {pos : Pos}
end
structure M2 (X : Cx) (o : Expr) (m : Str) (apos : Pos) (e f : Expr) (cpos : Pos) : Prop where
  base : attributeBase o m X.env (eval o X.env) = eval o X.env
  few : ((backTo cpos (starEach [e, f] X.env)).all (fun x => !x.1) && (backToKw cpos (keywordEach [] X.env)).all (fun x => x.1.isSome)
    && decide (([e, f] : List Expr).length + ([] : List Keyword).length + (if ([] : List Keyword).isEmpty then 0 else 1) < 30)) = true
  line : (apos.endLine == cpos.line) = true
  trees : backTo cpos (starEach [e, f] X.env) = [(false, eval e X.env), (false, eval f X.env)]

section
variable {X : Cx} {pins : List (Addr × Obj)} {σ : St} {H : Hp} {s : Shared} {a : Addr} {y d : V} {u r : Value} {o : Option V} {A : Around} {E : Value → Shared → Prop}
end
section
variable {X : Cx} {o e f : Expr} {apos cpos : Pos} {td ty tx : TE}
end
section
variable {X : Cx} {pins : List (Addr × Obj)} {σ : St} {H : Hp} {s : Shared} {a : Addr} {kvs : List (Key × V)} {A : Around} {E : Value → Shared → Prop}
end
section
variable {X : Cx} {pins : List (Addr × Obj)} {σ : St} {H : Hp} {s : Shared} {a : Addr} {y : V} {u : Value} {A : Around} {E : Value → Shared → Prop}
end
end L2
namespace L2
open PySem PySem.Spec PyProof.Rows
section
variable {prog : Program} {w : World} {A : Around} {E : Value → Shared → Prop}
end
section
variable {X : Cx}
end
end L2
namespace L2
open PySem PySem.Spec PyProof.Rows
section
variable {X : Cx} {pins : List (Addr × Obj)} {σ : St} {H : Hp} {s : Shared} {h' : Heap}
end
section
variable {X : Cx}
end
/-- range(i, j, c): small bounds, n items -/
def RgC (i j c : Int) (n : Nat) : Prop := c ≠ 0 ∧ c.natAbs < 1073741824 ∧ Builtin.Range.small i j c = true ∧ Builtin.Range.rangeSize i j c = n
theorem RgC.neg {i j : Int} (ha : -(2 ^ 62) ≤ i) (ha' : i < 2 ^ 62) (hb : -(2 ^ 62) ≤ j) (hb' : j < 2 ^ 62) : RgC i j (-1) (i - j).toNat :=
  ⟨by decide, by decide, PySem.W.small_down ha ha' hb hb', PySem.W.rangeSize_downNat i j⟩
section
variable {X : Cx} {tg : Expr}
end
section
variable {X : Cx} {tg : Expr}
end
section
variable {prog : Program} {w : World} {A : Around} {E : Value → Shared → Prop} {s : Shared}
end
section
variable {X : Cx} {pins : List (Addr × Obj)} {σ : St} {H : Hp} {s : Shared} {d : Addr} {o : Obj}
end
section
variable {P : Program} {w : World} {K : PySem.W.Frag} {tg : Expr} {d : Addr} {o : Obj} {es : Array DictEntry} {ep : Nat}
end
section
variable {X : Cx} {tg e : Expr} {td : TE} {apos cpos : Pos}
end
end L2
section 
namespace Bits
open PySem PyProof.Rows
end Bits
end 
section 
namespace TL
open PySem PySem.Builtin PySem.Builtin.Str PySem.StrLaws
abbrev tl (x : Str) : List Nat := x.cps.toList
theorem len_tl (x : Str) : x.length = (tl x).length := by simp [tl, Str.length]
theorem ext_tl {x y : Str} (h : tl x = tl y) : x = y := Str.ext' (Array.toList_inj.mp h)
theorem tl_append (x y : Str) : tl (x ++ y) = tl x ++ tl y := by
  show (x ++ y).cps.toList = _
  rw [Str.cps_append, Array.toList_append]
theorem map_tl_inj : ∀ {l m : List Str}, l.map tl = m.map tl → l = m
  | [], [], _ => rfl
  | [], _ :: _, h => by simp at h
  | _ :: _, [], h => by simp at h
  | x :: l, y :: m, h => by
    rw [List.map_cons, List.map_cons] at h
    injection h with h1 h2
    rw [ext_tl h1, map_tl_inj h2]
/-- S stands at the head of l -/
def pre (S l : List Nat) : Bool := l.take S.length == S
/-- l cut at each S from the left; k signs are still to be passed over -/
def spl (S : List Nat) : Nat → List Nat → List Nat → List (List Nat)
  | _, acc, [] => [acc]
  | 0, acc, c :: r => if pre S (c :: r) = true then acc :: spl S (S.length - 1) [] r else spl S 0 (acc ++ [c]) r
  | k + 1, acc, _ :: r => spl S k acc r
/-- what stands before the first S, and behind it -/
def par (S : List Nat) : List Nat → List Nat → Option (List Nat × List Nat)
  | _, [] => none
  | acc, c :: r => if pre S (c :: r) = true then some (acc, (c :: r).drop S.length) else par S (acc ++ [c]) r

theorem spl_nil (S : List Nat) (k : Nat) (acc : List Nat) : spl S k acc [] = [acc] := by cases k <;> rfl
theorem spl_hit {S acc r : List Nat} {c : Nat} (h : pre S (c :: r) = true) : spl S 0 acc (c :: r) = acc :: spl S (S.length - 1) [] r := by
  show (if pre S (c :: r) = true then acc :: spl S (S.length - 1) [] r else spl S 0 (acc ++ [c]) r) = _
  rw [if_pos h]
theorem spl_miss {S acc r : List Nat} {c : Nat} (h : pre S (c :: r) = false) : spl S 0 acc (c :: r) = spl S 0 (acc ++ [c]) r := by
  show (if pre S (c :: r) = true then acc :: spl S (S.length - 1) [] r else spl S 0 (acc ++ [c]) r) = _
  rw [if_neg (by rw [h]; exact Bool.false_ne_true)]
theorem spl_pass (S : List Nat) : ∀ (k : Nat) (acc l : List Nat), spl S k acc l = spl S 0 acc (l.drop k)
  | 0, _, _ => by rw [List.drop_zero]
  | k + 1, acc, [] => by rw [List.drop_nil, spl_nil, spl_nil]
  | k + 1, acc, c :: r => by
    show spl S k acc r = spl S 0 acc (r.drop k)
    exact spl_pass S k acc r
theorem pre_nil {S : List Nat} (hS : S ≠ []) : pre S [] = false := by
  cases S with
  | nil => exact absurd rfl hS
  | cons s S => rfl
theorem pre_of_head {s c : Nat} (S r : List Nat) (h : c ≠ s) : pre (s :: S) (c :: r) = false := by
  cases hp : pre (s :: S) (c :: r) with
  | false => rfl
  | true =>
    have e : (c :: r).take (s :: S).length = s :: S := eq_of_beq hp
    rw [List.length_cons, List.take_succ_cons] at e
    injection e with e1 e2
    exact absurd e1 h
theorem pre_self (S r : List Nat) : pre S (S ++ r) = true := by
  show ((S ++ r).take S.length == S) = true
  have e : (S ++ r).take S.length = S := List.take_left
  rw [e] <;> exact beq_self_eq_true S

theorem getElem_drop_cons {L : List Nat} {a : Nat} (h : a < L.length) : ∃ c, L.drop a = c :: L.drop (a + 1) := ⟨L[a], List.drop_eq_getElem_cons h⟩
theorem spl_run (S L : List Nat) : ∀ (m a : Nat) (acc : List Nat), a + m ≤ L.length → (∀ k, a ≤ k → k < a + m → pre S (L.drop k) = false) →
    spl S 0 acc (L.drop a) = spl S 0 (acc ++ (L.drop a).take m) (L.drop (a + m))
  | 0, a, acc, _, _ => by rw [List.take_zero, List.append_nil, Nat.add_zero]
  | m + 1, a, acc, h, hn => by
    have hlt : a < L.length := by omega
    obtain ⟨c, e⟩ := getElem_drop_cons hlt
    have h0 := hn a (Nat.le_refl _) (by omega)
    have ih := spl_run S L m (a + 1) (acc ++ [c]) (by omega) (fun k h1 h2 => hn k (by omega) (by omega))
    have e2 : a + 1 + m = a + (m + 1) := by omega
    rw [e2] at ih
    rw [e] at h0
    rw [e, spl_miss h0, ih, List.take_succ_cons, List.append_assoc] <;> rfl
theorem drop_two (L : List Nat) (a b : Nat) : (L.drop a).drop b = L.drop (a + b) := by
  first
    | rw [List.drop_drop]
    | rw [List.drop_drop, Nat.add_comm]
theorem spl_at {S L : List Nat} (hS : S ≠ []) {c : Nat} {acc : List Nat} (h : pre S (L.drop c) = true) : spl S 0 acc (L.drop c) = acc :: spl S 0 [] (L.drop (c + S.length)) := by
  rw [← drop_two]
  cases e : L.drop c with
  | nil => rw [e, pre_nil hS] at h; cases h
  | cons d r =>
    rw [e] at h
    rw [spl_hit h, spl_pass]
    cases S with
    | nil => exact absurd rfl hS
    | cons s S => rfl
theorem at_iff {x y : Str} (hy : tl y ≠ []) (i : Nat) : At x y x.length i ↔ pre (tl y) ((tl x).drop i) = true := by
  have hx := len_tl x
  have hl := len_tl y
  constructor
  · intro h
    have h2 := h.2
    rw [subAt_eq, hl] at h2
    exact h2
  · intro h
    have e : ((tl x).drop i).take (tl y).length = tl y := eq_of_beq h
    have e1 := congrArg List.length e
    rw [List.length_take, List.length_drop] at e1
    have e2 : 0 < (tl y).length := List.length_pos_iff.mpr hy
    refine ⟨by omega, ?_⟩
    rw [subAt_eq, hl]
    exact h
theorem no_at {x y : Str} (hy : tl y ≠ []) {i : Nat} (h : ¬ At x y x.length i) : pre (tl y) ((tl x).drop i) = false := by
  cases hp : pre (tl y) ((tl x).drop i) with
  | false => rfl
  | true => exact absurd ((at_iff hy i).mpr hp) h
theorem len1 {y : Str} (hy : tl y ≠ []) : 1 ≤ y.length := by
  have e2 : 0 < (tl y).length := List.length_pos_iff.mpr hy
  rw [len_tl y]
  exact e2
theorem tl_strSub (x : Str) (i j : Nat) : tl (strSub x i j) = ((tl x).drop i).take (j - i) := strSub_toList x i j
theorem tl_strSub_end (x : Str) (i : Nat) : tl (strSub x i x.length) = (tl x).drop i := by
  rw [tl_strSub, len_tl x]
  exact List.take_of_length_le (by rw [List.length_drop] <;> omega)

theorem parts_spl {x y : Str} (hy : tl y ≠ []) : ∀ (cuts : List Nat) (a f : Nat), a ≤ (tl x).length → ChainG x y x.length a cuts f → (∀ k, f ≤ k → ¬ At x y x.length k) →
    (partsFrom x y.length a cuts).map tl = spl (tl y) 0 [] ((tl x).drop a)
  | [], a, f, ha, h, hn => by
    have e : f = a := h
    subst e
    show [tl (strSub x f x.length)] = _
    have run := spl_run (tl y) (tl x) ((tl x).length - f) f [] (by omega) (fun k h1 _ => no_at hy (hn k h1))
    have e2 : f + ((tl x).length - f) = (tl x).length := by omega
    rw [e2, List.drop_length, spl_nil, List.nil_append, List.take_of_length_le (by rw [List.length_drop] <;> omega)] at run
    rw [run, tl_strSub_end]
  | c :: r, a, f, ha, h, hn => by
    obtain ⟨h1, h2, h3, h4⟩ := h
    have hc : c + y.length ≤ x.length := h2.1
    have hx := len_tl x
    have hl := len_tl y
    have ih := parts_spl hy r (c + y.length) f (by omega) h4 hn
    show tl (strSub x a c) :: (partsFrom x y.length (c + y.length) r).map tl = _
    have run := spl_run (tl y) (tl x) (c - a) a [] (by omega) (fun k k1 k2 => no_at hy (h3 k k1 (by omega)))
    have e2 : a + (c - a) = c := by omega
    rw [e2, List.nil_append, spl_at hy ((at_iff hy c).mp h2)] at run
    rw [run, ih, tl_strSub, hl]

/-- hk: by kind_ok where the separator is plain -/
theorem split_spl (x y : Str) (hy : tl y ≠ []) (hk : ¬ Builtin.Str.strKind x < Builtin.Str.strKind y) : (Txt.split x y).map tl = spl (tl y) 0 [] (tl x) := by
  obtain ⟨f, g, hn⟩ := occ_tight x y (len1 hy)
  have key := parts_spl hy _ 0 f (Nat.zero_le _) g hn
  rw [List.drop_zero] at key
  have none_case : occurrences x y 0 x.length (x.length + 1) = [] → [x].map tl = spl (tl y) 0 [] (tl x) := fun ho => by
    rw [ho] at key
    rw [← key]
    show [tl x] = [tl (strSub x 0 x.length)]
    rw [sub_whole]
  unfold Txt.split
  by_cases h1 : (decide (x.length < y.length) || decide (Builtin.Str.strKind x < Builtin.Str.strKind y)) = true
  · rw [if_pos h1]
    have hlt : x.length < y.length := by
      simp only [Bool.or_eq_true, decide_eq_true_eq] at h1
      rcases h1 with h | h
      · exact h
      · exact absurd h hk
    refine none_case ?_
    cases ho : occurrences x y 0 x.length (x.length + 1) with
    | nil => rfl
    | cons c r =>
      rw [ho] at g
      have hc : c + y.length ≤ x.length := g.2.1.1
      omega
  · rw [if_neg h1]
    by_cases h2 : (occurrences x y 0 x.length (x.length + 1)).isEmpty = true
    · rw [if_pos h2]
      exact none_case (List.isEmpty_iff.mp h2)
    · rw [if_neg h2, partsBetween_eq]
      exact key
theorem kind_ok {x y : Str} (h : y.cps.all (· < 256) = true) : ¬ Builtin.Str.strKind x < Builtin.Str.strKind y := by
  have e : Builtin.Str.strKind y = 1 := by unfold PySem.Builtin.Str.strKind; rw [if_pos h]
  rw [e]
  unfold PySem.Builtin.Str.strKind
  split
  · omega
  · split <;> omega

/-- a part that the separator does not begin in, then the separator -/
theorem spl_part {S p rest acc : List Nat} (hS : S ≠ []) (h : ∀ i, i < p.length → pre S ((p ++ (S ++ rest)).drop i) = false) :
    spl S 0 acc (p ++ (S ++ rest)) = (acc ++ p) :: spl S 0 [] rest := by
  have run := spl_run S (p ++ (S ++ rest)) p.length 0 acc (by rw [List.length_append]; omega) (fun k _ k2 => h k (by omega))
  have ed : (p ++ (S ++ rest)).drop p.length = S ++ rest := List.drop_left
  rw [List.drop_zero, Nat.zero_add, List.take_left] at run
  rw [run, spl_at hS (by rw [ed]; exact pre_self S rest), ← drop_two, ed, List.drop_left]
theorem spl_last {S p acc : List Nat} (h : ∀ i, i < p.length → pre S (p.drop i) = false) : spl S 0 acc p = [acc ++ p] := by
  have run := spl_run S p p.length 0 acc (by omega) (fun k _ k2 => h k (by omega))
  rw [List.drop_zero, Nat.zero_add, List.drop_length, spl_nil, List.take_length] at run
  exact run
/-- the separator's first sign is not in the part -/
theorem free_of {s : Nat} {S p q : List Nat} (h : s ∉ p) : ∀ i, i < p.length → pre (s :: S) ((p ++ q).drop i) = false := fun i hi => by
  have hlt : i < (p ++ q).length := by rw [List.length_append]; omega
  have e : (p ++ q).drop i = (p ++ q)[i] :: (p ++ q).drop (i + 1) := List.drop_eq_getElem_cons hlt
  rw [e]
  refine pre_of_head _ _ fun z => h ?_
  have e1 : (p ++ q)[i] = p[i] := List.getElem_append_left hi
  rw [← z, e1]
  exact List.getElem_mem hi
theorem spl_part1 {s : Nat} {S p rest acc : List Nat} (h : s ∉ p) : spl (s :: S) 0 acc (p ++ (s :: S ++ rest)) = (acc ++ p) :: spl (s :: S) 0 [] rest :=
  spl_part (by simp) (free_of h)
theorem spl_last1 {s : Nat} {S p acc : List Nat} (h : s ∉ p) : spl (s :: S) 0 acc p = [acc ++ p] := spl_last fun i hi => by
  have z := free_of (S := S) (q := []) h i hi
  rw [List.append_nil] at z
  exact z
/-- joined lists -/
def joinL (S : List Nat) : List (List Nat) → List Nat
  | [] => []
  | [p] => p
  | p :: q :: r => p ++ (S ++ joinL S (q :: r))
theorem tl_join (y : Str) : ∀ parts : List Str, tl (Str.join y parts) = joinL (tl y) (parts.map tl)
  | [] => rfl
  | [_] => rfl
  | x :: z :: r => by
    show tl (x ++ y ++ Str.join y (z :: r)) = tl x ++ (tl y ++ joinL (tl y) ((z :: r).map tl))
    rw [tl_append, tl_append, tl_join y (z :: r), List.append_assoc]
theorem spl_join {s : Nat} {S : List Nat} : ∀ {parts : List (List Nat)}, parts ≠ [] → (∀ p ∈ parts, s ∉ p) → spl (s :: S) 0 [] (joinL (s :: S) parts) = parts
  | [], h, _ => absurd rfl h
  | [p], _, hp => by
    show spl (s :: S) 0 [] p = [p]
    rw [spl_last1 (hp p (List.mem_singleton.mpr rfl)), List.nil_append]
  | p :: q :: r, _, hp => by
    show spl (s :: S) 0 [] (p ++ (s :: S ++ joinL (s :: S) (q :: r))) = p :: q :: r
    rw [spl_part1 (hp p (List.mem_cons_self ..)), List.nil_append, spl_join (by simp) fun z hz => hp z (List.mem_cons_of_mem _ hz)]
theorem join_eq (y : Str) (parts : List Str) : Txt.join y parts = Str.join y parts := glued_eq_join y parts
/-- THE READ-BACK: a joined text, split -/
theorem split_join {y : Str} {s : Nat} {S : List Nat} (ey : tl y = s :: S) (hk : y.cps.all (· < 256) = true) {parts : List Str} (hne : parts ≠ []) (hp : ∀ p ∈ parts, s ∉ tl p) :
    Txt.split (Txt.join y parts) y = parts := by
  refine map_tl_inj ?_
  rw [split_spl _ y (by rw [ey]; simp) (kind_ok hk), join_eq, tl_join, ey]
  refine spl_join (fun e => hne (List.map_eq_nil_iff.mp e)) fun p h => ?_
  obtain ⟨z, hz, rfl⟩ := List.mem_map.mp h
  exact hp z hz
/-- the signs of a number -/
def numL (n : Nat) : List Nat := (Nat.toDigits 10 n).map Char.toNat
theorem tl_num (n : Nat) : tl (Str.ofString (toString ((n : Nat) : Int))) = numL n := PySem.W.KIN.signs_num n
theorem digitChar_nat : ∀ d : Nat, d < 10 → (Nat.digitChar d).toNat = 48 + d := by decide
theorem numL_lt {n : Nat} (h : n < 10) : numL n = [48 + n] := by
  unfold numL
  rw [Nat.toDigits_of_lt_base h]
  show [(Nat.digitChar n).toNat] = _
  rw [digitChar_nat n h]
theorem numL_step {n : Nat} (h : 10 ≤ n) : numL n = numL (n / 10) ++ [48 + n % 10] := by
  have hm : n % 10 < 10 := Nat.mod_lt n (by decide)
  have t : Nat.toDigits 10 (n / 10) ++ Nat.toDigits 10 (n % 10) = Nat.toDigits 10 (10 * (n / 10) + n % 10) := Nat.toDigits_append_toDigits (by decide) (by omega) hm
  rw [Nat.div_add_mod] at t
  show (Nat.toDigits 10 n).map Char.toNat = _
  rw [← t, List.map_append, Nat.toDigits_of_lt_base hm]
  show (Nat.toDigits 10 (n / 10)).map Char.toNat ++ [(Nat.digitChar (n % 10)).toNat] = _
  rw [digitChar_nat _ hm] <;> rfl
theorem numL_digits (n : Nat) : NumText.AllDigits (numL n) := by
  induction n using Nat.strongRecOn with
  | _ n ih =>
    by_cases h : n < 10
    · rw [numL_lt h]
      intro c hc
      rw [List.mem_singleton.mp hc]
      omega
    · rw [numL_step (by omega)]
      intro c hc
      rcases List.mem_append.mp hc with hc | hc
      · exact ih (n / 10) (by omega) c hc
      · have hm : n % 10 < 10 := Nat.mod_lt n (by decide)
        rw [List.mem_singleton.mp hc]
        omega
theorem numL_free {n s : Nat} (h : s < 48 ∨ 57 < s) : s ∉ numL n := fun hm => by
  have r := numL_digits n s hm
  omega
end TL
end 
namespace L2
open PySem PySem.Spec PyProof.Rows
/-- a list of texts, of numbered texts -/
theorem vals_strs : ∀ l : List (Str × Tok), Vals ((l.map (·.1)).map V.str) (strValues l)
  | [] => .nil
  | p :: r => .cons ⟨p.2, rfl⟩ (vals_strs r)
theorem strs_of_vals : ∀ {ys : List Str} {us : List Value}, Vals (ys.map V.str) us → StrsAre us ys
  | [], _, .nil => .nil
  | y :: ys, _, .cons r t => by
    obtain ⟨k, rfl⟩ := r
    exact .cons y k (strs_of_vals t)

/-- a new list of texts, tracked -/
def rNewStrs (ys : List Str) : Hp → VK → Prop := fun H Q => ∀ p, H p = none → Q (.ref p) (upd H p (.lst (ys.map V.str)))

section
variable {X : Cx} {pins : List (Addr × Obj)} {σ : St} {H : Hp} {s : Shared} {Q : VK}
theorem laid_strs {l : List (Str × Tok)} {ys : List Str} {k : Nat} (I : Inv X pins σ H s) (e : l.map (·.1) = ys) (hz : ys.length ≤ sizeLine) (h : rNewStrs ys H Q) :
    EP X pins σ Q (.ref s.heap.objs.size) { s with toks := k, heap := s.heap.push { cls := .type "list", data := .seq (strValues l).toArray } } := by
  have hp := I.hok.fresh (Nat.le_refl _)
  refine ⟨.ref s.heap.objs.size, upd H s.heap.objs.size (.lst (ys.map V.str)), I.laid (fun b u q => Heap.get?_push_of_some _ q) (Nat.le_refl _) ⟨by rw [List.length_map]; exact hz, strValues l, _, ?_, Heap.get?_push_size _ rfl⟩, rfl, h _ hp⟩
  rw [← e]
  exact vals_strs l
end
section
variable {X : Cx}
/-- x.split(sep) -/
theorem mt_split : MtR X "str.split" (fun x xs H Q => ∃ a b, x = .str a ∧ xs = [.str b] ∧ (b.length == 0) = false ∧ a.length + 2 ≤ sizeLine ∧ rNewStrs (Txt.split a b) H Q) := by
  intro pins s σ H x xs v us Q I rx rs h
  obtain ⟨a, b, rfl, rfl, hb, hz, h⟩ := h
  obtain ⟨t, rfl⟩ := rx
  cases rs with
  | cons r1 rs =>
    cases rs
    obtain ⟨u, rfl⟩ := r1
    have hl : (Txt.split a b).length ≤ sizeLine := Nat.le_trans (PyProof.Rows.split_le a b) hz
    have hn : (Builtin.Str.partsBetween a (Builtin.Str.occurrences a b 0 a.length (a.length + 1)) b.length).length ≤ sizeLine := by
      have e1 := StrLaws.occ_length_le a b 0 a.length (a.length + 1)
      rw [length_partsBetween]; omega
    cases h1 : (decide (a.length < b.length) || decide (Builtin.Str.strKind a < Builtin.Str.strKind b))
    · cases hf : (Builtin.Str.occurrences a b 0 a.length (a.length + 1)).isEmpty
      · refine call_meets F.slot_str_split (typeIs_str _ _ _) F.entry_str_split (F.args_str_split_2 _ _) (meets_str_split_sep a b t u h1 hb hf (by omega) hn) ?_
        show EP X pins σ Q (.ref s.heap.objs.size) { s with toks := _, heap := s.heap.push { cls := .type "list", data := .seq (strsFrom s.toks (Builtin.Str.partsBetween a (Builtin.Str.occurrences a b 0 a.length (a.length + 1)) b.length)).toArray } }
        rw [strsFrom_eq]
        exact laid_strs (ys := Txt.split a b) I ((numbered_texts _ _).trans ((if_neg (ne_true_of_eq_false h1)).trans (if_neg (ne_true_of_eq_false hf))).symm) hl h
      · refine call_meets F.slot_str_split (typeIs_str _ _ _) F.entry_str_split (F.args_str_split_2 _ _) (meets_str_split_not_found a b t u h1 hb hf) ?_
        exact laid_strs (l := [(a, t)]) (ys := Txt.split a b) (k := s.toks) I ((if_neg (ne_true_of_eq_false h1)).trans (if_pos hf)).symm hl h
    · refine call_meets F.slot_str_split (typeIs_str _ _ _) F.entry_str_split (F.args_str_split_2 _ _) (meets_str_split_cannot_occur a b t u h1) ?_
      exact laid_strs (l := [(a, t)]) (ys := Txt.split a b) (k := s.toks) I (if_pos h1).symm hl h

/-- sep.join(a list | a tuple of texts) -/
theorem mt_join : MtR X "str.join" (fun x xs H Q => ∃ a p, ∃ ys : List Str, x = .str a ∧ xs = [.ref p] ∧ (SqL X.K H p (ys.map V.str) ∨ SqT X.K H p (ys.map V.str)) ∧
    (ys.map (·.length)).sum + ys.length * a.length ≤ 16777216 ∧ Q (.str (Txt.join a ys)) H) := by
  intro pins s σ H x xs v us Q I rx rs h
  obtain ⟨a, p, ys, rfl, rfl, hp, hz, h⟩ := h
  obtain ⟨t, rfl⟩ := rx
  cases rs with
  | cons r1 rs =>
    cases rs
    cases r1
    rcases hp with hp | hp
    · obtain ⟨its, r, ⟨o, n, ho, hc, _, hd⟩, _⟩ := I.list hp
      exact PyProof.Rows.join_list (items := its.toArray) ⟨o, ho, hc, n, hd⟩ (by rw [List.toList_toArray]; exact strs_of_vals r) hz fun t' k => ⟨.str _, H, I.tok k, ⟨t', rfl⟩, h⟩
    · obtain ⟨its, r, ht, _⟩ := I.tuple hp
      exact PyProof.Rows.join_tuple (items := its.toArray) ht (by rw [List.toList_toArray]; exact strs_of_vals r) hz fun t' k => ⟨.str _, H, I.tok k, ⟨t', rfl⟩, h⟩

theorem mt0 {id : String} {C : Str → Prop} {g : Str → V} (rule : ∀ (a : Str) (t : Tok) (s : Shared) (Q : Value → Shared → Prop), C a → (∀ (u : Value) (k : Nat), RelV (g a) u → Q u { s with toks := k }) →
    wpAny (model X.prog X.w) X.A (call (.builtin id) [.str a t]) Q X.xe s) : MtR X id (fun x xs H Q => ∃ a, x = .str a ∧ xs = [] ∧ C a ∧ Q (g a) H) := by
  intro pins s σ H x xs v us Q I rx rs h
  obtain ⟨a, rfl, rfl, hc, h⟩ := h
  obtain ⟨t, rfl⟩ := rx
  cases rs
  exact rule a t s _ hc fun u k r => ⟨g a, H, I.tok k, r, h⟩
theorem mt_isdigit : MtR X "str.isdigit" (fun x xs H Q => ∃ a, x = .str a ∧ xs = [] ∧ True ∧ Q (.bl (Txt.isdigit a)) H) :=
  mt0 (C := fun _ => True) (g := fun a => .bl (Txt.isdigit a)) fun _ _ s _ _ h => PySem.SC.isdigit (h _ s.toks rfl)
theorem mt1 {id : String} {g : Str → Str → V} (rule : ∀ (a b : Str) (t u : Tok) (s : Shared) (Q : Value → Shared → Prop), (∀ (v : Value) (k : Nat), RelV (g a b) v → Q v { s with toks := k }) →
    wpAny (model X.prog X.w) X.A (call (.builtin id) [.str a t, .str b u]) Q X.xe s) : MtR X id (fun x xs H Q => ∃ a b, x = .str a ∧ xs = [.str b] ∧ Q (g a b) H) := by
  intro pins s σ H x xs v us Q I rx rs h
  obtain ⟨a, b, rfl, rfl, h⟩ := h
  obtain ⟨t, rfl⟩ := rx
  cases rs with
  | cons r1 rs =>
    cases rs
    obtain ⟨u, rfl⟩ := r1
    exact rule a b t u s _ fun v k r => ⟨g a b, H, I.tok k, r, h⟩
theorem mt_startswith : MtR X "str.startswith" (fun x xs H Q => ∃ a b, x = .str a ∧ xs = [.str b] ∧ Q (.bl (Txt.startswith a b)) H) :=
  mt1 (g := fun a b => .bl (Txt.startswith a b)) fun _ _ _ _ s _ h => PySem.SC.startswith (h _ s.toks rfl)
/-- int(text) -/
theorem call_int_str : CallR X (.type "int") (fun xs H Q => ∃ a n, xs = [.str a] ∧ PySem.intText? a = some n ∧ a.length ≤ 640 ∧ Q (.int n) H) := by
  intro pins s σ H xs us Q I rs h
  obtain ⟨a, n, rfl, hn, hl, h⟩ := h
  cases rs with
  | cons r1 rs =>
    cases rs
    obtain ⟨t, rfl⟩ := r1
    exact PySem.W.KIN.call_text hn hl ⟨.int n, H, I.tok _, ⟨_, rfl⟩, h⟩
end
section
variable {X : Cx} {o e : Expr} {to te : TE}
def tM0 (r : V → List V → Hp → VK → Prop) (to : TE) : TE := fun σ H Q => to σ H fun x H1 => (∃ a, x = .str a) ∧ r x [] H1 Q
def tM1 (r : V → List V → Hp → VK → Prop) (to te : TE) : TE := fun σ H Q => to σ H fun x H1 => (∃ a, x = .str a) ∧ te σ H1 fun y H2 => r x [y] H2 Q
theorem pe_m0 {id : String} {name : Str} {apos pos : Pos} {r : V → List V → Hp → VK → Prop} (slot : Slot "str" name id) (ty : typeOf (.builtin id) = pure (.type "method_descriptor")) (rule : MtR X id r) (ho : PE X o to)
    (hbase : attributeBase o name X.env (eval o X.env) = eval o X.env := by rfl) (hline : (apos.endLine == pos.line) = true := by rfl) : PE X (.Call (.Attribute o name apos) [] [] pos) (tM0 r to) := by
  intro pins s σ H Q I h
  refine PySem.Call_method0 hbase hline (thn (ho pins s σ H _ I h) fun v s1 ⟨x, H1, I1, r1, q1⟩ => ?_)
  obtain ⟨⟨a, rfl⟩, q1⟩ := q1
  obtain ⟨t, rfl⟩ := _root_.id r1
  exact ⟨"str", _, F.plainAttrs_str, slot, ty, typeIs_str _ _ _, (fun _ e => nomatch e), Calls.callWith_builtin rfl (PySem.evalArgs_none (rule pins s1 σ H1 _ [] _ [] Q I1 r1 .nil q1))⟩
theorem pe_m1 {id : String} {name : Str} {apos pos : Pos} {r : V → List V → Hp → VK → Prop} (slot : Slot "str" name id) (ty : typeOf (.builtin id) = pure (.type "method_descriptor")) (rule : MtR X id r) (ho : PE X o to) (he : PE X e te)
    (hs : starEach [e] X.env = [(false, eval e X.env)] := by rfl) (hbase : attributeBase o name X.env (eval o X.env) = eval o X.env := by rfl) (hline : (apos.endLine == pos.line) = true := by rfl) :
    PE X (.Call (.Attribute o name apos) [e] [] pos) (tM1 r to te) := by
  intro pins s σ H Q I h
  refine PySem.Call_method1 hbase hs hline (thn (ho pins s σ H _ I h) fun v s1 ⟨x, H1, I1, r1, q1⟩ => ?_)
  obtain ⟨⟨a, rfl⟩, q1⟩ := q1
  obtain ⟨t, rfl⟩ := _root_.id r1
  refine ⟨"str", _, F.plainAttrs_str, slot, ty, typeIs_str _ _ _, (fun _ e => nomatch e), Calls.callWith_builtin rfl (Calls.evalArgs_plain (Calls.spliced_cons ?_))⟩
  exact thn (he pins s1 σ H1 _ I1 q1) fun u s2 ⟨y, H2, I2, r2, q2⟩ => Calls.spliced_nil (rule pins s2 σ H2 _ [y] _ [u] Q I2 r1 (.cons r2 .nil) q2)

end
end L2
namespace L2
open PySem PySem.Spec PyProof.Rows
section
variable {X : Cx}
end
theorem IsPart.raw {v : Value} {o : Option Int} (p : IsPart v o) : ∃ l : Option (Int × Tok), v = partValue l ∧ l.map (·.1) = o := by
  cases p with
  | none => exact ⟨none, rfl, rfl⟩
  | int i t => exact ⟨some (i, t), rfl, rfl⟩

/-- a part, clipped, as the text's slice reckons it -/
def clipS (n d : Nat) : Option Int → Int
  | none => (d : Int)
  | some i => max 0 (min (if i < 0 then i + (n : Int) else i) (n : Int))
theorem clipS_eq (n d : Nat) (o : Option Int) : clipS n d o = ((HT.sIx n d o : Nat) : Int) := by
  cases o with
  | none => rfl
  | some v =>
    show max (0 : Int) (min (if v < 0 then v + (n : Int) else v) (n : Int)) = (((if v < 0 then (v + (n : Int)).toNat else min v.toNat n) : Nat) : Int)
    by_cases hv : v < 0
    · simp only [if_pos hv]
      omega
    · simp only [if_neg hv]
      omega
theorem sidx_clip (a b : Option Int) (n : Nat) : Builtin.Str.strSliceIndices a b 1 n = sliceRange (clipS n 0 a) (clipS n n b) 1 := by
  have h1 : ((1 : Int) > 0) = True := by simp
  cases a <;> cases b <;> first
    | rfl
    | (simp only [Builtin.Str.strSliceIndices, clipS, h1, if_true]; rfl)
    | simp [Builtin.Str.strSliceIndices, clipS]
theorem sidx (a b : Option Int) (n : Nat) : Builtin.Str.strSliceIndices a b 1 n = (List.range (HT.sIx n n b - HT.sIx n 0 a)).map (fun k => HT.sIx n 0 a + k) := by
  rw [sidx_clip, clipS_eq, clipS_eq]
  generalize HT.sIx n 0 a = p
  generalize HT.sIx n n b = q
  simp only [sliceRange, show ((1 : Int) > 0) = True from by simp, if_true]
  by_cases hlt : (p : Int) < q
  · have e3 : (((q : Int) - p + 1 - 1) / 1).toNat = q - p := by first | omega | (simp; done) | (simp; omega)
    simp only [hlt, if_true, e3]
    refine List.map_congr_left fun k _ => ?_
    omega
  · have : q - p = 0 := by omega
    simp [hlt, this]

/-- z[lo:hi] -/
def cutS (z : Str) (lo hi : Option Int) : Str :=
  ⟨((z.cps.toList.drop (HT.sIx z.length 0 lo)).take (HT.sIx z.length z.length hi - HT.sIx z.length 0 lo)).toArray⟩
theorem sliceText_cut (z : Str) (lo hi : Option Int) : PySem.StrLaws.sliceText z lo hi = cutS z lo hi := by
  have h1 : HT.sIx z.length 0 lo ≤ z.length := HT.sIx_le _ _ (Nat.zero_le _) _
  have h2 : HT.sIx z.length z.length hi ≤ z.length := HT.sIx_le _ _ (Nat.le_refl _) _
  have hp : HT.sIx z.length 0 lo ≤ max (HT.sIx z.length 0 lo) (HT.sIx z.length z.length hi) := Nat.le_max_left _ _
  have hq : max (HT.sIx z.length 0 lo) (HT.sIx z.length z.length hi) ≤ z.length := Nat.max_le.mpr ⟨h1, h2⟩
  have hd : max (HT.sIx z.length 0 lo) (HT.sIx z.length z.length hi) - HT.sIx z.length 0 lo = HT.sIx z.length z.length hi - HT.sIx z.length 0 lo := by omega
  have e : Builtin.Str.strSliceIndices lo hi 1 z.length =
      Builtin.Str.strSliceIndices (some ((HT.sIx z.length 0 lo : Nat) : Int)) (some ((max (HT.sIx z.length 0 lo) (HT.sIx z.length z.length hi) : Nat) : Int)) 1 z.length := by
    rw [PySem.StrLaws.strSliceIndices_plain hp hq, hd, sidx]
  have e2 : PySem.StrLaws.sliceText z lo hi =
      PySem.StrLaws.sliceText z (some ((HT.sIx z.length 0 lo : Nat) : Int)) (some ((max (HT.sIx z.length 0 lo) (HT.sIx z.length z.length hi) : Nat) : Int)) := by
    unfold PySem.StrLaws.sliceText
    rw [e]
  rw [e2, PySem.StrLaws.sliceText_nat z hp hq, hd]
  rfl
theorem cutS_length (z : Str) (lo hi : Option Int) : (cutS z lo hi).length ≤ z.length := by
  show (((z.cps.toList.drop (HT.sIx z.length 0 lo)).take (HT.sIx z.length z.length hi - HT.sIx z.length 0 lo)).toArray).size ≤ z.cps.size
  rw [List.size_toArray, List.length_take, List.length_drop, Array.length_toList]
  omega
def rSlS : V → Option Int → Option Int → Hp → VK → Prop := fun x lo hi H Q => ∃ z, x = .str z ∧ z.length ≤ sizeLine ∧ Q (.str (cutS z lo hi)) H
theorem sl_str {X : Cx} : SlR X rSlS := by
  intro pins s σ H x v vl vu lo hi sl Q I rx hs pl pu h
  obtain ⟨z, rfl, hz, q⟩ := h
  obtain ⟨t, rfl⟩ := rx
  obtain ⟨os, hos, hcs, hds⟩ := hs
  obtain ⟨l, rfl, rfl⟩ := IsPart.raw pl
  obtain ⟨u, rfl, rfl⟩ := IsPart.raw pu
  refine ⟨"str", _, F.slot_str_getitem.lookup, typeIs_str _ _ _, ?_⟩
  refine wpAny_getItem_str_slice (l := l) (u := u) (st := none) ⟨os, hos, hcs, hds⟩ rfl ?_
  have hl : (PySem.StrLaws.sliceText z (l.map (·.1)) (u.map (·.1))).length ≤ sizeLine := by
    rw [sliceText_cut]
    exact Nat.le_trans (cutS_length z _ _) hz
  rw [← sliceText_cut] at q
  unfold PySem.StrLaws.sliceText at q hl
  show Made.post (if ((1 : Int) == 1 && (Builtin.Str.strSliceIndices (l.map (·.1)) (u.map (·.1)) 1 z.length).length == z.length) = true then Made.val (.str z t)
    else Made.str ⟨((Builtin.Str.strSliceIndices (l.map (·.1)) (u.map (·.1)) 1 z.length).filterMap (z.cps[·]?)).toArray⟩) (EP X pins σ Q) s
  by_cases c : ((1 : Int) == 1 && (Builtin.Str.strSliceIndices (l.map (·.1)) (u.map (·.1)) 1 z.length).length == z.length) = true
  · rw [if_pos c] at q ⊢
    exact ⟨.str z, H, I, ⟨t, rfl⟩, q⟩
  · rw [if_neg c] at q hl ⊢
    exact ⟨hl, .str _, H, I.tok _, ⟨_, rfl⟩, q⟩
end L2
namespace Att
open PySem PySem.W PySem.Calls PyProof.Rows
theorem ints_of_wellAll {P : Params} {h : Heap} : ∀ (ns : List Int) (vs : List Value), WellAll P h vs (ns.map WData.int) → IntsAre vs ns := by
  intro ns
  induction ns with
  | nil =>
    intro vs w
    rw [List.map_nil] at w
    cases w
    exact .nil
  | cons n ns ih =>
    intro vs w
    rw [List.map_cons] at w
    cases w with
    | cons a b =>
      cases a
      exact .cons _ _ (ih _ b)

theorem script_of {l : OpenLaw} {n : Nat} (hn : l.most = some n) {P : Params} {h : Heap} {args : List WData} {vals : List Value}
    (hpre : l.row.toRowW.claim.pre args = true) (hwl : WellAll P h vals args) :
    ∃ a vs ns, vals = [Value.ref a] ∧ args = [WData.list (ns.map WData.int)] ∧ h.get? a = some { cls := .type "list", data := .seq vs.toArray } ∧ IntsAre vs ns ∧ ns.length ≤ n := by
  have hsh : WShape.hasAll [] args [.list .int] = true := (pre_splitW hpre).1
  have hc : l.pre.holds [] { args := args } = true := (pre_splitW hpre).2
  obtain ⟨d, r, rfl, h1, h2⟩ := hasAllW_cons hsh
  obtain rfl := hasAllW_nil h2
  obtain ⟨xs, rfl, h3⟩ := hasW_list h1
  obtain ⟨ns, rfl⟩ := items_int h3
  have hlen : ns.length ≤ n := by
    unfold OpenLaw.pre at hc
    have h4 : (WTm.not (.lt (.lit (.int (n : Int))) (.len (.arg 0)))).holds [] { args := [.list (ns.map .int)] } = true := by
      have h4 := (holds_andW hc).1
      rw [hn] at h4
      exact h4
    have h5 := condW_of h4 (w_not (w_lt w_lit (w_len_list (w_arg rfl))))
    rw [List.length_map] at h5
    refine Nat.le_of_not_lt fun q => ?_
    have q' : (n : Int) < ((ns.length : Nat) : Int) := by omega
    first
      | (rw [decide_eq_true q'] at h5; exact absurd h5 (by decide))
      | (simp at h5; omega)
  cases hwl with
  | cons w1 w2 =>
    cases w2
    cases w1 with
    | list ho hall => exact ⟨_, _, ns, rfl, rfl, ho, ints_of_wellAll ns _ hall, hlen⟩

theorem post_true (l : OpenLaw) (args : List WData) : l.row.toRowW.claim.post args (.bool true) args = true :=
  postW_of (r := l.row.toRowW) (X := (true == true))
    (show WShape.has [] (.bool true) .bool = true by first | rfl | decide | simp [WShape.has, WShape.arms, WShape.armsAll])
    (show (WTm.eq .res (.lit (.bool true))).value [] { args := args, res := some (.bool true), after := args } = some (.bool (true == true)) from w_eq_bool (w_res rfl) w_lit) rfl

/-- the same from a codeAny of the CALL (for a layer whose function contracts speak of calls) -/
theorem attach_call {l : OpenLaw} {n : Nat} {q : Program} {loose : List Str} {XP : (Str → Option Value) → Heap → Prop} {YP : World → Heap → Prop} {d : DefRec}
    (hn : l.most = some n) (hdf : d.params.defaults = [])
    (call : ∀ (w : World) (s₀ s₁ : Shared) (mg mb : Str → Option Value) (fa : Addr) (o : Obj) (pm cd doc : Value) (a : Addr) (vs : List Value) (ns : List Int),
      Ground q loose [] XP w s₀ mg mb s₁.heap → YP w s₁.heap →
      s₁.heap.get? fa = some o → o.data = .func (docDef d.name d.params d.body d.scope pm cd doc) → s₁.heap.CodeRec cd d.name → mg d.name = some (.ref fa) →
      s₁.heap.get? a = some { cls := .type "list", data := .seq vs.toArray } → IntsAre vs ns → ns.length ≤ n → s₁.gens = #[] →
      codeAny (model l.prog w) callerA (.call (.ref fa) ⟨[.ref a], []⟩) (fun r s' => r = .ok (.ret (.bool true)) ∧ OldK s₁.heap s'.heap ∧ s'.os = s₁.os ∧ AllBare s'.gens) s₁) :
    WalkO q loose XP YP l.row.toRowW d [] (fun f vs => PySem.call f vs) := by
  intro w s₀ s₁ mg mb G Y fa o pm cd doc dV kV ho hd hcd hD hmg hg args vals as hpre hlay hrd hwl hlo
  obtain rfl : dV = .none := Dflts.none hD hdf
  obtain rfl : kV = .none := Dflts.noKw hD
  obtain ⟨a, vs, ns, rfl, rfl, hobj, hints, hlen⟩ := script_of hn hpre hwl
  refine enter_call (codeAny_mono (call w s₀ s₁ mg mb fa o pm cd doc a vs ns G Y ho (fd_plain hd) hcd hmg hobj hints hlen hg) fun r s' hq => ?_)
  obtain ⟨rfl, h2, h3, h4⟩ := hq
  exact ⟨.inl ⟨.bool true, .bool true, [], rfl, fun _ => rfl, .bool true, post_true l _, fun _ => ⟨List.Pairwise.nil, fun _ hm => (nomatch hm)⟩⟩, h2, h3, h4⟩

section
variable {prog : Program} {w : World} {A : Around} {E : Value → Shared → Prop} {s : Shared} {K : Frag}
end
end Att
namespace L2
open PySem PySem.Spec PyProof.Rows
theorem vals_ints : ∀ {vs : List Value} {ns : List Int}, IntsAre vs ns → Vals (ns.map V.int) vs
  | _, _, .nil => .nil
  | _, _, .cons n t h => .cons ⟨t, rfl⟩ (vals_ints h)

end L2
namespace L2
open PySem PySem.Spec PyProof.Rows
end L2
namespace L2
open PySem PySem.Spec PyProof.Rows
def defArgs (s : Stmt) : Arguments := match s with
  | .FunctionDef _ a _ _ _ _ _ _ _ _ => a
  | _ => { posonlyargs := [], args := [], vararg := none, kwonlyargs := [], kw_defaults := [], kwarg := none, defaults := [] }
def defBody (s : Stmt) : List Stmt := match s with
  | .FunctionDef _ _ b _ _ _ _ _ _ _ => b
  | _ => []
def defScope (s : Stmt) : Scope := match s with
  | .FunctionDef _ _ _ _ _ _ sc _ _ _ => sc
  | _ => { kind := .function, names := [], isGenerator := false, isCoroutine := false }

abbrev CX0 : CXT := fun _ _ _ _ _ _ => False
abbrev E0 : XK := fun _ _ _ => False
theorem pass0 {X : Cx} : Passes CX0 X E0 := fun _ _ _ _ _ _ _ h => h.elim

structure Fun (K : PySem.W.Frag) (x qual : Str) (st : Stmt) (f : Addr) (fd : FuncData) : Prop where
  ex : ∃ (oc : Value) (od : Option Addr) (kV doc pm : Value) (an : Option Addr) (cdv ct : Value) (osl : Array (Option Value)),
    fd = PySem.W.fnOf x qual (defArgs st) (defBody st) (defScope st) .none kV doc pm an cdv ct ∧ K.lookup f = some ⟨oc, od, .func fd, osl⟩ ∧ PySem.W.codeIn K cdv qual = true
  kp : PySem.W.keepIn K (.ref f) = true
section
variable {P : Program} {w : World} {K : PySem.W.Frag} {mg : Str → Option Value} {base : Heap}
/-- THE RULE for a def: its body as a term of rules, and the reading of that term -/
theorem Fun.ok {x qual : Str} {st : Stmt} {f : Addr} {fd : FuncData} {N ps : List Str} {k : Nat} {sp : Sp} (F : Fun K x qual st f fd) (S : FnScope N ps (defScope st)) (len : ∀ vs H Q E, sp vs H Q E → vs.length = ps.length)
    (hbody : ∀ (cdv : Value) (A : Around) (outer : List Env) (s : Shared) (H : Hp) (vs : List V) (Q : VK) (E : XK) (gp : Array GenState → Drawn → Prop), Cl (k + 1) gp → Room k (A.deeper (envOfC qual (defScope st) s.heap.objs.size f cdv)) → sp vs H Q E →
      ∃ t, PSs (cxOf CX0 P w K mg base N qual (defScope st) f cdv A outer s H E gp).nox (defBody st) t ∧ t { nx := fun _ H' => Q .non H', rt := Q } (start N vs) H) : FnOk P w K mg base CX0 (k + 1) f fd ps sp := by
  obtain ⟨oc, od, kV, doc, pm, an, cdv, ct, osl, rfl, lk, hcd⟩ := F.ex
  refine fn_of lk hcd S len fun A outer s H vs Q E gp hcl hr hsp => ?_
  obtain ⟨t, h, q⟩ := hbody cdv A outer s H vs Q E gp hcl hr hsp
  exact ⟨t, h.nox, q⟩
/-- how its arguments bind (no defaults): h is «fun _ _ _ _ _ _ us hl => match us, hl with | [_, _], _ => rfl», one _ a parameter -/
theorem Fun.binds {x qual : Str} {st : Stmt} {f : Addr} {fd : FuncData} {ps : List Str} (F : Fun K x qual st f fd)
    (h : ∀ (kV doc pm : Value) (an : Option Addr) (cdv ct : Value) (us : List Value), us.length = ps.length → bindArgs (PySem.W.fnOf x qual (defArgs st) (defBody st) (defScope st) .none kV doc pm an cdv ct) ⟨us, []⟩ = pure (ps.zip us)) : Binds K fd ps [] := by
  obtain ⟨oc, od, kV, doc, pm, an, cdv, ct, osl, rfl, lk, hcd⟩ := F.ex
  exact .all (h kV doc pm an cdv ct)
theorem fun_mk {x qual : Str} {st : Stmt} {f : Addr} {oc : Value} {od an : Option Addr} {osl : Array (Option Value)} {kV doc pm cdv ct : Value} (l : K.lookup f = some ⟨oc, od, .func (PySem.W.fnOf x qual (defArgs st) (defBody st) (defScope st) .none kV doc pm an cdv ct), osl⟩)
    (c : PySem.W.codeIn K cdv qual = true) (k : PySem.W.keepIn K (.ref f) = true) : Fun K x qual st f (PySem.W.fnOf x qual (defArgs st) (defBody st) (defScope st) .none kV doc pm an cdv ct) := ⟨⟨oc, od, kV, doc, pm, an, cdv, ct, osl, rfl, l, c⟩, k⟩
end
section
variable {X : Cx}
theorem pv (i : Nat) {x : Str} {pos : Pos} (hN : X.N[i]? = some x := by rfl) (hv : Vis X.env.scope x := by first | exact Or.inl rfl | exact Or.inr (Or.inl rfl) | exact Or.inr (Or.inr rfl)) (hd : (x == ("__debug__" : Str)) = false := by decide)
    (hcd : (x == ("__classdict__" : Str)) = false := by decide) : PE X (.Name x pos) (tVar i) := pe_var hN hv hd hcd
end
theorem ite2 {c A B : Prop} [Decidable c] (h1 : c → A) (h2 : ¬ c → B) : if c then A else B := by
  by_cases h : c
  · rw [if_pos h]
    exact h1 h
  · rw [if_neg h]
    exact h2 h
/-- all that was tracked is as it was -/
def Same (H H' : Hp) : Prop := ∀ b o, H b = some o → H' b = some o
theorem Same.refl (H : Hp) : Same H H := fun _ _ h => h
theorem Same.trans {H H1 H2 : Hp} (a : Same H H1) (b : Same H1 H2) : Same H H2 := fun c o h => b c o (a c o h)
theorem Same.free {H H' : Hp} (e : Same H H') {l : Addr} (h : H' l = Option.none) : H l = Option.none := by
  cases q : H l with
  | none => rfl
  | some o =>
    rw [e l o q] at h
    cases h
theorem Same.seq {K : PySem.W.Frag} {H H' : Hp} {a : Addr} {xs : List V} (e : Same H H') (h : SqL K H a xs) : SqL K H' a xs := by
  rcases h with (h | ⟨o, h⟩) | h
  · exact .inl (.inl (e _ _ h))
  · exact .inl (.inr ⟨o, e _ _ h⟩)
  · exact .inr h

section
variable {κ : Type} [DecidableEq κ]
end
/-- a new instance and its __init__ leave all that was tracked as it was -/
theorem Same.made {H H1 : Hp} {x dx C : Addr} (nx : H x = Option.none) (nd : H dx = Option.none) (k : ∀ b o, (upd (upd H dx (.own x)) x (.ins C dx [])) b = some o → b ≠ x → H1 b = some o) : Same H H1 := fun b o e =>
  k b o (by rw [upd_ne (ne_of_none e nx), upd_ne (ne_of_none e nd)]; exact e) (ne_of_none e nx)
end L2
set_option Elab.async false
set_option linter.all false
set_option maxRecDepth 100000
namespace NP
open PySem PySem.Spec PyProof.Rows L2
mutual
inductive Th (K : PySem.W.Frag) (H : Hp) : V → PyData → Prop
  | dp {v : V} {d : PyData} : Dp K H v d → Th K H v d
  | dct {a : Addr} {kis : List (Int × Int)} : Rd H a (.dK (kis.map fun p => (Sum.inl p.1, V.int p.2))) → Th K H (.ref a) (.dict (kis.map fun p => (PyData.int p.1, PyData.int p.2)))
  | lst {a : Addr} {xs : List V} {ds : List PyData} : SqL K H a xs → ThAll K H xs ds → Th K H (.ref a) (.list ds)
  | tup {a : Addr} {xs : List V} {ds : List PyData} : SqT K H a xs → ThAll K H xs ds → Th K H (.ref a) (.tuple ds)
inductive ThAll (K : PySem.W.Frag) (H : Hp) : List V → List PyData → Prop
  | nil : ThAll K H [] []
  | cons {v : V} {vs : List V} {d : PyData} {ds : List PyData} : Th K H v d → ThAll K H vs ds → ThAll K H (v :: vs) (d :: ds)
end
def tyD : PyData → String
  | .none => "NoneType"
  | .bool _ => "bool"
  | .int _ => "int"
  | .str _ => "str"
  | .list _ => "list"
  | .tuple _ => "tuple"
  | .dict _ => "dict"
def isi (t n : String) : Bool := t == n || (t == "bool" && n == "int")
def named (n : String) : Prop := n = "int" ∨ n = "bool" ∨ n = "tuple" ∨ n = "list"
theorem kit_ok (K : PySem.W.Frag) (d : PyData) {n : String} (h : named n) : PySem.W.kitOne K (.type (tyD d)) (.type n) = some (isi (tyD d) n) := by
  rcases h with rfl | rfl | rfl | rfl <;> cases d <;> first | rfl | (with_unfolding_all rfl) | decide +kernel
section
variable {X : Cx} {pins : List (Addr × Obj)} {σ : L2.St} {H : Hp} {s : Shared} {A : Around} {E : Value → Shared → Prop} {Q : Value → Shared → Prop}
theorem isinst_th {x : V} {u : Value} {d : PyData} {n : String} (I : Inv X pins σ H s) (h : Th X.K H x d) (rx : RelV x u) (hn : named n) (q : ∀ tk, Q (.bool (isi (tyD d) n)) { s with toks := tk }) :
    wpAny (model X.prog X.w) A (call (.builtin "isinstance") [u, .type n]) Q E s := by
  have e := kit_ok X.K d hn
  cases h with
  | dp hd =>
    cases hd with
    | non => cases (show u = Value.none from rx); exact PySem.W.kia_one PySem.W.kitx_none I.kIn True.intro e (fun z => nomatch z) q
    | bl y => cases (show u = Value.bool y from rx); exact PySem.W.kia_one PySem.W.kitx_bool I.kIn True.intro e (fun z => nomatch z) q
    | int i => obtain ⟨t, z⟩ := (show ∃ t, u = Value.int i t from rx); cases z; exact PySem.W.kia_one PySem.W.kitx_int I.kIn True.intro e (fun z => nomatch z) q
    | str y => obtain ⟨t, z⟩ := (show ∃ t, u = Value.str y t from rx); cases z; exact PySem.W.kia_one PySem.W.kitx_str I.kIn True.intro e (fun z => nomatch z) q
    | @lst a xs ds hs ha =>
      cases (show u = Value.ref a from rx)
      obtain ⟨its, _, ⟨o, _, ho, hc, _⟩, _⟩ := I.list hs
      exact PySem.W.kia_one PySem.W.kitx_list I.kIn ⟨o, ho, hc⟩ e (fun z => nomatch z) q
    | @tup a xs ds hs ha =>
      cases (show u = Value.ref a from rx)
      obtain ⟨its, _, ⟨o, ho, hc, _⟩, _⟩ := I.tuple hs
      exact PySem.W.kia_one PySem.W.kitx_tuple I.kIn ⟨o, ho, hc⟩ e (fun z => nomatch z) q
  | @dct a kis hr =>
    cases (show u = Value.ref a from rx)
    obtain ⟨_, _, vs, _, o, es, ep, h1, h2, _⟩ := dk_rd I.hok hr
    exact PySem.W.kia_one PySem.W.kitx_dict I.kIn ⟨o, h1, h2.1⟩ e (fun z => nomatch z) q
  | @lst a xs ds hs ha =>
    cases (show u = Value.ref a from rx)
    obtain ⟨its, _, ⟨o, _, ho, hc, _⟩, _⟩ := I.list hs
    exact PySem.W.kia_one PySem.W.kitx_list I.kIn ⟨o, ho, hc⟩ e (fun z => nomatch z) q
  | @tup a xs ds hs ha =>
    cases (show u = Value.ref a from rx)
    obtain ⟨its, _, ⟨o, ho, hc, _⟩, _⟩ := I.tuple hs
    exact PySem.W.kia_one PySem.W.kitx_tuple I.kIn ⟨o, ho, hc⟩ e (fun z => nomatch z) q
/-- isinstance(x, int), .. bool, tuple, list -/
theorem cr_isinst : CallR X (.builtin "isinstance") (fun xs H Q => ∃ x n d, xs = [x, .ty n] ∧ Th X.K H x d ∧ named n ∧ Q (.bl (isi (tyD d) n)) H) := by
  intro pins s σ H xs us Q I r h
  obtain ⟨x, n, d, rfl, ht, hn, q⟩ := h
  cases r with
  | cons r1 r2 =>
    cases r2 with
    | cons r3 r4 =>
      cases r4
      cases r3
      exact isinst_th I ht r1 hn fun tk => ⟨.bl _, H, I.tok _, rfl, q⟩
end
def sim : HO → Bool
  | .lst _ => true
  | .tup _ => true
  | .dK _ => true
  | _ => false
def RdLe (H H' : Hp) : Prop := ∀ a u, sim u = true → Rd H a u → Rd H' a u
theorem same_rd {H H' : Hp} {a : Addr} {u : HO} (e : Same H H') (h : Rd H a u) : Rd H' a u := by
  rcases h with h | ⟨o, h⟩
  · exact .inl (e _ _ h)
  · exact .inr ⟨o, e _ _ h⟩
theorem le_same {H H' : Hp} (e : Same H H') : RdLe H H' := fun _ _ _ h => same_rd e h
theorem le_seqL {K : PySem.W.Frag} {H H' : Hp} {a : Addr} {xs : List V} (e : RdLe H H') (h : SqL K H a xs) : SqL K H' a xs := by
  rcases h with h | h
  · exact .inl (e _ _ rfl h)
  · exact .inr h
theorem le_seqT {K : PySem.W.Frag} {H H' : Hp} {a : Addr} {xs : List V} (e : RdLe H H') (h : SqT K H a xs) : SqT K H' a xs := by
  rcases h with h | h
  · exact .inl (e _ _ rfl h)
  · exact .inr h
mutual
theorem dp_le {K : PySem.W.Frag} {H H' : Hp} (e : RdLe H H') : ∀ (d : PyData) (v : V), Dp K H v d → Dp K H' v d
  | .none, _, h => by cases h; exact .non
  | .bool b, _, h => by cases h; exact .bl b
  | .int i, _, h => by cases h; exact .int i
  | .str x, _, h => by cases h; exact .str x
  | .list ds, _, h => by
    cases h with
    | lst hs ha => exact .lst (le_seqL e hs) (dpa_le e ds _ ha)
  | .tuple ds, _, h => by
    cases h with
    | tup hs ha => exact .tup (le_seqT e hs) (dpa_le e ds _ ha)
  | .dict _, _, h => by cases h
theorem dpa_le {K : PySem.W.Frag} {H H' : Hp} (e : RdLe H H') : ∀ (ds : List PyData) (vs : List V), DpAll K H vs ds → DpAll K H' vs ds
  | [], _, h => by cases h; exact .nil
  | d :: ds, _, h => by
    cases h with
    | cons h1 h2 => exact .cons (dp_le e d _ h1) (dpa_le e ds _ h2)
end
mutual
theorem th_leD {K : PySem.W.Frag} {H H' : Hp} (e : RdLe H H') : ∀ (d : PyData) (v : V), Th K H v d → Th K H' v d
  | .none, _, h => by cases h with | dp h => exact .dp (dp_le e _ _ h)
  | .bool b, _, h => by cases h with | dp h => exact .dp (dp_le e _ _ h)
  | .int i, _, h => by cases h with | dp h => exact .dp (dp_le e _ _ h)
  | .str x, _, h => by cases h with | dp h => exact .dp (dp_le e _ _ h)
  | .list ds, _, h => by
    cases h with
    | dp h => exact .dp (dp_le e _ _ h)
    | lst hs ha => exact .lst (le_seqL e hs) (tha_le e ds _ ha)
  | .tuple ds, _, h => by
    cases h with
    | dp h => exact .dp (dp_le e _ _ h)
    | tup hs ha => exact .tup (le_seqT e hs) (tha_le e ds _ ha)
  | .dict _, _, h => by
    cases h with
    | dp h => exact .dp (dp_le e _ _ h)
    | dct h => exact .dct (e _ _ rfl h)
theorem tha_le {K : PySem.W.Frag} {H H' : Hp} (e : RdLe H H') : ∀ (ds : List PyData) (vs : List V), ThAll K H vs ds → ThAll K H' vs ds
  | [], _, h => by cases h; exact .nil
  | d :: ds, _, h => by
    cases h with
    | cons h1 h2 => exact .cons (th_leD e d _ h1) (tha_le e ds _ h2)
end
theorem th_le {K : PySem.W.Frag} {H H' : Hp} {v : V} {d : PyData} (e : RdLe H H') (h : Th K H v d) : Th K H' v d := th_leD e d v h
theorem th_same {K : PySem.W.Frag} {H H' : Hp} {v : V} {d : PyData} (e : Same H H') (h : Th K H v d) : Th K H' v d := th_le (le_same e) h

/-- what is asked that a thing be shown -/
structure Shows (d : PyData) : Prop where
  ok : d.showable = true
  sz : d.shown.length ≤ sizeLine
  dp : d.depth ≤ 10
section
variable {X : Cx} {pins : List (Addr × Obj)} {σ : L2.St} {H : Hp} {s : Shared}
theorem sl (xs : List PyData) : (PyData.list xs).shown = listText (PyData.shownAll xs) := by simp only [PyData.shown]
theorem st (xs : List PyData) : (PyData.tuple xs).shown = tupleText (PyData.shownAll xs) := by simp only [PyData.shown]
theorem s0 : listText (PyData.shownAll []) = ("[]" : Str) := by simp only [PyData.shownAll]; exact listText_nil
end
section
variable {X : Cx}
end
end NP
set_option Elab.async false
set_option linter.all false
set_option maxRecDepth 100000
namespace NP
open PySem PySem.Spec PyProof.Rows L2
def TabP (P : Addr) : HO := .ext fun h => ∃ ps : Array Value, h.get? P = some { cls := .none, data := .fields ps } ∧ TriplesOk ps.toList
theorem tab_ok {P : Program} {w : World} {H : Hp} {h : Heap} {T : Addr} {ps : Array Value} (e : h.get? T = some { cls := .none, data := .fields ps }) (t : TriplesOk ps.toList) : ObjOk P w H h T (TabP T) :=
  ⟨⟨ps, e, t⟩, ⟨_, e⟩, fun _ _ ⟨qs, e1, t1⟩ k => ⟨qs, k _ e1, t1⟩⟩
structure CodeB (base : Heap) (mg : Str → Option Value) (c T : Addr) : Prop where
  ne : c ≠ T
  cd : ∃ o vs file tf flags tg inF text tt, base.get? c = some o ∧ o.cls = .type "code" ∧ vs[11]? = some (.ref T) ∧ o.data = .fields vs ∧ vs.getD 11 .none = .ref T ∧ vs.getD 18 .none = .str file tf ∧ vs.getD 7 .none = .int flags tg ∧ vs.getD 9 .none = .bool inF ∧ vs.getD 10 .none = .int text tt
  bm : ∃ bm ob, BMod base mainGlobals mg bm ob

structure Qs (P : Program) (w : World) (K : PySem.W.Frag) (mg : Str → Option Value) (base : Heap) (H : Hp) (s : Shared) : Prop where
  mod : Mod K mg base
  bs : ∀ b o, base.get? b = some o → s.heap.get? b = some o ∧ H b = none
  bsz : base.objs.size ≤ s.heap.objs.size
  hok : HOk P w H s.heap
  fz : ∀ b u, H b = some u → ∃ o u', u = .frz o u'
theorem Qs.tok {P : Program} {w : World} {K : PySem.W.Frag} {mg : Str → Option Value} {base : Heap} {H : Hp} {s : Shared} (q : Qs P w K mg base H s) (tk : Nat) : Qs P w K mg base H { s with toks := tk } := ⟨q.mod, q.bs, q.bsz, q.hok, q.fz⟩
theorem Qs.kIn {P : Program} {w : World} {K : PySem.W.Frag} {mg : Str → Option Value} {base : Heap} {H : Hp} {s : Shared} (q : Qs P w K mg base H s) : K.In s.heap := q.mod.kin.keeps fun b o e => (q.bs b o e).1
/-- a def of few calls leaves a quiet state as it was -/
theorem quiet_call {P : Program} {w : World} {K : PySem.W.Frag} {mg : Str → Option Value} {base : Heap} {H : Hp} {s : Shared} {k : Nat} {f : Addr} {fd : FuncData} {ps : List Str} {sp : Sp} {A : Around} {E : Value → Shared → Prop} {us : List Value} {vs : List V} {r : V}
    (F : FnOk P w K mg base CX0 k f fd ps sp) (hk : k < 10) (hb : Binds K fd ps []) (q : Qs P w K mg base H s) (hr : Room k A) (rv : Vals vs us) (h : sp vs H (fun v _ => v = r) E0) :
    wpAny (model P w) A (call (.ref f) us) (fun u s' => RelV r u ∧ Keeps s s') E s := by
  have hl : us.length = ps.length := by rw [← rv.length]; exact F.len _ _ _ _ h
  have bd := hb s us q.kIn (by rw [List.append_nil]; exact hl)
  rw [List.append_nil] at bd
  refine wpAny_call (codeAny_mono (F.run A [] s H ⟨us, []⟩ us vs _ E0 (fun g d => g = s.gens ∧ d = s.drawn) (fun z => absurd z (by omega)) ⟨rfl, rfl⟩ (fun z => ?_) hr ⟨q.mod, q.bs, q.bsz, trivial, fun b hb => absurd (show b ∈ ([] : List Addr) from hb) (by simp), q.hok⟩ bd rv h) fun res s' hq => ?_)
  · have z1 := ((z #[] { order := 0 }).mpr AllBare.empty).2
    have z2 := ((z #[] { order := 1 }).mpr AllBare.empty).2
    rw [← z2] at z1
    cases z1
  · cases res with
    | error e => exact hq.elim
    | ok fl =>
      cases fl with
      | next => exact hq.elim
      | brk => exact hq.elim
      | cont => exact hq.elim
      | ret u =>
        obtain ⟨v, H', os, ⟨g1, g2⟩, un, hok', r', e⟩ := hq
        obtain rfl : v = r := e
        refine ⟨r', s'.heap, s'.toks, ?_, fun b o eb => ?_⟩
        · obtain ⟨hh, g, d, t, os'⟩ := s'
          obtain rfl : os' = s.os := os
          obtain rfl : g = s.gens := g1
          obtain rfl : d = s.drawn := g2
          rfl
        · cases hb : H b with
          | none => exact un.keep b o eb hb (by intro z; exact absurd (show b ∈ ([] : List Addr) from z) (by simp)) (by simp)
          | some x =>
            obtain ⟨ob, u', rfl⟩ := q.fz b x hb
            obtain ⟨e1, _⟩ := (show ObjOk P w H s.heap b (.frz ob u') from q.hok b _ hb)
            obtain ⟨e2, _⟩ := (show ObjOk P w H' s'.heap b (.frz ob u') from hok' b _ (un.frzs b ob u' hb))
            rw [eb] at e1
            cases e1
            exact e2
theorem keeps_tok {s s' : Shared} {tk : Nat} (h : Keeps { s with toks := tk } s') : Keeps s s' := by
  obtain ⟨h', tk', rfl, k⟩ := h
  exact ⟨h', tk', rfl, k⟩
theorem keeps_refl (s : Shared) : Keeps s s := ⟨s.heap, s.toks, rfl, fun _ _ e => e⟩

def frzH (h : Heap) (H : Hp) : Hp := fun b => match H b with
  | some (.lst xs) => (h.get? b).map fun o => .frz o (.lst xs)
  | some (.tup xs) => (h.get? b).map fun o => .frz o (.tup xs)
  | some (.dK kvs) => (h.get? b).map fun o => .frz o (.dK kvs)
  | some (.frz o u) => if sim u = true then some (.frz o u) else none
  | _ => none
theorem frz_shape {h : Heap} {H : Hp} {b : Addr} {u : HO} (e : frzH h H b = some u) : ∃ o v, u = .frz o v ∧ sim v = true ∧ (H b = some v ∧ h.get? b = some o ∨ H b = some (.frz o v)) := by
  unfold frzH at e
  split at e
  · obtain ⟨o, h1, rfl⟩ := Option.map_eq_some_iff.mp e
    exact ⟨o, _, rfl, rfl, .inl ⟨by assumption, h1⟩⟩
  · obtain ⟨o, h1, rfl⟩ := Option.map_eq_some_iff.mp e
    exact ⟨o, _, rfl, rfl, .inl ⟨by assumption, h1⟩⟩
  · obtain ⟨o, h1, rfl⟩ := Option.map_eq_some_iff.mp e
    exact ⟨o, _, rfl, rfl, .inl ⟨by assumption, h1⟩⟩
  · split at e
    · cases e
      exact ⟨_, _, rfl, by assumption, .inr (by assumption)⟩
    · cases e
  · cases e
theorem frz_none {h : Heap} {H : Hp} {b : Addr} (e : H b = none) : frzH h H b = none := by
  unfold frzH
  rw [e]
theorem frz_le {P : Program} {w : World} {h : Heap} {H : Hp} (hok : HOk P w H h) : RdLe H (frzH h H) := fun a u su hr => by
  rcases hr with e | ⟨o, e⟩
  · have lt := hok.lt e
    cases u with
    | lst xs =>
      obtain ⟨_, its, n, _, e1⟩ := (show ObjOk P w H h a (.lst xs) from hok a _ e)
      refine .inr ⟨{ cls := .type "list", data := .seq its.toArray n }, ?_⟩
      unfold frzH; rw [e]; show (h.get? a).map _ = _; rw [e1]; rfl
    | tup xs =>
      obtain ⟨_, its, _, o, e1, _⟩ := (show ObjOk P w H h a (.tup xs) from hok a _ e)
      refine .inr ⟨o, ?_⟩
      unfold frzH; rw [e]; show (h.get? a).map _ = _; rw [e1]; rfl
    | dK kvs =>
      obtain ⟨_, _, vs, _, o, es, ep, e1, _⟩ := (show ObjOk P w H h a (.dK kvs) from hok a _ e)
      refine .inr ⟨o, ?_⟩
      unfold frzH; rw [e]; show (h.get? a).map _ = _; rw [e1]; rfl
    | _ => cases su
  · refine .inr ⟨o, ?_⟩
    unfold frzH
    rw [e]
    show (if sim u = true then _ else _) = _
    rw [if_pos su]
/-- such a description holds on where the objects stay -/
theorem frz_ok {P : Program} {w : World} {h h' : Heap} {H : Hp} (hok : HOk P w H h) (k : ∀ b o u, frzH h H b = some u → h.get? b = some o → h'.get? b = some o) : HOk P w (frzH h H) h' := fun b u e => by
  obtain ⟨o, v, rfl, sv, hh⟩ := frz_shape e
  have key : ObjOk P w H h b v ∧ h.get? b = some o := by
    rcases hh with ⟨e1, e2⟩ | e1
    · exact ⟨hok b _ e1, e2⟩
    · obtain ⟨e2, e3⟩ := (show ObjOk P w H h b (.frz o v) from hok b _ e1)
      exact ⟨e3, e2⟩
  obtain ⟨ov, eo⟩ := key
  have go : ∀ x, h.get? b = some x → h'.get? b = some x := fun x ex => k b x _ e ex
  refine ⟨go _ eo, ?_⟩
  cases v with
  | lst xs => obtain ⟨z, its, n, r, e1⟩ := ov; exact ⟨z, its, n, r, go _ e1⟩
  | tup xs => obtain ⟨z, its, r, ob, e1, c⟩ := ov; exact ⟨z, its, r, ob, go _ e1, c⟩
  | dK kvs => obtain ⟨z, y, vs, r, ob, es, ep, e1, c⟩ := ov; exact ⟨z, y, vs, r, ob, es, ep, go _ e1, c⟩
  | _ => cases sv
theorem passing_all (n : Nat) : passing (fun _ => true) n 0 = List.range n := by
  unfold passing
  rw [List.drop_zero]
  exact List.filter_eq_self.mpr fun _ _ => rfl

def tAllGen (K : PySem.W.Frag) (T : Addr) (R : L2.St → Hp → V → Bool → Prop) (ts : TE) : TE := fun σ H Q => ts σ H fun v H1 => ∃ (a : Addr) (xs : List V) (bs : List Bool), v = .ref a ∧ (SqT K H1 a xs ∨ SqL K H1 a xs) ∧ H1 T = some (TabP T) ∧ bs.length = xs.length ∧
  (∀ (i : Nat) (y : V), xs[i]? = some y → ∃ b, bs[i]? = some b ∧ R σ H1 y b) ∧ Q (.bl (bs.all id)) H1
section
variable {X : Cx} {x : Str} {px p pos gpos : Pos} {elt iter : Expr} {scope : Scope} {ts : TE} {c T : Addr} {R : L2.St → Hp → V → Bool → Prop} {cl : List (Str × Addr)}
/-- the values of names that stand in cells -/
def FreeV (X : Cx) (σ : L2.St) (h : Heap) : Prop := ∀ (i : Nat) (y : Str) (v : V), X.N[i]? = some y → σ[i]? = some (some v) → Vis X.env.scope y → (X.env.kindOf y = some .cell ∨ X.env.kindOf y = some .free) → ∃ u k, RelV v u ∧ X.env.cells.lookup y = some k ∧ h.IsCell k (some u)
theorem pe_allGenF (hall : X.mg "all" = none) (hg : Gl X "all") (hgp : ∀ g d, X.gp g d ↔ AllBare g) (hcalm : X.calm = true) (hroom : X.A.depth < recursionLimit) (hit : PE X iter ts) (hcode : X.env.code = .ref c) (hcb : CodeB X.base X.mg c T)
    (hR : ∀ (σ : L2.St) (H H' : Hp) (y : V) (b : Bool), RdLe H H' → R σ H y b → R σ H' y b)
    (helt : ∀ (σ : L2.St) (code : Value) (C : Addr) (A' : Around) (E' : Value → Shared → Prop) (s2 : Shared) (m2 : Str → Option Value) (H : Hp) (y : V) (v : Value) (b : Bool), A'.handled = none → A'.depth ≤ X.A.depth + 1 → A'.units ≤ X.A.units + 8 → Qs X.prog X.w X.K X.mg X.base H s2 →
      s2.heap.Ns C m2 → m2 x = some v → RelV y v → FreeV X σ s2.heap → R σ H y b → wpAny (model X.prog X.w) A' (eval elt (genEnv scope cl C code builtinsNs X.env)) (fun u s3 => u = .bool b ∧ Keeps s2 s3) E' s2)
    (hco : scope.isCoroutine = false := by rfl) (hclos : closureFor scope X.env = pure cl := by rfl) (hcell : ∀ y ∈ scope.names, y.2 ≠ .cell := by decide) (h0 : scope.names.lookup (".0" : Str) = some NameKind.local := by rfl)
    (hx : scope.names.lookup x = some .local := by rfl) (hkind : scope.kind = .function := by rfl) (hfold : ∀ x, genFold iter X.env x = pure x := by intro _; rfl)
    (he : starEach [.GeneratorExp elt [⟨.Name x px, iter, [], 0⟩] scope gpos] X.env = (false, eval (.GeneratorExp elt [⟨.Name x px, iter, [], 0⟩] scope gpos) X.env) :: starEach [] X.env := by rfl) (hpl : (backTo pos (starEach [] X.env)).any (·.1) = false := by rfl) :
    PE X (.Call (.Name "all" p) [.GeneratorExp elt [⟨.Name x px, iter, [], 0⟩] scope gpos] [] pos) (tAllGen X.K T R ts) := by
  intro pins s σ H Q I h
  have hh := I.ok.hd hcalm
  refine wpAny_Call_Name_kw (ld_blt I hg hall boot_all ?_ (by decide) (by decide))
  refine PyProof.Rows.callWith_builtin1 ?_ he hpl
  rw [he]
  show wpAny _ _ (spliced ((false, eval (.GeneratorExp elt [⟨.Name x px, iter, [], 0⟩] scope gpos) X.env) :: backTo pos (starEach [] X.env))) _ _ s
  refine Calls.spliced_cons ?_
  refine wpAny_GeneratorExp_walksQD (cl := cl) hh hco hclos hcell h0 hx hkind hroom (thn (hit pins s σ H _ I h) fun u s1 ⟨v, H1, I1, rv, q1⟩ => ?_) hfold
  obtain ⟨a, xs, bs, rfl, hsq, hT, hbl, hbs, q⟩ := q1
  obtain rfl : u = Value.ref a := rv
  have src : ∃ (o : Obj) (its : List Value) (ax : Addr) (St0 : Nat → Heap → Prop), Vals xs its ∧ ax < s1.heap.objs.size ∧ ax ≠ T ∧
      (∀ (Q' : Value → Shared → Prop) (E' : Value → Shared → Prop), Q' (.ref s1.heap.objs.size) { s1 with heap := s1.heap.push o } → wpAny (model X.prog X.w) X.A (pyIter (.ref a)) Q' E' s1) ∧
      (∀ A' : Around, A'.handled = none → Walks X.prog X.w A' s1.heap.objs.size [s1.heap.objs.size, ax] [s1.heap.objs.size] its.toArray.size (fun i v => its.toArray[i]? = some v) St0) ∧ St0 0 (s1.heap.push o) ∧ ∃ o2, (s1.heap.push o).get? s1.heap.objs.size = some o2 := by
    obtain ⟨psT, eT, tT⟩ := (show ObjOk X.prog X.w H1 s1.heap T (TabP T) from I1.hok T _ hT).1
    rcases hsq with hsq | hsq
    · obtain ⟨its, r, ht, _⟩ := I1.tuple hsq
      have ht' : s1.heap.IsTuple a its.toArray := ht
      have lt : a < s1.heap.objs.size := ht.lt
      refine ⟨_, its, a, _, r, lt, fun e => ?_, fun Q' E' hq => wpAny_pyIter_tuple ht' hq, fun A' hA => Walks.tuple hA _ _ (Nat.ne_of_lt lt) _, ⟨⟨_, Heap.get?_push_size _ rfl, rfl, rfl⟩, ht'.push _⟩, _, Heap.get?_push_size _ rfl⟩
      obtain ⟨ob, e1, e2, _⟩ := ht
      rw [e, eT] at e1
      cases e1
      cases e2
    · obtain ⟨its, r, ⟨ob, n, e1, e2, e3, e4⟩, _⟩ := I1.list hsq
      have hl : s1.heap.IsList a its.toArray := ⟨ob, e1, e2, n, e4⟩
      have lt : a < s1.heap.objs.size := Heap.lt_size e1
      refine ⟨_, its, a, _, r, lt, fun e => ?_, fun Q' E' hq => wpAny_pyIter_list hl hq, fun A' hA => Walks.list hA _ _ (Nat.ne_of_lt lt) _, ⟨⟨_, Heap.get?_push_size _ rfl, rfl, rfl⟩, hl.push _⟩, _, Heap.get?_push_size _ rfl⟩
      rw [e, eT] at e1
      cases e1
      cases e2
  obtain ⟨o, its, ax, St0, rits, axlt, axT, hiter, W, hst, o2, e2⟩ := src
  refine hiter _ _ ?_
  obtain ⟨psT, eT, tT⟩ := (show ObjOk X.prog X.w H1 s1.heap T (TabP T) from I1.hok T _ hT).1
  obtain ⟨oc, vs, file, tf, flags, tg, inF, text, tt, r1, rc, rv, r2, r3, r4, r5, r6, r7⟩ := hcb.cd
  have Tlt : T < s1.heap.objs.size := Heap.lt_size eT
  have lim2 : (s1.heap.push o).NoLimit := I1.nolimit.push _
  have csT : cStatics ≠ T := fun e => by
    obtain ⟨_, ⟨ob, es, ep, z1, z2, _⟩, _⟩ := I1.nolimit
    rw [e, eT] at z1
    cases z1
    cases z2
  have cslt : cStatics < s1.heap.objs.size := let ⟨_, hn, _⟩ := I1.nolimit; hn.lt
  have bT : ∀ b o', X.base.get? b = some o' → b ≠ T := fun b o' e z => by
    have := (I1.bs b o' e).2
    rw [z, hT] at this
    cases this
  obtain ⟨bm, ob, M⟩ := hcb.bm
  -- behind the code is found or made
  have core : ∀ (code : Value) (h3 : Heap) (tk3 : Nat) (ps3 : Array Value), (∀ b o', b ≠ T → (s1.heap.push o).get? b = some o' → h3.get? b = some o') → h3.get? T = some { cls := .none, data := .fields ps3 } → TriplesOk ps3.toList →
      wpAny (model X.prog X.w) X.A (builtinsFor X.env.globals X.env.builtins) (fun bi s4 => bi = builtinsNs ∧ s4 = { s1 with heap := h3, toks := tk3 } ∧ h3.NoLimit ∧ St0 0 h3 ∧ s1.heap.objs.size < h3.objs.size) X.xe { s1 with heap := h3, toks := tk3 } := by
    intro code h3 tk3 ps3 ext e3 t3
    have M3 : BMod h3 X.env.globals X.mg bm ob := by
      rw [I.ok.glob]
      exact M.keeps fun b o' e => ext b o' (bT b o' e) (Heap.get?_push_of_some _ (I1.bk b o' e))
    refine wpAny_builtinsFor M3.ns M3.name M3.ne M3.obj M3.cls M3.dict M3.data ⟨rfl, rfl, lim2.extBut ext csT, (W X.A hh).frame _ _ _ hst fun b hb o' e => ext b o' ?_ e, Heap.lt_size (ext _ o2 (Nat.ne_of_gt Tlt) e2)⟩
    rcases List.mem_cons.mp hb with z | hb
    · rw [z]; exact Nat.ne_of_gt Tlt
    · rcases List.mem_cons.mp hb with z | hb
      · rw [z]; exact axT
      · cases hb
  have done : ∀ (code : Value) (h3 : Heap) (tk3 : Nat) (ps3 : Array Value) (ext : ∀ b o', b ≠ T → (s1.heap.push o).get? b = some o' → h3.get? b = some o') (e3 : h3.get? T = some { cls := .none, data := .fields ps3 }) (t3 : TriplesOk ps3.toList) (lim3 : h3.NoLimit) (st3 : St0 0 h3) (sz3 : s1.heap.objs.size < h3.objs.size),
      (∀ href : Heap, (∀ b o, h3.get? b = some o → href.get? b = some o) →
        QuietGenD X.prog X.w (genEnv scope cl h3.objs.size code builtinsNs X.env) x [] elt (List.range h3.objs.size) [s1.heap.objs.size] (fun i v => its.toArray[i]? = some v) (fun _ => true) (fun i y => y = Value.bool (bs.getD i false)) href (X.A.depth + 1) (X.A.units + 8)) ∧
      (∀ (g : Addr) (s5 s' : Shared), s5.os = s1.os → AllBare s5.gens → (∀ b o, h3.get? b = some o → s5.heap.get? b = some o) → Moved [h3.objs.size, s1.heap.objs.size] (GenOnlyQ s1.gens.size) s5 s' → Inv X pins σ H1 s') := by
    intro code h3 tk3 ps3 ext e3 t3 lim3 st3 sz3
    have k3 : ∀ b o', b ≠ T → s1.heap.get? b = some o' → h3.get? b = some o' := fun b o' hb e => ext b o' hb (Heap.get?_push_of_some _ e)
    refine ⟨fun href hk => ⟨fun A' E' i v s2 m2 _ _ _ _ _ _ _ => ?_, fun A' E' i v s2 m2 hA hd hu hP _ hn hm hkeep => ?_⟩, fun g s5 s' ho hb k5 mv => ?_⟩
    · exact wpAny_pure ⟨rfl, keeps_refl _⟩
    · have hiv : its[i]? = some v := by simpa using hP
      have hil : i < xs.length := by rw [rits.length]; exact (List.getElem?_eq_some_iff.mp hiv).1
      obtain ⟨u', e', ru⟩ := rits.get (List.getElem?_eq_getElem hil)
      rw [hiv] at e'
      cases e'
      obtain ⟨b, eb, hRb⟩ := hbs i _ (List.getElem?_eq_getElem hil)
      have s2lt : h3.objs.size < s2.heap.objs.size := hn.lt
      have k2 : ∀ b o', b ≠ T → s1.heap.get? b = some o' → s2.heap.get? b = some o' := fun b o' hb e => by
        have lt := Heap.lt_size e
        exact hkeep b (List.mem_range.mpr (Nat.lt_trans lt sz3)) (fun z => Nat.ne_of_lt lt (List.mem_singleton.mp z)) o' (hk _ _ (k3 b o' hb e))
      have qs : Qs X.prog X.w X.K X.mg X.base (frzH s1.heap H1) s2 := ⟨I1.ok.mod, fun b o' e => ⟨k2 b o' (bT b o' e) (I1.bk b o' e), frz_none (I1.bs b o' e).2⟩, Nat.le_trans (Nat.le_trans I1.ok.bsz I1.sz) (Nat.le_of_lt (Nat.lt_trans sz3 s2lt)),
        frz_ok I1.hok fun b o' u ef e => k2 b o' (fun z => by
          obtain ⟨o3, v3, _, sv, hh3⟩ := frz_shape ef
          rw [z, hT] at hh3
          rcases hh3 with ⟨z1, _⟩ | z1
          · cases z1; cases sv
          · cases z1) e, fun b u ef => let ⟨o3, v3, e3, _⟩ := frz_shape ef; ⟨o3, v3, e3⟩⟩
      have fv : FreeV X σ s2.heap := fun i y v e1 e2 e3 e4 => by
        obtain ⟨m, _, hloc⟩ := I1.loc
        obtain ⟨u, ru, lk⟩ := hloc i y v e1 e2 e3
        rcases lk with ⟨kk, _⟩ | ⟨_, k, ek, ok, eo, ed⟩
        · rcases e4 with z | z <;> (rw [kk] at z; cases z)
        · refine ⟨u, k, ru, ek, ok, k2 k ok (fun z => ?_) eo, ed⟩
          rw [z, eT] at eo
          cases eo
          cases ed
      refine wpAny_mono (helt σ code h3.objs.size A' E' s2 m2 _ _ v b hA hd hu qs hn hm ru fv (hR _ _ _ _ _ (frz_le I1.hok) hRb)) (fun r s3 hr => ⟨?_, hr.2⟩) fun _ _ e => e
      rw [hr.1, List.getD_eq_getElem?_getD, eb]
      rfl
    · have kk : ∀ b o', b ≠ T → s1.heap.get? b = some o' → s'.heap.get? b = some o' := fun b o' hb e => by
        have lt := Heap.lt_size e
        refine mv.heap b o' (fun z => ?_) (k5 b o' (k3 b o' hb e))
        rcases List.mem_cons.mp z with z | z
        · exact absurd (z ▸ Nat.lt_trans lt sz3) (Nat.lt_irrefl _)
        · exact Nat.ne_of_lt lt (List.mem_singleton.mp z)
      have eT' : s'.heap.get? T = some { cls := .none, data := .fields ps3 } := by
        refine mv.heap T _ (fun z => ?_) (k5 T _ e3)
        rcases List.mem_cons.mp z with z | z
        · exact absurd (z ▸ Nat.lt_trans Tlt sz3) (Nat.lt_irrefl _)
        · exact Nat.ne_of_lt Tlt (List.mem_singleton.mp z)
      have nT : ∀ b, H1 b = none → b ≠ T := fun b n z => by rw [z, hT] at n; cases n
      refine I1.call' (ch := []) (mv.os.trans ho) ⟨fun b o' e n _ _ => kk b o' (nT b n) e, fun b o' e n _ _ => ⟨o'.slots, kk b o' (nT b n) e⟩, fun _ _ _ n _ => n, fun b o' e _ => ?_, fun _ _ q => q, fun _ _ _ q => q, fun b ps q => ⟨#[], by rw [q]; simp⟩⟩ (fun b u e => ?_) ((hgp _ _).mpr (hb.movedS mv)) fun b z => by cases z
      · by_cases z : b = T
        · rw [z]; exact ⟨_, eT'⟩
        · exact ⟨o', kk b o' z e⟩
      · by_cases z : b = T
        · rw [z] at e ⊢
          rw [hT] at e
          cases e
          exact tab_ok eT' t3
        · refine (I1.hok b u e).stay (fun b' u' hb' q => kk b' u' ?_ q) (fun _ q => q) fun _ _ q => q
          rcases hb' with z' | z'
          · rw [z']; exact z
          · intro z''
            rw [z'', hT] at z'
            cases z'
  have ic : (s1.heap.push o).IsCode c T psT := ⟨oc, vs, file, tf, flags, tg, inF, text, tt, _, Heap.get?_push_of_some _ (I1.bk c oc r1), r2, r3, r4, r5, r6, r7, Heap.get?_push_of_some _ eT, rfl, tT, hcb.ne⟩
  have gc : wpAny (model X.prog X.w) X.A (genexprCode X.env gpos (X.env.qual ++ "<genexpr>") scope) (fun _ s3 => ∃ h3 tk3 ps3, s3 = { s1 with heap := h3, toks := tk3 } ∧ (∀ b o', b ≠ T → (s1.heap.push o).get? b = some o' → h3.get? b = some o') ∧
      h3.get? T = some { cls := .none, data := .fields ps3 } ∧ TriplesOk ps3.toList) X.xe { s1 with heap := s1.heap.push o } := by
    cases hca : codeAmong gpos psT.toList with
    | some c' => exact wpAny_genexprCode_hit hcode ic hca ⟨s1.heap.push o, s1.toks, psT, rfl, fun _ _ _ e => e, Heap.get?_push_of_some _ eT, tT⟩
    | none =>
      refine wpAny_genexprCodeX hcode ic ⟨⟨oc, vs, Heap.get?_push_of_some _ (I1.bk c oc r1), rc, r2, rv⟩, Heap.get?_push_of_some _ eT⟩ hca fun c' h' tk ext _ _ ic' _ tb _ => ?_
      obtain ⟨_, _, _, _, _, _, _, _, _, op, _, _, _, _, _, _, _, z1, z2, z3, _⟩ := ic'
      exact ⟨h', tk, _, rfl, ext, tb.2, z3⟩
  refine ⟨lim2, thn gc fun code s3 ⟨h3, tk3, ps3, es, ext, e3, t3⟩ => ?_⟩
  subst es
  refine thn (core code h3 tk3 ps3 ext e3 t3) fun bi s4 ⟨eb, e4, lim3, st3, sz3⟩ => ?_
  subst eb
  subst e4
  obtain ⟨qg, after⟩ := done code h3 tk3 ps3 ext e3 t3 lim3 st3 sz3
  refine ⟨s1.heap.objs.size, [s1.heap.objs.size, ax], [s1.heap.objs.size], its.toArray.size, _, St0, fun _ => true, _, rfl, W, st3, fun b hb => ?_, lim3, fun z => Nat.ne_of_lt cslt (List.mem_singleton.mp z), qg, fun g h5 tk gs hgb hlt hsz hk5 WS GA => ?_⟩
  · rcases List.mem_cons.mp hb with z | hb
    · rw [z]; exact sz3
    · rcases List.mem_cons.mp hb with z | hb
      · rw [z]; exact Nat.lt_trans axlt sz3
      · cases hb
  · refine Calls.spliced_nil ?_
    have WS1 := WS.in4_1
    refine call_all_walkS (WS1.self 0 _ _ _ GA ⟨g, _, _, _, _, _, _, fun j => bs.getD j false, rfl, WS1, GA, ?_, fun s' mv => ?_⟩)
    · rintro j v s' Q' E' ⟨i', hi', hv⟩ hq
      rw [passing_all] at hi'
      have : i' = j := by
        have lt := (List.getElem?_eq_some_iff.mp hi').1
        rw [List.getElem?_eq_getElem lt, List.getElem_range] at hi'
        exact (Option.some.inj hi').symm
      subst this
      rw [hv]
      exact wpAny_truthy_bool hq
    · refine ⟨.bl (bs.all id), H1, after g { s1 with heap := h5, toks := tk, gens := s1.gens.push gs } s' rfl (((hgp _ _).mp I1.bare).push hgb) hk5 mv, ?_, q⟩
      show Value.bool _ = Value.bool _
      rw [passing_all, List.length_range, List.size_toArray, ← rits.length, ← hbl, L2.all_range]
/-- the same where the element leans on no name of the def -/
theorem pe_allGen {R : Hp → V → Bool → Prop} (hall : X.mg "all" = none) (hg : Gl X "all") (hgp : ∀ g d, X.gp g d ↔ AllBare g) (hcalm : X.calm = true) (hroom : X.A.depth < recursionLimit) (hit : PE X iter ts) (hcode : X.env.code = .ref c) (hcb : CodeB X.base X.mg c T)
    (hR : ∀ (H H' : Hp) (y : V) (b : Bool), RdLe H H' → R H y b → R H' y b)
    (helt : ∀ (code : Value) (C : Addr) (A' : Around) (E' : Value → Shared → Prop) (s2 : Shared) (m2 : Str → Option Value) (H : Hp) (y : V) (v : Value) (b : Bool), A'.handled = none → A'.depth ≤ X.A.depth + 1 → A'.units ≤ X.A.units + 8 → Qs X.prog X.w X.K X.mg X.base H s2 →
      s2.heap.Ns C m2 → m2 x = some v → RelV y v → R H y b → wpAny (model X.prog X.w) A' (eval elt (genEnv scope [] C code builtinsNs X.env)) (fun u s3 => u = .bool b ∧ Keeps s2 s3) E' s2)
    (hco : scope.isCoroutine = false := by rfl) (hclos : closureFor scope X.env = pure [] := by rfl) (hcell : ∀ y ∈ scope.names, y.2 ≠ .cell := by decide) (h0 : scope.names.lookup (".0" : Str) = some NameKind.local := by rfl)
    (hx : scope.names.lookup x = some .local := by rfl) (hkind : scope.kind = .function := by rfl) (hfold : ∀ x, genFold iter X.env x = pure x := by intro _; rfl)
    (he : starEach [.GeneratorExp elt [⟨.Name x px, iter, [], 0⟩] scope gpos] X.env = (false, eval (.GeneratorExp elt [⟨.Name x px, iter, [], 0⟩] scope gpos) X.env) :: starEach [] X.env := by rfl) (hpl : (backTo pos (starEach [] X.env)).any (·.1) = false := by rfl) :
    PE X (.Call (.Name "all" p) [.GeneratorExp elt [⟨.Name x px, iter, [], 0⟩] scope gpos] [] pos) (tAllGen X.K T (fun _ => R) ts) :=
  pe_allGenF hall hg hgp hcalm hroom hit hcode hcb (fun _ => hR) (fun σ code C A' E' s2 m2 H y v b h1 h2 h3 h4 h5 h6 h7 _ h8 => helt code C A' E' s2 m2 H y v b h1 h2 h3 h4 h5 h6 h7 h8) hco hclos hcell h0 hx hkind hfold he hpl
end
end NP
set_option Elab.async false
set_option linter.all false
set_option maxRecDepth 100000
namespace NP
open PySem PySem.Spec PyProof.Rows L2
def TabOf (h : Heap) (mg : Str → Option Value) (n : Str) (c : Addr) : Prop := ∃ (a : Addr) (o : Obj) (fd : FuncData), mg n = some (.ref a) ∧ h.get? a = some o ∧ o.data = .func fd ∧ fd.code = .ref c
def startH (own : Bool) (a : Addr) (sc : HO) (tabs : List (Addr × Addr)) : Hp := fun b => if b = a then (if own then none else some sc) else if b ∈ tabs.map (·.2) then some (TabP b) else none
theorem law_callT {P : Program} {w : World} {K : PySem.W.Frag} {mg mb : Str → Option Value} {k : Nat} {fa a : Addr} {fd : FuncData} {x : Str} {sp : Sp} {s1 : Shared} {vs : List Value} {ns : List Int} {tabs : List (Addr × Addr)}
    (KX : K.In s1.heap) (hns : s1.heap.Ns mainGlobals mg) (hb : s1.heap.Ns builtinsNs mb) (hbb : ∀ x : Str, x ≠ "__name__" → mb x = bootBuiltins x) (hlim : s1.heap.NoLimit) (hg : s1.gens = #[]) (bmod : ∃ bm ob, BMod s1.heap mainGlobals mg bm ob)
    (kc : PySem.W.kb_classed K = true) (ha : s1.heap.get? a = some { cls := .type "list", data := .seq vs.toArray }) (hi : IntsAre vs ns) (hl : ns.length ≤ sizeLine) (hr : Room k callerA)
    (ht : ∀ p ∈ tabs, s1.heap.IsCode p.1 p.2 #[] ∧ s1.heap.TableAt p.1 p.2 #[])
    (F : ∀ base : Heap, K.In base → base.Ns mainGlobals mg → (∀ p ∈ tabs, CodeB base mg p.1 p.2) → FnOk P w K mg base CX0 k fa fd [x] sp) (hbind : ∀ (s : Shared) (u : Value), BindsTo s fd ⟨[u], []⟩ [(x, u)])
    (hsp : ∀ H : Hp, SqL K H a (ns.map V.int) → (∀ p ∈ tabs, H p.2 = some (TabP p.2)) → sp [.ref a] H (fun v H' => v = .bl true ∧ ∀ p ∈ tabs, H' p.2 = some (TabP p.2)) E0) :
    codeAny (model P w) callerA (.call (.ref fa) ⟨[.ref a], []⟩) (fun r s' => r = .ok (.ret (.bool true)) ∧ OldK s1.heap s'.heap ∧ s'.os = s1.os ∧ AllBare s'.gens) s1 := by
  have rv := vals_ints hi
  have lenV := hi.length
  have tabO : ∀ T, T ∈ tabs.map (·.2) → s1.heap.get? T = some { cls := .none, data := .fields #[] } := fun T hT => by
    obtain ⟨p, hp, rfl⟩ := List.mem_map.mp hT
    exact (ht p hp).2.2
  have tabA : ∀ T, T ∈ tabs.map (·.2) → T ≠ a := fun T hT e => by
    have := tabO T hT
    rw [e, ha] at this
    cases this
  have noDict : ∀ {b : Addr} {m : Str → Option Value}, s1.heap.Ns b m → b ≠ a ∧ b ∉ tabs.map (·.2) := fun {b m} ⟨o, es, ep, e, d, _⟩ => by
    refine ⟨fun z => ?_, fun z => ?_⟩
    · rw [z, ha] at e; cases e; cases d
    · rw [tabO b z] at e; cases e; cases d
  have tabK : ∀ T, T ∈ tabs.map (·.2) → K.lookup T = none := fun T hT => by
    cases e : K.lookup T with
    | none => rfl
    | some o =>
      have eo := KX T o e
      rw [tabO T hT] at eo
      cases eo
      have q := List.all_eq_true.mp kc (T, _) (PySem.W.kb_mem e)
      simp only [Bool.or_eq_true, beq_iff_eq] at q
      rcases q with (q | q) | q
      · simp at q
      · obtain ⟨m, hn, _⟩ := hlim
        exact absurd hT (by rw [show T = cStatics from q]; exact (noDict hn).2)
      · exact absurd hT (by rw [show T = mainGlobals from q]; exact (noDict hns).2)
  let sc : HO := .frz { cls := .type "list", data := .seq vs.toArray } (.lst (ns.map V.int))
  have core : ∀ own : Bool, (own = true → (K.lookup a).isSome = true) → (own = false → K.lookup a = none) →
      codeAny (model P w) callerA (.call (.ref fa) ⟨[.ref a], []⟩) (fun r s' => r = .ok (.ret (.bool true)) ∧ OldK s1.heap s'.heap ∧ s'.os = s1.os ∧ AllBare s'.gens) s1 := by
    intro own ho1 ho2
    have Ha : startH own a sc tabs a = if own then none else some sc := if_pos rfl
    have HT : ∀ T, T ∈ tabs.map (·.2) → startH own a sc tabs T = some (TabP T) := fun T hT => by
      unfold startH
      rw [if_neg (tabA T hT), if_pos hT]
    have H0 : ∀ b, b ≠ a → b ∉ tabs.map (·.2) → startH own a sc tabs b = none := fun b h1 h2 => by
      unfold startH
      rw [if_neg h1, if_neg h2]
    have shape : ∀ b u, startH own a sc tabs b = some u → (b = a ∧ own = false ∧ u = sc) ∨ (b ∈ tabs.map (·.2) ∧ u = TabP b) := fun b u e => by
      by_cases h1 : b = a
      · subst h1
        rw [Ha] at e
        cases own with
        | true => cases e
        | false => exact .inl ⟨rfl, rfl, (Option.some.inj e).symm⟩
      · by_cases h2 : b ∈ tabs.map (·.2)
        · rw [HT b h2] at e
          exact .inr ⟨h2, (Option.some.inj e).symm⟩
        · rw [H0 b h1 h2] at e
          cases e
    have kH : ∀ b o, K.lookup b = some o → startH own a sc tabs b = none := fun b o e => by
      cases q : startH own a sc tabs b with
      | none => rfl
      | some u =>
        rcases shape b u q with ⟨rfl, z, _⟩ | ⟨z, _⟩
        · rw [ho2 z] at e; cases e
        · rw [tabK b z] at e; cases e
    have nsK : ∀ {b : Addr} {m : Str → Option Value}, s1.heap.Ns b m → (hidT s1.heap (startH own a sc tabs)).Ns b m := fun {b m} h => by
      obtain ⟨n1, n2⟩ := noDict h
      obtain ⟨o, es, ep, e, d, r⟩ := h
      exact ⟨o, es, ep, hidT_get e (H0 b n1 n2), d, r⟩
    have hKb : K.In (hidT s1.heap (startH own a sc tabs)) := fun b o e => hidT_get (KX b o e) (kH b o e)
    have hM : Mod K mg (hidT s1.heap (startH own a sc tabs)) := ⟨hKb, nsK hns, ⟨mb, nsK hb, hbb⟩, let ⟨mc, h1, h2⟩ := hlim; ⟨mc, nsK h1, h2⟩⟩
    have hok : HOk P w (startH own a sc tabs) s1.heap := fun b u e => by
      rcases shape b u e with ⟨rfl, _, rfl⟩ | ⟨z, rfl⟩
      · exact ⟨ha, by rw [List.length_map]; exact hl, vs, _, rv, ha⟩
      · exact tab_ok (tabO b z) trivial
    have hS : SqL K (startH own a sc tabs) a (ns.map V.int) := by
      cases own with
      | false => exact .inl (.inr ⟨_, Ha⟩)
      | true =>
        obtain ⟨o, e⟩ := Option.isSome_iff_exists.mp (ho1 rfl)
        have eo := KX a o e
        rw [ha] at eo
        cases eo
        exact .inr ⟨_, vs.toArray, _, e, rfl, rfl, rfl, by rw [List.size_toArray, lenV]; exact hl, by simpa using rv⟩
    have hTt : ∀ p ∈ tabs, startH own a sc tabs p.2 = some (TabP p.2) := fun p hp => HT p.2 (List.mem_map.mpr ⟨p, hp, rfl⟩)
    have hC : ∀ p ∈ tabs, CodeB (hidT s1.heap (startH own a sc tabs)) mg p.1 p.2 := fun p hp => by
      obtain ⟨⟨o, vs', file, tf, flags, tg, inF, text, tt, op, e1, e2, e3, e4, e5, e6, e7, _, _, _, ne⟩, ⟨⟨o', vs2, f1, f2, f3, f4⟩, _⟩⟩ := ht p hp
      rw [e1] at f1
      cases f1
      rw [e2] at f3
      cases f3
      have nt : p.1 ∉ tabs.map (·.2) := fun z => by
        rw [tabO _ z] at e1; cases e1; cases f2
      have na : p.1 ≠ a := fun z => by
        rw [z, ha] at e1; cases e1; exact absurd (show Value.type "list" = Value.type "code" from f2) (by decide)
      refine ⟨ne, ⟨o, vs', file, tf, flags, tg, inF, text, tt, hidT_get e1 (H0 _ na nt), f2, f4, e2, e3, e4, e5, e6, e7⟩, ?_⟩
      obtain ⟨bm, ob, M⟩ := bmod
      refine ⟨bm, ob, nsK hns, M.name, M.ne, hidT_get M.obj (H0 _ (fun z => ?_) fun z => ?_), M.cls, M.dict, M.data⟩
      · have := M.obj
        rw [z, ha] at this
        cases this
        exact absurd (show Value.type "list" = Value.type "module" from M.cls) (by decide)
      · have := M.obj
        rw [tabO _ z] at this
        cases this
        cases M.cls
    have e0 : Env0 P w K mg (hidT s1.heap (startH own a sc tabs)) callerA [] s1 (startH own a sc tabs) := ⟨hM, fun b o e => of_hidT e, Nat.le_of_eq (hidT_size _ _), trivial, fun b hb => absurd (show b ∈ ([] : List Addr) from hb) (by simp), hok⟩
    refine codeAny_mono ((F _ hKb (nsK hns) hC).run callerA [] s1 _ ⟨[.ref a], []⟩ [.ref a] [.ref a] _ _ (fun g _ => AllBare g) (fun _ _ _ => Iff.rfl) (.of_eq hg) (fun _ => ⟨rfl, rfl⟩) hr e0 (hbind s1 (.ref a)) (.cons rfl .nil) (hsp _ hS hTt)) fun r s' h => ?_
    cases r with
    | error e => exact h.elim
    | ok fl =>
      cases fl with
      | next => exact False.elim h
      | brk => exact False.elim h
      | cont => exact False.elim h
      | ret u =>
        obtain ⟨v, H', os, bare, un, hok', r', q, qt⟩ := h
        subst q
        obtain rfl : u = Value.bool true := r'
        have kept : ∀ b o, s1.heap.get? b = some o → b ∉ tabs.map (·.2) → s'.heap.get? b = some o := fun b o e nt => by
          cases q : startH own a sc tabs b with
          | none => exact un.keep b o e q (by intro z; exact absurd (show b ∈ ([] : List Addr) from z) (by simp)) (by simp)
          | some u =>
            rcases shape b u q with ⟨rfl, _, rfl⟩ | ⟨z, _⟩
            · obtain ⟨e2, _⟩ := (show ObjOk P w H' s'.heap b sc from hok' b _ (un.frzs b _ _ q))
              rw [ha] at e
              cases e
              exact e2
            · exact absurd z nt
        have tabs' : ∀ p ∈ tabs, ∃ ps, s'.heap.get? p.2 = some { cls := .none, data := .fields ps } := fun p hp => by
          obtain ⟨⟨ps, e, _⟩, _⟩ := (show ObjOk P w H' s'.heap p.2 (TabP p.2) from hok' _ _ (qt p hp))
          exact ⟨ps, e⟩
        refine ⟨rfl, ⟨fun b o e => ?_, fun b o e => ?_⟩, os, bare⟩
        · by_cases nt : b ∈ tabs.map (·.2)
          · obtain ⟨p, hp, rfl⟩ := List.mem_map.mp nt
            obtain ⟨ps, e'⟩ := tabs' p hp
            have e2 := tabO _ nt
            rw [e2] at e
            cases e
            exact .inr (.inl ⟨(ht p hp).2.isCodeTable, rfl, #[], ps, rfl, by rw [e']; simp⟩)
          · exact .inl (kept b o e nt)
        · by_cases nt : b ∈ tabs.map (·.2)
          · obtain ⟨p, hp, rfl⟩ := List.mem_map.mp nt
            obtain ⟨ps, e'⟩ := tabs' p hp
            exact ⟨_, e'⟩
          · exact ⟨o, kept b o e nt⟩
  cases e : K.lookup a with
  | none => exact core false (fun z => by cases z) fun _ => e
  | some o => exact core true (fun _ => by rw [e]; rfl) fun z => by cases z

theorem tabs_of {q : Program} {loose : List Str} {mean : ExcName → Option Value} {mg mb : Str → Option Value} {h : Heap} (T : Top q loose mean mg mb h) : ∀ (names : List Str), (∀ n ∈ names, ((recsOf q).find? fun e => e.name == n).isSome = true) →
    ∃ tabs : List (Addr × Addr), Paired (fun n p => TabOf h mg n p.1) names tabs ∧ ∀ p ∈ tabs, h.IsCode p.1 p.2 #[] ∧ h.TableAt p.1 p.2 #[]
  | [], _ => ⟨[], .nil, fun _ z => by cases z⟩
  | n :: names, hn => by
    obtain ⟨tabs, h1, h2⟩ := tabs_of T names fun m hm => hn m (List.mem_cons_of_mem _ hm)
    obtain ⟨d, hd⟩ := Option.isSome_iff_exists.mp (hn n List.mem_cons_self)
    have en : d.name = n := beq_iff_eq.mp (List.find?_some (p := fun e : DefRec => e.name == n) hd)
    obtain ⟨a, o, fd, c, P, e1, e2, e3, e4, e5, e6⟩ := T.tab d (List.mem_of_find?_eq_some hd)
    refine ⟨(c, P) :: tabs, .cons ⟨a, o, fd, by rw [← en]; exact e1, e2, e3, e4⟩ h1, fun p hp => ?_⟩
    rcases List.mem_cons.mp hp with rfl | hp
    · exact ⟨e5, e6⟩
    · exact h2 p hp

theorem walk_ofT {l : PySem.W.OpenLaw} {n k : Nat} {q : Program} {loose : List Str} {XP : (Str → Option Value) → Heap → Prop} {YP : World → Heap → Prop} {d : DefRec} {K : Params → PySem.W.Frag} {sp : World → List (Addr × Addr) → Sp} {x : Str} (names : List Str)
    (hn : l.most = some n) (hn2 : n ≤ sizeLine) (hdf : d.params.defaults = []) (hr : Room k callerA) (hrec : ∀ m ∈ names, ((recsOf q).find? fun e => e.name == m).isSome = true)
    (hY : ∀ (w : World) (h : Heap), YP w h → (K w.params).In h) (kc : ∀ w : World, PySem.W.kb_classed (K w.params) = true)
    (F : ∀ (w : World) (mg : Str → Option Value) (fa : Addr) (h : Heap) (tabs : List (Addr × Addr)), (K w.params).In h → h.Ns mainGlobals mg → mg d.name = some (.ref fa) → Paired (fun n p => TabOf h mg n p.1) names tabs →
      ∃ fd : FuncData, (∀ (s : Shared) (u : Value), BindsTo s fd ⟨[u], []⟩ [(x, u)]) ∧
        ∀ base : Heap, (K w.params).In base → base.Ns mainGlobals mg → (∀ p ∈ tabs, CodeB base mg p.1 p.2) → FnOk l.prog w (K w.params) mg base CX0 k fa fd [x] (sp w tabs))
    (hsp : ∀ (w : World) (H : Hp) (a : Addr) (ns : List Int) (tabs : List (Addr × Addr)), ns.length ≤ n → SqL (K w.params) H a (ns.map V.int) → (∀ p ∈ tabs, H p.2 = some (TabP p.2)) → sp w tabs [.ref a] H (fun v H' => v = .bl true ∧ ∀ p ∈ tabs, H' p.2 = some (TabP p.2)) E0) :
    PySem.W.WalkO q loose XP YP l.row.toRowW d [] (fun f vs => PySem.call f vs) := by
  refine Att.attach_call hn hdf fun w s0 s1 mg mb fa o pm cd doc a vs ns G Y ho hd hcd hmg hobj hints hlen hg => ?_
  have KX := hY w _ Y
  obtain ⟨tabs, pr, ht⟩ := tabs_of G.T names hrec
  obtain ⟨fd, hb, hF⟩ := F w mg fa _ tabs KX G.T.g hmg pr
  exact law_callT KX G.T.g G.T.b G.T.builtins G.T.nolimit hg (PySem.W.bmod_of_top G.T) (kc w) hobj hints (Nat.le_trans hlen hn2) hr ht hF hb fun H hS hT => hsp w H a ns tabs hlen hS hT
end NP
set_option Elab.async false
set_option linter.all false
set_option maxRecDepth 100000
namespace NP
open PySem PySem.Spec PyProof.Rows L2
def QA (M : Model) (A : Around) (E : Value → Shared → Prop) (env : Env) (s : Shared) (e : Expr) (v : V) : Prop := ∀ tk, wpAny M A (eval e env) (fun u s' => RelV v u ∧ ∃ tk', s' = { s with toks := tk' }) E { s with toks := tk }
def QAs (M : Model) (A : Around) (E : Value → Shared → Prop) (env : Env) (s : Shared) (es : List Expr) (vs : List V) : Prop := ∀ (pos : Pos) tk, wpAny M A (spliced (backTo pos (starEach es env))) (fun us s' => Vals vs us ∧ ∃ tk', s' = { s with toks := tk' }) E { s with toks := tk }
section
variable {P : Program} {w : World} {K : PySem.W.Frag} {mg : Str → Option Value} {base : Heap} {H : Hp} {s : Shared} {A : Around} {E : Value → Shared → Prop} {env : Env} {m : Str → Option Value}
theorem qa_loc {x : Str} {pos : Pos} {v : V} {u : Value} (hk : env.scope.kind = .function) (hx : env.kindOf x = some .local) (hn : s.heap.Ns env.locals m) (hm : m x = some u) (r : RelV v u) (hd : (x == ("__debug__" : Str)) = false := by decide) :
    QA (model P w) A E env s (.Name x pos) v := fun tk => wpAny_Name (wpAny_loadName_local hk hx hn hm ⟨r, tk, rfl⟩) hd
theorem qa_int {i : Int} {j pos} : QA (model P w) A E env s (.Constant (.int i) j pos) (.int i) := fun tk => wpAny_Constant_int ⟨⟨_, rfl⟩, _, rfl⟩
theorem qa_glob {x : Str} {pos : Pos} {v : V} {u : Value} (hk : env.scope.kind = .function) (hx : env.kindOf x = some .globalImplicit) (hgl : env.globals = mainGlobals) (q : Qs P w K mg base H s) (hm : mg x = some u) (r : RelV v u) (hd : (x == ("__debug__" : Str)) = false := by decide) :
    QA (model P w) A E env s (.Name x pos) v := fun tk => Calls.Name_function_global hk hx (Calls.loadGlobal_global (by rw [hgl]; exact q.mod.glob.keeps fun b o e => (q.bs b o e).1) hm ⟨r, tk, rfl⟩) hd
theorem qas_nil : QAs (model P w) A E env s [] [] := fun _ tk => Calls.spliced_nil ⟨.nil, tk, rfl⟩
theorem qas_cons {e : Expr} {es : List Expr} {v : V} {vs : List V} (h1 : QA (model P w) A E env s e v) (h2 : QAs (model P w) A E env s es vs) (hs : starEach (e :: es) env = (false, eval e env) :: starEach es env := by rfl) : QAs (model P w) A E env s (e :: es) (v :: vs) := by
  intro pos tk
  rw [hs]
  show wpAny _ _ (spliced ((false, eval e env) :: backTo pos (starEach es env))) _ _ _
  refine Calls.spliced_cons (thn (h1 tk) fun u s1 ⟨r1, tk1, e1⟩ => ?_)
  subst e1
  exact thn (h2 pos tk1) fun us s2 ⟨r2, tk2, e2⟩ => ⟨.cons r1 r2, tk2, e2⟩
theorem q_call {k : Nat} {f : Addr} {fd : FuncData} {ps : List Str} {sp : Sp} {x : Str} {p pos : Pos} {e : Expr} {es : List Expr} {vs : List V} {r : V} (F : FnOk P w K mg base CX0 k f fd ps sp) (hkk : k < 10) (hb : Binds K fd ps []) (q : Qs P w K mg base H s) (hr : Room k A)
    (hk : env.scope.kind = .function) (hx : env.kindOf x = some .globalImplicit) (hgl : env.globals = mainGlobals) (hm : mg x = some (.ref f)) (hkp : PySem.W.keepIn K (.ref f) = true) (ha : QAs (model P w) A E env s (e :: es) vs) (h : sp vs H (fun v _ => v = r) E0)
    (hd : (x == ("__debug__" : Str)) = false := by decide) (he : starEach (e :: es) env = (false, eval e env) :: starEach es env := by rfl) (hpl : (backTo pos (starEach es env)).any (·.1) = false := by rfl) :
    wpAny (model P w) A (eval (.Call (.Name x p) (e :: es) [] pos) env) (fun u s' => RelV r u ∧ Keeps s s') E s := by
  refine wpAny_Call_Name_kw (Calls.Name_function_global hk hx (Calls.loadGlobal_global (by rw [hgl]; exact q.mod.glob.keeps fun b o e => (q.bs b o e).1) hm ?_) hd)
  refine PySem.W.callWith_K (h₀ := base) q.mod.kin hkp (thn (ha pos s.toks) fun us s1 ⟨rv, tk, e1⟩ => ?_) he hpl
  subst e1
  exact ⟨(q.tok tk).kIn, thn (quiet_call F hkk hb (q.tok tk) hr rv h) fun u s' hq => ⟨hq.1, keeps_tok hq.2⟩⟩
end
theorem room_gen {k j : Nat} {A A' : Around} (hr : Room k A) (hh : A'.handled = none) (hd : A'.depth ≤ A.depth + 1) (hu : A'.units ≤ A.units + 8) (h : j + 1 ≤ k) : Room j A' :=
  ⟨hh, by have := hr.dp; omega, by have := hr.un; omega⟩
end NP
namespace L2
open PySem PySem.Spec PyProof.Rows
/-- a def's rule where its code's address is known -/
theorem Fun.okC {P : Program} {w : World} {K : PySem.W.Frag} {mg : Str → Option Value} {base : Heap} {x qual : Str} {st : Stmt} {f c : Addr} {fd : FuncData} {N ps : List Str} {k : Nat} {sp : Sp} (F : Fun K x qual st f fd) (S : FnScope N ps (defScope st)) (hc : fd.code = .ref c) (len : ∀ vs H Q E, sp vs H Q E → vs.length = ps.length)
    (hbody : ∀ (A : Around) (outer : List Env) (s : Shared) (H : Hp) (vs : List V) (Q : VK) (E : XK) (gp : Array GenState → Drawn → Prop), L2.Cl (k + 1) gp → Room k (A.deeper (envOfC qual (defScope st) s.heap.objs.size f (.ref c))) → sp vs H Q E →
      ∃ t, PSs (cxOf CX0 P w K mg base N qual (defScope st) f (.ref c) A outer s H E gp).nox (defBody st) t ∧ t { nx := fun _ H' => Q .non H', rt := Q } (L2.start N vs) H) : FnOk P w K mg base CX0 (k + 1) f fd ps sp := by
  obtain ⟨oc, od, kV, doc, pm, an, cdv, ct, osl, rfl, lk, hcd⟩ := F.ex
  have e : cdv = .ref c := hc
  subst e
  refine fn_of lk hcd S len fun A outer s H vs Q E gp hcl hr hsp => ?_
  obtain ⟨t, h, q⟩ := hbody A outer s H vs Q E gp hcl hr hsp
  exact ⟨t, h.nox, q⟩
end L2
set_option Elab.async false
set_option linter.all false
set_option maxRecDepth 100000
namespace NP
open PySem PySem.Spec PyProof.Rows L2
theorem from_le : ∀ (ts : List Str) (k : Nat) (acc : Str), (textFrom k acc ts).length ≤ acc.length + piled ts
  | [], k, acc => by show acc.length ≤ acc.length + piled []; omega
  | t :: r, k, acc => by
    have ih := from_le r (k + 1) (acc ++ (if k > 0 then ", " else "" : String) ++ t)
    have e : (acc ++ (if k > 0 then ", " else "" : String) ++ t).length ≤ acc.length + 2 + t.length := by
      rw [strLen_append, strLen_append]
      split
      · exact Nat.le_refl _
      · show acc.length + 0 + t.length ≤ _; omega
    show (textFrom (k + 1) _ r).length ≤ _
    rw [piled_cons]
    omega
theorem list_le (ts : List Str) : (listText ts).length ≤ piled ts + 2 := by
  unfold listText
  rw [strLen_append]
  have h := from_le ts 0 (Str.ofString "[")
  have e : (Str.ofString "[").length = 1 := rfl
  have e2 : ((("]" : String) : Str)).length = 1 := rfl
  rw [e] at h
  rw [e2]
  omega
/-- data that is shown in n signs, k deep -/
def Gd (K : PySem.W.Frag) (H : Hp) (n k : Nat) (v : V) : Prop := ∃ d, Th K H v d ∧ d.showable = true ∧ d.shown.length ≤ n ∧ d.depth ≤ k
theorem Gd.le {K : PySem.W.Frag} {H : Hp} {n k n' k' : Nat} {v : V} (h : Gd K H n k v) (h1 : n ≤ n') (h2 : k ≤ k') : Gd K H n' k' v := by
  obtain ⟨d, a, b, c, e⟩ := h
  exact ⟨d, a, b, Nat.le_trans c h1, Nat.le_trans e h2⟩
theorem Gd.same {K : PySem.W.Frag} {H H' : Hp} {n k : Nat} {v : V} (h : Gd K H n k v) (e : RdLe H H') : Gd K H' n k v := by
  obtain ⟨d, a, b⟩ := h
  exact ⟨d, th_le e a, b⟩
theorem gd_all {K : PySem.W.Frag} {H : Hp} {n k : Nat} : ∀ {xs : List V}, (∀ v ∈ xs, Gd K H n k v) → ∃ ds, ThAll K H xs ds ∧ PyData.showableAll ds = true ∧ piled (PyData.shownAll ds) ≤ (n + 2) * xs.length ∧ PyData.depthAll ds ≤ k
  | [], _ => ⟨[], .nil, by unfold PyData.showableAll; rfl, by unfold PyData.shownAll; exact Nat.le_refl _, by unfold PyData.depthAll; exact Nat.zero_le _⟩
  | v :: xs, h => by
    obtain ⟨ds, a, b, c, e⟩ := gd_all (xs := xs) fun u hu => h u (List.mem_cons_of_mem _ hu)
    obtain ⟨d, a1, b1, c1, e1⟩ := h v List.mem_cons_self
    refine ⟨d :: ds, .cons a1 a, ?_, ?_, ?_⟩
    · unfold PyData.showableAll; rw [b1, b]; rfl
    · unfold PyData.shownAll
      rw [piled_cons, List.length_cons, Nat.mul_succ]
      omega
    · unfold PyData.depthAll; exact Nat.max_le.mpr ⟨e1, e⟩
theorem gd_lst {K : PySem.W.Frag} {H : Hp} {n k c : Nat} {a : Addr} {xs : List V} (hS : SqL K H a xs) (h : ∀ v ∈ xs, Gd K H n k v) (hc : xs.length ≤ c) : Gd K H ((n + 2) * c + 4) (k + 1) (.ref a) := by
  obtain ⟨ds, a1, b, p, e⟩ := gd_all h
  refine ⟨.list ds, .lst hS a1, ?_, ?_, ?_⟩
  · unfold PyData.showable; exact b
  · unfold PyData.shown
    have := list_le (PyData.shownAll ds)
    have h3 : (n + 2) * xs.length ≤ (n + 2) * c := Nat.mul_le_mul_left _ hc
    omega
  · unfold PyData.depth; omega
/-- a thing that may be shown -/
def Sh (K : PySem.W.Frag) (H : Hp) (v : V) : Prop := ∃ d, Th K H v d ∧ Shows d
theorem Sh.same {K : PySem.W.Frag} {H H' : Hp} {v : V} (h : Sh K H v) (e : Same H H') : Sh K H' v := by
  obtain ⟨d, a, b⟩ := h
  exact ⟨d, th_same e a, b⟩
end NP
namespace NP
open PySem PySem.Spec PyProof.Rows L2
section
variable {X : Cx} {es : List Expr} {te : TE} {t : TA} {pos : Pos}
theorem ac {c : Const} {j} (h : PE X (.Constant c j pos) te) (r : PA X es t) : PA X (.Constant c j pos :: es) (tCons te t) := pa_cons h r
theorem an {x : Str} (h : PE X (.Name x pos) te) (r : PA X es t) : PA X (.Name x pos :: es) (tCons te t) := pa_cons h r
end
end NP
set_option Elab.async false
set_option linter.all false
set_option maxRecDepth 100000
namespace NP
open PySem PySem.Spec PyProof.Rows L2
structure JE (X : Cx) (e : Expr) (t : TE) : Prop where
  p : PE X e t
structure JT (X : Cx) (e : Expr) (t : TT) : Prop where
  p : PT X e t
structure JW (X : Cx) (e : Expr) (t : TT) : Prop where
  p : PW X e t
structure JA (X : Cx) (es : List Expr) (t : TA) : Prop where
  p : PA X es t
structure JS (X : Cx) (st : Stmt) (t : TS) : Prop where
  p : PS X st t
structure JB (X : Cx) (st : List Stmt) (t : TS) : Prop where
  p : PSs X st t
structure JG (X : Cx) (e : Expr) (t : TG) : Prop where
  p : PG X e t
structure JGs (X : Cx) (es : List Expr) (t : TGs) : Prop where
  p : PGs X es t
structure JI (X : Cx) (tg iter : Expr) (t : TI) : Prop where
  p : PI X tg iter t
structure JTs (X : Cx) (es : List Expr) (t : TT) : Prop where
  p : PTs X es t
structure JO (X : Cx) (e : Option Expr) (t : TO) : Prop where
  p : PO X e t
section
variable {X : Cx} {a b c o e : Expr} {es rest : List Expr} {ta tb tc te to : TE} {t : TA} {tA tB1 : TT} {pos p apos cpos p2 : Pos}
theorem jv (i : Nat) {x : Str} (hN : X.N[i]? = some x := by rfl) (hv : Vis X.env.scope x := by first | exact Or.inl rfl | exact Or.inr (Or.inl rfl) | exact Or.inr (Or.inr rfl)) (hd : (x == ("__debug__" : Str)) = false := by decide)
    (hcd : (x == ("__classdict__" : Str)) = false := by decide) : JE X (.Name x pos) (tVar i) := ⟨pe_var hN hv hd hcd⟩
theorem je_int {i : Int} {j} : JE X (.Constant (.int i) j pos) (tC (.int i)) := ⟨pe_int⟩
theorem je_bl {i : Bool} {j} : JE X (.Constant (.bool i) j pos) (tC (.bl i)) := ⟨pe_bl⟩
theorem je_non {j} : JE X (.Constant .none j pos) (tC .non) := ⟨pe_non⟩
theorem je_str {x : Str} {j} : JE X (.Constant (.str x) j pos) (tC (.str x)) := ⟨pe_str⟩
theorem je_ty {n : String} {x : Str} (hg : Gl X x) (hm : X.mg x = none) (hv : bootBuiltins x = some (.type n)) (hn : x ≠ "__name__" := by decide) (hd : (x == ("__debug__" : Str)) = false := by decide) : JE X (.Name x pos) (tC (.ty n)) := ⟨pe_bltn hg hm hv rfl hn hd⟩
theorem je_glob {x : Str} {v : V} {u : Value} (hg : Gl X x) (hm : X.mg x = some u) (r : RelV v u) (hd : (x == ("__debug__" : Str)) = false := by decide) : JE X (.Name x pos) (tC v) := ⟨pe_glob hg hm r hd⟩
theorem je_one {op} (h : JE X a ta) : JE X (.BoolOp op [a] pos) ta := ⟨pe_one h.p⟩
theorem je_and (ha : JE X a ta) (hb : JE X (.BoolOp .And (b :: rest) pos) tb) : JE X (.BoolOp .And (a :: b :: rest) pos) (tAndV ta tb) := ⟨pe_and ha.p hb.p⟩
theorem je_or (ha : JE X a ta) (hb : JE X (.BoolOp .Or (b :: rest) pos) tb) : JE X (.BoolOp .Or (a :: b :: rest) pos) (tOrV ta tb) := ⟨pe_or ha.p hb.p⟩
theorem je_not (ha : JE X a ta) : JE X (.UnaryOp .Not a pos) (tNotV ta) := ⟨pe_not ha.p⟩
theorem je_if (hc : JT X c tA) (ha : JE X a ta) (hb : JE X b tb) : JE X (.IfExp c a b pos) (tIf tA ta tb) := ⟨pe_ifExp hc.p ha.p hb.p⟩
theorem je_op {op : Operator} {r : R2} (ho : OpR X (binaryOp op) r) (ha : JE X a ta) (hb : JE X b tb) : JE X (.BinOp a op b pos) (tOp r ta tb) := ⟨pe_op ho ha.p hb.p⟩
theorem je_cmp {op : CmpOp} {r : R2} (ho : OpR X (compareOp op) r) (ha : JE X a ta) (hb : JE X b tb) (hm : behindInMarks op b = false) : JE X (.Compare a [op] [b] pos) (tOp r ta tb) := ⟨pe_cmpR ho ha.p hb.p hm⟩
theorem je_ix {r : R2} (hr : IxR X r) (ha : JE X a ta) (hb : JE X b tb) (hs : PlainIx b) : JE X (.Subscript a b pos) (tOp r ta tb) := ⟨pe_ix hr ha.p hb.p hs⟩
theorem je_tup {x1} (h : JA X es t) : JE X (.Tuple es x1 pos) (tTup t) := ⟨pe_tup h.p⟩
theorem je_lst (h : JA X es t) : JE X (.List es pos) (tLst t) := ⟨pe_lst h.p⟩
theorem je_slice {r : V → Option Int → Option Int → Hp → VK → Prop} {lo hi : Option Expr} {tl th : TO} (hr : SlR X r) (he : JE X e te) (hl : JO X lo tl) (hu : JO X hi th) : JE X (.Subscript e (.Slice lo hi none p2) pos) (tSl r te tl th) := ⟨pe_slice hr he.p hl.p hu.p⟩
theorem jo_none : JO X none tNoPart := ⟨po_none⟩
theorem jo_some (h : JE X e te) : JO X (some e) (tPart te) := ⟨po_some h.p⟩
theorem je_bm0 {name : Str} {T id : String} {r : V → List V → Hp → VK → Prop} (pa : PlainAttrs T) (slot : Slot T name id) (hty : typeOf (.builtin id) = pure (.type "method_descriptor")) (hm : MtR X id r) (ho : JE X o to)
    (hbase : attributeBase o name X.env (eval o X.env) = eval o X.env := by rfl) (hline : (apos.endLine == cpos.line) = true := by rfl) : JE X (.Call (.Attribute o name apos) [] [] cpos) (tBM0 X.K T r to) := ⟨pe_bm0 pa slot hty hm ho.p hbase hline⟩
theorem je_call {CX : CXT} {k : Nat} {f : Addr} {fd : FuncData} {ps : List Str} {sp : Sp} {dvs : List V} {ds : List Value} {E : XK} {x : Str} (F : FnOk X.prog X.w X.K X.mg X.base CX k f fd ps sp) (hr : Room k X.A) (hg : Gl X x) (hm : X.mg x = some (.ref f)) (hk : PySem.W.keepIn X.K (.ref f) = true)
    (hb : Binds X.K fd ps ds) (hd : Vals dvs ds) (hx : Passes CX X E) (ha : JA X (e :: es) t) (hdb : (x == ("__debug__" : Str)) = false := by decide) (he : starEach (e :: es) X.env = (false, eval e X.env) :: starEach es X.env := by rfl)
    (hpl : (backTo pos (starEach es X.env)).any (·.1) = false := by rfl) (hcl : L2.Cl k X.gp := by first | assumption | exact L2.Cl.mono (by assumption) (by decide)) : JE X (.Call (.Name x p) (e :: es) [] pos) (tCall sp dvs E t) := ⟨pe_call F hr hg hm hk hb hd hx ha.p hdb he hpl hcl⟩
theorem je_callB {id : String} {r : List V → Hp → VK → Prop} {x : Str} (hc : CallR X (.builtin id) r) (hg : Gl X x) (hm : X.mg x = none) (hv : bootBuiltins x = some (.builtin id)) (ha : JA X (e :: es) t) (hn : x ≠ "__name__" := by decide) (hdb : (x == ("__debug__" : Str)) = false := by decide)
    (he : starEach (e :: es) X.env = (false, eval e X.env) :: starEach es X.env := by rfl) (hpl : (backTo pos (starEach es X.env)).any (·.1) = false := by rfl) : JE X (.Call (.Name x p) (e :: es) [] pos) (tCB r t) := ⟨pe_callB hc hg hm hv ha.p hn hdb he hpl⟩
theorem je_callTy {T : String} {r : List V → Hp → VK → Prop} {x : Str} (hc : CallR X (.type T) r) (hg : Gl X x) (hm : X.mg x = none) (hv : bootBuiltins x = some (.type T)) (ha : JA X (e :: es) t) (hn : x ≠ "__name__" := by decide) (hdb : (x == ("__debug__" : Str)) = false := by decide)
    (he : starEach (e :: es) X.env = (false, eval e X.env) :: starEach es X.env := by rfl) (hpl : (backTo pos (starEach es X.env)).any (·.1) = false := by rfl) : JE X (.Call (.Name x p) (e :: es) [] pos) (tCB r t) := ⟨pe_callTy hc hg hm hv ha.p hn hdb he hpl⟩
theorem je_lc {elt tg iter : Expr} {ifs : List Expr} {scope : Scope} {own : List (Str × Nat)} {wi : TI} {g : TG} {tt : TT} (hc : X.calm = true) (hN : X.N.Nodup) (hi : JI X tg iter wi) (ok : BlkOk X.N X.env.scope scope own)
    (hg : ∀ (s : Shared) (H : Hp) (C : Addr) (cl : List (Str × Addr)) (fp : List Addr), JG (X.blk s H scope (compEnvC scope cl C X.env) fp) tg g) (ht : ∀ (s : Shared) (H : Hp) (C : Addr) (cl : List (Str × Addr)) (fp : List Addr), JTs (X.blk s H scope (compEnvC scope cl C X.env) fp) ifs tt)
    (he : ∀ (s : Shared) (H : Hp) (C : Addr) (cl : List (Str × Addr)) (fp : List Addr), JE (X.blk s H scope (compEnvC scope cl C X.env) fp) elt te) (hs : ∀ x, foldedSetIterable iter X.env x = pure x := by intro _; rfl) :
    JE X (.ListComp elt [⟨tg, iter, ifs, 0⟩] scope pos) (tLc wi g tt te (own.map (·.2))) := ⟨pe_lc hc hN hi.p ok (fun s H C cl fp => (hg s H C cl fp).p) (fun s H C cl fp => (ht s H C cl fp).p) (fun s H C cl fp => (he s H C cl fp).p) hs⟩
theorem jts_nil : JTs X [] tYes := ⟨pts_nil⟩
theorem jts_one (h : JT X c tA) : JTs X [c] tA := ⟨pts_one h.p⟩
theorem ja0 : JA X [] tNil := ⟨pa_nil⟩
theorem jc {k : Const} {j} (h : JE X (.Constant k j pos) te) (r : JA X es t) : JA X (.Constant k j pos :: es) (tCons te t) := ⟨pa_cons h.p r.p⟩
theorem ji_ {i : Int} {j} (r : JA X es t) : JA X (.Constant (.int i) j pos :: es) (tCons (tC (.int i)) t) := ⟨pa_cons pe_int r.p⟩
theorem jn {x : Str} (h : JE X (.Name x pos) te) (r : JA X es t) : JA X (.Name x pos :: es) (tCons te t) := ⟨pa_cons h.p r.p⟩
theorem jTu {l : List Expr} {k} (h : JE X (.Tuple l k pos) te) (r : JA X es t) : JA X (.Tuple l k pos :: es) (tCons te t) := ⟨pa_cons h.p r.p⟩
theorem jLi {l : List Expr} (h : JE X (.List l pos) te) (r : JA X es t) : JA X (.List l pos :: es) (tCons te t) := ⟨pa_cons h.p r.p⟩
theorem jCa {f : Expr} {l : List Expr} {k : List Keyword} (h : JE X (.Call f l k pos) te) (r : JA X es t) : JA X (.Call f l k pos :: es) (tCons te t) := ⟨pa_cons h.p r.p⟩
theorem jSu {a b : Expr} (h : JE X (.Subscript a b pos) te) (r : JA X es t) : JA X (.Subscript a b pos :: es) (tCons te t) := ⟨pa_cons h.p r.p⟩
theorem jBi {a b : Expr} {o : Operator} (h : JE X (.BinOp a o b pos) te) (r : JA X es t) : JA X (.BinOp a o b pos :: es) (tCons te t) := ⟨pa_cons h.p r.p⟩
theorem jCm {a : Expr} {os : List CmpOp} {bs : List Expr} (h : JE X (.Compare a os bs pos) te) (r : JA X es t) : JA X (.Compare a os bs pos :: es) (tCons te t) := ⟨pa_cons h.p r.p⟩
theorem jt_w (h : JW X a tA) : JT X a tA := ⟨PW.pt h.p⟩
theorem jw_or1 (ha : JT X a tA) : JW X (.BoolOp .Or [a] pos) tA := ⟨pw_or1 ha.p⟩
theorem jw_or (ha : JT X a tA) (hb : JW X (.BoolOp .Or (b :: rest) pos) tB1) : JW X (.BoolOp .Or (a :: b :: rest) pos) (tOr tA tB1) := ⟨pw_or ha.p hb.p⟩
theorem jt_not (ha : JT X a tA) : JT X (.UnaryOp .Not a pos) (tNot tA) := ⟨pt_not ha.p⟩
theorem jt_val (h : JE X e te) (he : ∀ whole, isTrue e X.env whole = (do let v ← whole; standAt e.pos; holding [v] (truthy v)) := by intro _; rfl) : JT X e (tB te) := ⟨pt_val h.p he⟩
theorem jt_cmp {op : CmpOp} {r : R2} (ho : OpR X (compareOp op) r) (ha : JE X a ta) (hb : JE X b tb) (hm : behindInMarks op b = false) : JT X (.Compare a [op] [b] pos) (tTest (tOp r ta tb)) := ⟨pt_cmpR ho ha.p hb.p hm⟩
end
section
variable {X : Cx} {tg e iter : Expr} {te : TE} {t u : TS} {pos : Pos} {st : Stmt} {rest : List Stmt}
theorem jb_nil : JB X [] tNext := ⟨pss_nil⟩
theorem jb_one (h : JS X st t) : JB X [st] t := ⟨pss_one h.p⟩
theorem jb_cons (h : JS X st t) (r : JB X rest u) : JB X (st :: rest) (tSeq t u) := ⟨pss_cons h.p r.p⟩
theorem js_expr (he : JE X e te) (hs : swapsWith e none pos.line X.env = pure false := by rfl) : JS X (.Expr e pos) (tDrop te) := ⟨ps_expr he.p hs⟩
theorem js_ret (he : JE X e te) : JS X (.Return (some e) pos) (tRet te) := ⟨ps_ret he.p⟩
theorem js_if {c : Expr} {a b : List Stmt} {tc : TT} (hc : JT X c tc) (ha : JB X a t) (hb : JB X b u) : JS X (.If c a b pos) (tIfS tc t u) := ⟨ps_if hc.p ha.p hb.p⟩
theorem jb_never : JB X rest tNever := ⟨pss_never⟩
theorem js_asg {g : TG} (he : JE X e te) (hg : JG X tg g) (hs : swapsWithSole [tg] e pos.line X.env = pure false := by rfl) (hw : swappedStores [tg] e X.env = pure none := by rfl) (h1 : (assignEach [tg] X.env).map (·.2) = [assign tg X.env] := by rfl) : JS X (.Assign [tg] e pos) (tAsg te g) := ⟨ps_asg he.p hg.p hs hw h1⟩
theorem js_set {i : Nat} {x : Str} {pos' : Pos} (hN : X.N.Nodup) (hi : X.N[i]? = some x) (hx : Loc X.env.scope x) (he : JE X e te) (hs : swapsWith e (some (.Name x pos')) pos.line X.env = pure false := by rfl) (hf : X.fn x = true ∨ X.env.scope.names.lookup x = some .local := by first | exact .inl rfl | exact .inr rfl | assumption) :
    JS X (.Assign [.Name x pos'] e pos) (tAsg te (gName i)) := ⟨ps_set hN hi hx he.p hs hf⟩
theorem js_setLc {i : Nat} {y : Str} {py : Pos} {elt : Expr} {ifs : List Expr} {scope : Scope} {own : List (Str × Nat)} {spos : Pos} {wi : TI} {g : TG} {tt : TT} (hc : X.calm = true) (hN : X.N.Nodup) (hy : X.N[i]? = some y) (hyl : X.env.scope.names.lookup y = some .local)
    (hsw : swapsWith (.ListComp elt [⟨tg, iter, ifs, 0⟩] scope pos) (some (.Name y py)) spos.line X.env = pure true) (hi : JI X tg iter wi) (ok : BlkOk X.N X.env.scope scope own)
    (hg : ∀ (s : Shared) (H : Hp) (C : Addr) (cl : List (Str × Addr)) (fp : List Addr), JG (X.blk s H scope (compEnvC scope cl C X.env) fp) tg g) (ht : ∀ (s : Shared) (H : Hp) (C : Addr) (cl : List (Str × Addr)) (fp : List Addr), JTs (X.blk s H scope (compEnvC scope cl C X.env) fp) ifs tt)
    (he : ∀ (s : Shared) (H : Hp) (C : Addr) (cl : List (Str × Addr)) (fp : List Addr), JE (X.blk s H scope (compEnvC scope cl C X.env) fp) elt te) (hs : ∀ x, foldedSetIterable iter X.env x = pure x := by intro _; rfl) :
    JS X (.Assign [.Name y py] (.ListComp elt [⟨tg, iter, ifs, 0⟩] scope pos) spos) (tAsg (tLc wi g tt te (own.map (·.2))) (gName i)) :=
  ⟨ps_setLc hc hN hy hyl hsw hi.p ok (fun s H C cl fp => (hg s H C cl fp).p) (fun s H C cl fp => (ht s H C cl fp).p) (fun s H C cl fp => (he s H C cl fp).p) hs⟩
theorem js_for {body : List Stmt} {wi : TI} {g : TG} {tb : TS} (hp : PassesOwn (model X.prog X.w) X.A X.env X.xe) (hc : X.calm = true) (hi : JI X tg iter wi) (hg : JG X tg g) (hb : JB X body tb) (hs : ∀ x, foldedSetIterable iter X.env x = pure x := by intro _; rfl) :
    JS X (.For tg iter body [] pos) (tFor wi g tb) := ⟨ps_for hp hc hi.p hg.p hb.p hs⟩
theorem jg_name {i : Nat} {x : Str} (hN : X.N.Nodup) (hi : X.N[i]? = some x) (hx : Loc X.env.scope x) (hf : X.fn x = true ∨ X.env.scope.names.lookup x = some .local := by first | exact .inl rfl | exact .inr rfl | assumption) : JG X (.Name x pos) (gName i) := ⟨pg_name hN hi hx hf⟩
theorem jg_tup {es : List Expr} {k : Nat} {tt : TGs} {n : Nat} (hc : X.calm = true) (h : JGs X es tt) (hn : (assignEach es X.env).length = n := by rfl) (hst : (assignEach es X.env).findIdx? (·.1) = none := by rfl) : JG X (.Tuple es k pos) (gTup X.K n tt) := ⟨pg_tup hc h.p hn hst⟩
theorem jgs_nil : JGs X [] gNil := ⟨pgs_nil⟩
theorem jgs_cons {es : List Expr} {g : TG} {gs : TGs} (h1 : JG X e g) (h2 : JGs X es gs) (hs : (assignEach (e :: es) X.env).map (·.2) = assign e X.env :: (assignEach es X.env).map (·.2) := by rfl) : JGs X (e :: es) (gCons g gs) := ⟨pgs_cons h1.p h2.p hs⟩
theorem jg_sub {o i : Expr} {to ti : TE} {tt : TSet} (ho : JE X o to) (hi : JE X i ti) (hs : PSet X tt)
    (ha : ∀ v, assign (.Subscript o i pos) X.env v = (do
      let ov ← holding [v] (eval o X.env)
      let iv ← holding [v, ov] (eval i X.env)
      standAt pos
      holding [v, ov, iv] (setItem ov iv v)
      release [v, ov, iv] []) := by intro _; rfl) : JG X (.Subscript o i pos) (gSub to ti tt) := ⟨pg_sub ho.p hi.p hs ha⟩
theorem ji_list {l : Expr} {tl : TE} (hl : JE X l tl) : JI X tg l (iList X.K tl) := ⟨pi_list hl.p⟩
theorem ji_range1 {a : Expr} {ta : TA} {p : Pos} (hg : Gl X "range") (hm : X.mg "range" = none) (ha : JA X [a] ta) (hs : starEach [a] X.env = [(false, eval a X.env)] := by rfl) : JI X tg (.Call (.Name "range" p) [a] [] pos) (iRng1 ta) := ⟨pi_range1 hg hm ha.p hs⟩
end
/-- a def's rule by wrapped judgements -/
theorem fnJ {P : Program} {w : World} {K : PySem.W.Frag} {mg : Str → Option Value} {base : Heap} {x qual : Str} {st : Stmt} {f : Addr} {fd : FuncData} {N ps : List Str} {k : Nat} {sp : Sp} (F : Fun K x qual st f fd) (S : FnScope N ps (defScope st)) (len : ∀ vs H Q E, sp vs H Q E → vs.length = ps.length)
    (hbody : ∀ (cdv : Value) (A : Around) (outer : List Env) (s : Shared) (H : Hp) (vs : List V) (Q : VK) (E : XK) (gp : Array GenState → Drawn → Prop), L2.Cl (k + 1) gp → Room k (A.deeper (envOfC qual (defScope st) s.heap.objs.size f cdv)) → sp vs H Q E →
      ∃ t, JB (cxOf CX0 P w K mg base N qual (defScope st) f cdv A outer s H E gp).nox (defBody st) t ∧ t { nx := fun _ H' => Q .non H', rt := Q } (L2.start N vs) H) : FnOk P w K mg base CX0 (k + 1) f fd ps sp :=
  F.ok S len fun cdv A outer s H vs Q E gp hcl hr h => let ⟨t, j, q⟩ := hbody cdv A outer s H vs Q E gp hcl hr h; ⟨t, j.p, q⟩
end NP
set_option Elab.async false
set_option linter.all false
set_option maxRecDepth 100000
namespace NP
open PySem PySem.Spec PyProof.Rows L2
section
variable {X : Cx}
end
section
variable {X : Cx}
end
section
variable {X : Cx} {e st : Expr} {te ts : TE} {pos p2 : Pos}
end
end NP
set_option Elab.async false
set_option linter.all false
set_option maxRecDepth 100000
namespace NP
open PySem PySem.Spec PyProof.Rows L2
def iot (n : Nat) : List Int := (List.range n).map fun (i : Nat) => (i : Int)
theorem iot_mem {n : Nat} {x : Int} : x ∈ iot n ↔ 0 ≤ x ∧ x < n := by
  unfold iot
  rw [List.mem_map]
  constructor
  · rintro ⟨i, hi, rfl⟩
    have := List.mem_range.mp hi
    omega
  · rintro ⟨h0, h1⟩
    exact ⟨x.toNat, List.mem_range.mpr (by omega), by omega⟩
structure IsOrd (ns : List Int) : Prop where
  len : ns.length ≤ 40
  perm : ns.Perm (iot ns.length)
theorem IsOrd.mem {ns : List Int} (h : IsOrd ns) {x : Int} : x ∈ ns ↔ 0 ≤ x ∧ x < ns.length := by rw [h.perm.mem_iff, iot_mem]
/-- where each thing stands; how far it moved -/
def bk (ns : List Int) : List Int := (iot ns.length).map fun t => (ns.idxOf t : Int)
def mv (ns : List Int) : List Int := (iot ns.length).map fun t => (ns.idxOf t : Int) - t
section
variable {X : Cx} {x : Str} {px p pos gpos : Pos} {elt iter : Expr} {scope : Scope} {ts : TE} {c T : Addr} {R : L2.St → Hp → V → Bool → Prop} {cl : List (Str × Addr)}
end
section
variable {X : Cx} {o e : Expr} {to : TE} {t : TA} {apos cpos : Pos}
theorem je_append (ho : JE X o to) (ha : JA X [e] t) (hbase : attributeBase o "append" X.env (eval o X.env) = eval o X.env := by rfl)
    (hfew : ((backTo cpos (starEach [e] X.env)).all (fun x => !x.1) && (backToKw cpos (keywordEach [] X.env)).all (fun x => x.1.isSome) && decide ([e].length + ([] : List Keyword).length + (if ([] : List Keyword).isEmpty then 0 else 1) < 30)) = true := by rfl)
    (hline : (apos.endLine == cpos.line) = true := by rfl) (hs : starEach [e] X.env = (false, eval e X.env) :: starEach [] X.env := by rfl) (hplain : (backTo cpos (starEach [] X.env)).any (·.1) = false := by rfl) :
    JE X (.Call (.Attribute o "append" apos) [e] [] cpos) (tBM X.K "list" rAppend to t) := ⟨pe_bm PySem.F.plainAttrs_list PySem.F.slot_list_append PySem.F.type_list_append mt_append ho.p ha.p hbase hfew hline hs hplain⟩
end
section
variable {X : Cx} {K : PySem.W.Frag} {o e : Expr} {to : TE} {t : TA} {apos cpos : Pos}
end
end NP
set_option Elab.async false
set_option linter.all false
set_option maxRecDepth 100000
namespace NP
open PySem PySem.Spec PyProof.Rows L2
theorem itT {c : Bool} {A B : Prop} (h : c = true) (a : A) : if c = true then A else B := by rw [if_pos h]; exact a
theorem itF {c : Bool} {A B : Prop} (h : c = false) (b : B) : if c = true then A else B := by rw [if_neg (by rw [h]; exact Bool.false_ne_true)]; exact b
def whole : PyData → Bool
  | .int _ => true
  | _ => false
def betw (lo hi : Int) : PyData → Bool
  | .int i => decide (lo ≤ i) && decide (i ≤ hi)
  | _ => false
theorem same_new {H : Hp} {p : Addr} (h : H p = none) (o : HO) : Same H (upd H p o) := fun b u q => by rw [upd_ne (ne_of_none q h)]; exact q
/-- a new object, whatever its address -/
theorem alloc {H : Hp} {o : HO} {G : V → Hp → Prop} (h : ∀ (p : Addr) (H' : Hp), Same H H' → H' p = some o → H p = none → G (.ref p) H') : ∀ p, H p = none → G (.ref p) (upd H p o) := fun p hp => h p _ (same_new hp o) upd_same hp
/-- names of built-ins that the text does not take -/
structure Mg (mg : Str → Option Value) : Prop where
  isi : mg "isinstance" = none
  int : mg "int" = none
  bool : mg "bool" = none
  tuple : mg "tuple" = none
  list : mg "list" = none
  all : mg "all" = none
  len : mg "len" = none
  repr : mg "repr" = none
  dict : mg "dict" = none
  range : mg "range" = none

def spWhole (K : PySem.W.Frag) : Sp := fun vs H Q _ => ∃ x d, vs = [x] ∧ Th K H x d ∧ Q (.bl (whole d)) H
def spBetw (K : PySem.W.Frag) : Sp := fun vs H Q _ => ∃ x d lo hi, vs = [x, .int lo, .int hi] ∧ Th K H x d ∧ Q (.bl (betw lo hi d)) H
section
variable {X : Cx}
theorem pe_ty {n : String} {x : Str} {pos : Pos} (hg : Gl X x) (hm : X.mg x = none) (hv : bootBuiltins x = some (.type n)) (hn : x ≠ "__name__" := by decide) (hd : (x == ("__debug__" : Str)) = false := by decide) : PE X (.Name x pos) (tC (.ty n)) :=
  pe_bltn hg hm hv rfl hn hd
end
end NP
namespace NP
open PySem PySem.Spec PyProof.Rows L2
end NP
namespace NP
open PySem PySem.Spec PyProof.Rows L2
/-- a well: what is left, the cell, how many draws were mixed -/
def WellAt (H : Hp) (p : Addr) (c n : Int) : Prop := ∃ z : Int, H p = some (.lst [.int z, .int c, .int n])
/-- all but the object at p is as it was -/
def SameBut (p : Addr) (H H' : Hp) : Prop := ∀ b o, b ≠ p → H b = some o → H' b = some o
theorem SameBut.trans {p : Addr} {H H1 H2 : Hp} (a : SameBut p H H1) (b : SameBut p H1 H2) : SameBut p H H2 := fun c o n h => b c o n (a c o n h)
theorem SameBut.then {p : Addr} {H H1 H2 : Hp} (a : SameBut p H H1) (b : Same H1 H2) : SameBut p H H2 := fun c o n h => b c o (a c o n h)
theorem Same.but {p : Addr} {H H1 : Hp} (a : Same H H1) : SameBut p H H1 := fun c o _ h => a c o h
theorem emod_range {a m : Int} (h : 0 < m) : 0 ≤ a % m ∧ a % m < m := ⟨Int.emod_nonneg _ (by omega), Int.emod_lt_of_pos _ h⟩
end NP
namespace NP
open PySem PySem.Spec PyProof.Rows L2
end NP
namespace NP
open PySem PySem.Spec PyProof.Rows L2
theorem atI_in {α : Type} {xs : List α} {r : Int} (h0 : 0 ≤ r) (h1 : r < (xs.length : Int)) : ∃ v, atI xs r = some v ∧ v ∈ xs := by
  have hk : r.toNat < xs.length := by omega
  have e : r = ((r.toNat : Nat) : Int) := by omega
  have q : atI xs ((r.toNat : Nat) : Int) = some xs[r.toNat] := atI_nat (List.getElem?_eq_getElem hk)
  rw [← e] at q
  exact ⟨_, q, List.getElem_mem hk⟩
theorem new_at {H : Hp} {p : Addr} (_ : H p = none) (o : HO) : upd H p o p = some o := upd_same
end NP
namespace NP
open PySem PySem.Spec PyProof.Rows L2
def spLaw (K : PySem.W.Frag) (tabs : List (Addr × Addr)) : Sp := fun vs H Q _ => ∃ (a : Addr) (ns : List Int), vs = [.ref a] ∧ SqL K H a (ns.map V.int) ∧ ns.length ≤ 63 ∧ (∀ p ∈ tabs, H p.2 = some (TabP p.2)) ∧ ∀ H', Same H H' → Q (.bl true) H'
theorem cut_ints {ns : List Int} {lo hi : Option Int} {x : V} (h : x ∈ cutV (ns.map V.int) lo hi) : ∃ z : Int, x = .int z := by
  unfold cutV at h
  have h1 := List.mem_of_mem_drop (List.mem_of_mem_take h)
  obtain ⟨z, _, e⟩ := List.mem_map.mp h1
  exact ⟨z, e.symm⟩
end NP
namespace NP
open PySem PySem.Spec PyProof.Rows L2
/-- a def as it stands behind the top: its name leads to it, its record, its code, and that it is kept -/
structure DefAt (K : PySem.W.Frag) (x : Str) (st : Stmt) (f : Addr) (fd : FuncData) : Prop where
  ns : PySem.W.nsIn K mainGlobals x = some (some (.ref f))
  fn : Fun K x x st f fd
theorem defAt {K : PySem.W.Frag} {x : Str} {st : Stmt} {f : Addr} {oc : Value} {od an : Option Addr} {osl : Array (Option Value)} {kV doc pm cdv ct : Value} (a : PySem.W.nsIn K mainGlobals x = some (some (.ref f)))
    (l : K.lookup f = some ⟨oc, od, .func (PySem.W.fnOf x x (defArgs st) (defBody st) (defScope st) .none kV doc pm an cdv ct), osl⟩) (c : PySem.W.codeIn K cdv x = true) (k : PySem.W.keepIn K (.ref f) = true) :
    DefAt K x st f (PySem.W.fnOf x x (defArgs st) (defBody st) (defScope st) .none kV doc pm an cdv ct) := ⟨a, fun_mk (st := st) l c k⟩
theorem DefAt.code {K : PySem.W.Frag} {h : Heap} {mg : Str → Option Value} {x : Str} {st : Stmt} {f c : Addr} {fd : FuncData} (D : DefAt K x st f fd) (X : K.In h) (G : h.Ns mainGlobals mg) (t : TabOf h mg x c) : fd.code = .ref c := by
  obtain ⟨a, o, fd', e1, e2, e3, e4⟩ := t
  have e := e1.symm.trans (PySem.W.mg_of X G D.ns)
  cases e
  obtain ⟨oc, od, kV, doc, pm, an, cdv, ct, osl, rfl, lk, _⟩ := D.fn.ex
  have e5 := X _ _ lk
  rw [e2] at e5
  cases e5
  cases e3
  exact e4
theorem walkL {l : PySem.W.OpenLaw} {q : Program} {loose : List Str} {XP : (Str → Option Value) → Heap → Prop} {YP : World → Heap → Prop} {d : DefRec} {K : Params → PySem.W.Frag} (names : List Str) (hn : l.most = some 63) (hdf : d.params.defaults = [])
    (hrec : ∀ m ∈ names, ((recsOf q).find? fun e => e.name == m).isSome = true) (hY : ∀ (w : World) (h : Heap), YP w h → (K w.params).In h) (kc : ∀ w : World, PySem.W.kb_classed (K w.params) = true)
    (F : ∀ (w : World) (mg : Str → Option Value) (fa : Addr) (h : Heap) (tabs : List (Addr × Addr)), (K w.params).In h → h.Ns mainGlobals mg → mg d.name = some (.ref fa) → Paired (fun n p => TabOf h mg n p.1) names tabs →
      ∃ fd : FuncData, (∀ (s : Shared) (u : Value), BindsTo s fd ⟨[u], []⟩ [("script", u)]) ∧
        ∀ base : Heap, (K w.params).In base → base.Ns mainGlobals mg → (∀ p ∈ tabs, CodeB base mg p.1 p.2) → FnOk l.prog w (K w.params) mg base CX0 20 fa fd ["script"] (spLaw (K w.params) tabs)) :
    PySem.W.WalkO q loose XP YP l.row.toRowW d [] (fun f vs => PySem.call f vs) :=
  walk_ofT (n := 63) (k := 20) (x := "script") (sp := fun w tabs => spLaw (K w.params) tabs) names hn (by decide) hdf ⟨rfl, by decide, by decide⟩ hrec hY kc F
    fun w H a ns tabs hl hS hT => ⟨a, ns, rfl, hS, hl, hT, fun H' e => ⟨rfl, fun p hp => e _ _ (hT p hp)⟩⟩
end NP
set_option Elab.async false
set_option linter.all false
set_option maxRecDepth 100000
namespace NP
open PySem PySem.Spec PyProof.Rows L2
structure Mg2 (mg : Str → Option Value) : Prop where
  base : Mg mg
  sorted : mg "sorted" = none
  enumerate : mg "enumerate" = none
  min : mg "min" = none
  max : mg "max" = none
/-- an order at a list -/
def OrdAt (K : PySem.W.Frag) (H : Hp) (v : V) (ns : List Int) : Prop := ∃ a, v = .ref a ∧ SqL K H a (ns.map V.int) ∧ IsOrd ns
theorem OrdAt.same {K : PySem.W.Frag} {H H' : Hp} {v : V} {ns : List Int} (h : OrdAt K H v ns) (e : Same H H') : OrdAt K H' v ns := by
  obtain ⟨a, rfl, hS, ho⟩ := h
  exact ⟨a, rfl, e.seq hS, ho⟩
end NP
namespace NP
open PySem PySem.Spec PyProof.Rows L2
def IsMx (xs : List Int) (m : Int) : Prop := m ∈ xs ∧ ∀ y ∈ xs, y ≤ m
theorem IsMx.uniq {xs : List Int} {a b : Int} (h : IsMx xs a) (k : IsMx xs b) : a = b := Int.le_antisymm (k.2 a h.1) (h.2 b k.1)
def within (l r : Int) (xs : List Int) : Bool := xs.all fun m => decide (-l ≤ m) && decide (m ≤ r)
end NP
namespace NP
open PySem PySem.Spec PyProof.Rows L2
end NP
namespace NP
open PySem PySem.Spec PyProof.Rows L2
end NP
namespace NP
open PySem PySem.Spec PyProof.Rows L2
end NP
namespace NP
open PySem PySem.Spec PyProof.Rows L2
end NP
set_option Elab.async false
set_option linter.all false
set_option maxRecDepth 100000
namespace NP
open PySem PySem.Spec PyProof.Rows L2
/-- the one holds what the other holds, turned about -/
def NegSet (xs ys : List Int) : Prop := ∀ x, x ∈ xs ↔ -x ∈ ys
theorem NegSet.within {xs ys : List Int} (h : NegSet xs ys) (l r : Int) : within l r xs = within r l ys := by
  unfold NP.within
  rw [Bool.eq_iff_iff, List.all_eq_true, List.all_eq_true]
  constructor
  · intro a x hx
    have := a (-x) ((h (-x)).mpr (by rw [Int.neg_neg]; exact hx))
    rw [Bool.and_eq_true, decide_eq_true_eq, decide_eq_true_eq] at this ⊢
    omega
  · intro a x hx
    have := a (-x) ((h x).mp hx)
    rw [Bool.and_eq_true, decide_eq_true_eq, decide_eq_true_eq] at this ⊢
    omega
section
variable {X : Cx} {e a b : Expr} {es : List Expr} {tf : TE} {t : TA} {p1 pos : Pos} {R : Addr → Sp → Prop}
end
end NP
set_option Elab.async false
set_option linter.all false
set_option maxRecDepth 100000
namespace NP
open PySem PySem.Spec PyProof.Rows L2
/-- the enumerate object, when it has drawn i pairs: nothing handed out yet, or one pair that is still there -/
inductive EnS (h : Heap) (e it : Addr) (i : Nat) : Prop
  | new : IsEnum h e it (i : Int) .none → EnS h e it i
  | out {a : Addr} {b : Bool} {y : Value} {o : Obj} : h.get? e = some { cls := .type "enumerate", dict := none, data := .fields #[rawInt (a : Int), .bool b, .ref it, rawInt (i : Int), .none, y], slots := #[] } → h.get? a = some o → a ≠ e → a ≠ it → EnS h e it i
section
variable {prog : Program} {w : World} {A : Around} {E : Value → Shared → Prop} {s : Shared}
end
end NP
set_option Elab.async false
set_option linter.all false
set_option maxRecDepth 100000
namespace NP
open PySem PySem.Spec PyProof.Rows L2
section
variable {prog : Program} {w : World} {A : Around} {E : Value → Shared → Prop} {s : Shared}
end
end NP
set_option Elab.async false
set_option linter.all false
set_option maxRecDepth 100000
namespace NP
open PySem PySem.Spec PyProof.Rows L2
theorem EnS.stay {h h' : Heap} {e it S : Addr} {i : Nat} (x : EnS h e it i) (k : ∀ c o, c ≠ S → h.get? c = some o → h'.get? c = some o) (hS : ∃ o, h'.get? S = some o) (ne : e ≠ S) : EnS h' e it i := by
  cases x with
  | new q => exact .new (k e _ ne q)
  | @out a b y o q qa h1 h2 =>
    by_cases z : a = S
    · obtain ⟨o', ho⟩ := hS
      exact .out (k e _ ne q) (by rw [z]; exact ho) h1 h2
    · exact .out (k e _ ne q) (k a o z qa) h1 h2
section
variable {prog : Program} {w : World} {A : Around} {E : Value → Shared → Prop}
end
end NP
set_option Elab.async false
set_option linter.all false
set_option maxRecDepth 100000
namespace NP
open PySem PySem.Spec PyProof.Rows L2
def SameEx (X : Addr → Prop) (H H' : Hp) : Prop := ∀ b o, ¬ X b → H b = some o → H' b = some o
def St (K : PySem.W.Frag) (X : Addr → Prop) (n k : Nat) (H : Hp) (v : V) : Prop := ∀ H', SameEx X H H' → Gd K H' n k v
/-- an item of a list that is built; a thing -/
abbrev Oi (K : PySem.W.Frag) (X : Addr → Prop) (H : Hp) (v : V) : Prop := St K X 400 3 H v
abbrev Ot (K : PySem.W.Frag) (X : Addr → Prop) (H : Hp) (v : V) : Prop := St K X 200000 6 H v
theorem SameEx.trans {X : Addr → Prop} {H H1 H2 : Hp} (a : SameEx X H H1) (b : SameEx X H1 H2) : SameEx X H H2 := fun c o n h => b c o n (a c o n h)
theorem Same.ex {X : Addr → Prop} {H H1 : Hp} (a : Same H H1) : SameEx X H H1 := fun c o _ h => a c o h
theorem SameBut.ex {X : Addr → Prop} {p : Addr} {H H1 : Hp} (a : SameBut p H H1) (h : X p) : SameEx X H H1 := fun c o n q => a c o (fun z => n (by rw [z]; exact h)) q
section
variable {K : PySem.W.Frag} {X Y : Addr → Prop} {a : Addr} {n k : Nat} {H H1 : Hp} {v : V}
theorem St.le {n' k' : Nat} (h : St K X n k H v) (h1 : n ≤ n') (h2 : k ≤ k') : St K X n' k' H v := fun H' s => (h H' s).le h1 h2
theorem St.mono (h : St K X n k H v) (s : SameEx X H H1) : St K X n k H1 v := fun H' t => h H' (s.trans t)
theorem St.same (h : St K X n k H v) (s : Same H H1) : St K X n k H1 v := h.mono (Same.ex s)
theorem St.but {p : Addr} (h : St K X n k H v) (s : SameBut p H H1) (hp : X p) : St K X n k H1 v := h.mono (s.ex hp)
theorem St.sub (h : St K Y n k H v) (s : ∀ b, X b → Y b) : St K X n k H v := fun H' t => h H' fun b o nb e => t b o (fun z => nb (s b z)) e
/-- one more object may change: it is new -/
theorem St.grow {l : Addr} (h : St K X n k H v) (hl : H l = none) (s : Same H H1) : St K (fun b => X b ∨ b = l) n k H1 v := fun H' t => h H' fun b o nb e => t b o (fun z => z.elim nb fun y => by rw [y, hl] at e; cases e) (s b o e)
theorem St.gd (h : St K X n k H v) : Gd K H n k v := h H fun _ _ _ e => e
theorem st_lst {c : Nat} {xs : List V} (h : H a = some (.lst xs)) (ne : ¬ X a) (hx : ∀ v ∈ xs, St K X n k H v) (hc : xs.length ≤ c) : St K X ((n + 2) * c + 4) (k + 1) H (.ref a) := fun H' s => gd_lst (SqL.of (s a _ ne h)) (fun v hv => hx v hv H' s) hc
/-- a list of at most hundred items is a thing -/
theorem ot_lst {xs : List V} (h : H a = some (.lst xs)) (ne : ¬ X a) (hx : ∀ v ∈ xs, Oi K X H v) (hc : xs.length ≤ 100) : Ot K X H (.ref a) := (st_lst h ne hx hc).le (by decide) (by decide)
/-- dicts of ints, bounded -/
def IntKV (kvs : List (Key × V)) (c : Nat) (b : Int) : Prop := ∃ kis : List (Int × Int), kvs = kis.map (fun q => ((Sum.inl q.1 : Key), V.int q.2)) ∧ kis.length ≤ c ∧ ∀ q ∈ kis, 0 ≤ q.1 ∧ q.1 ≤ b ∧ 0 ≤ q.2 ∧ q.2 ≤ b
theorem IntKV.put {kvs : List (Key × V)} {c : Nat} {b i j : Int} (h : IntKV kvs c b) (hi0 : 0 ≤ i) (hi : i ≤ b) (hj0 : 0 ≤ j) (hj : j ≤ b) : IntKV (putK kvs (Sum.inl i) (.int j)) (c + 1) b := by
  obtain ⟨kis, rfl, hc, hb⟩ := h
  unfold putK
  split
  · refine ⟨kis.map fun q => if q.1 = i then (q.1, j) else q, ?_, by rw [List.length_map]; omega, fun q hq => ?_⟩
    · rw [List.map_map, List.map_map]
      refine List.map_congr_left fun q _ => ?_
      show (if ((Sum.inl q.1 : Key) = Sum.inl i) then ((Sum.inl q.1 : Key), V.int j) else ((Sum.inl q.1 : Key), V.int q.2)) = _
      by_cases e : q.1 = i
      · rw [if_pos (by rw [e])]
        show _ = ((Sum.inl (if q.1 = i then (q.1, j) else q).1 : Key), V.int (if q.1 = i then (q.1, j) else q).2)
        rw [if_pos e]
      · rw [if_neg (fun z => e (Sum.inl.inj z))]
        show _ = ((Sum.inl (if q.1 = i then (q.1, j) else q).1 : Key), V.int (if q.1 = i then (q.1, j) else q).2)
        rw [if_neg e]
    · obtain ⟨r, hr, rfl⟩ := List.mem_map.mp hq
      have := hb r hr
      split
      · exact ⟨this.1, this.2.1, hj0, hj⟩
      · exact this
  · refine ⟨kis ++ [(i, j)], by rw [List.map_append]; rfl, by rw [List.length_append]; exact Nat.add_le_add_right hc 1, fun q hq => ?_⟩
    rcases List.mem_append.mp hq with hq | hq
    · exact hb q hq
    · rw [List.mem_singleton.mp hq]; exact ⟨hi0, hi, hj0, hj⟩
end
section
variable {X : Cx} {o e f : Expr} {td ty tx : TE} {apos cpos : Pos}
end
end NP
set_option Elab.async false
set_option linter.all false
set_option maxRecDepth 100000
namespace NP
open PySem PySem.Spec PyProof.Rows L2
end NP
set_option Elab.async false
set_option linter.all false
set_option maxRecDepth 100000
namespace NP
open PySem PySem.Spec PyProof.Rows L2
section
variable {P : Program} {w : World} {H H1 : Hp} {h h' : Heap} {ea T T' C : Addr}
/-- one step behind the other; what the second one spares was not there ahead of the first -/
theorem Un.join {fs fs2 ex : List Addr} {H H1 H2 : Hp} {h h1 h2 : Heap} (a : Un fs [] H H1 h h1) (b : Un fs2 ex H1 H2 h1 h2) (hf : ∀ x ∈ fs2, x ∈ fs ∨ h.get? x = none) (hx : ∀ x ∈ ex, h.get? x = none) : Un fs [] H H2 h h2 := by
  have ne : ∀ c o, h.get? c = some o → c ∉ ex := fun c o q z => by rw [hx c z] at q; cases q
  refine ⟨fun c ob q n hc _ => ?_, fun c ob q n hc _ => ?_, fun c ob q n _ => ?_, fun c ob q _ => ?_, fun c xs q => b.tups c xs (a.tups c xs q), fun c ob xs q => b.frzs c ob xs (a.frzs c ob xs q), fun c ps q => ?_⟩
  · exact b.keep c ob (a.keep c ob q n hc (by simp)) (a.free c ob q n (by simp)) (fun z => (hf c z).elim hc fun y => by rw [y] at q; cases q) (ne c ob q)
  · obtain ⟨sl, e1⟩ := a.slot c ob q n hc (by simp)
    obtain ⟨sl', e2⟩ := b.any e1 (a.free c ob q n (by simp)) (ne c ob q)
    exact ⟨sl', e2⟩
  · obtain ⟨o', e1⟩ := a.there c ob q (by simp)
    exact b.free c o' e1 (a.free c ob q n (by simp)) (ne c ob q)
  · obtain ⟨o', e1⟩ := a.there c ob q (by simp)
    exact b.there c o' e1 (ne c ob q)
  · obtain ⟨m1, e1⟩ := a.tbls c ps q
    obtain ⟨m2, e2⟩ := b.tbls c _ e1
    exact ⟨m1 ++ m2, by rw [e2, Array.append_assoc]⟩
end
end NP
set_option Elab.async false
set_option linter.all false
set_option maxRecDepth 100000
namespace NP
open PySem PySem.Spec PyProof.Rows L2
section
variable {P : Program} {w : World} {M : Model} {A : Around} {E : Value → Shared → Prop} {H1 : Hp} {s : Shared} {ea T C L : Addr} {env : Env} {outer : List Env} {base0 : Heap}
end
section
variable {P : Program} {w : World} {K : PySem.W.Frag} {mg : Str → Option Value} {base : Heap} {N : List Str} {qual : Str} {scope : Scope} {f : Addr} {cdv : Value} {A : Around} {outer : List Env} {s : Shared} {H : Hp} {E : XK} {gp : Array GenState → Drawn → Prop}
end
/-- nothing leaves: it leaves so, too -/
theorem FnOk.e {P : Program} {w : World} {K : PySem.W.Frag} {mg : Str → Option Value} {base : Heap} {CX : CXT} {k : Nat} {f : Addr} {fd : FuncData} {ps : List Str} {sp : Sp} (F : FnOk P w K mg base CX0 k f fd ps sp) : FnOk P w K mg base CX k f fd ps sp :=
  ⟨F.len, fun A outer s H args us vs Q E gp hc hg hf hr he hb hv hs => codeAny_mono (F.run A outer s H args us vs Q E gp hc hg hf hr he hb hv hs) fun r s' h => by
    cases r with
    | error e => exact h.elim
    | ok fl => cases fl <;> exact h⟩
/-- a def of which two things are known -/
theorem FnOk.or {P : Program} {w : World} {K : PySem.W.Frag} {mg : Str → Option Value} {base : Heap} {CX : CXT} {k : Nat} {f : Addr} {fd : FuncData} {ps : List Str} {sp sp' : Sp} (F : FnOk P w K mg base CX k f fd ps sp) (F' : FnOk P w K mg base CX k f fd ps sp') : FnOk P w K mg base CX k f fd ps (fun vs H Q E => sp vs H Q E ∨ sp' vs H Q E) :=
  ⟨fun vs H Q E h => h.elim (F.len vs H Q E) (F'.len vs H Q E), fun A outer s H args us vs Q E gp hc hg hf hr he hb hv hs => hs.elim (F.run A outer s H args us vs Q E gp hc hg hf hr he hb hv) (F'.run A outer s H args us vs Q E gp hc hg hf hr he hb hv)⟩
end NP
set_option Elab.async false
set_option linter.all false
set_option maxRecDepth 100000
namespace NP
open PySem PySem.Spec PyProof.Rows L2
end NP
set_option Elab.async false
set_option linter.all false
set_option maxRecDepth 100000
namespace NP
open PySem PySem.Spec PyProof.Rows L2
section
variable {X : Cx} {pins : List (Addr × Obj)} {σ σ' : L2.St} {H H' H1 : Hp} {s : Shared} {h' : Heap} {T ea C : Addr}
/-- the frame's own names changed -/
theorem names {t' : Nat} {m m' : Str → Option Value} (I : L2.Inv X pins σ H s) (sb : Heap.SameBut X.env.locals s.heap h') (hn' : h'.Ns X.env.locals m') (hl : σ'.length = σ.length)
    (hm : ∀ (i : Nat) (x : Str) (v : V), X.N[i]? = some x → σ'[i]? = some (some v) → Vis X.env.scope x → ∃ u, RelV v u ∧ Look X.env s.heap m' x u) : L2.Inv X pins σ' H { s with heap := h', toks := t' } := by
  have kp : ∀ b o, b ≠ X.env.locals → s.heap.get? b = some o → h'.get? b = some o := fun b o ne e => (sb.2 b ne).trans e
  have neL : ∀ b o, X.s_0.heap.get? b = some o → b ≠ X.env.locals := fun b o e => Nat.ne_of_lt (Nat.lt_of_lt_of_le (Heap.lt_size e) I.ok.above)
  have cellK : ∀ x c, X.env.cells.lookup x = some c → ∀ v, s.heap.IsCell c v → h'.IsCell c v := fun x c e v ⟨o, ho, hd⟩ => ⟨o, kp c o (I.cne x c e) ho, hd⟩
  have hne : ∀ {b : Addr} {u : HO}, H b = some u → b ≠ X.env.locals := fun e => ne_of_none e I.free
  refine ⟨I.ok, I.os, I.bare, ⟨fun b o e n hb hx => kp b o (neL b o e) (I.base.keep b o e n hb hx), fun b o e n hb hx => ?_, I.base.free, fun b o e hx => ?_, I.base.tups, I.base.frzs, I.base.tbls⟩, ⟨m', hn', fun i x v e1 e2 e3 => ?_⟩, fun x c e => ?_, I.free, I.freeC, fun p hp => ?_, fun b u e => ?_, hl.trans I.len⟩
  · obtain ⟨sl, q⟩ := I.base.slot b o e n hb hx
    exact ⟨sl, kp b _ (neL b o e) q⟩
  · obtain ⟨o', q⟩ := I.base.there b o e hx
    exact ⟨o', kp b o' (neL b o e) q⟩
  · obtain ⟨u, rv, l⟩ := hm i x v e1 e2 e3
    refine ⟨u, rv, ?_⟩
    rcases l with l | ⟨k, c, e, z⟩
    · exact .inl l
    · exact .inr ⟨k, c, e, cellK x c e _ z⟩
  · obtain ⟨v, z⟩ := I.cell x c e
    exact ⟨v, cellK x c e v z⟩
  · obtain ⟨e, n, ne, nf, d⟩ := I.pin p hp
    exact ⟨kp p.1 p.2 ne e, n, ne, nf, d⟩
  · refine (I.hok b u e).stay (fun c v hc q => kp c v ?_ q) (fun _ q => q) fun _ _ q => q
    rcases hc with rfl | hc
    · exact hne e
    · exact hne hc
end
end NP
set_option Elab.async false
set_option linter.all false
set_option maxRecDepth 100000
namespace NP
open PySem PySem.Spec PyProof.Rows L2
end NP
set_option Elab.async false
set_option linter.all false
set_option maxRecDepth 100000
namespace NP
open PySem PySem.Spec PyProof.Rows L2
section
variable {prog : Program} {w : World} {A : Around} {E : Value → Shared → Prop} {h : Heap} {g : Array GenState} {d : Drawn} {t : Nat} {os : OsState} {ea C : Addr} {o : Obj} {bm : List Value} {K : PySem.W.Frag}
end
end NP
set_option Elab.async false
set_option linter.all false
set_option maxRecDepth 100000
namespace NP
open PySem PySem.Spec PyProof.Rows L2
section
variable {X : Cx} {K : PySem.W.Frag}
end
section
variable {X : Cx} {o e : Expr} {to : TE} {t : TA} {apos cpos : Pos}
end
section
variable {X : Cx} {CX : CXT} {E : XK} {e a b : Expr} {es : List Expr} {tf : TE} {t : TA} {p1 pos : Pos} {R : Addr → Sp → Prop}
end
end NP
set_option Elab.async false
set_option linter.all false
set_option maxRecDepth 100000
namespace NP
open PySem PySem.Spec PyProof.Rows L2
theorem but_free {p q : Addr} {H H' : Hp} {o : HO} (s : SameBut p H H') (h : H' p = some o) (e : H' q = none) : H q = none := by
  cases z : H q with
  | none => rfl
  | some u =>
    by_cases y : q = p
    · rw [y, h] at e; cases e
    · have := s q u y z
      rw [e] at this; cases this
end NP
namespace NP
open PySem PySem.Spec PyProof.Rows L2
theorem IntKV.get {kvs : List (Key × V)} {c : Nat} {b : Int} (h : IntKV kvs c b) {k : Key} {v : V} (e : valV kvs k = some v) : ∃ j : Int, v = .int j ∧ 0 ≤ j ∧ j ≤ b := by
  obtain ⟨kis, rfl, _, hb⟩ := h
  unfold valV at e
  obtain ⟨kv, e1, rfl⟩ := Option.map_eq_some_iff.mp e
  obtain ⟨q, hq, rfl⟩ := List.mem_map.mp (List.mem_of_find?_eq_some e1)
  exact ⟨q.2, rfl, (hb q hq).2.2⟩
end NP
namespace NP
open PySem PySem.Spec PyProof.Rows L2
/-- where the spoiling stands: the well, the order, lists that are kept, what is built -/
structure BS (K : PySem.W.Frag) (X : Addr → Prop) (p o : Addr) (c : Int) (ns : List Int) (H0 : Hp) (ts : List (Addr × List V)) (items : List V) (n : Int) (H : Hp) : Prop where
  but : SameBut p H0 H
  well : WellAt H p c n
  ord : H o = some (.lst (ns.map V.int))
  tr : ∀ q ∈ ts, H q.1 = some (.lst q.2)
  dom : ∀ a, X a → H a ≠ none
  xp : X p
  xo : ¬ X o
  xt : ∀ q ∈ ts, ¬ X q.1
  good : ∀ v ∈ items, Ot K X H v
section
variable {K : PySem.W.Frag} {X : Addr → Prop} {p o : Addr} {c n : Int} {ns : List Int} {ts : List (Addr × List V)} {items : List V} {H0 H H1 : Hp}
theorem BS.ex (b : BS K X p o c ns H0 ts items n H) (s : SameEx X H H1) (n' : Int) (w : WellAt H1 p c n') (d : ∀ a, H a ≠ none → H1 a ≠ none) (bt : SameBut p H0 H1) : BS K X p o c ns H0 ts items n' H1 :=
  ⟨bt, w, s o _ b.xo b.ord, fun q hq => s q.1 _ (b.xt q hq) (b.tr q hq), fun a h => d a (b.dom a h), b.xp, b.xo, b.xt, fun v hv => (b.good v hv).mono s⟩
theorem BS.same (b : BS K X p o c ns H0 ts items n H) (s : Same H H1) : BS K X p o c ns H0 ts items n H1 := by
  obtain ⟨y, z⟩ := b.well
  refine b.ex (Same.ex s) n ⟨y, s _ _ z⟩ (fun a h => ?_) (b.but.then s)
  cases e : H a with
  | none => exact absurd e h
  | some u => rw [s a u e]; exact fun z => nomatch z
theorem BS.draw {n' : Int} (b : BS K X p o c ns H0 ts items n H) (s : SameBut p H H1) (w : WellAt H1 p c n') : BS K X p o c ns H0 ts items n' H1 := by
  refine b.ex (s.ex b.xp) n' w (fun a h => ?_) (b.but.trans s)
  by_cases e : a = p
  · obtain ⟨y, z⟩ := w
    rw [e, z]; exact fun z => nomatch z
  · cases e1 : H a with
    | none => exact absurd e1 h
    | some u => rw [s a u e e1]; exact fun z => nomatch z
theorem BS.new {a : Addr} (b : BS K X p o c ns H0 ts items n H) (h : H a = none) : ¬ X a := fun z => b.dom a z h
theorem BS.free {a : Addr} (b : BS K X p o c ns H0 ts items n H) (h : H a = none) : H0 a = none := by
  obtain ⟨y, z⟩ := b.well
  exact but_free b.but z h
theorem BS.ne {a : Addr} (b : BS K X p o c ns H0 ts items n H) (h : H a = none) : p ≠ a := by
  obtain ⟨y, z⟩ := b.well
  exact ne_of_none z h
theorem BS.put {v : V} (b : BS K X p o c ns H0 ts items n H) (h : Ot K X H v) : BS K X p o c ns H0 ts (items ++ [v]) n H :=
  ⟨b.but, b.well, b.ord, b.tr, b.dom, b.xp, b.xo, b.xt, fun u hu => (List.mem_append.mp hu).elim (fun e => b.good u e) fun e => by rw [List.mem_singleton.mp e]; exact h⟩
theorem BS.drop {q : Addr × List V} (b : BS K X p o c ns H0 (q :: ts) items n H) : BS K X p o c ns H0 ts items n H :=
  ⟨b.but, b.well, b.ord, fun r hr => b.tr r (.tail _ hr), b.dom, b.xp, b.xo, fun r hr => b.xt r (.tail _ hr), b.good⟩
/-- a list that is written from now on -/
theorem BS.grow {l : Addr} (b : BS K X p o c ns H0 ts items n H) (hl : H l = none) (u : HO) : BS K (fun a => X a ∨ a = l) p o c ns H0 ts items n (upd H l u) := by
  have s := same_new hl u
  have b' := b.same s
  refine ⟨b'.but, b'.well, b'.ord, b'.tr, fun a h => ?_, .inl b.xp, fun h => ?_, fun q hq h => ?_, fun v hv => (b.good v hv).grow hl s⟩
  · rcases h with h | h
    · exact b'.dom a h
    · rw [h, upd_same]; exact fun z => nomatch z
  · exact h.elim b.xo fun e => by have := b.ord; rw [e, hl] at this; cases this
  · exact h.elim (b.xt q hq) fun e => by have := b.tr q hq; rw [e, hl] at this; cases this
theorem BS.write {l : Addr} (b : BS K X p o c ns H0 ts items n H) (xl : X l) (lp : p ≠ l) (l0 : H0 l = none) (u : HO) : BS K X p o c ns H0 ts items n (upd H l u) := by
  obtain ⟨y, z⟩ := b.well
  refine b.ex (fun a w na h => by rw [upd_ne (fun e => na (by rw [e]; exact xl))]; exact h) n ⟨y, by rw [upd_ne lp]; exact z⟩ (fun a h => ?_) fun a w na h => ?_
  · by_cases e : a = l
    · rw [e, upd_same]; exact fun z => nomatch z
    · rw [upd_ne e]; exact h
  · rw [upd_ne (ne_of_none h l0)]
    exact b.but a w na h
theorem BS.sub {Y : Addr → Prop} (b : BS K X p o c ns H0 ts items n H) (h : ∀ a, Y a → X a) (hp : Y p) : BS K Y p o c ns H0 ts items n H :=
  ⟨b.but, b.well, b.ord, b.tr, fun a z => b.dom a (h a z), hp, fun z => b.xo (h _ z), fun q hq z => b.xt q hq (h _ z), fun v hv => (b.good v hv).sub h⟩
theorem BS.start {u : HO} (s : SameBut p H0 H) (w : WellAt H p c n) (ho : H o = some (.lst (ns.map V.int))) (hp : H0 p = some u) (nop : o ≠ p) : BS K (fun a => H0 a ≠ none ∧ a ≠ o) p o c ns H0 [] [] n H := by
  refine ⟨s, w, ho, (fun q z => nomatch z), fun a h => ?_, ⟨by rw [hp]; exact (fun z => nomatch z), nop.symm⟩, fun z => z.2 rfl, (fun q z => nomatch z), (fun v z => nomatch z)⟩
  by_cases e : a = p
  · obtain ⟨y, z⟩ := w
    rw [e, z]; exact fun z => nomatch z
  · cases e1 : H0 a with
    | none => exact absurd e1 h.1
    | some u => rw [s a u e e1]; exact fun z => nomatch z
/-- a new list of small items is a thing -/
theorem BS.lst {a : Addr} {xs : List V} (b : BS K X p o c ns H0 ts items n H) (h : H a = none) (hx : ∀ v ∈ xs, Oi K X H v) (hc : xs.length ≤ 100) : BS K X p o c ns H0 ts (items ++ [.ref a]) n (upd H a (.lst xs)) :=
  (b.same (same_new h _)).put (ot_lst upd_same (b.new h) (fun v hv => (hx v hv).same (same_new h _)) hc)
end
end NP
namespace NP
open PySem PySem.Spec PyProof.Rows L2
end NP
namespace NP
open PySem PySem.Spec PyProof.Rows L2
end NP
set_option Elab.async false
set_option linter.all false
set_option maxRecDepth 100000
namespace NP
open PySem PySem.Spec PyProof.Rows L2
section
variable {X : Cx} {x : Str} {px p pos gpos : Pos} {elt iter : Expr} {ifs : List Expr} {scope : Scope} {ts : TE} {c T : Addr} {R : L2.St → Hp → V → Bool → V → Prop} {cl : List (Str × Addr)}
end
end NP
set_option Elab.async false
set_option linter.all false
set_option maxRecDepth 100000
namespace NP
open PySem PySem.Spec PyProof.Rows L2
section
variable {prog : Program} {w : World} {A : Around} {E : Value → Shared → Prop} {s : Shared} {K : Type} [DecidableEq K] {knd : KeyKind prog w K}
/-- a set of tuples: its keys in the table's order -/
structure TSet (knd : KeyKind prog w K) (h : Heap) (a : Addr) (ks : List (List K)) (t : SetTable) : Prop where
  ex : ∃ o es ep, h.get? a = some o ∧ o.ExactSet ∧ o.data = .set es ep t ∧ t.fits es.size = true ∧ es.size = ks.length ∧ ∀ (i : Nat) (k : List K), ks[i]? = some k → ∃ b, es[i]? = some (tupleKeyHash knd k, Value.ref b) ∧ IsTupleKey knd h k b
  gw : t.gaveWay = false
  pl : t.plain = true
def hashL (hs : List Int) (i : Nat) : Int := (hs[i]?).getD 0
/-- the search, by the table's own probing: a free place, or the place of the key -/
def seek (t : SetTable) (hs : List Int) (ks : List (List K)) (h : Int) (k : List K) : Nat → SetTable.Probe → Option (Nat ⊕ Nat)
  | 0, _ => none
  | n + 1, p => match t.probe (hashL hs) h p with
    | some (.empty j none) => some (.inl j)
    | some (.candidate _ i nx) => if ks[i]? = some k then some (.inr i) else if i < ks.length then seek t hs ks h k n nx else none
    | _ => none
/-- whether a tuple is in it, as the table tells -/
def tellsT (t : SetTable) (hs : List Int) (ks : List (List K)) (h : Int) (k : List K) : Option (Option Nat) := match seek t hs ks h k 60 (t.probeStart h) with
  | some (.inl _) => some none
  | some (.inr i) => some (some i)
  | none => none
theorem TSet.typeIs {a : Addr} {ks : List (List K)} {t : SetTable} (S : TSet knd s.heap a ks t) : s.TypeIs (.ref a) "set" := let ⟨o, _, _, ho, hc, _⟩ := S.ex; ⟨o, ho, hc.1⟩
end
end NP
set_option Elab.async false
set_option linter.all false
set_option maxRecDepth 100000
namespace NP
open PySem PySem.Spec PyProof.Rows L2
section
variable {prog : Program} {w : World} {A : Around} {E : Value → Shared → Prop} {s : Shared} {K : Type} [DecidableEq K] {knd : KeyKind prog w K}
end
end NP
set_option Elab.async false
set_option linter.all false
set_option maxRecDepth 100000
namespace NP
open PySem PySem.Spec PyProof.Rows L2
def hashI (k : List Int) : Int := reduceHash (Builtin.Tuple.tupleHashOf (k.map hashInt))
abbrev kI (k : List Int) : List Key := k.map Sum.inl
/-- the table behind a new key, with the keys' addresses -/
abbrev Kb := List Int × Addr
section
variable {X : Cx} {pins : List (Addr × Obj)} {σ : L2.St} {H : Hp} {s : Shared}
end
end NP
set_option Elab.async false
set_option linter.all false
set_option maxRecDepth 100000
namespace NP
open PySem PySem.Spec PyProof.Rows L2
end NP
set_option Elab.async false
set_option linter.all false
set_option maxRecDepth 100000
namespace NP
open PySem PySem.Spec PyProof.Rows L2
/-- the world orders sets by itself -/
def byText (w : World) : Bool := w.params.followText "set-order"
/-- a set that stands at an address -/
structure SetSt (w : World) (h : Heap) (a : Addr) (es : Array (Int × Value)) (ep : Nat) (t : SetTable) : Prop where
  ex : ∃ o, h.get? a = some o ∧ o.ExactSet ∧ o.data = .set es ep t
  fits : t.fits es.size = true
  plain : t.plain = true
  led : t.led = !byText w
section
variable {prog : Program} {w : World} {A : Around} {E : Value → Shared → Prop} {s : Shared} {a I : Addr} {es : Array (Int × Value)} {ep : Nat} {t : SetTable}
theorem SetSt.typeIs (S : SetSt w s.heap a es ep t) : s.TypeIs (.ref a) "set" := let ⟨o, ho, hx, _⟩ := S.ex; ⟨o, ho, hx.1⟩
theorem SetSt.state {Q : (Array (Int × Value) × Nat × SetTable) → Shared → Prop} (S : SetSt w s.heap a es ep t) (h : Q (es, ep, t) s) : wpAny (model prog w) A (setState a) Q E s := by
  obtain ⟨o, ho, hx, hd⟩ := S.ex
  exact wpAny_setState_of ho hd S.fits h
theorem SetSt.keeps {h h' : Heap} (S : SetSt w h a es ep t) (k : ∀ o, h.get? a = some o → h'.get? a = some o) : SetSt w h' a es ep t := let ⟨o, ho, r⟩ := S.ex; ⟨⟨o, k o ho, r⟩, S.fits, S.plain, S.led⟩
end
end NP
set_option Elab.async false
set_option linter.all false
set_option maxRecDepth 100000
namespace NP
open PySem PySem.Spec PyProof.Rows L2
section
variable {prog : Program} {w : World} {A : Around} {E : Value → Shared → Prop} {s : Shared} {a I : Addr} {es : Array (Int × Value)} {ep : Nat} {t : SetTable}
end
end NP
set_option Elab.async false
set_option linter.all false
set_option maxRecDepth 100000
namespace NP
open PySem PySem.Spec PyProof.Rows L2
section
variable {prog : Program} {w : World} {A : Around} {E : Value → Shared → Prop} {s : Shared} {a I : Addr} {es : Array (Int × Value)} {ep : Nat} {t : SetTable}
end
end NP
set_option Elab.async false
set_option linter.all false
set_option maxRecDepth 100000
namespace NP
open PySem PySem.Spec PyProof.Rows L2
abbrev iK (k : List Int) : List (Int ⊕ List Nat) := k.map Sum.inl
/-- a tuple of whole numbers stands at an address -/
def TK (h : Heap) (p : Kb) : Prop := ∃ o its n, h.get? p.2 = some o ∧ o.cls = .type "tuple" ∧ o.data = .seq (List.toArray its) n ∧ Vals (p.1.map V.int) its
theorem TK.keep {h h' : Heap} {p : Kb} (t : TK h p) (k : ∀ b o, h.get? b = some o → h'.get? b = some o) : TK h' p := let ⟨o, its, n, ho, r⟩ := t; ⟨o, its, n, k _ _ ho, r⟩
abbrev shI : Nat → Bool := fun _ => false
theorem items_iK : ∀ {k : List Int} {its : List Value} (i : Nat), Vals (k.map V.int) its → tupItems shI i its = some (iK k)
  | [], _, i, h => by cases h; rfl
  | x :: k, _, i, h => by
    cases h with
    | cons r t =>
      obtain ⟨u, rfl⟩ := r
      have ih := items_iK (i + 1) t
      show (if shI i = true then none else (tupItems shI (i + 1) _).map (Sum.inl x :: ·)) = _
      rw [if_neg Bool.false_ne_true, ih]
      rfl
theorem TK.key {h : Heap} {p : Kb} (t : TK h p) : G.tupKeyC h shI (.ref p.2) = some (iK p.1) := by
  obtain ⟨o, its, n, ho, hc, hd, v⟩ := t
  exact G.tupKeyC_of ho hc hd (by simpa using items_iK 0 v)
theorem TK.tup {h : Heap} {p : Kb} (t : TK h p) (ne : p.1 ≠ []) : ∃ f, TupOf h shI (.ref p.2) f := by
  obtain ⟨o, its, n, ho, hc, hd, v⟩ := t
  match e : p.1, v, ne with
  | x :: r, .cons rx _, _ =>
    obtain ⟨u, rfl⟩ := rx
    exact ⟨_, p.2, o, _, n, rfl, ho, hc, hd, rfl, fun _ => ⟨x, u, rfl⟩, fun z => nomatch z⟩
section
variable {prog : Program} {w : World} {A : Around} {E : Value → Shared → Prop} {s : Shared}
end
end NP
set_option Elab.async false
set_option linter.all false
set_option maxRecDepth 100000
namespace NP
open PySem PySem.Spec PyProof.Rows L2
section
variable {prog : Program} {w : World} {A : Around} {E : Value → Shared → Prop} {s : Shared}
end
section
variable {X : Cx}
end
end NP
set_option Elab.async false
set_option linter.all false
set_option maxRecDepth 100000
namespace NP
open PySem PySem.Spec PyProof.Rows L2
section
variable {prog : Program} {w : World} {A : Around} {E : Value → Shared → Prop} {s : Shared}
end
section
variable {X : Cx} {pins : List (Addr × Obj)} {σ : L2.St} {H : Hp} {s : Shared}
theorem jt_truth {a : Expr} {ta : TE} (ha : JE X a ta) (he : ∀ whole, isTrue a X.env whole = (do let v ← whole; standAt a.pos; holding [v] (truthy v)) := by intro _; rfl) : JT X a (fun σ H Q => ta σ H fun x H' => ∃ k, TruV X.K x H' k ∧ Q k H') := ⟨pt_truth ha.p he⟩
theorem je_pop {o : Expr} {to : TE} {apos cpos : Pos} (ho : JE X o to) (hbase : attributeBase o "pop" X.env (eval o X.env) = eval o X.env := by rfl) (hline : (apos.endLine == cpos.line) = true := by rfl) : JE X (.Call (.Attribute o "pop" apos) [] [] cpos) (tBM0 X.K "list" rPop to) :=
  je_bm0 PySem.F.plainAttrs_list PySem.F.slot_list_pop PySem.F.type_list_pop mt_pop ho hbase hline
end
section
variable {X : Cx} {x : Str} {px p pos gpos : Pos} {elt iter : Expr} {ifs : List Expr} {scope : Scope} {ts : TE} {c T : Addr} {R : L2.St → Hp → V → Bool → V → Prop} {cl : List (Str × Addr)}
end
end NP
set_option Elab.async false
set_option linter.all false
set_option maxRecDepth 100000
namespace NP
open PySem PySem.Spec PyProof.Rows L2
def behindOf (l : Int) (st : List Int) (put : Int) : List Int := ((st ++ [l]).filter fun i => decide (i ≠ put)).map fun i => i - 1
def putsOf (l r : Int) (st : List Int) : List Int := if -r ∈ st then [-r] else st ++ [l]
def stepsOf (l r : Int) (st : List Int) : List (Int × List Int) := (putsOf l r st).map fun p => (p, behindOf l st p)
/-- rising lists of k numbers from lo on, n of them to choose from, in order -/
def risers : Nat → Nat → Int → List (List Int)
  | 0, _, _ => [[]]
  | _ + 1, 0, _ => []
  | k + 1, n + 1, lo => (risers k n (lo + 1)).map (lo :: ·) ++ risers (k + 1) n (lo + 1)
def standsL (l r : Int) : List (List Int) := risers l.toNat (l + r).toNat (-r)
/-- the table behind a new key, over keys of any kind -/
def newG {α : Type} (hash : α → Int) (ks : List α) (t : SetTable) (x : α) (j : Nat) : Option (List α × SetTable) :=
  let t1 := (t.put j).1
  let p := (t.put j).2
  let ks1 := ks.take p ++ x :: ks.drop p
  if p ≤ ks.length ∧ t1.fits (ks.length + 1) = true ∧ t1.gaveWay = false ∧ t1.plain = true then
    if t1.tooFull = true then
      match t1.relaid (ks1.map hash).toArray (SetTable.grown (ks.length + 1)) with
      | some (t2, order) => if SetTable.sizeAbove (SetTable.grown (ks.length + 1)) ≤ sizeLine ∧ (order.toList.filterMap (ks1[·]?)).length = ks.length + 1 ∧ t2.fits (ks.length + 1) = true ∧ t2.gaveWay = false ∧ t2.plain = true then some (order.toList.filterMap (ks1[·]?), t2) else none
      | none => none
    else some (ks1, t1)
  else none
def addsK (ks : List (List Int)) (t : SetTable) (k : List Int) : Option (List (List Int) × SetTable) := match seek t (ks.map hashI) ks (hashI k) k 60 (t.probeStart (hashI k)) with
  | some (.inl j) => newG hashI ks t k j
  | _ => none
/-- what waits, the set's keys, its table -/
abbrev Wk := List (List Int) × List (List Int) × SetTable
def stepW (l r : Int) (s : Wk) : Option Wk := match s.1.getLast? with
  | none => none
  | some k => match tellsT s.2.2 (s.2.1.map hashI) s.2.1 (hashI k) k with
    | some (some _) => some (s.1.dropLast, s.2.1, s.2.2)
    | some none => match addsK s.2.1 s.2.2 k with
      | some (ks', t') => if s.2.1.length < 900 ∧ s.1.length < 900 ∧ k.length ≤ 3 then some (s.1.dropLast ++ (stepsOf l r k).map (·.2), ks', t') else none
      | none => none
    | none => none
/-- so many steps lead from the one to the other -/
inductive RunsW (l r : Int) : Nat → Wk → Wk → Prop
  | done {s : Wk} : RunsW l r 0 s s
  | step {n : Nat} {s s' f : Wk} : stepW l r s = some s' → RunsW l r n s' f → RunsW l r (n + 1) s f
end NP
set_option Elab.async false
set_option linter.all false
set_option maxRecDepth 100000
namespace NP
open PySem PySem.Spec PyProof.Rows L2
end NP
set_option Elab.async false
set_option linter.all false
set_option maxRecDepth 100000
namespace NP
open PySem PySem.Spec PyProof.Rows L2
end NP
set_option Elab.async false
set_option linter.all false
set_option maxRecDepth 100000
namespace NP
open PySem PySem.Spec PyProof.Rows L2
theorem ix_listK {X : Cx} {K : PySem.W.Frag} (hK : X.K = K) : IxR X (rIxL K) := by subst hK; exact ix_list
theorem ix_tupK {X : Cx} {K : PySem.W.Frag} (hK : X.K = K) : IxR X (rIxT K) := by subst hK; exact ix_tup
end NP
set_option Elab.async false
set_option linter.all false
set_option maxRecDepth 100000
namespace NP
open PySem PySem.Spec PyProof.Rows L2
section
variable {X : Cx}
end
end NP
set_option Elab.async false
set_option linter.all false
set_option maxRecDepth 100000
namespace NP
open PySem PySem.Spec PyProof.Rows L2
section
variable {X : Cx} {pins : List (Addr × Obj)} {σ : L2.St} {H : Hp} {s : Shared} {A : Around} {E : Value → Shared → Prop}
theorem tys_vals {t1 t2 : String} {its : List Value} (h : Vals [V.ty t1, V.ty t2] its) : its = [.type t1, .type t2] := by
  obtain ⟨u0, u1, rfl, r0, r1⟩ := L2.vals2 h
  cases r0
  cases r1
  rfl
theorem isiT_dp {Q : Value → Shared → Prop} {x : V} {u : Value} {d : PyData} {tp : Addr} (I : L2.Inv X pins σ H s) (h : Dp X.K H x d) (rx : RelV x u) (ht : H tp = some (.tup [.ty "tuple", .ty "list"])) (q : ∀ tk, Q (.bool (isi (tyD d) "tuple" || isi (tyD d) "list")) { s with toks := tk }) :
    wpAny (model X.prog X.w) A (call (.builtin "isinstance") [u, .ref tp]) Q E s := by
  have e : PySem.W.kitAny X.K (.type (tyD d)) [.type "tuple", .type "list"] = some (isi (tyD d) "tuple" || isi (tyD d) "list") := by
    cases d <;> first | rfl | (with_unfolding_all rfl) | decide +kernel
  obtain ⟨_, its, rv, ⟨cls, dd, data, sl⟩, ho, hc, n, hd⟩ := I.hok tp _ ht
  simp only at hc hd
  subst hc hd
  rw [tys_vals rv] at ho
  cases h with
  | non => cases (show u = Value.none from rx); exact PySem.W.kia_tup PySem.W.kitx_none I.kIn True.intro ho e (fun z => nomatch z) q
  | bl y => cases (show u = Value.bool y from rx); exact PySem.W.kia_tup PySem.W.kitx_bool I.kIn True.intro ho e (fun z => nomatch z) q
  | int i => obtain ⟨t, z⟩ := (show ∃ t, u = Value.int i t from rx); cases z; exact PySem.W.kia_tup PySem.W.kitx_int I.kIn True.intro ho e (fun z => nomatch z) q
  | str y => obtain ⟨t, z⟩ := (show ∃ t, u = Value.str y t from rx); cases z; exact PySem.W.kia_tup PySem.W.kitx_str I.kIn True.intro ho e (fun z => nomatch z) q
  | @lst a xs ds hs ha =>
    cases (show u = Value.ref a from rx)
    obtain ⟨its, _, ⟨o, _, ho', hc, _⟩, _⟩ := I.list hs
    exact PySem.W.kia_tup PySem.W.kitx_list I.kIn ⟨o, ho', hc⟩ ho e (fun z => nomatch z) q
  | @tup a xs ds hs ha =>
    cases (show u = Value.ref a from rx)
    obtain ⟨its, _, ⟨o, ho', hc, _⟩, _⟩ := I.tuple hs
    exact PySem.W.kia_tup PySem.W.kitx_tuple I.kIn ⟨o, ho', hc⟩ ho e (fun z => nomatch z) q
theorem cr_isinstT : CallR X (.builtin "isinstance") (fun xs H Q => ∃ x tp d, xs = [x, .ref tp] ∧ H tp = some (.tup [.ty "tuple", .ty "list"]) ∧ Dp X.K H x d ∧ Q (.bl (isi (tyD d) "tuple" || isi (tyD d) "list")) H) := by
  intro pins s σ H xs us Q I r h
  obtain ⟨x, tp, d, rfl, ht, hd, q⟩ := h
  obtain ⟨u0, u1, rfl, r0, r1⟩ := L2.vals2 r
  cases r1
  exact isiT_dp I hd r0 ht fun tk => ⟨.bl _, H, I.tok _, rfl, q⟩
end
end NP
set_option Elab.async false
set_option linter.all false
set_option maxRecDepth 100000
namespace NP
open PySem PySem.Spec PyProof.Rows L2
section
variable {prog : Program} {w : World} {A : Around} {E : Value → Shared → Prop} {s : Shared}
end
section
variable {X : Cx}
end
section
variable {prog : Program} {w : World} {A : Around} {E : Value → Shared → Prop} {s : Shared} {d : Addr} {o : Obj} {es : Array DictEntry} {ep : Nat}
end
end NP
set_option Elab.async false
set_option linter.all false
set_option maxRecDepth 100000
namespace NP
open PySem PySem.Spec PyProof.Rows L2
section
variable {prog : Program} {w : World} {A : Around} {E : Value → Shared → Prop} {s : Shared} {d I : Addr} {o : Obj} {es : Array DictEntry} {ep : Nat}
end
section
variable {X : Cx}
end
end NP
set_option Elab.async false
set_option linter.all false
set_option maxRecDepth 100000
namespace NP
open PySem PySem.Spec PyProof.Rows L2
/-- a reach at a tuple -/
structure RA (K : PySem.W.Frag) (H : Hp) (rp : Addr) (l r : Int) : Prop where
  sq : SqT K H rp [.int l, .int r]
  l0 : 0 ≤ l
  l1 : l ≤ 3
  r0 : 0 ≤ r
  r1 : r ≤ 3
theorem RA.same {K : PySem.W.Frag} {H H' : Hp} {rp : Addr} {l r : Int} (h : RA K H rp l r) (e : Same H H') : RA K H' rp l r := ⟨le_seqT (le_same e) h.sq, h.l0, h.l1, h.r0, h.r1⟩
theorem RA.th {K : PySem.W.Frag} {H : Hp} {rp : Addr} {l r : Int} (h : RA K H rp l r) : Th K H (.ref rp) (.tuple [.int l, .int r]) := .dp (.tup h.sq (.cons (.int l) (.cons (.int r) .nil)))
/-- steps that stand in the heap: a tuple of what is put and the stand behind -/
abbrev Se := Addr × Int × Kb
structure SeAt (H : Hp) (e : Se) : Prop where
  t : H e.1 = some (.tup [.int e.2.1, .ref e.2.2.2])
  b : H e.2.2.2 = some (.tup (e.2.2.1.map V.int))
theorem SeAt.same {H H' : Hp} {e : Se} (h : SeAt H e) (s : Same H H') : SeAt H' e := ⟨s _ _ h.t, s _ _ h.b⟩
end NP
namespace NP
open PySem PySem.Spec PyProof.Rows L2
end NP
namespace NP
open PySem PySem.Spec PyProof.Rows L2
theorem RunsW.next {l r : Int} {m : Nat} {xs ks fks : List (List Int)} {k : List Int} {t ft : SetTable} (h : RunsW l r m (xs ++ [k], ks, t) ([], fks, ft)) : ∃ n s', m = n + 1 ∧ stepW l r (xs ++ [k], ks, t) = some s' ∧ RunsW l r n s' ([], fks, ft) := by
  generalize hs : (xs ++ [k], ks, t) = s0 at h
  cases h with
  | done =>
    injection hs with e _
    exact absurd (congrArg List.length e) (by simp)
  | step e r => exact ⟨_, _, rfl, e, r⟩
end NP
namespace NP
open PySem PySem.Spec PyProof.Rows L2
end NP
namespace NP
open PySem PySem.Spec PyProof.Rows L2
def spWell2 : Sp := fun vs H Q _ => ∃ c : Int, vs = [.int c] ∧ ∀ (z y : Int) (p : Addr) (H' : Hp), Same H H' → H' p = some (.lst [.int z, .int y]) → H p = none → Q (.ref p) H'
def spDraw2 : Sp := fun vs H Q _ => ∃ (p : Addr) (z y m : Int), vs = [.ref p, .int m] ∧ H p = some (.lst [.int z, .int y]) ∧ 0 < m ∧ m < 1073741824 ∧
  ∀ (r z' y' : Int) (H' : Hp), 0 ≤ r → r < m → (∀ b o, b ≠ p → H b = some o → H' b = some o) → H' p = some (.lst [.int z', .int y']) → Q (.int r) H'
end NP
namespace NP
open PySem PySem.Spec PyProof.Rows L2
/-- a list of tuples of numbers, new since H0 -/
structure KL (H0 H : Hp) (a : Addr) (kbs : List Kb) : Prop where
  same : Same H0 H
  new : H0 a = none
  at_ : H a = some (.lst (kbs.map fun q => V.ref q.2))
  ok : ∀ q ∈ kbs, H q.2 = some (.tup (q.1.map V.int))
theorem KL.put {H0 H H1 : Hp} {a b : Addr} {kbs : List Kb} {k : List Int} (h : KL H0 H a kbs) (s : Same H H1) (hb : H1 b = some (.tup (k.map V.int))) : KL H0 (upd H1 a (.lst ((kbs.map fun q => V.ref q.2) ++ [.ref b]))) a (kbs ++ [(k, b)]) := by
  have nt : ∀ {c : Addr} {j : List Int}, H1 c = some (.tup (j.map V.int)) → c ≠ a := fun {c j} hc e => by
    rw [e, s _ _ h.at_] at hc
    cases hc
  refine ⟨fun c o hc => ?_, h.new, ?_, fun q hq => ?_⟩
  · rw [upd_ne (ne_of_none hc h.new)]
    exact s _ _ (h.same _ _ hc)
  · rw [List.map_append]
    exact upd_same
  · rcases List.mem_append.mp hq with z | z
    · have := s _ _ (h.ok q z)
      rw [upd_ne (nt this)]
      exact this
    · rw [List.mem_singleton.mp z, upd_ne (nt hb)]
      exact hb
end NP
namespace NP
open PySem PySem.Spec PyProof.Rows L2
end NP
namespace NP
open PySem PySem.Spec PyProof.Rows L2
end NP
set_option Elab.async false
set_option linter.all false
set_option maxRecDepth 100000
namespace L2
open PySem PySem.Spec PyProof.Rows
section
variable {X : Cx}
end
end L2
set_option Elab.async false
set_option linter.all false
set_option maxRecDepth 100000
namespace ND
open PySem PySem.Spec PyProof.Rows L2 NP
section
variable {X : Cx} {pos apos cpos : Pos}
end
end ND
set_option Elab.async false
set_option linter.all false
set_option maxRecDepth 100000
namespace ND
open PySem PySem.Spec PyProof.Rows L2 NP
abbrev Row := List (List Int × Int)
abbrev TRow := List Int × Addr × List Se
structure TabAt (l r : Int) (H : Hp) (ta : Addr) (rows : List TRow) : Prop where
  at_ : H ta = some (.dT (rows.map fun x => (kI x.1, V.ref x.2.1)))
  lst : ∀ x ∈ rows, H x.2.1 = some (.lst (x.2.2.map fun e => V.ref e.1))
  se : ∀ x ∈ rows, ∀ e ∈ x.2.2, SeAt H e
  st : ∀ x ∈ rows, x.2.2.map (fun e => (e.2.1, e.2.2.1)) = stepsOf l r x.1
  ks : rows.map (·.1) = standsL l r
theorem TabAt.same {l r : Int} {H H' : Hp} {ta : Addr} {rows : List TRow} (h : TabAt l r H ta rows) (s : Same H H') : TabAt l r H' ta rows :=
  ⟨s _ _ h.at_, fun x hx => s _ _ (h.lst x hx), fun x hx e he => (h.se x hx e he).same s, h.st, h.ks⟩
def look (row : Row) (k : List Int) : Int := ((row.find? fun x => decide (x.1 = k)).map (·.2)).getD 0
def aheadRow (l r : Int) (row : Row) : Row := (standsL l r).map fun k => (k, ((stepsOf l r k).map fun p => look row p.2).sum)
def wr (l r : Int) (row : Row) : Nat → Row
  | 0 => row
  | n + 1 => aheadRow l r (wr l r row n)
end ND
set_option Elab.async false
set_option linter.all false
set_option maxRecDepth 100000
namespace L2
open PySem PySem.Spec PyProof.Rows
section
variable {prog : Program} {w : World}
end
section
variable {prog : Program} {w : World} {A : Around} {E : Value → Shared → Prop}
end
section
variable {X : Cx}
end
end L2
set_option Elab.async false
set_option linter.all false
set_option maxRecDepth 100000
namespace NW
open PySem PySem.Spec PyProof.Rows L2 NP
section
variable {prog : Program} {w : World} {A : Around} {E : Value → Shared → Prop}
theorem draw_l {it l : Addr} {its : Array Value} (ne : l ≠ it) : ∀ (n i : Nat) (s : Shared) (Q : List Value → Shared → Prop), s.heap.IsListIter it l i → s.heap.IsList l its → i + n ≤ its.size →
    (∀ g, g.IsListIter it l (i + n) → Heap.SameBut it s.heap g → Q ((its.toList.drop i).take n) { s with heap := g }) → wpAny (model prog w) A (draw (.ref it) n) Q E s
  | 0, i, s, Q, h1, _, _, q => by
    show wpAny _ _ (pure []) Q E s
    exact wpAny_pure (by simpa using q s.heap h1 (Heap.SameBut.refl ..))
  | n + 1, i, s, Q, h1, h2, hn, q => by
    have lt : i < its.size := by omega
    show wpAny _ _ (pyNext (.ref it) >>= _) Q E s
    refine wpAny_bind (wpAny_pyNext_list_item h1 h2 (x := its[i]) (by simp [lt]) fun g1 i1 s1 => ?_)
    refine wpAny_bind (wpAny_holding (draw_l ne n (i + 1) _ _ i1 (h2.extBut s1.extBut ne) (by omega) fun g2 i2 s2 => wpAny_pure ?_))
    have e : its.toList.drop i = its[i] :: its.toList.drop (i + 1) := by simp [List.drop_eq_getElem_cons, lt]
    have := q g2 (by rw [show i + (n + 1) = i + 1 + n by omega]; exact i2) (s1.trans s2)
    rw [e, List.take_succ_cons] at this
    exact this
theorem items_l {s : Shared} {l : Addr} {its : Array Value} {Q : List Value → Shared → Prop} (hh : A.handled = none) (hl : s.heap.IsList l its)
    (q : ∀ g, Heap.ExtBut s.heap.objs.size s.heap g → Q its.toList { s with heap := g }) : wpAny (model prog w) A (unpackItems (.ref l) its.size none) Q E s := by
  have ne : l ≠ s.heap.objs.size := by obtain ⟨o, ho, _⟩ := hl; exact Nat.ne_of_lt (Heap.lt_size ho)
  unfold unpackItems
  refine wpAny_bind ?_
  · unfold notIterableAtAll
    refine wpAny_bind (wpAny_specialOf hl.typeIs PySem.F.slot_list_iter.lookup ?_)
    refine wpAny_pure ?_
    simp only [Bool.false_eq_true, if_false]
    refine wpAny_bind (wpAny_holding (wpAny_pyIter_list hl ?_))
    refine wpAny_bind (wpAny_holding (draw_l ne its.size 0 _ _ ⟨_, Heap.get?_push_size _ rfl, rfl, rfl⟩ (hl.push _) (by omega) fun g1 i1 s1 => ?_))
    have all : List.take its.size (List.drop 0 its.toList) = its.toList := by
      rw [List.drop_zero]; exact List.take_of_length_le (by simp)
    rw [all]
    rw [if_neg (by simp)]
    have l1 : g1.IsList l its := (hl.push _).extBut s1.extBut ne
    refine wpAny_bind (wpAny_holding (wpAny_pyNext_list_end hh i1 l1 (by simp) fun g2 x2 => ?_))
    simp only [Option.isSome_none, Bool.false_eq_true, if_false]
    refine wpAny_pure (q g2 fun b o hb z => x2 b o hb (s1.extBut b o hb (Heap.get?_push_of_some _ z)))
theorem give_l {s : Shared} {env : Env} {es : List Expr} {x1} {pos : Pos} {l : Addr} {its : Array Value} {Q : Unit → Shared → Prop} (hh : A.handled = none) (hl : s.heap.IsList l its)
    (hn : (assignEach es env).length = its.size) (hst : (assignEach es env).findIdx? (·.1) = none)
    (q : ∀ g, Heap.ExtBut s.heap.objs.size s.heap g → wpAny (model prog w) A (assignInOrder ((assignEach es env).map (·.2)) its.toList) Q E { s with heap := g }) :
    wpAny (model prog w) A (assign (.Tuple es x1 pos) env (.ref l)) Q E s := by
  rw [assign_Tuple]
  refine wpAny_bind (wpAny_standAt ?_)
  unfold unpack
  rw [hn, hst]
  exact wpAny_bind (wpAny_holding (items_l hh hl q))
end
def gTupL (K : PySem.W.Frag) (n : Nat) (t : TGs) : TG := fun v σ H Q => ∃ a xs, v = .ref a ∧ SqL K H a xs ∧ xs.length = n ∧ t xs σ H Q
section
variable {X : Cx} {pos : Pos}
theorem jg_tupL {es : List Expr} {k : Nat} {t : TGs} {n : Nat} (hc : X.calm = true) (h : JGs X es t) (hn : (assignEach es X.env).length = n := by rfl) (hst : (assignEach es X.env).findIdx? (·.1) = none := by rfl) : JG X (.Tuple es k pos) (gTupL X.K n t) := ⟨by
  intro pins s σ H v u Q I r hw
  obtain ⟨a, xs, e1, hq, hl, hw⟩ := hw
  subst e1
  cases r
  obtain ⟨its, rv, ⟨o, m, ho, hcl, hdn, hd⟩, hz⟩ := I.list hq
  refine give_l (I.ok.hd hc) ⟨o, ho, hcl, m, hd⟩ (by simp [hn, ← hl, rv.length]) hst fun g hx => ?_
  have I1 : Inv X pins σ H { s with heap := g } := I.kept (t' := s.toks) fun b o e => hx b o (Nat.ne_of_lt (Heap.lt_size e)) e
  exact h.p pins _ σ H xs _ Q I1 (by simpa using rv) hw⟩
end
section
variable {X : Cx} {o e : Expr} {to : TE} {t : TA} {apos cpos : Pos}
end
end NW
set_option Elab.async false
set_option linter.all false
set_option maxRecDepth 100000
namespace NN
open PySem PySem.Spec PyProof.Rows L2 NP
def GExt (a b : Array GenState) : Prop := a.size ≤ b.size ∧ ∀ i, i < a.size → b[i]? = a[i]?
theorem GExt.refl (a : Array GenState) : GExt a a := ⟨Nat.le_refl _, fun _ _ => rfl⟩
theorem GExt.trans {a b c : Array GenState} (x : GExt a b) (y : GExt b c) : GExt a c := ⟨Nat.le_trans x.1 y.1, fun i hi => (y.2 i (Nat.lt_of_lt_of_le hi x.1)).trans (x.2 i hi)⟩
theorem GExt.push (a : Array GenState) (x : GenState) : GExt a (a.push x) := ⟨by rw [Array.size_push]; exact Nat.le_succ _, fun i hi => by rw [Array.getElem?_push_lt hi, Array.getElem?_eq_getElem hi]⟩
theorem bare_set {s : Shared} {g : Nat} {x : GenState} (h : AllBare s.gens) (hx : x.bare = true) : AllBare (s.setGen g x).gens := by
  intro y hy
  obtain ⟨i, hi, rfl⟩ := Array.mem_iff_getElem.mp hy
  by_cases e : i = g
  · subst e
    have : (s.setGen i x).gens[i] = x := by simp [Shared.setGen]
    rw [this]
    exact hx
  · have q := (GenOnly.setGen s g x).2 i e
    rw [Array.getElem?_eq_getElem hi] at q
    obtain ⟨hi', e'⟩ := Array.getElem?_eq_some_iff.mp q.symm
    exact e' ▸ h _ (Array.getElem_mem hi')
/-- what a generator's element may do: take from the heap's end, change the tables ts, make generators -/
def KeepsN (ts : List Addr) (JH : Heap → Prop) (s s' : Shared) : Prop := ∃ h' tk gs, s' = { s with heap := h', toks := tk, gens := gs } ∧ (∀ b o, b ∉ ts → s.heap.get? b = some o → h'.get? b = some o) ∧ GExt s.gens gs ∧ JH h' ∧ AllBare gs
structure ElN (prog : Program) (w : World) (ce : Env) (x : Str) (elt : Expr) (ts : List Addr) (JH : Heap → Prop) (n : Nat) (P : Nat → Value → Prop) (F : Nat → Value → Prop) (D U : Nat) : Prop where
  go : ∀ (B : Around) (E' : Value → Shared → Prop) (i : Nat) (v : Value) (u : Shared) (m : Str → Option Value), B.handled = none → B.depth ≤ D → B.units ≤ U → P i v → u.heap.Ns ce.locals m → m x = some v → JH u.heap → AllBare u.gens →
    wpAny (model prog w) B (eval elt ce) (fun y u' => F i y ∧ KeepsN ts JH u u') E' u
def SinceN (C : Addr) (wr ts : List Addr) (JH : Heap → Prop) (s₀ s : Shared) : Prop := ∃ h' tk gs, s = { s₀ with heap := h', toks := tk, gens := gs } ∧ (∀ b o, b ≠ C → b ∉ wr → b ∉ ts → s₀.heap.get? b = some o → h'.get? b = some o) ∧ GExt s₀.gens gs ∧ JH h' ∧ AllBare gs
theorem SinceN.base {C : Addr} {wr ts : List Addr} {JH : Heap → Prop} {s : Shared} (h : JH s.heap) (b : AllBare s.gens) : SinceN C wr ts JH s s := ⟨s.heap, s.toks, s.gens, rfl, fun _ _ _ _ _ e => e, .refl _, h, b⟩
theorem SinceN.heap {C : Addr} {wr ts : List Addr} {JH : Heap → Prop} {s₀ s : Shared} (x : SinceN C wr ts JH s₀ s) {h' : Heap} {tk : Nat} (k : ∀ b o, b ≠ C → b ∉ wr → b ∉ ts → s.heap.get? b = some o → h'.get? b = some o) (j : JH h') : SinceN C wr ts JH s₀ { s with heap := h', toks := tk } := by
  obtain ⟨h1, tk1, gs, rfl, k1, g1, _, b1⟩ := x
  exact ⟨h', tk, gs, rfl, fun b o h1 h2 h3 e => k b o h1 h2 h3 (k1 b o h1 h2 h3 e), g1, j, b1⟩
theorem SinceN.el {C : Addr} {wr ts : List Addr} {JH : Heap → Prop} {s₀ s s' : Shared} (x : SinceN C wr ts JH s₀ s) (y : KeepsN ts JH s s') : SinceN C wr ts JH s₀ s' := by
  obtain ⟨h1, tk1, gs, rfl, k1, g1, _, _⟩ := x
  obtain ⟨h2, tk2, gs2, rfl, k2, g2, j2, b2⟩ := y
  exact ⟨h2, tk2, gs2, rfl, fun b o n1 n2 n3 e => k2 b o n3 (k1 b o n1 n2 n3 e), g1.trans g2, j2, b2⟩
def protoN (C : Addr) (fp wr ts : List Addr) (JH : Heap → Prop) (n : Nat) (F : Nat → Value → Prop) : Protocol := fun m s₀ v s kap =>
  (∃ i, i + m + 1 = n ∧ F i v) ∧ SinceN C wr ts JH s₀ s ∧ ∀ t : Shared, (∀ b ∈ C :: fp, ∀ o, s.heap.get? b = some o → t.heap.get? b = some o) → AllBare t.gens → kap (.send .none) t
abbrev endN (C : Addr) (wr ts : List Addr) (JH : Heap → Prop) : GenEnd := fun n s₀ r s => r = .ok .next ∧ (n = 0 ∧ SinceN C wr ts JH s₀ s)
/-- what is known of the heap is known by the addresses of fp that the walk does not write -/
structure Frm (C : Addr) (fp wr ts : List Addr) (JH : Heap → Prop) : Prop where
  fr : ∀ h h', JH h → (∀ b ∈ fp, b ∉ wr → ∀ o, h.get? b = some o → h'.get? b = some o) → JH h'
  cf : C ∉ fp
  ct : C ∉ ts
section
variable {prog : Program} {w : World} {A : Around} {elt iter : Expr} {x : Str} {px : Pos} {scope : Scope} {pos : Pos} {I : Addr} {fp fq wr ts : List Addr} {n : Nat} {P F : Nat → Value → Prop} {St : Nat → Heap → Prop} {ce : Env} {JH : Heap → Prop}
theorem loopN (hh : A.handled = none) (Wk : ∀ B : Around, B.handled = none → Walks prog w B I fq wr n P St) (qf : ∀ b ∈ fq, b ∈ fp) (qt : ∀ b ∈ fq, b ∉ ts)
    (fm : Frm ce.locals fp wr ts JH) (kx : ce.kindOf x = some .local) (kp : (ce.scope.kind == .class || (ce.scope.kind == .module && ce.locals != ce.globals)) = false) (ko : ce.scope.isCoroutine = false)
    (el : ElN prog w ce x elt ts JH n P F (A.depth + 1) (A.units + 3)) : ∀ (k i : Nat) (s₀ s : Shared) (m : Str → Option Value), n - i = k → i ≤ n → St i s.heap → s.heap.Ns ce.locals m → SinceN ce.locals wr ts JH s₀ s →
      Seg (model prog w) A (endN ce.locals wr ts JH) (protoN ce.locals fp wr ts JH n F) (n - i) s₀ (.compLoop (.GeneratorExp elt [⟨.Name x px, iter, [], 0⟩] scope pos) 0 (.ref I) .none ce)
        ((model prog w).den (.compLoop (.GeneratorExp elt [⟨.Name x px, iter, [], 0⟩] scope pos) 0 (.ref I) .none ce)) [] s := by
  have h1 : (A.over (.compLoop (.GeneratorExp elt [⟨.Name x px, iter, [], 0⟩] scope pos) 0 (.ref I) .none ce) []).handled = none := hh
  have h2 : (A.over (.compLoop (.GeneratorExp elt [⟨.Name x px, iter, [], 0⟩] scope pos) 0 (.ref I) .none ce) []).depth ≤ A.depth + 1 := Nat.le_of_eq rfl
  have h3 : (A.over (.compLoop (.GeneratorExp elt [⟨.Name x px, iter, [], 0⟩] scope pos) 0 (.ref I) .none ce) []).units ≤ A.units + 3 := Nat.le_of_eq rfl
  have cq : ce.locals ∉ fq := fun z => fm.cf (qf _ z)
  have cw : ce.locals ∉ wr := fun z => cq ((Wk A hh).sub _ z)
  intro k
  induction k with
  | zero =>
    intro i s₀ s m hk hi st hn si
    have e : i = n := by omega
    subst e
    show Seg _ A _ _ _ s₀ _ ((compTurn (.GeneratorExp elt [⟨.Name x px, iter, [], 0⟩] scope pos) 0 (.ref I) .none ce).onRaise (leaving ce)) [] s
    rw [compTurn_gen, Sem.onRaise_eq_wrap]
    refine seg_bind_wrap (wpAny_standAt ?_)
    refine seg_bind_wrap ((Wk _ h1).done s _ _ st fun h' tk hk' => ?_)
    refine seg_end (.ok .next) ⟨rfl, Nat.sub_self _, si.heap (fun b o _ hw _ e => hk' b o hw e) ?_⟩
    obtain ⟨hp, tk1, gs, rfl, _, _, j, _⟩ := si
    exact fm.fr _ _ j fun b _ hw o e => hk' b o hw e
  | succ k ih =>
    intro i s₀ s m hk hi st hn si
    have lt : i < n := by omega
    have js : JH s.heap ∧ AllBare s.gens := by obtain ⟨hp, tk1, gs, rfl, _, _, j, b⟩ := si; exact ⟨j, b⟩
    show Seg _ A _ _ _ s₀ _ ((compTurn (.GeneratorExp elt [⟨.Name x px, iter, [], 0⟩] scope pos) 0 (.ref I) .none ce).onRaise (leaving ce)) [] s
    rw [compTurn_gen, Sem.onRaise_eq_wrap]
    refine seg_bind_wrap (wpAny_standAt ?_)
    refine seg_bind_wrap ((Wk _ h1).item i s _ _ lt st fun v hp1 tk1 pv st1 k1 => ?_)
    refine seg_bind_wrap (wpAny_of_eq (rfl : letOwnedTupleGo (.Name x px) (.ref I) v = pure ()) ?_)
    refine seg_bind_wrap (wpAny_assign_Name (wpAny_storeName_local kx (hn.at' fun o e => k1 _ o cw e) (fun hp2 hn2 s2 => ?_) kp))
    have up : ∀ b o, b ≠ ce.locals → b ∉ wr → s.heap.get? b = some o → hp2.get? b = some o := fun b o nc nw e => s2.extBut b o nc (k1 b o nw e)
    have st2 : St (i + 1) hp2 := (Wk A hh).frame _ _ _ st1 fun b hb o e => s2.extBut b o (fun z => cq (z ▸ hb)) e
    have j2 : JH hp2 := fm.fr _ _ js.1 fun b hb hw o e => up b o (fun z => fm.cf (z ▸ hb)) hw e
    simp only [List.forIn_nil]
    refine seg_bind_wrap (wpAny_pure ?_)
    simp only [if_true]
    obtain ⟨r, hr⟩ : ∃ r, n - i = r + 1 := ⟨n - i - 1, by omega⟩
    rw [hr]
    have hy : ∀ v, yieldOut ce v = yieldValue v := fun v => by simp only [yieldOut, ko, Bool.false_eq_true, if_false]
    simp only [hy]
    rw [Sem.bind_eq_wrap', Sem.bind_eq_wrap', Sem.wrap_wrap, Sem.wrap_wrap]
    have si2 := si.heap (h' := hp2) (tk := tk1) (fun b o nc nw _ e => up b o nc nw e) j2
    refine seg_wrap (wpAny_mono (el.go _ _ i v _ _ h1 h2 h3 pv hn2 (by simp) j2 js.2) (fun y s4 q4 => ?_) fun _ _ e => e)
    obtain ⟨fy, kn⟩ := q4
    have si4 := si2.el kn
    obtain ⟨hp4, tk4, gs4, rfl, k4, g4, j4, b4⟩ := kn
    refine seg_at (seg_yield rfl rfl rfl ⟨⟨i, by omega, fy⟩, si4, fun t al bt => ?_⟩)
    have jt : JH t.heap := fm.fr _ _ j4 fun b hb _ o e => al b (List.mem_cons_of_mem _ hb) o e
    have e5 : n - (i + 1) = r := by omega
    have go := ih (i + 1) t t _ (by omega) lt ((Wk A hh).frame _ _ _ st2 fun b hb o e => al b (List.mem_cons_of_mem _ (qf b hb)) o (k4 b o (qt b hb) e)) ((hn2.at' fun o e => k4 _ o fm.ct e).at' fun o e => al _ (List.mem_cons_self ..) o e) (SinceN.base jt bt)
    rw [e5] at go
    exact seg_again rfl go
theorem startN (hh : A.handled = none) (Wk : ∀ B : Around, B.handled = none → Walks prog w B I fq wr n P St) (qf : ∀ b ∈ fq, b ∈ fp) (qt : ∀ b ∈ fq, b ∉ ts)
    (fm : Frm ce.locals fp wr ts JH) (kx : ce.kindOf x = some .local) (kp : (ce.scope.kind == .class || (ce.scope.kind == .module && ce.locals != ce.globals)) = false) (ko : ce.scope.isCoroutine = false)
    (el : ElN prog w ce x elt ts JH n P F (A.depth + 1) (A.units + 3)) (s : Shared) (m : Str → Option Value) (st : St 0 s.heap) (hn : s.heap.Ns ce.locals m) (j : JH s.heap) (b : AllBare s.gens) :
      Seg (model prog w) A (endN ce.locals wr ts JH) (protoN ce.locals fp wr ts JH n F) n s (.compStart (.GeneratorExp elt [⟨.Name x px, iter, [], 0⟩] scope pos) 0 (.ref I) .none ce)
        ((model prog w).den (.compStart (.GeneratorExp elt [⟨.Name x px, iter, [], 0⟩] scope pos) 0 (.ref I) .none ce)) [] s := by
  have h1 : (A.over (.compStart (.GeneratorExp elt [⟨.Name x px, iter, [], 0⟩] scope pos) 0 (.ref I) .none ce) []).handled = none := hh
  have lp := loopN (iter := iter) (px := px) (scope := scope) (pos := pos) hh Wk qf qt fm kx kp ko el n 0 s s m (Nat.sub_zero _) (Nat.zero_le _) st hn (SinceN.base j b)
  rw [Nat.sub_zero] at lp
  show Seg _ A _ _ _ s _ ((compStart (.GeneratorExp elt [⟨.Name x px, iter, [], 0⟩] scope pos) 0 (.ref I) .none ce).onRaise (leaving ce)) [] s
  unfold compStart
  rw [Sem.onRaise_eq_wrap]
  show Seg _ A _ _ _ s _ ((ask >>= _).wrap _ _ _ _) [] s
  refine seg_bind_wrap (wpAny_askSetting ?_)
  split
  · exact seg_again rfl lp
  · first
      | exact seg_bind_wrap (wpAny_rule (seg_bind_wrap (wpAny_standAt (seg_bind_wrap ((Wk _ h1).self 0 s _ _ st (seg_again rfl lp))))))
      | (refine seg_bind_wrap (wpAny_rule ?_); show Seg _ A _ _ _ s _ ((standAt iter.pos >>= _).wrap _ _ _ _) [] s; exact seg_bind_wrap (wpAny_standAt (seg_bind_wrap ((Wk _ h1).self 0 s _ _ st (seg_again rfl lp)))))
end
def AtN (prog : Program) (w : World) (A : Around) (a : Addr) (g : Nat) (C : Addr) (fp wr ts : List Addr) (JH : Heap → Prop) (n : Nat) (F : Nat → Value → Prop) (j : Nat) (s : Shared) : Prop :=
  s.heap.IsGen a g ∧ s.heap.NoLimit ∧ JH s.heap ∧ AllBare s.gens ∧ ∃ gs, s.gens[g]? = some gs ∧ ∀ t : Shared, (∀ b ∈ C :: fp, ∀ o, s.heap.get? b = some o → t.heap.get? b = some o) → AllBare t.gens →
    gs.Goes (model prog w) A.in1 (endN C wr ts JH) (protoN C fp wr ts JH n F) (n - j) (.send .none) t
/-- what has changed: nothing but the generator's own places and the tables -/
structure MovN (g : Nat) (C : Addr) (wr ts : List Addr) (JH : Heap → Prop) (s s' : Shared) : Prop where
  heap : ∀ b o, b ≠ C → b ∉ wr → b ∉ ts → s.heap.get? b = some o → s'.heap.get? b = some o
  drawn : s'.drawn = s.drawn
  os : s'.os = s.os
  gens : s.gens.size ≤ s'.gens.size ∧ ∀ i, i < s.gens.size → i ≠ g → s'.gens[i]? = s.gens[i]?
  jh : JH s'.heap
  bare : AllBare s'.gens
theorem MovN.then {g : Nat} {C : Addr} {wr ts : List Addr} {JH : Heap → Prop} {s s' s'' : Shared} (x : MovN g C wr ts JH s s') (y : MovN g C wr ts JH s' s'') : MovN g C wr ts JH s s'' :=
  ⟨fun b o h1 h2 h3 e => y.heap b o h1 h2 h3 (x.heap b o h1 h2 h3 e), y.drawn.trans x.drawn, y.os.trans x.os, ⟨Nat.le_trans x.gens.1 y.gens.1, fun i hi hg => (y.gens.2 i (Nat.lt_of_lt_of_le hi x.gens.1) hg).trans (x.gens.2 i hi hg)⟩, y.jh, y.bare⟩
section
variable {prog : Program} {w : World} {A : Around} {a : Addr} {g : Nat} {C : Addr} {fp wr ts : List Addr} {JH : Heap → Prop} {n : Nat} {F : Nat → Value → Prop}
/-- where the generator's object and the limit lie -/
structure Apart (a C : Addr) (fp wr ts : List Addr) : Prop where
  ac : a ≠ C
  af : a ∉ fp
  aw : a ∉ wr
  at_ : a ∉ ts
  sf : cStatics ∈ fp
  sc : cStatics ≠ C
  sw : cStatics ∉ wr
  st : cStatics ∉ ts
theorem gens_run {s s1 : Shared} {gs x : GenState} (hg : s.gens[g]? = some gs) (x1 : SinceN C wr ts JH (s.setGen g .running) s1) : (s1.setGen g x).gens[g]? = some x ∧ s.gens.size ≤ (s1.setGen g x).gens.size ∧ (∀ i, i < s.gens.size → i ≠ g → (s1.setGen g x).gens[i]? = s.gens[i]?) := by
  obtain ⟨h1, tk1, gs1, rfl, _, ⟨e1, e2⟩, _, _⟩ := x1
  have sz : (s.setGen g .running).gens.size = s.gens.size := (GenOnly.setGen s g .running).1
  have sz1 : ∀ (u : Shared), (u.setGen g x).gens.size = u.gens.size := fun u => (GenOnly.setGen u g x).1
  have lt : g < s.gens.size := by
    rcases Nat.lt_or_ge g s.gens.size with z | z
    · exact z
    · rw [Array.getElem?_eq_none z] at hg; cases hg
  refine ⟨?_, ?_, fun i hi hn => ?_⟩
  · refine setGen_self (gs := .running) ?_
    show gs1[g]? = some .running
    rw [e2 g (by rw [sz]; exact lt)]
    exact setGen_self hg
  · rw [sz1]
    show s.gens.size ≤ gs1.size
    rw [← sz]
    exact e1
  · rw [(GenOnly.setGen _ g x).2 i hn]
    show gs1[i]? = s.gens[i]?
    rw [e2 i (by rw [sz]; exact hi)]
    exact (GenOnly.setGen s g .running).2 i hn
theorem itemN (hh : A.handled = none) (hroom : A.depth < recursionLimit) (ap : Apart a C fp wr ts) {j : Nat} (hj : j < n) {s : Shared} {Q : Option Value → Shared → Prop} {E : Value → Shared → Prop} (st : AtN prog w A a g C fp wr ts JH n F j s)
    (hQ : ∀ v s', F j v → AtN prog w A a g C fp wr ts JH n F (j + 1) s' → MovN g C wr ts JH s s' → Q (some v) s') : wpAny (model prog w) A (pyNext (.ref a)) Q E s := by
  obtain ⟨hg, hl, jh, bh, gs, hgs, hgo⟩ := st
  obtain ⟨m, hm⟩ : ∃ m, n - j = m + 1 := ⟨n - j - 1, by omega⟩
  rw [hm] at hgo
  refine wpAny_pyNext_genexpQ (P := fun k s₀ s₁ => k = 0 ∧ SinceN C wr ts JH s₀ s₁) hh hl hroom hg hgs (hgo _ (fun _ _ _ e => e) (bare_set bh rfl)) (fun v s₁ gs' hb hv => ?_) (fun s₁ hp h' hk => absurd hp.1 (Nat.succ_ne_zero m))
  obtain ⟨⟨i, hi, hF⟩, si, hkap⟩ := hv
  have ei : i = j := by omega
  subst ei
  obtain ⟨r1, r2, r3⟩ := gens_run (x := gs') hgs si
  obtain ⟨h₁, tk₁, gs1, rfl, k1, g1, j1, b1⟩ := si
  have key : ∀ b o, b ≠ C → b ∉ wr → b ∉ ts → s.heap.get? b = some o → h₁.get? b = some o := k1
  refine hQ v _ hF ⟨let ⟨o, nm, qn, ho, r⟩ := hg; ⟨o, nm, qn, key a o ap.ac ap.aw ap.at_ ho, r⟩, (let ⟨mc, hns, hnn⟩ := hl; ⟨mc, hns.at' fun o e => key cStatics o ap.sc ap.sw ap.st e, hnn⟩), j1, bare_set b1 hb, gs', r1, fun t al bt => ?_⟩ ⟨key, rfl, rfl, ⟨r2, r3⟩, j1, bare_set b1 hb⟩
  have e : n - (i + 1) = m := by omega
  rw [e]
  exact hkap t al bt
theorem doneN (hh : A.handled = none) (hroom : A.depth < recursionLimit) (fm : Frm C fp wr ts JH) {s : Shared} {Q : Option Value → Shared → Prop} {E : Value → Shared → Prop} (st : AtN prog w A a g C fp wr ts JH n F n s)
    (hQ : ∀ s', MovN g C wr ts JH s s' → Q none s') : wpAny (model prog w) A (pyNext (.ref a)) Q E s := by
  obtain ⟨hg, hl, jh, bh, gs, hgs, hgo⟩ := st
  rw [Nat.sub_self] at hgo
  refine wpAny_pyNext_genexpQ (P := fun k s₀ s₁ => k = 0 ∧ SinceN C wr ts JH s₀ s₁) hh hl hroom hg hgs (hgo _ (fun _ _ _ e => e) (bare_set bh rfl)) (fun v s₁ gs' hb hv => ?_) (fun s₁ hp h' hk => ?_)
  · obtain ⟨_, ⟨_, _, _, e0, _, _, _, b1⟩, hkap⟩ := hv
    exact False.elim (hkap s₁ (fun _ _ _ e => e) (by rw [e0]; exact b1))
  · obtain ⟨_, si⟩ := hp
    obtain ⟨r1, r2, r3⟩ := gens_run (x := .finished) hgs si
    obtain ⟨h₁, tk₁, gs1, rfl, k1, g1, j1, b1⟩ := si
    exact hQ _ ⟨fun b o n1 n2 n3 e => hk b o (k1 b o n1 n2 n3 e), rfl, rfl, ⟨r2, r3⟩, fm.fr _ _ j1 fun b _ _ o e => hk b o e, bare_set b1 rfl⟩
/-- all(..) over such a generator -/
theorem loopAll (hh : A.handled = none) (hroom : A.in1.depth < recursionLimit) (ap : Apart a C fp wr ts) (fm : Frm C fp wr ts JH) {R : Result → Shared → Prop} (tr : Nat → Bool) (htr : TruthOf prog w A.in1 F tr) : ∀ (k i : Nat) (s : Shared), n - i = k → i ≤ n → AtN prog w A.in1 a g C fp wr ts JH n F i s →
    (∀ s', MovN g C wr ts JH s s' → R (.ok (.ret (.bool (((List.range n).drop i).all tr)))) s') → codeAny (model prog w) A (.builtin "all.loop" ⟨[.ref a], []⟩) R s := by
  intro k
  induction k with
  | zero =>
    intro i s hk hi st hR
    have e : i = n := by omega
    subst e
    refine codeAny_builtin PySem.F.entry_all_loop ?_
    rw [Around.under_plainId PySem.F.plain_all_loop _]
    show wpAny _ A.in1 (pyNext (.ref a) >>= _) _ _ s
    refine wpAny_bind (doneN (A := A.in1) hh hroom fm st fun s' hm => wpAny_bind (wpAny_rule (wpAny_pure ?_)))
    have := hR s' hm
    rw [List.drop_of_length_le (by simp)] at this
    exact this
  | succ k ih =>
    intro i s hk hi st hR
    have lt : i < n := by omega
    have hd : (List.range n).drop i = i :: (List.range n).drop (i + 1) := by
      rw [List.drop_eq_getElem_cons (by simpa using lt)]; simp
    refine codeAny_builtin PySem.F.entry_all_loop ?_
    rw [Around.under_plainId PySem.F.plain_all_loop _]
    show wpAny _ A.in1 (pyNext (.ref a) >>= _) _ _ s
    refine wpAny_bind (itemN (A := A.in1) hh hroom ap lt st fun v s' fv st' hm => wpAny_bind (wpAny_holding (htr i v _ _ _ fv (wpAny_bind (wpAny_letGo ?_)))))
    cases hb : tr i with
    | true =>
      simp only [if_true]
      refine wpAny_pure ⟨plainId_quiet PySem.F.plain_all_loop _, ih (i + 1) _ (by omega) lt st' fun s'' hm' => ?_⟩
      have := hR s'' (hm.then hm')
      rw [hd, List.all_cons, hb, Bool.true_and] at this
      exact this
    | false =>
      simp only [Bool.false_eq_true, if_false]
      refine wpAny_bind (wpAny_rule (wpAny_pure ?_))
      have := hR s' hm
      rw [hd, List.all_cons, hb, Bool.false_and] at this
      exact this
theorem call_allN {E : Value → Shared → Prop} {Q : Value → Shared → Prop} {s : Shared} (hh : A.handled = none) (hroom : A.in1.depth < recursionLimit) (ap : Apart a C fp wr ts) (fm : Frm C fp wr ts JH) (tr : Nat → Bool) (htr : TruthOf prog w A.in1 F tr) (st : AtN prog w A.in1 a g C fp wr ts JH n F 0 s)
    (hQ : ∀ s', MovN g C wr ts JH s s' → Q (.bool ((List.range n).all tr)) s') : wpAny (model prog w) A (call (.builtin "all") [.ref a]) Q E s := by
  refine call_function_tree PySem.F.kind_all PySem.F.plain_all PySem.F.entry_all (PySem.F.args_all1 _) ?_
  unfold Builtin.«all»
  refine wpAny_bind (m := oneArg "all" _) (wpAny_pure ?_)
  refine wpAny_bind (wpAny_pyIter_gen st.1 ?_)
  exact wpAny_pure ⟨plainId_quiet PySem.F.plain_all_loop _, loopAll (A := A) hh hroom ap fm tr htr n 0 s rfl (Nat.zero_le _) st fun s' hm => by simpa using hQ s' hm⟩
end
end NN
set_option Elab.async false
set_option linter.all false
set_option maxRecDepth 100000
namespace NN
open PySem PySem.Spec PyProof.Rows L2 NP
section
variable {prog : Program} {w : World} {A : Around} {E : Value → Shared → Prop} {s : Shared}
/-- what is to be known when a generator is made -/
def MadeN (prog : Program) (w : World) (A : Around) (scope : Scope) (cl : List (Str × Addr)) (env : Env) (x : Str) (elt : Expr) (Q : Value → Shared → Prop) (it code : Value) (bi : Addr) (s₄ : Shared) : Prop :=
  ∃ (I : Addr) (fq wr ts : List Addr) (n : Nat) (P F : Nat → Value → Prop) (St : Nat → Heap → Prop) (JH : Heap → Prop), it = .ref I ∧ (∀ B : Around, B.handled = none → Walks prog w B I fq wr n P St) ∧ St 0 s₄.heap ∧ (∀ b ∈ fq, b < s₄.heap.objs.size) ∧ s₄.heap.NoLimit ∧ cStatics ∉ wr ∧
    (∀ b ∈ ts, b < s₄.heap.objs.size ∧ b ∉ fq) ∧ cStatics ∉ ts ∧ (∀ h h', JH h → (∀ b, b < s₄.heap.objs.size → b ∉ wr → ∀ o, h.get? b = some o → h'.get? b = some o) → JH h') ∧ JH s₄.heap ∧ AllBare s₄.gens ∧
    ElN prog w (genEnv scope cl s₄.heap.objs.size code bi env) x elt ts JH n P F (A.depth + 1) (A.units + 8) ∧
    (∀ a h₅ tk gs, gs.bare = true → s₄.heap.objs.size < a → h₅.objs.size = a + 1 → (∀ b o, s₄.heap.get? b = some o → h₅.get? b = some o) →
      Apart a s₄.heap.objs.size (List.range s₄.heap.objs.size) wr ts → Frm s₄.heap.objs.size (List.range s₄.heap.objs.size) wr ts JH →
      AtN prog w A.in1 a s₄.gens.size s₄.heap.objs.size (List.range s₄.heap.objs.size) wr ts JH n F 0 { s₄ with gens := s₄.gens.push gs, toks := tk, heap := h₅ } →
      Q (.ref a) { s₄ with gens := s₄.gens.push gs, toks := tk, heap := h₅ })
theorem genN {env : Env} {elt iter : Expr} {x : Str} {px : Pos} {scope : Scope} {cl : List (Str × Addr)} {pos : Pos} {Q : Value → Shared → Prop} (hh : A.handled = none) (hco : scope.isCoroutine = false) (hclos : closureFor scope env = pure cl) (hcell : ∀ y ∈ scope.names, y.2 ≠ .cell) (h0 : scope.names.lookup (".0" : Str) = some NameKind.local)
    (hx : scope.names.lookup x = some .local) (hkind : scope.kind = .function) (hroom : A.depth < recursionLimit)
    (h : wpAny (model prog w) A (eval iter env) (fun xv s₁ => wpAny (model prog w) A (pyIter xv) (fun it s₂ => s₂.heap.NoLimit ∧ wpAny (model prog w) A (genexprCode env pos (env.qual ++ "<genexpr>") scope) (fun code s₃ => wpAny (model prog w) A (builtinsFor env.globals env.builtins) (fun bi s₄ => MadeN prog w A scope cl env x elt Q it code bi s₄) E s₃) E s₂) E s₁) E s)
    (hs : ∀ x, genFold iter env x = pure x) : wpAny (model prog w) A (eval (.GeneratorExp elt [⟨.Name x px, iter, [], 0⟩] scope pos) env) Q E s := by
  refine wpAny_GeneratorExp_make hco hclos hcell h0 hkind hroom (wpAny_mono h (fun xv s₁ h₁ => wpAny_mono h₁ (fun it s₂ h₂ => ⟨h₂.1, wpAny_mono h₂.2 (fun code s₃ h₃ => wpAny_mono h₃ (fun bi s₄ h₄ => ?_) fun _ _ e => e) fun _ _ e => e⟩) fun _ _ e => e) fun _ _ e => e) hs
  obtain ⟨I, fq, wr, ts, n, P, F, St, JH, rfl, Wk, st, hfq, lim, csw, hts, cst, fr, jh, bare, el, hQ⟩ := h₄
  have cs : cStatics < s₄.heap.objs.size := let ⟨_, hn, _⟩ := lim; hn.lt
  intro h' hn' hs'
  have sz : h'.objs.size = s₄.heap.objs.size + 1 := by rw [hs'.1, Heap.size_push]
  have kp : ∀ b o, s₄.heap.get? b = some o → h'.get? b = some o := fun b o e => hs'.extBut b o (Nat.ne_of_lt (Heap.lt_size e)) (Heap.get?_push_of_some _ e)
  have wlt : ∀ b ∈ wr, b < s₄.heap.objs.size := fun b hb => hfq b ((Wk A hh).sub b hb)
  have big : ¬ h'.objs.size < s₄.heap.objs.size := by omega
  have ap : Apart h'.objs.size s₄.heap.objs.size (List.range s₄.heap.objs.size) wr ts := ⟨by rw [sz]; exact Nat.succ_ne_self _, fun z => big (List.mem_range.mp z), fun z => big (wlt _ z), fun z => big (hts _ z).1, List.mem_range.mpr cs, Nat.ne_of_lt cs, csw, cst⟩
  have fm : Frm s₄.heap.objs.size (List.range s₄.heap.objs.size) wr ts JH := ⟨fun h h' j k => fr h h' j fun b hb hw o e => k b (List.mem_range.mpr hb) hw o e, fun z => Nat.lt_irrefl _ (List.mem_range.mp z), fun z => Nat.lt_irrefl _ (hts _ z).1⟩
  have kq : ∀ b o, s₄.heap.get? b = some o → (h'.push { cls := .type "generator", data := .fields #[.int s₄.gens.size 0, .str "<genexpr>" (s₄.toks + 1), .str (env.qual ++ "<genexpr>") (s₄.toks + 1 + 1)] }).get? b = some o :=
    fun b o e => Heap.get?_push_of_some _ (kp b o e)
  refine hQ _ _ _ _ rfl (by omega) (by rw [Heap.size_push]) kq ap fm ⟨⟨_, _, _, Heap.get?_push_size _ rfl, rfl, rfl, rfl⟩, lim.keeps kq, fr _ _ jh fun b _ _ o e => kq b o e, bare.push rfl, _, Array.getElem?_push_size .., fun t al bt => ⟨rfl, ?_⟩⟩
  refine startN (A := A.in1.in1) (ce := genEnv scope cl s₄.heap.objs.size code bi env) (m := fun y => if y = ".0" then some (.ref I) else none) hh Wk (fun b hb => List.mem_range.mpr (hfq b hb)) (fun b hb z => (hts b z).2 hb) fm hx (by simp [genEnv, hkind]) hco
    ⟨fun B E' i v u m h1 h2 h3 h4 h5 h6 h7 h8 => el.go B E' i v u m h1 h2 (Nat.le_trans h3 ?_) h4 h5 h6 h7 h8⟩ t ((Wk A hh).frame _ _ _ st fun b hb o e => al b (List.mem_cons_of_mem _ (List.mem_range.mpr (hfq b hb))) o (kq b o e)) ?_ (fr _ _ jh fun b hb _ o e => al b (List.mem_cons_of_mem _ (List.mem_range.mpr hb)) o (kq b o e)) bt
  · show A.in1.in1.units + 3 ≤ A.units + 8
    first | exact Nat.le_refl _ | (simp only [Around.in1]; omega) | omega
  · exact (hn'.push _).at' fun o e => al _ (List.mem_cons_self ..) o e
end
end NN
set_option Elab.async false
set_option linter.all false
set_option maxRecDepth 100000
namespace NN
open PySem PySem.Spec PyProof.Rows L2 NP
/-- a predicate over the generators that more of them keep -/
def PB (gp : Array GenState → Drawn → Prop) : Prop := (∀ g d, gp g d → AllBare g) ∧ ∀ a b d, gp a d → AllBare b → GExt a b → gp b d
theorem pb_iff {gp : Array GenState → Drawn → Prop} (h : ∀ g d, gp g d ↔ AllBare g) : PB gp := ⟨fun g d x => (h g d).mp x, fun a b d _ x _ => (h b d).mpr x⟩
structure FnOkB (P : Program) (w : World) (K : PySem.W.Frag) (mg : Str → Option Value) (base : Heap) (k : Nat) (f : Addr) (fd : FuncData) (ps : List Str) (sp : Sp) : Prop where
  len : ∀ vs H Q E, sp vs H Q E → vs.length = ps.length
  run : ∀ (A : Around) (outer : List Env) (s : Shared) (H : Hp) (args : Args) (us : List Value) (vs : List V) (Q : VK) (E : XK) (gp : Array GenState → Drawn → Prop), PB gp → gp s.gens s.drawn → ((∀ g d, gp g d ↔ AllBare g) → A.frames = some outer ∧ A.guards = some []) → Room k A → Env0 P w K mg base A outer s H → BindsTo s fd args (ps.zip us) → Vals vs us → sp vs H Q E →
    codeAny (model P w) A (.call (.ref f) args) (CR gp CX0 outer P w H s Q E) s
theorem FnOkB.ok {P : Program} {w : World} {K : PySem.W.Frag} {mg : Str → Option Value} {base : Heap} {k : Nat} {f : Addr} {fd : FuncData} {ps : List Str} {sp : Sp} (F : FnOkB P w K mg base k f fd ps sp) (hk : 10 ≤ k) : FnOk P w K mg base CX0 k f fd ps sp :=
  ⟨F.len, fun A outer s H args us vs Q E gp hc hg hf hr he hb hv hs => F.run A outer s H args us vs Q E gp (pb_iff (hc hk)) hg hf hr he hb hv hs⟩
theorem fnBx {P : Program} {w : World} {K : PySem.W.Frag} {mg : Str → Option Value} {base : Heap} {x qual : Str} {st : Stmt} {f c : Addr} {fd : FuncData} {N ps : List Str} {k : Nat} {sp : Sp} (F : Fun K x qual st f fd) (S : FnScope N ps (defScope st)) (hc : fd.code = .ref c) (len : ∀ vs H Q E, sp vs H Q E → vs.length = ps.length)
    (hbody : ∀ (A : Around) (outer : List Env) (s : Shared) (H : Hp) (vs : List V) (Q : VK) (E : XK) (gp : Array GenState → Drawn → Prop), PB gp → Room k (A.deeper (envOfC qual (defScope st) s.heap.objs.size f (.ref c))) → sp vs H Q E →
      ∃ t, JB (cxOf CX0 P w K mg base N qual (defScope st) f (.ref c) A outer s H E gp).nox (defBody st) t ∧ t { nx := fun _ H' => Q .non H', rt := Q } (L2.start N vs) H) : FnOkB P w K mg base (k + 1) f fd ps sp := by
  obtain ⟨oc, od, kV, doc, pm, an, cdv, ct, osl, rfl, lk, hcd⟩ := F.ex
  have ec : cdv = .ref c := hc
  subst ec
  refine ⟨len, fun A outer s H args us vs Q E gp hpb hgp hfr hr e0 hb r hsp => ?_⟩
  have hl := len _ _ _ _ hsp
  have KX : K.In s.heap := e0.mod.kin.keeps fun b o e => (e0.bs b o e).1
  have lim : s.heap.NoLimit := e0.mod.nolimit.keeps fun b o e => (e0.bs b o e).1
  have hkind : ∀ y ∈ ps.zip us, (defScope st).names.lookup y.1 = some .local ∨ ((defScope st).names.lookup y.1 = some .cell ∧ ((cellsFrom (s.heap.objs.size + 1) (defScope st).names []).lookup y.1).isSome = true) := fun ⟨n, v⟩ hy => by
    rcases S.par n (List.of_mem_zip hy).1 with q | q
    · exact .inl q
    · exact .inr ⟨q, PySem.W.cellsFrom_some _ _ _ (.inl q)⟩
  refine codeAny_call_function hr.depth (KX _ _ lk) rfl S.co S.gen rfl (PySem.W.codeRec_of KX hcd) (hb _ _ _ _ ?_)
  refine wpAny_newFunctionEnv_cells S.kind hkind fun env he s1 x => ?_
  subst he
  refine ⟨lim.keeps x.toInCall.keep, codeAny_func ?_⟩
  obtain ⟨t, ⟨ht⟩, hq⟩ := hbody A outer s H vs Q E gp hpb (hr.deeper _) hsp
  have ht := ht.nox
  have I : Inv (cxOf CX0 P w K mg base N qual (defScope st) f (.ref c) A outer s H E gp) [] (L2.start N vs) H s1 := inv_start hgp hfr S hr.hd e0 hl r x
  refine wpAny_mono (ht [] s1 (L2.start N vs) H _ I hq) (fun fl s' hs => ?_) fun e s' hs => hs
  have fin : ∀ {σ' : L2.St} {H' : Hp} {v : V} {u : Value}, Inv (cxOf CX0 P w K mg base N qual (defScope st) f (.ref c) A outer s H E gp) [] σ' H' s' → RelV v u → Q v H' → CE gp outer P w H s Q u s' :=
    fun {σ' H' v u} J rv q => ⟨v, H', J.os, J.bare, J.base, J.hok, rv, q⟩
  cases fl with
  | ret u =>
    obtain ⟨v, σ', H', J, rv, q⟩ := hs
    exact fin J rv q
  | next =>
    obtain ⟨σ', H', J, q⟩ := hs
    exact fin (v := V.non) (u := Value.none) J rfl q
  | brk =>
    obtain ⟨_, _, _, q⟩ := hs
    exact False.elim q
  | cont =>
    obtain ⟨_, _, _, q⟩ := hs
    exact False.elim q
def TOk (h : Heap) (t : Addr) : Prop := ∃ ps : Array Value, h.get? t = some { cls := .none, data := .fields ps } ∧ TriplesOk ps.toList
structure QsN (P : Program) (w : World) (K : PySem.W.Frag) (mg : Str → Option Value) (base : Heap) (ts : List Addr) (H : Hp) (s : Shared) : Prop where
  mod : Mod K mg base
  bs : ∀ b o, base.get? b = some o → s.heap.get? b = some o ∧ H b = none
  bsz : base.objs.size ≤ s.heap.objs.size
  hok : HOk P w H s.heap
  fz : ∀ b u, H b = some u → (∃ o u', u = .frz o u') ∨ (b ∈ ts ∧ u = TabP b)
  tb : ∀ t ∈ ts, H t = some (TabP t)
  bare : AllBare s.gens
theorem QsN.tok {P : Program} {w : World} {K : PySem.W.Frag} {mg : Str → Option Value} {base : Heap} {ts : List Addr} {H : Hp} {s : Shared} (q : QsN P w K mg base ts H s) (tk : Nat) : QsN P w K mg base ts H { s with toks := tk } := ⟨q.mod, q.bs, q.bsz, q.hok, q.fz, q.tb, q.bare⟩
theorem QsN.kIn {P : Program} {w : World} {K : PySem.W.Frag} {mg : Str → Option Value} {base : Heap} {ts : List Addr} {H : Hp} {s : Shared} (q : QsN P w K mg base ts H s) : K.In s.heap := q.mod.kin.keeps fun b o e => (q.bs b o e).1
/-- where nothing is tracked but what is known to the object, the older rules serve -/
theorem QsN.quiet {P : Program} {w : World} {K : PySem.W.Frag} {mg : Str → Option Value} {base : Heap} {H : Hp} {s : Shared} (q : QsN P w K mg base [] H s) : Qs P w K mg base H s := ⟨q.mod, q.bs, q.bsz, q.hok, fun b u e => (q.fz b u e).elim id fun z => absurd z.1 (by simp)⟩
def KeepsT (ts : List Addr) (s s' : Shared) : Prop := ∃ h' tk gs, s' = { s with heap := h', toks := tk, gens := gs } ∧ (∀ b o, b ∉ ts → s.heap.get? b = some o → h'.get? b = some o) ∧ GExt s.gens gs ∧ (∀ t ∈ ts, TOk h' t) ∧ AllBare gs
theorem keeps_t {s s' : Shared} (h : Keeps s s') (b : AllBare s.gens) : KeepsT [] s s' := by
  obtain ⟨h', tk, rfl, k⟩ := h
  exact ⟨h', tk, s.gens, rfl, fun b o _ e => k b o e, .refl _, (fun t ht => by cases ht), b⟩
theorem keepsT_tok {ts : List Addr} {s s' : Shared} {tk : Nat} (h : KeepsT ts { s with toks := tk } s') : KeepsT ts s s' := by
  obtain ⟨h', tk', gs, rfl, k, g, t, b⟩ := h
  exact ⟨h', tk', gs, rfl, k, g, t, b⟩
theorem callB {P : Program} {w : World} {K : PySem.W.Frag} {mg : Str → Option Value} {base : Heap} {ts : List Addr} {H : Hp} {s : Shared} {k : Nat} {f : Addr} {fd : FuncData} {ps : List Str} {sp : Sp} {A : Around} {E : Value → Shared → Prop} {us : List Value} {vs : List V} {r : V}
    (F : FnOkB P w K mg base k f fd ps sp) (hb : Binds K fd ps []) (q : QsN P w K mg base ts H s) (hr : Room k A) (rv : Vals vs us) (h : sp vs H (fun v H' => v = r ∧ ∀ t ∈ ts, H' t = some (TabP t)) E0) :
    wpAny (model P w) A (call (.ref f) us) (fun u s' => RelV r u ∧ KeepsT ts s s') E s := by
  have hl : us.length = ps.length := by rw [← rv.length]; exact F.len _ _ _ _ h
  have bd := hb s us q.kIn (by rw [List.append_nil]; exact hl)
  rw [List.append_nil] at bd
  refine wpAny_call (codeAny_mono (F.run A [] s H ⟨us, []⟩ us vs _ E0 (fun g d => AllBare g ∧ d = s.drawn ∧ GExt s.gens g) ⟨fun g d x => x.1, fun a b d x y z => ⟨y, x.2.1, x.2.2.trans z⟩⟩ ⟨q.bare, rfl, .refl _⟩ (fun z => ?_) hr ⟨q.mod, q.bs, q.bsz, trivial, fun b hb => absurd (show b ∈ ([] : List Addr) from hb) (by simp), q.hok⟩ bd rv h) fun res s' hq => ?_)
  · have z1 := ((z s.gens { order := 0 }).mpr q.bare).2.1
    have z2 := ((z s.gens { order := 1 }).mpr q.bare).2.1
    rw [← z2] at z1
    cases z1
  · cases res with
    | error e => exact hq.elim
    | ok fl =>
      cases fl with
      | next => exact hq.elim
      | brk => exact hq.elim
      | cont => exact hq.elim
      | ret u =>
        obtain ⟨v, H', os, ⟨g1, g2, g3⟩, un, hok', r', e, tb⟩ := hq
        obtain rfl : v = r := e
        refine ⟨r', s'.heap, s'.toks, s'.gens, ?_, fun b o nt eb => ?_, g3, fun t ht => ?_, g1⟩
        · obtain ⟨hh, g, d, t, os'⟩ := s'
          obtain rfl : os' = s.os := os
          obtain rfl : d = s.drawn := g2
          rfl
        · cases hb : H b with
          | none => exact un.keep b o eb hb (by intro z; exact absurd (show b ∈ ([] : List Addr) from z) (by simp)) (by simp)
          | some x =>
            rcases q.fz b x hb with ⟨ob, u', rfl⟩ | ⟨z, _⟩
            · obtain ⟨e1, _⟩ := (show ObjOk P w H s.heap b (.frz ob u') from q.hok b _ hb)
              obtain ⟨e2, _⟩ := (show ObjOk P w H' s'.heap b (.frz ob u') from hok' b _ (un.frzs b ob u' hb))
              rw [eb] at e1
              cases e1
              exact e2
            · exact absurd z nt
        · exact (show ObjOk P w H' s'.heap t (TabP t) from hok' t _ (tb t ht)).1
section
variable {P : Program} {w : World} {K : PySem.W.Frag} {mg : Str → Option Value} {base : Heap} {ts : List Addr} {H : Hp} {s : Shared} {A : Around} {E : Value → Shared → Prop} {env : Env}
theorem q_callB {k : Nat} {f : Addr} {fd : FuncData} {ps : List Str} {sp : Sp} {x : Str} {p pos : Pos} {e : Expr} {es : List Expr} {vs : List V} {r : V} (F : FnOkB P w K mg base k f fd ps sp) (hb : Binds K fd ps []) (q : QsN P w K mg base ts H s) (hr : Room k A)
    (hk : env.scope.kind = .function) (hx : env.kindOf x = some .globalImplicit) (hgl : env.globals = mainGlobals) (hm : mg x = some (.ref f)) (hkp : PySem.W.keepIn K (.ref f) = true) (ha : QAs (model P w) A E env s (e :: es) vs) (h : sp vs H (fun v H' => v = r ∧ ∀ t ∈ ts, H' t = some (TabP t)) E0)
    (hd : (x == ("__debug__" : Str)) = false := by decide) (he : starEach (e :: es) env = (false, eval e env) :: starEach es env := by rfl) (hpl : (backTo pos (starEach es env)).any (·.1) = false := by rfl) :
    wpAny (model P w) A (eval (.Call (.Name x p) (e :: es) [] pos) env) (fun u s' => RelV r u ∧ KeepsT ts s s') E s := by
  refine wpAny_Call_Name_kw (Calls.Name_function_global hk hx (Calls.loadGlobal_global (by rw [hgl]; exact q.mod.glob.keeps fun b o e => (q.bs b o e).1) hm ?_) hd)
  refine PySem.W.callWith_K (h₀ := base) q.mod.kin hkp (thn (ha pos s.toks) fun us s1 ⟨rv, tk, e1⟩ => ?_) he hpl
  subst e1
  exact ⟨(q.tok tk).kIn, thn (callB F hb (q.tok tk) hr rv h) fun u s' hq => ⟨hq.1, keepsT_tok hq.2⟩⟩
end
end NN
set_option Elab.async false
set_option linter.all false
set_option maxRecDepth 100000
namespace NN
open PySem PySem.Spec PyProof.Rows L2 NP
def tAllN (K : PySem.W.Frag) (T : Addr) (ts : List Addr) (R : L2.St → Hp → V → Bool → Prop) (ti : TE) : TE := fun σ H Q => ti σ H fun v H1 => ∃ (a : Addr) (xs : List V) (bs : List Bool), v = .ref a ∧ (SqT K H1 a xs ∨ SqL K H1 a xs) ∧ H1 T = some (TabP T) ∧ (∀ t ∈ ts, H1 t = some (TabP t)) ∧ T ∉ ts ∧ bs.length = xs.length ∧
  (∀ (i : Nat) (y : V), xs[i]? = some y → ∃ b, bs[i]? = some b ∧ R σ H1 y b) ∧ Q (.bl (bs.all id)) H1
section
variable {X : Cx} {x : Str} {px p pos gpos : Pos} {elt iter : Expr} {scope : Scope} {ti : TE} {c T : Addr} {R : L2.St → Hp → V → Bool → Prop} {cl : List (Str × Addr)}
set_option maxHeartbeats 2000000 in
theorem pe_allN {ts : List Addr} (hall : X.mg "all" = none) (hg : Gl X "all") (hpb : PB X.gp) (hcalm : X.calm = true) (hroom : X.A.depth < recursionLimit) (hit : PE X iter ti) (hcode : X.env.code = .ref c) (hcb : CodeB X.base X.mg c T)
    (hR : ∀ (σ : L2.St) (H H' : Hp) (y : V) (b : Bool), RdLe H H' → R σ H y b → R σ H' y b)
    (helt : ∀ (σ : L2.St) (code : Value) (C : Addr) (A' : Around) (E' : Value → Shared → Prop) (s2 : Shared) (m2 : Str → Option Value) (H : Hp) (y : V) (v : Value) (b : Bool), A'.handled = none → A'.depth ≤ X.A.depth + 1 → A'.units ≤ X.A.units + 8 → QsN X.prog X.w X.K X.mg X.base ts H s2 →
      s2.heap.Ns C m2 → m2 x = some v → RelV y v → FreeV X σ s2.heap → R σ H y b → wpAny (model X.prog X.w) A' (eval elt (genEnv scope cl C code builtinsNs X.env)) (fun u s3 => u = .bool b ∧ KeepsT ts s2 s3) E' s2)
    (hco : scope.isCoroutine = false := by rfl) (hclos : closureFor scope X.env = pure cl := by rfl) (hcell : ∀ y ∈ scope.names, y.2 ≠ .cell := by decide) (h0 : scope.names.lookup (".0" : Str) = some NameKind.local := by rfl)
    (hx : scope.names.lookup x = some .local := by rfl) (hkind : scope.kind = .function := by rfl) (hfold : ∀ x, genFold iter X.env x = pure x := by intro _; rfl)
    (he : starEach [.GeneratorExp elt [⟨.Name x px, iter, [], 0⟩] scope gpos] X.env = (false, eval (.GeneratorExp elt [⟨.Name x px, iter, [], 0⟩] scope gpos) X.env) :: starEach [] X.env := by rfl) (hpl : (backTo pos (starEach [] X.env)).any (·.1) = false := by rfl) :
    PE X (.Call (.Name "all" p) [.GeneratorExp elt [⟨.Name x px, iter, [], 0⟩] scope gpos] [] pos) (tAllN X.K T ts R ti) := by
  intro pins s σ H Q I h
  have hh := I.ok.hd hcalm
  refine wpAny_Call_Name_kw (ld_blt I hg hall boot_all ?_ (by decide) (by decide))
  refine PyProof.Rows.callWith_builtin1 ?_ he hpl
  rw [he]
  show wpAny _ _ (spliced ((false, eval (.GeneratorExp elt [⟨.Name x px, iter, [], 0⟩] scope gpos) X.env) :: backTo pos (starEach [] X.env))) _ _ s
  refine Calls.spliced_cons ?_
  refine genN (cl := cl) hh hco hclos hcell h0 hx hkind hroom (thn (hit pins s σ H _ I h) fun u s1 ⟨v, H1, I1, rv, q1⟩ => ?_) hfold
  obtain ⟨a, xs, bs, rfl, hsq, hT, hts, Tts, hbl, hbs, q⟩ := q1
  obtain rfl : u = Value.ref a := rv
  have src : ∃ (o : Obj) (its : List Value) (ax : Addr) (St0 : Nat → Heap → Prop), Vals xs its ∧ ax < s1.heap.objs.size ∧ ax ≠ T ∧ ax ∉ ts ∧
      (∀ (Q' : Value → Shared → Prop) (E' : Value → Shared → Prop), Q' (.ref s1.heap.objs.size) { s1 with heap := s1.heap.push o } → wpAny (model X.prog X.w) X.A (pyIter (.ref a)) Q' E' s1) ∧
      (∀ A' : Around, A'.handled = none → Walks X.prog X.w A' s1.heap.objs.size [s1.heap.objs.size, ax] [s1.heap.objs.size] its.toArray.size (fun i v => its.toArray[i]? = some v) St0) ∧ St0 0 (s1.heap.push o) ∧ ∃ o2, (s1.heap.push o).get? s1.heap.objs.size = some o2 := by
    obtain ⟨psT, eT, tT⟩ := (show ObjOk X.prog X.w H1 s1.heap T (TabP T) from I1.hok T _ hT).1
    have tbs : ∀ t ∈ ts, TOk s1.heap t := fun t ht => (show ObjOk X.prog X.w H1 s1.heap t (TabP t) from I1.hok t _ (hts t ht)).1
    rcases hsq with hsq | hsq
    · obtain ⟨its, r, ht, _⟩ := I1.tuple hsq
      have ht' : s1.heap.IsTuple a its.toArray := ht
      have lt : a < s1.heap.objs.size := ht.lt
      refine ⟨_, its, a, _, r, lt, fun e => ?_, fun e => ?_, fun Q' E' hq => wpAny_pyIter_tuple ht' hq, fun A' hA => Walks.tuple hA _ _ (Nat.ne_of_lt lt) _, ⟨⟨_, Heap.get?_push_size _ rfl, rfl, rfl⟩, ht'.push _⟩, _, Heap.get?_push_size _ rfl⟩
      · obtain ⟨ob, e1, e2, _⟩ := ht
        rw [e, eT] at e1
        cases e1
        cases e2
      · obtain ⟨ob, e1, e2, _⟩ := ht
        obtain ⟨ps, e3, _⟩ := tbs a e
        rw [e3] at e1
        cases e1
        cases e2
    · obtain ⟨its, r, ⟨ob, n, e1, e2, e3, e4⟩, _⟩ := I1.list hsq
      have hl : s1.heap.IsList a its.toArray := ⟨ob, e1, e2, n, e4⟩
      have lt : a < s1.heap.objs.size := Heap.lt_size e1
      refine ⟨_, its, a, _, r, lt, fun e => ?_, fun e => ?_, fun Q' E' hq => wpAny_pyIter_list hl hq, fun A' hA => Walks.list hA _ _ (Nat.ne_of_lt lt) _, ⟨⟨_, Heap.get?_push_size _ rfl, rfl, rfl⟩, hl.push _⟩, _, Heap.get?_push_size _ rfl⟩
      · rw [e, eT] at e1
        cases e1
        cases e2
      · obtain ⟨ps, e5, _⟩ := tbs a e
        rw [e5] at e1
        cases e1
        cases e2
  obtain ⟨o, its, ax, St0, rits, axlt, axT, axts, hiter, W, hst, o2, e2⟩ := src
  have tbs : ∀ t ∈ ts, TOk s1.heap t := fun t ht => (show ObjOk X.prog X.w H1 s1.heap t (TabP t) from I1.hok t _ (hts t ht)).1
  have tlt : ∀ t ∈ ts, t < s1.heap.objs.size := fun t ht => let ⟨_, e, _⟩ := tbs t ht; Heap.lt_size e
  have bts : ∀ b o', X.base.get? b = some o' → b ∉ ts := fun b o' e z => by
    have := (I1.bs b o' e).2
    rw [hts b z] at this
    cases this
  refine hiter _ _ ?_
  obtain ⟨psT, eT, tT⟩ := (show ObjOk X.prog X.w H1 s1.heap T (TabP T) from I1.hok T _ hT).1
  obtain ⟨oc, vs, file, tf, flags, tg, inF, text, tt, r1, rc, rv, r2, r3, r4, r5, r6, r7⟩ := hcb.cd
  have Tlt : T < s1.heap.objs.size := Heap.lt_size eT
  have lim2 : (s1.heap.push o).NoLimit := I1.nolimit.push _
  have csT : cStatics ≠ T := fun e => by
    obtain ⟨_, ⟨ob, es, ep, z1, z2, _⟩, _⟩ := I1.nolimit
    rw [e, eT] at z1
    cases z1
    cases z2
  have cslt : cStatics < s1.heap.objs.size := let ⟨_, hn, _⟩ := I1.nolimit; hn.lt
  have bT : ∀ b o', X.base.get? b = some o' → b ≠ T := fun b o' e z => by
    have := (I1.bs b o' e).2
    rw [z, hT] at this
    cases this
  obtain ⟨bm, ob, M⟩ := hcb.bm
  -- behind the code is found or made
  have core : ∀ (code : Value) (h3 : Heap) (tk3 : Nat) (ps3 : Array Value), (∀ b o', b ≠ T → (s1.heap.push o).get? b = some o' → h3.get? b = some o') → h3.get? T = some { cls := .none, data := .fields ps3 } → TriplesOk ps3.toList →
      wpAny (model X.prog X.w) X.A (builtinsFor X.env.globals X.env.builtins) (fun bi s4 => bi = builtinsNs ∧ s4 = { s1 with heap := h3, toks := tk3 } ∧ h3.NoLimit ∧ St0 0 h3 ∧ s1.heap.objs.size < h3.objs.size) X.xe { s1 with heap := h3, toks := tk3 } := by
    intro code h3 tk3 ps3 ext e3 t3
    have M3 : BMod h3 X.env.globals X.mg bm ob := by
      rw [I.ok.glob]
      exact M.keeps fun b o' e => ext b o' (bT b o' e) (Heap.get?_push_of_some _ (I1.bk b o' e))
    refine wpAny_builtinsFor M3.ns M3.name M3.ne M3.obj M3.cls M3.dict M3.data ⟨rfl, rfl, lim2.extBut ext csT, (W X.A hh).frame _ _ _ hst fun b hb o' e => ext b o' ?_ e, Heap.lt_size (ext _ o2 (Nat.ne_of_gt Tlt) e2)⟩
    rcases List.mem_cons.mp hb with z | hb
    · rw [z]; exact Nat.ne_of_gt Tlt
    · rcases List.mem_cons.mp hb with z | hb
      · rw [z]; exact axT
      · cases hb
  have done : ∀ (code : Value) (h3 : Heap) (tk3 : Nat) (ps3 : Array Value) (ext : ∀ b o', b ≠ T → (s1.heap.push o).get? b = some o' → h3.get? b = some o') (e3 : h3.get? T = some { cls := .none, data := .fields ps3 }) (t3 : TriplesOk ps3.toList) (lim3 : h3.NoLimit) (st3 : St0 0 h3) (sz3 : s1.heap.objs.size < h3.objs.size),
      ElN X.prog X.w (genEnv scope cl h3.objs.size code builtinsNs X.env) x elt ts (fun h => (∀ b o', b ≠ T → b ∉ ts → s1.heap.get? b = some o' → h.get? b = some o') ∧ h.get? T = some { cls := .none, data := .fields ps3 } ∧ ∀ t ∈ ts, TOk h t) its.toArray.size (fun i v => its.toArray[i]? = some v) (fun i y => y = Value.bool (bs.getD i false)) (X.A.depth + 1) (X.A.units + 8) ∧
      (∀ (g : Nat) (s5 s' : Shared), s1.gens.size ≤ g → s5.os = s1.os → s5.drawn = s1.drawn → GExt s1.gens s5.gens → (∀ b o, h3.get? b = some o → s5.heap.get? b = some o) → MovN g h3.objs.size [s1.heap.objs.size] ts (fun h => (∀ b o', b ≠ T → b ∉ ts → s1.heap.get? b = some o' → h.get? b = some o') ∧ h.get? T = some { cls := .none, data := .fields ps3 } ∧ ∀ t ∈ ts, TOk h t) s5 s' → Inv X pins σ H1 s') := by
    intro code h3 tk3 ps3 ext e3 t3 lim3 st3 sz3
    refine ⟨⟨fun A' E' i v s2 m2 hA hd hu hP hn hm ⟨k2, eT2, tb2⟩ bare2 => ?_⟩, fun g s5 s' hg ho hdr hge k5 mv => ?_⟩
    · have hiv : its[i]? = some v := by simpa using hP
      have hil : i < xs.length := by rw [rits.length]; exact (List.getElem?_eq_some_iff.mp hiv).1
      obtain ⟨u', e', ru⟩ := rits.get (List.getElem?_eq_getElem hil)
      rw [hiv] at e'
      cases e'
      obtain ⟨b, eb, hRb⟩ := hbs i _ (List.getElem?_eq_getElem hil)
      have s2lt : h3.objs.size < s2.heap.objs.size := hn.lt
      let HN : Hp := fun b => if b ∈ ts then some (TabP b) else frzH s1.heap H1 b
      have HNt : ∀ t ∈ ts, HN t = some (TabP t) := fun t ht => if_pos ht
      have HNf : ∀ b, b ∉ ts → HN b = frzH s1.heap H1 b := fun b hb => if_neg hb
      have fok : HOk X.prog X.w (frzH s1.heap H1) s2.heap ∨ True := .inr trivial
      have old : ∀ b u, b ∉ ts → frzH s1.heap H1 b = some u → ∃ o v, u = .frz o v ∧ sim v = true ∧ ObjOk X.prog X.w H1 s1.heap b v ∧ s1.heap.get? b = some o := fun b u hb e => by
        obtain ⟨ob, v3, rfl, sv, hh3⟩ := frz_shape e
        rcases hh3 with ⟨z1, z2⟩ | z1
        · exact ⟨ob, v3, rfl, sv, I1.hok b _ z1, z2⟩
        · obtain ⟨z2, z3⟩ := (show ObjOk X.prog X.w H1 s1.heap b (.frz ob v3) from I1.hok b _ z1)
          exact ⟨ob, v3, rfl, sv, z3, z2⟩
      have nT : ∀ b u, frzH s1.heap H1 b = some u → b ≠ T := fun b u e z => by
        obtain ⟨o3, v3, _, sv, hh3⟩ := frz_shape e
        rw [z, hT] at hh3
        rcases hh3 with ⟨z1, _⟩ | z1
        · cases z1; cases sv
        · cases z1
      have qs : QsN X.prog X.w X.K X.mg X.base ts HN s2 := by
        refine ⟨I1.ok.mod, fun b o' e => ⟨k2 b o' (bT b o' e) (bts b o' e) (I1.bk b o' e), by rw [HNf b (bts b o' e)]; exact frz_none (I1.bs b o' e).2⟩, Nat.le_trans (Nat.le_trans I1.ok.bsz I1.sz) (Nat.le_of_lt (Nat.lt_trans sz3 s2lt)), fun b u e => ?_, fun b u e => ?_, HNt, bare2⟩
        · by_cases hb : b ∈ ts
          · rw [HNt b hb] at e
            cases e
            obtain ⟨ps, e1, e2⟩ := tb2 b hb
            exact tab_ok e1 e2
          · rw [HNf b hb] at e
            obtain ⟨ob, v3, rfl, sv, ov, eo⟩ := old b u hb e
            have go : ∀ y, s1.heap.get? b = some y → s2.heap.get? b = some y := fun y ey => k2 b y (nT b _ e) hb ey
            refine ⟨go _ eo, ?_⟩
            cases v3 with
            | lst ys => obtain ⟨z, its', n, r, e1⟩ := ov; exact ⟨z, its', n, r, go _ e1⟩
            | tup ys => obtain ⟨z, its', r, ob', e1, c⟩ := ov; exact ⟨z, its', r, ob', go _ e1, c⟩
            | dK kvs => obtain ⟨z, y, vs', r, ob', es, ep, e1, c⟩ := ov; exact ⟨z, y, vs', r, ob', es, ep, go _ e1, c⟩
            | _ => cases sv
        · by_cases hb : b ∈ ts
          · rw [HNt b hb] at e
            cases e
            exact .inr ⟨hb, rfl⟩
          · rw [HNf b hb] at e
            obtain ⟨o3, v3, e3', _⟩ := frz_shape e
            exact .inl ⟨o3, v3, e3'⟩
      have le : RdLe H1 HN := fun a' u su hr => by
        have na : a' ∉ ts := fun z => by
          rcases hr with e | ⟨oo, e⟩
          · rw [hts a' z] at e; cases e; cases su
          · rw [hts a' z] at e; cases e
        have := frz_le I1.hok a' u su hr
        rcases this with e | ⟨oo, e⟩
        · exact .inl (by rw [HNf a' na]; exact e)
        · exact .inr ⟨oo, by rw [HNf a' na]; exact e⟩
      have fv : FreeV X σ s2.heap := fun i y v e1 e2 e3 e4 => by
        obtain ⟨m, _, hloc⟩ := I1.loc
        obtain ⟨u, ru, lk⟩ := hloc i y v e1 e2 e3
        rcases lk with ⟨kk, _⟩ | ⟨_, k, ek, ok, eo, ed⟩
        · rcases e4 with z | z <;> (rw [kk] at z; cases z)
        · refine ⟨u, k, ru, ek, ok, k2 k ok (fun z => ?_) (fun z => ?_) eo, ed⟩
          · rw [z, eT] at eo
            cases eo
            cases ed
          · obtain ⟨ps, e5, _⟩ := tbs k z
            rw [e5] at eo
            cases eo
            cases ed
      refine wpAny_mono (helt σ code h3.objs.size A' E' s2 m2 HN _ v b hA hd hu qs hn hm ru fv (hR _ _ _ _ _ le hRb)) (fun r s3 ⟨hr1, h', tk', gs, hs3, k, ge, tt, ba⟩ => ⟨?_, h', tk', gs, hs3, k, ge, ⟨fun b o' n1 n2 e => k b o' n2 (k2 b o' n1 n2 e), k T _ Tts eT2, tt⟩, ba⟩) fun _ _ e => e
      rw [hr1, List.getD_eq_getElem?_getD, eb]
      rfl
    · obtain ⟨kk, eT', tt'⟩ := mv.jh
      have nT : ∀ b, H1 b = none → b ≠ T := fun b n z => by rw [z, hT] at n; cases n
      have nt : ∀ b, H1 b = none → b ∉ ts := fun b n z => by rw [hts b z] at n; cases n
      have gx : X.gp s'.gens s'.drawn := by
        rw [mv.drawn, hdr]
        refine hpb.2 s1.gens s'.gens _ I1.bare mv.bare ⟨Nat.le_trans hge.1 mv.gens.1, fun i hi => ?_⟩
        rw [mv.gens.2 i (Nat.lt_of_lt_of_le hi hge.1) (by omega)]
        exact hge.2 i hi
      refine I1.call' (ch := []) (mv.os.trans ho) ⟨fun b o' e n _ _ => kk b o' (nT b n) (nt b n) e, fun b o' e n _ _ => ⟨o'.slots, kk b o' (nT b n) (nt b n) e⟩, fun _ _ _ n _ => n, fun b o' e _ => ?_, fun _ _ q => q, fun _ _ _ q => q, fun b ps q => ⟨#[], by rw [q]; simp⟩⟩ (fun b u e => ?_) gx fun b z => by cases z
      · by_cases z : b = T
        · rw [z]; exact ⟨_, eT'⟩
        · by_cases z2 : b ∈ ts
          · obtain ⟨ps, e5, _⟩ := tt' b z2
            exact ⟨_, e5⟩
          · exact ⟨o', kk b o' z z2 e⟩
      · by_cases z : b = T
        · rw [z] at e ⊢
          rw [hT] at e
          cases e
          exact tab_ok eT' t3
        · by_cases z2 : b ∈ ts
          · rw [hts b z2] at e
            cases e
            obtain ⟨ps, e5, e6⟩ := tt' b z2
            exact tab_ok e5 e6
          · refine (I1.hok b u e).stay (fun b' u' hb' q => kk b' u' ?_ ?_ q) (fun _ q => q) fun _ _ q => q
            · rcases hb' with z' | z'
              · rw [z']; exact z
              · intro z''
                rw [z'', hT] at z'
                cases z'
            · rcases hb' with z' | z'
              · rw [z']; exact z2
              · intro z''
                rw [hts b' z''] at z'
                cases z'
  have ic : (s1.heap.push o).IsCode c T psT := ⟨oc, vs, file, tf, flags, tg, inF, text, tt, _, Heap.get?_push_of_some _ (I1.bk c oc r1), r2, r3, r4, r5, r6, r7, Heap.get?_push_of_some _ eT, rfl, tT, hcb.ne⟩
  have gc : wpAny (model X.prog X.w) X.A (genexprCode X.env gpos (X.env.qual ++ "<genexpr>") scope) (fun _ s3 => ∃ h3 tk3 ps3, s3 = { s1 with heap := h3, toks := tk3 } ∧ (∀ b o', b ≠ T → (s1.heap.push o).get? b = some o' → h3.get? b = some o') ∧
      h3.get? T = some { cls := .none, data := .fields ps3 } ∧ TriplesOk ps3.toList) X.xe { s1 with heap := s1.heap.push o } := by
    cases hca : codeAmong gpos psT.toList with
    | some c' => exact wpAny_genexprCode_hit hcode ic hca ⟨s1.heap.push o, s1.toks, psT, rfl, fun _ _ _ e => e, Heap.get?_push_of_some _ eT, tT⟩
    | none =>
      refine wpAny_genexprCodeX hcode ic ⟨⟨oc, vs, Heap.get?_push_of_some _ (I1.bk c oc r1), rc, r2, rv⟩, Heap.get?_push_of_some _ eT⟩ hca fun c' h' tk ext _ _ ic' _ tb _ => ?_
      obtain ⟨_, _, _, _, _, _, _, _, _, op, _, _, _, _, _, _, _, z1, z2, z3, _⟩ := ic'
      exact ⟨h', tk, _, rfl, ext, tb.2, z3⟩
  refine ⟨lim2, thn gc fun code s3 ⟨h3, tk3, ps3, es, ext, e3, t3⟩ => ?_⟩
  subst es
  refine thn (core code h3 tk3 ps3 ext e3 t3) fun bi s4 ⟨eb, e4, lim3, st3, sz3⟩ => ?_
  subst eb
  subst e4
  obtain ⟨qg, after⟩ := done code h3 tk3 ps3 ext e3 t3 lim3 st3 sz3
  have k3 : ∀ b o', b ≠ T → s1.heap.get? b = some o' → h3.get? b = some o' := fun b o' hb e => ext b o' hb (Heap.get?_push_of_some _ e)
  have fr : ∀ h h' : Heap, ((∀ b o', b ≠ T → b ∉ ts → s1.heap.get? b = some o' → h.get? b = some o') ∧ h.get? T = some { cls := .none, data := .fields ps3 } ∧ ∀ t ∈ ts, TOk h t) → (∀ b, b < h3.objs.size → b ∉ [s1.heap.objs.size] → ∀ o', h.get? b = some o' → h'.get? b = some o') →
      ((∀ b o', b ≠ T → b ∉ ts → s1.heap.get? b = some o' → h'.get? b = some o') ∧ h'.get? T = some { cls := .none, data := .fields ps3 } ∧ ∀ t ∈ ts, TOk h' t) := by
    rintro h h' ⟨j1, j2, j3⟩ k
    refine ⟨fun b o' n1 n2 e => ?_, k T (Nat.lt_trans Tlt sz3) (fun z => Nat.ne_of_lt Tlt (List.mem_singleton.mp z)) _ j2, fun t ht => ?_⟩
    · have lt := Heap.lt_size e
      exact k b (Nat.lt_trans lt sz3) (fun z => Nat.ne_of_lt lt (List.mem_singleton.mp z)) o' (j1 b o' n1 n2 e)
    · obtain ⟨ps, e5, e6⟩ := j3 t ht
      exact ⟨ps, k t (Nat.lt_trans (tlt t ht) sz3) (fun z => Nat.ne_of_lt (tlt t ht) (List.mem_singleton.mp z)) _ e5, e6⟩
  refine ⟨s1.heap.objs.size, [s1.heap.objs.size, ax], [s1.heap.objs.size], ts, its.toArray.size, _, _, St0, _, rfl, W, st3, fun b hb => ?_, lim3, fun z => Nat.ne_of_lt cslt (List.mem_singleton.mp z), fun b hb => ⟨Nat.lt_trans (tlt b hb) sz3, fun z => ?_⟩, fun z => ?_, fr, ⟨fun b o' n1 n2 e => k3 b o' n1 e, e3, fun t ht => ?_⟩, hpb.1 _ _ I1.bare, qg, fun g h5 tk gs hgb hlt hsz hk5 ap fm GA => ?_⟩
  · rcases List.mem_cons.mp hb with z | hb
    · rw [z]; exact sz3
    · rcases List.mem_cons.mp hb with z | hb
      · rw [z]; exact Nat.lt_trans axlt sz3
      · cases hb
  · rcases List.mem_cons.mp z with z | z
    · exact Nat.lt_irrefl _ (z ▸ tlt b hb)
    · exact axts ((List.mem_singleton.mp z) ▸ hb)
  · obtain ⟨_, ⟨ob, es, ep, z1, z2, _⟩, _⟩ := I1.nolimit
    obtain ⟨ps, e5, _⟩ := tbs _ z
    rw [e5] at z1
    cases z1
    cases z2
  · obtain ⟨ps, e5, e6⟩ := tbs t ht
    exact ⟨ps, k3 t _ (fun z => Tts (z ▸ ht)) e5, e6⟩
  · refine Calls.spliced_nil ?_
    refine call_allN hh hroom ap fm (fun j => bs.getD j false) (fun i' v' s' Q' E' hv hq => ?_) GA fun s' mv => ?_
    · rw [hv]
      exact wpAny_truthy_bool hq
    · refine ⟨.bl (bs.all id), H1, after s1.gens.size { s1 with heap := h5, toks := tk, gens := s1.gens.push gs } s' (Nat.le_refl _) rfl rfl (GExt.push _ _) hk5 mv, ?_, q⟩
      show Value.bool _ = Value.bool _
      rw [List.size_toArray, ← rits.length, ← hbl, L2.all_range]
theorem je_allN {ts : List Addr} (hall : X.mg "all" = none) (hg : Gl X "all") (hpb : PB X.gp) (hcalm : X.calm = true) (hroom : X.A.depth < recursionLimit) (hit : JE X iter ti) (hcode : X.env.code = .ref c) (hcb : CodeB X.base X.mg c T)
    (hR : ∀ (σ : L2.St) (H H' : Hp) (y : V) (b : Bool), RdLe H H' → R σ H y b → R σ H' y b)
    (helt : ∀ (σ : L2.St) (code : Value) (C : Addr) (A' : Around) (E' : Value → Shared → Prop) (s2 : Shared) (m2 : Str → Option Value) (H : Hp) (y : V) (v : Value) (b : Bool), A'.handled = none → A'.depth ≤ X.A.depth + 1 → A'.units ≤ X.A.units + 8 → QsN X.prog X.w X.K X.mg X.base ts H s2 →
      s2.heap.Ns C m2 → m2 x = some v → RelV y v → FreeV X σ s2.heap → R σ H y b → wpAny (model X.prog X.w) A' (eval elt (genEnv scope cl C code builtinsNs X.env)) (fun u s3 => u = .bool b ∧ KeepsT ts s2 s3) E' s2)
    (hco : scope.isCoroutine = false := by rfl) (hclos : closureFor scope X.env = pure cl := by rfl) (hcell : ∀ y ∈ scope.names, y.2 ≠ .cell := by decide) (h0 : scope.names.lookup (".0" : Str) = some NameKind.local := by rfl)
    (hx : scope.names.lookup x = some .local := by rfl) (hkind : scope.kind = .function := by rfl) (hfold : ∀ x, genFold iter X.env x = pure x := by intro _; rfl)
    (he : starEach [.GeneratorExp elt [⟨.Name x px, iter, [], 0⟩] scope gpos] X.env = (false, eval (.GeneratorExp elt [⟨.Name x px, iter, [], 0⟩] scope gpos) X.env) :: starEach [] X.env := by rfl) (hpl : (backTo pos (starEach [] X.env)).any (·.1) = false := by rfl) :
    JE X (.Call (.Name "all" p) [.GeneratorExp elt [⟨.Name x px, iter, [], 0⟩] scope gpos] [] pos) (tAllN X.K T ts R ti) := ⟨pe_allN hall hg hpb hcalm hroom hit.p hcode hcb hR helt hco hclos hcell h0 hx hkind hfold he hpl⟩
end
end NN
set_option Elab.async false
set_option linter.all false
set_option maxRecDepth 100000
namespace NV
open PySem PySem.Spec PyProof.Rows L2 NP
section
variable {prog : Program} {w : World} {A : Around} {E : Value → Shared → Prop}
theorem walk_rest (hh : A.handled = none) (it l : Addr) (ne : l ≠ it) (x : Value) (its : Array Value) (sz : its.size = (#[x] ++ its).size - 1) : Walks prog w A it [it, l] [it] its.size (fun i v => its[i]? = some v) (fun i h => h.IsListIter it l (i + 1) ∧ h.IsList l (#[x] ++ its)) := by
  have W := Walks.list (prog := prog) (w := w) hh it l ne (#[x] ++ its)
  have e : (#[x] ++ its).size = its.size + 1 := by simp [Nat.add_comm]
  have at1 : ∀ i, (#[x] ++ its)[i + 1]? = its[i]? := fun i => by rw [Array.getElem?_append_right (by simp)]; simp
  refine ⟨W.sub, fun i h h' st k => W.frame (i + 1) h h' st k, fun i s Q E' hi st hQ => W.item (i + 1) s Q E' (by rw [e]; omega) st fun v h' tk pv st' k => hQ v h' tk (by rw [← at1]; exact pv) st' k, fun s Q E' st hQ => W.done s Q E' (by rw [e]; exact st) hQ, fun i s Q E' st hQ => W.self (i + 1) s Q E' st hQ⟩
theorem items_star {s : Shared} {l : Addr} {x : Value} {rest : List Value} {Q : List Value → Shared → Prop} (hh : A.handled = none) (hl : s.heap.IsList l (#[x] ++ rest.toArray)) (hz : rest.length ≤ sizeLine)
    (q : ∀ (g : Heap) (tk : Nat), (∀ b o, s.heap.get? b = some o → g.get? b = some o) → Q [x, .ref g.objs.size] { s with heap := g.push { cls := .type "list", data := .seq rest.toArray }, toks := tk }) : wpAny (model prog w) A (unpackItems (.ref l) 2 (some 1)) Q E s := by
  have lt : l < s.heap.objs.size := by obtain ⟨o, ho, _⟩ := hl; exact Heap.lt_size ho
  have ne : l ≠ s.heap.objs.size := Nat.ne_of_lt lt
  have sz : (#[x] ++ rest.toArray).size = rest.length + 1 := by simp [Nat.add_comm]
  unfold unpackItems
  refine wpAny_bind ?_
  · unfold notIterableAtAll
    refine wpAny_bind (wpAny_specialOf hl.typeIs PySem.F.slot_list_iter.lookup ?_)
    refine wpAny_pure ?_
    simp only [Bool.false_eq_true, if_false]
    refine wpAny_bind (wpAny_holding (wpAny_pyIter_list hl ?_))
    refine wpAny_bind (wpAny_holding (NW.draw_l ne 1 0 _ _ ⟨_, Heap.get?_push_size _ rfl, rfl, rfl⟩ (hl.push _) (by omega) fun g1 i1 s1 => ?_))
    have one : List.take 1 (List.drop 0 (#[x] ++ rest.toArray).toList) = [x] := by simp
    rw [one]
    rw [if_neg (by simp)]
    have l1 : g1.IsList l (#[x] ++ rest.toArray) := (hl.push _).extBut s1.extBut ne
    have Wk := (walk_rest (prog := prog) (w := w) (A := A.in1) hh s.heap.objs.size l ne x rest.toArray (by simp)).toS
    have it1 : g1.IsListIter s.heap.objs.size l (0 + 1) := i1
    refine wpAny_bind (wpAny_holding (wpAny_collect_iter (T := "list_iterator") (.inr (.inr (.inl rfl))) Wk (fun i s2 st => ?_) ⟨it1, l1⟩ (fun b hb => ?_) (by simp) (fun s2 acc mv ia => ?_) (by rw [List.size_toArray]; exact hz)))
    · obtain ⟨o, h1, h2, _⟩ := st.1
      exact ⟨o, h1, h2⟩
    · have big : s.heap.objs.size < g1.objs.size := by obtain ⟨o, ho, _⟩ := i1; exact Heap.lt_size ho
      rcases List.mem_cons.mp hb with z | hb
      · rw [z]; exact big
      · rw [List.mem_singleton.mp hb]; exact Nat.lt_trans lt big
    · have ea : acc.toList = rest := by
        obtain ⟨a1, a2⟩ := ia
        have a3 : acc.size = rest.length := by simpa using a1
        refine List.ext_getElem? fun i => ?_
        by_cases hi : i < acc.size
        · have h1 : acc[i]? = some acc[i] := Array.getElem?_eq_getElem hi
          have h2 := a2 i _ h1
          rw [← Array.getElem?_toList] at h1
          rw [h1]
          simpa using h2.symm
        · rw [List.getElem?_eq_none (by rw [Array.length_toList]; omega), List.getElem?_eq_none (by rw [← a3]; omega)]
      rw [ea]
      simp only [Nat.add_one_sub_one, Nat.reduceSub, Nat.sub_self]
      rw [if_neg (by simp)]
      refine wpAny_bind ?_
      have e1 : List.take (rest.length - 0) rest = rest := by simp
      have e2 : List.drop (rest.length - 0) rest = [] := by simp
      rw [e1, e2]
      refine wpAny_newObj_type (wpAny_pure ?_) (by show rest.toArray.size ≤ sizeLine; rw [List.size_toArray]; exact hz)
      have k : ∀ b o, s.heap.get? b = some o → s2.heap.get? b = some o := fun b o e => mv.heap b o (by simp; exact Nat.ne_of_lt (Heap.lt_size e)) (s1.extBut b o (Nat.ne_of_lt (Heap.lt_size e)) (Heap.get?_push_of_some _ e))
      have es : s2 = { s with heap := s2.heap, toks := s2.toks } := by
        obtain ⟨hp, g, d, t, os⟩ := s2
        obtain rfl : g = s.gens := mv.gens
        obtain rfl : d = s.drawn := mv.drawn
        obtain rfl : os = s.os := mv.os
        rfl
      have := q s2.heap s2.toks k
      rw [es]
      exact this
end
def gStar (K : PySem.W.Frag) (t : TGs) : TG := fun v σ H Q => ∃ (a : Addr) (x : V) (rest : List V), v = .ref a ∧ SqL K H a (x :: rest) ∧ ∀ D, H D = none → t [x, .ref D] σ (upd H D (.lst rest)) Q
theorem jg_star {X : Cx} {x1 x2 : Str} {q1 q2 p2 pos : Pos} {k : Nat} {t : TGs} (hc : X.calm = true) (h : JGs X [.Name x1 q1, .Name x2 q2] t) : JG X (.Tuple [.Name x1 q1, .Starred (.Name x2 q2) p2] k pos) (gStar X.K t) := ⟨by
  have hm : (assignEach [.Name x1 q1, .Starred (.Name x2 q2) p2] X.env).map (·.2) = (assignEach [.Name x1 q1, .Name x2 q2] X.env).map (·.2) := by rfl
  have hn : (assignEach [.Name x1 q1, .Starred (.Name x2 q2) p2] X.env).length = 2 := by rfl
  have hst : (assignEach [.Name x1 q1, .Starred (.Name x2 q2) p2] X.env).findIdx? (·.1) = some 1 := by rfl
  intro pins s σ H v u Q I r hw
  obtain ⟨a, x, rest, e0, hq, hw⟩ := hw
  subst e0
  cases r
  obtain ⟨its, rv, ⟨o, m, ho, hcl, hdn, hd⟩, hz⟩ := I.list hq
  cases rv with
  | @cons _ ux _ us rx rr =>
    rw [assign_Tuple]
    refine wpAny_bind (wpAny_standAt ?_)
    unfold unpack
    rw [hn, hst]
    have lz : us.length ≤ sizeLine := by
      have := rr.length
      rw [List.length_cons] at hz
      omega
    refine wpAny_bind (wpAny_holding (items_star (x := ux) (rest := us) (I.ok.hd hc) ⟨o, ho, hcl, m, by rw [hd]; congr 1; simp⟩ lz fun g tk k => ?_))
    rw [hm]
    have I1 : Inv X pins σ H { s with heap := g, toks := tk } := I.kept (t' := tk) k
    have n1 : H g.objs.size = none := I1.hok.fresh (Nat.le_refl _)
    have I2 := I1.laid (a := g.objs.size) (o := .lst rest) (h' := g.push { cls := .type "list", data := .seq us.toArray }) (t' := tk) (fun b ob q => Heap.get?_push_of_some _ q) (Nat.le_refl _) ⟨by rw [rr.length]; exact lz, us, 0, rr, Heap.get?_push_size _ rfl⟩
    exact h.p pins _ σ _ [x, .ref g.objs.size] [ux, .ref g.objs.size] Q I2 (.cons rx (.cons rfl .nil)) (hw _ n1)⟩
end NV
set_option Elab.async false
set_option linter.all false
set_option maxRecDepth 100000
namespace NT
open PySem PySem.Spec PyProof.Rows L2 NP
section
variable {X : Cx} {o e a : Expr} {to te ta : TE} {pos apos cpos : Pos}
theorem je_m0 {id : String} {name : Str} {r : V → List V → Hp → VK → Prop} (slot : Slot "str" name id) (ty : typeOf (.builtin id) = pure (.type "method_descriptor")) (rule : MtR X id r) (ho : JE X o to)
    (hbase : attributeBase o name X.env (eval o X.env) = eval o X.env := by rfl) (hline : (apos.endLine == pos.line) = true := by rfl) : JE X (.Call (.Attribute o name apos) [] [] pos) (tM0 r to) := ⟨pe_m0 slot ty rule ho.p hbase hline⟩
theorem je_m1 {id : String} {name : Str} {r : V → List V → Hp → VK → Prop} (slot : Slot "str" name id) (ty : typeOf (.builtin id) = pure (.type "method_descriptor")) (rule : MtR X id r) (ho : JE X o to) (he : JE X e te)
    (hs : starEach [e] X.env = [(false, eval e X.env)] := by rfl) (hbase : attributeBase o name X.env (eval o X.env) = eval o X.env := by rfl) (hline : (apos.endLine == pos.line) = true := by rfl) :
    JE X (.Call (.Attribute o name apos) [e] [] pos) (tM1 r to te) := ⟨pe_m1 slot ty rule ho.p he.p hs hbase hline⟩
theorem jt_truth (ha : JE X a ta) (he : ∀ whole, isTrue a X.env whole = (do let v ← whole; standAt a.pos; holding [v] (truthy v)) := by intro _; rfl) :
    JT X a (fun σ H Q => ta σ H fun x H' => ∃ k, TruV X.K x H' k ∧ Q k H') := ⟨pt_truth ha.p he⟩
theorem mt_isascii : MtR X "str.isascii" (fun x xs H Q => ∃ a, x = .str a ∧ xs = [] ∧ True ∧ Q (.bl (Txt.isascii a)) H) :=
  mt0 (C := fun _ => True) (g := fun a => .bl (Txt.isascii a)) fun _ _ s _ _ h => PySem.SC.isascii (h _ s.toks rfl)
/-- 'abc' * 0, 'abc' * 1 -/
theorem op_times : OpR X (binaryOp .Mult) (fun x y H Q => ∃ z n, x = .str z ∧ y = .int n ∧ ((n = 0 ∧ Q (.str Str.empty) H) ∨ (n = 1 ∧ Q (.str z) H))) := by
  intro pins s σ H x y v u Q I rx ry h
  obtain ⟨z, n, rfl, rfl, h⟩ := h
  obtain ⟨t, rfl⟩ := rx
  obtain ⟨t', rfl⟩ := ry
  rcases h with ⟨rfl, q⟩ | ⟨rfl, q⟩
  · exact PySem.P.mul_str_none (by decide) (by decide) ⟨.str _, H, I.tok _, ⟨_, rfl⟩, q⟩
  · refine PySem.P.mul_str (by decide) (fun _ h => by cases h) (fun _ h => by cases h) ?_
    exact ⟨.str _, H, I, ⟨_, rfl⟩, q⟩
/-- isinstance(x, str) -/
theorem kit_str (K : PySem.W.Frag) (d : PyData) : PySem.W.kitOne K (.type (tyD d)) (.type "str") = some (tyD d == "str") := by
  cases d <;> first | rfl | (with_unfolding_all rfl) | decide +kernel
theorem isstr_th {pins : List (Addr × Obj)} {σ : L2.St} {H : Hp} {s : Shared} {A : Around} {E : Value → Shared → Prop} {Q : Value → Shared → Prop} {x : V} {u : Value} {d : PyData} (I : Inv X pins σ H s) (h : Th X.K H x d) (rx : RelV x u) (q : ∀ tk, Q (.bool (tyD d == "str")) { s with toks := tk }) :
    wpAny (model X.prog X.w) A (call (.builtin "isinstance") [u, .type "str"]) Q E s := by
  have e := kit_str X.K d
  cases h with
  | dp hd =>
    cases hd with
    | non => cases (show u = Value.none from rx); exact PySem.W.kia_one PySem.W.kitx_none I.kIn True.intro e (fun z => nomatch z) q
    | bl y => cases (show u = Value.bool y from rx); exact PySem.W.kia_one PySem.W.kitx_bool I.kIn True.intro e (fun z => nomatch z) q
    | int i => obtain ⟨t, z⟩ := (show ∃ t, u = Value.int i t from rx); cases z; exact PySem.W.kia_one PySem.W.kitx_int I.kIn True.intro e (fun z => nomatch z) q
    | str y => obtain ⟨t, z⟩ := (show ∃ t, u = Value.str y t from rx); cases z; exact PySem.W.kia_one PySem.W.kitx_str I.kIn True.intro e (fun z => nomatch z) q
    | @lst a xs ds hs ha =>
      cases (show u = Value.ref a from rx)
      obtain ⟨its, _, ⟨o, _, ho, hc, _⟩, _⟩ := I.list hs
      exact PySem.W.kia_one PySem.W.kitx_list I.kIn ⟨o, ho, hc⟩ e (fun z => nomatch z) q
    | @tup a xs ds hs ha =>
      cases (show u = Value.ref a from rx)
      obtain ⟨its, _, ⟨o, ho, hc, _⟩, _⟩ := I.tuple hs
      exact PySem.W.kia_one PySem.W.kitx_tuple I.kIn ⟨o, ho, hc⟩ e (fun z => nomatch z) q
  | @dct a kis hr =>
    cases (show u = Value.ref a from rx)
    obtain ⟨_, _, vs, _, o, es, ep, h1, h2, _⟩ := dk_rd I.hok hr
    exact PySem.W.kia_one PySem.W.kitx_dict I.kIn ⟨o, h1, h2.1⟩ e (fun z => nomatch z) q
  | @lst a xs ds hs ha =>
    cases (show u = Value.ref a from rx)
    obtain ⟨its, _, ⟨o, _, ho, hc, _⟩, _⟩ := I.list hs
    exact PySem.W.kia_one PySem.W.kitx_list I.kIn ⟨o, ho, hc⟩ e (fun z => nomatch z) q
  | @tup a xs ds hs ha =>
    cases (show u = Value.ref a from rx)
    obtain ⟨its, _, ⟨o, ho, hc, _⟩, _⟩ := I.tuple hs
    exact PySem.W.kia_one PySem.W.kitx_tuple I.kIn ⟨o, ho, hc⟩ e (fun z => nomatch z) q
theorem cr_isStr : CallR X (.builtin "isinstance") (fun xs H Q => ∃ x d, xs = [x, .ty "str"] ∧ Th X.K H x d ∧ Q (.bl (tyD d == "str")) H) := by
  intro pins s σ H xs us Q I r h
  obtain ⟨x, d, rfl, ht, q⟩ := h
  cases r with
  | cons r1 r2 =>
    cases r2 with
    | cons r3 r4 =>
      cases r4
      cases r3
      exact isstr_th I ht r1 fun tk => ⟨.bl _, H, I.tok _, rfl, q⟩
end
def fmtV : V → Option Str
  | .int i => if i.natAbs.log2 < 1920 then some (Str.ofString (toString i)) else none
  | .str x => some x
  | _ => none
abbrev TF := Str → L2.St → Hp → (Str → Hp → Prop) → Prop
structure JF (X : Cx) (es : List Expr) (t : TF) : Prop where
  p : ∀ (pins : List (Addr × Obj)) (s : Shared) (σ : L2.St) (H : Hp) (out : Str) (Q : VK), Inv X pins σ H s → t out σ H (fun y H' => Q (.str y) H') → wpAny (model X.prog X.w) X.A (joinParts out (evalEach es X.env)) (EP X pins σ Q) X.xe s
def fNil : TF := fun out _ H Q => out.length ≤ sizeLine ∧ Q out H
def fCon (x : Str) (t : TF) : TF := fun out σ H Q => (out ++ x).length ≤ sizeLine ∧ t (out ++ x) σ H Q
def fVal (te : TE) (t : TF) : TF := fun out σ H Q => te σ H fun v H1 => ∃ y, fmtV v = some y ∧ y.length ≤ sizeLine ∧ (out ++ y).length ≤ sizeLine ∧ t (out ++ y) σ H1 Q
def tF (t : TF) : TE := fun σ H Q => t Str.empty σ H fun y H' => Q (.str y) H'
section
variable {X : Cx} {e : Expr} {es : List Expr} {te : TE} {t : TF} {pos : Pos}
theorem jf_nil : JF X [] fNil := ⟨fun pins s σ H out Q I h => by
  obtain ⟨h1, h2⟩ := h
  exact PyProof.Rows.joinParts_nil ⟨.str _, H, I.tok _, ⟨_, rfl⟩, h2⟩ h1⟩
theorem jf_con {x : Str} {j} (r : JF X es t) : JF X (.Constant (.str x) j pos :: es) (fCon x t) := ⟨fun pins s σ H out Q I h => by
  obtain ⟨h1, h2⟩ := h
  refine PyProof.Rows.joinParts_cons (wpAny_mono ((je_str (X := X) (x := x) (j := j) (pos := pos)).p pins s σ H (fun v H' => v = .str x ∧ H' = H) I ⟨rfl, rfl⟩) (fun v s1 ⟨y, H1, I1, r1, e1, e2⟩ => ?_) fun _ _ z => z)
  subst e1 e2
  obtain ⟨t1, rfl⟩ := r1
  exact ⟨h1, r.p pins s1 σ H1 _ Q I1 h2⟩⟩
theorem jf_val (he : JE X e te) (r : JF X es t) : JF X (.FormattedValue e (-1) none pos :: es) (fVal te t) := ⟨fun pins s σ H out Q I h => by
  refine PyProof.Rows.joinParts_cons (PyProof.Rows.FormattedValue_plain (wpAny_mono (he.p pins s σ H _ I h) (fun v s1 ⟨y, H1, I1, r1, z, hz, l1, l2, q⟩ => ?_) fun _ _ z => z))
  cases y with
  | int i =>
    obtain ⟨t1, rfl⟩ := r1
    have hz' : (if i.natAbs.log2 < 1920 then some (Str.ofString (toString i)) else none) = some z := hz
    by_cases c : i.natAbs.log2 < 1920
    · rw [if_pos c] at hz'
      cases hz'
      exact wpAny_formatField_int c ⟨l2, r.p pins _ σ H1 _ Q (I1.tok _) q⟩
    · rw [if_neg c] at hz'
      cases hz'
  | str x =>
    obtain ⟨t1, rfl⟩ := r1
    have hz' : some x = some z := hz
    cases hz'
    exact PyProof.Rows.formatField_str (fun t' tk => ⟨l2, r.p pins _ σ H1 _ Q (I1.tok _) q⟩) l1
  | _ => cases hz⟩
theorem je_f {v1 v2 : Expr} (h : JF X (v1 :: v2 :: es) t) : JE X (.JoinedStr (v1 :: v2 :: es) pos) (tF t) := ⟨fun pins s σ H Q I q => PyProof.Rows.JoinedStr_many (h.p pins s σ H Str.empty Q I q)⟩
end
end NT
set_option Elab.async false
set_option linter.all false
set_option maxRecDepth 100000
namespace NT
open PySem PySem.Spec PyProof.Rows L2 NP
def figs (w : Str) (m : Int) : Bool := Txt.isascii w && (Txt.isdigit w && (decide ((w.length : Int) ≤ m) && (decide (w = "0") || !Txt.startswith w "0")))
def valW (w : Str) : Int := (PySem.intText? w).getD 0
def numS (i : Int) : Str := Str.ofString (toString i)
theorem num_nat {i : Int} (h : 0 ≤ i) : TL.tl (numS i) = TL.numL i.toNat := by
  have e : i = ((i.toNat : Nat) : Int) := by omega
  unfold numS
  rw [e]
  exact TL.tl_num _
theorem num_free {i : Int} (h : 0 ≤ i) {s : Nat} (hs : s < 48 ∨ 57 < s) : s ∉ TL.tl (numS i) := by
  rw [num_nat h]
  exact TL.numL_free hs
theorem num_small : ∀ n : Fin 100, figs (numS ((n : Nat) : Int)) 2 = true ∧ PySem.intText? (numS ((n : Nat) : Int)) = some ((n : Nat) : Int) ∧ (numS ((n : Nat) : Int)).length ≤ 2 := by decide +kernel
theorem num_figs {i : Int} (h0 : 0 ≤ i) (h1 : i < 100) : figs (numS i) 2 = true ∧ valW (numS i) = i ∧ (numS i).length ≤ 2 := by
  have z := num_small ⟨i.toNat, by omega⟩
  have e : ((i.toNat : Nat) : Int) = i := by omega
  simp only [e] at z
  refine ⟨z.1, ?_, z.2.2⟩
  unfold valW
  rw [z.2.1]
  rfl
theorem dig_small : ∀ n : Fin 128, Unicode.isDigit n = true → 48 ≤ (n : Nat) ∧ (n : Nat) ≤ 57 := by decide +kernel
theorem figs_ascii {w : Str} {m : Int} (h : figs w m = true) : Txt.isascii w = true ∧ Txt.isdigit w = true ∧ (w.length : Int) ≤ m := by
  unfold figs at h
  rw [Bool.and_eq_true, Bool.and_eq_true, Bool.and_eq_true] at h
  exact ⟨h.1, h.2.1, of_decide_eq_true h.2.2.1⟩
theorem figs_digits {w : Str} {m : Int} (h : figs w m = true) : NumText.AllDigits (TL.tl w) ∧ TL.tl w ≠ [] := by
  obtain ⟨h1, h2, _⟩ := figs_ascii h
  unfold Txt.isascii at h1
  unfold Txt.isdigit at h2
  rw [Bool.and_eq_true] at h2
  refine ⟨fun c hc => ?_, fun z => ?_⟩
  · have c1 : c < 128 := by
      have := (Array.all_eq_true'.mp h1) c (by simpa using hc)
      simpa using this
    have c2 : Unicode.isDigit c = true := (Array.all_eq_true'.mp h2.2) c (by simpa using hc)
    exact dig_small ⟨c, c1⟩ c2
  · have := h2.1
    rw [decide_eq_true_eq, TL.len_tl, z] at this
    exact absurd this (by simp)
theorem figs_int {w : Str} {m : Int} (h : figs w m = true) (hm : m ≤ 9) : PySem.intText? w = some (valW w) ∧ w.length ≤ 9 := by
  obtain ⟨a, b⟩ := figs_digits h
  obtain ⟨_, _, c⟩ := figs_ascii h
  have l : w.length ≤ 9 := by omega
  refine ⟨?_, l⟩
  have e := PySem.intText_digits a b (by omega)
  unfold valW
  rw [e]
  rfl
theorem join_len {ys : List Str} {b : Nat} (h : ∀ y ∈ ys, y.length ≤ b) : (ys.map (·.length)).sum ≤ b * ys.length := by
  induction ys with
  | nil => exact Nat.zero_le _
  | cons y ys ih =>
    have := ih fun z hz => h z (List.mem_cons_of_mem _ hz)
    have h1 := h y (List.mem_cons_self ..)
    rw [List.map_cons, List.sum_cons, List.length_cons, Nat.mul_succ]
    omega
theorem joinL_len (S : List Nat) : ∀ ps : List (List Nat), (TL.joinL S ps).length ≤ (ps.map (·.length)).sum + ps.length * S.length
  | [] => Nat.zero_le _
  | [p] => by
    show p.length ≤ _
    simp only [List.map_cons, List.map_nil, List.sum_cons, List.sum_nil]
    omega
  | p :: q :: r => by
    have ih := joinL_len S (q :: r)
    show (p ++ (S ++ TL.joinL S (q :: r))).length ≤ _
    rw [List.length_append, List.length_append, List.map_cons, List.sum_cons, List.length_cons, Nat.succ_mul]
    omega
def digS : Str := "0123456789"
def lawW (i : Int) : Str := (if i > 9 then (⟨#[48 + (i / 10).toNat]⟩ : Str) else "") ++ ⟨#[48 + (i % 10).toNat]⟩
theorem lawW_small : ∀ n : Fin 100, lawW ((n : Nat) : Int) = numS ((n : Nat) : Int) := by decide +kernel
theorem lawW_num {i : Int} (h0 : 0 ≤ i) (h1 : i < 100) : lawW i = numS i := by
  have z := lawW_small ⟨i.toNat, by omega⟩
  have e : ((i.toNat : Nat) : Int) = i := by omega
  simp only [e] at z
  exact z
theorem digS_at : ∀ d : Fin 10, digS.cps.toList[(d : Nat)]? = some (48 + (d : Nat)) := by decide +kernel
theorem dig_at {k : Int} (h0 : 0 ≤ k) (h1 : k < 10) : atI digS.cps.toList k = some (48 + k.toNat) := by
  have e : k = ((k.toNat : Nat) : Int) := by omega
  rw [e]
  refine atI_nat ?_
  rw [Int.toNat_natCast]
  exact digS_at ⟨k.toNat, by omega⟩
end NT
set_option Elab.async false
set_option linter.all false
set_option maxRecDepth 100000
namespace NT
open PySem PySem.Spec PyProof.Rows L2 NP
def spFig : Sp := fun vs H Q _ => ∃ (w : Str) (m : Int), vs = [.str w, .int m] ∧ w.length ≤ sizeLine ∧ Q (.bl (figs w m)) H
def spCkW : Sp := fun vs H Q _ => vs = [.bl true] ∧ Q .non H
def partsOf (t b : Str) : List Str := if t = "none" then [] else Txt.split t b
def spParts : Sp := fun vs H Q _ => ∃ t b : Str, vs = [.str t, .str b] ∧ (b.length == 0) = false ∧ t.length + 2 ≤ sizeLine ∧ ∀ p H', Same H H' → H p = none → H' p = some (.lst ((partsOf t b).map V.str)) → Q (.ref p) H'
def spReadN (K : PySem.W.Frag) (T : Addr) : Sp := fun vs H Q _ => ∃ (a : Addr) (ws : List Str), vs = [.ref a] ∧ SqL K H a (ws.map V.str) ∧ ws.length ≤ 1000 ∧ (∀ w ∈ ws, figs w 2 = true) ∧ H T = some (TabP T) ∧ ∀ p H', Same H H' → H p = none → H' p = some (.lst ((ws.map valW).map V.int)) → Q (.ref p) H'
end NT
set_option Elab.async false
set_option linter.all false
set_option maxRecDepth 100000
namespace NT
open PySem PySem.Spec PyProof.Rows L2 NP
section
variable {X : Cx} {pins : List (Addr × Obj)} {σ : L2.St} {H : Hp} {s : Shared} {A : Around} {E : Value → Shared → Prop}
theorem tys_vals {t1 t2 : String} {its : List Value} (h : Vals [V.ty t1, V.ty t2] its) : its = [.type t1, .type t2] := by
  obtain ⟨u0, u1, rfl, r0, r1⟩ := L2.vals2 h
  cases r0
  cases r1
  rfl
theorem isiT_dp {Q : Value → Shared → Prop} {x : V} {u : Value} {d : PyData} {tp : Addr} (I : L2.Inv X pins σ H s) (h : Dp X.K H x d) (rx : RelV x u) (ht : H tp = some (.tup [.ty "tuple", .ty "list"])) (q : ∀ tk, Q (.bool (isi (tyD d) "tuple" || isi (tyD d) "list")) { s with toks := tk }) :
    wpAny (model X.prog X.w) A (call (.builtin "isinstance") [u, .ref tp]) Q E s := by
  have e : PySem.W.kitAny X.K (.type (tyD d)) [.type "tuple", .type "list"] = some (isi (tyD d) "tuple" || isi (tyD d) "list") := by
    cases d <;> first | rfl | (with_unfolding_all rfl) | decide +kernel
  obtain ⟨_, its, rv, ⟨cls, dd, data, sl⟩, ho, hc, n, hd⟩ := I.hok tp _ ht
  simp only at hc hd
  subst hc hd
  rw [tys_vals rv] at ho
  cases h with
  | non => cases (show u = Value.none from rx); exact PySem.W.kia_tup PySem.W.kitx_none I.kIn True.intro ho e (fun z => nomatch z) q
  | bl y => cases (show u = Value.bool y from rx); exact PySem.W.kia_tup PySem.W.kitx_bool I.kIn True.intro ho e (fun z => nomatch z) q
  | int i => obtain ⟨t, z⟩ := (show ∃ t, u = Value.int i t from rx); cases z; exact PySem.W.kia_tup PySem.W.kitx_int I.kIn True.intro ho e (fun z => nomatch z) q
  | str y => obtain ⟨t, z⟩ := (show ∃ t, u = Value.str y t from rx); cases z; exact PySem.W.kia_tup PySem.W.kitx_str I.kIn True.intro ho e (fun z => nomatch z) q
  | @lst a xs ds hs ha =>
    cases (show u = Value.ref a from rx)
    obtain ⟨its, _, ⟨o, _, ho', hc, _⟩, _⟩ := I.list hs
    exact PySem.W.kia_tup PySem.W.kitx_list I.kIn ⟨o, ho', hc⟩ ho e (fun z => nomatch z) q
  | @tup a xs ds hs ha =>
    cases (show u = Value.ref a from rx)
    obtain ⟨its, _, ⟨o, ho', hc, _⟩, _⟩ := I.tuple hs
    exact PySem.W.kia_tup PySem.W.kitx_tuple I.kIn ⟨o, ho', hc⟩ ho e (fun z => nomatch z) q
theorem cr_isinstT : CallR X (.builtin "isinstance") (fun xs H Q => ∃ x tp d, xs = [x, .ref tp] ∧ H tp = some (.tup [.ty "tuple", .ty "list"]) ∧ Dp X.K H x d ∧ Q (.bl (isi (tyD d) "tuple" || isi (tyD d) "list")) H) := by
  intro pins s σ H xs us Q I r h
  obtain ⟨x, tp, d, rfl, ht, hd, q⟩ := h
  obtain ⟨u0, u1, rfl, r0, r1⟩ := L2.vals2 r
  cases r1
  exact isiT_dp I hd r0 ht fun tk => ⟨.bl _, H, I.tok _, rfl, q⟩
end
theorem ix_listK {X : Cx} {K : PySem.W.Frag} (hK : X.K = K) : IxR X (rIxL K) := by subst hK; exact ix_list
theorem ix_tupK {X : Cx} {K : PySem.W.Frag} (hK : X.K = K) : IxR X (rIxT K) := by subst hK; exact ix_tup
def spWell2 : Sp := fun vs H Q _ => ∃ c : Int, vs = [.int c] ∧ ∀ (z y : Int) (p : Addr) (H' : Hp), Same H H' → H' p = some (.lst [.int z, .int y]) → H p = none → Q (.ref p) H'
def spDraw2 : Sp := fun vs H Q _ => ∃ (p : Addr) (z y m : Int), vs = [.ref p, .int m] ∧ H p = some (.lst [.int z, .int y]) ∧ 0 < m ∧ m < 1073741824 ∧
  ∀ (r z' y' : Int) (H' : Hp), 0 ≤ r → r < m → (∀ b o, b ≠ p → H b = some o → H' b = some o) → H' p = some (.lst [.int z', .int y']) → Q (.int r) H'
end NT
set_option Elab.async false
set_option linter.all false
set_option maxRecDepth 100000
namespace NN
open PySem PySem.Spec PyProof.Rows L2 NP
/-- the rule of a def that makes generators, where its code's address is known -/
theorem fnBC {P : Program} {w : World} {K : PySem.W.Frag} {mg : Str → Option Value} {base : Heap} {x qual : Str} {st : Stmt} {f c : Addr} {fd : FuncData} {N ps : List Str} {k : Nat} {sp : Sp} (F : Fun K x qual st f fd) (S : FnScope N ps (defScope st)) (hc : fd.code = .ref c) (len : ∀ vs H Q E, sp vs H Q E → vs.length = ps.length)
    (hbody : ∀ (A : Around) (outer : List Env) (s : Shared) (H : Hp) (vs : List V) (Q : VK) (E : XK) (gp : Array GenState → Drawn → Prop), PB gp → Room k (A.deeper (envOfC qual (defScope st) s.heap.objs.size f (.ref c))) → sp vs H Q E →
      ∃ t, JB (cxOf CX0 P w K mg base N qual (defScope st) f (.ref c) A outer s H E gp).nox (defBody st) t ∧ t { nx := fun _ H' => Q .non H', rt := Q } (L2.start N vs) H) : FnOkB P w K mg base (k + 1) f fd ps sp := by
  refine fnBx (c := c) F S hc len ?_
  exact hbody
end NN
namespace NV
open PySem PySem.Spec PyProof.Rows L2 NP NT
section
variable {P : Program} {w : World} {K : PySem.W.Frag} {H : Hp} {s : Shared} {A : Around} {E : Value → Shared → Prop} {env : Env}
theorem qa_free {x : Str} {v : V} {u : Value} {kl : Addr} {p1 : Pos} (hk : env.scope.kind = .function) (h1 : env.kindOf x = some .free) (c1 : env.cells.lookup x = some kl) (i1 : s.heap.IsCell kl (some u)) (r1 : RelV v u) (hd : (x == ("__debug__" : Str)) = false := by decide) (hcd : (x == ("__classdict__" : Str)) = false := by decide) :
    QA (model P w) A E env s (.Name x p1) v := fun tk => wpAny_Name (wpAny_loadName_free hk h1 (s := { s with toks := tk }) c1 i1 ⟨r1, tk, rfl⟩ hcd) hd
end
abbrev Wsh := Bool × Int × Int
def wordS (b : Bool) : Str := if b then "at" else "not"
def wshV (q : Wsh) : List V := [.str (wordS q.1), .int q.2.1, .int q.2.2]
def wshD (q : Wsh) : PyData := .tuple [.str (wordS q.1), .int q.2.1, .int q.2.2]
structure OkW (m : Int) (q : Wsh) : Prop where
  t0 : 0 ≤ q.2.1
  t1 : q.2.1 ≤ m
  p0 : 0 ≤ q.2.2
  p1 : q.2.2 ≤ m
structure WsAt (K : PySem.W.Frag) (H : Hp) (a : Addr) (ws : List (Wsh × Addr)) : Prop where
  at_ : SqL K H a (ws.map fun q => V.ref q.2)
  each : ∀ q ∈ ws, SqT K H q.2 (wshV q.1)
theorem WsAt.le {K : PySem.W.Frag} {H H' : Hp} {a : Addr} {ws : List (Wsh × Addr)} (h : WsAt K H a ws) (e : RdLe H H') : WsAt K H' a ws := ⟨le_seqL e h.at_, fun q hq => le_seqT e (h.each q hq)⟩
theorem WsAt.same {K : PySem.W.Frag} {H H' : Hp} {a : Addr} {ws : List (Wsh × Addr)} (h : WsAt K H a ws) (e : Same H H') : WsAt K H' a ws := h.le (le_same e)
def spIsWish (K : PySem.W.Frag) (T : Addr) : Sp := fun vs H Q _ => ∃ (a : Addr) (m : Int) (q : Wsh), vs = [.ref a, .int m] ∧ SqT K H a (wshV q) ∧ OkW m q ∧ H T = some (TabP T) ∧ ∀ H', Same H H' → Q (.bl true) H'
def spIsWishes (K : PySem.W.Frag) (T T2 : Addr) : Sp := fun vs H Q _ => ∃ (a : Addr) (m : Int) (ws : List (Wsh × Addr)), vs = [.ref a, .int m] ∧ WsAt K H a ws ∧ ws.length ≤ 60 ∧ (∀ q ∈ ws, OkW m q.1) ∧ T ≠ T2 ∧ H T = some (TabP T) ∧ H T2 = some (TabP T2) ∧ ∀ H', Same H H' → Q (.bl true) H'
def spCkWishes (K : PySem.W.Frag) (T T2 : Addr) : Sp := fun vs H Q _ => ∃ (a : Addr) (m : Int) (ws : List (Wsh × Addr)), vs = [.ref a, .int m] ∧ WsAt K H a ws ∧ ws.length ≤ 60 ∧ (∀ q ∈ ws, OkW m q.1) ∧ T ≠ T2 ∧ H T = some (TabP T) ∧ H T2 = some (TabP T2) ∧ ∀ H', Same H H' → Q .non H'
end NV
set_option Elab.async false
set_option linter.all false
set_option maxRecDepth 100000
namespace K49
open PySem PySem.Spec PyProof.Rows L2 NP
def top (i : Nat) : Stmt := PySem.Challenge.pw_nearplace_k49_wishes_written.main.body.getD i (.Pass ⟨0, 0, 0, 0⟩)
abbrev sWhole : Stmt := top 5
abbrev sBetw : Stmt := top 6
abbrev sIsWish : Stmt := top 11
abbrev sIsWishes : Stmt := top 12
abbrev sCkWishes : Stmt := top 13
abbrev sFig : Stmt := top 18
abbrev sWText : Stmt := top 19
abbrev sWsText : Stmt := top 20
abbrev sCkW : Stmt := top 21
abbrev sParts : Stmt := top 22
abbrev sReadN : Stmt := top 23
abbrev sReadW : Stmt := top 24
abbrev sReadWs : Stmt := top 25
abbrev sWell : Stmt := top 27
abbrev sDraw : Stmt := top 28
abbrev sLWs : Stmt := top 29
abbrev sSame : Stmt := top 30
abbrev sLNum : Stmt := top 31
abbrev sLWr : Stmt := top 32
abbrev sLaw : Stmt := top 33
section
variable {P : Program} {w : World} {K : PySem.W.Frag} {mg : Str → Option Value} {base : Heap} {f g : Addr} {fd gd : FuncData}
theorem scWhole : FnScope ["thing"] ["thing"] (defScope sWhole) := ⟨rfl, rfl, rfl, by decide +kernel, rfl, by decide +kernel, by decide +kernel⟩
theorem ok_whole (F : Fun K "is_whole" "is_whole" sWhole f fd) (M : Mg mg) : FnOk P w K mg base CX0 1 f fd ["thing"] (spWhole K) := by
  refine F.ok scWhole (fun vs H Q E h => ?_) (fun cdv A outer s H vs Q E gp hcl hr h => ?_)
  · obtain ⟨x, d, rfl, _⟩ := h
    rfl
  obtain ⟨x, d, rfl, ht, q⟩ := h
  refine ⟨_, pss_one (ps_ret (pe_and (pe_callB cr_isinst (by rfl) M.isi (by decide +kernel) (pa_cons (pv 0) (pa_cons (pe_ty (n := "int") (by rfl) M.int (by decide +kernel)) pa_nil)))
    (pe_one (pe_not (pe_callB cr_isinst (by rfl) M.isi (by decide +kernel) (pa_cons (pv 0) (pa_cons (pe_ty (n := "bool") (by rfl) M.bool (by decide +kernel)) pa_nil))))))), ?_⟩
  refine ⟨_, rfl, x, "int", d, rfl, ht, .inl rfl, _, rfl, ?_⟩
  cases d with
  | int i => exact itT rfl ⟨_, rfl, x, "bool", _, rfl, ht, .inr (.inl rfl), _, rfl, q⟩
  | bool b => exact itT rfl ⟨_, rfl, x, "bool", _, rfl, ht, .inr (.inl rfl), _, rfl, q⟩
  | none => exact itF rfl q
  | str y => exact itF rfl q
  | list ds => exact itF rfl q
  | tuple ds => exact itF rfl q
  | dict kvs => exact itF rfl q
theorem scBetw : FnScope ["thing", "least", "most"] ["thing", "least", "most"] (defScope sBetw) := ⟨rfl, rfl, rfl, by decide +kernel, rfl, by decide +kernel, by decide +kernel⟩
theorem ok_betw (F : Fun K "is_whole_between" "is_whole_between" sBetw f fd) (G : FnOk P w K mg base CX0 1 g gd ["thing"] (spWhole K)) (bG : Binds K gd ["thing"] []) (kG : PySem.W.keepIn K (.ref g) = true) (mG : mg "is_whole" = some (.ref g)) :
    FnOk P w K mg base CX0 2 f fd ["thing", "least", "most"] (spBetw K) := by
  refine F.ok scBetw (fun vs H Q E h => ?_) (fun cdv A outer s H vs Q E gp hcl hr h => ?_)
  · obtain ⟨x, d, lo, hi, rfl, _⟩ := h
    rfl
  obtain ⟨x, d, lo, hi, rfl, ht, q⟩ := h
  refine ⟨_, pss_one (ps_ret (pe_and (pe_call G hr rfl mG kG bG .nil pass0 (pa_cons (pv 0) pa_nil)) (pe_one (pe_chain op_le op_le (pv 1) (pv 0) (pv 2))))), ?_⟩
  refine ⟨_, rfl, x, d, rfl, ht, _, rfl, ?_⟩
  cases d with
  | int i =>
    have ex : x = .int i := by cases ht with | dp h => cases h; rfl
    subst ex
    refine itT rfl ?_
    refine ⟨_, rfl, _, rfl, lo, i, rfl, rfl, _, rfl, ?_⟩
    have q' : Q (.bl (decide (lo ≤ i) && decide (i ≤ hi))) H := q
    by_cases c : lo ≤ i
    · refine itT (decide_eq_true c) ⟨_, rfl, i, hi, rfl, rfl, ?_⟩
      rw [decide_eq_true c, Bool.true_and] at q'
      exact q'
    · refine itF (decide_eq_false c) ?_
      rw [decide_eq_false c, Bool.false_and] at q'
      exact q'
  | bool b => exact itF rfl q
  | none => exact itF rfl q
  | str y => exact itF rfl q
  | list ds => exact itF rfl q
  | tuple ds => exact itF rfl q
  | dict kvs => exact itF rfl q
end
end K49
set_option Elab.async false
set_option linter.all false
set_option maxRecDepth 100000
namespace K49
open PySem PySem.Spec PyProof.Rows L2 NP NT NV
section
variable {P : Program} {w : World} {K : PySem.W.Frag} {mg : Str → Option Value} {base : Heap} {f g : Addr} {fd gd : FuncData}
theorem scFig : FnScope ["word", "most"] ["word", "most"] (defScope sFig) := ⟨rfl, rfl, rfl, by decide +kernel, rfl, by decide +kernel, by decide +kernel⟩
theorem ok_fig (F : Fun K "is_figures" "is_figures" sFig f fd) (M : Mg mg) : FnOk P w K mg base CX0 1 f fd ["word", "most"] spFig := by
  refine fnJ F scFig (fun vs H Q E h => ?_) (fun cdv A outer s H vs Q E gp hcl hr h => ?_)
  · obtain ⟨w, m, rfl, _⟩ := h
    rfl
  obtain ⟨w, m, rfl, hz, q⟩ := h
  refine ⟨_, jb_cons (js_if (jt_w (jw_or (jt_not (jt_val (je_m0 PySem.F.slot_str_isascii PySem.F.type_str_isascii mt_isascii (jv 0))))
      (jw_or (jt_not (jt_val (je_m0 PySem.F.slot_str_isdigit PySem.F.type_str_isdigit mt_isdigit (jv 0))))
      (jw_or1 (jt_cmp op_gt (je_callB call_len_str rfl M.len PySem.boot_len (jn (jv 0) ja0)) (jv 1) (nomark _)))))) (jb_one (js_ret je_bl)) jb_nil)
    (jb_one (js_ret (je_or (je_cmp op_eq (jv 0) je_str (nomark _)) (je_one (je_not (je_m1 PySem.F.slot_str_startswith PySem.F.type_str_startswith mt_startswith (jv 0) je_str)))))), ?_⟩
  unfold figs at q
  refine ⟨_, rfl, ⟨_, rfl⟩, w, rfl, rfl, trivial, _, rfl, ?_⟩
  cases h1 : Txt.isascii w with
  | false => rw [h1] at q; exact itT rfl (itT rfl q)
  | true =>
    rw [h1, Bool.true_and] at q
    refine itF rfl ⟨_, rfl, ⟨_, rfl⟩, w, rfl, rfl, trivial, _, rfl, ?_⟩
    cases h2 : Txt.isdigit w with
    | false => rw [h2] at q; exact itT rfl (itT rfl q)
    | true =>
      rw [h2, Bool.true_and] at q
      refine itF rfl ⟨_, rfl, w, rfl, hz, _, rfl, _, _, rfl, rfl, _, rfl, ?_⟩
      by_cases h3 : (w.length : Int) ≤ m
      · rw [decide_eq_true h3, Bool.true_and] at q
        refine itF (decide_eq_false (by omega)) ⟨_, rfl, rfl, _, rfl, ?_⟩
        have e0 : decide (V.str w = V.str "0") = decide (w = "0") := by
          rw [Bool.eq_iff_iff]
          simp
        rw [e0]
        cases h4 : decide (w = "0") with
        | true =>
          rw [h4] at q
          exact itT rfl q
        | false =>
          rw [h4, Bool.false_or] at q
          exact itF rfl ⟨_, rfl, ⟨_, rfl⟩, _, _, rfl, rfl, _, rfl, q⟩
      · rw [decide_eq_false h3] at q
        exact itT (decide_eq_true (by omega)) q
theorem scCkW : FnScope ["writes"] ["writes"] (defScope sCkW) := ⟨rfl, rfl, rfl, by decide +kernel, rfl, by decide +kernel, by decide +kernel⟩
theorem ok_ckW (F : Fun K "check_writes" "check_writes" sCkW f fd) : FnOk P w K mg base CX0 1 f fd ["writes"] spCkW := by
  refine fnJ F scCkW (fun vs H Q E h => ?_) (fun cdv A outer s H vs Q E gp hcl hr h => ?_)
  · obtain ⟨rfl, _⟩ := h
    rfl
  obtain ⟨rfl, q⟩ := h
  refine ⟨_, jb_one (js_if (jt_not (NT.jt_truth (jv 0))) jb_never jb_nil), ?_⟩
  exact ⟨_, rfl, true, rfl, itF rfl q⟩
theorem scParts : FnScope ["text", "between"] ["text", "between"] (defScope sParts) := ⟨rfl, rfl, rfl, by decide +kernel, rfl, by decide +kernel, by decide +kernel⟩
theorem ok_parts {tn : Tok} (F : Fun K "parts_of" "parts_of" sParts f fd) (mn : mg "NOTHING" = some (.str "none" tn)) : FnOk P w K mg base CX0 1 f fd ["text", "between"] spParts := by
  refine fnJ F scParts (fun vs H Q E h => ?_) (fun cdv A outer s H vs Q E gp hcl hr h => ?_)
  · obtain ⟨t, b, rfl, _⟩ := h
    rfl
  obtain ⟨t, b, rfl, hb, ht, q⟩ := h
  refine ⟨_, jb_one (js_ret (je_if (jt_cmp op_eq (jv 0) (je_glob (v := .str "none") rfl mn ⟨tn, rfl⟩) (nomark _)) (je_lst ja0) (je_m1 PySem.F.slot_str_split PySem.F.type_str_split mt_split (jv 0) (jv 1)))), ?_⟩
  refine ⟨_, rfl, rfl, _, rfl, ?_⟩
  unfold partsOf at q
  by_cases z : t = "none"
  · subst z
    refine itT (by simp) ⟨(by show 0 ≤ sizeLine; decide), alloc fun p H' e1 e2 e3 => ?_⟩
    exact q p H' e1 e3 (by rw [if_pos rfl]; exact e2)
  · refine itF (by simp [z]) ⟨_, rfl, ⟨_, rfl⟩, _, rfl, t, b, rfl, rfl, hb, ht, alloc fun p H' e1 e2 e3 => ?_⟩
    exact q p H' e1 e3 (by rw [if_neg z]; exact e2)
theorem scReadN : FnScope ["words", "word"] ["words"] (defScope sReadN) := ⟨rfl, rfl, rfl, by decide +kernel, rfl, by decide +kernel, by decide +kernel⟩
theorem ok_readN {c T gC : Addr} {dC : FuncData} {t2 : Tok} (F : Fun K "read_numbers" "read_numbers" sReadN f fd) (hcd : fd.code = .ref c) (hcb : CodeB base mg c T) (M : Mg mg) (m2 : mg "MOST_FIGURES" = some (.int 2 t2))
    (G : FnOk P w K mg base CX0 1 g gd ["word", "most"] spFig) (bG : Binds K gd ["word", "most"] []) (kG : PySem.W.keepIn K (.ref g) = true) (mG : mg "is_figures" = some (.ref g))
    (C : FnOk P w K mg base CX0 1 gC dC ["writes"] spCkW) (bC : Binds K dC ["writes"] []) (kC : PySem.W.keepIn K (.ref gC) = true) (mC : mg "check_writes" = some (.ref gC)) : FnOk P w K mg base CX0 13 f fd ["words"] (spReadN K T) := by
  refine F.okC scReadN hcd (fun vs H Q E h => ?_) (fun A outer s H vs Q E gp hcl hr h => ?_)
  · obtain ⟨a, ws, rfl, _⟩ := h
    rfl
  obtain ⟨a, ws, rfl, hS, hn, hf, hT, q⟩ := h
  have hr1 : Room 1 _ := hr.mono (by decide)
  have jj : JB (cxOf CX0 P w K mg base ["words", "word"] "read_numbers" (defScope sReadN) f (.ref c) A outer s H E gp).nox (defBody sReadN) _ := jb_cons (js_expr (je_call C hr1 rfl mC kC bC .nil pass0 (jCa ⟨pe_allGen (T := T) (x := "word") (R := fun H y b => ∃ w : Str, y = .str w ∧ w.length ≤ sizeLine ∧ b = figs w 2) M.all (by rfl) (hcl (by decide)) rfl hr.depth (pv 0) rfl hcb
      (fun H H' y b le h => h)
      (fun code C A' E' s2 m2' H y v b hA hd hu qs hn hm rv ⟨w, h1, h2, h3⟩ => thn (q_call (r := .bl b) G (by decide) bG qs (room_gen hr hA hd hu (by decide)) rfl rfl rfl mG kG (qas_cons (qa_loc rfl rfl hn hm rv) (qas_cons (qa_glob (v := .int 2) rfl rfl rfl qs m2 ⟨t2, rfl⟩) qas_nil))
        ⟨w, 2, by rw [h1], h2, by rw [← h3]⟩) fun u s3 hq => hq)⟩ ja0)))
    (jb_one (js_ret (je_lc (own := [("word", 1)]) (g := gName 1) rfl scReadN.nd (ji_list (jv 0)) (blkOk_by (own := [("word", 1)]) (N := ["words", "word"]) (sc := defScope sReadN) (by decide +kernel))
      (fun _ _ _ _ _ => jg_name (i := 1) scReadN.nd rfl (Or.inl rfl)) (fun _ _ _ _ _ => jts_nil)
      (fun _ _ _ _ _ => je_callTy call_int_str (by rfl) M.int (by decide +kernel) (jn (jv 1) ja0)))))
  refine ⟨_, jj.p, ?_⟩
  refine ⟨_, rfl, a, _, ws.map (fun _ => true), rfl, .inr hS, hT, by rw [List.length_map, List.length_map], fun i y e => ?_, ?_⟩
  · rw [List.getElem?_map] at e
    obtain ⟨k, ek, rfl⟩ := Option.map_eq_some_iff.mp e
    have fk := hf k (List.mem_of_getElem? ek)
    have lk := (figs_ascii fk).2.2
    refine ⟨true, by rw [List.getElem?_map, ek]; rfl, k, rfl, Nat.le_trans (show k.length ≤ 2 by omega) (by decide), fk.symm⟩
  have al : (ws.map (fun _ => true)).all id = true := by simp
  rw [al]
  refine ⟨rfl, ?_⟩
  refine ⟨_, rfl, a, rfl, ⟨_, hS⟩, fun D nD => ?_⟩
  refine lc_list (K := K) (a := a) (xs := ws.map V.str) (fun i H' => Same H H' ∧ H' D = some (.lst (((ws.take i).map valW).map V.int))) ⟨same_new nD _, upd_same⟩ (fun i H' _ ⟨s, _⟩ => s.seq hS) ?_ ?_
  · rintro i x H2 hx ⟨s2, g2⟩
    rw [List.getElem?_map] at hx
    obtain ⟨k, hk, rfl⟩ := Option.map_eq_some_iff.mp hx
    have hi := (List.getElem?_eq_some_iff.mp hk).1
    have fk := figs_int (hf k (List.mem_of_getElem? hk)) (by decide)
    refine ⟨rfl, _, rfl, k, _, rfl, fk.1, by omega, _, g2, ?_, ?_, ?_⟩
    · rw [List.length_map, List.length_map, List.length_take]
      exact Nat.lt_of_le_of_lt (show min i ws.length ≤ 1000 by omega) (by decide)
    · intro b o h
      rw [upd_ne (ne_of_none h nD)]
      exact s2 _ _ h
    · rw [upd_same, List.take_add_one, hk, List.map_append, List.map_append]
      rfl
  · rintro H2 ⟨s2, g2⟩
    rw [List.length_map, List.take_length] at g2
    exact q D H2 s2 nD g2
theorem scWell : FnScope ["cell"] ["cell"] (defScope sWell) := ⟨rfl, rfl, rfl, by decide +kernel, rfl, by decide +kernel, by decide +kernel⟩
theorem ok_well (F : Fun K "_law_well" "_law_well" sWell f fd) : FnOk P w K mg base CX0 1 f fd ["cell"] NP.spWell2 := by
  refine fnJ F scWell (fun vs H Q E h => ?_) (fun cdv A outer s H vs Q E gp hcl hr h => ?_)
  · obtain ⟨c, rfl, _⟩ := h
    rfl
  obtain ⟨c, rfl, q⟩ := h
  refine ⟨_, jb_cons (js_if (jt_cmp op_ge (jv 0) (je_op op_pow je_int je_int) (nomark _)) (jb_one (js_ret (je_lst (jn (jv 0) (jBi (je_op op_mod (jv 0) je_int) ja0))))) jb_nil)
    (jb_one (js_ret (je_lst (ji_ (jBi (je_op op_mod (jv 0) je_int) ja0))))), ?_⟩
  refine ⟨_, rfl, _, _, rfl, rfl, ⟨by decide, by decide, by decide⟩, _, _, rfl, rfl, _, rfl, ?_⟩
  refine ite2 (fun c0 => ?_) (fun c0 => ?_)
  · exact ⟨_, rfl, _, rfl, _, _, rfl, rfl, (show (0 : Int) < 2147483629 by decide), (by show 2 ≤ sizeLine; decide), alloc fun p H' e1 e2 e3 => q _ _ p H' e1 e2 e3⟩
  · exact ⟨_, rfl, _, _, rfl, rfl, (show (0 : Int) < 2147483629 by decide), (by show 2 ≤ sizeLine; decide), alloc fun p H' e1 e2 e3 => q _ _ p H' e1 e2 e3⟩
theorem scDraw : FnScope ["well", "many", "got", "stirred"] ["well", "many"] (defScope sDraw) := ⟨rfl, rfl, rfl, by decide +kernel, rfl, by decide +kernel, by decide +kernel⟩
theorem ok_draw (F : Fun K "_law_draw" "_law_draw" sDraw f fd) : FnOk P w K mg base CX0 1 f fd ["well", "many"] NP.spDraw2 := by
  refine fnJ F scDraw (fun vs H Q E h => ?_) (fun cdv A outer s H vs Q E gp hcl hr h => ?_)
  · obtain ⟨p, z, y, m, rfl, _⟩ := h
    rfl
  obtain ⟨p, z, y, m, rfl, hw, m0, m1, q⟩ := h
  refine ⟨_, jb_cons (js_if (jt_cmp op_gt (je_ix ix_list (jv 0) je_int (fun _ _ => rfl)) je_int (nomark _))
      (jb_cons (js_set (i := 2) scDraw.nd rfl (Or.inl rfl) (je_op op_mod (je_ix ix_list (jv 0) je_int (fun _ _ => rfl)) (jv 1)))
      (jb_cons (js_asg (je_op op_fdiv (je_ix ix_list (jv 0) je_int (fun _ _ => rfl)) (jv 1)) (jg_sub (jv 0) je_int set_list))
      (jb_one (js_ret (jv 2))))) jb_nil)
    (jb_cons (js_set (i := 3) scDraw.nd rfl (Or.inl rfl) (je_op op_mod (je_op op_add (je_op op_mul (je_ix ix_list (jv 0) je_int (fun _ _ => rfl)) je_int) je_int) je_int))
    (jb_cons (js_set (i := 3) scDraw.nd rfl (Or.inl rfl) (je_op op_mod (je_op op_mul (jv 3) (jv 3)) je_int))
    (jb_cons (js_asg (je_op op_mod (je_op op_add (je_op op_mul (jv 3) je_int) je_int) je_int) (jg_sub (jv 0) je_int set_list))
    (jb_one (js_ret (je_op op_mod (je_op op_fdiv (je_ix ix_list (jv 0) je_int (fun _ _ => rfl)) je_int) (jv 1))))))), ?_⟩
  have ix : ∀ (a b : V) (i : Nat) (v : V), ([a, b] : List V)[i]? = some v → atI [a, b] ((i : Nat) : Int) = some v := fun a b i v h => atI_nat h
  have two : (2 : Int) ^ 64 = 18446744073709551616 := by decide
  have cm : ∀ (a b : Int), -1000000000000 < b → b < 1000000000000 → CMul a b := fun a b h1 h2 => .inr ⟨by rw [two]; omega, by rw [two]; omega⟩
  refine ⟨_, rfl, p, _, 0, .int z, rfl, rfl, SqL.of hw, ix _ _ 0 _ rfl, _, _, rfl, rfl, _, rfl, ?_⟩
  refine ite2 (fun c0 => ?_) (fun c0 => ?_)
  · refine ⟨_, rfl, p, _, 0, .int z, rfl, rfl, SqL.of hw, ix _ _ 0 _ rfl, _, rfl, _, _, rfl, rfl, m0, ?_⟩
    refine ⟨_, rfl, p, _, 0, .int z, rfl, rfl, SqL.of hw, ix _ _ 0 _ rfl, _, rfl, _, _, rfl, rfl, ⟨m0, m1⟩, _, rfl, p, _, 0, 0, rfl, rfl, hw, rfl, _, rfl, ?_⟩
    have e := emod_range (a := z) m0
    exact q _ _ _ _ e.1 e.2 (fun b o nb h => by rw [upd_ne nb]; exact h) upd_same
  · refine ⟨_, rfl, p, _, 1, .int y, rfl, rfl, SqL.of hw, ix _ _ 1 _ rfl, _, _, rfl, rfl, cm _ _ (by decide) (by decide), _, _, rfl, rfl, _, _, rfl, rfl, (show (0 : Int) < 2147483647 by decide), ?_⟩
    have e1 := emod_range (a := y * 48271 + 11) (show (0 : Int) < 2147483647 by decide)
    refine ⟨_, rfl, _, rfl, _, _, rfl, rfl, cm _ _ (by omega) (by omega), _, _, rfl, rfl, (show (0 : Int) < 2147483587 by decide), ?_⟩
    refine ⟨_, rfl, _, _, rfl, rfl, cm _ _ (by decide) (by decide), _, _, rfl, rfl, _, _, rfl, rfl, (show (0 : Int) < 2147483629 by decide), _, rfl, p, _, 1, 1, rfl, rfl, hw, rfl, ?_⟩
    refine ⟨_, rfl, p, _, 1, _, rfl, rfl, SqL.of upd_same, ix _ _ 1 _ rfl, _, _, rfl, rfl, ⟨by decide, by decide⟩, _, rfl, _, _, rfl, rfl, m0, ?_⟩
    exact q _ _ _ _ (emod_range m0).1 (emod_range m0).2 (fun b o nb h => by rw [upd_ne nb]; exact h) upd_same
end
end K49
set_option Elab.async false
set_option linter.all false
set_option maxRecDepth 100000
namespace K49
open PySem PySem.Spec PyProof.Rows L2 NP NT NV NN
section
variable {P : Program} {w : World} {K : PySem.W.Frag} {mg : Str → Option Value} {base : Heap} {f g : Addr} {fd gd : FuncData}
theorem scIsWish : FnScope ["thing", "most"] ["thing", "most"] (defScope sIsWish) := ⟨rfl, rfl, rfl, by decide +kernel, rfl, by decide +kernel, by decide +kernel⟩
set_option maxHeartbeats 2000000 in
theorem ok_isWish {c T : Addr} {ta tn : Tok} (F : Fun K "is_wish" "is_wish" sIsWish f fd) (hcd : fd.code = .ref c) (hcb : CodeB base mg c T) (M : Mg2 mg) (mstr : mg "str" = none) (mA : mg "AT" = some (.str "at" ta)) (mN : mg "NOT" = some (.str "not" tn))
    (G : FnOk P w K mg base CX0 2 g gd ["thing", "least", "most"] (spBetw K)) (bG : Binds K gd ["thing", "least", "most"] []) (kG : PySem.W.keepIn K (.ref g) = true) (mG : mg "is_whole_between" = some (.ref g)) : FnOkB P w K mg base 12 f fd ["thing", "most"] (spIsWish K T) := by
  refine fnBC F scIsWish hcd (fun vs H Q E h => ?_) (fun A outer s H vs Q E gp hpb hr h => ?_)
  · obtain ⟨a, m, q, rfl, _⟩ := h
    rfl
  obtain ⟨a, m, q, rfl, hS, ok, hT, hq⟩ := h
  have jj : JB (cxOf CX0 P w K mg base ["thing", "most"] "is_wish" (defScope sIsWish) f (.ref c) A outer s H E gp).nox (defBody sIsWish) _ :=
    jb_cons (js_if (jt_w (jw_or (jt_not (jt_val (je_callB cr_isinst (by rfl) M.base.isi (by decide +kernel) (jn (jv 0) (jn (je_ty (n := "tuple") (by rfl) M.base.tuple (by decide +kernel)) ja0))))) (jw_or1 (jt_cmp op_ne (je_callB call_len_seq rfl M.base.len PySem.boot_len (jn (jv 0) ja0)) je_int (nomark _))))) (jb_one (js_ret je_bl)) jb_nil)
    (jb_cons (js_if (jt_w (jw_or (jt_not (jt_val (je_callB cr_isStr (by rfl) M.base.isi (by decide +kernel) (jSu (je_ix ix_tup (jv 0) je_int (fun _ _ => rfl)) (jn (je_ty (n := "str") (by rfl) mstr (by decide +kernel)) ja0))))) (jw_or1 (jt_cmp op_notIn_seq (je_ix ix_tup (jv 0) je_int (fun _ _ => rfl)) (je_tup (jn (je_glob (v := .str "at") rfl mA ⟨ta, rfl⟩) (jn (je_glob (v := .str "not") rfl mN ⟨tn, rfl⟩) ja0))) (by rfl))))) (jb_one (js_ret je_bl)) jb_nil)
    (jb_one (js_ret (je_allN (ts := []) (T := T) (x := "number") (R := fun σ H y b => ∃ l n : Int, σ[1]? = some (some (.int l)) ∧ y = .int n ∧ b = betw 0 l (.int n)) M.base.all (by rfl) hpb rfl hr.depth (je_slice sl_tup (jv 0) (jo_some je_int) jo_none) rfl hcb
      (fun σ H H' y b le h => h)
      (fun σ code C A' E' s2 m2 H y v b hA hd hu qs hn hm rv fv hh => by
        obtain ⟨l, n, s0', rfl, rfl⟩ := hh
        obtain ⟨ul, kl, rl, cl, il⟩ := fv 1 "most" (.int l) rfl s0' (Or.inr (Or.inl rfl)) (Or.inl rfl)
        exact thn (q_call (r := .bl (betw 0 l (.int n))) G (by decide) bG qs.quiet (room_gen hr hA hd hu (by decide)) rfl rfl rfl mG kG (qas_cons (qa_loc rfl rfl hn hm rv) (qas_cons qa_int (qas_cons (qa_free (v := .int l) rfl rfl cl il rl) qas_nil)))
          ⟨.int n, .int n, 0, l, rfl, .dp (.int n), rfl⟩) fun u s3 hq => ⟨hq.1, keeps_t hq.2 qs.bare⟩)))))
  refine ⟨_, jj, ?_⟩
  have nb : ∀ b : Bool, (!inV (V.str (wordS b)) [V.str "at", V.str "not"]) = false := by decide +kernel
  have dq : Th K H (.ref a) (wshD q) := .dp (.tup hS (.cons (.str _) (.cons (.int _) (.cons (.int _) .nil))))
  refine ⟨_, rfl, .ref a, "tuple", wshD q, rfl, dq, .inr (.inr (.inl rfl)), _, rfl, itF rfl ?_⟩
  refine ⟨_, rfl, a, _, rfl, .inr hS, rfl, _, rfl, itF rfl ?_⟩
  refine ⟨_, rfl, a, _, 0, .str (wordS q.1), rfl, rfl, hS, rfl, .str (wordS q.1), .str (wordS q.1), rfl, .dp (.str _), _, rfl, itF rfl ?_⟩
  refine ⟨_, rfl, a, _, 0, .str (wordS q.1), rfl, rfl, hS, rfl, (by show 2 ≤ sizeLine; decide), fun tp n1 => ?_⟩
  have e1 := same_new n1 (.tup [.str "at", .str "not"])
  have g1 := new_at n1 (.tup [.str "at", .str "not"])
  refine ⟨tp, _, rfl, .inr (SqT.of g1), rfl, by decide +kernel, _, rfl, itF (nb q.1) ?_⟩
  have hS1 := le_seqT (le_same e1) hS
  refine ⟨_, rfl, 1, rfl, a, wshV q, rfl, hS1, (by show ¬ (1 = 0 ∧ 3 = 3); decide), fun sp n2 => ?_⟩
  have e2 := same_new n2 (.tup (cutV (wshV q) (some 1) none))
  have g2 := new_at n2 (.tup (cutV (wshV q) (some 1) none))
  have cut : cutV (wshV q) (some 1) none = [.int q.2.1, .int q.2.2] := rfl
  rw [cut] at g2 e2 ⊢
  have e12 := e1.trans e2
  refine ⟨sp, [.int q.2.1, .int q.2.2], [betw 0 m (.int q.2.1), betw 0 m (.int q.2.2)], rfl, .inl (SqT.of g2), e12 _ _ hT, (fun t ht => by cases ht), (fun z => by cases z), rfl, fun i y e => ?_, ?_⟩
  · cases i with
    | zero => cases e; exact ⟨_, rfl, m, q.2.1, rfl, rfl, rfl⟩
    | succ i =>
      cases i with
      | zero => cases e; exact ⟨_, rfl, m, q.2.2, rfl, rfl, rfl⟩
      | succ i => cases e
  · have al : [betw 0 m (.int q.2.1), betw 0 m (.int q.2.2)].all id = true := by
      show ((decide (0 ≤ q.2.1) && decide (q.2.1 ≤ m)) && ((decide (0 ≤ q.2.2) && decide (q.2.2 ≤ m)) && true)) = true
      rw [decide_eq_true ok.t0, decide_eq_true ok.t1, decide_eq_true ok.p0, decide_eq_true ok.p1]
      rfl
    rw [al]
    exact hq _ e12
theorem scIsWishes : FnScope ["thing", "most"] ["thing", "most"] (defScope sIsWishes) := ⟨rfl, rfl, rfl, by decide +kernel, rfl, by decide +kernel, by decide +kernel⟩
set_option maxHeartbeats 2000000 in
theorem ok_isWishes {c T T2 : Addr} {t60 : Tok} (F : Fun K "is_wishes" "is_wishes" sIsWishes f fd) (hcd : fd.code = .ref c) (hcb : CodeB base mg c T) (M : Mg2 mg) (m60 : mg "MOST_WISHES" = some (.int 60 t60))
    (G : FnOkB P w K mg base 12 g gd ["thing", "most"] (spIsWish K T2)) (bG : Binds K gd ["thing", "most"] []) (kG : PySem.W.keepIn K (.ref g) = true) (mG : mg "is_wish" = some (.ref g)) : FnOkB P w K mg base 14 f fd ["thing", "most"] (spIsWishes K T T2) := by
  refine fnBC F scIsWishes hcd (fun vs H Q E h => ?_) (fun A outer s H vs Q E gp hpb hr h => ?_)
  · obtain ⟨a, m, ws, rfl, _⟩ := h
    rfl
  obtain ⟨a, m, ws, rfl, wa, wl, ok, nT, hT, hT2, hq⟩ := h
  have jj : JB (cxOf CX0 P w K mg base ["thing", "most"] "is_wishes" (defScope sIsWishes) f (.ref c) A outer s H E gp).nox (defBody sIsWishes) _ :=
    jb_cons (js_if (jt_w (jw_or (jt_not (jt_val (je_callB cr_isinst (by rfl) M.base.isi (by decide +kernel) (jn (jv 0) (jn (je_ty (n := "list") (by rfl) M.base.list (by decide +kernel)) ja0))))) (jw_or1 (jt_cmp op_gt (je_callB call_len_seq rfl M.base.len PySem.boot_len (jn (jv 0) ja0)) (je_glob (v := .int 60) rfl m60 ⟨t60, rfl⟩) (nomark _))))) (jb_one (js_ret je_bl)) jb_nil)
    (jb_one (js_ret (je_allN (ts := [T2]) (T := T) (x := "wish") (R := fun σ H y b => ∃ (l : Int) (a : Addr) (q : Wsh), σ[1]? = some (some (.int l)) ∧ y = .ref a ∧ SqT K H a (wshV q) ∧ OkW l q ∧ b = true) M.base.all (by rfl) hpb rfl hr.depth (jv 0) rfl hcb
      (fun σ H H' y b le ⟨l, a, q, h1, h2, h3, h4⟩ => ⟨l, a, q, h1, h2, le_seqT le h3, h4⟩)
      (fun σ code C A' E' s2 m2 H y v b hA hd hu qs hn hm rv fv hh => by
        obtain ⟨l, a, q, s0', rfl, hSq, okq, rfl⟩ := hh
        obtain ⟨ul, kl, rl, cl, il⟩ := fv 1 "most" (.int l) rfl s0' (Or.inr (Or.inl rfl)) (Or.inl rfl)
        exact q_callB (r := .bl true) G bG qs (room_gen hr hA hd hu (by decide)) rfl rfl rfl mG kG (qas_cons (qa_loc rfl rfl hn hm rv) (qas_cons (qa_free (v := .int l) rfl rfl cl il rl) qas_nil))
          ⟨a, l, q, rfl, hSq, okq, qs.tb T2 (.head _), fun H' e => ⟨rfl, fun t ht => e _ _ (qs.tb t ht)⟩⟩))))
  refine ⟨_, jj, ?_⟩
  have dw : Th K H (.ref a) (.list (ws.map fun q => wshD q.1)) := by
    refine .lst wa.at_ ?_
    have each := wa.each
    clear wa wl ok
    induction ws with
    | nil => exact .nil
    | cons x ws ih => exact .cons (.dp (.tup (each x (.head _)) (.cons (.str _) (.cons (.int _) (.cons (.int _) .nil))))) (ih fun q hq => each q (.tail _ hq))
  refine ⟨_, rfl, .ref a, "list", _, rfl, dw, .inr (.inr (.inr rfl)), _, rfl, itF rfl ?_⟩
  refine ⟨_, rfl, a, _, rfl, .inl wa.at_, _, _, rfl, rfl, _, rfl, itF (decide_eq_false (by rw [List.length_map]; omega)) ?_⟩
  refine ⟨_, rfl, a, _, ws.map fun _ => true, rfl, .inr wa.at_, hT, (fun t ht => by rw [List.mem_singleton.mp ht]; exact hT2), (fun z => nT (List.mem_singleton.mp z)), by rw [List.length_map, List.length_map], fun i y e => ?_, ?_⟩
  · rw [List.getElem?_map] at e
    obtain ⟨x, ex, rfl⟩ := Option.map_eq_some_iff.mp e
    have hx := List.mem_of_getElem? ex
    exact ⟨true, by rw [List.getElem?_map, ex]; rfl, m, x.2, x.1, rfl, rfl, wa.each x hx, ok x hx, rfl⟩
  · have al : (ws.map fun _ => true).all id = true := by simp
    rw [al]
    exact hq H (Same.refl H)
theorem scCkWishes : FnScope ["wishes", "most"] ["wishes", "most"] (defScope sCkWishes) := ⟨rfl, rfl, rfl, by decide +kernel, rfl, by decide +kernel, by decide +kernel⟩
theorem ok_ckWishes {T T2 : Addr} (F : Fun K "check_wishes" "check_wishes" sCkWishes f fd) (G : FnOk P w K mg base CX0 14 g gd ["thing", "most"] (spIsWishes K T T2)) (bG : Binds K gd ["thing", "most"] []) (kG : PySem.W.keepIn K (.ref g) = true) (mG : mg "is_wishes" = some (.ref g)) : FnOk P w K mg base CX0 15 f fd ["wishes", "most"] (spCkWishes K T T2) := by
  refine fnJ F scCkWishes (fun vs H Q E h => ?_) (fun cdv A outer s H vs Q E gp hcl hr h => ?_)
  · obtain ⟨a, m, ws, rfl, _⟩ := h
    rfl
  obtain ⟨a, m, ws, rfl, wa, wl, ok, nT, hT, hT2, hq⟩ := h
  refine ⟨_, jb_one (js_if (jt_not (jt_val (je_call G hr rfl mG kG bG .nil pass0 (jn (jv 0) (jn (jv 1) ja0))))) jb_never jb_nil), ?_⟩
  exact ⟨_, rfl, _, rfl, a, m, ws, rfl, wa, wl, ok, nT, hT, hT2, fun H' e => ⟨_, rfl, itF rfl (hq H' e)⟩⟩
end
end K49
set_option Elab.async false
set_option linter.all false
set_option maxRecDepth 100000
namespace NV
open PySem PySem.Spec PyProof.Rows L2 NP NT
def txtW (q : Wsh) : Str := wordS q.1 ++ " " ++ numS q.2.1 ++ " " ++ numS q.2.2
def txtWs (qs : List Wsh) : Str := if qs = [] then "none" else Txt.join "; " (qs.map txtW)
theorem word_free : ∀ b : Bool, (32 : Nat) ∉ TL.tl (wordS b) ∧ (59 : Nat) ∉ TL.tl (wordS b) ∧ (wordS b).length ≤ 3 := by decide +kernel
theorem txtW_tl (q : Wsh) : TL.tl (txtW q) = TL.tl (wordS q.1) ++ ([32] ++ (TL.tl (numS q.2.1) ++ ([32] ++ TL.tl (numS q.2.2)))) := by
  unfold txtW
  have e : TL.tl ((" " : String) : Str) = [32] := by decide +kernel
  simp only [TL.tl_append, e, List.append_assoc]
theorem txtW_join (q : Wsh) : txtW q = Txt.join " " [wordS q.1, numS q.2.1, numS q.2.2] := by
  refine TL.ext_tl ?_
  rw [txtW_tl, TL.join_eq, TL.tl_join]
  have e : TL.tl ((" " : String) : Str) = [32] := by decide +kernel
  rw [e]
  rfl
theorem split_w {q : Wsh} {m : Int} (ok : OkW m q) : Txt.split (txtW q) " " = [wordS q.1, numS q.2.1, numS q.2.2] := by
  rw [txtW_join]
  refine TL.split_join (y := " ") (s := 32) (S := []) (by decide +kernel) (by decide +kernel) (by simp) fun p hp => ?_
  rcases List.mem_cons.mp hp with rfl | hp
  · exact (word_free q.1).1
  · rcases List.mem_cons.mp hp with rfl | hp
    · exact num_free ok.t0 (.inl (by decide))
    · rw [List.mem_singleton.mp hp]
      exact num_free ok.p0 (.inl (by decide))
theorem txtW_free {q : Wsh} {m : Int} (ok : OkW m q) : (59 : Nat) ∉ TL.tl (txtW q) := by
  rw [txtW_tl]
  intro h
  simp only [List.mem_append, List.mem_singleton] at h
  rcases h with h | h | h | h | h
  · exact (word_free q.1).2.1 h
  · cases h
  · exact num_free ok.t0 (.inr (by decide)) h
  · cases h
  · exact num_free ok.p0 (.inr (by decide)) h
theorem txtW_len {q : Wsh} (ok : OkW 99 q) : (txtW q).length ≤ 9 := by
  have h1 := (word_free q.1).2.2
  have h2 := (num_figs ok.t0 (show q.2.1 < 100 by have := ok.t1; omega)).2.2
  have h3 := (num_figs ok.p0 (show q.2.2 < 100 by have := ok.p1; omega)).2.2
  have e : (((" " : String) : Str)).length = 1 := rfl
  unfold txtW
  rw [strLen_append, strLen_append, strLen_append, strLen_append, e]
  omega
theorem split_ws {qs : List Wsh} {m : Int} (ne : qs ≠ []) (ok : ∀ q ∈ qs, OkW m q) : Txt.split (txtWs qs) "; " = qs.map txtW := by
  unfold txtWs
  rw [if_neg ne]
  refine TL.split_join (y := "; ") (s := 59) (S := [32]) (by decide +kernel) (by decide +kernel) (by simpa using ne) fun p hp => ?_
  obtain ⟨q, hq, rfl⟩ := List.mem_map.mp hp
  exact txtW_free (ok q hq)
theorem ws_none {qs : List Wsh} {m : Int} (ne : qs ≠ []) (ok : ∀ q ∈ qs, OkW m q) : txtWs qs ≠ "none" := fun e => by
  have s1 := split_ws ne ok
  rw [e] at s1
  have s2 : Txt.split "none" "; " = [("none" : Str)] := by decide +kernel
  rw [s2] at s1
  match qs with
  | [] => cases s1
  | q :: r =>
    rw [List.map_cons] at s1
    injection s1 with s1 _
    have h1 : (32 : Nat) ∈ TL.tl (txtW q) := by rw [txtW_tl]; simp
    rw [← s1] at h1
    revert h1
    decide +kernel
theorem parts_ws {qs : List Wsh} {m : Int} (ok : ∀ q ∈ qs, OkW m q) : partsOf (txtWs qs) "; " = qs.map txtW := by
  unfold partsOf
  by_cases z : qs = []
  · subst z
    rw [if_pos (show txtWs [] = ("none" : Str) from if_pos rfl)]
    rfl
  · rw [if_neg (ws_none z ok), split_ws z ok]
theorem ws_len {qs : List Wsh} (hn : qs.length ≤ 60) (ok : ∀ q ∈ qs, OkW 99 q) : (txtWs qs).length ≤ 2000 := by
  unfold txtWs
  split
  · decide +kernel
  · rw [TL.len_tl, TL.join_eq, TL.tl_join]
    have h1 := joinL_len (TL.tl "; ") ((qs.map txtW).map TL.tl)
    have h2 : (((qs.map txtW).map TL.tl).map (·.length)).sum ≤ 9 * (qs.map txtW).length := by
      have := join_len (ys := qs.map txtW) (b := 9) fun y hy => by
        obtain ⟨q, hq, rfl⟩ := List.mem_map.mp hy
        exact txtW_len (ok q hq)
      rw [List.map_map]
      have e : ((fun x : List Nat => x.length) ∘ TL.tl) = fun x : Str => x.length := by funext x; exact (TL.len_tl x).symm
      rw [e]
      exact this
    have e2 : (TL.tl ((("; " : String) : Str))).length = 2 := by decide +kernel
    rw [e2] at h1
    rw [List.length_map, List.length_map] at h1
    rw [List.length_map] at h2
    omega
def spWText (K : PySem.W.Frag) : Sp := fun vs H Q _ => ∃ (a : Addr) (q : Wsh), vs = [.ref a] ∧ SqT K H a (wshV q) ∧ OkW 99 q ∧ ∀ H', Same H H' → Q (.str (txtW q)) H'
def spWsText (K : PySem.W.Frag) (T T2 : Addr) : Sp := fun vs H Q _ => ∃ (a : Addr) (ws : List (Wsh × Addr)), vs = [.ref a] ∧ WsAt K H a ws ∧ ws.length ≤ 60 ∧ (∀ q ∈ ws, OkW 99 q.1) ∧ T ≠ T2 ∧ H T = some (TabP T) ∧ H T2 = some (TabP T2) ∧ ∀ H', Same H H' → Q (.str (txtWs (ws.map (·.1)))) H'
def spReadW (T3 : Addr) : Sp := fun vs H Q _ => ∃ q : Wsh, vs = [.str (txtW q)] ∧ OkW 99 q ∧ H T3 = some (TabP T3) ∧ ∀ p H', Same H H' → H p = none → H' p = some (.tup (wshV q)) → Q (.ref p) H'
/-- a new list of wishes, all new -/
structure NewWs (H0 H : Hp) (a : Addr) (ws : List (Wsh × Addr)) : Prop where
  same : Same H0 H
  new : H0 a = none
  at_ : H a = some (.lst (ws.map fun q => V.ref q.2))
  each : ∀ q ∈ ws, H q.2 = some (.tup (wshV q.1)) ∧ q.2 ≠ a ∧ H0 q.2 = none
theorem NewWs.ws {K : PySem.W.Frag} {H0 H : Hp} {a : Addr} {ws : List (Wsh × Addr)} (h : NewWs H0 H a ws) : WsAt K H a ws := ⟨SqL.of h.at_, fun q hq => SqT.of (h.each q hq).1⟩
theorem NewWs.then {H0 H H' : Hp} {a : Addr} {ws : List (Wsh × Addr)} (h : NewWs H0 H a ws) (s : Same H H') : NewWs H0 H' a ws := ⟨h.same.trans s, h.new, s _ _ h.at_, fun q hq => ⟨s _ _ (h.each q hq).1, (h.each q hq).2⟩⟩
theorem NewWs.back {H0 H1 H : Hp} {a : Addr} {ws : List (Wsh × Addr)} (h : NewWs H1 H a ws) (s : Same H0 H1) : NewWs H0 H a ws := ⟨s.trans h.same, s.free h.new, h.at_, fun q hq => ⟨(h.each q hq).1, (h.each q hq).2.1, s.free (h.each q hq).2.2⟩⟩
def spReadWs (T T2 T3 : Addr) : Sp := fun vs H Q _ => ∃ qs : List Wsh, vs = [.str (txtWs qs)] ∧ qs.length ≤ 60 ∧ (∀ q ∈ qs, OkW 99 q) ∧ T ≠ T2 ∧ H T = some (TabP T) ∧ H T2 = some (TabP T2) ∧ H T3 = some (TabP T3) ∧ ∀ a ws H', NewWs H H' a ws → ws.map (·.1) = qs → Q (.ref a) H'
end NV
set_option Elab.async false
set_option linter.all false
set_option maxRecDepth 100000
namespace K49
open PySem PySem.Spec PyProof.Rows L2 NP NT NV NN
section
variable {P : Program} {w : World} {K : PySem.W.Frag} {mg : Str → Option Value} {base : Heap} {f g : Addr} {fd gd : FuncData}
theorem fmt_num {k : Int} (h0 : 0 ≤ k) (h1 : k < 100) : fmtV (.int k) = some (numS k) := by
  have : k.natAbs < 100 := by omega
  have h2 : k.natAbs.log2 < 1920 := by
    by_cases z : k.natAbs = 0
    · rw [z]; decide
    · exact (Nat.log2_lt z).mpr (Nat.lt_of_lt_of_le this (by decide))
  show (if k.natAbs.log2 < 1920 then some (numS k) else none) = _
  rw [if_pos h2]
theorem scWText : FnScope ["wish", "word", "thing", "place"] ["wish"] (defScope sWText) := ⟨rfl, rfl, rfl, by decide +kernel, rfl, by decide +kernel, by decide +kernel⟩
theorem ok_wText (F : Fun K "wish_text" "wish_text" sWText f fd) : FnOk P w K mg base CX0 1 f fd ["wish"] (spWText K) := by
  refine fnJ F scWText (fun vs H Q E h => ?_) (fun cdv A outer s H vs Q E gp hcl hr h => ?_)
  · obtain ⟨a, q, rfl, _⟩ := h
    rfl
  obtain ⟨a, q, rfl, hS, ok, hq⟩ := h
  refine ⟨_, jb_cons (js_asg (jv 0) (jg_tup rfl (jgs_cons (jg_name (i := 1) scWText.nd rfl (Or.inl rfl)) (jgs_cons (jg_name (i := 2) scWText.nd rfl (Or.inl rfl)) (jgs_cons (jg_name (i := 3) scWText.nd rfl (Or.inl rfl)) jgs_nil)))))
    (jb_one (js_ret (je_f (jf_val (jv 1) (jf_con (jf_val (jv 2) (jf_con (jf_val (jv 3) jf_nil)))))))), ?_⟩
  have t1 := ok.t1
  have p1 := ok.p1
  have h1 := (word_free q.1).2.2
  have h2 := (num_figs ok.t0 (show q.2.1 < 100 by omega)).2.2
  have h3 := (num_figs ok.p0 (show q.2.2 < 100 by omega)).2.2
  have sz : 1000 ≤ sizeLine := by decide
  have e0 : (Str.empty).length = 0 := rfl
  have e1 : (((" " : String) : Str)).length = 1 := rfl
  refine ⟨_, rfl, a, _, rfl, hS, rfl, _, _, rfl, _, _, rfl, _, _, rfl, rfl, ?_⟩
  refine ⟨_, rfl, wordS q.1, rfl, by omega, by rw [strLen_append]; omega, by rw [strLen_append, strLen_append]; omega, ?_⟩
  refine ⟨_, rfl, _, fmt_num ok.t0 (by omega), by omega, by simp only [strLen_append]; omega, by simp only [strLen_append]; omega, ?_⟩
  refine ⟨_, rfl, _, fmt_num ok.p0 (by omega), by omega, by simp only [strLen_append]; omega, by simp only [strLen_append]; omega, ?_⟩
  have e2 : Str.empty ++ wordS q.1 ++ " " ++ numS q.2.1 ++ " " ++ numS q.2.2 = txtW q := TL.ext_tl (by
    unfold txtW
    simp only [TL.tl_append]
    rfl)
  show Q (.str (Str.empty ++ wordS q.1 ++ " " ++ numS q.2.1 ++ " " ++ numS q.2.2)) H
  rw [e2]
  exact hq H (Same.refl H)
theorem scWsText : FnScope ["wishes", "wish"] ["wishes"] (defScope sWsText) := ⟨rfl, rfl, rfl, by decide +kernel, rfl, by decide +kernel, by decide +kernel⟩
set_option maxHeartbeats 1000000 in
theorem ok_wsText {T T2 gN : Addr} {dN : FuncData} {tn t99 : Tok} (F : Fun K "wishes_text" "wishes_text" sWsText f fd) (mn : mg "NOTHING" = some (.str "none" tn)) (m99 : mg "MOST_IN_WISHES" = some (.int 99 t99))
    (G : FnOk P w K mg base CX0 15 g gd ["wishes", "most"] (spCkWishes K T T2)) (bG : Binds K gd ["wishes", "most"] []) (kG : PySem.W.keepIn K (.ref g) = true) (mG : mg "check_wishes" = some (.ref g))
    (N : FnOk P w K mg base CX0 1 gN dN ["wish"] (spWText K)) (bN : Binds K dN ["wish"] []) (kN : PySem.W.keepIn K (.ref gN) = true) (mN : mg "wish_text" = some (.ref gN)) : FnOk P w K mg base CX0 16 f fd ["wishes"] (spWsText K T T2) := by
  refine fnJ F scWsText (fun vs H Q E h => ?_) (fun cdv A outer s H vs Q E gp hcl hr h => ?_)
  · obtain ⟨a, ws, rfl, _⟩ := h
    rfl
  obtain ⟨a, ws, rfl, wa, wl, ok, nT, hT, hT2, hq⟩ := h
  have hr1 : Room 1 _ := hr.mono (by decide)
  have hc15 : L2.Cl 15 gp := L2.Cl.mono hcl (by decide)
  have hc1 : L2.Cl 1 gp := L2.Cl.mono hcl (by decide)
  refine ⟨_, jb_cons (js_expr (je_call G hr rfl mG kG bG .nil pass0 (jn (jv 0) (jn (je_glob (v := .int 99) rfl m99 ⟨t99, rfl⟩) ja0))))
    (jb_one (js_ret (je_if (NT.jt_truth (jv 0)) (je_m1 PySem.F.slot_str_join PySem.F.type_str_join mt_join je_str (je_lc (own := [("wish", 1)]) (g := gName 1) rfl scWsText.nd (ji_list (jv 0)) (blkOk_by (own := [("wish", 1)]) (N := ["wishes", "wish"]) (sc := defScope sWsText) (by decide +kernel))
      (fun _ _ _ _ _ => jg_name (i := 1) scWsText.nd rfl (Or.inl rfl)) (fun _ _ _ _ _ => jts_nil) (fun _ _ _ _ _ => je_call N hr1 rfl mN kN bN .nil pass0 (jn (jv 1) ja0)))) (je_glob (v := .str "none") rfl mn ⟨tn, rfl⟩)))), ?_⟩
  refine ⟨_, rfl, a, 99, ws, rfl, wa, wl, ok, nT, hT, hT2, fun H1 e1 => ?_⟩
  have wa1 := wa.same e1
  refine ⟨_, rfl, !(ws.map fun q => V.ref q.2).isEmpty, .inl ⟨_, wa1.at_, rfl⟩, ?_⟩
  by_cases z : ws = []
  · subst z
    exact itF rfl (hq _ e1)
  · refine itT (by cases ws with | nil => exact absurd rfl z | cons => rfl) ?_
    refine ⟨⟨_, rfl⟩, _, rfl, a, rfl, ⟨_, wa1.at_⟩, fun D nD => ?_⟩
    refine lc_list (K := K) (a := a) (xs := ws.map fun q => V.ref q.2) (fun i H' => Same H1 H' ∧ H' D = some (.lst (((ws.take i).map fun q => txtW q.1).map V.str))) ⟨same_new nD _, upd_same⟩ (fun i H' _ ⟨s, _⟩ => s.seq wa1.at_) ?_ ?_
    · rintro i x H2 hx ⟨s2, g2⟩
      rw [List.getElem?_map] at hx
      obtain ⟨q, hq1, rfl⟩ := Option.map_eq_some_iff.mp hx
      have hm := List.mem_of_getElem? hq1
      refine ⟨rfl, _, rfl, q.2, q.1, rfl, (wa1.same s2).each q hm, ok q hm, fun H3 e3 => ?_⟩
      refine ⟨_, e3 _ _ g2, ?_, fun b o h => ?_, ?_⟩
      · rw [List.length_map, List.length_map, List.length_take]
        exact Nat.lt_of_le_of_lt (show min i ws.length ≤ 1000 by omega) (by decide)
      · rw [upd_ne (ne_of_none h nD)]
        exact e3 _ _ (s2 _ _ h)
      · rw [upd_same, List.take_add_one, hq1, List.map_append, List.map_append]
        rfl
    · rintro H2 ⟨s2, g2⟩
      rw [List.length_map, List.take_length] at g2
      have hj : SqL K H2 D ((ws.map fun q => txtW q.1).map V.str) := SqL.of g2
      have hsum : ((ws.map (fun q => txtW q.1)).map (·.length)).sum + (ws.map (fun q => txtW q.1)).length * ((("; " : String) : Str)).length ≤ 16777216 := by
        have : ((ws.map (fun q => txtW q.1)).map (·.length)).sum ≤ 9 * (ws.map (fun q => txtW q.1)).length := join_len fun y hy => by
          obtain ⟨q, hq, rfl⟩ := List.mem_map.mp hy
          exact txtW_len (ok q hq)
        have e1 : ((("; " : String) : Str)).length = 2 := rfl
        have sz : 1000 ≤ sizeLine := by decide
        rw [List.length_map] at this ⊢
        rw [e1]
        omega
      have hfin : Q (.str (Txt.join "; " (ws.map (fun q => txtW q.1)))) H2 := by
        have := hq _ (e1.trans s2)
        unfold txtWs at this
        rw [if_neg (fun h => z (List.map_eq_nil_iff.mp h)), List.map_map] at this
        exact this
      generalize ws.map (fun q => txtW q.1) = xs at hj hsum hfin
      generalize H2 = H3 at hj hfin ⊢
      exact ⟨_, D, xs, rfl, rfl, .inl hj, hsum, hfin⟩
theorem scReadW : FnScope ["text", "word", "numbers"] ["text"] (defScope sReadW) := ⟨rfl, rfl, rfl, by decide +kernel, rfl, by decide +kernel, by decide +kernel⟩
set_option maxHeartbeats 1000000 in
theorem ok_readW {T3 : Addr} (F : Fun K "read_as_wish" "read_as_wish" sReadW f fd) (M : Mg2 mg)
    (G : FnOk P w K mg base CX0 13 g gd ["words"] (spReadN K T3)) (bG : Binds K gd ["words"] []) (kG : PySem.W.keepIn K (.ref g) = true) (mG : mg "read_numbers" = some (.ref g)) : FnOk P w K mg base CX0 14 f fd ["text"] (spReadW T3) := by
  refine fnJ F scReadW (fun vs H Q E h => ?_) (fun cdv A outer s H vs Q E gp hcl hr h => ?_)
  · obtain ⟨q, rfl, _⟩ := h
    rfl
  obtain ⟨q, rfl, ok, hT, hq⟩ := h
  refine ⟨_, jb_cons (js_asg (je_m1 PySem.F.slot_str_split PySem.F.type_str_split mt_split (jv 0) je_str) (jg_star rfl (jgs_cons (jg_name (i := 1) scReadW.nd rfl (Or.inl rfl)) (jgs_cons (jg_name (i := 2) scReadW.nd rfl (Or.inl rfl)) jgs_nil))))
    (jb_one (js_ret (je_op op_catT (je_tup (jn (jv 1) ja0)) (je_callTy call_tuple_of (by rfl) M.base.tuple (by decide +kernel) (jCa (je_call G hr rfl mG kG bG .nil pass0 (jn (jv 2) ja0)) ja0))))), ?_⟩
  refine ⟨_, rfl, ⟨_, rfl⟩, _, _, rfl, rfl, rfl, Nat.le_trans (Nat.add_le_add_right (txtW_len ok) 2) (by decide), fun wp n1 => ?_⟩
  rw [split_w ok]
  have e1 := same_new n1 (.lst ([wordS q.1, numS q.2.1, numS q.2.2].map V.str))
  have g1 := new_at n1 (.lst ([wordS q.1, numS q.2.1, numS q.2.2].map V.str))
  refine ⟨wp, .str (wordS q.1), [.str (numS q.2.1), .str (numS q.2.2)], rfl, SqL.of g1, fun D nD => ?_⟩
  have e2 := same_new nD (.lst [.str (numS q.2.1), .str (numS q.2.2)])
  have g2 := new_at nD (.lst [.str (numS q.2.1), .str (numS q.2.2)])
  have e12 := e1.trans e2
  refine ⟨_, _, rfl, _, _, rfl, rfl, ?_⟩
  refine ⟨_, rfl, (by show 1 ≤ sizeLine; decide), fun tp n3 => ?_⟩
  have e3 := same_new n3 (.tup [.str (wordS q.1)])
  have g3 := new_at n3 (.tup [.str (wordS q.1)])
  have e13 := e12.trans e3
  have f1 := num_figs ok.t0 (show q.2.1 < 100 by have := ok.t1; omega)
  have f2 := num_figs ok.p0 (show q.2.2 < 100 by have := ok.p1; omega)
  refine ⟨_, rfl, D, [numS q.2.1, numS q.2.2], rfl, SqL.of (e3 _ _ g2), (by show 2 ≤ 1000; decide), fun x hx => ?_, e13 _ _ hT, fun op H4 e4 n4 g4 => ?_⟩
  · rcases List.mem_cons.mp hx with rfl | hx
    · exact f1.1
    · rw [List.mem_singleton.mp hx]; exact f2.1
  have ev : ([numS q.2.1, numS q.2.2].map valW).map V.int = [.int q.2.1, .int q.2.2] := by
    show [V.int (valW (numS q.2.1)), V.int (valW (numS q.2.2))] = _
    rw [f1.2.1, f2.2.1]
  rw [ev] at g4
  refine ⟨op, _, rfl, .inl ⟨SqL.of g4, fun np n5 => ?_⟩⟩
  have e5 := same_new n5 (.tup [.int q.2.1, .int q.2.2])
  have g5 := new_at n5 (.tup [.int q.2.1, .int q.2.2])
  have e15 := (e13.trans e4).trans e5
  refine ⟨tp, np, _, _, rfl, rfl, SqT.of ((e4.trans e5) _ _ g3), SqT.of g5, ?_⟩
  refine ⟨(by simp), (by show 3 ≤ sizeLine; decide), (fun h => by cases h), fun _ p np => ?_⟩
  exact hq p _ (e15.trans (same_new np _)) (e15.free np) (new_at np _)
end
end K49
set_option Elab.async false
set_option linter.all false
set_option maxRecDepth 100000
namespace NV
open PySem PySem.Spec PyProof.Rows L2 NP NT
def accW (qs : List Wsh) : List Nat := qs.flatMap fun q => 59 :: 32 :: TL.tl (txtW q)
theorem accW_put (qs : List Wsh) (q : Wsh) : accW (qs ++ [q]) = accW qs ++ (59 :: 32 :: TL.tl (txtW q)) := by
  unfold accW
  rw [List.flatMap_append]
  simp
theorem accW_join : ∀ (qs : List Wsh), qs ≠ [] → (accW qs).drop 2 = TL.joinL [59, 32] (qs.map fun q => TL.tl (txtW q))
  | [], h => absurd rfl h
  | [i], _ => by
    show (accW [i]).drop 2 = TL.tl (txtW i)
    simp [accW]
  | i :: j :: r, _ => by
    have ih := accW_join (j :: r) (fun z => nomatch z)
    show (accW (i :: j :: r)).drop 2 = TL.tl (txtW i) ++ ([59, 32] ++ TL.joinL [59, 32] ((j :: r).map fun i => TL.tl (txtW i)))
    rw [← ih]
    unfold accW
    rw [List.flatMap_cons, List.flatMap_cons]
    simp
theorem accW_len {qs : List Wsh} (h : ∀ q ∈ qs, OkW 99 q) : (accW qs).length ≤ 11 * qs.length := by
  induction qs with
  | nil => exact Nat.zero_le _
  | cons i r ih =>
    have h1 := ih fun j hj => h j (List.mem_cons_of_mem _ hj)
    have h2 := txtW_len (h i (List.mem_cons_self ..))
    rw [TL.len_tl] at h2
    unfold accW at h1 ⊢
    rw [List.flatMap_cons, List.length_append, List.length_cons, List.length_cons, List.length_cons]
    omega
theorem cut2 (z : Str) : TL.tl (cutS z (some 2) none) = (TL.tl z).drop 2 := by
  unfold cutS
  show ((z.cps.toList.drop (HT.sIx z.length 0 (some 2))).take (HT.sIx z.length z.length none - HT.sIx z.length 0 (some 2))).toArray.toList = _
  have e1 : HT.sIx z.length 0 (some 2) = min 2 z.length := by
    unfold HT.sIx
    simp
  have e2 : HT.sIx z.length z.length none = z.length := by
    unfold HT.sIx
    simp
  rw [e1, e2, List.toList_toArray]
  have hl := TL.len_tl z
  have hl2 : z.length = z.cps.toList.length := hl
  show _ = z.cps.toList.drop 2
  by_cases h : z.length ≤ 2
  · rw [show min 2 z.length = z.length from Nat.min_eq_right h, List.drop_of_length_le (Nat.le_of_eq hl2.symm), List.drop_of_length_le (by omega), List.take_nil]
  · rw [show min 2 z.length = 2 by omega]
    refine List.take_of_length_le ?_
    rw [List.length_drop]
    omega
theorem writtenW {qs : List Wsh} {x : Str} (h : TL.tl x = accW qs) : cutS x (some 2) none ++ (if qs = [] then ("none" : Str) else Str.empty) = txtWs qs := by
  refine TL.ext_tl ?_
  rw [TL.tl_append, cut2, h]
  unfold txtWs
  by_cases z : qs = []
  · subst z
    rw [if_pos rfl, if_pos rfl]
    rfl
  · rw [if_neg z, if_neg z, accW_join qs z, TL.join_eq, TL.tl_join, List.map_map]
    show TL.joinL [59, 32] _ ++ TL.tl Str.empty = TL.joinL (TL.tl "; ") _
    have e : TL.tl Str.empty = [] := rfl
    have e2 : TL.tl "; " = [59, 32] := by decide +kernel
    rw [e, e2, List.append_nil]
    rfl
def wsD (qs : List Wsh) : PyData := .list (qs.map wshD)
theorem dp_wsh {K : PySem.W.Frag} {H : Hp} {a : Addr} {q : Wsh} (h : SqT K H a (wshV q)) : Dp K H (.ref a) (wshD q) := .tup h (.cons (.str _) (.cons (.int _) (.cons (.int _) .nil)))
theorem dp_ws {K : PySem.W.Frag} {H : Hp} {a : Addr} {ws : List (Wsh × Addr)} (h : WsAt K H a ws) : Dp K H (.ref a) (wsD (ws.map (·.1))) := by
  have each := h.each
  refine .lst h.at_ ?_
  clear h
  induction ws with
  | nil => exact .nil
  | cons x ws ih => exact .cons (dp_wsh (each x (.head _))) (ih fun q hq => each q (.tail _ hq))
theorem lay_w (q : Wsh) : (wshD q).canLay0 = true := by
  obtain ⟨b, i, j⟩ := q
  cases b <;> (unfold wshD wordS; simp [PyData.canLay0, PyData.canLayAll0]; try decide +kernel)
theorem lay_ws : ∀ qs : List Wsh, PyData.canLayAll0 (qs.map wshD) = true
  | [] => by simp [PyData.canLayAll0]
  | q :: qs => by
    rw [List.map_cons]
    unfold PyData.canLayAll0
    rw [lay_w, lay_ws qs]
    rfl
theorem dep_w (q : Wsh) : (wshD q).depth = 1 := by
  unfold wshD
  simp [PyData.depth, PyData.depthAll]
theorem dep_ws : ∀ qs : List Wsh, PyData.depthAll (qs.map wshD) ≤ 1
  | [] => by simp [PyData.depthAll]
  | q :: qs => by
    have := dep_ws qs
    rw [List.map_cons]
    unfold PyData.depthAll
    rw [dep_w]
    omega
theorem lay_wsD (qs : List Wsh) : (wsD qs).canLay0 = true := by
  unfold wsD PyData.canLay0
  exact lay_ws qs
theorem shaped_ws (qs : List Wsh) : SeqAt.shaped (wsD qs) = true := by
  have h := dep_ws qs
  unfold SeqAt.shaped
  rw [lay_wsD]
  have : (wsD qs).depth ≤ 2 := by
    unfold wsD PyData.depth
    omega
  simp
  omega
theorem eqv_ws (qs : List Wsh) : PyData.eqv (wsD qs) (wsD qs) = true := SeqAt.eqv_refl _ (lay_wsD qs)
theorem eqv_w0 (qs : List Wsh) : PyData.eqv (wsD qs) (.list []) = decide (qs = []) := by
  cases qs with
  | nil => unfold wsD PyData.eqv; simp [PyData.eqvAll]
  | cons q r => unfold wsD PyData.eqv; simp [PyData.eqvAll]
def spWishes (K : PySem.W.Frag) : Sp := fun vs H Q _ => ∃ (p : Addr) (z y : Int), vs = [.ref p, .int 60] ∧ H p = some (.lst [.int z, .int y]) ∧
  ∀ (ws : List (Wsh × Addr)) (a : Addr) (z' y' : Int) (H' : Hp), ws.length ≤ 60 → (∀ q ∈ ws, OkW 99 q.1) → SameBut p H H' → H' p = some (.lst [.int z', .int y']) → H a = none → H' a = some (.lst (ws.map fun q => V.ref q.2)) → (∀ q ∈ ws, H' q.2 = some (.tup (wshV q.1)) ∧ H q.2 = none ∧ q.2 ≠ a) → Q (.ref a) H'
def spWritW (K : PySem.W.Frag) : Sp := fun vs H Q _ => ∃ (a : Addr) (ws : List (Wsh × Addr)), vs = [.ref a] ∧ WsAt K H a ws ∧ ws.length ≤ 60 ∧ (∀ q ∈ ws, OkW 99 q.1) ∧ ∀ H', Same H H' → Q (.str (txtWs (ws.map (·.1)))) H'
def spNumW : Sp := fun vs H Q _ => ∃ i : Int, vs = [.int i] ∧ 0 ≤ i ∧ i < 100 ∧ ∀ H', Same H H' → Q (.str (numS i)) H'
def spSameA : Sp := fun vs H Q _ => ∃ v : V, vs = [v, v] ∧ ((∃ i, v = .int i) ∨ ∃ s, v = .str s) ∧ ∀ H', Same H H' → Q (.bl true) H'
def spSameT : Sp := fun vs H Q _ => ∃ (a b : Addr) (q : Wsh), vs = [.ref a, .ref b] ∧ H a = some (.tup (wshV q)) ∧ H b = some (.tup (wshV q)) ∧ ∀ H', Same H H' → Q (.bl true) H'
def spSameW : Sp := fun vs H Q _ => ∃ (a b : Addr) (ws us : List (Wsh × Addr)), vs = [.ref a, .ref b] ∧ H a = some (.lst (ws.map fun q => V.ref q.2)) ∧ H b = some (.lst (us.map fun q => V.ref q.2)) ∧ (∀ q ∈ ws, H q.2 = some (.tup (wshV q.1))) ∧ (∀ q ∈ us, H q.2 = some (.tup (wshV q.1))) ∧ ws.map (·.1) = us.map (·.1) ∧ ws.length ≤ 1000 ∧ ∀ H', Same H H' → Q (.bl true) H'
theorem wsh_at (q : Wsh) {i : Nat} (h : i < 3) : ∃ v, (wshV q)[i]? = some v ∧ ((∃ n, v = .int n) ∨ ∃ s, v = .str s) := by
  match i, h with
  | 0, _ => exact ⟨_, rfl, .inr ⟨_, rfl⟩⟩
  | 1, _ => exact ⟨_, rfl, .inl ⟨_, rfl⟩⟩
  | 2, _ => exact ⟨_, rfl, .inl ⟨_, rfl⟩⟩
theorem at6 {i0 i1 i2 i3 i4 i5 : Int} {r : Int} (h0 : 0 ≤ r) (h1 : r < 6) : ∃ v, atI [V.int i0, .int i1, .int i2, .int i3, .int i4, .int i5] r = some v ∧ ∃ i, v = .int i ∧ (i = i0 ∨ i = i1 ∨ i = i2 ∨ i = i3 ∨ i = i4 ∨ i = i5) := by
  obtain ⟨v, h, m⟩ := atI_in (xs := [V.int i0, .int i1, .int i2, .int i3, .int i4, .int i5]) h0 h1
  refine ⟨v, h, ?_⟩
  simp only [List.mem_cons, List.not_mem_nil, or_false] at m
  rcases m with h | h | h | h | h | h
  · exact ⟨_, h, .inl rfl⟩
  · exact ⟨_, h, .inr (.inl rfl)⟩
  · exact ⟨_, h, .inr (.inr (.inl rfl))⟩
  · exact ⟨_, h, .inr (.inr (.inr (.inl rfl)))⟩
  · exact ⟨_, h, .inr (.inr (.inr (.inr (.inl rfl))))⟩
  · exact ⟨_, h, .inr (.inr (.inr (.inr (.inr rfl))))⟩
theorem at3i {x y z : Int} {r : Int} (h0 : 0 ≤ r) (h1 : r < 3) : ∃ i, atI [V.int x, .int y, .int z] r = some (.int i) ∧ (i = x ∨ i = y ∨ i = z) := by
  obtain ⟨v, h, m⟩ := atI_in (xs := [V.int x, .int y, .int z]) h0 h1
  simp only [List.mem_cons, List.not_mem_nil, or_false] at m
  rcases m with h' | h' | h' <;> subst h'
  · exact ⟨_, h, .inl rfl⟩
  · exact ⟨_, h, .inr (.inl rfl)⟩
  · exact ⟨_, h, .inr (.inr rfl)⟩
theorem at2w {r : Int} (h0 : 0 ≤ r) (h1 : r < 2) : ∃ b, atI [V.str "at", .str "not"] r = some (.str (wordS b)) := by
  obtain ⟨v, h, m⟩ := atI_in (xs := [V.str "at", .str "not"]) h0 h1
  simp only [List.mem_cons, List.not_mem_nil, or_false] at m
  rcases m with h' | h' <;> subst h'
  · exact ⟨true, h⟩
  · exact ⟨false, h⟩
end NV
set_option Elab.async false
set_option linter.all false
set_option maxRecDepth 100000
namespace K49
open PySem PySem.Spec PyProof.Rows L2 NP NT NV NN
section
variable {P : Program} {w : World} {K : PySem.W.Frag} {mg : Str → Option Value} {base : Heap} {f g : Addr} {fd gd : FuncData}
theorem scReadWs : FnScope ["text", "wishes", "part"] ["text"] (defScope sReadWs) := ⟨rfl, rfl, rfl, by decide +kernel, rfl, by decide +kernel, by decide +kernel⟩
set_option maxHeartbeats 1000000 in
theorem ok_readWs {T T2 T3 gC gP gO : Addr} {dC dP dO : FuncData} {t99 : Tok} (F : Fun K "read_wishes" "read_wishes" sReadWs f fd) (M : Mg2 mg) (mstr : mg "str" = none) (m99 : mg "MOST_IN_WISHES" = some (.int 99 t99))
    (G : FnOk P w K mg base CX0 14 g gd ["text"] (spReadW T3)) (bG : Binds K gd ["text"] []) (kG : PySem.W.keepIn K (.ref g) = true) (mG : mg "read_as_wish" = some (.ref g))
    (C : FnOk P w K mg base CX0 1 gC dC ["writes"] spCkW) (bC : Binds K dC ["writes"] []) (kC : PySem.W.keepIn K (.ref gC) = true) (mC : mg "check_writes" = some (.ref gC))
    (Pa : FnOk P w K mg base CX0 1 gP dP ["text", "between"] spParts) (bP : Binds K dP ["text", "between"] []) (kP : PySem.W.keepIn K (.ref gP) = true) (mP : mg "parts_of" = some (.ref gP))
    (O : FnOk P w K mg base CX0 14 gO dO ["thing", "most"] (spIsWishes K T T2)) (bO : Binds K dO ["thing", "most"] []) (kO : PySem.W.keepIn K (.ref gO) = true) (mO : mg "is_wishes" = some (.ref gO)) : FnOk P w K mg base CX0 15 f fd ["text"] (spReadWs T T2 T3) := by
  refine fnJ F scReadWs (fun vs H Q E h => ?_) (fun cdv A outer s H vs Q E gp hcl hr h => ?_)
  · obtain ⟨qs, rfl, _⟩ := h
    rfl
  obtain ⟨qs, rfl, hn, ok, nT, hT, hT2, hT3, q⟩ := h
  have hr1 : Room 1 _ := hr.mono (by decide)
  refine ⟨_, jb_cons (js_expr (je_call C hr1 rfl mC kC bC .nil pass0 (jCa (je_callB cr_isStr (by rfl) M.base.isi (by decide +kernel) (jn (jv 0) (jn (je_ty (n := "str") (by rfl) mstr (by decide +kernel)) ja0))) ja0)))
    (jb_cons (js_setLc (i := 1) (own := [("part", 2)]) (g := gName 2) rfl scReadWs.nd rfl rfl (sw_true rfl rfl rfl (by decide +kernel)) (ji_list (je_call Pa hr1 rfl mP kP bP .nil pass0 (jn (jv 0) (jc je_str ja0)))) (blkOk_by (own := [("part", 2)]) (N := ["text", "wishes", "part"]) (sc := defScope sReadWs) (by decide +kernel))
      (fun _ _ _ _ _ => jg_name (i := 2) scReadWs.nd rfl (Or.inl rfl)) (fun _ _ _ _ _ => jts_nil) (fun _ _ _ _ _ => je_call G hr rfl mG kG bG .nil pass0 (jn (jv 2) ja0)))
    (jb_cons (js_expr (je_call C hr1 rfl mC kC bC .nil pass0 (jCa (je_call O hr rfl mO kO bO .nil pass0 (jn (jv 1) (jn (je_glob (v := .int 99) rfl m99 ⟨t99, rfl⟩) ja0))) ja0)))
    (jb_one (js_ret (jv 1))))), ?_⟩
  refine ⟨_, rfl, .str (txtWs qs), .str (txtWs qs), rfl, .dp (.str _), rfl, ?_⟩
  refine ⟨_, rfl, _, _, rfl, rfl, Nat.le_trans (Nat.add_le_add_right (ws_len hn ok) 2) (by decide), fun wp H1 e1 n1 g1 => ?_⟩
  rw [parts_ws ok] at g1
  refine ⟨wp, rfl, ⟨_, SqL.of g1⟩, fun D nD => ?_⟩
  have nD0 : H D = none := e1.free nD
  refine lc_list (K := K) (a := wp) (xs := (qs.map txtW).map V.str) (fun i H' => ∃ ws : List (Wsh × Addr), Same H1 H' ∧ ws.map (·.1) = qs.take i ∧ ws.length = i ∧ H' D = some (.lst (ws.map fun q => V.ref q.2)) ∧ ∀ q ∈ ws, H' q.2 = some (.tup (wshV q.1)) ∧ q.2 ≠ D ∧ H1 q.2 = none)
    ⟨[], same_new nD _, rfl, rfl, upd_same, fun q hq => nomatch hq⟩ (fun i H' _ ⟨_, s, _⟩ => s.seq (SqL.of g1)) ?_ ?_
  · rintro i x H2 hx ⟨ws, s2, ew, lw, gD, hw⟩
    rw [List.map_map, List.getElem?_map] at hx
    obtain ⟨y, hy, rfl⟩ := Option.map_eq_some_iff.mp hx
    have il : i < qs.length := (List.getElem?_eq_some_iff.mp hy).1
    refine ⟨rfl, _, rfl, y, rfl, ok y (List.mem_of_getElem? hy), (e1.trans s2) _ _ hT3, fun p H3 e3 np gp => ?_⟩
    refine ⟨_, e3 _ _ gD, ?_, ws ++ [(y, p)], fun b o h => ?_, ?_, ?_, ?_, fun z hz => ?_⟩
    · rw [List.length_map, lw]
      exact Nat.lt_of_lt_of_le il (Nat.le_trans hn (by decide))
    · rw [upd_ne (ne_of_none h nD)]
      exact e3 _ _ (s2 _ _ h)
    · rw [List.map_append, ew, List.take_add_one, hy]
      rfl
    · rw [List.length_append, lw]
      rfl
    · rw [upd_same, List.map_append]
      rfl
    · have pD : p ≠ D := fun e => by rw [e, gD] at np; cases np
      rcases List.mem_append.mp hz with hz | hz
      · obtain ⟨h1, h2, h3⟩ := hw z hz
        rw [upd_ne h2]
        exact ⟨e3 _ _ h1, h2, h3⟩
      · rw [List.mem_singleton.mp hz]
        show upd H3 D _ p = _ ∧ p ≠ D ∧ H1 p = none
        rw [upd_ne pD]
        exact ⟨gp, pD, s2.free np⟩
  · rintro H2 ⟨ws, s2, ew, lw, gD, hw⟩
    rw [List.length_map, List.length_map] at lw ew
    rw [List.take_length] at ew
    have s12 := e1.trans s2
    have wa : WsAt K H2 D ws := ⟨SqL.of gD, fun z hz => SqT.of (hw z hz).1⟩
    have ok2 : ∀ z ∈ ws, OkW 99 z.1 := fun z hz => ok z.1 (by rw [← ew]; exact List.mem_map_of_mem hz)
    refine ⟨_, rfl, D, 99, ws, rfl, wa, by omega, ok2, nT, s12 _ _ hT, s12 _ _ hT2, fun H3 e3 => ⟨rfl, ?_⟩⟩
    exact ⟨_, rfl, q D ws H3 ⟨s12.trans e3, nD0, e3 _ _ gD, fun z hz => ⟨e3 _ _ (hw z hz).1, (hw z hz).2.1, e1.free (hw z hz).2.2⟩⟩ ew⟩
theorem scNumW : FnScope ["number"] ["number"] (defScope sLNum) := ⟨rfl, rfl, rfl, by decide +kernel, rfl, by decide +kernel, by decide +kernel⟩
theorem ok_numW (F : Fun K "_law_number" "_law_number" sLNum f fd) (M : Mg mg) : FnOk P w K mg base CX0 1 f fd ["number"] spNumW := by
  refine fnJ F scNumW (fun vs H Q E h => ?_) (fun cdv A outer s H vs Q E gp hcl hr h => ?_)
  · obtain ⟨k, rfl, _⟩ := h
    rfl
  obtain ⟨k, rfl, k0, k1, q⟩ := h
  refine ⟨_, jb_one (js_ret (je_op op_add_str
        (je_ix ix_list (je_lst (jc je_str (jSu (je_ix ix_str je_str (je_op op_fdiv (jv 0) je_int) (fun _ _ => rfl)) ja0))) (je_callTy call_int1 (by rfl) M.int (by decide +kernel) (jCm (je_cmp op_gt (jv 0) je_int (nomark _)) ja0)) (fun _ _ => rfl))
        (je_ix ix_str je_str (je_op op_mod (jv 0) je_int) (fun _ _ => rfl)))), ?_⟩
  have one : ∀ c : Nat, (⟨#[c]⟩ : Str).length = 1 := fun c => rfl
  refine ⟨_, rfl, _, _, rfl, rfl, ⟨by decide, by decide⟩, digS, k / 10, _, rfl, rfl, by decide, dig_at (by omega) (by omega), (by show 2 ≤ sizeLine; decide), fun lp n2 => ?_⟩
  have e2 := same_new n2 (.lst [.str "", .str ⟨#[48 + (k / 10).toNat]⟩])
  have g2 := new_at n2 (.lst [.str "", .str ⟨#[48 + (k / 10).toNat]⟩])
  refine ⟨_, rfl, _, _, rfl, rfl, .inr ⟨_, rfl, ?_⟩⟩
  have lw := lawW_num k0 k1
  unfold lawW at lw
  have fin := q _ e2
  rw [← lw] at fin
  by_cases c : k > 9
  · rw [if_pos c] at fin
    rw [decide_eq_true c]
    exact ⟨lp, _, 1, .str ⟨#[48 + (k / 10).toNat]⟩, rfl, rfl, SqL.of g2, atI_nat (j := 1) rfl, _, rfl, _, _, rfl, rfl, (show (0 : Int) < 10 by decide), digS, k % 10, _, rfl, rfl, by decide, dig_at (by omega) (by omega), _, _, rfl, rfl, (by show 2 ≤ sizeLine; decide), fin⟩
  · rw [if_neg c] at fin
    rw [decide_eq_false c]
    exact ⟨lp, _, 0, .str "", rfl, rfl, SqL.of g2, atI_nat (j := 0) rfl, _, rfl, _, _, rfl, rfl, (show (0 : Int) < 10 by decide), digS, k % 10, _, rfl, rfl, by decide, dig_at (by omega) (by omega), _, _, rfl, rfl, (by show 1 ≤ sizeLine; decide), fin⟩
end
end K49
set_option Elab.async false
set_option linter.all false
set_option maxRecDepth 100000
namespace K49
open PySem PySem.Spec PyProof.Rows L2 NP NT NV NN
section
variable {P : Program} {w : World} {K : PySem.W.Frag} {mg : Str → Option Value} {base : Heap} {f g : Addr} {fd gd : FuncData}
theorem scWrW : FnScope ["wishes", "text", "word", "thing", "place"] ["wishes"] (defScope sLWr) := ⟨rfl, rfl, rfl, by decide +kernel, rfl, by decide +kernel, by decide +kernel⟩
set_option maxHeartbeats 2000000 in
theorem ok_writW (F : Fun K "_law_written" "_law_written" sLWr f fd) (M : Mg mg) (G : FnOk P w K mg base CX0 1 g gd ["number"] spNumW) (bG : Binds K gd ["number"] []) (kG : PySem.W.keepIn K (.ref g) = true) (mG : mg "_law_number" = some (.ref g)) : FnOk P w K mg base CX0 2 f fd ["wishes"] (spWritW K) := by
  refine fnJ F scWrW (fun vs H Q E h => ?_) (fun cdv A outer s H vs Q E gp hcl hr h => ?_)
  · obtain ⟨a, ws, rfl, _⟩ := h
    rfl
  obtain ⟨a, ws, rfl, wa, hn, ok, q⟩ := h
  refine ⟨_, jb_cons (js_set (i := 1) scWrW.nd rfl (Or.inl rfl) je_str)
    (jb_cons (js_for PassesOwn.never rfl (ji_list (jv 0)) (jg_tup rfl (jgs_cons (jg_name (i := 2) scWrW.nd rfl (Or.inl rfl)) (jgs_cons (jg_name (i := 3) scWrW.nd rfl (Or.inl rfl)) (jgs_cons (jg_name (i := 4) scWrW.nd rfl (Or.inl rfl)) jgs_nil))))
      (jb_one (js_set (i := 1) scWrW.nd rfl (Or.inl rfl) (je_op op_add_str (je_op op_add_str (je_op op_add_str (je_op op_add_str (je_op op_add_str (je_op op_add_str (jv 1) je_str) (jv 2)) je_str)
        (je_call G hr rfl mG kG bG .nil pass0 (jn (jv 3) ja0))) je_str) (je_call G hr rfl mG kG bG .nil pass0 (jn (jv 4) ja0))))))
    (jb_one (js_ret (je_op op_add_str (je_slice sl_str (jv 1) (jo_some je_int) jo_none) (je_op op_times je_str (je_callTy call_int1 (by rfl) M.int (by decide +kernel) (jCm (je_cmp (op_eqD hr.units) (jv 0) (je_lst ja0) (nomark _)) ja0))))))), ?_⟩
  have sz : 1000 ≤ sizeLine := by decide
  refine ⟨_, rfl, a, rfl, ⟨_, wa.at_⟩, for_list (K := K) (a := a) (xs := ws.map fun q => V.ref q.2) (fun i σ H' => Same H H' ∧ ∃ (x : Str) (v2 v3 v4 : Option V), σ = [some (.ref a), some (.str x), v2, v3, v4] ∧ TL.tl x = accW ((ws.map (·.1)).take i))
    ⟨Same.refl H, _, _, _, _, rfl, rfl⟩ (fun i σ H' _ ⟨s, _⟩ => s.seq wa.at_) ?_ ?_⟩
  · rintro i y σ H1 hy ⟨s1, x, v2, v3, v4, rfl, hx⟩
    rw [List.getElem?_map] at hy
    obtain ⟨z, hz, rfl⟩ := Option.map_eq_some_iff.mp hy
    have zm := List.mem_of_getElem? hz
    obtain ⟨⟨b, t, p⟩, za⟩ := z
    have okz : OkW 99 (b, t, p) := ok _ zm
    have t0 : 0 ≤ t := okz.t0
    have t1 : t ≤ 99 := okz.t1
    have p0 : 0 ≤ p := okz.p0
    have p1 : p ≤ 99 := okz.p1
    have xl : x.length ≤ 660 := by
      rw [TL.len_tl, hx]
      refine Nat.le_trans (accW_len fun j hj => ?_) (show 11 * ((ws.map (·.1)).take i).length ≤ 660 by rw [List.length_take, List.length_map]; omega)
      obtain ⟨u, hu, rfl⟩ := List.mem_map.mp (List.mem_of_mem_take hj)
      exact ok u hu
    have l1 := (word_free b).2.2
    have l1' : (wordS (b, t, p).fst).length ≤ 3 := l1
    have l2 := (num_figs t0 (show t < 100 by omega)).2.2
    have l3 := (num_figs p0 (show p < 100 by omega)).2.2
    have f1 : (((" " : String) : Str)).length = 1 := rfl
    have f2 : ((("; " : String) : Str)).length = 2 := rfl
    refine ⟨za, wshV (b, t, p), rfl, (wa.same s1).each _ zm, rfl, _, _, rfl, _, _, rfl, _, _, rfl, rfl, ?_⟩
    refine ⟨_, rfl, _, _, rfl, rfl, by omega, ?_⟩
    refine ⟨_, rfl, _, _, rfl, rfl, by rw [strLen_append]; omega, ?_⟩
    refine ⟨_, _, rfl, rfl, by rw [strLen_append, strLen_append]; omega, ?_⟩
    refine ⟨_, rfl, t, rfl, t0, by omega, fun H2 e2 => ?_⟩
    refine ⟨_, _, rfl, rfl, by simp only [strLen_append]; omega, ?_⟩
    refine ⟨_, _, rfl, rfl, by simp only [strLen_append]; omega, ?_⟩
    refine ⟨_, rfl, p, rfl, p0, by omega, fun H3 e3 => ?_⟩
    refine ⟨_, _, rfl, rfl, by simp only [strLen_append]; omega, ?_⟩
    refine ⟨s1.trans (e2.trans e3), _, _, _, _, rfl, ?_⟩
    rw [List.take_add_one, List.getElem?_map, hz]
    show _ = accW ((ws.map (·.1)).take i ++ [(b, t, p)])
    rw [accW_put, txtW_tl]
    simp only [TL.tl_append, hx]
    have g1 : TL.tl " " = [32] := by decide +kernel
    have g2 : TL.tl "; " = [59, 32] := by decide +kernel
    rw [g1, g2]
    simp
  · rintro σ H1 ⟨s1, x, v2, v3, v4, rfl, hx⟩
    rw [List.length_map] at hx
    have tk : (ws.map (·.1)).take ws.length = ws.map (·.1) := List.take_of_length_le (by rw [List.length_map]; exact Nat.le_refl _)
    rw [tk] at hx
    have xl : x.length ≤ 660 := by
      rw [TL.len_tl, hx]
      refine Nat.le_trans (accW_len fun j hj => ?_) (show 11 * (ws.map (·.1)).length ≤ 660 by rw [List.length_map]; omega)
      obtain ⟨u, hu, rfl⟩ := List.mem_map.mp hj
      exact ok u hu
    refine ⟨_, rfl, 2, rfl, x, rfl, by omega, ?_⟩
    refine ⟨_, rfl, (by show 0 ≤ sizeLine; decide), fun ep n2 => ?_⟩
    have e2 := same_new n2 (.lst [])
    have dv := dp_ws (wa.same (s1.trans e2))
    refine ⟨_, .list [], dv, .lst (SqL.of (new_at n2 _)) .nil, shaped_ws _, by decide, .inr ⟨_, rfl, ?_⟩⟩
    have cl := cutS_length x (some 2) none
    have wi := writtenW hx
    rw [eqv_w0]
    by_cases z : ws.map (·.1) = []
    · rw [decide_eq_true z]
      rw [if_pos z] at wi
      refine ⟨_, 1, rfl, rfl, .inr ⟨rfl, _, _, rfl, rfl, ?_, ?_⟩⟩
      · have : ((("none" : String) : Str)).length = 4 := rfl
        omega
      · have := q _ (s1.trans e2)
        rw [← wi] at this
        exact this
    · rw [decide_eq_false z]
      rw [if_neg z] at wi
      refine ⟨_, 0, rfl, rfl, .inl ⟨rfl, _, _, rfl, rfl, ?_, ?_⟩⟩
      · have : (Str.empty).length = 0 := rfl
        omega
      · have := q _ (s1.trans e2)
        rw [← wi] at this
        exact this
end
end K49
set_option Elab.async false
set_option linter.all false
set_option maxRecDepth 100000
namespace K49
open PySem PySem.Spec PyProof.Rows L2 NP NT NV NN
section
variable {P : Program} {w : World} {K : PySem.W.Frag} {mg : Str → Option Value} {base : Heap} {f g : Addr} {fd gd : FuncData}
theorem scSame : FnScope ["found", "due", "k"] ["found", "due"] (defScope sSame) := ⟨rfl, rfl, rfl, by decide +kernel, rfl, by decide +kernel, by decide +kernel⟩
theorem ok_sameA (F : Fun K "_law_same" "_law_same" sSame f fd) (M : Mg2 mg) (mstr : mg "str" = none) : FnOk P w K mg base CX0 1 f fd ["found", "due"] spSameA := by
  refine fnJ F scSame (fun vs H Q E h => ?_) (fun cdv A outer s H vs Q E gp hcl hr h => ?_)
  · obtain ⟨v, rfl, _⟩ := h
    rfl
  obtain ⟨v, rfl, hv, q⟩ := h
  refine ⟨_, jb_cons (js_if (jt_val (je_callB NT.cr_isinstT (by rfl) M.base.isi (by decide +kernel) (jn (jv 1) (jTu (je_tup (jn (je_ty (n := "tuple") (by rfl) M.base.tuple (by decide +kernel)) (jn (je_ty (n := "list") (by rfl) M.base.list (by decide +kernel)) ja0))) ja0)))) jb_never jb_nil)
    (jb_cons (js_if (jt_w (jw_or (jt_cmp op_isN (jv 1) je_non (nomark _)) (jw_or1 (jt_val (je_callB cr_isStr (by rfl) M.base.isi (by decide +kernel) (jn (jv 1) (jn (je_ty (n := "str") (by rfl) mstr (by decide +kernel)) ja0))))))) (jb_one (js_ret (je_cmp op_eq (jv 0) (jv 1) (nomark _)))) jb_nil)
    (jb_one (js_ret (je_and (je_callB cr_isinst (by rfl) M.base.isi (by decide +kernel) (jn (jv 0) (jn (je_ty (n := "int") (by rfl) M.base.int (by decide +kernel)) ja0)))
      (je_and (je_not (je_callB cr_isinst (by rfl) M.base.isi (by decide +kernel) (jn (jv 0) (jn (je_ty (n := "bool") (by rfl) M.base.bool (by decide +kernel)) ja0))))
      (je_one (je_cmp op_eq (jv 0) (jv 1) (nomark _)))))))), ?_⟩
  refine ⟨_, rfl, (by show 2 ≤ sizeLine; decide), fun tp n1 => ?_⟩
  have e1 := same_new n1 (.tup [.ty "tuple", .ty "list"])
  have g1 := new_at n1 (.tup [.ty "tuple", .ty "list"])
  have fin := q _ e1
  generalize upd H tp (.tup [.ty "tuple", .ty "list"]) = H1 at g1 fin
  rcases hv with ⟨i, rfl⟩ | ⟨x, rfl⟩
  · refine ⟨_, tp, .int i, rfl, g1, .int i, _, rfl, itF rfl ?_⟩
    refine ⟨_, rfl, rfl, _, rfl, itF rfl ⟨_, rfl, .int i, .int i, rfl, .dp (.int i), _, rfl, itF rfl ?_⟩⟩
    refine ⟨_, rfl, .int i, "int", .int i, rfl, .dp (.int i), .inl rfl, _, rfl, itT rfl ?_⟩
    refine ⟨_, rfl, .int i, "bool", .int i, rfl, .dp (.int i), .inr (.inl rfl), _, rfl, _, rfl, itT rfl ?_⟩
    refine ⟨_, rfl, _, rfl, rfl, ?_⟩
    simpa using fin
  · refine ⟨_, tp, .str x, rfl, g1, .str x, _, rfl, itF rfl ?_⟩
    refine ⟨_, rfl, rfl, _, rfl, itF rfl ⟨_, rfl, .str x, .str x, rfl, .dp (.str x), _, rfl, itT rfl ?_⟩⟩
    refine ⟨_, rfl, _, rfl, rfl, ?_⟩
    simpa using fin
set_option maxHeartbeats 1000000 in
theorem ok_sameT (F : Fun K "_law_same" "_law_same" sSame f fd) (M : Mg2 mg) (G : FnOk P w K mg base CX0 1 f fd ["found", "due"] spSameA) (bG : Binds K fd ["found", "due"] []) (kG : PySem.W.keepIn K (.ref f) = true) (mG : mg "_law_same" = some (.ref f)) : FnOk P w K mg base CX0 2 f fd ["found", "due"] spSameT := by
  refine fnJ F scSame (fun vs H Q E h => ?_) (fun cdv A outer s H vs Q E gp hcl hr h => ?_)
  · obtain ⟨a, b, w, rfl, _⟩ := h
    rfl
  obtain ⟨a, b, w, rfl, ha, hb, q⟩ := h
  refine ⟨_, jb_cons (js_if (jt_val (je_callB NT.cr_isinstT (by rfl) M.base.isi (by decide +kernel) (jn (jv 1) (jTu (je_tup (jn (je_ty (n := "tuple") (by rfl) M.base.tuple (by decide +kernel)) (jn (je_ty (n := "list") (by rfl) M.base.list (by decide +kernel)) ja0))) ja0))))
      (jb_cons (js_if (jt_w (jw_or (jt_cmp op_ne (je_callB cr_isinst (by rfl) M.base.isi (by decide +kernel) (jn (jv 0) (jn (je_ty (n := "tuple") (by rfl) M.base.tuple (by decide +kernel)) ja0))) (je_callB cr_isinst (by rfl) M.base.isi (by decide +kernel) (jn (jv 1) (jn (je_ty (n := "tuple") (by rfl) M.base.tuple (by decide +kernel)) ja0))) (nomark _))
        (jw_or1 (jt_cmp op_ne (je_callB cr_isinst (by rfl) M.base.isi (by decide +kernel) (jn (jv 0) (jn (je_ty (n := "list") (by rfl) M.base.list (by decide +kernel)) ja0))) (je_callB cr_isinst (by rfl) M.base.isi (by decide +kernel) (jn (jv 1) (jn (je_ty (n := "list") (by rfl) M.base.list (by decide +kernel)) ja0))) (nomark _))))) jb_never jb_nil)
      (jb_cons (js_if (jt_cmp op_ne (je_callB call_len_seq rfl M.base.len PySem.boot_len (jn (jv 0) ja0)) (je_callB call_len_seq rfl M.base.len PySem.boot_len (jn (jv 1) ja0)) (nomark _)) jb_never jb_nil)
      (jb_one (js_ret (je_cmp (op_eqD hr.units) (je_lc (own := [("k", 2)]) (g := gName 2) rfl scSame.nd (ji_range1 rfl M.base.range (jCa (je_callB call_len_seq rfl M.base.len PySem.boot_len (jn (jv 1) ja0)) ja0)) (blkOk_by (own := [("k", 2)]) (N := ["found", "due", "k"]) (sc := defScope sSame) (by decide +kernel))
        (fun _ _ _ _ _ => jg_name (i := 2) scSame.nd rfl (Or.inl rfl)) (fun _ _ _ _ _ => jts_one (jt_not (jt_val (je_call G hr rfl mG kG bG .nil pass0 (jSu (je_ix (NT.ix_tupK (K := K) rfl) (jv 0) (jv 2) (fun _ _ => rfl)) (jSu (je_ix (NT.ix_tupK (K := K) rfl) (jv 1) (jv 2) (fun _ _ => rfl)) ja0)))))) (fun _ _ _ _ _ => jv 2)) (je_lst ja0) (nomark _)))))) jb_nil) jb_never, ?_⟩
  refine ⟨_, rfl, (by show 2 ≤ sizeLine; decide), fun tp n1 => ?_⟩
  have e1 := same_new n1 (.tup [.ty "tuple", .ty "list"])
  generalize hH1 : upd H tp (.tup [.ty "tuple", .ty "list"]) = H1 at *
  have ha1 := e1 _ _ ha
  have hb1 := e1 _ _ hb
  have da : Dp K H1 (.ref a) _ := dp_wsh (SqT.of ha1)
  have db : Dp K H1 (.ref b) _ := dp_wsh (SqT.of hb1)
  refine ⟨_, tp, _, rfl, by rw [← hH1]; exact upd_same, db, _, rfl, itT rfl ?_⟩
  refine ⟨_, rfl, _, "tuple", _, rfl, .dp da, .inr (.inr (.inl rfl)), _, rfl, _, "tuple", _, rfl, .dp db, .inr (.inr (.inl rfl)), rfl, _, rfl, itF rfl ?_⟩
  refine ⟨_, rfl, _, "list", _, rfl, .dp da, .inr (.inr (.inr rfl)), _, rfl, _, "list", _, rfl, .dp db, .inr (.inr (.inr rfl)), rfl, _, rfl, itF rfl ?_⟩
  refine ⟨_, rfl, a, _, rfl, .inr (SqT.of ha1), _, rfl, b, _, rfl, .inr (SqT.of hb1), rfl, _, rfl, itF (by simp) ?_⟩
  have b62 : (2 : Int) ^ 62 = 4611686018427387904 := by decide
  refine ⟨_, rfl, b, _, rfl, .inr (SqT.of hb1), _, rfl, by rw [b62, (show (wshV w).length = 3 from rfl)]; decide, by rw [b62, (show (wshV w).length = 3 from rfl)]; decide, fun D nD => ?_⟩
  refine lc_range (lo := 0) (n := (((wshV w).length : Nat) : Int).toNat) (fun i H' => Same H1 H' ∧ H' D = some (.lst [])) ⟨same_new nD _, upd_same⟩ ?_ ?_
  · rintro i H2 hi ⟨s2, g2⟩
    have hin : i < 3 := hi
    obtain ⟨v, hx, hv⟩ := wsh_at w hin
    refine ⟨rfl, ?_⟩
    have z0 : (0 : Int) + (i : Int) = (i : Int) := Int.zero_add _
    rw [z0]
    refine ⟨_, rfl, _, rfl, a, _, i, _, rfl, rfl, SqT.of (s2 _ _ ha1), atI_nat hx, _, rfl, _, rfl, b, _, i, _, rfl, rfl, SqT.of (s2 _ _ hb1), atI_nat hx, v, rfl, hv, fun H3 e3 => ⟨_, rfl, itF rfl ⟨s2.trans e3, e3 _ _ g2⟩⟩⟩
  · rintro H2 ⟨s2, g2⟩
    refine ⟨(by show 0 ≤ sizeLine; decide), fun lp n3 => ?_⟩
    have e3 := same_new n3 (.lst [])
    refine ⟨.list [], .list [], .lst (SqL.of (e3 _ _ g2)) .nil, .lst (SqL.of (new_at n3 _)) .nil, by decide, by decide, ?_⟩
    exact q _ (e1.trans (s2.trans e3))
set_option maxHeartbeats 1000000 in
theorem ok_sameW (F : Fun K "_law_same" "_law_same" sSame f fd) (M : Mg2 mg) (G : FnOk P w K mg base CX0 2 f fd ["found", "due"] spSameT) (bG : Binds K fd ["found", "due"] []) (kG : PySem.W.keepIn K (.ref f) = true) (mG : mg "_law_same" = some (.ref f)) : FnOk P w K mg base CX0 3 f fd ["found", "due"] spSameW := by
  refine fnJ F scSame (fun vs H Q E h => ?_) (fun cdv A outer s H vs Q E gp hcl hr h => ?_)
  · obtain ⟨a, b, ws, us, rfl, _⟩ := h
    rfl
  obtain ⟨a, b, ws, us, rfl, ha, hb, hw, hu, he, hn, q⟩ := h
  refine ⟨_, jb_cons (js_if (jt_val (je_callB NT.cr_isinstT (by rfl) M.base.isi (by decide +kernel) (jn (jv 1) (jTu (je_tup (jn (je_ty (n := "tuple") (by rfl) M.base.tuple (by decide +kernel)) (jn (je_ty (n := "list") (by rfl) M.base.list (by decide +kernel)) ja0))) ja0))))
      (jb_cons (js_if (jt_w (jw_or (jt_cmp op_ne (je_callB cr_isinst (by rfl) M.base.isi (by decide +kernel) (jn (jv 0) (jn (je_ty (n := "tuple") (by rfl) M.base.tuple (by decide +kernel)) ja0))) (je_callB cr_isinst (by rfl) M.base.isi (by decide +kernel) (jn (jv 1) (jn (je_ty (n := "tuple") (by rfl) M.base.tuple (by decide +kernel)) ja0))) (nomark _))
        (jw_or1 (jt_cmp op_ne (je_callB cr_isinst (by rfl) M.base.isi (by decide +kernel) (jn (jv 0) (jn (je_ty (n := "list") (by rfl) M.base.list (by decide +kernel)) ja0))) (je_callB cr_isinst (by rfl) M.base.isi (by decide +kernel) (jn (jv 1) (jn (je_ty (n := "list") (by rfl) M.base.list (by decide +kernel)) ja0))) (nomark _))))) jb_never jb_nil)
      (jb_cons (js_if (jt_cmp op_ne (je_callB call_len_seq rfl M.base.len PySem.boot_len (jn (jv 0) ja0)) (je_callB call_len_seq rfl M.base.len PySem.boot_len (jn (jv 1) ja0)) (nomark _)) jb_never jb_nil)
      (jb_one (js_ret (je_cmp (op_eqD hr.units) (je_lc (own := [("k", 2)]) (g := gName 2) rfl scSame.nd (ji_range1 rfl M.base.range (jCa (je_callB call_len_seq rfl M.base.len PySem.boot_len (jn (jv 1) ja0)) ja0)) (blkOk_by (own := [("k", 2)]) (N := ["found", "due", "k"]) (sc := defScope sSame) (by decide +kernel))
        (fun _ _ _ _ _ => jg_name (i := 2) scSame.nd rfl (Or.inl rfl)) (fun _ _ _ _ _ => jts_one (jt_not (jt_val (je_call G hr rfl mG kG bG .nil pass0 (jSu (je_ix (NT.ix_listK (K := K) rfl) (jv 0) (jv 2) (fun _ _ => rfl)) (jSu (je_ix (NT.ix_listK (K := K) rfl) (jv 1) (jv 2) (fun _ _ => rfl)) ja0)))))) (fun _ _ _ _ _ => jv 2)) (je_lst ja0) (nomark _)))))) jb_nil) jb_never, ?_⟩
  refine ⟨_, rfl, (by show 2 ≤ sizeLine; decide), fun tp n1 => ?_⟩
  have e1 := same_new n1 (.tup [.ty "tuple", .ty "list"])
  generalize hH1 : upd H tp (.tup [.ty "tuple", .ty "list"]) = H1 at *
  have ha1 := e1 _ _ ha
  have hb1 := e1 _ _ hb
  have da : Dp K H1 (.ref a) _ := dp_ws ⟨SqL.of ha1, fun z hz => SqT.of (e1 _ _ (hw z hz))⟩
  have db : Dp K H1 (.ref b) _ := dp_ws ⟨SqL.of hb1, fun z hz => SqT.of (e1 _ _ (hu z hz))⟩
  refine ⟨_, tp, _, rfl, by rw [← hH1]; exact upd_same, db, _, rfl, itT rfl ?_⟩
  refine ⟨_, rfl, _, "tuple", _, rfl, .dp da, .inr (.inr (.inl rfl)), _, rfl, _, "tuple", _, rfl, .dp db, .inr (.inr (.inl rfl)), rfl, _, rfl, itF rfl ?_⟩
  refine ⟨_, rfl, _, "list", _, rfl, .dp da, .inr (.inr (.inr rfl)), _, rfl, _, "list", _, rfl, .dp db, .inr (.inr (.inr rfl)), rfl, _, rfl, itF rfl ?_⟩
  have ln : ws.length = us.length := by have := congrArg List.length he; rw [List.length_map, List.length_map] at this; exact this
  refine ⟨_, rfl, a, _, rfl, .inl (SqL.of ha1), _, rfl, b, _, rfl, .inl (SqL.of hb1), rfl, _, rfl, itF (by rw [List.length_map, List.length_map, ln]; simp) ?_⟩
  have b62 : (2 : Int) ^ 62 = 4611686018427387904 := by decide
  refine ⟨_, rfl, b, _, rfl, .inl (SqL.of hb1), _, rfl, by rw [b62, List.length_map]; omega, by rw [b62, List.length_map]; omega, fun D nD => ?_⟩
  refine lc_range (lo := 0) (n := ((((us.map fun q => V.ref q.2).length : Nat) : Int)).toNat) (fun i H' => Same H1 H' ∧ H' D = some (.lst [])) ⟨same_new nD _, upd_same⟩ ?_ ?_
  · rintro i H2 hi ⟨s2, g2⟩
    have hin : i < us.length := by rw [List.length_map, Int.toNat_natCast] at hi; exact hi
    have hx : (ws.map fun q => V.ref q.2)[i]? = some (.ref ws[i].2) := by rw [List.getElem?_map, List.getElem?_eq_getElem (by omega)]; rfl
    have hy : (us.map fun q => V.ref q.2)[i]? = some (.ref us[i].2) := by rw [List.getElem?_map, List.getElem?_eq_getElem hin]; rfl
    have hxy : us[i].1 = ws[i].1 := by
      have h1 : (ws.map (·.1))[i]? = some ws[i].1 := by rw [List.getElem?_map, List.getElem?_eq_getElem (by omega)]; rfl
      have h2 : (us.map (·.1))[i]? = some us[i].1 := by rw [List.getElem?_map, List.getElem?_eq_getElem hin]; rfl
      rw [he, h2] at h1
      exact Option.some.inj h1
    have h1 := (e1.trans s2) _ _ (hw ws[i] (List.getElem_mem _))
    have h2 := (e1.trans s2) _ _ (hu us[i] (List.getElem_mem _))
    rw [hxy] at h2
    refine ⟨rfl, ?_⟩
    have z0 : (0 : Int) + (i : Int) = (i : Int) := Int.zero_add _
    rw [z0]
    refine ⟨_, rfl, _, rfl, a, _, i, _, rfl, rfl, SqL.of (s2 _ _ ha1), atI_nat hx, _, rfl, _, rfl, b, _, i, _, rfl, rfl, SqL.of (s2 _ _ hb1), atI_nat hy, _, _, ws[i].1, rfl, h1, h2, fun H3 e3 => ⟨_, rfl, itF rfl ⟨s2.trans e3, e3 _ _ g2⟩⟩⟩
  · rintro H2 ⟨s2, g2⟩
    refine ⟨(by show 0 ≤ sizeLine; decide), fun lp n3 => ?_⟩
    have e3 := same_new n3 (.lst [])
    refine ⟨.list [], .list [], .lst (SqL.of (e3 _ _ g2)) .nil, .lst (SqL.of (new_at n3 _)) .nil, by decide, by decide, ?_⟩
    exact q _ (e1.trans (s2.trans e3))
end
end K49
set_option Elab.async false
set_option linter.all false
set_option maxRecDepth 100000
namespace K49
open PySem PySem.Spec PyProof.Rows L2 NP NT NV NN
section
variable {P : Program} {w : World} {K : PySem.W.Frag} {mg : Str → Option Value} {base : Heap} {f g : Addr} {fd gd : FuncData}
theorem scLWs : FnScope ["well", "most", "found", "k", "one", "other", "j"] ["well", "most"] (defScope sLWs) := ⟨rfl, rfl, rfl, by decide +kernel, rfl, by decide +kernel, by decide +kernel⟩
set_option maxHeartbeats 4000000 in
theorem ok_lws (F : Fun K "_law_wishes" "_law_wishes" sLWs f fd) (M : Mg mg) (G : FnOk P w K mg base CX0 1 g gd ["well", "many"] NP.spDraw2) (bG : Binds K gd ["well", "many"] []) (kG : PySem.W.keepIn K (.ref g) = true) (mG : mg "_law_draw" = some (.ref g)) :
    FnOk P w K mg base CX0 2 f fd ["well", "most"] (spWishes K) := by
  refine fnJ F scLWs (fun vs H Q E h => ?_) (fun cdv A outer s H vs Q E gp hcl hr h => ?_)
  · obtain ⟨p, z, y, rfl, _⟩ := h
    rfl
  obtain ⟨p, z, y, rfl, hz, q⟩ := h
  refine ⟨_, jb_cons (js_set (i := 2) scLWs.nd rfl (Or.inl rfl) (je_lst ja0))
    (jb_cons (js_for PassesOwn.never rfl (ji_range1 rfl M.range (jSu (je_ix ix_list (je_lst (jCa (je_call G hr rfl mG kG bG .nil pass0 (jn (jv 0) (ji_ ja0))) (jCa (je_call G hr rfl mG kG bG .nil pass0 (jn (jv 0) (jBi (je_op op_add (jv 1) je_int) ja0))) (jn (jv 1) ja0))))
        (je_ix ix_list (je_lst (ji_ (ji_ (ji_ (ji_ (ji_ (ji_ ja0))))))) (je_call G hr rfl mG kG bG .nil pass0 (jn (jv 0) (ji_ ja0))) (fun _ _ => rfl)) (fun _ _ => rfl)) ja0)) (jg_name (i := 3) scLWs.nd rfl (Or.inl rfl))
      (jb_cons (js_asg (je_lc (own := [("j", 6)]) (g := gName 6) rfl scLWs.nd (ji_range1 rfl M.range (ji_ ja0)) (blkOk_by (own := [("j", 6)]) (N := ["well", "most", "found", "k", "one", "other", "j"]) (sc := defScope sLWs) (by decide +kernel))
          (fun _ _ _ _ _ => jg_name (i := 6) scLWs.nd rfl (Or.inl rfl)) (fun _ _ _ _ _ => jts_nil)
          (fun _ _ _ _ _ => je_ix (NT.ix_listK (K := K) rfl) (je_lst (jCa (je_call G hr rfl mG kG bG .nil pass0 (jn (jv 0) (ji_ ja0))) (jCa (je_call G hr rfl mG kG bG .nil pass0 (jn (jv 0) (ji_ ja0))) (ji_ ja0)))) (je_call G hr rfl mG kG bG .nil pass0 (jn (jv 0) (ji_ ja0))) (fun _ _ => rfl)))
          (NW.jg_tupL rfl (jgs_cons (jg_name (i := 4) scLWs.nd rfl (Or.inl rfl)) (jgs_cons (jg_name (i := 5) scLWs.nd rfl (Or.inl rfl)) jgs_nil))))
      (jb_one (js_expr (je_append (jv 2) (jTu (je_tup (jSu (je_ix ix_list (je_lst (jc je_str (jc je_str ja0))) (je_call G hr rfl mG kG bG .nil pass0 (jn (jv 0) (ji_ ja0))) (fun _ _ => rfl)) (jn (jv 4) (jn (jv 5) ja0)))) ja0))))))
    (jb_one (js_ret (jv 2)))), ?_⟩
  have b62 : (2 : Int) ^ 62 = 4611686018427387904 := by decide
  refine ⟨(by show 0 ≤ sizeLine; decide), fun fp n1 => ?_⟩
  have e1 := same_new n1 (.lst [])
  have g1 := new_at n1 (.lst [])
  have pf : p ≠ fp := ne_of_none hz n1
  refine ⟨_, rfl, p, z, y, 4, rfl, e1 _ _ hz, by decide, by decide, fun r1 z1 y1 H1 a0 a1 s1 w1 => ?_⟩
  refine ⟨_, rfl, _, rfl, _, _, rfl, rfl, p, z1, y1, _, rfl, w1, by decide, by decide, fun r2 z2 y2 H2 b0 b1 s2 w2 => ?_⟩
  refine ⟨_, rfl, (by show 3 ≤ sizeLine; decide), fun lp n3 => ?_⟩
  have e3 := same_new n3 (.lst [.int r1, .int r2, .int 60])
  have g3 := new_at n3 (.lst [.int r1, .int r2, .int 60])
  refine ⟨(by show 6 ≤ sizeLine; decide), fun lq n4 => ?_⟩
  have e4 := same_new n4 (.lst [.int 0, .int 0, .int 0, .int 1, .int 1, .int 2])
  have g4 := new_at n4 (.lst [.int 0, .int 0, .int 0, .int 1, .int 1, .int 2])
  have s14 : SameBut p H (upd (upd H2 lp (.lst [.int r1, .int r2, .int 60])) lq (.lst [.int 0, .int 0, .int 0, .int 1, .int 1, .int 2])) := SameBut.then (SameBut.then (SameBut.trans (SameBut.trans (Same.but e1) s1) s2) e3) e4
  have s14f : SameBut p _ (upd (upd H2 lp (.lst [.int r1, .int r2, .int 60])) lq (.lst [.int 0, .int 0, .int 0, .int 1, .int 1, .int 2])) := SameBut.then (SameBut.then (SameBut.trans s1 s2) e3) e4
  have f4 := s14f _ _ pf.symm g1
  have w4 := e4 _ _ (e3 _ _ w2)
  have nlp : lp ≠ p := (ne_of_none w2 n3).symm
  have nlq : lq ≠ p := (ne_of_none (e3 _ _ w2) n4).symm
  have g34 := e4 _ _ g3
  clear s14f
  generalize upd (upd H2 lp (.lst [.int r1, .int r2, .int 60])) lq (.lst [.int 0, .int 0, .int 0, .int 1, .int 1, .int 2]) = H4 at s14 f4 w4 g34 g4
  refine ⟨_, rfl, p, z2, y2, 6, rfl, w4, by decide, by decide, fun r3 z3 y3 H5 c0 c1 s5 w5 => ?_⟩
  obtain ⟨v, hv, i, rfl, vi⟩ := at6 (i0 := 0) (i1 := 0) (i2 := 0) (i3 := 1) (i4 := 1) (i5 := 2) c0 c1
  have hi0 : 0 ≤ i ∧ i < 3 := by rcases vi with h | h | h | h | h | h <;> subst h <;> exact ⟨by decide, by decide⟩
  refine ⟨lq, _, r3, .int i, rfl, rfl, SqL.of (s5 _ _ nlq g4), hv, ?_⟩
  obtain ⟨n, hn, vn⟩ := at3i (x := r1) (y := r2) (z := 60) hi0.1 hi0.2
  have nn : 0 ≤ n ∧ n ≤ 60 := by rcases vn with h | h | h <;> omega
  refine ⟨lp, _, i, .int n, rfl, rfl, SqL.of (s5 _ _ nlp g34), hn, ?_⟩
  have sH5 := SameBut.trans s14 s5
  refine ⟨n, rfl, by rw [b62]; omega, by rw [b62]; omega, for_range (lo := 0) (n := n.toNat) (fun i σ H' => ∃ (ws : List (Wsh × Addr)) (z' y' : Int) (v3 v4 v5 v6 : Option V), σ = [some (.ref p), some (.int 60), some (.ref fp), v3, v4, v5, v6] ∧ H' fp = some (.lst (ws.map fun q => V.ref q.2)) ∧ ws.length = i ∧ (∀ q ∈ ws, OkW 99 q.1) ∧ SameBut p H H' ∧ H' p = some (.lst [.int z', .int y']) ∧ ∀ q ∈ ws, H' q.2 = some (.tup (wshV q.1)) ∧ H q.2 = none ∧ q.2 ≠ fp)
    ⟨[], z3, y3, _, _, _, _, rfl, s5 _ _ pf.symm f4, rfl, (fun q hq => nomatch hq), sH5, w5, fun q hq => nomatch hq⟩ ?_ ?_⟩
  · rintro i σ H6 hi ⟨ws, z6, y6, v3, v4, v5, v6, rfl, gf, lw, ok, s6, w6, each⟩
    have hin : i < 60 := by have : i < n.toNat := hi; omega
    refine ⟨2, rfl, by rw [b62]; omega, by rw [b62]; omega, fun D nD => ?_⟩
    have pD : p ≠ D := ne_of_none w6 nD
    have e6 := same_new nD (.lst [])
    refine lc_range (lo := 0) (n := (2 : Int).toNat) (fun j H' => ∃ (acc : List Int) (z' y' : Int), H' D = some (.lst (acc.map V.int)) ∧ acc.length = j ∧ (∀ k ∈ acc, 0 ≤ k ∧ k ≤ 99) ∧ SameBut p H6 H' ∧ H' p = some (.lst [.int z', .int y']))
      ⟨[], z6, y6, upd_same, rfl, (fun k hk => nomatch hk), Same.but e6, e6 _ _ w6⟩ ?_ ?_
    · rintro j H7 hj ⟨acc, z7, y7, gD, la, ha, s7, w7⟩
      refine ⟨rfl, ?_⟩
      refine ⟨_, rfl, p, z7, y7, 10, rfl, w7, by decide, by decide, fun r1 z1 y1 H1 a0 a1 s1 w1 => ?_⟩
      refine ⟨_, rfl, p, z1, y1, 100, rfl, w1, by decide, by decide, fun r2 z2 y2 H2 b0 b1 s2 w2 => ?_⟩
      refine ⟨(by show 3 ≤ sizeLine; decide), fun lp n3 => ?_⟩
      have e3 := same_new n3 (.lst [.int r1, .int r2, .int 99])
      have g3 := new_at n3 (.lst [.int r1, .int r2, .int 99])
      have w3 := e3 _ _ w2
      have nlp : lp ≠ p := (ne_of_none w2 n3).symm
      refine ⟨_, rfl, p, z2, y2, 3, rfl, w3, by decide, by decide, fun r3 z3 y3 H8 c0 c1 s8 w8 => ?_⟩
      obtain ⟨m, hm, vm⟩ := at3i (x := r1) (y := r2) (z := 99) c0 c1
      have mm : 0 ≤ m ∧ m ≤ 99 := by rcases vm with h | h | h <;> omega
      refine ⟨lp, _, r3, .int m, rfl, rfl, SqL.of (s8 _ _ nlp g3), hm, ?_⟩
      have s78 : SameBut p H7 H8 := SameBut.trans (SameBut.then (SameBut.trans s1 s2) e3) s8
      refine ⟨_, s78 _ _ pD.symm gD, ?_, acc ++ [m], z3, y3, ?_, ?_, ?_, fun b o nb h => ?_, ?_⟩
      · rw [List.length_map, la]
        exact Nat.lt_of_lt_of_le (show j < 2 from hj) (by decide)
      · rw [upd_same, List.map_append]; rfl
      · rw [List.length_append, la]; rfl
      · intro k hk
        rcases List.mem_append.mp hk with hk | hk
        · exact ha k hk
        · rw [List.mem_singleton.mp hk]; exact mm
      · rw [upd_ne (ne_of_none h nD)]
        exact s78 _ _ nb (s7 _ _ nb h)
      · rw [upd_ne pD]; exact w8
    · rintro H7 ⟨acc, z7, y7, gD, la, ha, s7, w7⟩
      obtain ⟨t, pl, rfl⟩ : ∃ t pl, acc = [t, pl] := by
        match acc, la with
        | [t, pl], _ => exact ⟨t, pl, rfl⟩
      refine ⟨D, _, rfl, SqL.of gD, rfl, _, _, rfl, _, _, rfl, rfl, ?_⟩
      have gf7 := s7 _ _ pf.symm gf
      refine ⟨_, rfl, .inl ⟨rfl, _, SqL.of gf7⟩, ?_⟩
      refine ⟨(by show 2 ≤ sizeLine; decide), fun lq n8 => ?_⟩
      have e8 := same_new n8 (.lst [.str "at", .str "not"])
      have g8 := new_at n8 (.lst [.str "at", .str "not"])
      have nlq : lq ≠ p := (ne_of_none w7 n8).symm
      refine ⟨_, rfl, p, z7, y7, 2, rfl, e8 _ _ w7, by decide, by decide, fun r z9 y9 H9 r0 r1 s9 w9 => ?_⟩
      obtain ⟨b, hb⟩ := at2w r0 r1
      refine ⟨lq, _, r, _, rfl, rfl, SqL.of (s9 _ _ nlq g8), hb, ?_⟩
      refine ⟨_, rfl, _, rfl, (by show 3 ≤ sizeLine; decide), fun tp nA => ?_⟩
      have eA := same_new nA (.tup [.str (wordS b), .int t, .int pl])
      have gA := new_at nA (.tup [.str (wordS b), .int t, .int pl])
      have s69 : SameBut p H6 (upd H9 tp (.tup [.str (wordS b), .int t, .int pl])) := SameBut.then (SameBut.trans (SameBut.then s7 e8) s9) eA
      have wA := eA _ _ w9
      have tpf : tp ≠ fp := fun e => by
        have := (SameBut.trans (SameBut.then s7 e8) s9) _ _ pf.symm gf
        rw [← e, nA] at this
        cases this
      have ntp : H tp = none := by
        cases h : H tp with
        | none => rfl
        | some o =>
          have tpp : tp ≠ p := (ne_of_none w9 nA).symm
          have := (SameBut.trans (SameBut.then s7 e8) s9) _ _ tpp (s6 _ _ tpp h)
          rw [nA] at this
          cases this
      generalize upd H9 tp (.tup [.str (wordS b), .int t, .int pl]) = HA at gA s69 wA
      refine ⟨fp, _, _, rfl, rfl, s69 _ _ pf.symm gf, by rw [List.length_map, lw]; exact Nat.lt_of_lt_of_le hin (by decide), ?_⟩
      have nfH : H fp = none := n1
      refine ⟨ws ++ [((b, t, pl), tp)], z9, y9, _, _, _, _, rfl, by rw [upd_same, List.map_append]; rfl, by rw [List.length_append, lw]; rfl, fun u hu => ?_, fun c o nc h => ?_, by rw [upd_ne pf]; exact wA, fun u hu => ?_⟩
      · rcases List.mem_append.mp hu with hu | hu
        · exact ok u hu
        · rw [List.mem_singleton.mp hu]
          have h1 := ha t (.head _)
          have h2 := ha pl (.tail _ (.head _))
          exact ⟨h1.1, h1.2, h2.1, h2.2⟩
      · rw [upd_ne (ne_of_none h nfH)]
        exact s69 _ _ nc (s6 _ _ nc h)
      · rcases List.mem_append.mp hu with hu | hu
        · obtain ⟨h1, h2, h3⟩ := each u hu
          have up : u.2 ≠ p := fun e => by rw [e, hz] at h2; cases h2
          rw [upd_ne h3]
          exact ⟨s69 _ _ up h1, h2, h3⟩
        · rw [List.mem_singleton.mp hu]
          show upd HA fp _ tp = _ ∧ H tp = none ∧ tp ≠ fp
          rw [upd_ne tpf]
          exact ⟨gA, ntp, tpf⟩
  · rintro σ H6 ⟨ws, z6, y6, v3, v4, v5, v6, rfl, gf, lw, ok, s6, w6, each⟩
    exact ⟨_, rfl, q ws fp z6 y6 H6 (by omega) ok s6 w6 n1 gf each⟩
end
end K49
set_option Elab.async false
set_option linter.all false
set_option maxRecDepth 100000
namespace NV
open PySem PySem.Spec PyProof.Rows L2 NP NT
theorem tab_is {K : PySem.W.Frag} {base : Heap} {mg : Str → Option Value} {x : Str} {st : Stmt} {f c T c' P : Addr} {fd : FuncData} (D : DefAt K x st f fd) (h : fd.code = .ref c) (X : K.In base) (cb : CodeB base mg c T) (t : PySem.W.tabIn K x = some (c', P)) : P = T := by
  obtain ⟨oc, od, kV, doc, pm, an, cdv, ct, osl, e, lk, _⟩ := D.fn.ex
  unfold PySem.W.tabIn at t
  rw [D.ns] at t
  dsimp only at t
  rw [lk] at t
  dsimp only at t
  rw [h] at t
  dsimp only at t
  obtain ⟨o, vs, file, tf, flags, tg, inF, text, tt, g1, g2, g3, g4, _⟩ := cb.cd
  cases hc : K.lookup c with
  | none => rw [hc] at t; cases t
  | some o2 =>
    have := X _ _ hc
    rw [g1] at this
    cases this
    rw [hc] at t
    obtain ⟨o1, o2, o3, o4⟩ := o
    subst g4
    dsimp only at t
    rw [g3] at t
    cases t
    rfl
def neTabs (K : PySem.W.Frag) (x y : Str) : Bool := match PySem.W.tabIn K x, PySem.W.tabIn K y with
  | some (_, a), some (_, b) => a != b
  | _, _ => false
theorem tab_ne {K : PySem.W.Frag} {base : Heap} {mg : Str → Option Value} {x y : Str} {st su : Stmt} {f g c T e U : Addr} {fd gd : FuncData} (D : DefAt K x st f fd) (h : fd.code = .ref c) (D2 : DefAt K y su g gd) (h2 : gd.code = .ref e) (X : K.In base) (cb : CodeB base mg c T) (cb2 : CodeB base mg e U) (t : neTabs K x y = true) : T ≠ U := by
  unfold neTabs at t
  split at t
  · rename_i c1 a c2 b e1 e2
    rw [← tab_is D h X cb e1, ← tab_is D2 h2 X cb2 e2]
    simpa using t
  · cases t
end NV
set_option Elab.async false
set_option linter.all false
set_option maxRecDepth 100000
namespace K49
open PySem PySem.Spec PyProof.Rows L2 NP NT NV NN
section
variable {P : Program} {w : World} {K : PySem.W.Frag} {mg : Str → Option Value} {base : Heap} {f g : Addr} {fd gd : FuncData}
theorem scLaw : FnScope ["script", "cell", "well", "wishes", "due", "handed", "turn", "text", "found"] ["script"] (defScope sLaw) := ⟨rfl, rfl, rfl, by decide +kernel, rfl, by decide +kernel, by decide +kernel⟩
theorem tx1 : txtWs [(true, 0, 1), (false, 2, 2)] = "at 0 1; not 2 2" := by decide +kernel
theorem tx2 : txtWs [(false, 2, 10)] = "not 2 10" := by decide +kernel
theorem tx3 : txtWs [] = "none" := if_pos rfl
set_option maxHeartbeats 4000000 in
theorem ok_law {c1 c2 c3 T T2 T3 gW gL gWr gWt gRw : Addr} {dW dL dWr dWt dRw : FuncData} (F : Fun K "law" "law" sLaw f fd) (M : Mg mg) (mstr : mg "str" = none) (nT : T ≠ T2)
    (W : FnOk P w K mg base CX0 1 gW dW ["cell"] NP.spWell2) (bW : Binds K dW ["cell"] []) (kW : PySem.W.keepIn K (.ref gW) = true) (mW : mg "_law_well" = some (.ref gW))
    (L : FnOk P w K mg base CX0 2 gL dL ["well", "most"] (spWishes K)) (bL : Binds K dL ["well", "most"] []) (kL : PySem.W.keepIn K (.ref gL) = true) (mL : mg "_law_wishes" = some (.ref gL))
    (Wr : FnOk P w K mg base CX0 2 gWr dWr ["wishes"] (spWritW K)) (bWr : Binds K dWr ["wishes"] []) (kWr : PySem.W.keepIn K (.ref gWr) = true) (mWr : mg "_law_written" = some (.ref gWr))
    (G : FnOk P w K mg base CX0 3 g gd ["found", "due"] spSameW) (bG : Binds K gd ["found", "due"] []) (kG : PySem.W.keepIn K (.ref g) = true) (mG : mg "_law_same" = some (.ref g))
    (Wt : FnOk P w K mg base CX0 16 gWt dWt ["wishes"] (spWsText K T T2)) (bWt : Binds K dWt ["wishes"] []) (kWt : PySem.W.keepIn K (.ref gWt) = true) (mWt : mg "wishes_text" = some (.ref gWt))
    (Rw : FnOk P w K mg base CX0 15 gRw dRw ["text"] (spReadWs T T2 T3)) (bRw : Binds K dRw ["text"] []) (kRw : PySem.W.keepIn K (.ref gRw) = true) (mRw : mg "read_wishes" = some (.ref gRw)) :
    FnOk P w K mg base CX0 20 f fd ["script"] (spLaw K [(c2, T2), (c1, T), (c3, T3)]) := by
  refine fnJ F scLaw (fun vs H Q E h => ?_) (fun cdv A outer s H vs Q E gp hcl hr h => ?_)
  · obtain ⟨a, ns, rfl, _⟩ := h
    rfl
  obtain ⟨a, cells, rfl, hS, hlen, hTs, q⟩ := h
  have hT2 : H T2 = some (TabP T2) := hTs (c2, T2) (.head _)
  have hT : H T = some (TabP T) := hTs (c1, T) (.tail _ (.head _))
  have hT3 : H T3 = some (TabP T3) := hTs (c3, T3) (.tail _ (.tail _ (.head _)))
  have hr1 : Room 1 _ := hr.mono (by decide)
  have hr2 : Room 2 _ := hr.mono (by decide)
  have hr3 : Room 3 _ := hr.mono (by decide)
  have hr15 : Room 15 _ := hr.mono (by decide)
  have hr16 : Room 16 _ := hr.mono (by decide)
  refine ⟨_, jb_cons (js_for PassesOwn.never rfl (ji_list (je_op op_cat (je_lst (ji_ (ji_ ja0))) (je_slice sl_list (jv 0) jo_none (jo_some je_int)))) (jg_name (i := 1) scLaw.nd rfl (Or.inl rfl))
      (jb_cons (js_set (i := 2) scLaw.nd rfl (Or.inl rfl) (je_call W hr1 rfl mW kW bW .nil pass0 (jn (jv 1) ja0)))
      (jb_cons (js_set (i := 3) scLaw.nd rfl (Or.inl rfl) (je_call L hr2 rfl mL kL bL .nil pass0 (jn (jv 2) (ji_ ja0))))
      (jb_cons (js_set (i := 4) scLaw.nd rfl (Or.inl rfl) (je_call Wr hr2 rfl mWr kWr bWr .nil pass0 (jn (jv 3) ja0)))
      (jb_cons (js_set (i := 5) scLaw.nd rfl (Or.inl rfl) (je_callTy call_list_of (by rfl) M.list (by decide +kernel) (jn (jv 3) ja0)))
      (jb_cons (js_for PassesOwn.never rfl (ji_range1 rfl M.range (ji_ ja0)) (jg_name (i := 6) scLaw.nd rfl (Or.inl rfl))
        (jb_cons (js_set (i := 7) scLaw.nd rfl (Or.inl rfl) (je_call Wt hr16 rfl mWt kWt bWt .nil pass0 (jn (jv 5) ja0)))
        (jb_cons (js_if (jt_w (jw_or (jt_not (jt_val (je_callB cr_isStr (by rfl) M.isi (by decide +kernel) (jn (jv 7) (jn (je_ty (n := "str") (by rfl) mstr (by decide +kernel)) ja0)))))
          (jw_or (jt_cmp op_ne (jv 7) (jv 4) (nomark _)) (jw_or1 (jt_cmp (op_neD hr.units) (jv 5) (jv 3) (nomark _)))))) jb_never jb_nil)
        (jb_cons (js_set (i := 8) scLaw.nd rfl (Or.inl rfl) (je_call Rw hr15 rfl mRw kRw bRw .nil pass0 (jn (jv 4) ja0)))
        (jb_cons (js_if (jt_not (jt_val (je_call G hr3 rfl mG kG bG .nil pass0 (jn (jv 8) (jn (jv 3) ja0))))) jb_never jb_nil)
        (jb_one (js_expr (je_append (jv 8) (ji_ ja0)))))))))
      (jb_one (js_if (jt_cmp (op_neD hr.units) (jv 5) (je_lst ja0) (nomark _))
        (jb_cons (js_expr (je_pop (jv 5)))
        (jb_one (js_if (jt_cmp op_ne (je_call Wt hr16 rfl mWt kWt bWt .nil pass0 (jn (jv 5) ja0)) (je_call Wr hr2 rfl mWr kWr bWr .nil pass0 (jn (jv 5) ja0)) (nomark _)) jb_never jb_nil))) jb_nil))))))))
    (jb_cons (js_if (jt_cmp (op_neD hr.units) (je_call Rw hr15 rfl mRw kRw bRw .nil pass0 (jc je_str ja0)) (je_lst (jTu (je_tup (jc je_str (ji_ (ji_ ja0)))) (jTu (je_tup (jc je_str (ji_ (ji_ ja0)))) ja0))) (nomark _)) jb_never jb_nil)
    (jb_one (js_ret (je_and (je_cmp op_eq (je_call Wt hr16 rfl mWt kWt bWt .nil pass0 (jLi (je_lst (jTu (je_tup (jc je_str (ji_ (ji_ ja0)))) ja0)) ja0)) je_str (nomark _))
      (je_one (je_cmp (op_eqD hr.units) (je_call Rw hr15 rfl mRw kRw bRw .nil pass0 (jc je_str ja0)) (je_lst ja0) (nomark _))))))), ?_⟩
  have b62 : (2 : Int) ^ 62 = 4611686018427387904 := by decide
  refine ⟨(by show 2 ≤ sizeLine; decide), fun p1 q2 => ?_⟩
  have e2 := same_new q2 (.lst [.int 0, .int 5])
  have g2 := new_at q2 (.lst [.int 0, .int 5])
  refine ⟨_, rfl, 8, rfl, a, _, rfl, e2.seq hS, fun p2 q3 => ?_⟩
  have e3 := same_new q3 (.lst (cutV (cells.map V.int) none (some 8)))
  have g3 := new_at q3 (.lst (cutV (cells.map V.int) none (some 8)))
  have lc : (cutV (cells.map V.int) none (some 8)).length ≤ 63 := Nat.le_trans (cutV_length _ _ _) (by rw [List.length_map]; exact hlen)
  refine ⟨p1, p2, _, _, rfl, rfl, e3 _ _ g2, g3, Nat.le_trans (Nat.add_le_add_left lc _) (by show 65 ≤ sizeLine; decide), fun p3 q4 => ?_⟩
  have e4 := same_new q4 (.lst ([.int 0, .int 5] ++ cutV (cells.map V.int) none (some 8)))
  have g4 := new_at q4 (.lst ([.int 0, .int 5] ++ cutV (cells.map V.int) none (some 8)))
  have e14 := (e2.trans e3).trans e4
  refine ⟨p3, rfl, ⟨_, SqL.of g4⟩, for_list (K := K) (a := p3) (xs := [.int 0, .int 5] ++ cutV (cells.map V.int) none (some 8)) (fun i σ H' => Same H H' ∧ H' p3 = some (.lst ([.int 0, .int 5] ++ cutV (cells.map V.int) none (some 8))) ∧ ∃ v1 v2 v3 v4 v5 v6 v7 v8, σ = [some (.ref a), v1, v2, v3, v4, v5, v6, v7, v8])
    ⟨e14, g4, _, _, _, _, _, _, _, _, rfl⟩ (fun i σ H' _ ⟨_, g, _⟩ => SqL.of g) ?_ ?_⟩
  · rintro i y σ H5 hy ⟨s5, g5, v1, v2, v3, v4, v5, v6, v7, v8, rfl⟩
    obtain ⟨z, rfl⟩ : ∃ z : Int, y = .int z := by
      have hm := List.mem_of_getElem? hy
      rcases List.mem_append.mp hm with h | h
      · rcases List.mem_cons.mp h with h | h
        · exact ⟨0, h⟩
        · exact ⟨5, List.mem_singleton.mp h⟩
      · exact cut_ints h
    refine ⟨_, rfl, z, rfl, fun x1 x2 wp H6 e6 w6 n6 => ?_⟩
    refine ⟨_, rfl, wp, x1, x2, rfl, w6, fun ws op x3 x4 H7 lws ok s7 w7 n7 o7 each => ?_⟩
    have s57 : Same H5 H7 := fun b o h => s7 _ _ (ne_of_none h n6) (e6 _ _ h)
    have wa7 : WsAt K H7 op ws := ⟨SqL.of o7, fun u hu => SqT.of (each u hu).1⟩
    refine ⟨_, rfl, op, ws, rfl, wa7, lws, ok, fun H8 e8 => ?_⟩
    have o8 := e8 _ _ o7
    refine ⟨_, rfl, op, _, rfl, .inl (SqL.of o8), fun hp n9 => ?_⟩
    have e9 := same_new n9 (.lst (ws.map fun q => V.ref q.2))
    have g9 := new_at n9 (.lst (ws.map fun q => V.ref q.2))
    have o9 := e9 _ _ o8
    have t9 : ∀ u ∈ ws, upd H8 hp (.lst (ws.map fun q => V.ref q.2)) u.2 = some (.tup (wshV u.1)) ∧ u.2 ≠ hp := fun u hu => ⟨e9 _ _ (e8 _ _ (each u hu).1), ne_of_none (e8 _ _ (each u hu).1) n9⟩
    have s59 := s57.trans (e8.trans e9)
    have hpn : H5 hp = none := (s57.trans e8).free n9
    have ohp : op ≠ hp := ne_of_none o8 n9
    generalize upd H8 hp (.lst (ws.map fun q => V.ref q.2)) = H9 at e9 g9 o9 s59 t9
    have waH : ∀ H', Same H9 H' → WsAt K H' hp ws := fun H' e => ⟨SqL.of (e _ _ g9), fun u hu => SqT.of (e _ _ (t9 u hu).1)⟩
    have waO : ∀ H', Same H9 H' → WsAt K H' op ws := fun H' e => ⟨SqL.of (e _ _ o9), fun u hu => SqT.of (e _ _ (t9 u hu).1)⟩
    have okm : ∀ u ∈ ws.map (·.1), OkW 99 u := fun u hu => by
      obtain ⟨v, hv, rfl⟩ := List.mem_map.mp hu
      exact ok v hv
    have lm : (ws.map (·.1)).length ≤ 60 := by rw [List.length_map]; exact lws
    refine ⟨2, rfl, by rw [b62]; omega, by rw [b62]; omega, for_range (lo := 0) (n := (2 : Int).toNat) (fun j σ H' => Same H9 H' ∧ ∃ v6 v7 v8, σ = [some (.ref a), some (.int z), some (.ref wp), some (.ref op), some (.str (txtWs (ws.map (·.1)))), some (.ref hp), v6, v7, v8])
      ⟨Same.refl H9, _, _, _, rfl⟩ ?_ ?_⟩
    · rintro j σ HA hj ⟨sA, u6, u7, u8, rfl⟩
      have s5A := s5.trans (s59.trans sA)
      refine ⟨_, rfl, hp, ws, rfl, waH _ sA, lws, ok, nT, s5A _ _ hT, s5A _ _ hT2, fun HB eB => ?_⟩
      have sB := sA.trans eB
      have s5B := s5.trans (s59.trans sB)
      have dH := dp_ws (waH _ sB)
      have dO := dp_ws (waO _ sB)
      refine ⟨_, rfl, .str _, .str _, rfl, .dp (.str _), _, rfl, itF rfl ?_⟩
      refine ⟨_, rfl, _, rfl, rfl, _, rfl, itF (by simp) ?_⟩
      refine ⟨_, rfl, _, rfl, _, _, dH, dO, shaped_ws _, shaped_ws _, _, rfl, itF (by rw [eqv_ws]; rfl) ?_⟩
      refine ⟨_, rfl, _, rfl, lm, okm, nT, s5B _ _ hT, s5B _ _ hT2, s5B _ _ hT3, fun fp us HC nw eu => ?_⟩
      have sC := sB.trans nw.same
      have lu : us.length = ws.length := by have := congrArg List.length eu; rw [List.length_map, List.length_map] at this; exact this
      refine ⟨_, rfl, _, rfl, fp, op, us, ws, rfl, nw.at_, sC _ _ o9, fun u hu => (nw.each u hu).1, fun u hu => sC _ _ (t9 u hu).1, eu, by omega, fun HD eD => ⟨_, rfl, itF rfl ?_⟩⟩
      refine ⟨_, rfl, .inl ⟨rfl, _, SqL.of (eD _ _ nw.at_)⟩, fp, _, _, rfl, rfl, eD _ _ nw.at_, by rw [List.length_map, lu]; exact Nat.lt_of_le_of_lt lws (by decide), ⟨fun b o h => ?_, _, _, _, rfl⟩⟩
      rw [upd_ne (ne_of_none (sB _ _ h) nw.new)]
      exact eD _ _ (sC _ _ h)
    · rintro σ HA ⟨sA, u6, u7, u8, rfl⟩
      have s5A := s59.trans sA
      refine ⟨_, rfl, (by show 0 ≤ sizeLine; decide), fun ep nB => ?_⟩
      have eB := same_new nB (.lst [])
      have sB := sA.trans eB
      have dH := dp_ws (waH _ sB)
      refine ⟨_, .list [], dH, .lst (SqL.of (new_at nB _)) .nil, shaped_ws _, by decide, _, rfl, ?_⟩
      rw [eqv_w0]
      by_cases zn : ws.map (·.1) = []
      · rw [decide_eq_true zn]
        exact itF rfl ⟨s5.trans (s5A.trans eB), (s5A.trans eB) _ _ g5, _, _, _, _, _, _, _, _, rfl⟩
      · rw [decide_eq_false zn]
        have nl : 0 < ws.length := by
          cases ws with
          | nil => exact absurd rfl zn
          | cons => exact Nat.succ_pos _
        have gB := sB _ _ g9
        have hL : (ws.map fun q => V.ref q.2)[(ws.map fun q => V.ref q.2).length - 1]? = some ((ws.map fun q => V.ref q.2)[(ws.map fun q => V.ref q.2).length - 1]'(by rw [List.length_map]; omega)) := List.getElem?_eq_getElem _
        have tB : ∀ u ∈ ws, upd (upd HA ep (.lst [])) hp (.lst (ws.map fun q => V.ref q.2).dropLast) u.2 = some (.tup (wshV u.1)) := fun u hu => by
          rw [upd_ne (t9 u hu).2]
          exact sB _ _ (t9 u hu).1
        have gE : upd (upd HA ep (.lst [])) hp (.lst (ws.map fun q => V.ref q.2).dropLast) hp = some (.lst (ws.dropLast.map fun q => V.ref q.2)) := by
          rw [upd_same, ← List.map_dropLast]
        have s5E : Same H5 (upd (upd HA ep (.lst [])) hp (.lst (ws.map fun q => V.ref q.2).dropLast)) := fun b o h => by
          rw [upd_ne (ne_of_none h hpn)]
          exact eB _ _ (s5A _ _ h)
        refine itT rfl ⟨_, rfl, .inl ⟨rfl, _, SqL.of gB⟩, hp, _, _, rfl, rfl, gB, hL, ?_⟩
        generalize upd (upd HA ep (.lst [])) hp (.lst (ws.map fun q => V.ref q.2).dropLast) = HD at tB gE s5E
        have mem : ∀ u ∈ ws.dropLast, u ∈ ws := fun u hu => List.dropLast_subset ws hu
        have waD : WsAt K HD hp ws.dropLast := ⟨SqL.of gE, fun u hu => SqT.of (tB u (mem u hu))⟩
        have lD : ws.dropLast.length ≤ 60 := by rw [List.length_dropLast]; omega
        have okD : ∀ u ∈ ws.dropLast, OkW 99 u.1 := fun u hu => ok u (mem u hu)
        refine ⟨_, rfl, hp, _, rfl, waD, lD, okD, nT, (s5.trans s5E) _ _ hT, (s5.trans s5E) _ _ hT2, fun HE eE => ?_⟩
        refine ⟨_, rfl, hp, _, rfl, waD.same eE, lD, okD, fun HF eF => ⟨rfl, _, rfl, itF (by simp) ?_⟩⟩
        have s5F := s5E.trans (eE.trans eF)
        exact ⟨s5.trans s5F, s5F _ _ g5, _, _, _, _, _, _, _, _, rfl⟩
  · rintro σ H5 ⟨s5, g5, v1, v2, v3, v4, v5, v6, v7, v8, rfl⟩
    refine ⟨[(true, 0, 1), (false, 2, 2)], by rw [tx1]; rfl, by decide, ?_, nT, s5 _ _ hT, s5 _ _ hT2, s5 _ _ hT3, fun fp us H6 nw eu => ?_⟩
    · intro u hu
      simp only [List.mem_cons, List.not_mem_nil, or_false] at hu
      rcases hu with rfl | rfl <;> exact ⟨by decide, by decide, by decide, by decide⟩
    have s6 := s5.trans nw.same
    refine ⟨(by show 3 ≤ sizeLine; decide), fun t1 n1 => ?_⟩
    have f1 := same_new n1 (.tup [.str "at", .int 0, .int 1])
    have h1 := new_at n1 (.tup [.str "at", .int 0, .int 1])
    refine ⟨(by show 3 ≤ sizeLine; decide), fun t2 n2 => ?_⟩
    have f2 := same_new n2 (.tup [.str "not", .int 2, .int 2])
    have h2 := new_at n2 (.tup [.str "not", .int 2, .int 2])
    refine ⟨(by show 2 ≤ sizeLine; decide), fun lp n3 => ?_⟩
    have f3 := same_new n3 (.lst [.ref t1, .ref t2])
    have h3 := new_at n3 (.lst [.ref t1, .ref t2])
    have s7 := (f1.trans f2).trans f3
    have dW : Dp K _ (.ref fp) _ := dp_ws (nw.ws.same s7)
    rw [eu] at dW
    have dL : Dp K _ (.ref lp) (wsD [(true, 0, 1), (false, 2, 2)]) := dp_ws (ws := [((true, 0, 1), t1), ((false, 2, 2), t2)]) ⟨SqL.of h3, fun u hu => by
      simp only [List.mem_cons, List.not_mem_nil, or_false] at hu
      rcases hu with rfl | rfl
      · exact SqT.of (f3 _ _ (f2 _ _ h1))
      · exact SqT.of (f3 _ _ h2)⟩
    have s8 := s6.trans s7
    refine ⟨_, _, dW, dL, shaped_ws _, shaped_ws _, _, rfl, itF (by rw [eqv_ws]; rfl) ?_⟩
    generalize upd (upd (upd H6 t1 (.tup [.str "at", .int 0, .int 1])) t2 (.tup [.str "not", .int 2, .int 2])) lp (.lst [.ref t1, .ref t2]) = H8 at s8
    refine ⟨(by show 3 ≤ sizeLine; decide), fun t3 n4 => ?_⟩
    have f4 := same_new n4 (.tup [.str "not", .int 2, .int 10])
    have h4 := new_at n4 (.tup [.str "not", .int 2, .int 10])
    refine ⟨(by show 1 ≤ sizeLine; decide), fun l2 n5 => ?_⟩
    have f5 := same_new n5 (.lst [.ref t3])
    have h5 := new_at n5 (.lst [.ref t3])
    have s9 := s8.trans (f4.trans f5)
    refine ⟨l2, [((false, 2, 10), t3)], rfl, ⟨SqL.of h5, fun u hu => ?_⟩, Nat.le_of_ble_eq_true rfl, fun u hu => ?_, nT, s9 _ _ hT, s9 _ _ hT2, fun HA eA => ?_⟩
    · rw [List.mem_singleton.mp hu]; exact SqT.of (f5 _ _ h4)
    · rw [List.mem_singleton.mp hu]; exact ⟨(show (0 : Int) ≤ 2 by decide), (show (2 : Int) ≤ 99 by decide), (show (0 : Int) ≤ 10 by decide), (show (10 : Int) ≤ 99 by decide)⟩
    have sA := s9.trans eA
    refine ⟨rfl, _, rfl, itT (by show decide (V.str (txtWs [(false, 2, 10)]) = V.str "not 2 10") = true; rw [tx2]; simp) ?_⟩
    refine ⟨[], by rw [tx3]; rfl, by decide, (fun u hu => nomatch hu), nT, sA _ _ hT, sA _ _ hT2, sA _ _ hT3, fun fp2 us2 HB nw2 eu2 => ?_⟩
    refine ⟨(by show 0 ≤ sizeLine; decide), fun dp nC => ?_⟩
    have eC := same_new nC (.lst [])
    have dW2 : Dp K _ (.ref fp2) _ := dp_ws (nw2.ws.same eC)
    rw [eu2] at dW2
    refine ⟨_, .list [], dW2, .lst (SqL.of (new_at nC _)) .nil, shaped_ws _, by decide, ?_⟩
    rw [eqv_w0]
    exact q _ (sA.trans (nw2.same.trans eC))
end
end K49
set_option Elab.async false
set_option linter.all false
set_option maxRecDepth 100000
namespace K49
open PySem PySem.Spec PyProof.Rows L2 NP NT NV NN
theorem all_mk {l : PySem.W.OpenLaw} {w : World} {K : PySem.W.Frag} {h : Heap} {mg : Str → Option Value} {fa f1 f2 f3 f4 f5 f6 f7 f8 f9 f10 f11 f12 f13 f14 f15 f16 f17 f18 f19 f20 : Addr} {d1 d2 d3 d4 d5 d6 d7 d8 d9 d10 d11 d12 d13 d14 d15 d16 d17 d18 d19 d20 : FuncData} {t1 t2 t3 t4 t5 t6 : Tok} {tabs : List (Addr × Addr)} (X : K.In h) (G : h.Ns mainGlobals mg) (hfa : mg "law" = some (.ref fa))
    (pr : Paired (fun n p => TabOf h mg n p.1) ["is_wish", "is_wishes", "read_numbers"] tabs)
    (D1 : DefAt K "is_whole" sWhole f1 d1) (D2 : DefAt K "is_whole_between" sBetw f2 d2) (D3 : DefAt K "is_wish" sIsWish f3 d3) (D4 : DefAt K "is_wishes" sIsWishes f4 d4) (D5 : DefAt K "check_wishes" sCkWishes f5 d5) (D6 : DefAt K "is_figures" sFig f6 d6) (D7 : DefAt K "wish_text" sWText f7 d7) (D8 : DefAt K "wishes_text" sWsText f8 d8) (D9 : DefAt K "check_writes" sCkW f9 d9) (D10 : DefAt K "parts_of" sParts f10 d10) (D11 : DefAt K "read_numbers" sReadN f11 d11) (D12 : DefAt K "read_as_wish" sReadW f12 d12) (D13 : DefAt K "read_wishes" sReadWs f13 d13) (D14 : DefAt K "_law_well" sWell f14 d14) (D15 : DefAt K "_law_draw" sDraw f15 d15) (D16 : DefAt K "_law_wishes" sLWs f16 d16) (D17 : DefAt K "_law_same" sSame f17 d17) (D18 : DefAt K "_law_number" sLNum f18 d18) (D19 : DefAt K "_law_written" sLWr f19 d19) (D20 : DefAt K "law" sLaw f20 d20)
    (nt : NV.neTabs K "is_wishes" "is_wish" = true) (bi : ∀ x ∈ (["isinstance", "int", "bool", "tuple", "list", "all", "len", "repr", "dict", "range", "sorted", "enumerate", "min", "max", "str"] : List Str), PySem.W.nsIn K mainGlobals x = some none) (m1 : PySem.W.nsIn K mainGlobals "AT" = some (some (.str "at" t1))) (m2 : PySem.W.nsIn K mainGlobals "NOT" = some (some (.str "not" t2))) (m3 : PySem.W.nsIn K mainGlobals "MOST_WISHES" = some (some (.int 60 t3))) (m4 : PySem.W.nsIn K mainGlobals "NOTHING" = some (some (.str "none" t4))) (m5 : PySem.W.nsIn K mainGlobals "MOST_FIGURES" = some (some (.int 2 t5))) (m6 : PySem.W.nsIn K mainGlobals "MOST_IN_WISHES" = some (some (.int 99 t6))) :
    ∃ fd : FuncData, (∀ (s : Shared) (v : Value), BindsTo s fd ⟨[v], []⟩ [("script", v)]) ∧ ∀ base : Heap, K.In base → base.Ns mainGlobals mg → (∀ p ∈ tabs, CodeB base mg p.1 p.2) → FnOk l.prog w K mg base CX0 20 fa fd ["script"] (spLaw K tabs) := by
  have e := hfa.symm.trans (PySem.W.mg_of X G D20.ns)
  cases e
  have no : ∀ x ∈ (["isinstance", "int", "bool", "tuple", "list", "all", "len", "repr", "dict", "range", "sorted", "enumerate", "min", "max", "str"] : List Str), mg x = none := fun x hx => PySem.W.mg_none_of X G (bi x hx)
  have M : Mg mg := ⟨no _ (by simp), no _ (by simp), no _ (by simp), no _ (by simp), no _ (by simp), no _ (by simp), no _ (by simp), no _ (by simp), no _ (by simp), no _ (by simp)⟩
  have M2 : Mg2 mg := ⟨M, no _ (by simp), no _ (by simp), no _ (by simp), no _ (by simp)⟩
  have mstr : mg "str" = none := no _ (by simp)
  have v1 := PySem.W.mg_of X G m1
  have v2 := PySem.W.mg_of X G m2
  have v3 := PySem.W.mg_of X G m3
  have v4 := PySem.W.mg_of X G m4
  have v5 := PySem.W.mg_of X G m5
  have v6 := PySem.W.mg_of X G m6
  have b1 := D1.fn.binds (ps := ["thing"]) fun _ _ _ _ _ _ us hl => match us, hl with | [_], _ => rfl
  have k1 := D1.fn.kp
  have n1 := PySem.W.mg_of X G D1.ns
  have b2 := D2.fn.binds (ps := ["thing", "least", "most"]) fun _ _ _ _ _ _ us hl => match us, hl with | [_, _, _], _ => rfl
  have k2 := D2.fn.kp
  have n2 := PySem.W.mg_of X G D2.ns
  have b3 := D3.fn.binds (ps := ["thing", "most"]) fun _ _ _ _ _ _ us hl => match us, hl with | [_, _], _ => rfl
  have k3 := D3.fn.kp
  have n3 := PySem.W.mg_of X G D3.ns
  have b4 := D4.fn.binds (ps := ["thing", "most"]) fun _ _ _ _ _ _ us hl => match us, hl with | [_, _], _ => rfl
  have k4 := D4.fn.kp
  have n4 := PySem.W.mg_of X G D4.ns
  have b5 := D5.fn.binds (ps := ["wishes", "most"]) fun _ _ _ _ _ _ us hl => match us, hl with | [_, _], _ => rfl
  have k5 := D5.fn.kp
  have n5 := PySem.W.mg_of X G D5.ns
  have b6 := D6.fn.binds (ps := ["word", "most"]) fun _ _ _ _ _ _ us hl => match us, hl with | [_, _], _ => rfl
  have k6 := D6.fn.kp
  have n6 := PySem.W.mg_of X G D6.ns
  have b7 := D7.fn.binds (ps := ["wish"]) fun _ _ _ _ _ _ us hl => match us, hl with | [_], _ => rfl
  have k7 := D7.fn.kp
  have n7 := PySem.W.mg_of X G D7.ns
  have b8 := D8.fn.binds (ps := ["wishes"]) fun _ _ _ _ _ _ us hl => match us, hl with | [_], _ => rfl
  have k8 := D8.fn.kp
  have n8 := PySem.W.mg_of X G D8.ns
  have b9 := D9.fn.binds (ps := ["writes"]) fun _ _ _ _ _ _ us hl => match us, hl with | [_], _ => rfl
  have k9 := D9.fn.kp
  have n9 := PySem.W.mg_of X G D9.ns
  have b10 := D10.fn.binds (ps := ["text", "between"]) fun _ _ _ _ _ _ us hl => match us, hl with | [_, _], _ => rfl
  have k10 := D10.fn.kp
  have n10 := PySem.W.mg_of X G D10.ns
  have b11 := D11.fn.binds (ps := ["words"]) fun _ _ _ _ _ _ us hl => match us, hl with | [_], _ => rfl
  have k11 := D11.fn.kp
  have n11 := PySem.W.mg_of X G D11.ns
  have b12 := D12.fn.binds (ps := ["text"]) fun _ _ _ _ _ _ us hl => match us, hl with | [_], _ => rfl
  have k12 := D12.fn.kp
  have n12 := PySem.W.mg_of X G D12.ns
  have b13 := D13.fn.binds (ps := ["text"]) fun _ _ _ _ _ _ us hl => match us, hl with | [_], _ => rfl
  have k13 := D13.fn.kp
  have n13 := PySem.W.mg_of X G D13.ns
  have b14 := D14.fn.binds (ps := ["cell"]) fun _ _ _ _ _ _ us hl => match us, hl with | [_], _ => rfl
  have k14 := D14.fn.kp
  have n14 := PySem.W.mg_of X G D14.ns
  have b15 := D15.fn.binds (ps := ["well", "many"]) fun _ _ _ _ _ _ us hl => match us, hl with | [_, _], _ => rfl
  have k15 := D15.fn.kp
  have n15 := PySem.W.mg_of X G D15.ns
  have b16 := D16.fn.binds (ps := ["well", "most"]) fun _ _ _ _ _ _ us hl => match us, hl with | [_, _], _ => rfl
  have k16 := D16.fn.kp
  have n16 := PySem.W.mg_of X G D16.ns
  have b17 := D17.fn.binds (ps := ["found", "due"]) fun _ _ _ _ _ _ us hl => match us, hl with | [_, _], _ => rfl
  have k17 := D17.fn.kp
  have n17 := PySem.W.mg_of X G D17.ns
  have b18 := D18.fn.binds (ps := ["number"]) fun _ _ _ _ _ _ us hl => match us, hl with | [_], _ => rfl
  have k18 := D18.fn.kp
  have n18 := PySem.W.mg_of X G D18.ns
  have b19 := D19.fn.binds (ps := ["wishes"]) fun _ _ _ _ _ _ us hl => match us, hl with | [_], _ => rfl
  have k19 := D19.fn.kp
  have n19 := PySem.W.mg_of X G D19.ns
  refine ⟨d20, ?_, fun base XB _ hC => ?_⟩
  · obtain ⟨oc, od, kV, doc, pm, an, cdv, ct, osl, rfl, _, _⟩ := D20.fn.ex
    exact fun s v => .of_eq rfl
  cases pr with
  | @cons _ ct1 _ _ r1 r1' => cases r1' with
  | @cons _ ct2 _ _ r2 r2' => cases r2' with
  | @cons _ ct3 _ _ r3 r3' =>
    cases r3'
    obtain ⟨c1, T1⟩ := ct1
    obtain ⟨c2, T2⟩ := ct2
    obtain ⟨c3, T3⟩ := ct3
    have h1 := D3.code X G r1
    have cb1 := hC (c1, T1) (.head _)
    have h2 := D4.code X G r2
    have cb2 := hC (c2, T2) (.tail _ (.head _))
    have h3 := D11.code X G r3
    have cb3 := hC (c3, T3) (.tail _ (.tail _ (.head _)))
    have nT : T2 ≠ T1 := NV.tab_ne D4 h2 D3 h1 XB cb2 cb1 nt
    have O1 : FnOk l.prog w K mg base CX0 1 f1 d1 ["thing"] (spWhole K) := ok_whole D1.fn M
    have O2 : FnOk l.prog w K mg base CX0 2 f2 d2 ["thing", "least", "most"] (spBetw K) := ok_betw D2.fn O1 b1 k1 n1
    have O3 : FnOkB l.prog w K mg base 12 f3 d3 ["thing", "most"] (spIsWish K T1) := ok_isWish D3.fn h1 cb1 M2 mstr v1 v2 O2 b2 k2 n2
    have O4B : FnOkB l.prog w K mg base 14 f4 d4 ["thing", "most"] (spIsWishes K T2 T1) := ok_isWishes D4.fn h2 cb2 M2 v3 O3 b3 k3 n3
    have O4 : FnOk l.prog w K mg base CX0 14 f4 d4 ["thing", "most"] (spIsWishes K T2 T1) := O4B.ok (by decide)
    have O5 : FnOk l.prog w K mg base CX0 15 f5 d5 ["wishes", "most"] (spCkWishes K T2 T1) := ok_ckWishes D5.fn O4 b4 k4 n4
    have O6 : FnOk l.prog w K mg base CX0 1 f6 d6 ["word", "most"] spFig := ok_fig D6.fn M
    have O7 : FnOk l.prog w K mg base CX0 1 f7 d7 ["wish"] (spWText K) := ok_wText D7.fn
    have O8 : FnOk l.prog w K mg base CX0 16 f8 d8 ["wishes"] (spWsText K T2 T1) := ok_wsText D8.fn v4 v6 O5 b5 k5 n5 O7 b7 k7 n7
    have O9 : FnOk l.prog w K mg base CX0 1 f9 d9 ["writes"] spCkW := ok_ckW D9.fn
    have O10 : FnOk l.prog w K mg base CX0 1 f10 d10 ["text", "between"] spParts := ok_parts D10.fn v4
    have O11 : FnOk l.prog w K mg base CX0 13 f11 d11 ["words"] (spReadN K T3) := ok_readN D11.fn h3 cb3 M v5 O6 b6 k6 n6 O9 b9 k9 n9
    have O12 : FnOk l.prog w K mg base CX0 14 f12 d12 ["text"] (spReadW T3) := ok_readW D12.fn M2 O11 b11 k11 n11
    have O13 : FnOk l.prog w K mg base CX0 15 f13 d13 ["text"] (spReadWs T2 T1 T3) := ok_readWs D13.fn M2 mstr v6 O12 b12 k12 n12 O9 b9 k9 n9 O10 b10 k10 n10 O4 b4 k4 n4
    have O14 : FnOk l.prog w K mg base CX0 1 f14 d14 ["cell"] NP.spWell2 := ok_well D14.fn
    have O15 : FnOk l.prog w K mg base CX0 1 f15 d15 ["well", "many"] NP.spDraw2 := ok_draw D15.fn
    have O16 : FnOk l.prog w K mg base CX0 2 f16 d16 ["well", "most"] (spWishes K) := ok_lws D16.fn M O15 b15 k15 n15
    have A0 : FnOk l.prog w K mg base CX0 1 f17 d17 ["found", "due"] spSameA := ok_sameA D17.fn M2 mstr
    have A1 : FnOk l.prog w K mg base CX0 2 f17 d17 ["found", "due"] spSameT := ok_sameT D17.fn M2 A0 b17 k17 n17
    have O17 : FnOk l.prog w K mg base CX0 3 f17 d17 ["found", "due"] spSameW := ok_sameW D17.fn M2 A1 b17 k17 n17
    have O18 : FnOk l.prog w K mg base CX0 1 f18 d18 ["number"] spNumW := ok_numW D18.fn M
    have O19 : FnOk l.prog w K mg base CX0 2 f19 d19 ["wishes"] (spWritW K) := ok_writW D19.fn M O18 b18 k18 n18
    exact ok_law D20.fn M mstr nT O14 b14 k14 n14 O16 b16 k16 n16 O19 b19 k19 n19 O17 b17 k17 n17 O8 b8 k8 n8 O13 b13 k13 n13
end K49
open PySem PySem.W PyProof.Rows
set_option maxRecDepth 100000 in
set_option maxHeartbeats 0 in
theorem PySem.Challenge.cw_nearplace_k49_wishes_written_holds : PySem.Challenge.rw_nearplace_k49_wishes_written.Holds := by
  w_on; o_law; k_head; (case hw => w_witness2)
  k_fill
  refine NP.walkL (l := PySem.Challenge.rw_nearplace_k49_wishes_written) ["is_wish", "is_wishes", "read_numbers"] rfl rfl ?R (fun w h Y => PySem.W.kIn_of Y) ?C ?F
  case R =>
    intro m hm
    simp only [List.mem_cons, List.not_mem_nil, or_false] at hm
    rcases hm with rfl | rfl | rfl <;> rfl
  case C => intro w; exact Eq.refl true
  case F =>
    intro w mg fa h tabs KX G hmg pr
    refine' K49.all_mk KX G hmg pr (NP.defAt ?a1 ?l1 ?c1 ?k1) (NP.defAt ?a2 ?l2 ?c2 ?k2) (NP.defAt ?a3 ?l3 ?c3 ?k3) (NP.defAt ?a4 ?l4 ?c4 ?k4) (NP.defAt ?a5 ?l5 ?c5 ?k5) (NP.defAt ?a6 ?l6 ?c6 ?k6) (NP.defAt ?a7 ?l7 ?c7 ?k7) (NP.defAt ?a8 ?l8 ?c8 ?k8) (NP.defAt ?a9 ?l9 ?c9 ?k9) (NP.defAt ?a10 ?l10 ?c10 ?k10) (NP.defAt ?a11 ?l11 ?c11 ?k11) (NP.defAt ?a12 ?l12 ?c12 ?k12) (NP.defAt ?a13 ?l13 ?c13 ?k13) (NP.defAt ?a14 ?l14 ?c14 ?k14) (NP.defAt ?a15 ?l15 ?c15 ?k15) (NP.defAt ?a16 ?l16 ?c16 ?k16) (NP.defAt ?a17 ?l17 ?c17 ?k17) (NP.defAt ?a18 ?l18 ?c18 ?k18) (NP.defAt ?a19 ?l19 ?c19 ?k19) (NP.defAt ?a20 ?l20 ?c20 ?k20) ?nt ?bi ?m1 ?m2 ?m3 ?m4 ?m5 ?m6
    (case a1 => k_is); (case l1 => k_is); (case c1 => k_is); (case k1 => k_is)
    (case a2 => k_is); (case l2 => k_is); (case c2 => k_is); (case k2 => k_is)
    (case a3 => k_is); (case l3 => k_is); (case c3 => k_is); (case k3 => k_is)
    (case a4 => k_is); (case l4 => k_is); (case c4 => k_is); (case k4 => k_is)
    (case a5 => k_is); (case l5 => k_is); (case c5 => k_is); (case k5 => k_is)
    (case a6 => k_is); (case l6 => k_is); (case c6 => k_is); (case k6 => k_is)
    (case a7 => k_is); (case l7 => k_is); (case c7 => k_is); (case k7 => k_is)
    (case a8 => k_is); (case l8 => k_is); (case c8 => k_is); (case k8 => k_is)
    (case a9 => k_is); (case l9 => k_is); (case c9 => k_is); (case k9 => k_is)
    (case a10 => k_is); (case l10 => k_is); (case c10 => k_is); (case k10 => k_is)
    (case a11 => k_is); (case l11 => k_is); (case c11 => k_is); (case k11 => k_is)
    (case a12 => k_is); (case l12 => k_is); (case c12 => k_is); (case k12 => k_is)
    (case a13 => k_is); (case l13 => k_is); (case c13 => k_is); (case k13 => k_is)
    (case a14 => k_is); (case l14 => k_is); (case c14 => k_is); (case k14 => k_is)
    (case a15 => k_is); (case l15 => k_is); (case c15 => k_is); (case k15 => k_is)
    (case a16 => k_is); (case l16 => k_is); (case c16 => k_is); (case k16 => k_is)
    (case a17 => k_is); (case l17 => k_is); (case c17 => k_is); (case k17 => k_is)
    (case a18 => k_is); (case l18 => k_is); (case c18 => k_is); (case k18 => k_is)
    (case a19 => k_is); (case l19 => k_is); (case c19 => k_is); (case k19 => k_is)
    (case a20 => k_is); (case l20 => k_is); (case c20 => k_is); (case k20 => k_is)
    (case m1 => k_is)
    (case m2 => k_is)
    (case m3 => k_is)
    (case m4 => k_is)
    (case m5 => k_is)
    (case m6 => k_is)
    (case nt => exact Eq.refl true)
    (case bi =>
      intro x hx
      simp only [List.mem_cons, List.not_mem_nil, or_false] at hx
      rcases hx with rfl | rfl | rfl | rfl | rfl | rfl | rfl | rfl | rfl | rfl | rfl | rfl | rfl | rfl | rfl <;> k_is)
#print axioms PySem.Challenge.cw_nearplace_k49_wishes_written_holds

