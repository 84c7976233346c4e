import PyProof.Rows.All
import Wide.All
import OpenK.AllK
import Wide.FinOn
import Lean
import PyProof.EqAt
import PyProof.EqKinds
import PyProof.TupleCall
import PySem.Challenge.RW_ringcede_k70_small_calls_by_turns
set_option Elab.async false
set_option linter.all false
set_option maxRecDepth 100000
namespace L2
open PySem PySem.Spec PyProof.Rows
abbrev Key := Sum Int Str
def keyIs : Key → Value → Bool
  | .inl k, v => Value.isInt k v
  | .inr x, v => Value.isStrOf x v
def keyH (w : World) : Key → Int
  | .inl k => hashInt k
  | .inr x => hashStr w x
theorem keyIs_shape : ∀ {k : Key} {v : Value}, keyIs k v = true → (∃ i t, k = Sum.inl i ∧ v = Value.int i t) ∨ (∃ x t, k = Sum.inr x ∧ v = Value.str x t)
  | .inl i, v, h => by
    obtain ⟨t, e⟩ := Value.isInt_shape (k := i) (v := v) h
    exact .inl ⟨i, t, rfl, e⟩
  | .inr x, v, h => by
    obtain ⟨t, e⟩ := Value.isStrOf_shape (x := x) (v := v) h
    exact .inr ⟨x, t, rfl, e⟩
theorem keyIs_str (x : Str) (t : Tok) : keyIs (.inr x) (.str x t) = true := by simp [keyIs, Value.isStrOf]
theorem key_ll (a b : Int) : decide ((Sum.inl a : Key) = Sum.inl b) = (a == b) := by
  by_cases e : a = b
  · subst e; simp
  · have h : ¬ (Sum.inl a : Key) = Sum.inl b := fun q => e (Sum.inl.inj q)
    rw [decide_eq_false h]
    exact (beq_eq_false_iff_ne.mpr e).symm
theorem key_rr (a b : Str) : decide ((Sum.inr a : Key) = Sum.inr b) = decide (a = b) := by
  by_cases e : a = b
  · subst e; simp
  · have h : ¬ (Sum.inr a : Key) = Sum.inr b := fun q => e (Sum.inr.inj q)
    rw [decide_eq_false h, decide_eq_false e]
theorem key_lr (a : Int) (b : Str) : decide ((Sum.inl a : Key) = Sum.inr b) = false := decide_eq_false (fun q => nomatch q)
theorem key_rl (a : Str) (b : Int) : decide ((Sum.inr a : Key) = Sum.inl b) = false := decide_eq_false (fun q => nomatch q)
def mixKind (prog : Program) (w : World) : PySem.KeyKind prog w Key where
  is := keyIs
  hash := keyH w
  inj := fun v a b ha hb => by
    rcases keyIs_shape ha with ⟨i, t, rfl, rfl⟩ | ⟨x, t, rfl, rfl⟩
    · rcases keyIs_shape hb with ⟨j, u, rfl, e⟩ | ⟨y, u, rfl, e⟩
      · injection e with e1 _; rw [e1]
      · exact nomatch e
    · rcases keyIs_shape hb with ⟨j, u, rfl, e⟩ | ⟨y, u, rfl, e⟩
      · exact nomatch e
      · injection e with e1 _; rw [e1]
  byValue := fun k v h => by
    rcases keyIs_shape h with ⟨i, t, rfl, rfl⟩ | ⟨x, t, rfl, rfl⟩ <;> rfl
  pyHash := fun hv h => by
    rcases keyIs_shape hv with ⟨i, t, rfl, rfl⟩ | ⟨x, t, rfl, rfl⟩
    · exact wpAny_pyHash_int h
    · exact wpAny_pyHash_str h
  eqBool := fun hu hv h => by
    rcases keyIs_shape hu with ⟨i, t, rfl, rfl⟩ | ⟨x, t, rfl, rfl⟩
    · rcases keyIs_shape hv with ⟨j, u, rfl, rfl⟩ | ⟨y, u, rfl, rfl⟩
      · rw [key_ll] at h; exact wpAny_eqBool_int h
      · rw [key_lr] at h; exact SeqAt.EqAt.int_str i t y u _ _ _ _ h
    · rcases keyIs_shape hv with ⟨j, u, rfl, rfl⟩ | ⟨y, u, rfl, rfl⟩
      · rw [key_rl] at h; exact SeqAt.EqAt.str_int x t j u _ _ _ _ h
      · rw [key_rr] at h; exact wpAny_eqBool_str h
  «strs» := fun k x t v h => by
    rcases keyIs_shape h with ⟨i, u, rfl, e⟩ | ⟨y, u, rfl, e⟩
    · exact nomatch e
    · injection e with e1 _
      subst e1
      cases v <;> rfl
theorem mixKind_str (prog : Program) (w : World) (x : Str) (t : Tok) : (mixKind prog w).is (.inr x) (.str x t) = true := keyIs_str x t
end L2
namespace L2
open PySem PySem.Spec PyProof.Rows
inductive V where
  | non | bl (b : Bool) | int (i : Int) | str (x : Str) | byt (b : Array UInt8) | flt (b : UInt64) | ref (a : Addr) | ty (n : String)
  deriving DecidableEq
def RelV : V → Value → Prop
  | .non, u => u = Value.none
  | .bl b, u => u = Value.bool b
  | .int i, u => ∃ t, u = Value.int i t
  | .str x, u => ∃ t, u = Value.str x t
  | .byt b, u => ∃ t, u = Value.bytes b t
  | .flt b, u => ∃ t, u = Value.float b t
  | .ref a, u => u = Value.ref a
  | .ty n, u => u = Value.type n
abbrev Vals : List V → List Value → Prop := Paired RelV
theorem Vals.length {xs : List V} {us : List Value} (r : Vals xs us) : xs.length = us.length := Paired.length r
theorem Vals.get : ∀ {xs : List V} {us : List Value} {i : Nat} {x : V}, Vals xs us → xs[i]? = some x → ∃ u, us[i]? = some u ∧ RelV x u
  | _, _, _, _, .nil, e => by simp at e
  | _, _, 0, _, .cons r _, e => by simp at e; subst e; exact ⟨_, rfl, r⟩
  | _, _, i + 1, x, .cons _ t, e => by
    obtain ⟨u, h1, h2⟩ := Vals.get (i := i) (x := x) t (by simpa using e)
    exact ⟨u, by simpa using h1, h2⟩
theorem Vals.set {x : V} {u : Value} (r : RelV x u) : ∀ {xs : List V} {us : List Value} (i : Nat), Vals xs us → Vals (xs.set i x) (us.set i u)
  | _, _, _, .nil => .nil
  | _, _, 0, .cons _ t => .cons r t
  | _, _, i + 1, .cons q t => .cons q (Vals.set r i t)
theorem Vals.append : ∀ {xs ys : List V} {us ws : List Value}, Vals xs us → Vals ys ws → Vals (xs ++ ys) (us ++ ws)
  | _, _, _, _, .nil, s => s
  | _, _, _, _, .cons r t, s => .cons r (Vals.append t s)
theorem Vals.take : ∀ {xs : List V} {us : List Value} (n : Nat), Vals xs us → Vals (xs.take n) (us.take n)
  | _, _, 0, _ => .nil
  | _, _, _ + 1, .nil => .nil
  | _, _, n + 1, .cons r t => .cons r (Vals.take n t)
theorem Vals.drop : ∀ {xs : List V} {us : List Value} (n : Nat), Vals xs us → Vals (xs.drop n) (us.drop n)
  | _, _, 0, r => r
  | _, _, _ + 1, .nil => .nil
  | _, _, n + 1, .cons _ t => Vals.drop n t
def RelO : Option V → Option Value → Prop
  | some v, some u => RelV v u
  | none, none => True
  | _, _ => False
def KV {κ : Type} : List (κ × V) → List (κ × Value) → Prop := Paired fun (p : κ × V) (q : κ × Value) => p.1 = q.1 ∧ RelV p.2 q.2
def kV : Key → V
  | .inl i => .int i
  | .inr x => .str x
inductive HO where
  /-- a list -/
  | lst (xs : List V)
  /-- a tuple (never changes) -/
  | tup (xs : List V)
  /-- a dict whose keys are ints and texts; one whose keys are tuples of ints and texts (the empty one is both) -/
  | dK (kvs : List (Key × V)) | dT (kvs : List (List Key × V))
  /-- a set of ints: its members, its size -/
  | set (S : Int → Bool) (n : Nat)
  /-- an instance of the class at C, its dict at dx, its attributes -/
  | ins (C dx : Addr) (fs : List (Str × V))
  /-- the dict of the instance at x -/
  | own (x : Addr)
  /-- the dict of an exception -/
  | xd (fs : List (Str × V))
  /-- a bound method, f of x -/
  | met (f x : Addr)
  /-- a range object lo, lo + 1, .. below hi -/
  | rng (lo hi : Int)
  /-- a thing that is known to the object (the script; a dict while a loop walks it): read, never written while it is so -/
  | frz (o : Obj) (u : HO)
  /-- a code object's table -/
  | tbl (ps : Array Value)
  /-- any other thing, by what is true of its one object (a def of one's own: SetO a S n := HO.ext fun h => ..) -/
  | ext (φ : Heap → Prop)
abbrev Hp := Addr → Option HO
def upd (H : Hp) (a : Addr) (o : HO) : Hp := fun b => if b = a then some o else H b
theorem upd_same {H : Hp} {a : Addr} {o : HO} : upd H a o a = some o := by unfold upd; rw [if_pos rfl]
theorem upd_ne {H : Hp} {a b : Addr} {o : HO} (h : b ≠ a) : upd H a o b = H b := by unfold upd; rw [if_neg h]
theorem upd_upd {H : Hp} {a : Addr} {o u : HO} : upd (upd H a o) a u = upd H a u := by
  funext b; unfold upd; split <;> rfl
theorem ne_of {H : Hp} {a b : Addr} {o u : HO} (h : H a = some o) (h' : H b = some u) (d : o ≠ u) : a ≠ b := by
  intro e; subst e; rw [h] at h'; exact d (Option.some.inj h')
theorem ne_of_none {H : Hp} {a b : Addr} {o : HO} (h : H a = some o) (h' : H b = none) : a ≠ b := by
  intro e; subst e; rw [h] at h'; cases h'
section
variable (P : Program) (w : World)
def ObjOk (H : Hp) (h : Heap) (a : Addr) : HO → Prop
  | .lst xs => xs.length ≤ sizeLine ∧ ∃ (its : List Value) (n : Nat), Vals xs its ∧ h.get? a = some { cls := .type "list", data := .seq its.toArray n }
  | .tup xs => xs.length ≤ sizeLine ∧ ∃ its : List Value, Vals xs its ∧ IsTup h a its.toArray
  | .dK kvs => kvs.length ≤ sizeLine ∧ (a == sysModules) = false ∧ ∃ vs, KV kvs vs ∧ h.DictOf (mixKind P w) a vs
  | .dT kvs => kvs.length ≤ sizeLine ∧ (a == sysModules) = false ∧ ∃ xs : List (List Key × Addr × Value),
      Paired (fun (p : List Key × V) (q : List Key × Addr × Value) => p.1 = q.1 ∧ H q.2.1 = some (.tup (p.1.map kV)) ∧ RelV p.2 q.2.2) kvs xs ∧
      ∃ o es ep, h.get? a = some o ∧ o.ExactDict ∧ o.data = .dict es ep ∧ es.toList = xs.map (entryOfKey (tupleKind (mixKind P w))) ∧ (xs.map (·.1)).Nodup
  | .set S n => h.SetOf (intKind P w) a S n
  | .ins C dx fs => H dx = some (.own a) ∧ fs.length ≤ 1000 ∧ dx ≠ a ∧ h.get? a = some (PySem.W.instObj C dx) ∧
      ∃ mA, h.Ns1 dx mA ∧ (∀ f, RelO (fs.lookup f) (mA f)) ∧ PySem.Within mA (fs.map (·.1))
  | .own _ => ∃ o, h.get? a = some o
  | .xd fs => ∃ mA, h.Ns1 a mA ∧ ∀ f, RelO (fs.lookup f) (mA f)
  | .rng lo hi => ∃ t u v, h.get? a = some { cls := .type "range", data := .fields #[.int lo t, .int hi u, .int 1 v] }
  | .frz o u => h.get? a = some o ∧ ObjOk H h a u
  | .tbl ps => h.get? a = some { cls := .none, data := .fields ps }
  | .met f x => h.get? a = some (PySem.W.methodObj (.ref f) (.ref x))
  | .ext φ => φ h ∧ (∃ o, h.get? a = some o) ∧ ∀ h1 h2 : Heap, φ h1 → (∀ o, h1.get? a = some o → h2.get? a = some o) → φ h2
def HOk (H : Hp) (h : Heap) : Prop := ∀ a o, H a = some o → ObjOk P w H h a o
end
section
variable {P : Program} {w : World} {H H' : Hp} {h h' : Heap} {a : Addr} {o : HO}
theorem ObjOk.lt (x : ObjOk P w H h a o) : a < h.objs.size := by
  cases o with
  | lst xs => obtain ⟨_, _, _, _, e⟩ := x; exact Heap.lt_size e
  | tup xs => obtain ⟨_, _, _, p⟩ := x; exact p.lt
  | dK kvs => obtain ⟨_, _, _, _, o, _, _, e, _⟩ := x; exact Heap.lt_size e
  | dT kvs => obtain ⟨_, _, _, _, o, _, _, e, _⟩ := x; exact Heap.lt_size e
  | set S n => obtain ⟨o, _, _, _, e, _⟩ := x; exact Heap.lt_size e
  | ins C dx fs => obtain ⟨_, _, _, e, _⟩ := x; exact Heap.lt_size e
  | own y => obtain ⟨_, e⟩ := x; exact Heap.lt_size e
  | xd fs => obtain ⟨_, ⟨_, _, _, e, _⟩, _⟩ := x; exact Heap.lt_size e
  | rng lo hi => obtain ⟨_, _, _, e⟩ := x; exact Heap.lt_size e
  | frz ob u => obtain ⟨e, _⟩ := x; exact Heap.lt_size e
  | tbl ps => exact Heap.lt_size (show h.get? a = some _ from x)
  | met f y => exact Heap.lt_size (show h.get? a = some _ from x)
  | ext φ => obtain ⟨_, ⟨_, e⟩, _⟩ := x; exact Heap.lt_size e
theorem Paired.mapP {α β : Type} {F G : α → β → Prop} : ∀ {l₁ : List α} {l₂ : List β}, Paired F l₁ l₂ → (∀ a b, F a b → G a b) → Paired G l₁ l₂
  | _, _, .nil, _ => .nil
  | _, _, .cons r t, f => .cons (f _ _ r) (Paired.mapP t f)
theorem ObjOk.stay (x : ObjOk P w H h a o) (k : ∀ b u, (b = a ∨ H b = some (.own a)) → h.get? b = some u → h'.get? b = some u)
    (ho : ∀ b, H b = some (.own a) → H' b = some (.own a)) (ht : ∀ b xs, H b = some (.tup xs) → H' b = some (.tup xs)) : ObjOk P w H' h' a o := by
  induction o with
  | lst xs => obtain ⟨z, its, n, r, e⟩ := x; exact ⟨z, its, n, r, k _ _ (.inl rfl) e⟩
  | tup xs => obtain ⟨z, its, r, ob, e, c⟩ := x; exact ⟨z, its, r, ob, k _ _ (.inl rfl) e, c⟩
  | dK kvs => obtain ⟨z, y, vs, r, ob, es, ep, e, c⟩ := x; exact ⟨z, y, vs, r, ob, es, ep, k _ _ (.inl rfl) e, c⟩
  | dT kvs =>
    obtain ⟨z, y, xs, r, ob, es, ep, e, c⟩ := x
    exact ⟨z, y, xs, Paired.mapP r fun p q z => ⟨z.1, ht _ _ z.2.1, z.2.2⟩, ob, es, ep, k _ _ (.inl rfl) e, c⟩
  | set S n => obtain ⟨ob, es, ep, t, e, c⟩ := x; exact ⟨ob, es, ep, t, k _ _ (.inl rfl) e, c⟩
  | ins C dx fs =>
    obtain ⟨d, z, ne, e, mA, ⟨od, es, ep, e2, c⟩, r⟩ := x
    exact ⟨ho _ d, z, ne, k _ _ (.inl rfl) e, mA, ⟨od, es, ep, k _ _ (.inr d) e2, c⟩, r⟩
  | own y => obtain ⟨ob, e⟩ := x; exact ⟨ob, k _ _ (.inl rfl) e⟩
  | xd fs => obtain ⟨mA, ⟨od, es, ep, e, c⟩, r⟩ := x; exact ⟨mA, ⟨od, es, ep, k _ _ (.inl rfl) e, c⟩, r⟩
  | rng lo hi => obtain ⟨t, u, v, e⟩ := x; exact ⟨t, u, v, k _ _ (.inl rfl) e⟩
  | frz ob u ih => obtain ⟨e, q⟩ := x; exact ⟨k _ _ (.inl rfl) e, ih q⟩
  | tbl ps =>
    have e : h.get? a = some { cls := .none, data := .fields ps } := x
    show h'.get? a = some { cls := .none, data := .fields ps }
    exact k a _ (.inl rfl) e
  | met f y =>
    have e : h.get? a = some (PySem.W.methodObj (.ref f) (.ref y)) := x
    show h'.get? a = some (PySem.W.methodObj (.ref f) (.ref y))
    exact k a _ (.inl rfl) e
  | ext φ => obtain ⟨p, ⟨o, e⟩, st⟩ := x; exact ⟨st _ _ p fun o q => k _ _ (.inl rfl) q, ⟨o, k _ _ (.inl rfl) e⟩, st⟩
theorem HOk.lt (x : HOk P w H h) (e : H a = some o) : a < h.objs.size := (x a o e).lt
theorem HOk.fresh (x : HOk P w H h) (e : h.objs.size ≤ a) : H a = none := by
  cases q : H a with
  | none => rfl
  | some u => exact absurd (Nat.lt_of_lt_of_le (x.lt q) e) (Nat.lt_irrefl _)
theorem HOk.kept (x : HOk P w H h) (k : ∀ b u, h.get? b = some u → h'.get? b = some u) : HOk P w H h' := fun a o e =>
  (x a o e).stay (fun b u _ q => k b u q) (fun _ q => q) fun _ _ q => q
theorem HOk.laid (x : HOk P w H h) (k : ∀ b u, h.get? b = some u → h'.get? b = some u) (hp : h.objs.size ≤ a) (new : ObjOk P w (upd H a o) h' a o) : HOk P w (upd H a o) h' := fun b u e => by
  have hn := x.fresh hp
  by_cases hb : b = a
  · subst hb; rw [upd_same] at e; cases e; exact new
  · rw [upd_ne hb] at e
    exact (x b u e).stay (fun c v _ q => k c v q) (fun c q => by rw [upd_ne (ne_of_none q hn)]; exact q) fun c xs q => by rw [upd_ne (ne_of_none q hn)]; exact q
end
def Rd (H : Hp) (a : Addr) (u : HO) : Prop := H a = some u ∨ ∃ o, H a = some (.frz o u)
theorem Rd.ok {P : Program} {w : World} {H : Hp} {h : Heap} {a : Addr} {u : HO} (r : Rd H a u) (x : HOk P w H h) : ObjOk P w H h a u := by
  rcases r with r | ⟨o, r⟩
  · exact x a u r
  · obtain ⟨_, q⟩ := x a _ r
    exact q
def Mut : Option HO → Prop
  | some (.lst _) => True
  | some (.dK _) => True
  | some (.dT _) => True
  | some (.set _ _) => True
  | some (.ins _ _ _) => True
  | some (.ext _) => True
  | _ => False
section
variable {P : Program} {w : World} {H : Hp} {h h' : Heap} {x e : Addr} {o' : HO}
theorem HOk.write (ok : HOk P w H h) (mu : Mut (H x)) (he : e = x ∨ H e = some (.own x)) (k : ∀ b u, b ≠ e → h.get? b = some u → h'.get? b = some u) (heo : ∃ u, h'.get? e = some u)
    (new : ObjOk P w (upd H x o') h' x o') : HOk P w (upd H x o') h' := fun b u q => by
  have nown : ∀ c y, H c = some (.own y) → c ≠ x := fun c y r z => by subst z; rw [r] at mu; exact mu
  have ntup : ∀ c xs, H c = some (.tup xs) → c ≠ x := fun c xs r z => by subst z; rw [r] at mu; exact mu
  by_cases hb : b = x
  · subst hb; rw [upd_same] at q; cases q; exact new
  · rw [upd_ne hb] at q
    by_cases hbe : b = e
    · have q' : H b = some (.own x) := by
        rcases he with z | z
        · exact absurd (hbe.trans z) hb
        · rw [hbe]; exact z
      rw [q] at q'; cases q'
      obtain ⟨v, hv⟩ := heo
      exact ⟨v, by rw [hbe]; exact hv⟩
    · refine (ok b u q).stay (fun c v hc r => k c v ?_ r) (fun c r => by rw [upd_ne (nown c b r)]; exact r) fun c xs r => by rw [upd_ne (ntup c xs r)]; exact r
      rcases hc with rfl | hc
      · exact hbe
      · rintro rfl
        rcases he with z | z
        · exact nown c b hc z
        · rw [hc] at z; cases z; exact hb rfl
end
structure Un (fs ex : List Addr) (H H' : Hp) (h h' : Heap) : Prop where
  keep : ∀ b o, h.get? b = some o → H b = none → b ∉ fs → b ∉ ex → h'.get? b = some o
  slot : ∀ b o, h.get? b = some o → H b = none → b ∈ fs → b ∉ ex → ∃ sl, h'.get? b = some { o with slots := sl }
  free : ∀ b o, h.get? b = some o → H b = none → b ∉ ex → H' b = none
  there : ∀ b o, h.get? b = some o → b ∉ ex → ∃ o', h'.get? b = some o'
  tups : ∀ b xs, H b = some (.tup xs) → H' b = some (.tup xs)
  frzs : ∀ b o u, H b = some (.frz o u) → H' b = some (.frz o u)
  tbls : ∀ b ps, H b = some (.tbl ps) → ∃ more, H' b = some (.tbl (ps ++ more))
section
variable {fs fs' ex ex' : List Addr} {H H1 H2 : Hp} {h h1 h2 h' : Heap} {a x e : Addr} {o : HO}
theorem Un.any (u : Un fs ex H H1 h h1) {b : Addr} {ob : Obj} (q : h.get? b = some ob) (n : H b = none) (hx : b ∉ ex) : ∃ sl, h1.get? b = some { ob with slots := sl } := by
  by_cases hb : b ∈ fs
  · exact u.slot b ob q n hb hx
  · exact ⟨ob.slots, u.keep b ob q n hb hx⟩
theorem Un.kept (k : ∀ b u, h.get? b = some u → h'.get? b = some u) : Un fs ex H H h h' :=
  ⟨fun b ob q _ _ _ => k b ob q, fun b ob q _ _ _ => ⟨ob.slots, k b ob q⟩, fun _ _ _ n _ => n, fun b ob q _ => ⟨ob, k b ob q⟩, fun _ _ q => q, fun _ _ _ q => q, fun _ ps q => ⟨#[], by rw [q]; simp⟩⟩
theorem Un.refl : Un fs ex H H h h := Un.kept fun _ _ q => q
theorem Un.laid (k : ∀ b u, h.get? b = some u → h'.get? b = some u) (hp : h.objs.size ≤ a) (hn : H a = none) : Un fs ex H (upd H a o) h h' where
  keep := fun b u q _ _ _ => k b u q
  slot := fun b u q _ _ _ => ⟨u.slots, k b u q⟩
  free := fun b u q n _ => by rw [upd_ne (Nat.ne_of_lt (Nat.lt_of_lt_of_le (Heap.lt_size q) hp))]; exact n
  there := fun b u q _ => ⟨u, k b u q⟩
  tups := fun b xs q => by rw [upd_ne (ne_of_none q hn)]; exact q
  frzs := fun b u xs q => by rw [upd_ne (ne_of_none q hn)]; exact q
  tbls := fun b ps q => ⟨#[], by rw [upd_ne (ne_of_none q hn), q]; simp⟩
theorem Un.write (mu : Mut (H x)) (he : e = x ∨ H e = some (.own x)) (k : ∀ b u, b ≠ e → h.get? b = some u → h'.get? b = some u) (heo : ∃ u, h'.get? e = some u) : Un fs ex H (upd H x o) h h' := by
  have hx : ∀ b, H b = none → b ≠ x := fun b n z => by subst z; rw [n] at mu; exact mu
  have hb : ∀ b, H b = none → b ≠ e := fun b n z => by
    subst z
    rcases he with r | r
    · exact hx b n r
    · rw [n] at r; cases r
  have hm : ∀ b u, H b = some u → ¬ Mut (some u) → b ≠ x := fun b u q nm z => by subst z; rw [q] at mu; exact nm mu
  refine ⟨fun b u q n _ _ => k b u (hb b n) q, fun b u q n _ _ => ⟨u.slots, k b u (hb b n) q⟩, fun b u q n _ => by rw [upd_ne (hx b n)]; exact n, fun b u q _ => ?_,
    fun b xs q => by rw [upd_ne (hm b _ q fun z => z)]; exact q, fun b u xs q => by rw [upd_ne (hm b _ q fun z => z)]; exact q, fun b ps q => ⟨#[], by rw [upd_ne (hm b _ q fun z => z), q]; simp⟩⟩
  by_cases hbe : b = e
  · subst hbe; exact heo
  · exact ⟨u, k b u hbe q⟩
end
def trk (h : Heap) (H : Hp) : List Addr := (List.range h.objs.size).filter fun a => (H a).isSome
def hidT (h : Heap) (H : Hp) : Heap := PySem.W.hideAll h (trk h H)
theorem hidT_size (h : Heap) (H : Hp) : (hidT h H).objs.size = h.objs.size := PySem.W.hideAll_size _ _
theorem hidT_get {h : Heap} {H : Hp} {b : Addr} {o : Obj} (e : h.get? b = some o) (n : H b = none) : (hidT h H).get? b = some o :=
  PySem.W.hideAll_get _ e fun hm => by
    have q : (H b).isSome = true := (List.mem_filter.mp hm).2
    rw [n] at q; simp at q
theorem of_hidT {h : Heap} {H : Hp} {b : Addr} {o : Obj} (e : (hidT h H).get? b = some o) : h.get? b = some o ∧ H b = none := by
  have e' : h.get? b = some o := PySem.W.of_hideAll (trk h H) e
  refine ⟨e', ?_⟩
  cases q : H b with
  | none => rfl
  | some x =>
    have hm : b ∈ trk h H := List.mem_filter.mpr ⟨List.mem_range.mpr (Heap.lt_size e'), by simp [q]⟩
    have z : (hidT h H).get? b = none := PySem.W.hideAll_none (trk h H) hm
    rw [z] at e; cases e
end L2
namespace L2
open PySem PySem.Spec PyProof.Rows
structure Mod (K : PySem.W.Frag) (mg : Str → Option Value) (base : Heap) : Prop where
  kin : K.In base
  glob : base.Ns mainGlobals mg
  blt : ∃ mb, base.Ns builtinsNs mb ∧ ∀ x : Str, x ≠ "__name__" → mb x = bootBuiltins x
  nolimit : base.NoLimit
structure Cx where
  prog : Program
  w : World
  K : PySem.W.Frag
  mg : Str → Option Value
  base : Heap
  A : Around
  N : List Str
  s₀ : Shared
  H₀ : Hp
  env : Env
  outer : List Env
  stack : List Env
  ex : List Addr
  fn : Str → Bool
  calm : Bool
  pn : List (Addr × Obj)
  xe : Value → Shared → Prop
def frs (l : List Env) : List Addr := l.filterMap (·.frame)
abbrev Cx.fs (X : Cx) : List Addr := frs X.outer
def Vis (sc : Scope) (x : Str) : Prop := sc.names.lookup x = some .local ∨ sc.names.lookup x = some .cell ∨ sc.names.lookup x = some .free
def Loc (sc : Scope) (x : Str) : Prop := sc.names.lookup x = some .local ∨ sc.names.lookup x = some .cell
def Look (env : Env) (h : Heap) (m : Str → Option Value) (x : Str) (u : Value) : Prop :=
  (env.kindOf x = some .local ∧ m x = some u) ∨ ((env.kindOf x = some .cell ∨ env.kindOf x = some .free) ∧ ∃ c, env.cells.lookup x = some c ∧ h.IsCell c (some u))
structure Cx.Ok (X : Cx) : Prop where
  mod : Mod X.K X.mg X.base
  kind : X.env.scope.kind = .function
  glob : X.env.globals = mainGlobals
  blt : X.env.builtins = builtinsNs
  above : X.s₀.heap.objs.size ≤ X.env.locals
  inj : ∀ x y c, X.env.cells.lookup x = some c → X.env.cells.lookup y = some c → x = y
  has : ∀ x, (X.env.kindOf x = some .cell ∨ X.env.kindOf x = some .free) → ∃ c, X.env.cells.lookup x = some c
  cab : ∀ x c, X.fn x = true → X.env.cells.lookup x = some c → X.s₀.heap.objs.size ≤ c
  hd : X.calm = true → X.A.handled = none
  frames : X.A.frames = some X.stack
  stk : X.stack = X.outer ∨ (X.stack = X.env :: X.outer ∧ X.env.frame = some X.env.locals)
  exf : ∀ b ∈ X.ex, b ≠ X.env.locals ∧ ∀ x c, X.env.cells.lookup x = some c → c ≠ b
  bs : ∀ b o, X.base.get? b = some o → X.s₀.heap.get? b = some o ∧ X.H₀ b = none
  bsz : X.base.objs.size ≤ X.s₀.heap.objs.size
  noex : ∀ b o, X.base.get? b = some o → b ∉ X.ex
  exfs : ∀ b ∈ X.ex, b ∉ X.fs
  funs : X.s₀.heap.FunFrames X.base X.outer
  frf : ∀ b ∈ X.fs, X.H₀ b = none
structure Inv (X : Cx) (pins : List (Addr × Obj)) (σ : List (Option V)) (H : Hp) (s : Shared) : Prop where
  ok : X.Ok
  os : s.os = X.s₀.os
  bare : AllBare s.gens
  base : Un X.fs X.ex X.H₀ H X.s₀.heap s.heap
  loc : ∃ m, s.heap.Ns X.env.locals m ∧ ∀ (i : Nat) (x : Str) (v : V), X.N[i]? = some x → σ[i]? = some (some v) → Vis X.env.scope x → ∃ u, RelV v u ∧ Look X.env s.heap m x u
  cell : ∀ x c, X.env.cells.lookup x = some c → ∃ v, s.heap.IsCell c v
  free : H X.env.locals = none
  freeC : ∀ x c, X.env.cells.lookup x = some c → H c = none
  pin : ∀ p ∈ X.pn ++ pins, s.heap.get? p.1 = some p.2 ∧ H p.1 = none ∧ p.1 ≠ X.env.locals ∧ p.1 ∉ X.fs ∧ ∀ v, p.2.data ≠ .cell v
  hok : HOk X.prog X.w H s.heap
  len : σ.length = X.N.length
section
variable {X : Cx} {pins : List (Addr × Obj)} {σ : List (Option V)} {H H' : Hp} {s : Shared} {h' : Heap}
theorem Cx.Ok.nofr (ok : X.Ok) {b : Addr} {o : Obj} (e : X.base.get? b = some o) : b ∉ X.fs := fun hb => by
  have := (ok.funs.mem hb).1
  rw [e] at this; cases this
theorem Inv.bs (I : Inv X pins σ H s) : ∀ b o, X.base.get? b = some o → s.heap.get? b = some o ∧ H b = none := fun b o e =>
  ⟨I.base.keep b o (I.ok.bs b o e).1 (I.ok.bs b o e).2 (I.ok.nofr e) (I.ok.noex b o e), I.base.free b o (I.ok.bs b o e).1 (I.ok.bs b o e).2 (I.ok.noex b o e)⟩
theorem Inv.bk (I : Inv X pins σ H s) : ∀ b o, X.base.get? b = some o → s.heap.get? b = some o := fun b o e => (I.bs b o e).1
theorem Inv.mod (I : Inv X pins σ H s) : Mod X.K X.mg X.base := I.ok.mod
theorem Inv.kIn (I : Inv X pins σ H s) : X.K.In s.heap := I.ok.mod.kin.keeps I.bk
theorem Inv.lt (I : Inv X pins σ H s) : X.env.locals < s.heap.objs.size := let ⟨_, hn, _⟩ := I.loc; hn.lt
theorem Inv.sz (I : Inv X pins σ H s) : X.s₀.heap.objs.size ≤ s.heap.objs.size := Nat.le_trans I.ok.above (Nat.le_of_lt I.lt)
theorem Inv.nofs (I : Inv X pins σ H s) {a : Addr} (h : s.heap.objs.size ≤ a) : a ∉ X.fs := fun hb => by
  obtain ⟨_, o, ho, _⟩ := I.ok.funs.mem hb
  exact absurd (Nat.lt_of_lt_of_le (Heap.lt_size ho) (Nat.le_trans I.sz h)) (Nat.lt_irrefl _)
theorem Inv.cne (I : Inv X pins σ H s) : ∀ x c, X.env.cells.lookup x = some c → c ≠ X.env.locals := fun x c e z => by
  obtain ⟨v, o, ho, hd⟩ := I.cell x c e
  obtain ⟨m, ⟨o', es, ep, ho', hd', _⟩, _⟩ := I.loc
  rw [z, ho'] at ho; cases ho; rw [hd'] at hd; cases hd
theorem Inv.funs (I : Inv X pins σ H s) : s.heap.FunFrames X.base X.outer := by
  have all : ∀ (l : List Env), (∀ b ∈ frs l, b ∈ X.fs) → X.s₀.heap.FunFrames X.base l → s.heap.FunFrames X.base l := by
    intro l
    induction l with
    | nil => intro _ _; trivial
    | cons env r ih =>
      intro hs hl
      obtain ⟨hk, ⟨L, o, hf, hn, ho, hd⟩, hr⟩ := hl
      have hL : L ∈ X.fs := hs L (by unfold frs; rw [List.filterMap_cons, hf]; exact List.mem_cons_self)
      obtain ⟨sl, e⟩ := I.base.slot L o ho (I.ok.frf L hL) hL fun z => I.ok.exfs L z hL
      exact ⟨hk, ⟨L, _, hf, hn, e, hd⟩, ih (fun b hb => hs b (by unfold frs; rw [List.filterMap_cons, hf]; exact List.mem_cons_of_mem _ hb)) hr⟩
  exact all X.outer (fun _ hb => hb) I.ok.funs
theorem Inv.stack (I : Inv X pins σ H s) : s.heap.FunFrames X.base X.stack := by
  rcases I.ok.stk with e | ⟨e, hf⟩
  · rw [e]; exact I.funs
  · rw [e]
    obtain ⟨m, hn, _⟩ := I.loc
    refine .cons (by rw [I.ok.kind]; decide) hf hn ?_ I.funs
    exact Heap.get?_none_of_le (Nat.le_trans I.ok.bsz I.ok.above)
theorem Inv.stkSub (I : Inv X pins σ H s) : ∀ b ∈ frs X.stack, b ∈ X.env.locals :: X.fs := fun b hb => by
  rcases I.ok.stk with e | ⟨e, hf⟩
  · rw [e] at hb; exact List.mem_cons_of_mem _ hb
  · rw [e] at hb
    unfold frs at hb
    rw [List.filterMap_cons, hf] at hb
    exact hb
theorem Inv.stkFree (I : Inv X pins σ H s) : ∀ b ∈ frs X.stack, H b = none := fun b hb => by
  rcases List.mem_cons.mp (I.stkSub b hb) with e | hb
  · rw [e]; exact I.free
  · obtain ⟨_, o, ho, _⟩ := I.ok.funs.mem hb
    exact I.base.free b o ho (I.ok.frf b hb) fun z => I.ok.exfs b z hb
theorem Inv.step {g' : Array GenState} {t' : Nat} {d' : Drawn} {ch : List Addr} (I : Inv X pins σ H s)
    (hch : ∀ b ∈ ch, (b ∈ X.ex ∨ X.s₀.heap.objs.size ≤ b) ∧ b ≠ X.env.locals ∧ (∀ x c, X.env.cells.lookup x = some c → c ≠ b) ∧ ∀ p ∈ X.pn ++ pins, p.1 ≠ b)
    (keep : ∀ b o, b ≠ X.env.locals → b ∉ X.fs → b ∉ ch → s.heap.get? b = some o → H b = none → h'.get? b = some o)
    (slot : ∀ b o, b ≠ X.env.locals → b ∈ X.fs → b ∉ ch → s.heap.get? b = some o → H b = none → ∃ sl, h'.get? b = some { o with slots := sl }) (free : ∀ b o, b ∉ ch → s.heap.get? b = some o → H b = none → H' b = none)
    (there : ∀ b o, b ∉ ch → s.heap.get? b = some o → ∃ o', h'.get? b = some o')
    (tups : ∀ b xs, H b = some (.tup xs) → H' b = some (.tup xs)) (frzs : ∀ b o u, H b = some (.frz o u) → H' b = some (.frz o u)) (tbls : ∀ b ps, H b = some (.tbl ps) → ∃ more, H' b = some (.tbl (ps ++ more)))
    (ns : ∀ m, s.heap.Ns X.env.locals m → h'.Ns X.env.locals m) (hok : HOk X.prog X.w H' h') (hg : AllBare g') :
    Inv X pins σ H' { s with heap := h', gens := g', drawn := d', toks := t' } := by
  have neL : ∀ b o, X.s₀.heap.get? b = some o → b ≠ X.env.locals := fun b o e => Nat.ne_of_lt (Nat.lt_of_lt_of_le (Heap.lt_size e) I.ok.above)
  have neC : ∀ b o, X.s₀.heap.get? b = some o → b ∉ X.ex → b ∉ ch := fun b o e hx hb => by
    rcases (hch b hb).1 with z | z
    · exact hx z
    · exact absurd (Nat.lt_of_lt_of_le (Heap.lt_size e) z) (Nat.lt_irrefl _)
  have cellK : ∀ x c, X.env.cells.lookup x = some c → ∀ v, s.heap.IsCell c v → h'.IsCell c v := fun x c e v ⟨o, ho, hd⟩ => by
    have nch : c ∉ ch := fun z => (hch c z).2.2.1 x c e rfl
    by_cases hc : c ∈ X.fs
    · obtain ⟨sl, q⟩ := slot c o (I.cne x c e) hc nch ho (I.freeC x c e)
      exact ⟨_, q, hd⟩
    · exact ⟨o, keep c o (I.cne x c e) hc nch ho (I.freeC x c e), hd⟩
  refine ⟨I.ok, I.os, hg, ⟨fun b o e n hb hx => ?_, fun b o e n hb hx => ?_, fun b o e n hx => ?_, fun b o e hx => ?_, fun b xs e => tups b xs (I.base.tups b xs e), fun b o xs e => frzs b o xs (I.base.frzs b o xs e), fun b ps e => ?_⟩, ?_, fun x c e => ?_, ?_, fun x c e => ?_, fun p hp => ?_, hok, I.len⟩
  · exact keep b o (neL b o e) hb (neC b o e hx) (I.base.keep b o e n hb hx) (I.base.free b o e n hx)
  · obtain ⟨sl, e1⟩ := I.base.slot b o e n hb hx
    obtain ⟨sl', e2⟩ := slot b _ (neL b o e) hb (neC b o e hx) e1 (I.base.free b o e n hx)
    exact ⟨sl', e2⟩
  · obtain ⟨o', e1⟩ := I.base.there b o e hx
    exact free b o' (neC b o e hx) e1 (I.base.free b o e n hx)
  · obtain ⟨o', e1⟩ := I.base.there b o e hx
    exact there b o' (neC b o e hx) e1
  · obtain ⟨m1, e1⟩ := I.base.tbls b ps e
    obtain ⟨m2, e2⟩ := tbls b _ e1
    exact ⟨m1 ++ m2, by rw [e2, Array.append_assoc]⟩
  · obtain ⟨m, hn, hl⟩ := I.loc
    refine ⟨m, ns m hn, fun i x v e1 e2 e3 => ?_⟩
    obtain ⟨u, r, l⟩ := hl i x v e1 e2 e3
    refine ⟨u, r, ?_⟩
    rcases l with l | ⟨k, c, e, z⟩
    · exact .inl l
    · exact .inr ⟨k, c, e, cellK x c e _ z⟩
  · obtain ⟨v, z⟩ := I.cell x c e
    exact ⟨v, cellK x c e v z⟩
  · obtain ⟨m, ⟨o, _, _, ho, _⟩, _⟩ := I.loc
    exact free _ o (fun z => (hch _ z).2.1 rfl) ho I.free
  · obtain ⟨v, o, ho, hd⟩ := I.cell x c e
    exact free c o (fun z => (hch c z).2.2.1 x c e rfl) ho (I.freeC x c e)
  · obtain ⟨e, n, ne, nf, d⟩ := I.pin p hp
    have nch : p.1 ∉ ch := fun z => (hch p.1 z).2.2.2 p hp rfl
    exact ⟨keep p.1 p.2 ne nf nch e n, free p.1 p.2 nch e n, ne, nf, d⟩
theorem Inv.un {t' : Nat} (I : Inv X pins σ H s) (u : Un X.fs [] H H' s.heap h') (hok : HOk X.prog X.w H' h') : Inv X pins σ H' { s with heap := h', toks := t' } := by
  obtain ⟨m, ⟨o, es, ep, ho, r⟩, _⟩ := id I.loc
  obtain ⟨sl, hL⟩ := u.any ho I.free (by simp)
  exact I.step (g' := s.gens) (d' := s.drawn) (ch := []) (fun _ z => nomatch z) (fun b o _ hb _ e n => u.keep b o e n hb (by simp)) (fun b o _ hb _ e n => u.slot b o e n hb (by simp)) (fun b o _ e n => u.free b o e n (by simp)) (fun b o _ e => u.there b o e (by simp)) u.tups u.frzs u.tbls (fun m' hm => by
    obtain ⟨o', es', ep', ho', r'⟩ := hm
    rw [ho] at ho'; cases ho'
    exact ⟨_, es', ep', hL, r'⟩) hok I.bare
theorem Inv.call {g' : Array GenState} {t' : Nat} {d' : Drawn} {ch : List Addr} (I : Inv X pins σ H s) (u : Un (frs X.stack) ch H H' s.heap h') (hok : HOk X.prog X.w H' h') (hg : AllBare g')
    (hch : ∀ b ∈ ch, (b ∈ X.ex ∨ X.s₀.heap.objs.size ≤ b) ∧ b ≠ X.env.locals ∧ (∀ x c, X.env.cells.lookup x = some c → c ≠ b) ∧ ∀ p ∈ X.pn ++ pins, p.1 ≠ b) :
    Inv X pins σ H' { s with heap := h', gens := g', drawn := d', toks := t' } := by
  obtain ⟨m, ⟨o, es, ep, ho, r⟩, _⟩ := id I.loc
  obtain ⟨sl, hL⟩ := u.any ho I.free fun z => (hch _ z).2.1 rfl
  exact I.step (ch := ch) hch (fun b o hL hb hc e n => u.keep b o e n (fun z => (List.mem_cons.mp (I.stkSub b z)).elim hL hb) hc) (fun b o _ _ hc e n => u.any e n hc) (fun b o hc e n => u.free b o e n hc) (fun b o hc e => u.there b o e hc) u.tups u.frzs u.tbls (fun m' hm => by
    obtain ⟨o', es', ep', ho', r'⟩ := hm
    rw [ho] at ho'; cases ho'
    exact ⟨_, es', ep', hL, r'⟩) hok hg
theorem Inv.turned {t' : Nat} {it : Addr} (I : Inv X pins σ H s) (k : ∀ b o, b ≠ it → s.heap.get? b = some o → h'.get? b = some o) (hn : H it = none) (hL : it ≠ X.env.locals)
    (h1 : it ∈ X.ex ∨ X.s₀.heap.objs.size ≤ it) (h2 : ∀ x c, X.env.cells.lookup x = some c → c ≠ it) (h3 : ∀ p ∈ X.pn ++ pins, p.1 ≠ it) : Inv X pins σ H { s with heap := h', toks := t' } := by
  have nit : ∀ b u, H b = some u → b ≠ it := fun b u e z => by rw [z, hn] at e; cases e
  refine I.step (g' := s.gens) (d' := s.drawn) (ch := [it]) (fun b hb => ?_) (fun b o _ _ hc e _ => k b o (fun z => hc (by simp [z])) e) (fun b o _ _ hc e _ => ⟨o.slots, k b o (fun z => hc (by simp [z])) e⟩) (fun _ _ _ _ n => n)
    (fun b o hc e => ⟨o, k b o (fun z => hc (by simp [z])) e⟩) (fun _ _ e => e) (fun _ _ _ e => e) (fun b ps e => ⟨#[], by rw [e]; simp⟩) (fun m hm => ?_) (fun b u e => ?_) I.bare
  · have e : b = it := by simpa using hb
    subst e
    exact ⟨h1, hL, h2, h3⟩
  · obtain ⟨o, es, ep, ho, r⟩ := hm
    exact ⟨o, es, ep, k _ o (Ne.symm hL) ho, r⟩
  · refine (I.hok b u e).stay (fun c v hc q => k c v ?_ q) (fun _ q => q) fun _ _ q => q
    rcases hc with z | z
    · rw [z]; exact nit b u e
    · exact nit c _ z
theorem Inv.tok (I : Inv X pins σ H s) (t : Nat) : Inv X pins σ H { s with toks := t } := I.un (h' := s.heap) (t' := t) Un.refl I.hok
theorem Inv.kept {t' : Nat} (I : Inv X pins σ H s) (k : ∀ b u, s.heap.get? b = some u → h'.get? b = some u) : Inv X pins σ H { s with heap := h', toks := t' } := I.un (Un.kept k) (I.hok.kept k)
theorem Inv.laid {a : Addr} {o : HO} {t' : Nat} (I : Inv X pins σ H s) (k : ∀ b u, s.heap.get? b = some u → h'.get? b = some u) (hp : s.heap.objs.size ≤ a) (new : ObjOk X.prog X.w (upd H a o) h' a o) :
    Inv X pins σ (upd H a o) { s with heap := h', toks := t' } := I.un (Un.laid k hp (I.hok.fresh hp)) (I.hok.laid k hp new)
theorem Inv.write {x e : Addr} {o : HO} {t' : Nat} (I : Inv X pins σ H s) (mu : Mut (H x)) (he : e = x ∨ H e = some (.own x)) (k : ∀ b u, b ≠ e → s.heap.get? b = some u → h'.get? b = some u) (heo : ∃ u, h'.get? e = some u)
    (new : ObjOk X.prog X.w (upd H x o) h' x o) : Inv X pins σ (upd H x o) { s with heap := h', toks := t' } := I.un (Un.write mu he k heo) (I.hok.write mu he k heo new)
theorem Inv.pins_of {pins' : List (Addr × Obj)} (I : Inv X pins σ H s) (h : ∀ p ∈ pins', s.heap.get? p.1 = some p.2 ∧ H p.1 = none ∧ p.1 ≠ X.env.locals ∧ p.1 ∉ X.fs ∧ ∀ v, p.2.data ≠ .cell v) : Inv X pins' σ H s :=
  ⟨I.ok, I.os, I.bare, I.base, I.loc, I.cell, I.free, I.freeC, fun p hp => (List.mem_append.mp hp).elim (fun z => I.pin p (List.mem_append_left _ z)) (h p), I.hok, I.len⟩
theorem nodup_ix {N : List Str} (hN : N.Nodup) {i j : Nat} {x : Str} (a : N[i]? = some x) (b : N[j]? = some x) : i = j := by
  obtain ⟨h1, e1⟩ := List.getElem?_eq_some_iff.mp a
  obtain ⟨h2, e2⟩ := List.getElem?_eq_some_iff.mp b
  exact (List.getElem_inj hN).mp (e1.trans e2.symm)
theorem store_ok2 {M : Model} {A : Around} {E : Value → Shared → Prop} {i : Nat} {x : Str} {v : V} {u : Value} {Q : Unit → Shared → Prop} (I : Inv X pins σ H s) (hN : X.N.Nodup) (hi : X.N[i]? = some x) (hx : Loc X.env.scope x) (r : RelV v u)
    (h : ∀ s', Inv X pins (σ.set i (some v)) H s' → (∃ a, Heap.SameBut a s.heap s'.heap ∧ (a = X.env.locals ∨ X.env.cells.lookup x = some a)) → Q () s') (hf : X.fn x = true ∨ X.env.scope.names.lookup x = some .local := by first | exact .inl rfl | exact .inr rfl | assumption) : wpAny M A (storeName X.env x u) Q E s := by
  obtain ⟨m, hn, hl⟩ := id I.loc
  have hcls : (X.env.scope.kind == .class || (X.env.scope.kind == .module && X.env.locals != X.env.globals)) = false := by rw [I.ok.kind]; rfl
  have hiσ : i < σ.length := by rw [I.len]; exact (List.getElem?_eq_some_iff.mp hi).1
  have cne := I.cne
  have tracked : ∀ {a : Addr} {h' : Heap}, (∃ o, s.heap.get? a = some o ∧ H a = none) → Heap.SameBut a s.heap h' → HOk X.prog X.w H h' := fun {a h'} ha hs b ob e => by
    obtain ⟨_, _, hfree⟩ := ha
    refine (I.hok b ob e).stay (fun c w' hc q => (hs.2 c ?_).trans q) (fun _ q => q) fun _ _ q => q
    rintro rfl
    rcases hc with rfl | hc
    · rw [hfree] at e; cases e
    · rw [hfree] at hc; cases hc
  rcases hx with hk | hk
  · refine wpAny_storeName_local hk hn (fun h' hn' hs => ?_) hcls
    obtain ⟨oL, _, _, hoL, _⟩ := id hn
    refine h _ ⟨I.ok, I.os, I.bare, ⟨fun b o e n hb hx => ?_, fun b o e n hb hx => ?_, I.base.free, fun b o e hx => ?_, I.base.tups, I.base.frzs, I.base.tbls⟩, ⟨_, hn', fun j y v' e1 e2 e3 => ?_⟩, fun y c e => ?_, I.free, I.freeC, fun p hp => ?_, tracked ⟨oL, hoL, I.free⟩ hs, by simpa using I.len⟩ ⟨_, hs, .inl rfl⟩
    · exact (hs.2 b (Nat.ne_of_lt (Nat.lt_of_lt_of_le (Heap.lt_size e) I.ok.above))).trans (I.base.keep b o e n hb hx)
    · obtain ⟨sl, e1⟩ := I.base.slot b o e n hb hx
      exact ⟨sl, (hs.2 b (Nat.ne_of_lt (Nat.lt_of_lt_of_le (Heap.lt_size e) I.ok.above))).trans e1⟩
    · obtain ⟨o', e1⟩ := I.base.there b o e hx
      exact ⟨o', (hs.2 b (Nat.ne_of_lt (Nat.lt_of_lt_of_le (Heap.lt_size e) I.ok.above))).trans e1⟩
    · by_cases hj : j = i
      · subst hj
        rw [hi] at e1; cases e1
        rw [List.getElem?_set_self hiσ] at e2
        cases e2
        exact ⟨u, r, .inl ⟨hk, by simp⟩⟩
      · rw [List.getElem?_set_ne (Ne.symm hj)] at e2
        obtain ⟨u', r', q⟩ := hl j y v' e1 e2 e3
        refine ⟨u', r', ?_⟩
        rcases q with ⟨k, e⟩ | ⟨k, c, e, z⟩
        · refine .inl ⟨k, ?_⟩
          have : y ≠ x := fun e => hj (nodup_ix hN e1 (e ▸ hi))
          simp [this, e]
        · exact .inr ⟨k, c, e, z.sameBut hs (cne y c e)⟩
    · obtain ⟨w', z⟩ := I.cell y c e
      exact ⟨w', z.sameBut hs (cne y c e)⟩
    · obtain ⟨e, n, ne, nf, d⟩ := I.pin p hp
      exact ⟨(hs.2 p.1 ne).trans e, n, ne, nf, d⟩
  · have hfn : X.fn x = true := by
      rcases hf with z | z
      · exact z
      · rw [z] at hk; cases hk
    obtain ⟨c, hc⟩ := I.ok.has x (.inl hk)
    obtain ⟨w', z⟩ := I.cell x c hc
    refine wpAny_storeName_cell I.ok.kind hk hc z (fun h' hc' hs => ?_)
    obtain ⟨oc, hoc, hocd⟩ := id z
    refine h { s with heap := h' } ⟨I.ok, I.os, I.bare, ⟨fun b o e n hb hx => ?_, fun b o e n hb hx => ?_, I.base.free, fun b o e hx => ?_, I.base.tups, I.base.frzs, I.base.tbls⟩, ⟨m, hn.sameBut hs (Ne.symm (cne x c hc)), fun j y v' e1 e2 e3 => ?_⟩, fun y c' e => ?_, I.free, I.freeC, fun p hp => ?_, tracked ⟨oc, hoc, I.freeC x c hc⟩ hs, by simpa using I.len⟩ ⟨c, hs, .inr hc⟩
    · exact (hs.2 b (Nat.ne_of_lt (Nat.lt_of_lt_of_le (Heap.lt_size e) (I.ok.cab x c hfn hc)))).trans (I.base.keep b o e n hb hx)
    · obtain ⟨sl, e1⟩ := I.base.slot b o e n hb hx
      exact ⟨sl, (hs.2 b (Nat.ne_of_lt (Nat.lt_of_lt_of_le (Heap.lt_size e) (I.ok.cab x c hfn hc)))).trans e1⟩
    · obtain ⟨o', e1⟩ := I.base.there b o e hx
      exact ⟨o', (hs.2 b (Nat.ne_of_lt (Nat.lt_of_lt_of_le (Heap.lt_size e) (I.ok.cab x c hfn hc)))).trans e1⟩
    · by_cases hj : j = i
      · subst hj
        rw [hi] at e1; cases e1
        rw [List.getElem?_set_self hiσ] at e2
        cases e2
        exact ⟨u, r, .inr ⟨.inl hk, c, hc, hc'⟩⟩
      · rw [List.getElem?_set_ne (Ne.symm hj)] at e2
        obtain ⟨u', r', q⟩ := hl j y v' e1 e2 e3
        refine ⟨u', r', ?_⟩
        rcases q with q | ⟨k, c', e, z'⟩
        · exact .inl q
        · refine .inr ⟨k, c', e, z'.sameBut hs ?_⟩
          rintro rfl
          exact hj (nodup_ix hN e1 (I.ok.inj _ _ _ e hc ▸ hi))
    · by_cases hcc : c' = c
      · subst hcc; exact ⟨_, hc'⟩
      · obtain ⟨w2, z2⟩ := I.cell y c' e
        exact ⟨w2, z2.sameBut hs hcc⟩
    · obtain ⟨e, n, ne, nf, d⟩ := I.pin p hp
      refine ⟨(hs.2 p.1 ?_).trans e, n, ne, nf, d⟩
      intro q
      rw [q, hoc] at e
      have q' : oc = p.2 := Option.some.inj e
      exact d w' (by rw [← q']; exact hocd)
theorem store_ok {M : Model} {A : Around} {E : Value → Shared → Prop} {i : Nat} {x : Str} {v : V} {u : Value} {Q : Unit → Shared → Prop} (I : Inv X pins σ H s) (hN : X.N.Nodup) (hi : X.N[i]? = some x) (hx : Loc X.env.scope x) (r : RelV v u)
    (h : ∀ s', Inv X pins (σ.set i (some v)) H s' → Q () s') (hf : X.fn x = true ∨ X.env.scope.names.lookup x = some .local := by first | exact .inl rfl | exact .inr rfl | assumption) : wpAny M A (storeName X.env x u) Q E s :=
  store_ok2 I hN hi hx r (fun s' I' _ => h s' I') hf
theorem Inv.call' {s' : Shared} {ch : List Addr} (I : Inv X pins σ H s) (ho : s'.os = s.os) (u : Un (frs X.stack) ch H H' s.heap s'.heap) (hok : HOk X.prog X.w H' s'.heap) (hg : AllBare s'.gens)
    (hch : ∀ b ∈ ch, (b ∈ X.ex ∨ X.s₀.heap.objs.size ≤ b) ∧ b ≠ X.env.locals ∧ (∀ x c, X.env.cells.lookup x = some c → c ≠ b) ∧ ∀ p ∈ X.pn ++ pins, p.1 ≠ b) : Inv X pins σ H' s' := by
  obtain ⟨h', g', d', t', o'⟩ := s'
  have e : o' = s.os := ho
  subst e
  exact I.call (g' := g') (t' := t') (d' := d') u hok hg hch
end
abbrev XK := Value → Option Addr → Hp → Prop
abbrev St := List (Option V)
abbrev VK := V → Hp → Prop
abbrev TE := St → Hp → VK → Prop
abbrev TT := St → Hp → (Bool → Hp → Prop) → Prop
abbrev TA := St → Hp → (List V → Hp → Prop) → Prop
structure Ends where
  nx : St → Hp → Prop
  rt : VK
  bk : St → Hp → Prop := fun _ _ => False
  ct : St → Hp → Prop := fun _ _ => False
abbrev TS := Ends → St → Hp → Prop
def EP (X : Cx) (pins : List (Addr × Obj)) (σ : St) (Q : VK) (u : Value) (s' : Shared) : Prop := ∃ v H', Inv X pins σ H' s' ∧ RelV v u ∧ Q v H'
def TP (X : Cx) (pins : List (Addr × Obj)) (σ : St) (Q : Bool → Hp → Prop) (b : Bool) (s' : Shared) : Prop := ∃ H', Inv X pins σ H' s' ∧ Q b H'
def AP (X : Cx) (pins : List (Addr × Obj)) (σ : St) (Q : List V → Hp → Prop) (us : List Value) (s' : Shared) : Prop := ∃ vs H', Inv X pins σ H' s' ∧ Vals vs us ∧ Q vs H'
def SP (X : Cx) (pins : List (Addr × Obj)) (D : Ends) (f : Flow) (s' : Shared) : Prop :=
  match f with
  | .next => ∃ σ' H', Inv X pins σ' H' s' ∧ D.nx σ' H'
  | .brk => ∃ σ' H', Inv X pins σ' H' s' ∧ D.bk σ' H'
  | .cont => ∃ σ' H', Inv X pins σ' H' s' ∧ D.ct σ' H'
  | .ret u => ∃ v σ' H', Inv X pins σ' H' s' ∧ RelV v u ∧ D.rt v H'
def PE (X : Cx) (e : Expr) (t : TE) : Prop :=
  ∀ (pins : List (Addr × Obj)) (s : Shared) (σ : St) (H : Hp) (Q : VK), Inv X pins σ H s → t σ H Q → wpAny (model X.prog X.w) X.A (eval e X.env) (EP X pins σ Q) X.xe s
def PT (X : Cx) (e : Expr) (t : TT) : Prop :=
  ∀ (pins : List (Addr × Obj)) (s : Shared) (σ : St) (H : Hp) (Q : Bool → Hp → Prop), Inv X pins σ H s → t σ H Q → wpAny (model X.prog X.w) X.A (isTrue e X.env (eval e X.env)) (TP X pins σ Q) X.xe s
def PW (X : Cx) (e : Expr) (t : TT) : Prop :=
  ∀ (whole : Sem Value) (pins : List (Addr × Obj)) (s : Shared) (σ : St) (H : Hp) (Q : Bool → Hp → Prop), Inv X pins σ H s → t σ H Q → wpAny (model X.prog X.w) X.A (isTrue e X.env whole) (TP X pins σ Q) X.xe s
theorem PW.pt {X : Cx} {e : Expr} {t : TT} (h : PW X e t) : PT X e t := h _
def PA (X : Cx) (es : List Expr) (t : TA) : Prop :=
  ∀ (pos : Pos) (pins : List (Addr × Obj)) (s : Shared) (σ : St) (H : Hp) (Q : List V → Hp → Prop), Inv X pins σ H s → t σ H Q → wpAny (model X.prog X.w) X.A (spliced (backTo pos (starEach es X.env))) (AP X pins σ Q) X.xe s
def PS (X : Cx) (st : Stmt) (t : TS) : Prop :=
  ∀ (pins : List (Addr × Obj)) (s : Shared) (σ : St) (H : Hp) (D : Ends), Inv X pins σ H s → t D σ H → wpAny (model X.prog X.w) X.A (exec st X.env) (SP X pins D) X.xe s
def PSs (X : Cx) (st : List Stmt) (t : TS) : Prop :=
  ∀ (pins : List (Addr × Obj)) (s : Shared) (σ : St) (H : Hp) (D : Ends), Inv X pins σ H s → t D σ H → wpAny (model X.prog X.w) X.A (execs st X.env) (SP X pins D) X.xe s
theorem thn {α : Type} {t : Sem α} {Q Q' : α → Shared → Prop} {M : Model} {A : Around} {E : Value → Shared → Prop} {s : Shared} (h : wpAny M A t Q E s) (hQ : ∀ a s, Q a s → Q' a s) : wpAny M A t Q' E s := wpAny_mono h hQ fun _ _ x => x
end L2
namespace L2
open PySem PySem.Spec PyProof.Rows
section
variable {X : Cx}
def tVar (i : Nat) : TE := fun σ H Q => ∃ v, σ[i]? = some (some v) ∧ Q v H
def tC (v : V) : TE := fun _ H Q => Q v H
theorem pe_var {i : Nat} {x : Str} {pos : Pos} (hN : X.N[i]? = some x) (hv : Vis X.env.scope x) (hd : (x == ("__debug__" : Str)) = false := by decide) (hcd : (x == ("__classdict__" : Str)) = false := by decide) : PE X (.Name x pos) (tVar i) := by
  intro pins s σ H Q I h
  obtain ⟨v, e, h⟩ := h
  obtain ⟨m, hn, hl⟩ := I.loc
  obtain ⟨u, r, l⟩ := hl i x v hN e hv
  have fin : EP X pins σ Q u s := ⟨v, H, I, r, h⟩
  rcases l with ⟨hk, hm⟩ | ⟨hk, c, hc, hcell⟩
  · exact wpAny_Name (wpAny_loadName_local I.ok.kind hk hn hm fin) hd
  · rcases hk with hk | hk
    · exact wpAny_Name (wpAny_loadName_cell I.ok.kind hk hc hcell fin) hd
    · exact wpAny_Name (wpAny_loadName_free I.ok.kind hk hc hcell fin hcd) hd
theorem pe_int {i j pos} : PE X (.Constant (.int i) j pos) (tC (.int i)) := fun _ _ _ H _ I h => wpAny_Constant_int ⟨.int i, H, I.tok _, ⟨_, rfl⟩, h⟩
theorem pe_bl {b j pos} : PE X (.Constant (.bool b) j pos) (tC (.bl b)) := fun _ _ _ H _ I h => Constant_bool ⟨.bl b, H, I, rfl, h⟩
theorem pe_str {x j pos} : PE X (.Constant (.str x) j pos) (tC (.str x)) := fun _ _ _ H _ I h => Calls.Constant_str ⟨.str x, H, I.tok _, ⟨_, rfl⟩, h⟩
def Gl (X : Cx) (x : Str) : Prop := X.env.kindOf x = some .globalImplicit
theorem ld_glob {E : Value → Shared → Prop} {pins : List (Addr × Obj)} {s : Shared} {σ : St} {H : Hp} {x : Str} {u : Value} {pos : Pos} {Q : Value → Shared → Prop} (I : Inv X pins σ H s) (hg : Gl X x) (hm : X.mg x = some u) (h : Q u s)
    (hd : (x == ("__debug__" : Str)) = false := by decide) : wpAny (model X.prog X.w) X.A (eval (.Name x pos) X.env) Q E s :=
  Calls.Name_function_global I.ok.kind hg (Calls.loadGlobal_global (by rw [I.ok.glob]; exact I.mod.glob.keeps I.bk) hm h) hd
theorem ld_blt {E : Value → Shared → Prop} {pins : List (Addr × Obj)} {s : Shared} {σ : St} {H : Hp} {x : Str} {u : Value} {pos : Pos} {Q : Value → Shared → Prop} (I : Inv X pins σ H s) (hg : Gl X x) (hm : X.mg x = none) (hv : bootBuiltins x = some u) (h : Q u s)
    (hn : x ≠ "__name__" := by decide) (hd : (x == ("__debug__" : Str)) = false := by decide) : wpAny (model X.prog X.w) X.A (eval (.Name x pos) X.env) Q E s := by
  obtain ⟨mb, h1, h2⟩ := I.mod.blt
  exact Calls.Name_function_global I.ok.kind hg (Calls.loadGlobal_builtin (by rw [I.ok.glob]; exact I.mod.glob.keeps I.bk) hm (by rw [I.ok.blt]; exact h1.keeps I.bk) ((h2 x hn).trans hv) h) hd
theorem pe_glob {x : Str} {v : V} {u : Value} {pos : Pos} (hg : Gl X x) (hm : X.mg x = some u) (r : RelV v u) (hd : (x == ("__debug__" : Str)) = false := by decide) : PE X (.Name x pos) (tC v) :=
  fun _ _ _ H _ I h => ld_glob I hg hm ⟨v, H, I, r, h⟩ hd
theorem pe_bltn {x : Str} {v : V} {u : Value} {pos : Pos} (hg : Gl X x) (hm : X.mg x = none) (hv : bootBuiltins x = some u) (r : RelV v u) (hn : x ≠ "__name__" := by decide) (hd : (x == ("__debug__" : Str)) = false := by decide) : PE X (.Name x pos) (tC v) :=
  fun _ _ _ H _ I h => ld_blt I hg hm hv ⟨v, H, I, r, h⟩ hn hd
variable {a b : Expr} {ta tb : TE} {pos : Pos}
variable {tA tB' : TT} {rest : List Expr}
def tOr (t u : TT) : TT := fun σ H Q => t σ H fun c H1 => if c = true then Q true H1 else u σ H1 Q
def tNot (t : TT) : TT := fun σ H Q => t σ H fun c H1 => Q (!c) H1
theorem pw_or1 (ha : PT X a tA) : PW X (.BoolOp .Or [a] pos) tA := by
  intro wh pins s σ H Q I h
  refine isTrue_or (thn (ha pins s σ H Q I h) fun c s1 e => ?_)
  cases c with
  | false => exact isTrue_or_nil e
  | true => exact e
theorem pw_or (ha : PT X a tA) (hb : PW X (.BoolOp .Or (b :: rest) pos) tB') : PW X (.BoolOp .Or (a :: b :: rest) pos) (tOr tA tB') := by
  intro wh pins s σ H Q I h
  refine isTrue_or (thn (ha pins s σ H _ I h) fun c s1 ⟨H1, I1, q1⟩ => ?_)
  cases c with
  | true => exact ⟨H1, I1, q1⟩
  | false => exact hb wh pins s1 σ H1 Q I1 q1
theorem pt_not (ha : PT X a tA) : PT X (.UnaryOp .Not a pos) (tNot tA) := by
  intro pins s σ H Q I h
  exact isTrue_not (ha pins s σ H (fun c H1 => Q (!c) H1) I h)
def tAndV (ta tb : TE) : TE := fun σ H Q => ta σ H fun x H1 => ∃ c, x = .bl c ∧ if c = true then tb σ H1 Q else Q (.bl false) H1
def tOrV (ta tb : TE) : TE := fun σ H Q => ta σ H fun x H1 => ∃ c, x = .bl c ∧ if c = true then Q (.bl true) H1 else tb σ H1 Q
def tNotV (ta : TE) : TE := fun σ H Q => ta σ H fun x H1 => ∃ c, x = .bl c ∧ Q (.bl (!c)) H1
theorem pe_one {op} {t : TE} (h : PE X a t) : PE X (.BoolOp op [a] pos) t := fun pins s σ H Q I hw => BoolOp_one (h pins s σ H Q I hw)
theorem pe_and (ha : PE X a ta) (hb : PE X (.BoolOp .And (b :: rest) pos) tb) : PE X (.BoolOp .And (a :: b :: rest) pos) (tAndV ta tb) := by
  intro pins s σ H Q I h
  refine BoolOp_and (thn (ha pins s σ H _ I h) fun v s1 ⟨x, H1, I1, r1, q1⟩ => ?_)
  obtain ⟨c, rfl, q1⟩ := q1
  cases r1
  refine wpAny_truthy_bool ?_
  cases c with
  | true => exact hb pins s1 σ H1 Q I1 q1
  | false => exact ⟨.bl false, H1, I1, rfl, q1⟩
theorem pe_or (ha : PE X a ta) (hb : PE X (.BoolOp .Or (b :: rest) pos) tb) : PE X (.BoolOp .Or (a :: b :: rest) pos) (tOrV ta tb) := by
  intro pins s σ H Q I h
  refine BoolOp_or (thn (ha pins s σ H _ I h) fun v s1 ⟨x, H1, I1, r1, q1⟩ => ?_)
  obtain ⟨c, rfl, q1⟩ := q1
  cases r1
  refine wpAny_truthy_bool ?_
  cases c with
  | false => exact hb pins s1 σ H1 Q I1 q1
  | true => exact ⟨.bl true, H1, I1, rfl, q1⟩
theorem pe_not (ha : PE X a ta) : PE X (.UnaryOp .Not a pos) (tNotV ta) := by
  intro pins s σ H Q I h
  refine UnaryOp_ (thn (ha pins s σ H _ I h) fun v s1 ⟨x, H1, I1, r1, q1⟩ => ?_)
  obtain ⟨c, rfl, q1⟩ := q1
  cases r1
  exact not_of (wpAny_truthy_bool ⟨.bl (!c), H1, I1, rfl, q1⟩)
def tIf (t : TT) (ta tb : TE) : TE := fun σ H Q => t σ H fun c H1 => if c = true then ta σ H1 Q else tb σ H1 Q
theorem pe_ifExp {c : Expr} (hc : PT X c tA) (ha : PE X a ta) (hb : PE X b tb) : PE X (.IfExp c a b pos) (tIf tA ta tb) := by
  intro pins s σ H Q I h
  refine wpAny_IfExp (thn (hc pins s σ H _ I h) fun d s1 ⟨H1, I1, q1⟩ => ?_)
  cases d with
  | true => exact ha pins s1 σ H1 Q I1 q1
  | false => exact hb pins s1 σ H1 Q I1 q1
end
end L2
namespace L2
open PySem PySem.Spec PyProof.Rows
def SqL (K : PySem.W.Frag) (H : Hp) (a : Addr) (xs : List V) : Prop :=
  Rd H a (.lst xs) ∨
    ∃ (o : Obj) (its : Array Value) (n : Nat), K.lookup a = some o ∧ o.cls = .type "list" ∧ o.dict = none ∧ o.data = .seq its n ∧ its.size ≤ sizeLine ∧ Vals xs its.toList
def SqT (K : PySem.W.Frag) (H : Hp) (a : Addr) (xs : List V) : Prop :=
  Rd H a (.tup xs) ∨
    ∃ (o : Obj) (its : Array Value) (n : Nat), K.lookup a = some o ∧ o.cls = .type "tuple" ∧ o.data = .seq its n ∧ its.size ≤ sizeLine ∧ Vals xs its.toList
def absV : Value → Option V
  | .none => some .non
  | .bool b => some (.bl b)
  | .int i _ => some (.int i)
  | .str x _ => some (.str x)
  | .bytes b _ => some (.byt b)
  | .float b _ => some (.flt b)
  | .ref a => some (.ref a)
  | .type n => some (.ty n)
  | _ => none
theorem RelV.abs {x : V} {u : Value} (r : RelV x u) : absV u = some x := by
  cases x with
  | non => cases r; rfl
  | bl _ => cases r; rfl
  | int _ => obtain ⟨t, rfl⟩ := r; rfl
  | str _ => obtain ⟨t, rfl⟩ := r; rfl
  | byt _ => obtain ⟨t, rfl⟩ := r; rfl
  | flt _ => obtain ⟨t, rfl⟩ := r; rfl
  | ref _ => cases r; rfl
  | ty _ => cases r; rfl
theorem RelV.inj {x y : V} {u : Value} (r : RelV x u) (q : RelV y u) : x = y := Option.some.inj (r.abs.symm.trans q.abs)
theorem Vals.inj : ∀ {xs ys : List V} {us : List Value}, Vals xs us → Vals ys us → xs = ys
  | _, _, _, .nil, .nil => rfl
  | _, _, _, .cons r t, .cons r' t' => by rw [r.inj r', Vals.inj t t']
section
variable {X : Cx} {pins : List (Addr × Obj)} {σ : St} {H : Hp} {s : Shared} {a : Addr} {xs ys : List V}
theorem SqL.of {K : PySem.W.Frag} (h : H a = some (.lst xs)) : SqL K H a xs := .inl (.inl h)
theorem SqT.of {K : PySem.W.Frag} (h : H a = some (.tup xs)) : SqT K H a xs := .inl (.inl h)
theorem Inv.list (I : Inv X pins σ H s) (h : SqL X.K H a xs) : ∃ its : List Value, Vals xs its ∧ PlainL s.heap a its.toArray ∧ xs.length ≤ sizeLine := by
  rcases h with h | ⟨o, its, n, hk, hc, hd, hs, hz, r⟩
  · obtain ⟨z, its, n, r, e⟩ := h.ok I.hok
    exact ⟨its, r, ⟨_, n, e, rfl, rfl, rfl⟩, z⟩
  · refine ⟨its.toList, r, ⟨o, n, I.kIn a o hk, hc, hd, by simpa using hs⟩, ?_⟩
    have e := r.length
    simp only [Array.length_toList] at e
    omega
theorem Inv.tuple (I : Inv X pins σ H s) (h : SqT X.K H a xs) : ∃ its : List Value, Vals xs its ∧ IsTup s.heap a its.toArray ∧ xs.length ≤ sizeLine := by
  rcases h with h | ⟨o, its, n, hk, hc, hs, hz, r⟩
  · obtain ⟨z, its, r, p⟩ := h.ok I.hok
    exact ⟨its, r, p, z⟩
  · refine ⟨its.toList, r, ⟨o, I.kIn a o hk, hc, n, by simpa using hs⟩, ?_⟩
    have e := r.length
    simp only [Array.length_toList] at e
    omega
theorem Inv.list_inj (I : Inv X pins σ H s) (h : SqL X.K H a xs) (h' : SqL X.K H a ys) : xs = ys := by
  obtain ⟨its, r, ⟨o, n, e, _, _, d⟩, _⟩ := I.list h
  obtain ⟨its', r', ⟨o', n', e', _, _, d'⟩, _⟩ := I.list h'
  rw [e] at e'; cases e'
  rw [d] at d'
  injection d' with d1 _
  have : its = its' := by simpa using congrArg Array.toList d1
  subst this
  exact r.inj r'
theorem Inv.tuple_inj (I : Inv X pins σ H s) (h : SqT X.K H a xs) (h' : SqT X.K H a ys) : xs = ys := by
  obtain ⟨its, r, ⟨o, e, _, n, d⟩, _⟩ := I.tuple h
  obtain ⟨its', r', ⟨o', e', _, n', d'⟩, _⟩ := I.tuple h'
  rw [e] at e'; cases e'
  rw [d] at d'
  injection d' with d1 _
  have : its = its' := by simpa using congrArg Array.toList d1
  subst this
  exact r.inj r'
end
abbrev Cx.wish (X : Cx) (E : Value → Shared → Prop) : Cx := { X with xe := E }
abbrev Cx.nox (X : Cx) : Cx := X.wish fun _ _ => False
theorem Cx.Ok.wish {X : Cx} (ok : X.Ok) (E : Value → Shared → Prop) : (X.wish E).Ok :=
  ⟨ok.mod, ok.kind, ok.glob, ok.blt, ok.above, ok.inj, ok.has, ok.cab, ok.hd, ok.frames, ok.stk, ok.exf, ok.bs, ok.bsz, ok.noex, ok.exfs, ok.funs, ok.frf⟩
theorem Cx.Ok.unwish {X : Cx} {E : Value → Shared → Prop} (ok : (X.wish E).Ok) : X.Ok :=
  ⟨ok.mod, ok.kind, ok.glob, ok.blt, ok.above, ok.inj, ok.has, ok.cab, ok.hd, ok.frames, ok.stk, ok.exf, ok.bs, ok.bsz, ok.noex, ok.exfs, ok.funs, ok.frf⟩
section
variable {X : Cx} {pins : List (Addr × Obj)} {σ : St} {H : Hp} {s : Shared} {E : Value → Shared → Prop}
theorem Inv.wish (I : Inv X pins σ H s) (E : Value → Shared → Prop) : Inv (X.wish E) pins σ H s := ⟨I.ok.wish E, I.os, I.bare, I.base, I.loc, I.cell, I.free, I.freeC, I.pin, I.hok, I.len⟩
theorem Inv.unwish (I : Inv (X.wish E) pins σ H s) : Inv X pins σ H s := ⟨I.ok.unwish, I.os, I.bare, I.base, I.loc, I.cell, I.free, I.freeC, I.pin, I.hok, I.len⟩
theorem SP.unwish {D : Ends} {f : Flow} {s' : Shared} (h : SP (X.wish E) pins D f s') : SP X pins D f s' := by
  cases f with
  | next => obtain ⟨σ', H', I, q⟩ := h; exact ⟨σ', H', I.unwish, q⟩
  | brk => obtain ⟨σ', H', I, q⟩ := h; exact ⟨σ', H', I.unwish, q⟩
  | cont => obtain ⟨σ', H', I, q⟩ := h; exact ⟨σ', H', I.unwish, q⟩
  | ret u => obtain ⟨v, σ', H', I, r, q⟩ := h; exact ⟨v, σ', H', I.unwish, r, q⟩
theorem PSs.nox {st : List Stmt} {t : TS} (h : PSs X.nox st t) : PSs X st t := fun pins s σ H D I hw =>
  wpAny_mono (h pins s σ H D (I.wish _) hw) (fun _ _ q => q.unwish) fun _ _ z => False.elim z
end
section
variable {X : Cx} {st : Stmt} {rest : List Stmt} {t u : TS} {e : Expr} {te : TE} {pos : Pos}
def tNext : TS := fun D σ H => D.nx σ H
def tSeq (t u : TS) : TS := fun D σ H => t { D with nx := u D } σ H
theorem pss_nil : PSs X [] tNext := fun _ _ σ H _ I h => wpAny_execs_nil ⟨σ, H, I, h⟩
theorem pss_cons (h1 : PS X st t) (h2 : PSs X rest u) : PSs X (st :: rest) (tSeq t u) := by
  intro pins s σ H D I h
  refine wpAny_execs_cons (thn (h1 pins s σ H { D with nx := u D } I h) fun f s1 q => ?_)
  cases f with
  | next =>
    obtain ⟨σ', H', I', q⟩ := q
    exact h2 pins s1 σ' H' D I' q
  | ret v => exact q
  | brk => exact q
  | cont => exact q
theorem pss_one (h1 : PS X st t) : PSs X [st] t := by
  intro pins s σ H D I h
  refine wpAny_execs_cons (thn (h1 pins s σ H D I h) fun f s1 q => ?_)
  cases f with
  | next => exact wpAny_execs_nil q
  | ret v => exact q
  | brk => exact q
  | cont => exact q
theorem Inv.quiet {pins : List (Addr × Obj)} {σ : St} {H : Hp} {s : Shared} (I : Inv X pins σ H s) : interactive X.env = false := by simp [interactive, I.ok.kind]
def tDrop (te : TE) : TS := fun D σ H => te σ H fun _ H1 => D.nx σ H1
theorem ps_expr (he : PE X e te) (hs : swapsWith e none pos.line X.env = pure false := by rfl) : PS X (.Expr e pos) (tDrop te) := by
  intro pins s σ H D I h
  exact wpAny_Expr_any (thn (he pins s σ H _ I h) fun v s1 ⟨x, H1, I1, r1, q1⟩ => ⟨σ, H1, I1, q1⟩) I.quiet hs
def tRet (te : TE) : TS := fun D σ H => te σ H D.rt
theorem ps_ret (he : PE X e te) : PS X (.Return (some e) pos) (tRet te) := by
  intro pins s σ H D I h
  exact wpAny_Return_some (thn (he pins s σ H _ I h) fun v s1 ⟨x, H1, I1, r1, q1⟩ => ⟨x, σ, H1, I1, r1, q1⟩)
def tIfS (c : TT) (t u : TS) : TS := fun D σ H => c σ H fun b H1 => if b = true then t D σ H1 else u D σ H1
theorem ps_if {c : Expr} {a b : List Stmt} {tc : TT} (hc : PT X c tc) (ha : PSs X a t) (hb : PSs X b u) : PS X (.If c a b pos) (tIfS tc t u) := by
  intro pins s σ H D I h
  refine wpAny_If (thn (hc pins s σ H _ I h) fun d s1 ⟨H1, I1, q1⟩ => ?_)
  cases d with
  | true => exact ha pins s1 σ H1 D I1 q1
  | false => exact hb pins s1 σ H1 D I1 q1
def tNever : TS := fun _ _ _ => False
theorem ps_never : PS X st tNever := fun _ _ _ _ _ _ h => h.elim
end
abbrev TG := V → St → Hp → (St → Hp → Prop) → Prop
abbrev TGs := List V → St → Hp → (St → Hp → Prop) → Prop
def PG (X : Cx) (target : Expr) (t : TG) : Prop :=
  ∀ (pins : List (Addr × Obj)) (s : Shared) (σ : St) (H : Hp) (v : V) (u : Value) (Q : St → Hp → Prop), Inv X pins σ H s → RelV v u → t v σ H Q →
    wpAny (model X.prog X.w) X.A (assign target X.env u) (fun _ s' => ∃ σ' H', Inv X pins σ' H' s' ∧ Q σ' H') X.xe s
def PGs (X : Cx) (ts : List Expr) (t : TGs) : Prop :=
  ∀ (pins : List (Addr × Obj)) (s : Shared) (σ : St) (H : Hp) (vs : List V) (us : List Value) (Q : St → Hp → Prop), Inv X pins σ H s → Vals vs us → t vs σ H Q →
    wpAny (model X.prog X.w) X.A (assignInOrder ((assignEach ts X.env).map (·.2)) us) (fun _ s' => ∃ σ' H', Inv X pins σ' H' s' ∧ Q σ' H') X.xe s
abbrev TSet := V → V → V → Hp → (Hp → Prop) → Prop
def PSet (X : Cx) (t : TSet) : Prop :=
  ∀ (pins : List (Addr × Obj)) (s : Shared) (σ : St) (H : Hp) (o i v : V) (ov iv u : Value) (Q : Hp → Prop), Inv X pins σ H s → RelV o ov → RelV i iv → RelV v u → t o i v H Q →
    wpAny (model X.prog X.w) X.A (setItem ov iv u) (fun _ s' => ∃ H', Inv X pins σ H' s' ∧ Q H') X.xe s
abbrev TIp := V → V → Hp → VK → Prop
def PIp (X : Cx) (op : Operator) (t : TIp) : Prop :=
  ∀ (pins : List (Addr × Obj)) (s : Shared) (σ : St) (H : Hp) (x y : V) (v u : Value) (Q : VK), Inv X pins σ H s → RelV x v → RelV y u → t x y H Q →
    wpAny (model X.prog X.w) X.A (inplaceOp op v u) (EP X pins σ Q) X.xe s
section
variable {X : Cx} {pos : Pos}
def gName (i : Nat) : TG := fun v σ H Q => Q (σ.set i (some v)) H
theorem pg_name {i : Nat} {x : Str} (hN : X.N.Nodup) (hi : X.N[i]? = some x) (hx : Loc X.env.scope x) (hf : X.fn x = true ∨ X.env.scope.names.lookup x = some .local := by first | exact .inl rfl | exact .inr rfl | assumption) : PG X (.Name x pos) (gName i) := by
  intro pins s σ H v u Q I r h
  exact wpAny_assign_Name (store_ok I hN hi hx r (fun s' I' => ⟨_, H, I', h⟩) hf)
def gNil : TGs := fun vs σ H Q => vs = [] ∧ Q σ H
def gCons (t : TG) (u : TGs) : TGs := fun vs σ H Q => ∃ v r, vs = v :: r ∧ t v σ H fun σ' H' => u r σ' H' Q
theorem pgs_nil : PGs X [] gNil := by
  intro pins s σ H vs us Q I r h
  obtain ⟨e, h⟩ := h
  subst e
  cases r
  exact assignInOrder_nil ⟨σ, H, I, h⟩
theorem pgs_cons {e : Expr} {es : List Expr} {t : TG} {u : TGs} (h1 : PG X e t) (h2 : PGs X es u)
    (hs : (assignEach (e :: es) X.env).map (·.2) = assign e X.env :: (assignEach es X.env).map (·.2) := by rfl) : PGs X (e :: es) (gCons t u) := by
  intro pins s σ H vs us Q I r h
  obtain ⟨v, vr, e1, h⟩ := h
  subst e1
  cases r with
  | cons r rr =>
    rw [hs]
    refine assignInOrder_cons (thn (h1 pins s σ H _ _ _ I r h) fun _ s1 ⟨σ1, H1, I1, q1⟩ => ?_)
    exact h2 pins s1 σ1 H1 _ _ Q I1 rr q1
def gTup (K : PySem.W.Frag) (n : Nat) (t : TGs) : TG := fun v σ H Q => ∃ a xs, v = .ref a ∧ SqT K H a xs ∧ xs.length = n ∧ t xs σ H Q
theorem pg_tup {es : List Expr} {k : Nat} {t : TGs} {n : Nat} (hc : X.calm = true) (h : PGs X es t)
    (hn : (assignEach es X.env).length = n := by rfl) (hst : (assignEach es X.env).findIdx? (·.1) = none := by rfl) : PG X (.Tuple es k pos) (gTup X.K n t) := by
  intro pins s σ H v u Q I r hw
  obtain ⟨a, xs, e1, hq, hl, hw⟩ := hw
  subst e1
  cases r
  obtain ⟨its, rv, ht, hz⟩ := I.tuple hq
  refine assign_Tuple_tuple (I.ok.hd hc) ht (by simp [hn, ← hl, rv.length]) hst fun h' hx => ?_
  have I1 : Inv X pins σ H { s with heap := h' } := I.kept (t' := s.toks) fun b o e => hx b o (Nat.ne_of_lt (Heap.lt_size e)) e
  exact h pins _ σ H xs _ Q I1 (by simpa using rv) hw
def gSub (to ti : TE) (t : TSet) : TG := fun v σ H Q => to σ H fun o H1 => ti σ H1 fun i H2 => t o i v H2 fun H3 => Q σ H3
theorem pg_sub {o i : Expr} {to ti : TE} {t : TSet} (ho : PE X o to) (hi : PE X i ti) (hs : PSet X t)
    (ha : ∀ v, assign (.Subscript o i pos) X.env v = (do
      let ov ← holding [v] (eval o X.env)
      let iv ← holding [v, ov] (eval i X.env)
      standAt pos
      holding [v, ov, iv] (setItem ov iv v)
      release [v, ov, iv] []) := by intro _; rfl) : PG X (.Subscript o i pos) (gSub to ti t) := by
  intro pins s σ H v u Q I r h
  rw [ha]
  refine wpAny_bind (wpAny_holding (thn (ho pins s σ H _ I h) fun ov s1 ⟨x, H1, I1, r1, q1⟩ => ?_))
  refine wpAny_bind (wpAny_holding (thn (hi pins s1 σ H1 _ I1 q1) fun iv s2 ⟨y, H2, I2, r2, q2⟩ => ?_))
  refine wpAny_bind (wpAny_standAt (wpAny_bind (wpAny_holding (thn (hs pins s2 σ H2 x y v ov iv u _ I2 r1 r2 r q2) fun _ s3 ⟨H3, I3, q3⟩ => ?_))))
  exact wpAny_release ⟨σ, H3, I3, q3⟩
def tAsg (te : TE) (g : TG) : TS := fun D σ H => te σ H fun x H1 => g x σ H1 D.nx
theorem ps_asg {tg e : Expr} {te : TE} {g : TG} (he : PE X e te) (hg : PG X tg g) (hs : swapsWithSole [tg] e pos.line X.env = pure false := by rfl) (hw : swappedStores [tg] e X.env = pure none := by rfl)
    (h1 : (assignEach [tg] X.env).map (·.2) = [assign tg X.env] := by rfl) : PS X (.Assign [tg] e pos) (tAsg te g) := by
  intro pins s σ H D I h
  refine wpAny_Assign_stores (thn (he pins s σ H _ I h) fun v s1 ⟨x, H1, I1, r1, q1⟩ => ?_) hs hw
  rw [h1]
  exact thn (hg pins s1 σ H1 x v _ I1 r1 q1) fun _ s2 q => q
theorem ps_set {i : Nat} {x : Str} {e : Expr} {te : TE} {pos' : Pos} (hN : X.N.Nodup) (hi : X.N[i]? = some x) (hx : Loc X.env.scope x) (he : PE X e te) (hs : swapsWith e (some (.Name x pos')) pos.line X.env = pure false := by rfl) (hf : X.fn x = true ∨ X.env.scope.names.lookup x = some .local := by first | exact .inl rfl | exact .inr rfl | assumption) :
    PS X (.Assign [.Name x pos'] e pos) (tAsg te (gName i)) := by
  intro pins s σ H D I h
  refine wpAny_Assign_Name (thn (he pins s σ H _ I h) fun v s1 ⟨y, H1, I1, r1, q1⟩ => ?_) hs
  exact store_ok I1 hN hi hx r1 (fun s2 I2 => ⟨_, H1, I2, q1⟩) hf
def tAugS (to ti te : TE) (tget : V → V → Hp → VK → Prop) (tip : TIp) (tset : TSet) : TS := fun D σ H => to σ H fun o H1 => ti σ H1 fun i H2 => tget o i H2 fun x H3 => te σ H3 fun y H4 => tip x y H4 fun z H5 => tset o i z H5 fun H6 => D.nx σ H6
def PGet (X : Cx) (t : V → V → Hp → VK → Prop) : Prop :=
  ∀ (pins : List (Addr × Obj)) (s : Shared) (σ : St) (H : Hp) (o i : V) (ov iv : Value) (Q : VK), Inv X pins σ H s → RelV o ov → RelV i iv → t o i H Q →
    wpAny (model X.prog X.w) X.A (getItem ov iv) (EP X pins σ Q) X.xe s
theorem ps_augS {o i e : Expr} {to ti te : TE} {tget : V → V → Hp → VK → Prop} {tip : TIp} {tset : TSet} {op : Operator} {tpos : Pos} (ho : PE X o to) (hi : PE X i ti) (hg : PGet X tget) (he : PE X e te) (hp : PIp X op tip) (hs : PSet X tset)
    (ha : ∀ ov iv new, augStore i ov iv new = (do holding [new, ov, iv] (setItem ov iv new); release [new, ov, iv] []; pure .next) := by intros; rfl) : PS X (.AugAssign (.Subscript o i tpos) op e pos) (tAugS to ti te tget tip tset) := by
  intro pins s σ H D I h
  refine wpAny_AugAssign_SubscriptAny (thn (ho pins s σ H _ I h) fun ov s1 ⟨x1, H1, I1, r1, q1⟩ => ?_) ha
  refine thn (hi pins s1 σ H1 _ I1 q1) fun iv s2 ⟨x2, H2, I2, r2, q2⟩ => ?_
  refine thn (hg pins s2 σ H2 x1 x2 ov iv _ I2 r1 r2 q2) fun old s3 ⟨x3, H3, I3, r3, q3⟩ => ?_
  refine thn (he pins s3 σ H3 _ I3 q3) fun v s4 ⟨x4, H4, I4, r4, q4⟩ => ?_
  refine thn (hp pins s4 σ H4 x3 x4 old v _ I4 r3 r4 q4) fun new s5 ⟨x5, H5, I5, r5, q5⟩ => ?_
  exact thn (hs pins s5 σ H5 x1 x2 x5 ov iv new _ I5 r1 r2 r5 q5) fun _ s6 ⟨H6, I6, q6⟩ => ⟨σ, H6, I6, q6⟩
def ipI (f : Int → Int → Int) : TIp := fun x y H Q => ∃ i j, x = .int i ∧ y = .int j ∧ Q (.int (f i j)) H
theorem ip_add : PIp X .Add (ipI fun i j => i + j) := by
  intro pins s σ H x y v u Q I r1 r2 h
  obtain ⟨i, j, e1, e2, q⟩ := h
  subst e1; subst e2
  obtain ⟨t, rfl⟩ := r1
  obtain ⟨t', rfl⟩ := r2
  exact iadd_int ⟨.int _, H, I.tok _, ⟨_, rfl⟩, q⟩
end
section
variable {X : Cx} {pos : Pos}
end
structure It where
  go : Nat → Hp → Prop
  yld : Nat → Hp → V → Hp → Prop
  stop : Nat → Hp → Prop
def FpOk (X : Cx) (pins : List (Addr × Obj)) (H : Hp) (b : Addr) : Prop :=
  H b = none ∧ b ≠ X.env.locals ∧ b ∉ X.fs ∧ (b ∈ X.ex ∨ X.s₀.heap.objs.size ≤ b) ∧ (∀ x c, X.env.cells.lookup x = some c → c ≠ b) ∧ ∀ p ∈ X.pn ++ pins, p.1 ≠ b
theorem Inv.fpOk {X : Cx} {pins : List (Addr × Obj)} {σ : St} {H H' : Hp} {s : Shared} {b : Addr} (I : Inv X pins σ H s) (hb : s.heap.objs.size ≤ b) (hn : H' b = none) : FpOk X pins H' b := by
  refine ⟨hn, Nat.ne_of_gt (Nat.lt_of_lt_of_le I.lt hb), I.nofs hb, .inr (Nat.le_trans I.sz hb), fun x c e z => ?_, fun p hp z => ?_⟩
  · obtain ⟨v, q⟩ := I.cell x c e
    exact absurd (Nat.lt_of_lt_of_le q.lt (by rw [z]; exact hb)) (Nat.lt_irrefl _)
  · exact absurd (Nat.lt_of_lt_of_le (Heap.lt_size (I.pin p hp).1) (by rw [z]; exact hb)) (Nat.lt_irrefl _)
structure Turn (P : Program) (w : World) (K : PySem.W.Frag) (tg : Expr) (J : It) (fp : List Addr) (it : Addr) (tn : Nat → Heap → Prop) : Prop where
  mem : it ∈ fp
  obj : ∀ i h, tn i h → ∀ b ∈ fp, ∃ o, h.get? b = some o ∧ ∀ v, o.data ≠ .cell v
  keep : ∀ i h h', tn i h → (∀ b ∈ fp, ∀ o, h.get? b = some o → h'.get? b = some o) → tn i h'
  item : ∀ (X : Cx), X.prog = P → X.w = w → X.K = K → X.calm = true → ∀ (i : Nat) (pins : List (Addr × Obj)) (s : Shared) (σ : St) (H : Hp) (E : Value → Shared → Prop), Inv X pins σ H s → (∀ b ∈ fp, FpOk X pins H b) → tn i s.heap → J.go i H →
    wpAny (model P w) X.A (pyNext (.ref it)) (fun r s1 => ∃ u, r = some u ∧
      wpAny (model P w) X.A (letOwnedTupleGo tg (.ref it) u) (fun _ s2 => ∃ x H', Inv X pins σ H' s2 ∧ RelV x u ∧ J.yld i H x H' ∧ tn (i + 1) s2.heap ∧ ∀ b ∈ fp, H' b = none) E s1) E s
  done : ∀ (X : Cx), X.prog = P → X.w = w → X.K = K → X.calm = true → ∀ (i : Nat) (pins : List (Addr × Obj)) (s : Shared) (σ : St) (H : Hp) (E : Value → Shared → Prop), Inv X pins σ H s → (∀ b ∈ fp, FpOk X pins H b) → tn i s.heap → J.stop i H →
    wpAny (model P w) X.A (pyNext (.ref it)) (fun r s1 => r = none ∧ Inv X pins σ H s1) E s
  self : ∀ (A : Around) (i : Nat) (s : Shared) (Q : Value → Shared → Prop) (E : Value → Shared → Prop), tn i s.heap → Q (.ref it) s → wpAny (model P w) A (pyIter (.ref it)) Q E s
abbrev TI := St → Hp → (It → Hp → Prop) → Prop
def PIE (X : Cx) (pins : List (Addr × Obj)) (σ : St) (tg : Expr) (R : It → Hp → Prop) (itv : Value) (s2 : Shared) : Prop :=
  ∃ (it : Addr) (fp : List Addr) (tn : Nat → Heap → Prop) (J : It) (H' : Hp), itv = .ref it ∧ Inv X pins σ H' s2 ∧ Turn X.prog X.w X.K tg J fp it tn ∧ tn 0 s2.heap ∧ (∀ b ∈ fp, FpOk X pins H' b) ∧ R J H'
def PI (X : Cx) (tg iter : Expr) (wi : TI) : Prop :=
  ∀ (pins : List (Addr × Obj)) (s : Shared) (σ : St) (H : Hp) (R : It → Hp → Prop), Inv X pins σ H s → wi σ H R →
    wpAny (model X.prog X.w) X.A (eval iter X.env) (fun v s1 => wpAny (model X.prog X.w) X.A (pyIter v) (PIE X pins σ tg R) X.xe s1) X.xe s
theorem go_of {M : Model} {A : Around} {E : Value → Shared → Prop} {s : Shared} {tg : Expr} {it : Addr} {u : Value} {o : Obj} {n : String} {vs : Array Value} {Q : Unit → Shared → Prop} (ho : s.heap.get? it = some o) (hc : o.cls = .type n) (hd : o.data = .fields vs)
    (hn : ["enumerate", "zip", "dict_itemiterator", "dict_reverseitemiterator", "odict_iterator", "itertools.zip_longest", "itertools.pairwise"].contains n = false) (hQ : Q () s) : wpAny M A (letOwnedTupleGo tg (.ref it) u) Q E s := by
  unfold letOwnedTupleGo
  cases tg <;> first
    | exact wpAny_pure hQ
    | (cases u <;> first
        | exact wpAny_pure hQ
        | (refine wpAny_bind (wpAny_load ho ?_)
           rw [hc, hd]
           show wpAny M A (if (["enumerate", "zip", "dict_itemiterator", "dict_reverseitemiterator", "odict_iterator", "itertools.zip_longest", "itertools.pairwise"].contains n && vs[0]? == some (rawInt _)) = true then _ else _) Q E s
           rw [if_neg (by intro h; rw [hn, Bool.false_and] at h; cases h)]
           exact wpAny_pure hQ))
def Itl (K : PySem.W.Frag) (a : Addr) : It :=
  ⟨fun i H => ∃ xs x, SqL K H a xs ∧ xs[i]? = some x, fun i H x H' => H' = H ∧ ∀ xs, SqL K H a xs → xs[i]? = some x, fun i H => ∃ xs, SqL K H a xs ∧ xs.length ≤ i⟩
def Itt (K : PySem.W.Frag) (a : Addr) : It :=
  ⟨fun i H => ∃ xs x, SqT K H a xs ∧ xs[i]? = some x, fun i H x H' => H' = H ∧ ∀ xs, SqT K H a xs → xs[i]? = some x, fun i H => ∃ xs, SqT K H a xs ∧ xs.length ≤ i⟩
def Itr (lo : Int) (n : Nat) : It := ⟨fun i _ => i < n, fun i H x H' => H' = H ∧ x = .int (lo + i), fun i _ => n ≤ i⟩
theorem turn_list {P : Program} {w : World} {K : PySem.W.Frag} {tg : Expr} (a it : Addr) : Turn P w K tg (Itl K a) [it] it (fun i h => h.IsListIter it a i) where
  mem := by simp
  obj := fun i h st b hb => by
    have e : b = it := by simpa using hb
    subst e
    obtain ⟨o, e, c, d⟩ := st
    exact ⟨o, e, fun v z => by rw [d] at z; cases z⟩
  keep := fun i h h' st k => st.at fun o e => k it (by simp) o e
  item := by
    intro X hP hw hK hc i pins s σ H E I hf st hg
    subst hP hw hK
    obtain ⟨xs, x, hq, hx⟩ := hg
    obtain ⟨its, rv, p, hz⟩ := I.list hq
    obtain ⟨u, hu, ru⟩ := rv.get hx
    obtain ⟨f0, f1, f2, f3, f4, f5⟩ := hf it (by simp)
    refine wpAny_pyNext_list_item st p.isList (x := u) (by simpa using hu) fun h' st' sb => ?_
    have I1 : Inv X pins σ H { s with heap := h' } := I.turned (t' := s.toks) (fun b o hb e => (sb.2 b hb).trans e) f0 f1 f3 f4 f5
    obtain ⟨o, e, c, d⟩ := id st'
    exact ⟨u, rfl, go_of (s := { s with heap := h' }) e c d (by decide) ⟨x, H, I1, ru, ⟨rfl, fun ys hy => by rw [I.list_inj hy hq]; exact hx⟩, st', fun b hb => (hf b hb).1⟩⟩
  done := by
    intro X hP hw hK hc i pins s σ H E I hf st hg
    subst hP hw hK
    obtain ⟨xs, hq, hx⟩ := hg
    obtain ⟨its, rv, p, hz⟩ := I.list hq
    obtain ⟨f0, f1, f2, f3, f4, f5⟩ := hf it (by simp)
    have hl := rv.length
    exact wpAny_pyNext_list_end (I.ok.hd hc) st p.isList (by simp; omega) fun h' eb => ⟨rfl, I.turned (t' := s.toks) (fun b o hb e => eb b o hb e) f0 f1 f3 f4 f5⟩
  self := fun _ _ _ _ _ st h => wpAny_pyIter_listiter st h
theorem turn_tuple {P : Program} {w : World} {K : PySem.W.Frag} {tg : Expr} (a it : Addr) : Turn P w K tg (Itt K a) [it] it (fun i h => h.IsTupleIter it a i) where
  mem := by simp
  obj := fun i h st b hb => by
    have e : b = it := by simpa using hb
    subst e
    obtain ⟨o, e, c, d⟩ := st
    exact ⟨o, e, fun v z => by rw [d] at z; cases z⟩
  keep := fun i h h' st k => st.at fun o e => k it (by simp) o e
  item := by
    intro X hP hw hK hc i pins s σ H E I hf st hg
    subst hP hw hK
    obtain ⟨xs, x, hq, hx⟩ := hg
    obtain ⟨its, rv, p, hz⟩ := I.tuple hq
    obtain ⟨u, hu, ru⟩ := rv.get hx
    obtain ⟨f0, f1, f2, f3, f4, f5⟩ := hf it (by simp)
    refine wpAny_pyNext_tuple_item st (show s.heap.IsTuple a its.toArray from p) (x := u) (by simpa using hu) fun h' st' sb => ?_
    have I1 : Inv X pins σ H { s with heap := h' } := I.turned (t' := s.toks) (fun b o hb e => (sb.2 b hb).trans e) f0 f1 f3 f4 f5
    obtain ⟨o, e, c, d⟩ := id st'
    exact ⟨u, rfl, go_of (s := { s with heap := h' }) e c d (by decide) ⟨x, H, I1, ru, ⟨rfl, fun ys hy => by rw [I.tuple_inj hy hq]; exact hx⟩, st', fun b hb => (hf b hb).1⟩⟩
  done := by
    intro X hP hw hK hc i pins s σ H E I hf st hg
    subst hP hw hK
    obtain ⟨xs, hq, hx⟩ := hg
    obtain ⟨its, rv, p, hz⟩ := I.tuple hq
    obtain ⟨f0, f1, f2, f3, f4, f5⟩ := hf it (by simp)
    have hl := rv.length
    exact wpAny_pyNext_tuple_end (I.ok.hd hc) st (show s.heap.IsTuple a its.toArray from p) (by simp; omega) fun h' eb => ⟨rfl, I.turned (t' := s.toks) (fun b o hb e => eb b o hb e) f0 f1 f3 f4 f5⟩
  self := fun _ _ _ _ _ st h => wpAny_pyIter_tupleiter st h
theorem turn_range {P : Program} {w : World} {K : PySem.W.Frag} {tg : Expr} (it : Addr) (lo : Int) (n : Nat) : Turn P w K tg (Itr lo n) [it] it (fun i h => IsRangeIter h it (lo + (i : Nat) * 1) ((n : Int) - (i : Nat)) 1) where
  mem := by simp
  obj := fun i h st b hb => by
    have e : b = it := by simpa using hb
    subst e
    exact ⟨_, st, fun v z => by
      have z' : Data.fields _ = Data.cell v := z
      cases z'⟩
  keep := fun i h h' st k => k it (by simp) _ st
  item := by
    intro X hP hw hK hc i pins s σ H E I hf st hg
    subst hP hw hK
    obtain ⟨f0, f1, f2, f3, f4, f5⟩ := hf it (by simp)
    have W := Walks.range (prog := X.prog) (w := X.w) (I.ok.hd hc) it lo 1 n
    refine W.item i s _ _ hg st fun v h' tk hv st' kk => ?_
    obtain ⟨t, rfl⟩ := hv
    have I1 : Inv X pins σ H { s with heap := h', toks := tk } := I.turned (fun b o hb e => kk b o (by simpa using hb) e) f0 f1 f3 f4 f5
    refine ⟨_, rfl, go_of (s := { s with heap := h', toks := tk }) (n := "range_iterator") st' rfl rfl (by decide) ⟨.int (lo + i), H, I1, ⟨t, ?_⟩, ⟨rfl, rfl⟩, st', fun b hb => (hf b hb).1⟩⟩
    rw [Int.mul_one]
  done := by
    intro X hP hw hK hc i pins s σ H E I hf st hg
    subst hP hw hK
    obtain ⟨f0, f1, f2, f3, f4, f5⟩ := hf it (by simp)
    exact wpAny_pyNext_range_end (I.ok.hd hc) st (by have : n ≤ i := hg; omega) fun h' eb => ⟨rfl, I.turned (t' := s.toks) (fun b o hb e => eb b o hb e) f0 f1 f3 f4 f5⟩
  self := fun _ _ _ _ _ st h => wpAny_pyIter_rangeiter st h
end L2
namespace L2
open PySem PySem.Spec PyProof.Rows
section
variable {X : Cx} {tg : Expr}
def iList (K : PySem.W.Frag) (tl : TE) : TI := fun σ H R => tl σ H fun x H1 => ∃ a, x = .ref a ∧ (∃ xs, SqL K H1 a xs) ∧ R (Itl K a) H1
def iTup (K : PySem.W.Frag) (tl : TE) : TI := fun σ H R => tl σ H fun x H1 => ∃ a, x = .ref a ∧ (∃ xs, SqT K H1 a xs) ∧ R (Itt K a) H1
theorem pi_list {l : Expr} {tl : TE} (hl : PE X l tl) : PI X tg l (iList X.K tl) := by
  intro pins s σ H R I h
  refine thn (hl pins s σ H _ I h) fun v s1 ⟨x, H1, I1, r1, q1⟩ => ?_
  obtain ⟨a, e, ⟨xs, hq⟩, q⟩ := q1
  subst e
  cases r1
  obtain ⟨its, rv, p, hz⟩ := I1.list hq
  refine wpAny_pyIter_list p.isList ?_
  refine ⟨s1.heap.objs.size, [s1.heap.objs.size], _, _, H1, rfl, I1.kept (t' := s1.toks) fun b o e => Heap.get?_push_of_some _ e, turn_list a _, ⟨_, Heap.get?_push_size _ rfl, rfl, rfl⟩, fun b hb => ?_, q⟩
  have e : b = s1.heap.objs.size := by simpa using hb
  subst e
  exact I1.fpOk (Nat.le_refl _) (I1.hok.fresh (Nat.le_refl _))
theorem pi_tup {l : Expr} {tl : TE} (hl : PE X l tl) : PI X tg l (iTup X.K tl) := by
  intro pins s σ H R I h
  refine thn (hl pins s σ H _ I h) fun v s1 ⟨x, H1, I1, r1, q1⟩ => ?_
  obtain ⟨a, e, ⟨xs, hq⟩, q⟩ := q1
  subst e
  cases r1
  obtain ⟨its, rv, p, hz⟩ := I1.tuple hq
  refine wpAny_pyIter_tuple (show s1.heap.IsTuple a its.toArray from p) ?_
  refine ⟨s1.heap.objs.size, [s1.heap.objs.size], _, _, H1, rfl, I1.kept (t' := s1.toks) fun b o e => Heap.get?_push_of_some _ e, turn_tuple a _, ⟨_, Heap.get?_push_size _ rfl, rfl, rfl⟩, fun b hb => ?_, q⟩
  have e : b = s1.heap.objs.size := by simpa using hb
  subst e
  exact I1.fpOk (Nat.le_refl _) (I1.hok.fresh (Nat.le_refl _))
theorem range_it {pins : List (Addr × Obj)} {σ : St} {H : Hp} {s : Shared} {R : It → Hp → Prop} {E : Value → Shared → Prop} {lo hi : Int} {t u v : Tok} {tk : Nat} (I : Inv X pins σ H s) (h1 : -(2 ^ 62) ≤ lo) (h2 : lo < 2 ^ 62) (h3 : -(2 ^ 62) ≤ hi) (h4 : hi < 2 ^ 62)
    (q : R (Itr lo (hi - lo).toNat) H) : wpAny (model X.prog X.w) X.A (pyIter (.ref s.heap.objs.size)) (PIE X pins σ tg R) E { s with heap := s.heap.push { cls := .type "range", data := .fields #[.int lo t, .int hi u, .int 1 v] }, toks := tk } := by
  refine wpAny_pyIter_range (IsRange.new ..) (small_one h1 h2 h3 h4) ?_
  have I1 : Inv X pins σ H { s with heap := s.heap.push { cls := .type "range", data := .fields #[.int lo t, .int hi u, .int 1 v] }, toks := tk } := I.kept fun b o e => Heap.get?_push_of_some _ e
  refine ⟨(s.heap.push { cls := .type "range", data := .fields #[.int lo t, .int hi u, .int 1 v] }).objs.size, [(s.heap.push { cls := .type "range", data := .fields #[.int lo t, .int hi u, .int 1 v] }).objs.size], _, _, H, rfl,
    I1.kept (t' := tk) fun b o e => Heap.get?_push_of_some _ e, turn_range _ lo (hi - lo).toNat, ?_, fun b hb => ?_, q⟩
  · have e1 : lo + ((0 : Nat) : Int) * 1 = lo := by simp
    have e2 : (((hi - lo).toNat : Nat) : Int) - ((0 : Nat) : Int) = Builtin.Range.rangeSize lo hi 1 := by rw [rangeSize_one]; split <;> omega
    show IsRangeIter _ _ (lo + ((0 : Nat) : Int) * 1) ((((hi - lo).toNat : Nat) : Int) - ((0 : Nat) : Int)) 1
    rw [e1, e2]
    exact Heap.get?_push_size _ rfl
  · have e : b = (s.heap.push { cls := .type "range", data := .fields #[.int lo t, .int hi u, .int 1 v] }).objs.size := by simpa using hb
    subst e
    exact I1.fpOk (Nat.le_refl _) (I1.hok.fresh (Nat.le_refl _))
def iRng1 (ta : TA) : TI := fun σ H R => ta σ H fun vs H1 => ∃ j : Int, vs = [.int j] ∧ -(2 ^ 62) ≤ j ∧ j < 2 ^ 62 ∧ R (Itr 0 j.toNat) H1
def iRng2 (ta : TA) : TI := fun σ H R => ta σ H fun vs H1 => ∃ i j : Int, vs = [.int i, .int j] ∧ (-(2 ^ 62) ≤ i ∧ i < 2 ^ 62 ∧ -(2 ^ 62) ≤ j ∧ j < 2 ^ 62) ∧ R (Itr i (j - i).toNat) H1
theorem pi_range1 {a : Expr} {ta : TA} {p pos : Pos} (hg : Gl X "range") (hm : X.mg "range" = none) (ha : PA X [a] ta) (hs : starEach [a] X.env = [(false, eval a X.env)] := by rfl) : PI X tg (.Call (.Name "range" p) [a] [] pos) (iRng1 ta) := by
  intro pins s σ H R I h
  refine Call_ (ld_blt I hg hm boot_range (PyProof.Rows.callWith_type1 (thn (ha pos pins s σ H _ I h) fun us s1 ⟨vs, H1, I1, r1, q1⟩ => ?_) hs rfl))
  obtain ⟨j, e, q1, q2, q⟩ := q1
  subst e
  cases r1 with
  | cons r rr =>
    cases rr
    obtain ⟨t, rfl⟩ := r
    exact call_range_1 (range_it I1 (by omega) (by omega) q1 q2 (by simpa using q))
theorem pi_range2 {a b : Expr} {ta : TA} {p pos : Pos} (hg : Gl X "range") (hm : X.mg "range" = none) (ha : PA X [a, b] ta) (hs : starEach [a, b] X.env = [(false, eval a X.env), (false, eval b X.env)] := by rfl) (hs2 : starEach [b] X.env = [(false, eval b X.env)] := by rfl) :
    PI X tg (.Call (.Name "range" p) [a, b] [] pos) (iRng2 ta) := by
  intro pins s σ H R I h
  refine Call_ (ld_blt I hg hm boot_range (PyProof.Rows.callWith_type1 (thn (ha pos pins s σ H _ I h) fun us s1 ⟨vs, H1, I1, r1, q1⟩ => ?_) (by rw [hs, hs2]) (by rw [hs2]; rfl)))
  obtain ⟨i, j, e, ⟨q1, q2, q3, q4⟩, q⟩ := q1
  subst e
  cases r1 with
  | cons r rr =>
    cases rr with
    | cons r' rr =>
      cases rr
      obtain ⟨t, rfl⟩ := r
      obtain ⟨t', rfl⟩ := r'
      exact call_range_2 (range_it I1 q1 q2 q3 q4 q)
def tFor (wi : TI) (g : TG) (tb : TS) : TS := fun D σ H => wi σ H fun J H1 => ∃ W : Nat → Nat → St → Hp → Prop, (∃ m, W 0 m σ H1) ∧ ∀ i m σ H, W i m σ H →
  (J.stop i H ∧ D.nx σ H) ∨ (J.go i H ∧ ∃ N : St → Hp → Prop, (∀ σ' H', N σ' H' → ∃ m', m' < m ∧ W (i + 1) m' σ' H') ∧ ∀ x H', J.yld i H x H' → g x σ H' fun σ2 H2 => tb { D with nx := N, ct := N, bk := D.nx } σ2 H2)
def pinsAt (fp : List Addr) (h : Heap) : List (Addr × Obj) := fp.filterMap fun b => (h.get? b).map fun o => (b, o)
theorem mem_pinsAt {fp : List Addr} {h : Heap} {b : Addr} {o : Obj} (hb : b ∈ fp) (e : h.get? b = some o) : (b, o) ∈ pinsAt fp h := List.mem_filterMap.mpr ⟨b, hb, by rw [e]; rfl⟩
theorem of_pinsAt {fp : List Addr} {h : Heap} {p : Addr × Obj} (hp : p ∈ pinsAt fp h) : p.1 ∈ fp ∧ h.get? p.1 = some p.2 := by
  obtain ⟨b, hb, e⟩ := List.mem_filterMap.mp hp
  cases q : h.get? b with
  | none => rw [q] at e; cases e
  | some o =>
    rw [q] at e
    have e' : (b, o) = p := Option.some.inj e
    subst e'
    exact ⟨hb, q⟩
theorem Inv.pinned {pins : List (Addr × Obj)} {σ : St} {H : Hp} {s : Shared} {fp : List Addr} (I : Inv X pins σ H s) (hf : ∀ b ∈ fp, FpOk X pins H b) (ho : ∀ b ∈ fp, ∃ o, s.heap.get? b = some o ∧ ∀ v, o.data ≠ .cell v) : Inv X (pins ++ pinsAt fp s.heap) σ H s :=
  I.pins_of fun p hp => (List.mem_append.mp hp).elim (fun z => I.pin p (List.mem_append_right _ z)) fun z => by
    obtain ⟨hb, e⟩ := of_pinsAt z
    obtain ⟨f0, f1, f2, _⟩ := hf p.1 hb
    obtain ⟨o, e', d⟩ := ho p.1 hb
    rw [e] at e'; cases e'
    exact ⟨e, f0, f1, f2, d⟩
theorem Inv.unpinned {pins pl : List (Addr × Obj)} {σ : St} {H : Hp} {s : Shared} (I : Inv X (pins ++ pl) σ H s) : Inv X pins σ H s := I.pins_of fun p hp => I.pin p (List.mem_append_right _ (List.mem_append_left _ hp))
theorem ps_for {iter : Expr} {body : List Stmt} {wi : TI} {g : TG} {tb : TS} {pos : Pos} (hp : PassesOwn (model X.prog X.w) X.A X.env X.xe) (hc : X.calm = true) (hi : PI X tg iter wi) (hg : PG X tg g) (hb : PSs X body tb)
    (hs : ∀ x, foldedSetIterable iter X.env x = pure x := by intro _; rfl) : PS X (.For tg iter body [] pos) (tFor wi g tb) := by
  intro pins s σ H D I h
  refine wpAny_For (thn (hi pins s σ H _ I h) fun v s1 h1 => thn h1 fun itv s2 h2 => ?_) hs
  obtain ⟨it, fp, tn, J, H2, e, I2, T, st2, f2, W, ⟨m0, w0⟩, turn⟩ := h2
  subst e
  -- what stays true of the iterator's objects through the loop
  have stat : ∀ {H' : Hp}, (∀ b ∈ fp, H' b = none) → ∀ b ∈ fp, FpOk X pins H' b := fun hn b hb => ⟨hn b hb, (f2 b hb).2⟩
  refine codeAny_forLoop_any (fun n s' => ∃ i σ' H', Inv X pins σ' H' s' ∧ tn i s'.heap ∧ (∀ b ∈ fp, H' b = none) ∧ W i n σ' H') ?_ m0 ⟨0, σ, H2, I2, st2, fun b hb => (f2 b hb).1, w0⟩
  rintro n s3 ⟨i, σ3, H3, I3, st3, fr3, w3⟩
  rcases turn i n σ3 H3 w3 with ⟨stop, qn⟩ | ⟨go, N, hN, step⟩
  · refine wpAny_passesOwn hp (thn (T.done X rfl rfl rfl hc i pins s3 σ3 H3 X.xe I3 (stat fr3) st3 stop) fun r s4 ⟨hr, I4⟩ => ?_)
    subst hr
    exact wpAny_execs_nil ⟨σ3, H3, I4, qn⟩
  · refine wpAny_passesOwn hp (thn (T.item X rfl rfl rfl hc i pins s3 σ3 H3 X.xe I3 (stat fr3) st3 go) fun r s4 ⟨u, hr, h4⟩ => ?_)
    subst hr
    refine wpAny_passesOwn hp (thn h4 fun _ s5 ⟨x, H5, I5, r5, y5, st5, fr5⟩ => ?_)
    have I5' := I5.pinned (stat fr5) (T.obj _ _ st5)
    refine wpAny_passesOwn hp (thn (hg _ s5 σ3 H5 x u _ I5' r5 (step x H5 y5)) fun _ s6 ⟨σ6, H6, I6, q6⟩ => ?_)
    refine wpAny_passesOwn hp (thn (hb _ s6 σ6 H6 _ I6 q6) fun f s7 q7 => ?_)
    have again : ∀ {σ7 : St} {H7 : Hp}, Inv X (pins ++ pinsAt fp s5.heap) σ7 H7 s7 → N σ7 H7 → ∃ m, m < n ∧ ∃ i σ' H', Inv X pins σ' H' s7 ∧ tn i s7.heap ∧ (∀ b ∈ fp, H' b = none) ∧ W i m σ' H' := fun {σ7 H7} I7 n7 => by
      obtain ⟨m', hm, w7⟩ := hN σ7 H7 n7
      refine ⟨m', hm, i + 1, σ7, H7, I7.unpinned, T.keep _ _ _ st5 fun b hb o e => (I7.pin (b, o) (List.mem_append_right _ (List.mem_append_right _ (mem_pinsAt hb e)))).1, fun b hb => ?_, w7⟩
      obtain ⟨o, e, d⟩ := T.obj _ _ st5 b hb
      exact (I7.pin (b, o) (List.mem_append_right _ (List.mem_append_right _ (mem_pinsAt hb e)))).2.1
    cases f with
    | next => obtain ⟨σ7, H7, I7, n7⟩ := q7; exact again I7 n7
    | cont => obtain ⟨σ7, H7, I7, n7⟩ := q7; exact again I7 n7
    | brk => obtain ⟨σ7, H7, I7, q7⟩ := q7; exact ⟨σ7, H7, I7.unpinned, q7⟩
    | ret v => obtain ⟨x7, σ7, H7, I7, r7, q7⟩ := q7; exact ⟨x7, σ7, H7, I7.unpinned, r7, q7⟩
end
theorem for_list {K : PySem.W.Frag} {a : Addr} {xs : List V} {g : TG} {tb : TS} {D : Ends} {σ : St} {H : Hp} (Pv : Nat → St → Hp → Prop) (h0 : Pv 0 σ H) (hl : ∀ i σ H, i ≤ xs.length → Pv i σ H → SqL K H a xs)
    (hs : ∀ i x σ H, xs[i]? = some x → Pv i σ H → g x σ H fun σ2 H2 => tb { D with nx := Pv (i + 1), ct := Pv (i + 1), bk := D.nx } σ2 H2) (hd : ∀ σ H, Pv xs.length σ H → D.nx σ H) :
    ∃ W : Nat → Nat → St → Hp → Prop, (∃ m, W 0 m σ H) ∧ ∀ i m σ H, W i m σ H →
      ((Itl K a).stop i H ∧ D.nx σ H) ∨ ((Itl K a).go i H ∧ ∃ N : St → Hp → Prop, (∀ σ' H', N σ' H' → ∃ m', m' < m ∧ W (i + 1) m' σ' H') ∧ ∀ x H', (Itl K a).yld i H x H' → g x σ H' fun σ2 H2 => tb { D with nx := N, ct := N, bk := D.nx } σ2 H2) := by
  refine ⟨fun i m σ H => m = xs.length - i ∧ i ≤ xs.length ∧ Pv i σ H, ⟨xs.length, by simp, Nat.zero_le _, h0⟩, ?_⟩
  rintro i m σ H ⟨rfl, hi, p⟩
  have q := hl i σ H hi p
  by_cases hlt : i < xs.length
  · refine .inr ⟨⟨xs, xs[i], q, by simp [hlt]⟩, Pv (i + 1), fun σ' H' p' => ⟨xs.length - (i + 1), by omega, rfl, hlt, p'⟩, fun x H' y => ?_⟩
    obtain ⟨e, y⟩ := y
    subst e
    exact hs i x σ _ (y xs q) p
  · have e : i = xs.length := by omega
    subst e
    exact .inl ⟨⟨xs, q, Nat.le_refl _⟩, hd σ H p⟩
theorem for_range {lo : Int} {n : Nat} {g : TG} {tb : TS} {D : Ends} {σ : St} {H : Hp} (Pv : Nat → St → Hp → Prop) (h0 : Pv 0 σ H)
    (hs : ∀ i σ H, i < n → Pv i σ H → g (.int (lo + i)) σ H fun σ2 H2 => tb { D with nx := Pv (i + 1), ct := Pv (i + 1), bk := D.nx } σ2 H2) (hd : ∀ σ H, Pv n σ H → D.nx σ H) :
    ∃ W : Nat → Nat → St → Hp → Prop, (∃ m, W 0 m σ H) ∧ ∀ i m σ H, W i m σ H →
      ((Itr lo n).stop i H ∧ D.nx σ H) ∨ ((Itr lo n).go i H ∧ ∃ N : St → Hp → Prop, (∀ σ' H', N σ' H' → ∃ m', m' < m ∧ W (i + 1) m' σ' H') ∧ ∀ x H', (Itr lo n).yld i H x H' → g x σ H' fun σ2 H2 => tb { D with nx := N, ct := N, bk := D.nx } σ2 H2) := by
  refine ⟨fun i m σ H => m = n - i ∧ i ≤ n ∧ Pv i σ H, ⟨n, by simp, Nat.zero_le _, h0⟩, ?_⟩
  rintro i m σ H ⟨rfl, hi, p⟩
  by_cases hlt : i < n
  · refine .inr ⟨hlt, Pv (i + 1), fun σ' H' p' => ⟨n - (i + 1), by omega, rfl, hlt, p'⟩, fun x H' y => ?_⟩
    obtain ⟨e, y⟩ := y
    subst e y
    exact hs i σ _ hlt p
  · have e : i = n := by omega
    subst e
    exact .inl ⟨Nat.le_refl _, hd σ H p⟩
end L2
namespace L2
open PySem PySem.Spec PyProof.Rows
abbrev R2 := V → V → Hp → VK → Prop
def OpR (X : Cx) (f : Value → Value → Sem Value) (r : R2) : Prop :=
  ∀ (pins : List (Addr × Obj)) (s : Shared) (σ : St) (H : Hp) (x y : V) (v u : Value) (Q : VK), Inv X pins σ H s → RelV x v → RelV y u → r x y H Q →
    wpAny (model X.prog X.w) X.A (f v u) (EP X pins σ Q) X.xe s
def UnR (X : Cx) (f : Value → Sem Value) (r : V → Hp → VK → Prop) : Prop :=
  ∀ (pins : List (Addr × Obj)) (s : Shared) (σ : St) (H : Hp) (x : V) (v : Value) (Q : VK), Inv X pins σ H s → RelV x v → r x H Q →
    wpAny (model X.prog X.w) X.A (f v) (EP X pins σ Q) X.xe s
def CallR (X : Cx) (f : Value) (r : List V → Hp → VK → Prop) : Prop :=
  ∀ (pins : List (Addr × Obj)) (s : Shared) (σ : St) (H : Hp) (xs : List V) (us : List Value) (Q : VK), Inv X pins σ H s → Vals xs us → r xs H Q →
    wpAny (model X.prog X.w) X.A (call f us) (EP X pins σ Q) X.xe s
def TruR (X : Cx) (r : V → Hp → (Bool → Hp → Prop) → Prop) : Prop :=
  ∀ (pins : List (Addr × Obj)) (s : Shared) (σ : St) (H : Hp) (x : V) (v : Value) (Q : Bool → Hp → Prop), Inv X pins σ H s → RelV x v → r x H Q →
    wpAny (model X.prog X.w) X.A (truthy v) (TP X pins σ Q) X.xe s
def tOp (r : R2) (ta tb : TE) : TE := fun σ H Q => ta σ H fun x H1 => tb σ H1 fun y H2 => r x y H2 Q
def tUn (r : V → Hp → VK → Prop) (ta : TE) : TE := fun σ H Q => ta σ H fun x H1 => r x H1 Q
def rI (C : Int → Int → Prop) (g : Int → Int → V) : R2 := fun x y H Q => ∃ i j, x = .int i ∧ y = .int j ∧ C i j ∧ Q (g i j) H
def rI0 (g : Int → Int → V) : R2 := fun x y H Q => ∃ i j, x = .int i ∧ y = .int j ∧ Q (g i j) H
def rU (g : Int → V) : V → Hp → VK → Prop := fun x H Q => ∃ i, x = .int i ∧ Q (g i) H
section
variable {X : Cx} {a b c : Expr} {ta tb tc : TE} {pos : Pos}
theorem binT (ha : PE X a ta) (hb : PE X b tb) {pins : List (Addr × Obj)} {s : Shared} {σ : St} {H : Hp} {R : V → V → Hp → Prop} (I : Inv X pins σ H s)
    (h : ta σ H fun x H1 => tb σ H1 fun y H2 => R x y H2) {Q : Value → Shared → Prop} {f : Value → Value → Sem Value}
    (hf : ∀ v u s2 x y H2, Inv X pins σ H2 s2 → RelV x v → RelV y u → R x y H2 → wpAny (model X.prog X.w) X.A (f v u) Q X.xe s2) :
    wpAny (model X.prog X.w) X.A (eval a X.env) (fun v s₁ => wpAny (model X.prog X.w) X.A (eval b X.env) (fun u s₂ => wpAny (model X.prog X.w) X.A (f v u) Q X.xe s₂) X.xe s₁) X.xe s := by
  refine thn (ha pins s σ H _ I h) fun v s1 ⟨x, H1, I1, r1, q1⟩ => ?_
  refine thn (hb pins s1 σ H1 _ I1 q1) fun u s2 ⟨y, H2, I2, r2, q2⟩ => ?_
  exact hf v u s2 x y H2 I2 r1 r2 q2
theorem pe_op {op : Operator} {r : R2} (ho : OpR X (binaryOp op) r) (ha : PE X a ta) (hb : PE X b tb) : PE X (.BinOp a op b pos) (tOp r ta tb) := by
  intro pins s σ H Q I h
  exact wpAny_BinOp (binT ha hb I h fun v u s2 x y H2 I2 rx ry q => ho pins s2 σ H2 x y v u Q I2 rx ry q)
theorem pe_un {op : UnaryOp} {r : V → Hp → VK → Prop} (ho : UnR X (unaryOp op) r) (ha : PE X a ta) : PE X (.UnaryOp op a pos) (tUn r ta) := by
  intro pins s σ H Q I h
  exact UnaryOp_ (thn (ha pins s σ H _ I h) fun v s1 ⟨x, H1, I1, r1, q1⟩ => ho pins s1 σ H1 x v Q I1 r1 q1)
theorem opI {f : Value → Value → Sem Value} {C : Int → Int → Prop} {g : Int → Int → Int}
    (rule : ∀ (i j : Int) (t u : Tok) (s : Shared) (Q : Value → Shared → Prop) (E : Value → Shared → Prop), C i j → Q (.int (g i j) s.toks) { s with toks := s.toks + 1 } → wpAny (model X.prog X.w) X.A (f (.int i t) (.int j u)) Q E s) :
    OpR X f (rI C fun i j => .int (g i j)) := by
  intro pins s σ H x y v u Q I rx ry h
  obtain ⟨i, j, rfl, rfl, hc, q⟩ := h
  obtain ⟨t, rfl⟩ := rx
  obtain ⟨t', rfl⟩ := ry
  exact rule i j t t' s _ _ hc ⟨.int (g i j), H, I.tok _, ⟨_, rfl⟩, q⟩
theorem opI0 {f : Value → Value → Sem Value} {g : Int → Int → Int}
    (rule : ∀ (i j : Int) (t u : Tok) (s : Shared) (Q : Value → Shared → Prop) (E : Value → Shared → Prop), Q (.int (g i j) s.toks) { s with toks := s.toks + 1 } → wpAny (model X.prog X.w) X.A (f (.int i t) (.int j u)) Q E s) :
    OpR X f (rI0 fun i j => .int (g i j)) := by
  intro pins s σ H x y v u Q I rx ry h
  obtain ⟨i, j, rfl, rfl, q⟩ := h
  obtain ⟨t, rfl⟩ := rx
  obtain ⟨t', rfl⟩ := ry
  exact rule i j t t' s _ _ ⟨.int (g i j), H, I.tok _, ⟨_, rfl⟩, q⟩
theorem opB0 {f : Value → Value → Sem Value} {g : Int → Int → Bool}
    (rule : ∀ (i j : Int) (t u : Tok) (s : Shared) (Q : Value → Shared → Prop) (E : Value → Shared → Prop), Q (.bool (g i j)) s → wpAny (model X.prog X.w) X.A (f (.int i t) (.int j u)) Q E s) :
    OpR X f (rI0 fun i j => .bl (g i j)) := by
  intro pins s σ H x y v u Q I rx ry h
  obtain ⟨i, j, rfl, rfl, q⟩ := h
  obtain ⟨t, rfl⟩ := rx
  obtain ⟨t', rfl⟩ := ry
  exact rule i j t t' s _ _ ⟨.bl (g i j), H, I, rfl, q⟩
def CDiv (i j : Int) : Prop := 0 < j ∧ j < 1073741824
def CPow (i j : Int) : Prop := 0 ≤ j ∧ j ≤ 1000000 ∧ i.natAbs < 2 ^ 64
def CMul (i j : Int) : Prop := (-(2 ^ 64) < i ∧ i < 2 ^ 64) ∨ (-(2 ^ 64) < j ∧ j < 2 ^ 64)
theorem CMul.ok {i j : Int} (h : CMul i j) : IntMulOk i j := by
  rcases h with ⟨h1, h2⟩ | ⟨h1, h2⟩
  · exact .of_left (intBits_le_64 h1 h2)
  · exact .of_right (intBits_le_64 h1 h2)
theorem op_add : OpR X (binaryOp .Add) (rI0 fun i j => .int (i + j)) := opI0 fun _ _ _ _ _ _ _ q => add_int q
theorem op_sub : OpR X (binaryOp .Sub) (rI0 fun i j => .int (i - j)) := opI0 fun _ _ _ _ _ _ _ q => sub_int q
theorem op_mul : OpR X (binaryOp .Mult) (rI CMul fun i j => .int (i * j)) := opI fun _ _ _ _ _ _ _ hc q => mul_int q hc.ok
theorem op_fdiv : OpR X (binaryOp .FloorDiv) (rI CDiv fun i j => .int (i / j)) := opI fun i j _ _ _ _ _ hc q => by
  have h1 : (0 : Int) < j := hc.1
  have h2 : j < 1073741824 := hc.2
  exact floordiv_int (by omega) (by rw [Int.fdiv_eq_ediv_of_nonneg i (by omega)]; exact q) (.inl (PyProof.noPylong_small (by omega)))
theorem op_mod : OpR X (binaryOp .Mod) (rI (fun _ j => 0 < j) fun i j => .int (i % j)) := opI fun i j _ _ _ _ _ hc q => by
  have h1 : (0 : Int) < j := hc
  exact mod_int' (by omega) (by rw [Int.fmod_eq_emod_of_nonneg i (by omega)]; exact q)
theorem op_pow : OpR X (binaryOp .Pow) (rI CPow fun i j => .int (i ^ j.toNat)) := opI fun _ _ _ _ _ _ _ hc q => pow_int_small hc.1 hc.2.1 hc.2.2 q
theorem unI {f : Value → Sem Value} {g : Int → Int}
    (rule : ∀ (i : Int) (t : Tok) (s : Shared) (Q : Value → Shared → Prop) (E : Value → Shared → Prop), Q (.int (g i) s.toks) { s with toks := s.toks + 1 } → wpAny (model X.prog X.w) X.A (f (.int i t)) Q E s) :
    UnR X f (rU fun i => .int (g i)) := by
  intro pins s σ H x v Q I rx h
  obtain ⟨i, rfl, q⟩ := h
  obtain ⟨t, rfl⟩ := rx
  exact rule i t s _ _ ⟨.int (g i), H, I.tok _, ⟨_, rfl⟩, q⟩
theorem un_neg : UnR X (unaryOp .USub) (rU fun i => .int (-i)) := unI fun _ _ _ _ _ q => neg_int q
end
def scal : V → V → Bool
  | .non, .non => true | .non, .int _ => true | .int _, .non => true | .non, .bl _ => true | .bl _, .non => true | .non, .str _ => true | .str _, .non => true
  | .int _, .int _ => true | .bl _, .bl _ => true | .str _, .str _ => true | .byt _, .byt _ => true
  | .int _, .str _ => true | .str _, .int _ => true | .bl _, .str _ => true | .str _, .bl _ => true
  | _, _ => false
def rEq : R2 := fun x y H Q => scal x y = true ∧ Q (.bl (decide (x = y))) H
def rNe : R2 := fun x y H Q => scal x y = true ∧ Q (.bl (!decide (x = y))) H
theorem dec_int {i j : Int} : decide (V.int i = V.int j) = (i == j) := by
  rw [Bool.eq_iff_iff]
  simp
theorem dec_bl {i j : Bool} : decide (V.bl i = V.bl j) = (i == j) := by
  rw [Bool.eq_iff_iff]
  simp
theorem dec_str {i j : Str} : decide (V.str i = V.str j) = (i == j) := by
  rw [Bool.eq_iff_iff]
  simp
theorem dec_byt {i j : Array UInt8} : decide (V.byt i = V.byt j) = (i.toList == j.toList) := by
  rw [Bool.eq_iff_iff]
  cases i
  cases j
  simp
section
variable {X : Cx} {a b c : Expr} {ta tb tc : TE} {pos : Pos}
theorem fin_bl {pins : List (Addr × Obj)} {σ : St} {H : Hp} {s : Shared} {Q : VK} {k k' : Bool} (I : Inv X pins σ H s) (q : Q (.bl k) H) (e : k = k') : EP X pins σ Q (.bool k') s := by
  subst e
  exact ⟨.bl k, H, I, rfl, q⟩
theorem op_eq : OpR X (compareOp .Eq) rEq := by
  intro pins s σ H x y v u Q I rx ry h
  obtain ⟨hs, q⟩ := h
  cases x with
  | non =>
    cases rx
    cases y with
    | non => cases ry; exact PySem.EqNone.eq_none_none (fin_bl I q (by simp))
    | bl j => cases ry; exact PySem.EqNone.eq_none_bool (fin_bl I q (by simp))
    | int j => obtain ⟨t', rfl⟩ := ry; exact PySem.EqNone.eq_none_int (fin_bl I q (by simp))
    | str j => obtain ⟨t', rfl⟩ := ry; exact PySem.EqNone.eq_none_str (fin_bl I q (by simp))
    | _ => exact absurd (show false = true from hs) Bool.false_ne_true
  | bl i =>
    cases rx
    cases y with
    | non => cases ry; exact PySem.EqNone.eq_bool_none (fin_bl I q (by simp))
    | bl j => cases ry; exact eq_bool (fin_bl I q dec_bl)
    | str j => obtain ⟨t', rfl⟩ := ry; exact PySem.EqMixed.eq_bool_str (fin_bl I q (by simp))
    | _ => exact absurd (show false = true from hs) Bool.false_ne_true
  | int i =>
    obtain ⟨t, rfl⟩ := rx
    cases y with
    | non => cases ry; exact PySem.EqNone.eq_int_none (fin_bl I q (by simp))
    | int j => obtain ⟨t', rfl⟩ := ry; exact eq_int (fin_bl I q dec_int)
    | str j => obtain ⟨t', rfl⟩ := ry; exact PySem.EqMixed.eq_int_str (fin_bl I q (by simp))
    | _ => exact absurd (show false = true from hs) Bool.false_ne_true
  | str i =>
    obtain ⟨t, rfl⟩ := rx
    cases y with
    | non => cases ry; exact PySem.EqNone.eq_str_none (fin_bl I q (by simp))
    | bl j => cases ry; exact PySem.EqMixed.eq_str_bool (fin_bl I q (by simp))
    | int j => obtain ⟨t', rfl⟩ := ry; exact PySem.EqMixed.eq_str_int (fin_bl I q (by simp))
    | str j => obtain ⟨t', rfl⟩ := ry; exact eq_str (fin_bl I q dec_str)
    | _ => exact absurd (show false = true from hs) Bool.false_ne_true
  | byt i =>
    obtain ⟨t, rfl⟩ := rx
    cases y with
    | byt j => obtain ⟨t', rfl⟩ := ry; exact PySem.W.eq_bytes (fin_bl I q dec_byt)
    | _ => exact absurd (show false = true from hs) Bool.false_ne_true
  | _ => cases y <;> exact absurd (show false = true from hs) Bool.false_ne_true
theorem op_ne : OpR X (compareOp .NotEq) rNe := by
  intro pins s σ H x y v u Q I rx ry h
  obtain ⟨hs, q⟩ := h
  cases x with
  | non =>
    cases rx
    cases y with
    | non => cases ry; exact PySem.EqNone.ne_none_none (fin_bl I q (by simp))
    | bl j => cases ry; exact PySem.EqNone.ne_none_bool (fin_bl I q (by simp))
    | int j => obtain ⟨t', rfl⟩ := ry; exact PySem.EqNone.ne_none_int (fin_bl I q (by simp))
    | str j => obtain ⟨t', rfl⟩ := ry; exact PySem.EqNone.ne_none_str (fin_bl I q (by simp))
    | _ => exact absurd (show false = true from hs) Bool.false_ne_true
  | bl i =>
    cases rx
    cases y with
    | non => cases ry; exact PySem.EqNone.ne_bool_none (fin_bl I q (by simp))
    | bl j => cases ry; exact ne_bool (fin_bl I q (congrArg not dec_bl))
    | str j => obtain ⟨t', rfl⟩ := ry; exact PySem.EqMixed.ne_bool_str (fin_bl I q (by simp))
    | _ => exact absurd (show false = true from hs) Bool.false_ne_true
  | int i =>
    obtain ⟨t, rfl⟩ := rx
    cases y with
    | non => cases ry; exact PySem.EqNone.ne_int_none (fin_bl I q (by simp))
    | int j => obtain ⟨t', rfl⟩ := ry; exact ne_int (fin_bl I q (congrArg not dec_int))
    | str j => obtain ⟨t', rfl⟩ := ry; exact PySem.EqMixed.ne_int_str (fin_bl I q (by simp))
    | _ => exact absurd (show false = true from hs) Bool.false_ne_true
  | str i =>
    obtain ⟨t, rfl⟩ := rx
    cases y with
    | non => cases ry; exact PySem.EqNone.ne_str_none (fin_bl I q (by simp))
    | bl j => cases ry; exact PySem.EqMixed.ne_str_bool (fin_bl I q (by simp))
    | int j => obtain ⟨t', rfl⟩ := ry; exact PySem.EqMixed.ne_str_int (fin_bl I q (by simp))
    | str j => obtain ⟨t', rfl⟩ := ry; exact ne_str (fin_bl I q (congrArg not dec_str))
    | _ => exact absurd (show false = true from hs) Bool.false_ne_true
  | byt i =>
    obtain ⟨t, rfl⟩ := rx
    cases y with
    | byt j => obtain ⟨t', rfl⟩ := ry; exact PySem.W.ne_bytes (fin_bl I q (congrArg not dec_byt))
    | _ => exact absurd (show false = true from hs) Bool.false_ne_true
  | _ => cases y <;> exact absurd (show false = true from hs) Bool.false_ne_true
theorem op_lt : OpR X (compareOp .Lt) (rI0 fun i j => .bl (decide (i < j))) := opB0 fun _ _ _ _ _ _ _ q => lt_int q
theorem op_le : OpR X (compareOp .LtE) (rI0 fun i j => .bl (decide (i ≤ j))) := opB0 fun _ _ _ _ _ _ _ q => le_int q
theorem op_gt : OpR X (compareOp .Gt) (rI0 fun i j => .bl (decide (j < i))) := opB0 fun _ _ _ _ _ _ _ q => gt_int q
theorem nomark (b : Expr) {op : CmpOp} (h : op ≠ .In := by decide) (h2 : op ≠ .NotIn := by decide) : behindInMarks op b = false := by
  have e1 : (op == CmpOp.In) = false := by cases op <;> first | rfl | exact absurd rfl h
  have e2 : (op == CmpOp.NotIn) = false := by cases op <;> first | rfl | exact absurd rfl h2
  cases b <;> simp [behindInMarks, e1, e2]
theorem pe_cmpR {op : CmpOp} {r : R2} (ho : OpR X (compareOp op) r) (ha : PE X a ta) (hb : PE X b tb) (hm : behindInMarks op b = false) : PE X (.Compare a [op] [b] pos) (tOp r ta tb) := by
  intro pins s σ H Q I h
  exact wpAny_Compare1 (binT ha hb I h fun v u s2 x y H2 I2 rx ry q => ho pins s2 σ H2 x y v u Q I2 rx ry q) hm
def tTest (t : TE) : TT := fun σ H Q => t σ H fun x H' => ∃ k, x = .bl k ∧ Q k H'
theorem pt_cmpR {op : CmpOp} {r : R2} (ho : OpR X (compareOp op) r) (ha : PE X a ta) (hb : PE X b tb) (hm : behindInMarks op b = false) : PT X (.Compare a [op] [b] pos) (tTest (tOp r ta tb)) := by
  intro pins s σ H Q I h
  refine wpAny_isTrue_Compare1 (thn (ha pins s σ H _ I h) fun v s1 ⟨x, H1, I1, r1, q1⟩ => thn (hb pins s1 σ H1 _ I1 q1) fun u s2 ⟨y, H2, I2, r2, q2⟩ =>
    thn (ho pins s2 σ H2 x y v u _ I2 r1 r2 q2) fun c s3 ⟨z, H3, I3, r3, k, e, q3⟩ => ?_) hm
  subst e
  cases r3
  exact wpAny_truthy_bool ⟨H3, I3, q3⟩
def tChain (r r' : R2) (ta tb tc : TE) : TE := fun σ H Q => ta σ H fun x H1 => tb σ H1 fun y H2 => r x y H2 fun z H3 => ∃ k, z = .bl k ∧
  (if k = true then tc σ H3 fun w' H4 => r' y w' H4 Q else Q (.bl false) H3)
theorem pe_chain {op op' : CmpOp} {r r' : R2} (ho : OpR X (compareOp op) r) (ho' : OpR X (compareOp op') r') (ha : PE X a ta) (hb : PE X b tb) (hc : PE X c tc)
    (hm : lastMarks [op, op'] [b, c] = false := by with_unfolding_all rfl) : PE X (.Compare a [op, op'] [b, c] pos) (tChain r r' ta tb tc) := by
  intro pins s σ H Q I h
  refine Compare_chain (thn (ha pins s σ H _ I h) fun v s1 ⟨x, H1, I1, r1, q1⟩ => chain_link (thn (hb pins s1 σ H1 _ I1 q1) fun u s2 ⟨y, H2, I2, r2, q2⟩ =>
    thn (ho pins s2 σ H2 x y v u _ I2 r1 r2 q2) fun d s3 ⟨z, H3, I3, r3, k, e, q3⟩ => ?_)) hm
  subst e
  cases r3
  refine wpAny_truthy_bool ?_
  cases k with
  | false => exact ite_ff ⟨.bl false, H3, I3, rfl, q3⟩
  | true => exact ite_tt (chain_last (thn (hc pins s3 σ H3 _ I3 q3) fun w' s4 ⟨z', H4, I4, r4, q4⟩ => ho' pins s4 σ H4 y z' u w' Q I4 r2 r4 q4))
theorem pt_chain {op op' : CmpOp} {r r' : R2} (ho : OpR X (compareOp op) r) (ho' : OpR X (compareOp op') r') (ha : PE X a ta) (hb : PE X b tb) (hc : PE X c tc)
    (hm : lastMarks [op, op'] [b, c] = false := by with_unfolding_all rfl) : PT X (.Compare a [op, op'] [b, c] pos) (tTest (tChain r r' ta tb tc)) := by
  intro pins s σ H Q I h
  refine isTrue_chain (thn (ha pins s σ H _ I h) fun v s1 ⟨x, H1, I1, r1, q1⟩ => test_link (thn (hb pins s1 σ H1 _ I1 q1) fun u s2 ⟨y, H2, I2, r2, q2⟩ =>
    thn (ho pins s2 σ H2 x y v u _ I2 r1 r2 q2) fun d s3 ⟨z, H3, I3, r3, k, e, q3⟩ => ?_)) hm
  subst e
  cases r3
  refine wpAny_truthy_bool ?_
  cases k with
  | false =>
    obtain ⟨k', e', q'⟩ := q3
    cases e'
    exact ite_ff ⟨H3, I3, q'⟩
  | true =>
    refine ite_tt (test_last (thn (hc pins s3 σ H3 _ I3 q3) fun w' s4 ⟨z', H4, I4, r4, q4⟩ => thn (ho' pins s4 σ H4 y z' u w' _ I4 r2 r4 q4) fun d' s5 ⟨z2, H5, I5, r5, k2, e2, q5⟩ => ?_))
    subst e2
    cases r5
    exact wpAny_truthy_bool ⟨H5, I5, q5⟩
def TruV (K : PySem.W.Frag) (x : V) (H : Hp) (k : Bool) : Prop :=
  match x with
  | .non => k = false
  | .bl b => k = b
  | .int i => k = (i != 0)
  | .str y => y.length ≤ sizeLine ∧ k = ((y.length : Int) != 0)
  | .byt y => y.size ≤ sizeLine ∧ k = ((y.size : Int) != 0)
  | .ref p => (∃ xs, SqL K H p xs ∧ k = !xs.isEmpty) ∨ (∃ xs, SqT K H p xs ∧ k = !xs.isEmpty) ∨ ∃ kvs, H p = some (.dK kvs) ∧ k = !kvs.isEmpty
  | _ => False
theorem isEmpty_kv {κ : Type} {kvs : List (κ × V)} {vs : List (κ × Value)} (r : KV kvs vs) : (!vs.isEmpty) = !kvs.isEmpty := by
  cases r <;> rfl
theorem isEmpty_of {xs : List V} {its : List Value} (r : Vals xs its) : (!its.toArray.isEmpty) = !xs.isEmpty := by
  cases r <;> simp
theorem line63 : (sizeLine : Nat) < 2 ^ 63 := by rw [sizeLine_eq]; decide
theorem tru_ok : TruR X (fun x H Q => ∃ k, TruV X.K x H k ∧ Q k H) := by
  intro pins s σ H x v Q I rx h
  obtain ⟨k, e, q⟩ := h
  have hl := line63
  have hs : sizeLine = 16777216 := sizeLine_eq
  cases x with
  | non =>
    cases rx
    have e' : k = false := e
    subst e'
    exact truthy_none ⟨H, I, q⟩
  | bl b =>
    cases rx
    have e' : k = b := e
    subst e'
    exact wpAny_truthy_bool ⟨H, I, q⟩
  | int i =>
    obtain ⟨t, rfl⟩ := rx
    have e' : k = (i != 0) := e
    subst e'
    exact PySem.P.truthy_int ⟨H, I, q⟩
  | str y =>
    obtain ⟨t, rfl⟩ := rx
    obtain ⟨hy, e'⟩ : y.length ≤ sizeLine ∧ k = ((y.length : Int) != 0) := e
    subst e'
    exact PySem.P.truthy_str (by omega) ⟨H, I.tok _, q⟩
  | byt y =>
    obtain ⟨t, rfl⟩ := rx
    obtain ⟨hy, e'⟩ : y.size ≤ sizeLine ∧ k = ((y.size : Int) != 0) := e
    subst e'
    exact PySem.W.truthy_bytes (by omega) ⟨H, I.tok _, q⟩
  | ref p =>
    cases rx
    have e' : (∃ xs, SqL X.K H p xs ∧ k = !xs.isEmpty) ∨ (∃ xs, SqT X.K H p xs ∧ k = !xs.isEmpty) ∨ ∃ kvs, H p = some (.dK kvs) ∧ k = !kvs.isEmpty := e
    rcases e' with ⟨xs, hx, e'⟩ | ⟨xs, hx, e'⟩ | ⟨kvs, hx, e'⟩
    · subst e'
      obtain ⟨its, r, pl, hz⟩ := I.list hx
      have hlen := r.length
      exact wpAny_truthy_list pl.isList (by simp only [List.size_toArray]; omega) ⟨H, I.tok _, by rw [isEmpty_of r]; exact q⟩
    · subst e'
      obtain ⟨its, r, pl, hz⟩ := I.tuple hx
      have hlen := r.length
      exact truthy_tuple pl (by simp only [List.size_toArray]; omega) ⟨H, I.tok _, by rw [isEmpty_of r]; exact q⟩
    · subst e'
      obtain ⟨hz, hS, vs, r, m⟩ : kvs.length ≤ sizeLine ∧ (p == sysModules) = false ∧ ∃ vs, KV kvs vs ∧ s.heap.DictOf (mixKind X.prog X.w) p vs := I.hok p _ hx
      have hlen : kvs.length = vs.length := Paired.length r
      exact wpAny_truthy_dict hS m (by omega) ⟨H, I.tok _, by rw [isEmpty_kv r]; exact q⟩
  | _ => exact (show False from e).elim
theorem pt_truth (ha : PE X a ta) (he : ∀ whole, isTrue a X.env whole = (do let v ← whole; standAt a.pos; holding [v] (truthy v))) :
    PT X a (fun σ H Q => ta σ H fun x H' => ∃ k, TruV X.K x H' k ∧ Q k H') := by
  intro pins s σ H Q I h
  exact isTrue_plain (thn (ha pins s σ H _ I h) fun v s1 ⟨x, H1, I1, r1, q1⟩ => tru_ok pins s1 σ H1 x v Q I1 r1 q1) (he _)
theorem vals1 {x : V} {us : List Value} (r : Vals [x] us) : ∃ u, us = [u] ∧ RelV x u := by
  cases r with
  | cons r1 r2 => cases r2; exact ⟨_, rfl, r1⟩
theorem vals2 {x y : V} {us : List Value} (r : Vals [x, y] us) : ∃ u w', us = [u, w'] ∧ RelV x u ∧ RelV y w' := by
  cases r with
  | cons r1 r2 =>
    cases r2 with
    | cons r3 r4 => cases r4; exact ⟨_, _, rfl, r1, r3⟩
theorem call_max2 (hc : X.calm = true) : CallR X (.builtin "max") (fun xs H Q => ∃ i j, xs = [.int i, .int j] ∧ Q (.int (if j > i then j else i)) H) := by
  intro pins s σ H xs us Q I r h
  obtain ⟨i, j, rfl, q⟩ := h
  obtain ⟨u, w', rfl, ⟨t, rfl⟩, ⟨t', rfl⟩⟩ := vals2 r
  refine max_two_ints (I.ok.hd hc) fun h' tk k => ⟨_, H, I.kept k, ?_, q⟩
  by_cases hj : j > i
  · rw [if_pos hj, if_pos hj]; exact ⟨_, rfl⟩
  · rw [if_neg hj, if_neg hj]; exact ⟨_, rfl⟩
theorem call_min2 (hc : X.calm = true) : CallR X (.builtin "min") (fun xs H Q => ∃ i j, xs = [.int i, .int j] ∧ Q (.int (if j < i then j else i)) H) := by
  intro pins s σ H xs us Q I r h
  obtain ⟨i, j, rfl, q⟩ := h
  obtain ⟨u, w', rfl, ⟨t, rfl⟩, ⟨t', rfl⟩⟩ := vals2 r
  refine min_two_ints (I.ok.hd hc) fun h' tk k => ⟨_, H, I.kept k, ?_, q⟩
  by_cases hj : j < i
  · rw [if_pos hj, if_pos hj]; exact ⟨_, rfl⟩
  · rw [if_neg hj, if_neg hj]; exact ⟨_, rfl⟩
end
end L2
namespace L2
open PySem PySem.Spec PyProof.Rows
structure ObjM (h : Heap) (x dx C : Addr) (mA : Str → Option Value) : Prop where
  obj : h.get? x = some (PySem.W.instObj C dx)
  ns : h.Ns1 dx mA
  ne : dx ≠ x
theorem lookIn_ns {h : Heap} {dx : Addr} {mA : Str → Option Value} (n : h.Ns1 dx mA) : ∃ od, h.get? dx = some od ∧ ∀ name, PySem.W.lookIn name od = some (mA name) := by
  obtain ⟨o, es, ep, ho, hd, hk, _, hm⟩ := n
  refine ⟨o, ho, fun name => ?_⟩
  have e := hm name
  unfold nsFind findBy at e
  rw [← Array.find?_toList] at e
  unfold PySem.W.lookIn
  rw [hd]
  dsimp only
  split
  · rename_i y q
    rw [q] at e
    exact congrArg some e
  · rename_i q
    rw [q] at e
    have a : es.toList.any (·.refKey) = false := by
      rw [List.any_eq_false]
      intro y hy
      obtain ⟨z, t, hkey⟩ := hk y (Array.mem_toList_iff.mp hy)
      simp [DictEntry.refKey, hkey]
    have a' : ¬ es.toList.any (·.refKey) = true := by rw [a]; exact Bool.false_ne_true
    rw [if_neg a']
    exact congrArg some e
theorem ObjM.look {h : Heap} {x dx C : Addr} {mA : Str → Option Value} (I : ObjM h x dx C mA) : ∃ od, PySem.W.InstAt h x (PySem.W.instObj C dx) C (some od) ∧ ∀ name, PySem.W.lookIn name od = some (mA name) :=
  let ⟨od, ho, hl⟩ := lookIn_ns I.ns
  ⟨od, ⟨I.obj, rfl, rfl, ho⟩, hl⟩
section
variable {prog : Program} {w : World} {A : Around} {E : Value → Shared → Prop} {s : Shared} {K : PySem.W.Frag} {x dx C f : Addr} {mA : Str → Option Value} {name : Str} {v : Value}
end
section
variable {P : Program} {w : World} {H H' : Hp} {h h' : Heap} {a C dx : Addr} {fs fs' : List (Str × V)}
theorem ins_get (hok : HOk P w H h) (e : H a = some (.ins C dx fs)) : ∃ mA, ObjM h a dx C mA ∧ (∀ f, RelO (fs.lookup f) (mA f)) ∧ PySem.Within mA (fs.map (·.1)) ∧ fs.length ≤ 1000 ∧ H dx = some (.own a) := by
  obtain ⟨d, z, ne, ob, mA, n, r, q⟩ := (show ObjOk P w H h a (.ins C dx fs) from hok a _ e)
  exact ⟨mA, ⟨ob, n, ne⟩, r, q, z, d⟩
end
structure Cls (K : PySem.W.Frag) (C : Addr) : Prop where
  pg : PySem.W.plainGet K C Str.empty = true
  hd : PySem.W.hasDictIn K C = true
  po : PySem.W.plainOver K C = true
  sa : PySem.W.findIn K (.ref C) "__setattr__" = some (some (.builtin "object.__setattr__"))
theorem Cls.get {K : PySem.W.Frag} {C : Addr} (c : Cls K C) (f : Str) : PySem.W.plainGet K C f = true := c.pg
section
variable {X : Cx} {pins : List (Addr × Obj)} {σ : St} {H : Hp} {s : Shared} {a C dx : Addr} {fs : List (Str × V)} {f : Str} {v : V} {A : Around} {E : Value → Shared → Prop}
end
section
variable {X : Cx} {o e value : Expr} {f : Str} {pos pos' tpos : Pos} {ta tv : TE}
end
section
variable {X : Cx} {pins : List (Addr × Obj)} {σ : St} {H : Hp} {s : Shared} {A : Around} {E : Value → Shared → Prop} {Q : Value → Shared → Prop} {c : Value} {b : Bool}
inductive TyOf (K : PySem.W.Frag) (H : Hp) : V → Value → Prop where
  | non : TyOf K H .non (.type "NoneType")
  | bl (x : Bool) : TyOf K H (.bl x) (.type "bool")
  | int (i : Int) : TyOf K H (.int i) (.type "int")
  | str (x : Str) : TyOf K H (.str x) (.type "str")
  | flt (x : UInt64) : TyOf K H (.flt x) (.type "float")
  | lst {a : Addr} {xs : List V} (e : H a = some (.lst xs)) : TyOf K H (.ref a) (.type "list")
  | frz {a : Addr} {o : Obj} {xs : List V} (e : H a = some (.frz o (.lst xs))) : TyOf K H (.ref a) (.type "list")
  | tup {a : Addr} {xs : List V} (e : H a = some (.tup xs)) : TyOf K H (.ref a) (.type "tuple")
  | dK {a : Addr} {kvs : List (Key × V)} (e : H a = some (.dK kvs)) : TyOf K H (.ref a) (.type "dict")
  | dT {a : Addr} {kvs : List (List Key × V)} (e : H a = some (.dT kvs)) : TyOf K H (.ref a) (.type "dict")
  | ins {a C dx : Addr} {fs : List (Str × V)} (e : H a = some (.ins C dx fs)) (cl : Cls K C) (ha : PySem.W.findIn K (.ref C) "__class__" = some (some (.builtin "object.__class__")))
      (hn : PySem.W.specialIn K (.builtin "object.__class__") "__get__" = some (some (.builtin "getset_descriptor.__get__"))) (htk : PySem.W.takesIn K (.builtin "object.__class__") = some true)
      (hm : PySem.W.mroIn K C (.type "object") = some true) : TyOf K H (.ref a) (.ref C)
theorem isinst_ok {x : V} {u t : Value} (I : Inv X pins σ H s) (rx : RelV x u) (ty : TyOf X.K H x t) (e : PySem.W.kitOne X.K t c = some b) (h : ∀ tk, Q (.bool b) { s with toks := tk }) :
    wpAny (model X.prog X.w) A (call (.builtin "isinstance") [u, c]) Q E s := by
  cases ty with
  | non => cases (show u = Value.none from rx); exact PySem.W.kia_one PySem.W.kitx_none I.kIn True.intro e (fun z => nomatch z) h
  | bl y => cases (show u = Value.bool y from rx); exact PySem.W.kia_one PySem.W.kitx_bool I.kIn True.intro e (fun z => nomatch z) h
  | int i => obtain ⟨t, q⟩ := (show ∃ t, u = Value.int i t from rx); cases q; exact PySem.W.kia_one PySem.W.kitx_int I.kIn True.intro e (fun z => nomatch z) h
  | str y => obtain ⟨t, q⟩ := (show ∃ t, u = Value.str y t from rx); cases q; exact PySem.W.kia_one PySem.W.kitx_str I.kIn True.intro e (fun z => nomatch z) h
  | flt y => obtain ⟨t, q⟩ := (show ∃ t, u = Value.float y t from rx); cases q; exact PySem.W.kia_one PySem.W.kitx_float I.kIn True.intro e (fun z => nomatch z) h
  | @lst a xs ea =>
    cases (show u = Value.ref a from rx)
    obtain ⟨_, _, n, _, h1⟩ := (show ObjOk X.prog X.w H s.heap a (.lst xs) from I.hok a _ ea)
    exact PySem.W.kia_one PySem.W.kitx_list I.kIn ⟨_, h1, rfl⟩ e (fun z => nomatch z) h
  | @frz a ob xs ea =>
    cases (show u = Value.ref a from rx)
    obtain ⟨_, _, _, n, _, h1⟩ := (show ObjOk X.prog X.w H s.heap a (.frz ob (.lst xs)) from I.hok a _ ea)
    exact PySem.W.kia_one PySem.W.kitx_list I.kIn ⟨_, h1, rfl⟩ e (fun z => nomatch z) h
  | @tup a xs ea =>
    cases (show u = Value.ref a from rx)
    obtain ⟨_, _, _, p⟩ := (show ObjOk X.prog X.w H s.heap a (.tup xs) from I.hok a _ ea)
    obtain ⟨o, h1, h2, _⟩ := p
    exact PySem.W.kia_one PySem.W.kitx_tuple I.kIn ⟨o, h1, h2⟩ e (fun z => nomatch z) h
  | @dK a kvs ea =>
    cases (show u = Value.ref a from rx)
    obtain ⟨_, _, vs, _, p⟩ := (show ObjOk X.prog X.w H s.heap a (.dK kvs) from I.hok a _ ea)
    obtain ⟨o, es, ep, h1, h2, _⟩ := p
    exact PySem.W.kia_one PySem.W.kitx_dict I.kIn ⟨o, h1, h2.1⟩ e (fun z => nomatch z) h
  | @dT a kvs ea =>
    cases (show u = Value.ref a from rx)
    obtain ⟨_, _, xs, _, o, es, ep, h1, h2, _⟩ := (show ObjOk X.prog X.w H s.heap a (.dT kvs) from I.hok a _ ea)
    exact PySem.W.kia_one PySem.W.kitx_dict I.kIn ⟨o, h1, h2.1⟩ e (fun z => nomatch z) h
  | @ins a C dx fs ea cl ha hn htk hm =>
    cases (show u = Value.ref a from rx)
    obtain ⟨mA, O, _⟩ := ins_get I.hok ea
    obtain ⟨od, J, _⟩ := O.look
    exact PySem.W.kia_one (PySem.W.kitx_own (cl.get _) cl.hd ha hn htk hm) I.kIn J e (fun z => nomatch z) h
end
end L2
namespace L2
open PySem PySem.Spec PyProof.Rows
structure Room (k : Nat) (A : Around) : Prop where
  hd : A.handled = none
  dp : A.depth + 3 * k + 5 < recursionLimit
  un : A.units + 16 * k + 200 < cLine
theorem Room.mono {j k : Nat} {A : Around} (r : Room k A) (h : j ≤ k) : Room j A := ⟨r.hd, by have := r.dp; omega, by have := r.un; omega⟩
theorem Room.deeper {k : Nat} {A : Around} (r : Room (k + 1) A) (env : Env) : Room k (A.deeper env) :=
  ⟨r.hd, by have := r.dp; show A.depth + 1 + 3 * k + 5 < _; omega, by have := r.un; show A.units + 3 + 16 * k + 200 < _; omega⟩
theorem Room.depth {k : Nat} {A : Around} (r : Room k A) : A.depth < recursionLimit := by have := r.dp; omega
theorem Room.units {k : Nat} {A : Around} (r : Room k A) : A.units + 64 < cLine := by have := r.un; omega
def tNil : TA := fun _ H Q => Q [] H
def tCons (ta : TE) (tr : TA) : TA := fun σ H Q => ta σ H fun x H1 => tr σ H1 fun xs H2 => Q (x :: xs) H2
section
variable {X : Cx} {e : Expr} {es : List Expr} {te : TE} {t : TA} {pos : Pos}
theorem pa_nil : PA X [] tNil := fun _ _ _ _ H Q I h => Calls.spliced_nil ⟨[], H, I, .nil, h⟩
theorem pa_cons (ha : PE X e te) (hr : PA X es t) (hs : starEach (e :: es) X.env = (false, eval e X.env) :: starEach es X.env := by rfl) : PA X (e :: es) (tCons te t) := by
  intro pos pins s σ H Q I h
  rw [hs]
  show wpAny _ _ (spliced ((false, eval e X.env) :: backTo pos (starEach es X.env))) _ _ s
  refine Calls.spliced_cons (thn (ha pins s σ H _ I h) fun u s1 ⟨x, H1, I1, r1, q1⟩ => ?_)
  exact thn (hr pos pins s1 σ H1 _ I1 q1) fun us s2 ⟨xs, H2, I2, r2, q2⟩ => ⟨x :: xs, H2, I2, .cons r1 r2, q2⟩
def tTup (t : TA) : TE := fun σ H Q => t σ H fun xs H1 => xs.length ≤ sizeLine ∧ ∀ p, H1 p = none → Q (.ref p) (upd H1 p (.tup xs))
def tLst (t : TA) : TE := fun σ H Q => t σ H fun xs H1 => xs.length ≤ sizeLine ∧ ∀ p, H1 p = none → Q (.ref p) (upd H1 p (.lst xs))
theorem pe_tup {x1} (h : PA X es t) : PE X (.Tuple es x1 pos) (tTup t) := by
  intro pins s σ H Q I hq
  refine wpAny_Tuple_spliced (thn (h pos pins s σ H _ I hq) fun us s1 ⟨xs, H1, I1, r, z, q⟩ => ⟨by rw [← r.length]; exact z, ?_⟩)
  have hf : H1 s1.heap.objs.size = none := I1.hok.fresh (Nat.le_refl _)
  refine ⟨.ref s1.heap.objs.size, upd H1 s1.heap.objs.size (.tup xs), I1.laid (t' := s1.toks) (fun b u e => Heap.get?_push_of_some _ e) (Nat.le_refl _) ?_, rfl, q _ hf⟩
  exact ⟨z, us, r, ⟨_, Heap.get?_push_size _ rfl, rfl, _, rfl⟩⟩
theorem pe_lst (h : PA X es t) : PE X (.List es pos) (tLst t) := by
  intro pins s σ H Q I hq
  refine wpAny_List_spliced (thn (h pos pins s σ H _ I hq) fun us s1 ⟨xs, H1, I1, r, z, q⟩ => ⟨by rw [← r.length]; exact z, ?_⟩)
  have hf : H1 s1.heap.objs.size = none := I1.hok.fresh (Nat.le_refl _)
  refine ⟨.ref s1.heap.objs.size, upd H1 s1.heap.objs.size (.lst xs), I1.laid (t' := s1.toks) (fun b u e => Heap.get?_push_of_some _ e) (Nat.le_refl _) ?_, rfl, q _ hf⟩
  exact ⟨z, us, 0, r, Heap.get?_push_size _ rfl⟩
end
abbrev Sp := List V → Hp → VK → XK → Prop
abbrev CXT := List Env → Hp → Shared → XK → Value → Shared → Prop
structure Env0 (P : Program) (w : World) (K : PySem.W.Frag) (mg : Str → Option Value) (base : Heap) (A : Around) (outer : List Env) (s : Shared) (H : Hp) : Prop where
  frames : A.frames = some outer
  mod : Mod K mg base
  bs : ∀ b o, base.get? b = some o → s.heap.get? b = some o ∧ H b = none
  bsz : base.objs.size ≤ s.heap.objs.size
  funs : s.heap.FunFrames base outer
  frf : ∀ b ∈ frs outer, H b = none
  hok : HOk P w H s.heap
  bare : AllBare s.gens
def CE (outer : List Env) (P : Program) (w : World) (H : Hp) (s : Shared) (Q : VK) (u : Value) (s' : Shared) : Prop :=
  ∃ v H', s'.os = s.os ∧ AllBare s'.gens ∧ Un (frs outer) [] H H' s.heap s'.heap ∧ HOk P w H' s'.heap ∧ RelV v u ∧ Q v H'
def CR (CX : CXT) (outer : List Env) (P : Program) (w : World) (H : Hp) (s : Shared) (Q : VK) (E : XK) (r : Result) (s' : Shared) : Prop :=
  match r with
  | .ok (.ret u) => CE outer P w H s Q u s'
  | .ok _ => False
  | .error e => CX outer H s E e s'
structure FnOk (P : Program) (w : World) (K : PySem.W.Frag) (mg : Str → Option Value) (base : Heap) (CX : CXT) (k : Nat) (f : Addr) (fd : FuncData) (ps : List Str) (sp : Sp) : Prop where
  len : ∀ vs H Q E, sp vs H Q E → vs.length = ps.length
  run : ∀ (A : Around) (outer : List Env) (s : Shared) (H : Hp) (args : Args) (us : List Value) (vs : List V) (Q : VK) (E : XK), Room k A → Env0 P w K mg base A outer s H → BindsTo s fd args (ps.zip us) → Vals vs us → sp vs H Q E →
    codeAny (model P w) A (.call (.ref f) args) (CR CX outer P w H s Q E) s
theorem FnOk.mono {P : Program} {w : World} {K : PySem.W.Frag} {mg : Str → Option Value} {base : Heap} {CX : CXT} {j k : Nat} {f : Addr} {fd : FuncData} {ps : List Str} {sp : Sp} (F : FnOk P w K mg base CX j f fd ps sp) (h : j ≤ k) :
    FnOk P w K mg base CX k f fd ps sp := ⟨F.len, fun A outer s H args us vs Q E hr => F.run A outer s H args us vs Q E (hr.mono h)⟩
section
variable {X : Cx} {pins : List (Addr × Obj)} {σ : St} {H : Hp} {s s' : Shared}
theorem Inv.env0 (I : Inv X pins σ H s) : Env0 X.prog X.w X.K X.mg X.base X.A X.stack s H :=
  ⟨I.ok.frames, I.ok.mod, I.bs, Nat.le_trans I.ok.bsz I.sz, I.stack, I.stkFree, I.hok, I.bare⟩
theorem Inv.after {Q : VK} {u : Value} (I : Inv X pins σ H s) (h : CE X.stack X.prog X.w H s Q u s') : EP X pins σ Q u s' := by
  obtain ⟨v, H', os, bare, un, hok, r, q⟩ := h
  obtain ⟨hh, g, d, t, os'⟩ := s'
  obtain rfl : os' = s.os := os
  exact ⟨v, H', I.call (h' := hh) (g' := g) (d' := d) (t' := t) (ch := []) un hok bare (fun b z => absurd z (by simp)), r, q⟩
end
def tCall (sp : Sp) (dvs : List V) (E : XK) (t : TA) : TE := fun σ H Q => t σ H fun vs H1 => sp (vs ++ dvs) H1 Q E
def Binds (K : PySem.W.Frag) (fd : FuncData) (ps : List Str) (ds : List Value) : Prop :=
  ∀ (s : Shared) (us : List Value), K.In s.heap → (us ++ ds).length = ps.length → BindsTo s fd ⟨us, []⟩ (ps.zip (us ++ ds))
theorem Binds.all {K : PySem.W.Frag} {fd : FuncData} {ps : List Str} (h : ∀ us : List Value, us.length = ps.length → bindArgs fd ⟨us, []⟩ = pure (ps.zip us)) : Binds K fd ps [] := fun s us _ hl => by
  rw [List.append_nil] at hl ⊢
  exact .of_eq (h us hl)
def Passes (CX : CXT) (X : Cx) (E : XK) : Prop := ∀ (pins : List (Addr × Obj)) (σ : St) (H : Hp) (s : Shared) (e : Value) (s' : Shared), Inv X pins σ H s → CX X.stack H s E e s' → X.xe e s'
section
variable {X : Cx} {CX : CXT} {k : Nat} {f C : Addr} {fd : FuncData} {ps : List Str} {sp : Sp} {dvs : List V} {ds : List Value} {E : XK} {x m : Str} {p pos apos : Pos} {e o : Expr} {es : List Expr} {ta : TE} {t : TA}
theorem run_fn {pins : List (Addr × Obj)} {σ : St} {H : Hp} {s : Shared} {Q : VK} {us : List Value} {vs : List V} (F : FnOk X.prog X.w X.K X.mg X.base CX k f fd ps sp) (hr : Room k X.A) (hb : Binds X.K fd ps ds) (hd : Vals dvs ds) (hx : Passes CX X E)
    (I : Inv X pins σ H s) (r : Vals vs us) (h : sp (vs ++ dvs) H Q E) : wpAny (model X.prog X.w) X.A (call (.ref f) us) (EP X pins σ Q) X.xe s := by
  have r2 : Vals (vs ++ dvs) (us ++ ds) := r.append hd
  have hl : (us ++ ds).length = ps.length := by rw [← r2.length]; exact F.len _ _ _ _ h
  refine wpAny_call (codeAny_mono (F.run X.A X.stack s H ⟨us, []⟩ (us ++ ds) (vs ++ dvs) Q E hr I.env0 (hb s us I.kIn hl) r2 h) fun r s' hq => ?_)
  cases r with
  | error e => exact hx pins σ H s e s' I hq
  | ok fl =>
    cases fl with
    | ret u => exact I.after hq
    | next => exact False.elim hq
    | brk => exact False.elim hq
    | cont => exact False.elim hq
theorem pe_call (F : FnOk X.prog X.w X.K X.mg X.base CX k f fd ps sp) (hr : Room k X.A) (hg : Gl X x) (hm : X.mg x = some (.ref f)) (hk : PySem.W.keepIn X.K (.ref f) = true) (hb : Binds X.K fd ps ds) (hd : Vals dvs ds) (hx : Passes CX X E)
    (ha : PA X (e :: es) t) (hdb : (x == ("__debug__" : Str)) = false := by decide) (he : starEach (e :: es) X.env = (false, eval e X.env) :: starEach es X.env := by rfl) (hpl : (backTo pos (starEach es X.env)).any (·.1) = false := by rfl) :
    PE X (.Call (.Name x p) (e :: es) [] pos) (tCall sp dvs E t) := by
  intro pins s σ H Q I h
  refine wpAny_Call_Name_kw (ld_glob I hg hm ?_ hdb)
  refine PySem.W.callWith_K (h₀ := X.base) I.ok.mod.kin hk (thn (ha pos pins s σ H _ I h) fun us s1 ⟨vs, H1, I1, r, q⟩ => ⟨I1.kIn, ?_⟩) he hpl
  exact run_fn F hr hb hd hx I1 r q
end
section
variable {X : Cx} {CX : CXT} {k : Nat} {f C : Addr} {fd : FuncData} {ps ks : List Str} {sp : Sp} {E : XK} {x m : Str} {p pos apos kpos : Pos} {e o : Expr} {es : List Expr} {kws : List Keyword} {te ta : TE} {t tk : TA} {nm : Option Str}
variable {g : List Value → List Value → List Value} {gV : List V → List V → List V}
end
structure FnScope (N P : List Str) (sc : Scope) : Prop where
  kind : sc.kind = .function
  co : sc.isCoroutine = false
  gen : sc.isGenerator = false
  nd : N.Nodup
  pre : N.take P.length = P
  par : ∀ x ∈ P, sc.names.lookup x = some .local ∨ sc.names.lookup x = some .cell
  nofree : ∀ y ∈ sc.names, y.2 ≠ .free
theorem bindL_out {kindOf : Str → Option NameKind} {x : Str} : ∀ {binds : List (Str × Value)} {m : Str → Option Value}, (∀ v, (x, v) ∉ binds) → bindL kindOf binds m x = m x
  | [], _, _ => rfl
  | (n, v) :: r, m, h => by
    unfold bindL
    rw [bindL_out fun w hw => h w (List.mem_cons_of_mem _ hw)]
    split
    · have : x ≠ n := by rintro rfl; exact h v List.mem_cons_self
      simp [this]
    · rfl
theorem bindC_out {kindOf : Str → Option NameKind} {x : Str} : ∀ {binds : List (Str × Value)} {m : Str → Option Value}, (∀ v, (x, v) ∉ binds) → bindC kindOf binds m x = m x
  | [], _, _ => rfl
  | (n, v) :: r, m, h => by
    unfold bindC
    rw [bindC_out fun w hw => h w (List.mem_cons_of_mem _ hw)]
    split
    · rfl
    · have : x ≠ n := by rintro rfl; exact h v List.mem_cons_self
      simp [this]
theorem bindL_get {kindOf : Str → Option NameKind} {x : Str} {v : Value} : ∀ {P : List Str} {vs : List Value} {i : Nat} {m : Str → Option Value}, P.Nodup → P[i]? = some x → vs[i]? = some v → kindOf x = some .local →
    bindL kindOf (P.zip vs) m x = some v
  | [], _, _, _, _, h, _, _ => by simp at h
  | _ :: _, [], _, _, _, _, h, _ => by simp at h
  | p :: P, w :: vs, 0, m, nd, h1, h2, hk => by
    simp at h1 h2; subst h1; subst h2
    show bindL kindOf ((p, w) :: P.zip vs) m p = _
    unfold bindL
    rw [bindL_out fun v hv => (List.nodup_cons.mp nd).1 (List.of_mem_zip hv).1, if_pos hk]
    simp
  | p :: P, w :: vs, i + 1, m, nd, h1, h2, hk => by
    show bindL kindOf ((p, w) :: P.zip vs) m x = _
    unfold bindL
    exact bindL_get (i := i) (List.nodup_cons.mp nd).2 (by simpa using h1) (by simpa using h2) hk
theorem bindC_get {kindOf : Str → Option NameKind} {x : Str} {v : Value} : ∀ {P : List Str} {vs : List Value} {i : Nat} {m : Str → Option Value}, P.Nodup → P[i]? = some x → vs[i]? = some v → kindOf x ≠ some .local →
    bindC kindOf (P.zip vs) m x = some v
  | [], _, _, _, _, h, _, _ => by simp at h
  | _ :: _, [], _, _, _, _, h, _ => by simp at h
  | p :: P, w :: vs, 0, m, nd, h1, h2, hk => by
    simp at h1 h2; subst h1; subst h2
    show bindC kindOf ((p, w) :: P.zip vs) m p = _
    unfold bindC
    rw [bindC_out fun v hv => (List.nodup_cons.mp nd).1 (List.of_mem_zip hv).1, if_neg hk]
    simp
  | p :: P, w :: vs, i + 1, m, nd, h1, h2, hk => by
    show bindC kindOf ((p, w) :: P.zip vs) m x = _
    unfold bindC
    exact bindC_get (i := i) (List.nodup_cons.mp nd).2 (by simpa using h1) (by simpa using h2) hk
def start (N : List Str) (vs : List V) : St := vs.map some ++ List.replicate (N.length - vs.length) none
def cxOf (CX : CXT) (P : Program) (w : World) (K : PySem.W.Frag) (mg : Str → Option Value) (base : Heap) (N : List Str) (qual : Str) (scope : Scope) (f : Addr) (cd : Value) (A : Around) (outer : List Env) (s : Shared) (H : Hp) (E : XK) : Cx where
  prog := P
  w := w
  K := K
  mg := mg
  base := base
  A := A.deeper (envOfC qual scope s.heap.objs.size f cd)
  N := N
  s₀ := s
  H₀ := H
  env := envOfC qual scope s.heap.objs.size f cd
  outer := outer
  stack := envOfC qual scope s.heap.objs.size f cd :: outer
  ex := []
  calm := true
  fn := fun _ => true
  pn := []
  xe := fun e s' => wpAny (model P w) (A.deeper (envOfC qual scope s.heap.objs.size f cd)) (leaving (envOfC qual scope s.heap.objs.size f cd) e) (fun _ s'' => CX outer H s E e s'') (fun e' s'' => CX outer H s E e' s'') s'
theorem cell_has {sc : Scope} {n : Nat} {x : Str} (h : sc.names.lookup x = some .cell) : ∃ c, (cellsFrom n sc.names []).lookup x = some c := by
  have q := PySem.W.cellsFrom_some sc.names n [] (.inl h)
  exact Option.isSome_iff_exists.mp q
theorem inv_start {CX : CXT} {P : Program} {w : World} {K : PySem.W.Frag} {mg : Str → Option Value} {base : Heap} {N ps : List Str} {qual : Str} {scope : Scope} {f : Addr} {cd : Value} {A : Around} {outer : List Env} {s s1 : Shared} {H : Hp} {E : XK} {us : List Value} {vs : List V}
    (S : FnScope N ps scope) (hd : A.handled = none) (e0 : Env0 P w K mg base A outer s H) (hl : vs.length = ps.length) (r : Vals vs us)
    (x : InCallC s s.heap.objs.size (bindL (envOfC qual scope s.heap.objs.size f cd).kindOf (ps.zip us) fun _ => none) (cellsFrom (s.heap.objs.size + 1) scope.names []) (bindC (envOfC qual scope s.heap.objs.size f cd).kindOf (ps.zip us) fun _ => none) s1) :
    Inv (cxOf CX P w K mg base N qual scope f cd A outer s H E) [] (start N vs) H s1 := by
  have hpl : ps.length ≤ N.length := by have := congrArg List.length S.pre; rw [List.length_take] at this; omega
  obtain ⟨h1, tk, rfl, hk⟩ := x.done
  have noA : ∀ b : Addr, b ∉ (cxOf CX P w K mg base N qual scope f cd A outer s H E).ex := fun b z => absurd (show b ∈ ([] : List Addr) from z) (by simp)
  refine ⟨⟨e0.mod, S.kind, rfl, rfl, Nat.le_refl _, fun y z c h1 h2 => ?_, fun y hy => ?_, fun y c _ h => ?_, fun _ => hd, Around.frames_deeper e0.frames, .inr ⟨rfl, rfl⟩, fun b z => absurd z (noA b), e0.bs, e0.bsz, fun b _ _ => noA b, fun b z => absurd z (noA b), e0.funs, e0.frf⟩,
    rfl, e0.bare, Un.kept hk, ⟨_, x.toInCall.ns, fun i y v h1 h2 h3 => ?_⟩, fun y c h => ⟨_, x.cell y c h⟩, e0.hok.fresh (Nat.le_refl _), fun y c h => ?_, fun p hp => absurd (show p ∈ ([] : List (Addr × Obj)) from hp) (by simp), e0.hok.kept hk, ?_⟩
  · exact name_of_addr x.apart (PySem.mem_of_lookup h1) (PySem.mem_of_lookup h2)
  · have hy : scope.names.lookup y = some .cell ∨ scope.names.lookup y = some .free := hy
    rcases hy with hy | hy
    · exact cell_has hy
    · exact absurd rfl (S.nofree _ (PySem.mem_of_lookup hy))
  · exact Nat.le_of_lt (x.above y c (PySem.mem_of_lookup h))
  · have hi : i < vs.length := by
      unfold start at h2
      by_cases hi : i < vs.length
      · exact hi
      · rw [List.getElem?_append_right (by simpa using hi)] at h2
        rw [List.getElem?_replicate] at h2
        split at h2 <;> cases h2
    have ha : vs[i]? = some v := by
      unfold start at h2
      rw [List.getElem?_append_left (by simpa using hi), List.getElem?_map] at h2
      cases e : vs[i]? with
      | none => rw [e] at h2; cases h2
      | some a => rw [e] at h2; cases h2; rfl
    obtain ⟨u, hu, rv⟩ := r.get ha
    have hp : ps[i]? = some y := by
      rw [← S.pre, List.getElem?_take_of_lt (by omega)]; exact h1
    have ndP : ps.Nodup := by rw [← S.pre]; exact S.nd.sublist (List.take_sublist _ _)
    refine ⟨u, rv, ?_⟩
    rcases S.par y (List.mem_of_getElem? hp) with k | k
    · exact .inl ⟨k, bindL_get ndP hp hu k⟩
    · obtain ⟨c, e⟩ := cell_has (n := s.heap.objs.size + 1) k
      refine .inr ⟨.inl k, c, e, ?_⟩
      have q := x.cell y c e
      rw [bindC_get ndP hp hu (by show scope.names.lookup y ≠ _; rw [k]; decide)] at q
      exact q
  · exact e0.hok.fresh (Nat.le_of_lt (x.above y c (PySem.mem_of_lookup h)))
  · unfold start
    show _ = N.length
    rw [List.length_append, List.length_map, List.length_replicate]
    omega
theorem fn_of {CX : CXT} {P : Program} {w : World} {K : PySem.W.Frag} {mg : Str → Option Value} {base : Heap} {k : Nat} {f : Addr} {name qual : Str} {params : Arguments} {body : List Stmt} {scope : Scope} {dV kV doc pm cdv ct oc : Value} {an od : Option Addr}
    {osl : Array (Option Value)} {N ps : List Str} {sp : Sp} (lk : K.lookup f = some ⟨oc, od, .func (PySem.W.fnOf name qual params body scope dV kV doc pm an cdv ct), osl⟩) (hcd : PySem.W.codeIn K cdv qual = true) (S : FnScope N ps scope)
    (len : ∀ vs H Q E, sp vs H Q E → vs.length = ps.length)
    (hbody : ∀ (A : Around) (outer : List Env) (s : Shared) (H : Hp) (vs : List V) (Q : VK) (E : XK), Room k (A.deeper (envOfC qual scope s.heap.objs.size f cdv)) → sp vs H Q E →
      ∃ t, PSs (cxOf CX P w K mg base N qual scope f cdv A outer s H E) body t ∧ t { nx := fun _ H' => Q .non H', rt := Q } (start N vs) H) :
    FnOk P w K mg base CX (k + 1) f (PySem.W.fnOf name qual params body scope dV kV doc pm an cdv ct) ps sp := by
  refine ⟨len, fun A outer s H args us vs Q E hr e0 hb r hsp => ?_⟩
  have hl := len _ _ _ _ hsp
  have KX : K.In s.heap := e0.mod.kin.keeps fun b o e => (e0.bs b o e).1
  have lim : s.heap.NoLimit := e0.mod.nolimit.keeps fun b o e => (e0.bs b o e).1
  have hkind : ∀ y ∈ ps.zip us, scope.names.lookup y.1 = some .local ∨ (scope.names.lookup y.1 = some .cell ∧ ((cellsFrom (s.heap.objs.size + 1) scope.names []).lookup y.1).isSome = true) := fun ⟨n, v⟩ hy => by
    rcases S.par n (List.of_mem_zip hy).1 with q | q
    · exact .inl q
    · exact .inr ⟨q, PySem.W.cellsFrom_some _ _ _ (.inl q)⟩
  refine codeAny_call_function hr.depth (KX _ _ lk) rfl S.co S.gen rfl (PySem.W.codeRec_of KX hcd) (hb _ _ _ _ ?_)
  refine wpAny_newFunctionEnv_cells S.kind hkind fun env he s1 x => ?_
  subst he
  refine ⟨lim.keeps x.toInCall.keep, codeAny_func ?_⟩
  obtain ⟨t, ht, hq⟩ := hbody A outer s H vs Q E (hr.deeper _) hsp
  have I : Inv (cxOf CX P w K mg base N qual scope f cdv A outer s H E) [] (start N vs) H s1 := inv_start S hr.hd e0 hl r x
  refine wpAny_mono (ht [] s1 (start N vs) H _ I hq) (fun fl s' hs => ?_) fun e s' hs => hs
  have fin : ∀ {σ' : St} {H' : Hp} {v : V} {u : Value}, Inv (cxOf CX P w K mg base N qual scope f cdv A outer s H E) [] σ' H' s' → RelV v u → Q v H' → CE outer P w H s Q u s' :=
    fun {σ' H' v u} J rv q => ⟨v, H', J.os, J.bare, J.base, J.hok, rv, q⟩
  cases fl with
  | ret u =>
    obtain ⟨v, σ', H', J, rv, q⟩ := hs
    exact fin J rv q
  | next =>
    obtain ⟨σ', H', J, q⟩ := hs
    exact fin (v := V.non) (u := Value.none) J rfl q
  | brk =>
    obtain ⟨_, _, _, q⟩ := hs
    exact False.elim q
  | cont =>
    obtain ⟨_, _, _, q⟩ := hs
    exact False.elim q
end L2
namespace L2
open PySem PySem.Spec PyProof.Rows
section
variable {X : Cx} {x : Str} {p pos : Pos} {e : Expr} {es : List Expr} {t : TA} {id T : String} {r : List V → Hp → VK → Prop}
def tCB (r : List V → Hp → VK → Prop) (t : TA) : TE := fun σ H Q => t σ H fun vs H1 => r vs H1 Q
theorem pe_callB (hc : CallR X (.builtin id) r) (hg : Gl X x) (hm : X.mg x = none) (hv : bootBuiltins x = some (.builtin id)) (ha : PA X (e :: es) t) (hn : x ≠ "__name__" := by decide) (hdb : (x == ("__debug__" : Str)) = false := by decide)
    (he : starEach (e :: es) X.env = (false, eval e X.env) :: starEach es X.env := by rfl) (hpl : (backTo pos (starEach es X.env)).any (·.1) = false := by rfl) : PE X (.Call (.Name x p) (e :: es) [] pos) (tCB r t) := by
  intro pins s σ H Q I h
  refine wpAny_Call_Name_kw (ld_blt I hg hm hv ?_ hn hdb)
  exact PyProof.Rows.callWith_builtin1 (thn (ha pos pins s σ H _ I h) fun us s1 ⟨vs, H1, I1, r1, q1⟩ => hc pins s1 σ H1 vs us Q I1 r1 q1) he hpl
theorem pe_callTy (hc : CallR X (.type T) r) (hg : Gl X x) (hm : X.mg x = none) (hv : bootBuiltins x = some (.type T)) (ha : PA X (e :: es) t) (hn : x ≠ "__name__" := by decide) (hdb : (x == ("__debug__" : Str)) = false := by decide)
    (he : starEach (e :: es) X.env = (false, eval e X.env) :: starEach es X.env := by rfl) (hpl : (backTo pos (starEach es X.env)).any (·.1) = false := by rfl) : PE X (.Call (.Name x p) (e :: es) [] pos) (tCB r t) := by
  intro pins s σ H Q I h
  refine wpAny_Call_Name_kw (ld_blt I hg hm hv ?_ hn hdb)
  exact PyProof.Rows.callWith_type1 (thn (ha pos pins s σ H _ I h) fun us s1 ⟨vs, H1, I1, r1, q1⟩ => hc pins s1 σ H1 vs us Q I1 r1 q1) he hpl
end
end L2
namespace HT
open PySem PyProof.Rows
section
open PySem.SeqAt
open PySem.AutoSeq1 (wpAny_loadPart')
open PySem.MeetsSeq PySem.MeetsSeq2 PySem.MeetsSeq3
end
section
variable {prog : Program} {w : World} {A : Around} {E : Value → Shared → Prop} {s : Shared}
theorem cat_tup {t b : Addr} {vs ws : List Value} {Q : Value → Shared → Prop} (ht : IsTup s.heap t vs.toArray) (hb : IsTup s.heap b ws.toArray) (hv : vs ≠ [])
    (h1 : ws = [] → Q (.ref t) s) (h2 : ws ≠ [] → Q (.ref s.heap.objs.size) { s with heap := s.heap.push { cls := .type "tuple", data := .seq (vs ++ ws).toArray } })
    (hsz : vs.length + ws.length ≤ sizeLine) : wpAny (model prog w) A (binaryOp .Add (.ref t) (.ref b)) Q E s := by
  obtain ⟨⟨cls, dd, data, sl⟩, ho, hc, n, hd⟩ := id ht
  obtain ⟨⟨cls2, dd2, data2, sl2⟩, ho2, hc2, n2, hd2⟩ := id hb
  simp only at hc hd hc2 hd2
  subst hc hd hc2 hd2
  have e : vs.toArray ++ ws.toArray = (vs ++ ws).toArray := by simp
  by_cases hw : ws = []
  · exact concat_meets ⟨_, ho, rfl⟩ ⟨_, ho2, rfl⟩ noFill_tuple_add seq_tuple_add PySem.F.slot_tuple_add PySem.F.entry_tuple_add (PySem.F.args_tuple_add_2 _ _)
      (tuple_addW1 t b vs.toArray ws.toArray n n2 dd dd2 sl sl2 (by simpa using hv) (by simp [hw])) ⟨ho, ho2, h1 hw⟩
  · refine concat_meets ⟨_, ho, rfl⟩ ⟨_, ho2, rfl⟩ noFill_tuple_add seq_tuple_add PySem.F.slot_tuple_add PySem.F.entry_tuple_add (PySem.F.args_tuple_add_2 _ _)
      (tuple_addW2 t b vs.toArray ws.toArray n n2 dd dd2 sl sl2 (by simpa using hv) (by simpa using hw) (by rw [List.size_toArray, List.size_toArray]; exact hsz)) ⟨ho, ho2, ?_⟩
    rw [e]
    exact h2 hw
def sIx (n d : Nat) : Option Int → Nat
  | none => d
  | some v => if v < 0 then (v + (n : Int)).toNat else min v.toNat n
theorem sIx_none (n d : Nat) : sIx n d none = d := rfl
theorem sIx_nat (n d k : Nat) : sIx n d (some (k : Int)) = min k n := by
  show (if (k : Int) < 0 then ((k : Int) + (n : Int)).toNat else min (k : Int).toNat n) = min k n
  rw [if_neg (by omega), Int.toNat_natCast]
theorem sIx_le (n d : Nat) (hd : d ≤ n) (o : Option Int) : sIx n d o ≤ n := by
  cases o with
  | none => exact hd
  | some v =>
    show (if v < 0 then (v + (n : Int)).toNat else min v.toNat n) ≤ n
    by_cases hv : v < 0
    · rw [if_pos hv]; omega
    · rw [if_neg hv]; exact Nat.min_le_right _ _
theorem clip_eq (v : Int) (n d : Nat) : (if v < 0 then max (v + (n : Int)) 0 else min v (n : Int)) = ((sIx n d (some v) : Nat) : Int) := by
  show (if v < 0 then max (v + (n : Int)) 0 else min v (n : Int)) = (((if v < 0 then (v + (n : Int)).toNat else min v.toNat n) : Nat) : Int)
  by_cases hv : v < 0
  · simp only [if_pos hv]; omega
  · simp only [if_neg hv]; omega
theorem adjust_gen (lo hi : Option Int) (n : Nat) : Builtin.Slice.sliceAdjust lo hi 1 (n : Int) = (((sIx n 0 lo : Nat) : Int), ((sIx n n hi : Nat) : Int)) := by
  have h1 : ¬ ((1 : Int) < 0) := by omega
  unfold Builtin.Slice.sliceAdjust
  simp only [h1, if_false]
  refine Prod.ext ?_ ?_
  · cases lo with
    | none => rfl
    | some v => exact clip_eq v n 0
  · cases hi with
    | none => rfl
    | some v => exact clip_eq v n n
theorem places_gen (i j : Nat) : Builtin.Slice.slicePlaces (i : Int) (j : Int) 1 = j - i := by
  unfold Builtin.Slice.slicePlaces
  have h1 : (1 : Int) > 0 := by omega
  simp only [h1, if_true, Int.ediv_one]
  split <;> omega
theorem slicePart_ {v : Value} {o : Option Int} {Q : Option Int → Shared → Prop} (p : IsPart v o) (h : Q o s) : wpAny (model prog w) A (Builtin.Slice.slicePartIndex v) Q E s := by
  cases p with
  | none => exact slicePart_none h
  | int i t => exact slicePart_int h
theorem sliceApplied_gen {sl : Addr} {vl vu : Value} {lo hi : Option Int} {n : Nat} {Q : Int × Int × Nat → Shared → Prop} (hs : s.heap.IsSliceOf sl vl vu .none) (pl : IsPart vl lo) (pu : IsPart vu hi)
    (h : Q (((sIx n 0 lo : Nat) : Int), 1, sIx n n hi - sIx n 0 lo) s) : wpAny (model prog w) A (Builtin.Slice.sliceApplied (.ref sl) (pure (n : Int))) Q E s := by
  obtain ⟨os, hos, hcs, hds⟩ := id hs
  unfold Builtin.Slice.sliceApplied Builtin.Slice.sliceFields
  refine wpAny_bind (wpAny_bind (wpAny_field hos hds (x := vl) rfl (wpAny_bind (wpAny_field hos hds (x := vu) rfl (wpAny_bind (wpAny_field hos hds (x := .none) rfl (wpAny_pure ?_)))))))
  refine wpAny_bind (slicePart_none ?_)
  show wpAny _ _ (if ((1 : Int) == 0) = true then _ else _) _ _ s
  rw [if_neg (by decide)]
  refine wpAny_bind (slicePart_ pl (wpAny_bind (slicePart_ pu (wpAny_bind (wpAny_pure ?_)))))
  show wpAny _ _ (match Builtin.Slice.sliceAdjust lo hi 1 (n : Int) with | (lo, hi) => pure (lo, (1 : Int), Builtin.Slice.slicePlaces lo hi 1)) _ _ s
  rw [adjust_gen lo hi n]
  show wpAny _ _ (pure (((sIx n 0 lo : Nat) : Int), (1 : Int), Builtin.Slice.slicePlaces ((sIx n 0 lo : Nat) : Int) ((sIx n n hi : Nat) : Int) 1)) _ _ s
  rw [places_gen]
  exact wpAny_pure h
theorem pick_gen (xs : Array Value) (i k : Nat) : ((List.range k).filterMap fun (m : Nat) => xs[((i : Int) + (m : Int) * 1).toNat]?).toArray = ((xs.toList.drop i).take k).toArray := by
  have e : (fun (m : Nat) => xs[((i : Int) + (m : Int) * 1).toNat]?) = fun m => xs[i + m]? := by
    funext m
    have : ((i : Int) + (m : Int) * 1).toNat = i + m := by omega
    rw [this]
  rw [e]
  have := pick_run xs i k
  rw [List.filterMap_map] at this
  have e2 : ((fun x => xs[x]?) ∘ fun x => i + x) = fun m => xs[i + m]? := rfl
  rw [e2] at this
  rw [this]
theorem getItem_tuple_cut {t sl : Addr} {items : Array Value} {vl vu : Value} {lo hi : Option Int} {Q : Value → Shared → Prop} (ht : IsTup s.heap t items) (hs : s.heap.IsSliceOf sl vl vu .none) (pl : IsPart vl lo) (pu : IsPart vu hi)
    (hw : ¬ (sIx items.size 0 lo = 0 ∧ sIx items.size items.size hi = items.size))
    (h : Q (.ref s.heap.objs.size) { s with heap := s.heap.push { cls := .type "tuple", data := .seq ((items.toList.drop (sIx items.size 0 lo)).take (sIx items.size items.size hi - sIx items.size 0 lo)).toArray } })
    (hsz : items.size ≤ sizeLine) : wpAny (model prog w) A (getItem (.ref t) (.ref sl)) Q E s := by
  have htake : sizeOk (.seq ((items.toList.drop (sIx items.size 0 lo)).take (sIx items.size items.size hi - sIx items.size 0 lo)).toArray) := by
    show ((items.toList.drop (sIx items.size 0 lo)).take (sIx items.size items.size hi - sIx items.size 0 lo)).toArray.size ≤ sizeLine
    rw [List.size_toArray, List.length_take, List.length_drop, Array.length_toList]
    omega
  have hj : sIx items.size items.size hi ≤ items.size := sIx_le _ _ (Nat.le_refl _) hi
  obtain ⟨os, hos, hcs, hds⟩ := id hs
  have hTs : s.TypeIs (.ref sl) "slice" := ⟨os, hos, hcs⟩
  unfold getItem
  try with_reducible refine wpAny_holding ?_
  first | refine wpAny_bind (wpAny_pure ?_) | skip
  refine wpAny_bind (wpAny_sequenceKey ht.typeIs (by decide) ?_)
  refine wpAny_bind (wpAny_callSpecial?_slot (name := Str.ofString "__getitem__") ht.typeIs PyProof.Rows.slot_tuple_getitem
    (wpAny_call_entry PyProof.Rows.slot_tuple_getitem ht.typeIs entry_tuple_getitem ?_ (args_tuple_getitem _ _)))
  show wpAny _ _ (Builtin.Tuple.tupleItemsOf (.ref t) >>= _) _ _ s
  refine wpAny_bind (tupleItemsOf_ ht ?_)
  refine wpAny_bind (wpAny_typeOf hTs ?_)
  rw [if_pos (by decide)]
  refine wpAny_bind (sliceApplied_gen hs pl pu ?_)
  have hno : ¬ ((((sIx items.size 0 lo : Nat) : Int) == 0 && (1 : Int) == 1 && (sIx items.size items.size hi - sIx items.size 0 lo) == items.size) = true) := by
    intro q
    rw [Bool.and_eq_true, Bool.and_eq_true] at q
    have q1 : ((sIx items.size 0 lo : Nat) : Int) = 0 := eq_of_beq q.1.1
    have q2 : sIx items.size items.size hi - sIx items.size 0 lo = items.size := eq_of_beq q.2
    exact hw ⟨by omega, by omega⟩
  show wpAny _ _ (if (((sIx items.size 0 lo : Nat) : Int) == 0 && (1 : Int) == 1 && (sIx items.size items.size hi - sIx items.size 0 lo) == items.size) = true then _ else _) _ _ s
  rw [if_neg hno, pick_gen]
  first
    | exact wpAny_bind (m := Builtin.Tuple.tupleExact _) (wpAny_newObj_type (wpAny_pure ⟨_, rfl, wpAny_pure h⟩) htake)
    | exact wpAny_bind (m := Builtin.Tuple.tupleExact _) (wpAny_newObj_type (wpAny_bind (wpAny_pure (wpAny_pure ⟨_, rfl, wpAny_pure h⟩))) htake)
    | exact wpAny_bind (wpAny_bind (m := Builtin.Tuple.tupleExact _) (wpAny_newObj_type (wpAny_pure (wpAny_pure ⟨_, rfl, wpAny_pure h⟩)) htake))
    | exact wpAny_bind (wpAny_bind (m := Builtin.Tuple.tupleExact _) (wpAny_newObj_type (wpAny_pure ⟨_, rfl, wpAny_pure h⟩) htake))
end
end HT
namespace L2
open PySem PySem.Spec PyProof.Rows
abbrev TO := St → Hp → (Option Int → Hp → Prop) → Prop
def PO (X : Cx) (e : Option Expr) (t : TO) : Prop :=
  ∀ (pins : List (Addr × Obj)) (s : Shared) (σ : St) (H : Hp) (Q : Option Int → Hp → Prop), Inv X pins σ H s → t σ H Q →
    wpAny (model X.prog X.w) X.A (evalPart e X.env) (fun u s' => ∃ o H', Inv X pins σ H' s' ∧ IsPart u o ∧ Q o H') X.xe s
def tNoPart : TO := fun _ H Q => Q none H
def tPart (t : TE) : TO := fun σ H Q => t σ H fun x H1 => ∃ i, x = .int i ∧ Q (some i) H1
theorem intsAre_of {ns : List Int} : ∀ {us : List Value}, Vals (ns.map V.int) us → IntsAre us ns := by
  induction ns with
  | nil => intro us r; rw [List.map_nil] at r; cases r; exact .nil
  | cons n ns ih =>
    intro us r
    rw [List.map_cons] at r
    cases r with
    | cons r1 r2 =>
      obtain ⟨t, e⟩ := r1
      subst e
      exact .cons n t (ih r2)
section
variable {X : Cx} {e : Expr} {te : TE} {lo hi : Option Expr} {tl th : TO} {pos p2 : Pos}
theorem po_none : PO X none tNoPart := by
  intro pins s σ H Q I h
  rw [evalPart_none]
  exact wpAny_pure ⟨none, H, I, .none, h⟩
theorem po_some (h : PE X e te) : PO X (some e) (tPart te) := by
  intro pins s σ H Q I hw
  rw [evalPart_some]
  refine thn (h pins s σ H _ I hw) fun u s1 ⟨x, H1, I1, r1, q1⟩ => ?_
  obtain ⟨i, rfl, q⟩ := q1
  obtain ⟨t, rfl⟩ := r1
  exact ⟨some i, H1, I1, .int i t, q⟩
def SlR (X : Cx) (r : V → Option Int → Option Int → Hp → VK → Prop) : Prop :=
  ∀ (pins : List (Addr × Obj)) (s : Shared) (σ : St) (H : Hp) (x : V) (v vl vu : Value) (lo hi : Option Int) (sl : Addr) (Q : VK), Inv X pins σ H s → RelV x v → s.heap.IsSliceOf sl vl vu .none → IsPart vl lo → IsPart vu hi → r x lo hi H Q →
    ∃ T id, typeLookup (.type T) "__getitem__" = pure (some (.builtin id)) ∧ s.TypeIs v T ∧ wpAny (model X.prog X.w) X.A (getItem v (.ref sl)) (EP X pins σ Q) X.xe s
def tSl (r : V → Option Int → Option Int → Hp → VK → Prop) (te : TE) (tl th : TO) : TE := fun σ H Q => te σ H fun x H1 => tl σ H1 fun l H2 => th σ H2 fun u H3 => r x l u H3 Q
theorem pe_slice {r : V → Option Int → Option Int → Hp → VK → Prop} (hr : SlR X r) (he : PE X e te) (hl : PO X lo tl) (hu : PO X hi th) : PE X (.Subscript e (.Slice lo hi none p2) pos) (tSl r te tl th) := by
  intro pins s σ H Q I h
  refine Subscript_ (thn (he pins s σ H _ I h) fun v s1 ⟨x, H1, I1, r1, q1⟩ => ?_)
  refine wpAny_Slice (thn (hl pins s1 σ H1 _ I1 q1) fun vl s2 ⟨l, H2, I2, pl, q2⟩ => thn (hu pins s2 σ H2 _ I2 q2) fun vu s3 ⟨u, H3, I3, pu, q3⟩ => ?_)
  rw [evalPart_none]
  refine wpAny_pure ?_
  have I4 : Inv X pins σ H3 { s3 with heap := s3.heap.push { cls := .type "slice", data := .fields #[vl, vu, .none] } } := I3.kept (t' := s3.toks) fun b ob q => Heap.get?_push_of_some _ q
  obtain ⟨T, id, hT, ht, hg⟩ := hr pins { s3 with heap := s3.heap.push { cls := .type "slice", data := .fields #[vl, vu, .none] } } σ H3 x v vl vu l u s3.heap.objs.size Q I4 r1 (Heap.IsSliceOf.new ..) pl pu q3
  show wpAny (model X.prog X.w) X.A (subscriptTail e (.Slice lo hi none p2) v (.ref s3.heap.objs.size)) (EP X pins σ Q) X.xe { s3 with heap := s3.heap.push { cls := .type "slice", data := .fields #[vl, vu, .none] } }
  exact tail_any (ops := [.ref s3.heap.objs.size, v]) ht hT hg (by with_unfolding_all rfl)
def cutV (xs : List V) (lo hi : Option Int) : List V := (xs.drop (HT.sIx xs.length 0 lo)).take (HT.sIx xs.length xs.length hi - HT.sIx xs.length 0 lo)
theorem cutV_length (xs : List V) (lo hi : Option Int) : (cutV xs lo hi).length ≤ xs.length := by
  unfold cutV
  rw [List.length_take, List.length_drop]
  omega
def rSlT (K : PySem.W.Frag) : V → Option Int → Option Int → Hp → VK → Prop := fun x lo hi H Q => ∃ a xs, x = .ref a ∧ SqT K H a xs ∧
  ¬ (HT.sIx xs.length 0 lo = 0 ∧ HT.sIx xs.length xs.length hi = xs.length) ∧ ∀ p, H p = none → Q (.ref p) (upd H p (.tup (cutV xs lo hi)))
theorem sl_tup : SlR X (rSlT X.K) := by
  intro pins s σ H x v vl vu lo hi sl Q I rx hs pl pu h
  obtain ⟨a, xs, rfl, hx, hw, q⟩ := h
  cases rx
  obtain ⟨its, r, ht, hz⟩ := I.tuple hx
  have hlen : its.toArray.size = xs.length := by rw [List.size_toArray]; exact r.length.symm
  refine ⟨"tuple", _, PyProof.Rows.slot_tuple_getitem.lookup, ht.typeIs, ?_⟩
  refine HT.getItem_tuple_cut ht hs pl pu (by rw [hlen]; exact hw) ?_ (by rw [hlen]; exact hz)
  rw [hlen]
  refine ⟨.ref s.heap.objs.size, _, I.laid (t' := s.toks) (o := .tup (cutV xs lo hi)) (fun b ob q => Heap.get?_push_of_some _ q) (Nat.le_refl _) ?_, rfl, q _ (I.hok.fresh (Nat.le_refl _))⟩
  exact ⟨Nat.le_trans (cutV_length xs lo hi) hz, _, (r.drop (HT.sIx xs.length 0 lo)).take (HT.sIx xs.length xs.length hi - HT.sIx xs.length 0 lo), IsTup.new _ _⟩
def rCatT (K : PySem.W.Frag) : R2 := fun x y H Q => ∃ a b xs ys, x = .ref a ∧ y = .ref b ∧ SqT K H a xs ∧ SqT K H b ys ∧ xs ≠ [] ∧ xs.length + ys.length ≤ sizeLine ∧
  (ys = [] → Q (.ref a) H) ∧ (ys ≠ [] → ∀ p, H p = none → Q (.ref p) (upd H p (.tup (xs ++ ys))))
theorem Vals.nil_iff {xs : List V} {us : List Value} (r : Vals xs us) : us = [] ↔ xs = [] := by
  cases r with
  | nil => simp
  | cons _ _ => simp
theorem op_catT : OpR X (binaryOp .Add) (rCatT X.K) := by
  intro pins s σ H x y v u Q I rx ry h
  obtain ⟨a, b, xs, ys, rfl, rfl, ha, hb, hx, hz, q1, q2⟩ := h
  cases rx
  cases ry
  obtain ⟨its, r1, p1, _⟩ := I.tuple ha
  obtain ⟨its2, r2, p2, _⟩ := I.tuple hb
  refine HT.cat_tup p1 p2 (fun z => hx (r1.nil_iff.mp z)) (fun z => ⟨.ref a, H, I, rfl, q1 (r2.nil_iff.mp z)⟩) (fun z => ?_) (by rw [← r1.length, ← r2.length]; exact hz)
  refine ⟨.ref s.heap.objs.size, _, I.laid (t' := s.toks) (o := .tup (xs ++ ys)) (fun b ob q => Heap.get?_push_of_some _ q) (Nat.le_refl _) ?_, rfl, q2 (fun w => z (r2.nil_iff.mpr w)) _ (I.hok.fresh (Nat.le_refl _))⟩
  exact ⟨by rw [List.length_append]; exact hz, _, r1.append r2, IsTup.new _ _⟩
end
end L2
namespace L2
open PySem PySem.Spec PyProof.Rows
def ixN (n : Nat) (i : Int) : Option Nat := if 0 ≤ i then (if i < n then some i.toNat else none) else if -(n : Int) ≤ i then some (i + n).toNat else none
def atI {α : Type} (xs : List α) (i : Int) : Option α := (ixN xs.length i).bind fun j => xs[j]?
theorem ixN_seq {n : Nat} {i : Int} {j : Nat} (h : ixN n i = some j) : seqIndex? i n = some j ∧ j < n ∧ -(n : Int) ≤ i ∧ i < n := by
  unfold ixN at h
  by_cases h0 : 0 ≤ i
  · rw [if_pos h0] at h
    by_cases h1 : i < n
    · rw [if_pos h1] at h
      have e : i.toNat = j := Option.some.inj h
      exact ⟨by rw [seqIndex_of h0 h1, e], by omega, by omega, h1⟩
    · rw [if_neg h1] at h; cases h
  · rw [if_neg h0] at h
    by_cases h1 : -(n : Int) ≤ i
    · rw [if_pos h1] at h
      have e : (i + n).toNat = j := Option.some.inj h
      exact ⟨by rw [seqIndex_neg (by omega) h1, e], by omega, h1, by omega⟩
    · rw [if_neg h1] at h; cases h
theorem atI_get {α : Type} {xs : List α} {i : Int} {v : α} (h : atI xs i = some v) : ∃ j, seqIndex? i xs.length = some j ∧ xs[j]? = some v ∧ j < xs.length ∧ -(xs.length : Int) ≤ i ∧ i < xs.length := by
  unfold atI at h
  cases e : ixN xs.length i with
  | none => rw [e] at h; cases h
  | some j =>
    rw [e] at h
    obtain ⟨h1, h2, h3, h4⟩ := ixN_seq e
    exact ⟨j, h1, h, h2, h3, h4⟩
theorem atI_nat {α : Type} {xs : List α} {j : Nat} {v : α} (h : xs[j]? = some v) : atI xs (j : Int) = some v := by
  have hj : j < xs.length := (List.getElem?_eq_some_iff.mp h).1
  have e : ixN xs.length (j : Int) = some j := by
    unfold ixN
    rw [if_pos (by omega), if_pos (by omega)]; simp
  unfold atI; rw [e]; exact h
theorem atI_last {α : Type} (xs : List α) (v : α) : atI (xs ++ [v]) (-1) = some v := by
  have hl : (xs ++ [v]).length = xs.length + 1 := by simp
  have e : ixN (xs ++ [v]).length (-1) = some xs.length := by
    unfold ixN
    rw [hl, if_neg (by decide), if_pos (by omega)]
    congr 1
    omega
  unfold atI
  rw [e]
  show (xs ++ [v])[xs.length]? = some v
  simp
def PlainIx (b : Expr) : Prop := ∀ o i, subscripted b false o i = operate [o, i] (getItem o i)
def IxR (X : Cx) (r : R2) : Prop :=
  ∀ (value slice : Expr) (pins : List (Addr × Obj)) (s : Shared) (σ : St) (H : Hp) (x y : V) (v u : Value) (Q : VK), Inv X pins σ H s → RelV x v → RelV y u → r x y H Q →
    subscripted slice false v u = operate [v, u] (getItem v u) → wpAny (model X.prog X.w) X.A (subscriptTail value slice v u) (EP X pins σ Q) X.xe s
def MtR (X : Cx) (id : String) (r : V → List V → Hp → VK → Prop) : Prop :=
  ∀ (pins : List (Addr × Obj)) (s : Shared) (σ : St) (H : Hp) (x : V) (xs : List V) (v : Value) (us : List Value) (Q : VK), Inv X pins σ H s → RelV x v → Vals xs us → r x xs H Q →
    wpAny (model X.prog X.w) X.A (call (.builtin id) (v :: us)) (EP X pins σ Q) X.xe s
section
variable {X : Cx} {a b : Expr} {ta tb : TE} {pos : Pos}
theorem pe_ix {r : R2} (hr : IxR X r) (ha : PE X a ta) (hb : PE X b tb) (hs : PlainIx b) : PE X (.Subscript a b pos) (tOp r ta tb) := by
  intro pins s σ H Q I h
  exact Subscript_ (binT ha hb I h fun v u s2 x y H2 I2 rx ry q => hr a b pins s2 σ H2 x y v u Q I2 rx ry q (hs _ _))
def rIxL (K : PySem.W.Frag) : R2 := fun x y H Q => ∃ p xs i v, x = .ref p ∧ y = .int i ∧ SqL K H p xs ∧ atI xs i = some v ∧ Q v H
def rIxT (K : PySem.W.Frag) : R2 := fun x y H Q => ∃ p xs i v, x = .ref p ∧ y = .int i ∧ SqT K H p xs ∧ atI xs i = some v ∧ Q v H
theorem ix_list : IxR X (rIxL X.K) := by
  intro value slice pins s σ H x y v u Q I rx ry h hs
  obtain ⟨p, xs, i, z, rfl, rfl, hq, he, q⟩ := h
  cases rx
  obtain ⟨t, rfl⟩ := ry
  obtain ⟨its, r, pl, hz⟩ := I.list hq
  obtain ⟨j, h1, h2, h3, h4, h5⟩ := atI_get he
  obtain ⟨w, ew, rw'⟩ := r.get h2
  have hl := r.length
  have hn := line63
  have fin : EP X pins σ Q w s := ⟨z, H, I, rw', q⟩
  by_cases h0 : 0 ≤ i
  · have hj : i.toNat = j := by
      rw [seqIndex_of h0 h5] at h1
      exact Option.some.inj h1
    exact item_listR pl.isList h0 (by omega) (by rw [hj]; simpa using ew) fin hs
  · have hj : (i + (its.toArray.size : Int)).toNat = j := by
      rw [seqIndex_neg (by omega) h4] at h1
      rw [List.size_toArray, ← hl]
      exact Option.some.inj h1
    exact subscriptTail_builtinR (x := w) pl.isList.typeIs slot_list_getitem.lookup
      (wpAny_getItem_list_neg (Q := fun r s' => r = w ∧ EP X pins σ Q r s') pl.isList (by omega) (by rw [List.size_toArray] <;> omega) (by omega) (by rw [hj]; simpa using ew) ⟨rfl, fin⟩) hs
theorem ix_tup : IxR X (rIxT X.K) := by
  intro value slice pins s σ H x y v u Q I rx ry h hs
  obtain ⟨p, xs, i, z, rfl, rfl, hq, he, q⟩ := h
  cases rx
  obtain ⟨t, rfl⟩ := ry
  obtain ⟨its, r, pl, hz⟩ := I.tuple hq
  obtain ⟨j, h1, h2, h3, h4, h5⟩ := atI_get he
  obtain ⟨w, ew, rw'⟩ := r.get h2
  have hl := r.length
  have hn := line63
  have fin : EP X pins σ Q w s := ⟨z, H, I, rw', q⟩
  exact subscriptTail_builtinR (x := w) pl.typeIs slot_tuple_getitem.lookup
    (getItem_tuple (j := j) (Q := fun r s' => r = w ∧ EP X pins σ Q r s') pl (by omega) (by omega) (by rw [List.size_toArray, ← hl]; exact h1) (by simpa using ew) ⟨rfl, fin⟩) hs
theorem mapSeq_set (its : List Value) (n j : Nat) (u : Value) : Obj.mapSeq (·.setIfInBounds j u) { cls := .type "list", data := .seq its.toArray n } = { cls := .type "list", data := .seq (its.set j u).toArray n } := by
  simp [Obj.mapSeq]
theorem Inv.lst {pins : List (Addr × Obj)} {σ : St} {H : Hp} {s : Shared} {p : Addr} {xs : List V} (I : Inv X pins σ H s) (h : H p = some (.lst xs)) :
    ∃ (its : List Value) (n : Nat), Vals xs its ∧ s.heap.get? p = some { cls := .type "list", data := .seq its.toArray n } ∧ xs.length ≤ sizeLine := by
  obtain ⟨z, its, n, r, e⟩ := I.hok p _ h
  exact ⟨its, n, r, e, z⟩
theorem Inv.lstUpd {pins : List (Addr × Obj)} {σ : St} {H : Hp} {s : Shared} {p : Addr} {xs ys : List V} {its its' : List Value} {n n' : Nat} {f : Obj → Obj} (I : Inv X pins σ H s) (h : H p = some (.lst xs))
    (ho : s.heap.get? p = some { cls := .type "list", data := .seq its.toArray n }) (hf : f { cls := .type "list", data := .seq its.toArray n } = { cls := .type "list", data := .seq its'.toArray n' }) (r : Vals ys its') (hz : ys.length ≤ sizeLine) (t : Nat) :
    Inv X pins σ (upd H p (.lst ys)) { s with heap := s.heap.update p f, toks := t } := by
  have e : (s.heap.update p f).get? p = some { cls := .type "list", data := .seq its'.toArray n' } := by
    rw [Heap.get?_update_self f ho (by rw [hf] <;> rfl), hf]
  refine I.write (x := p) (e := p) (by rw [h]; trivial) (.inl rfl) (fun b u hb q => (Heap.get?_update_other _ _ (Ne.symm hb)).trans q) ⟨_, e⟩ ?_
  exact ⟨hz, its', n', r, e⟩
def rSetL : V → V → V → Hp → (Hp → Prop) → Prop := fun o i v H Q => ∃ p xs k j, o = .ref p ∧ i = .int k ∧ H p = some (.lst xs) ∧ ixN xs.length k = some j ∧ Q (upd H p (.lst (xs.set j v)))
theorem set_list : PSet X rSetL := by
  intro pins s σ H o i v ov iv u Q I ro ri rv h
  obtain ⟨p, xs, k, j, rfl, rfl, hp, hj, q⟩ := h
  cases ro
  obtain ⟨t, rfl⟩ := ri
  obtain ⟨its, n, r, ho, hz⟩ := I.lst hp
  obtain ⟨h1, h2, h3, h4⟩ := ixN_seq hj
  have hl := r.length
  have hn := line63
  have I' : Inv X pins σ (upd H p (.lst (xs.set j v))) { s with heap := s.heap.update p (Obj.mapSeq (·.setIfInBounds j u)) } :=
    I.lstUpd hp ho (mapSeq_set its n j u) (r.set rv j) (by rw [List.length_set]; exact hz) s.toks
  by_cases h0 : 0 ≤ k
  · have hk : k.toNat = j := by
      rw [seqIndex_of h0 h4] at h1
      exact Option.some.inj h1
    exact PySem.W.ki_setAt ho h0 (by omega) (by rw [List.size_toArray, ← hl]; exact h4) (by rw [hk]; exact ⟨_, I', q⟩)
  · have hk : (k + (its.toArray.size : Int)).toNat = j := by
      rw [seqIndex_neg (by omega) h3] at h1
      rw [List.size_toArray, ← hl]
      exact Option.some.inj h1
    exact PySem.W.ki_setBack ho (by omega) (by rw [List.size_toArray, ← hl]; exact h3) (by omega) (by rw [hk]; exact ⟨_, I', q⟩)
theorem slice_bounds (lo hi : Option Int) (n : Nat) : (sliceBounds lo hi none n).1 = ((HT.sIx n 0 lo : Nat) : Int) ∧ (sliceBounds lo hi none n).2.1 = ((HT.sIx n n hi : Nat) : Int) ∧ (sliceBounds lo hi none n).2.2 = 1 := by
  refine ⟨?_, ?_, rfl⟩
  · cases lo with
    | none => simp [sliceBounds, HT.sIx]
    | some i =>
      simp only [sliceBounds, HT.sIx, Option.getD_none, show (1 : Int) > 0 by decide, if_true]
      by_cases h : i < 0
      · simp only [h, if_true] <;> omega
      · simp only [h, if_false] <;> omega
  · cases hi with
    | none => simp [sliceBounds, HT.sIx]
    | some i =>
      simp only [sliceBounds, HT.sIx, Option.getD_none, show (1 : Int) > 0 by decide, if_true]
      by_cases h : i < 0
      · simp only [h, if_true] <;> omega
      · simp only [h, if_false] <;> omega
theorem slicePick_cut (its : List Value) (lo hi : Option Int) : slicePick its.toArray lo hi none = ((its.drop (HT.sIx its.length 0 lo)).take (HT.sIx its.length its.length hi - HT.sIx its.length 0 lo)).toArray := by
  obtain ⟨h1, h2, h3⟩ := slice_bounds lo hi its.toArray.size
  unfold slicePick
  rw [h1, h2, h3]
  simp only [sliceRange_one, pick_run, List.size_toArray] <;> rfl
def rSlL (K : PySem.W.Frag) : V → Option Int → Option Int → Hp → VK → Prop := fun x lo hi H Q => ∃ a xs, x = .ref a ∧ SqL K H a xs ∧ ∀ p, H p = none → Q (.ref p) (upd H p (.lst (cutV xs lo hi)))
theorem sl_list : SlR X (rSlL X.K) := by
  intro pins s σ H x v vl vu lo hi sl Q I rx hs pl pu h
  obtain ⟨a, xs, rfl, hx, q⟩ := h
  cases rx
  obtain ⟨its, r, ht, hz⟩ := I.list hx
  have hlen := r.length
  refine ⟨"list", _, slot_list_getitem.lookup, ht.isList.typeIs, ?_⟩
  refine wpAny_getItem_list_slice ht.isList hs pl pu .none (by simp) ?_ (by rw [List.size_toArray] <;> omega)
  rw [slicePick_cut, ← hlen]
  refine ⟨.ref s.heap.objs.size, _, I.laid (t' := s.toks) (o := .lst (cutV xs lo hi)) (fun b ob q => Heap.get?_push_of_some _ q) (Nat.le_refl _) ?_, rfl, q _ (I.hok.fresh (Nat.le_refl _))⟩
  exact ⟨Nat.le_trans (cutV_length xs lo hi) hz, _, 0, (r.drop (HT.sIx xs.length 0 lo)).take (HT.sIx xs.length xs.length hi - HT.sIx xs.length 0 lo), Heap.get?_push_size _ rfl⟩
theorem call_len_seq : CallR X (.builtin "len") (fun xs H Q => ∃ p ys, xs = [.ref p] ∧ (SqL X.K H p ys ∨ SqT X.K H p ys) ∧ Q (.int ys.length) H) := by
  intro pins s σ H xs us Q I r h
  obtain ⟨p, ys, rfl, hq, q⟩ := h
  obtain ⟨u, rfl, rx⟩ := vals1 r
  cases rx
  have hn := line63
  rcases hq with hq | hq
  · obtain ⟨its, r', pl, hz⟩ := I.list hq
    have hlen := r'.length
    exact Calls.call_len_list pl.isList (by simp only [List.size_toArray] <;> omega) ⟨.int ys.length, H, I.tok _, ⟨s.toks + 1, by rw [List.size_toArray, hlen]⟩, q⟩
  · obtain ⟨its, r', pl, hz⟩ := I.tuple hq
    have hlen := r'.length
    exact len_tuple pl (by simp only [List.size_toArray] <;> omega) ⟨.int ys.length, H, I.tok _, ⟨s.toks + 1, by rw [List.size_toArray, hlen]⟩, q⟩
theorem call_list_of : CallR X (.type "list") (fun xs H Q => ∃ p ys, xs = [.ref p] ∧ (SqL X.K H p ys ∨ SqT X.K H p ys) ∧ ∀ l, H l = none → Q (.ref l) (upd H l (.lst ys))) := by
  intro pins s σ H xs us Q I r h
  obtain ⟨p, ys, rfl, hq, q⟩ := h
  obtain ⟨u, rfl, rx⟩ := vals1 r
  cases rx
  have fin : ∀ (its : List Value), Vals ys its → ys.length ≤ sizeLine → ∀ (h' : Heap) (c' : Nat), (∀ b o', s.heap.get? b = some o' → h'.get? b = some o') →
      h'.get? s.heap.objs.size = some { cls := .type "list", dict := none, data := .seq its.toArray c', slots := #[] } → EP X pins σ Q (.ref s.heap.objs.size) { s with heap := h' } := fun its r' hz h' c' kp e =>
    ⟨.ref s.heap.objs.size, _, I.laid (t' := s.toks) kp (Nat.le_refl _) (show ObjOk X.prog X.w _ h' _ (.lst ys) from ⟨hz, its, c', r', e⟩), rfl, q _ (I.hok.fresh (Nat.le_refl _))⟩
  rcases hq with hq | hq
  · obtain ⟨its, r', pl, hz⟩ := I.list hq
    have hlen := r'.length
    obtain ⟨o, ho, hc, n, hd⟩ := pl.isList
    exact call_list_seq p (.inl rfl) ho hc hd (fun h' c' kp e => fin its r' hz h' c' kp e) (by simp only [List.size_toArray] <;> omega)
  · obtain ⟨its, r', pl, hz⟩ := I.tuple hq
    have hlen := r'.length
    obtain ⟨o, ho, hc, n, hd⟩ := pl
    exact call_list_seq p (.inr rfl) ho hc hd (fun h' c' kp e => fin its r' hz h' c' kp e) (by simp only [List.size_toArray] <;> omega)
theorem call_tuple_of : CallR X (.type "tuple") (fun xs H Q => ∃ p ys, xs = [.ref p] ∧ ((SqL X.K H p ys ∧ ∀ l, H l = none → Q (.ref l) (upd H l (.tup ys))) ∨ (SqT X.K H p ys ∧ Q (.ref p) H))) := by
  intro pins s σ H xs us Q I r h
  obtain ⟨p, ys, rfl, h⟩ := h
  obtain ⟨u, rfl, rx⟩ := vals1 r
  cases rx
  rcases h with ⟨hq, q⟩ | ⟨hq, q⟩
  · obtain ⟨its, r', pl, hz⟩ := I.list hq
    have hlen := r'.length
    refine call_tuple_list pl.isList (fun h' kp => ?_) (by simp only [List.size_toArray] <;> omega)
    have I1 : Inv X pins σ H { s with heap := h' } := I.kept (t' := s.toks) kp
    have I2 : Inv X pins σ (upd H h'.objs.size (.tup ys)) { s with heap := h'.push { cls := .type "tuple", data := .seq its.toArray } } :=
      I1.laid (t' := s.toks) (fun b o e => Heap.get?_push_of_some _ e) (Nat.le_refl _) (show ObjOk X.prog X.w _ _ _ (.tup ys) from ⟨hz, its, r', IsTup.new _ _⟩)
    exact ⟨.ref h'.objs.size, _, I2, rfl, q _ (I1.hok.fresh (Nat.le_refl _))⟩
  · obtain ⟨its, r', pl, hz⟩ := I.tuple hq
    exact call_tuple_same pl ⟨.ref p, H, I, rfl, q⟩
def tyV (K : PySem.W.Frag) (T : String) (x : V) (H : Hp) : Prop := match x with
  | .str _ => T = "str"
  | .int _ => T = "int"
  | .ref p => (T = "list" ∧ ∃ xs, SqL K H p xs) ∨ (T = "tuple" ∧ ∃ o, K.lookup p = some o ∧ o.cls = .type "tuple" ∧ o.dict = none) ∨
      (T = "dict" ∧ ((∃ kvs, H p = some (.dK kvs)) ∨ ∃ kvs, H p = some (.dT kvs))) ∨ (T = "set" ∧ ∃ S n, H p = some (.set S n))
  | _ => False
theorem tyV_is {pins : List (Addr × Obj)} {σ : St} {H : Hp} {s : Shared} {T : String} {x : V} {v : Value} (I : Inv X pins σ H s) (r : RelV x v) (ty : tyV X.K T x H) :
    s.TypeIs v T ∧ ∀ a, v = .ref a → ∃ ob, s.heap.get? a = some ob ∧ ob.dict = none := by
  cases x with
  | str z =>
    obtain ⟨t, rfl⟩ := r
    cases (show T = "str" from ty)
    exact ⟨typeIs_str s z t, fun _ e => nomatch e⟩
  | int i =>
    obtain ⟨t, rfl⟩ := r
    cases (show T = "int" from ty)
    exact ⟨typeIs_int s i t, fun _ e => nomatch e⟩
  | ref p =>
    cases r
    rcases ty with ⟨rfl, xs, hq⟩ | ⟨rfl, o, hk, hc, hd⟩ | ⟨rfl, hk⟩ | ⟨rfl, S, n, hk⟩
    · obtain ⟨its, _, pl, _⟩ := I.list hq
      refine ⟨pl.isList.typeIs, fun a e => ?_⟩
      cases e
      obtain ⟨o, n, e, c, hd, _⟩ := pl
      exact ⟨o, e, hd⟩
    · refine ⟨⟨o, I.kIn p o hk, hc⟩, fun a e => ?_⟩
      cases e
      exact ⟨o, I.kIn _ o hk, hd⟩
    · have z : ∃ o, s.heap.get? p = some o ∧ o.ExactDict := by
        rcases hk with ⟨kvs, hk⟩ | ⟨kvs, hk⟩
        · obtain ⟨_, _, _, _, o, _, _, e, ex, _⟩ := I.hok p _ hk
          exact ⟨o, e, ex⟩
        · obtain ⟨_, _, _, _, o, _, _, e, ex, _⟩ := I.hok p _ hk
          exact ⟨o, e, ex⟩
      obtain ⟨o, e, ex⟩ := z
      refine ⟨⟨o, e, ex.1⟩, fun a e2 => ?_⟩
      cases e2
      exact ⟨o, e, ex.2.1⟩
    · obtain ⟨o, _, _, _, e, ex, _⟩ := I.hok p _ hk
      refine ⟨⟨o, e, ex.1⟩, fun a e2 => ?_⟩
      cases e2
      exact ⟨o, e, ex.2.1⟩
  | _ => exact False.elim ty
def tBM (K : PySem.W.Frag) (T : String) (r : V → List V → Hp → VK → Prop) (to : TE) (t : TA) : TE := fun σ H Q => to σ H fun x H1 => tyV K T x H1 ∧ t σ H1 fun xs H2 => r x xs H2 Q
variable {o e : Expr} {es : List Expr} {to : TE} {t : TA} {name : Str} {apos cpos : Pos} {T id : String} {r : V → List V → Hp → VK → Prop}
theorem pe_bm (pa : PlainAttrs T) (slot : Slot T name id) (hty : typeOf (.builtin id) = pure (.type "method_descriptor")) (hm : MtR X id r) (ho : PE X o to) (ha : PA X (e :: es) t)
    (hbase : attributeBase o name X.env (eval o X.env) = eval o X.env := by rfl)
    (hfew : ((backTo cpos (starEach (e :: es) X.env)).all (fun x => !x.1) && (backToKw cpos (keywordEach [] X.env)).all (fun x => x.1.isSome)
      && decide ((e :: es).length + ([] : List Keyword).length + (if ([] : List Keyword).isEmpty then 0 else 1) < 30)) = true := by rfl)
    (hline : (apos.endLine == cpos.line) = true := by rfl) (hs : starEach (e :: es) X.env = (false, eval e X.env) :: starEach es X.env := by rfl) (hplain : (backTo cpos (starEach es X.env)).any (·.1) = false := by rfl) :
    PE X (.Call (.Attribute o name apos) (e :: es) [] cpos) (tBM X.K T r to t) := by
  intro pins s σ H Q I h
  refine wpAny_Call_method_late hbase hfew hline rfl (thn (ho pins s σ H _ I h) fun v s1 ⟨x, H1, I1, r1, ty, q1⟩ => ?_)
  obtain ⟨h1, h2⟩ := tyV_is I1 r1 ty
  refine ⟨T, id, pa, slot, hty, h1, h2, ?_⟩
  have hA := ha cpos pins s1 σ H1 _ I1 q1
  rw [hs] at hA ⊢
  refine Calls.callWith_builtin (by show (false || (backTo cpos (starEach es X.env)).any (·.1)) = false; rw [hplain] <;> rfl) (Calls.evalArgs_plain ?_)
  exact thn hA fun us s2 ⟨vs, H2, I2, r2, q2⟩ => hm pins s2 σ H2 x vs v us Q I2 r1 r2 q2
end
end L2
namespace L2
open PySem PySem.Spec PyProof.Rows
def MtM (X : Cx) (id : String) (r : V → List V → Hp → VK → Prop) : Prop :=
  ∀ (pins : List (Addr × Obj)) (s : Shared) (σ : St) (H : Hp) (x : V) (xs : List V) (v : Value) (us : List Value) (Q : VK), Inv X pins σ H s → RelV x v → Vals xs us → r x xs H Q →
    wpAny (model X.prog X.w) X.A (call (.builtin id) (v :: us)) (EP X pins σ Q) X.xe s
theorem Vals.one : ∀ {x : V} {us : List Value}, Vals [x] us → ∃ u, us = [u] ∧ RelV x u
  | _, _, .cons r .nil => ⟨_, rfl, r⟩
theorem Vals.eraseIdx : ∀ {xs : List V} {us : List Value} (i : Nat), Vals xs us → Vals (xs.eraseIdx i) (us.eraseIdx i)
  | _, _, _, .nil => .nil
  | _, _, 0, .cons _ t => t
  | _, _, i + 1, .cons r t => .cons r (Vals.eraseIdx i t)
theorem Vals.rep {xs : List V} {us : List Value} (h : Vals xs us) : ∀ k : Nat, Vals (List.replicate k xs).flatten (List.replicate k us).flatten
  | 0 => .nil
  | k + 1 => by
    rw [List.replicate_succ, List.replicate_succ, List.flatten_cons, List.flatten_cons]
    exact Vals.append h (Vals.rep h k)
theorem len_erase {α : Type} : ∀ (l : List α) (i : Nat), (l.eraseIdx i).length ≤ l.length
  | [], _ => Nat.le_refl _
  | _ :: _, 0 => Nat.le_succ _
  | _ :: r, i + 1 => Nat.succ_le_succ (len_erase r i)
theorem foldl_rep (its : List Value) : ∀ (k : Nat) (acc : List Value),
    List.foldl (fun x1 x2 => x1 ++ x2) acc.toArray (List.replicate k its.toArray) = (acc ++ (List.replicate k its).flatten).toArray
  | 0, acc => by simp
  | k + 1, acc => by
    have e : acc.toArray ++ its.toArray = (acc ++ its).toArray := by simp
    have e2 : (acc ++ its) ++ (List.replicate k its).flatten = acc ++ (List.replicate (k + 1) its).flatten := by
      rw [List.replicate_succ, List.flatten_cons, List.append_assoc]
    rw [← e2, ← foldl_rep its k (acc ++ its), ← e, List.replicate_succ, List.foldl_cons]
section
variable {X : Cx} {pins : List (Addr × Obj)} {σ : St} {H : Hp} {s : Shared} {l b : Addr} {xs ys zs : List V}
theorem Inv.lset {its its' : List Value} {n : Nat} {f : Array Value → Array Value} {t' : Nat} (I : Inv X pins σ H s) (hH : H l = some (.lst xs))
    (e : s.heap.get? l = some { cls := .type "list", data := .seq its.toArray n }) (hf : f its.toArray = its'.toArray) (hv : Vals ys its') (hz : ys.length ≤ sizeLine) :
    Inv X pins σ (upd H l (.lst ys)) { s with heap := s.heap.update l (Obj.mapSeq f), toks := t' } := by
  have q := PySem.IsL.update e f
  rw [hf] at q
  refine I.write (x := l) (e := l) (by rw [hH]; exact trivial) (.inl rfl) (fun b' u hb hu => (Heap.get?_update_other s.heap (Obj.mapSeq f) (Ne.symm hb)).trans hu) ⟨_, q⟩ ?_
  exact ⟨hz, its', _, hv, q⟩
theorem Inv.lnew {its : List Value} {t' : Nat} (I : Inv X pins σ H s) (hv : Vals ys its) (hz : ys.length ≤ sizeLine) :
    Inv X pins σ (upd H s.heap.objs.size (.lst ys)) { s with heap := s.heap.push { cls := .type "list", data := .seq its.toArray }, toks := t' } :=
  I.laid (fun _ _ q => Heap.get?_push_of_some _ q) (Nat.le_refl _) ⟨hz, its, 0, hv, Heap.get?_push_size _ rfl⟩
theorem Inv.fresh (I : Inv X pins σ H s) : H s.heap.objs.size = none := I.hok.fresh (Nat.le_refl _)
theorem Inv.lstM (I : Inv X pins σ H s) (hH : H l = some (.lst xs)) : xs.length ≤ sizeLine ∧ ∃ (its : List Value) (n : Nat), Vals xs its ∧ xs.length = its.length ∧ s.heap.get? l = some { cls := .type "list", data := .seq its.toArray n } := by
  obtain ⟨z, its, n, r, e⟩ := I.hok l _ hH
  exact ⟨z, its, n, r, r.length, e⟩
theorem notLongL {n : Nat} (h : n ≤ sizeLine) : Builtin.List.listTooLong n = false := by
  unfold Builtin.List.listTooLong
  exact decide_eq_false (by omega)
end
section
variable {X : Cx}
def rAppend : V → List V → Hp → VK → Prop := fun x vs H Q => ∃ l xs y, x = .ref l ∧ vs = [y] ∧ H l = some (.lst xs) ∧ xs.length < sizeLine ∧ Q .non (upd H l (.lst (xs ++ [y])))
theorem mt_append : MtM X "list.append" rAppend := by
  intro pins s σ H x vs v us Q I rx rv h
  obtain ⟨l, xs, y, rfl, rfl, hH, hz, q⟩ := h
  cases rx
  obtain ⟨u, rfl, ru⟩ := rv.one
  obtain ⟨z, its, n, r, hl, e⟩ := I.lstM hH
  refine call_meets F.slot_list_append ⟨_, e, rfl⟩ F.entry_list_append (F.args_list_append_2 _ _) (PySem.list_append l its.toArray n u (by rw [List.size_toArray]; omega)) ⟨e, ?_⟩
  refine ⟨.non, _, I.lset (its' := its ++ [u]) hH e (by simp) (r.append (.cons ru .nil)) ?_, rfl, q⟩
  rw [List.length_append, List.length_singleton]
  omega
def rPopAt : V → List V → Hp → VK → Prop := fun x vs H Q => ∃ l xs i k y, x = .ref l ∧ vs = [.int i] ∧ H l = some (.lst xs) ∧ -(2 ^ 63) ≤ i ∧ i < 2 ^ 63 ∧ seqIndex? i xs.length = some k ∧ xs[k]? = some y ∧ Q y (upd H l (.lst (xs.eraseIdx k)))
theorem mt_popAt : MtM X "list.pop" rPopAt := by
  intro pins s σ H x vs v us Q I rx rv h
  obtain ⟨l, xs, i, k, y, rfl, rfl, hH, h1, h2, hk, hy, q⟩ := h
  cases rx
  obtain ⟨u, rfl, ru⟩ := rv.one
  obtain ⟨t, rfl⟩ := ru
  obtain ⟨z, its, n, r, hl, e⟩ := I.lstM hH
  obtain ⟨w, hw, rw'⟩ := r.get hy
  refine call_meets F.slot_list_pop ⟨_, e, rfl⟩ F.entry_list_pop (F.args_list_pop_2 _ _)
    (MeetsSeq.list_pop_at l its.toArray n i t k w (fitsIndex_both h1 h2) (by rw [List.size_toArray, ← hl]; exact hk) (by rw [← Array.getElem?_toList]; exact hw) (by rw [List.size_toArray]; omega)) ⟨e, ?_⟩
  refine ⟨y, _, I.lset (its' := its.eraseIdx k) hH e ?_ (r.eraseIdx k) ?_, rw', q⟩
  · show its.toArray.eraseIdxIfInBounds k = (its.eraseIdx k).toArray
    rw [List.eraseIdxIfInBounds_toArray]
  · have := len_erase xs k
    omega
def rRep : R2 := fun x y H Q => ∃ l k xs, x = .ref l ∧ y = .int k ∧ H l = some (.lst xs) ∧ -(2 ^ 63) ≤ k ∧ k < 2 ^ 63 ∧ xs.length * k.toNat ≤ sizeLine ∧
  ∀ p, H p = none → Q (.ref p) (upd H p (.lst (List.replicate k.toNat xs).flatten))
theorem len_rep {α : Type} (xs : List α) (k : Nat) : (List.replicate k xs).flatten.length = k * xs.length := by
  induction k with
  | zero => simp
  | succ k ih => rw [List.replicate_succ, List.flatten_cons, List.length_append, ih, Nat.succ_mul, Nat.add_comm]
theorem op_rep : OpR X (binaryOp .Mult) rRep := by
  intro pins s σ H x y v u Q I rx ry h
  obtain ⟨l, k, xs, rfl, rfl, hH, h1, h2, hz, q⟩ := h
  cases rx
  obtain ⟨t, rfl⟩ := ry
  obtain ⟨z, its, n, r, hl, e⟩ := I.lstM hH
  have hlen : its.toArray.size * k.toNat ≤ sizeLine := by rw [List.size_toArray, ← hl]; exact hz
  have hcap : ¬ its.toArray.size * k.toNat > (2 ^ 63 - 1) / 8 := by
    have : (sizeLine : Nat) ≤ (2 ^ 63 - 1) / 8 := by decide
    omega
  have hfit : ¬ (!Builtin.List.listFitsIndex k) = true := by
    rw [fitsIndex_both h1 h2]
    exact Bool.false_ne_true
  have hlong : ¬ Builtin.List.listTooLong (its.toArray.size * k.toNat) = true := by
    rw [notLongL hlen]
    exact Bool.false_ne_true
  have hnew : List.foldl (fun x1 x2 => x1 ++ x2) #[] (List.replicate (if its.toArray.isEmpty = true then 0 else k.toNat) its.toArray) = (List.replicate k.toNat its).flatten.toArray := by
    have f0 : ∀ m : Nat, List.foldl (fun x1 x2 => x1 ++ x2) #[] (List.replicate m its.toArray) = (List.replicate m its).flatten.toArray := fun m => by
      have := foldl_rep its m []
      rw [List.nil_append] at this
      exact this
    rw [f0]
    cases its with
    | nil => simp
    | cons a r' => rw [if_neg (by simp)]
  refine wpAny_binaryOp_repeat_ref (T := "list") (U := "int") (by decide) ⟨_, e, rfl⟩ (fun s' => typeIs_int s' k t) noFill_list_mul F.fills_int_mul F.slot_int_rmul repeat_list F.slot_int_index.lookup
    (call_meets F.slot_int_rmul (typeIs_int s k t) F.entry_int_rmul (F.args_int_rmul_2 _ _) (int___rmul___int_list k t l its.toArray n)
      ⟨e, rfl, ⟨_, e, rfl⟩, call_meets F.slot_list_mul ⟨_, e, rfl⟩ F.entry_list_mul (F.args_list_mul_2 _ _) (AutoListH.list___mul___list_int_3 l its.toArray n k t hfit hcap hlong) ⟨e, ?_⟩⟩)
  rw [hnew]
  exact ⟨.ref _, _, I.lnew (t' := s.toks) (r.rep k.toNat) (by rw [len_rep, Nat.mul_comm]; exact hz), rfl, q _ I.fresh⟩
end
section
variable {prog : Program} {w : World} {A : Around} {E : Value → Shared → Prop} {s : Shared}
end
section
variable {X : Cx}
end
end L2
namespace Att
open PySem PySem.W PySem.Calls PyProof.Rows
theorem ints_of_wellAll {P : Params} {h : Heap} : ∀ (ns : List Int) (vs : List Value), WellAll P h vs (ns.map WData.int) → IntsAre vs ns := by
  intro ns
  induction ns with
  | nil =>
    intro vs w
    rw [List.map_nil] at w
    cases w
    exact .nil
  | cons n ns ih =>
    intro vs w
    rw [List.map_cons] at w
    cases w with
    | cons a b =>
      cases a
      exact .cons _ _ (ih _ b)
theorem script_of {l : OpenLaw} {n : Nat} (hn : l.most = some n) {P : Params} {h : Heap} {args : List WData} {vals : List Value}
    (hpre : l.row.toRowW.claim.pre args = true) (hwl : WellAll P h vals args) :
    ∃ a vs ns, vals = [Value.ref a] ∧ args = [WData.list (ns.map WData.int)] ∧ h.get? a = some { cls := .type "list", data := .seq vs.toArray } ∧ IntsAre vs ns ∧ ns.length ≤ n := by
  have hsh : WShape.hasAll [] args [.list .int] = true := (pre_splitW hpre).1
  have hc : l.pre.holds [] { args := args } = true := (pre_splitW hpre).2
  obtain ⟨d, r, rfl, h1, h2⟩ := hasAllW_cons hsh
  obtain rfl := hasAllW_nil h2
  obtain ⟨xs, rfl, h3⟩ := hasW_list h1
  obtain ⟨ns, rfl⟩ := items_int h3
  have hlen : ns.length ≤ n := by
    unfold OpenLaw.pre at hc
    have h4 : (WTm.not (.lt (.lit (.int (n : Int))) (.len (.arg 0)))).holds [] { args := [.list (ns.map .int)] } = true := by
      have h4 := (holds_andW hc).1
      rw [hn] at h4
      exact h4
    have h5 := condW_of h4 (w_not (w_lt w_lit (w_len_list (w_arg rfl))))
    rw [List.length_map] at h5
    refine Nat.le_of_not_lt fun q => ?_
    have q' : (n : Int) < ((ns.length : Nat) : Int) := by omega
    first
      | (rw [decide_eq_true q'] at h5; exact absurd h5 (by decide))
      | (simp at h5; omega)
  cases hwl with
  | cons w1 w2 =>
    cases w2
    cases w1 with
    | list ho hall => exact ⟨_, _, ns, rfl, rfl, ho, ints_of_wellAll ns _ hall, hlen⟩
theorem post_true (l : OpenLaw) (args : List WData) : l.row.toRowW.claim.post args (.bool true) args = true :=
  postW_of (r := l.row.toRowW) (X := (true == true))
    (show WShape.has [] (.bool true) .bool = true by first | rfl | decide | simp [WShape.has, WShape.arms, WShape.armsAll])
    (show (WTm.eq .res (.lit (.bool true))).value [] { args := args, res := some (.bool true), after := args } = some (.bool (true == true)) from w_eq_bool (w_res rfl) w_lit) rfl
theorem attach_call {l : OpenLaw} {n : Nat} {q : Program} {loose : List Str} {XP : (Str → Option Value) → Heap → Prop} {YP : World → Heap → Prop} {d : DefRec}
    (hn : l.most = some n) (hdf : d.params.defaults = [])
    (call : ∀ (w : World) (s₀ s₁ : Shared) (mg mb : Str → Option Value) (fa : Addr) (o : Obj) (pm cd doc : Value) (a : Addr) (vs : List Value) (ns : List Int),
      Ground q loose [] XP w s₀ mg mb s₁.heap → YP w s₁.heap →
      s₁.heap.get? fa = some o → o.data = .func (docDef d.name d.params d.body d.scope pm cd doc) → s₁.heap.CodeRec cd d.name → mg d.name = some (.ref fa) →
      s₁.heap.get? a = some { cls := .type "list", data := .seq vs.toArray } → IntsAre vs ns → ns.length ≤ n → s₁.gens = #[] →
      codeAny (model l.prog w) callerA (.call (.ref fa) ⟨[.ref a], []⟩) (fun r s' => r = .ok (.ret (.bool true)) ∧ OldK s₁.heap s'.heap ∧ s'.os = s₁.os ∧ AllBare s'.gens) s₁) :
    WalkO q loose XP YP l.row.toRowW d [] (fun f vs => PySem.call f vs) := by
  intro w s₀ s₁ mg mb G Y fa o pm cd doc dV kV ho hd hcd hD hmg hg args vals as hpre hlay hrd hwl hlo
  obtain rfl : dV = .none := Dflts.none hD hdf
  obtain rfl : kV = .none := Dflts.noKw hD
  obtain ⟨a, vs, ns, rfl, rfl, hobj, hints, hlen⟩ := script_of hn hpre hwl
  refine enter_call (codeAny_mono (call w s₀ s₁ mg mb fa o pm cd doc a vs ns G Y ho (fd_plain hd) hcd hmg hobj hints hlen hg) fun r s' hq => ?_)
  obtain ⟨rfl, h2, h3, h4⟩ := hq
  exact ⟨.inl ⟨.bool true, .bool true, [], rfl, fun _ => rfl, .bool true, post_true l _, fun _ => ⟨List.Pairwise.nil, fun _ hm => (nomatch hm)⟩⟩, h2, h3, h4⟩
section
variable {prog : Program} {w : World} {A : Around} {E : Value → Shared → Prop} {s : Shared} {K : Frag}
end
end Att
namespace L2
open PySem PySem.Spec PyProof.Rows
theorem vals_ints : ∀ {vs : List Value} {ns : List Int}, IntsAre vs ns → Vals (ns.map V.int) vs
  | _, _, .nil => .nil
  | _, _, .cons n t h => .cons ⟨t, rfl⟩ (vals_ints h)
def Only (H : Hp) : Prop := ∀ b, H b = none ∨ ∃ o xs, H b = some (.frz o (.lst xs))
theorem law_call {P : Program} {w : World} {K : PySem.W.Frag} {mg mb : Str → Option Value} {CX : CXT} {k : Nat} {fa a : Addr} {fd : FuncData} {x : Str} {sp : Sp} {s₁ : Shared} {vs : List Value} {ns : List Int}
    (KX : K.In s₁.heap) (hns : s₁.heap.Ns mainGlobals mg) (hb : s₁.heap.Ns builtinsNs mb) (hbb : ∀ x : Str, x ≠ "__name__" → mb x = bootBuiltins x) (hlim : s₁.heap.NoLimit) (hg : s₁.gens = #[])
    (ha : s₁.heap.get? a = some { cls := .type "list", data := .seq vs.toArray }) (hi : IntsAre vs ns) (hl : ns.length ≤ sizeLine) (hr : Room k callerA)
    (F : ∀ base : Heap, K.In base → base.Ns mainGlobals mg → FnOk P w K mg base CX k fa fd [x] sp) (hbind : ∀ (s : Shared) (u : Value), BindsTo s fd ⟨[u], []⟩ [(x, u)])
    (hsp : ∀ H : Hp, Only H → SqL K H a (ns.map V.int) → sp [.ref a] H (fun v _ => v = .bl true) fun _ _ _ => False)
    (hCX : ∀ H e s', CX [] H s₁ (fun _ _ _ => False) e s' → False) :
    codeAny (model P w) callerA (.call (.ref fa) ⟨[.ref a], []⟩) (fun r s' => r = .ok (.ret (.bool true)) ∧ OldK s₁.heap s'.heap ∧ s'.os = s₁.os ∧ AllBare s'.gens) s₁ := by
  have rv := vals_ints hi
  have lenV := hi.length
  -- from an abstract heap in which nothing but the script may be tracked
  have core : ∀ H : Hp, Only H → SqL K H a (ns.map V.int) → HOk P w H s₁.heap → (∀ b, H b ≠ none → b = a) → (H a ≠ none → K.lookup a = none) →
      codeAny (model P w) callerA (.call (.ref fa) ⟨[.ref a], []⟩) (fun r s' => r = .ok (.ret (.bool true)) ∧ OldK s₁.heap s'.heap ∧ s'.os = s₁.os ∧ AllBare s'.gens) s₁ := by
    intro H hO hS hok hA hK
    have base_of : ∀ {b : Addr} {o : Obj}, s₁.heap.get? b = some o → H b = none → (hidT s₁.heap H).get? b = some o := fun e n => hidT_get e n
    have noA : ∀ {b : Addr} {o : Obj} {es : Array DictEntry} {ep : Nat}, s₁.heap.get? b = some o → o.data = .dict es ep → H b = none := fun {b o es ep} e d => by
      cases q : H b with
      | none => rfl
      | some u =>
        have e' : b = a := hA b (by rw [q]; simp)
        subst e'
        rw [ha] at e; cases e
        have d' : Data.seq vs.toArray _ = Data.dict es ep := d
        cases d'
    have nsK : ∀ {b : Addr} {m : Str → Option Value}, s₁.heap.Ns b m → (hidT s₁.heap H).Ns b m := fun {b m} ⟨o, es, ep, e, d, r⟩ => ⟨o, es, ep, base_of e (noA e d), d, r⟩
    have hKb : K.In (hidT s₁.heap H) := fun b o e => base_of (KX b o e) (by
      cases q : H b with
      | none => rfl
      | some u =>
        have e' : b = a := hA b (by rw [q]; simp)
        subst e'
        rw [hK (by rw [q]; simp)] at e; cases e)
    have hM : Mod K mg (hidT s₁.heap H) := ⟨hKb, nsK hns, ⟨mb, nsK hb, hbb⟩, let ⟨mc, h1, h2⟩ := hlim; ⟨mc, nsK h1, h2⟩⟩
    have e0 : Env0 P w K mg (hidT s₁.heap H) callerA [] s₁ H := ⟨rfl, hM, fun b o e => of_hidT e, Nat.le_of_eq (hidT_size _ _), trivial, fun b hb => absurd (show b ∈ ([] : List Addr) from hb) (by simp), hok, .of_eq hg⟩
    refine codeAny_mono ((F _ hKb (nsK hns)).run callerA [] s₁ H ⟨[.ref a], []⟩ [.ref a] [.ref a] _ _ hr e0 (hbind s₁ (.ref a)) (.cons rfl .nil) (hsp H hO hS)) fun r s' h => ?_
    cases r with
    | error e => exact (hCX H e s' h).elim
    | ok fl =>
      cases fl with
      | next => exact False.elim h
      | brk => exact False.elim h
      | cont => exact False.elim h
      | ret u =>
        obtain ⟨v, H', os, bare, un, hok', r', q⟩ := h
        have q' : v = .bl true := q
        subst q'
        obtain rfl : u = Value.bool true := r'
        refine ⟨rfl, OldK.of_keep fun b o e => ?_, os, bare⟩
        cases q : H b with
        | none => exact un.keep b o e q (by intro z; exact absurd (show b ∈ ([] : List Addr) from z) (by simp)) (by simp)
        | some u =>
          rcases hO b with z | ⟨ob, xs, z⟩
          · rw [q] at z; cases z
          · have z2 := un.frzs b ob _ z
            obtain ⟨e1, _⟩ := hok b _ z
            obtain ⟨e2, _⟩ := hok' b _ z2
            rw [e] at e1; cases e1
            exact e2
  cases hk : K.lookup a with
  | some o =>
    -- the script is one of the module's own objects
    have e := KX a o hk
    rw [ha] at e
    cases e
    refine core (fun _ => none) (fun _ => .inl rfl) (.inr ⟨_, vs.toArray, _, hk, rfl, rfl, rfl, by rw [List.size_toArray, lenV]; exact hl, by simpa using rv⟩) (fun b u z => by have z' : (none : Option HO) = some u := z; cases z') (fun b z => absurd rfl z) fun z => absurd rfl z
  | none =>
    refine core (fun b => if b = a then some (.frz { cls := .type "list", data := .seq vs.toArray } (.lst (ns.map V.int))) else none) (fun b => ?_) (.inl (.inr ⟨{ cls := .type "list", data := .seq vs.toArray }, if_pos rfl⟩)) (fun b u z => ?_) (fun b z => ?_) fun _ => hk
    · by_cases hb : b = a
      · exact .inr ⟨_, _, if_pos hb⟩
      · exact .inl (if_neg hb)
    · by_cases hb : b = a
      · have z' := (if_pos hb).symm.trans z
        cases z'
        subst hb
        exact ⟨ha, by rw [List.length_map]; exact hl, vs, _, rv, ha⟩
      · have z' := (if_neg hb).symm.trans z
        cases z'
    · by_cases hb : b = a
      · exact hb
      · exact absurd (if_neg hb) z
end L2
namespace L2
open PySem PySem.Spec PyProof.Rows
theorem walk_of {l : PySem.W.OpenLaw} {n k : Nat} {q : Program} {loose : List Str} {XP : (Str → Option Value) → Heap → Prop} {YP : World → Heap → Prop} {d : DefRec} {K : Params → PySem.W.Frag} {CX : World → CXT} {sp : World → Sp} {x : Str}
    (hn : l.most = some n) (hn2 : n ≤ sizeLine) (hdf : d.params.defaults = []) (hr : Room k callerA)
    (hY : ∀ (w : World) (h : Heap), YP w h → (K w.params).In h)
    (F : ∀ (w : World) (mg : Str → Option Value) (fa : Addr) (h : Heap), (K w.params).In h → h.Ns mainGlobals mg → mg d.name = some (.ref fa) →
      ∃ fd : FuncData, (∀ (s : Shared) (u : Value), BindsTo s fd ⟨[u], []⟩ [(x, u)]) ∧
        ∀ base : Heap, (K w.params).In base → base.Ns mainGlobals mg → FnOk l.prog w (K w.params) mg base (CX w) k fa fd [x] (sp w))
    (hsp : ∀ (w : World) (H : Hp) (a : Addr) (ns : List Int), ns.length ≤ n → Only H → SqL (K w.params) H a (ns.map V.int) → sp w [.ref a] H (fun v _ => v = .bl true) fun _ _ _ => False)
    (hCX : ∀ (w : World) (H : Hp) (s : Shared) (e : Value) (s' : Shared), CX w [] H s (fun _ _ _ => False) e s' → False) :
    PySem.W.WalkO q loose XP YP l.row.toRowW d [] (fun f vs => PySem.call f vs) := by
  refine Att.attach_call hn hdf fun w s₀ s₁ mg mb fa o pm cd doc a vs ns G Y ho hd hcd hmg hobj hints hlen hg => ?_
  have KX := hY w _ Y
  obtain ⟨fd, hb, hF⟩ := F w mg fa _ KX G.T.g hmg
  exact law_call KX G.T.g G.T.b G.T.builtins G.T.nolimit hg hobj hints (Nat.le_trans hlen hn2) hr hF hb (fun H hO hS => hsp w H a ns hlen hO hS) fun H e s' => hCX w H s₁ e s'
end L2
namespace L2
open PySem PySem.Spec PyProof.Rows
def defArgs (s : Stmt) : Arguments := match s with
  | .FunctionDef _ a _ _ _ _ _ _ _ _ => a
  | _ => { posonlyargs := [], args := [], vararg := none, kwonlyargs := [], kw_defaults := [], kwarg := none, defaults := [] }
def defBody (s : Stmt) : List Stmt := match s with
  | .FunctionDef _ _ b _ _ _ _ _ _ _ => b
  | _ => []
def defScope (s : Stmt) : Scope := match s with
  | .FunctionDef _ _ _ _ _ _ sc _ _ _ => sc
  | _ => { kind := .function, names := [], isGenerator := false, isCoroutine := false }
abbrev CX0 : CXT := fun _ _ _ _ _ _ => False
abbrev E0 : XK := fun _ _ _ => False
theorem pass0 {X : Cx} : Passes CX0 X E0 := fun _ _ _ _ _ _ _ h => h.elim
structure Fun (K : PySem.W.Frag) (x qual : Str) (st : Stmt) (f : Addr) (fd : FuncData) : Prop where
  ex : ∃ (oc : Value) (od : Option Addr) (kV doc pm : Value) (an : Option Addr) (cdv ct : Value) (osl : Array (Option Value)),
    fd = PySem.W.fnOf x qual (defArgs st) (defBody st) (defScope st) .none kV doc pm an cdv ct ∧ K.lookup f = some ⟨oc, od, .func fd, osl⟩ ∧ PySem.W.codeIn K cdv qual = true
  kp : PySem.W.keepIn K (.ref f) = true
section
variable {P : Program} {w : World} {K : PySem.W.Frag} {mg : Str → Option Value} {base : Heap}
theorem Fun.ok {x qual : Str} {st : Stmt} {f : Addr} {fd : FuncData} {N ps : List Str} {k : Nat} {sp : Sp} (F : Fun K x qual st f fd) (S : FnScope N ps (defScope st)) (len : ∀ vs H Q E, sp vs H Q E → vs.length = ps.length)
    (hbody : ∀ (cdv : Value) (A : Around) (outer : List Env) (s : Shared) (H : Hp) (vs : List V) (Q : VK) (E : XK), Room k (A.deeper (envOfC qual (defScope st) s.heap.objs.size f cdv)) → sp vs H Q E →
      ∃ t, PSs (cxOf CX0 P w K mg base N qual (defScope st) f cdv A outer s H E).nox (defBody st) t ∧ t { nx := fun _ H' => Q .non H', rt := Q } (start N vs) H) : FnOk P w K mg base CX0 (k + 1) f fd ps sp := by
  obtain ⟨oc, od, kV, doc, pm, an, cdv, ct, osl, rfl, lk, hcd⟩ := F.ex
  refine fn_of lk hcd S len fun A outer s H vs Q E hr hsp => ?_
  obtain ⟨t, h, q⟩ := hbody cdv A outer s H vs Q E hr hsp
  exact ⟨t, h.nox, q⟩
theorem Fun.binds {x qual : Str} {st : Stmt} {f : Addr} {fd : FuncData} {ps : List Str} (F : Fun K x qual st f fd)
    (h : ∀ (kV doc pm : Value) (an : Option Addr) (cdv ct : Value) (us : List Value), us.length = ps.length → bindArgs (PySem.W.fnOf x qual (defArgs st) (defBody st) (defScope st) .none kV doc pm an cdv ct) ⟨us, []⟩ = pure (ps.zip us)) : Binds K fd ps [] := by
  obtain ⟨oc, od, kV, doc, pm, an, cdv, ct, osl, rfl, lk, hcd⟩ := F.ex
  exact .all (h kV doc pm an cdv ct)
theorem fun_mk {x qual : Str} {st : Stmt} {f : Addr} {oc : Value} {od an : Option Addr} {osl : Array (Option Value)} {kV doc pm cdv ct : Value} (l : K.lookup f = some ⟨oc, od, .func (PySem.W.fnOf x qual (defArgs st) (defBody st) (defScope st) .none kV doc pm an cdv ct), osl⟩)
    (c : PySem.W.codeIn K cdv qual = true) (k : PySem.W.keepIn K (.ref f) = true) : Fun K x qual st f (PySem.W.fnOf x qual (defArgs st) (defBody st) (defScope st) .none kV doc pm an cdv ct) := ⟨⟨oc, od, kV, doc, pm, an, cdv, ct, osl, rfl, l, c⟩, k⟩
end
section
variable {X : Cx}
end
theorem iteF {A B : Prop} (h : B) : if false = true then A else B := by
  rw [if_neg Bool.false_ne_true]
  exact h
theorem iteT {A B : Prop} (h : A) : if true = true then A else B := by
  rw [if_pos rfl]
  exact h
theorem ite2 {c A B : Prop} [Decidable c] (h1 : c → A) (h2 : ¬ c → B) : if c then A else B := by
  by_cases h : c
  · rw [if_pos h]
    exact h1 h
  · rw [if_neg h]
    exact h2 h
def Same (H H' : Hp) : Prop := ∀ b o, H b = some o → H' b = some o
theorem Same.refl (H : Hp) : Same H H := fun _ _ h => h
theorem Same.trans {H H1 H2 : Hp} (a : Same H H1) (b : Same H1 H2) : Same H H2 := fun c o h => b c o (a c o h)
theorem Same.free {H H' : Hp} (e : Same H H') {l : Addr} (h : H' l = Option.none) : H l = Option.none := by
  cases q : H l with
  | none => rfl
  | some o =>
    rw [e l o q] at h
    cases h
theorem Same.seq {K : PySem.W.Frag} {H H' : Hp} {a : Addr} {xs : List V} (e : Same H H') (h : SqL K H a xs) : SqL K H' a xs := by
  rcases h with (h | ⟨o, h⟩) | h
  · exact .inl (.inl (e _ _ h))
  · exact .inl (.inr ⟨o, e _ _ h⟩)
  · exact .inr h
end L2
namespace PySem
open Sem (wp)
theorem closureFor_some {scope : Scope} {env : Env} (h : ∀ y ∈ scope.names, y.2 = .free → ∃ c, env.cells.lookup y.1 = some c) :
    ∃ cl, closureFor scope env = pure cl ∧ (∀ x c, cl.lookup x = some c → env.cells.lookup x = some c) ∧
      ∀ y ∈ scope.names, y.2 = .free → ∃ c, cl.lookup y.1 = some c := by
  have key : ∀ (names : List (Str × NameKind)) (acc : List (Str × Addr)), (∀ y ∈ names, y.2 = .free → ∃ c, env.cells.lookup y.1 = some c) →
      (∀ x c, acc.lookup x = some c → env.cells.lookup x = some c) →
      ∃ cl, (forIn names acc fun (x : Str × NameKind) (r : List (Str × Addr)) => (if (x.2 == NameKind.free) = true then do let c ← cellOf env x.1; pure (ForInStep.yield ((x.1, c) :: r)) else pure (ForInStep.yield r) : Sem _)) = pure cl ∧
        (∀ x c, cl.lookup x = some c → env.cells.lookup x = some c) ∧ (∀ y ∈ names, y.2 = .free → ∃ c, cl.lookup y.1 = some c) ∧ ∀ x c, acc.lookup x = some c → ∃ c', cl.lookup x = some c' := by
    intro names
    induction names with
    | nil => intro acc _ ha; exact ⟨acc, rfl, ha, (fun _ hy => nomatch hy), fun x c e => ⟨c, e⟩⟩
    | cons y r ih =>
      intro acc hf ha
      obtain ⟨n, k⟩ := y
      have hr : ∀ y ∈ r, y.2 = .free → ∃ c, env.cells.lookup y.1 = some c := fun y hy => hf y (List.mem_cons_of_mem _ hy)
      by_cases hk : k = .free
      · subst hk
        obtain ⟨c, hc⟩ := hf (n, .free) List.mem_cons_self rfl
        have ha' : ∀ x d, ((n, c) :: acc).lookup x = some d → env.cells.lookup x = some d := fun x d e => by
          rw [List.lookup_cons] at e
          by_cases hx : x = n
          · subst hx; simp at e; rw [← e]; exact hc
          · have : (x == n) = false := by simpa using hx
            rw [this] at e; exact ha x d e
        obtain ⟨cl, e1, e2, e3, e4⟩ := ih ((n, c) :: acc) hr ha'
        refine ⟨cl, ?_, e2, fun y hy hyf => ?_, fun x d e => ?_⟩
        · rw [List.forIn_cons]
          have q : cellOf env n = pure c := by unfold cellOf; rw [hc]
          simp only [beq_self_eq_true, if_true, q]
          exact e1
        · rcases List.mem_cons.mp hy with rfl | hy
          · obtain ⟨c', q⟩ := e4 n c (by rw [List.lookup_cons]; simp)
            exact ⟨c', q⟩
          · exact e3 y hy hyf
        · by_cases hx : x = n
          · subst hx; exact e4 x c (by rw [List.lookup_cons]; simp)
          · have hb : (x == n) = false := by simpa using hx
            exact e4 x d (by rw [List.lookup_cons, hb]; exact e)
      · have hb : (k == NameKind.free) = false := by simpa using hk
        obtain ⟨cl, e1, e2, e3, e4⟩ := ih acc hr ha
        refine ⟨cl, ?_, e2, fun y hy hyf => ?_, e4⟩
        · rw [List.forIn_cons]
          simp only [hb, Bool.false_eq_true, if_false]
          exact e1
        · rcases List.mem_cons.mp hy with rfl | hy
          · exact absurd hyf hk
          · exact e3 y hy hyf
  obtain ⟨cl, e1, e2, e3, _⟩ := key scope.names [] h (fun x c e => by simp at e)
  refine ⟨cl, ?_, e2, e3⟩
  unfold closureFor
  simp only [bind_pure]
  exact e1
theorem compTurn_set (elt target iter : Expr) (ifs : List Expr) (scope : Scope) (pos : Pos) (it acc : Value) (env : Env) :
    compTurn (.SetComp elt [⟨target, iter, ifs, 0⟩] scope pos) 0 it acc env = (do
      standAt iter.pos
      match ← pyNext it with
      | none => pure (.done .next)
      | some v =>
        letOwnedTupleGo target it v
        assign target env v
        let mut ok := true
        for c in ifs do
          if ok then ok ← isTrue c env (eval c env)
        if ok then
          (do let v ← eval elt env; standAt elt.pos; let _ ← call (.builtin "set.add") [acc, v])
        again (.compLoop (.SetComp elt [⟨target, iter, ifs, 0⟩] scope pos) 0 it acc env)) := by rfl
section
variable {prog : Program} {w : World} {A : Around} {E : Value → Shared → Prop} {R : Result → Shared → Prop} {s : Shared}
theorem codeAny_compLoop_listG {elt target iter : Expr} {ifs : List Expr} {scope : Scope} {pos : Pos} {it acc : Value} {env : Env} (I : Nat → Shared → Prop)
    (turn : ∀ n s, I n s → wpAny (model prog w) A (pyNext it) (fun r s₁ => match r with
      | none => R (.ok .next) s₁
      | some v => wpAny (model prog w) A (letOwnedTupleGo target it v) (fun _ s₁' => wpAny (model prog w) A (assign target env v) (fun _ s₂ =>
          wpAny (model prog w) A (forIn ifs true fun c r => if r = true then do let ok ← isTrue c env (eval c env); pure (ForInStep.yield ok) else pure (ForInStep.yield r)) (fun ok s₃ =>
            if ok = true then wpAny (model prog w) A (eval elt env) (fun x s₄ =>
              wpAny (model prog w) A (call (.builtin "list.append") [acc, x]) (fun _ s₅ => ∃ m, m < n ∧ I m s₅) (fun _ _ => False) s₄) (fun _ _ => False) s₃
            else ∃ m, m < n ∧ I m s₃) (fun _ _ => False) s₂) (fun _ _ => False) s₁') (fun _ _ => False) s₁) (fun _ _ => False) s)
    (n : Nat) (h : I n s) :
    codeAny (model prog w) A (.compLoop (.ListComp elt [⟨target, iter, ifs, 0⟩] scope pos) 0 it acc env) R s := by
  refine codeAny_loop rfl I (fun n s hI => ?_) n h
  show wpAny _ A ((compTurn (.ListComp elt [⟨target, iter, ifs, 0⟩] scope pos) 0 it acc env).onRaise (fun x => do noteFrame x env; theTreesLotGoes x)) _ _ s
  refine wpAny_noted ?_
  rw [compTurn_list]
  refine wpAny_bind (wpAny_standAt (wpAny_bind (wpAny_mono (turn n s hI) (fun r s₁ h₁ => ?_) fun _ _ h' => h'.elim)))
  cases r with
  | none => exact wpAny_pure h₁
  | some v =>
    refine wpAny_bind (wpAny_mono h₁ (fun _ s₁' h₁' => ?_) fun _ _ h' => h'.elim)
    refine wpAny_bind (wpAny_mono h₁' (fun _ s₂ h₂ => wpAny_bind (wpAny_mono h₂ (fun ok s₃ h₃ => ?_) fun _ _ h' => h'.elim)) fun _ _ h' => h'.elim)
    cases ok with
    | false => exact wpAny_pure ⟨rfl, h₃⟩
    | true =>
      exact wpAny_bind (wpAny_bind (wpAny_mono h₃ (fun x s₄ h₄ => wpAny_bind (wpAny_mono h₄ (fun _ s₅ h₅ => wpAny_pure (wpAny_pure ⟨rfl, h₅⟩)) fun _ _ h' => h'.elim)) fun _ _ h' => h'.elim))
theorem codeAny_compLoop_setG {elt target iter : Expr} {ifs : List Expr} {scope : Scope} {pos : Pos} {it acc : Value} {env : Env} (I : Nat → Shared → Prop)
    (turn : ∀ n s, I n s → wpAny (model prog w) A (pyNext it) (fun r s₁ => match r with
      | none => R (.ok .next) s₁
      | some v => wpAny (model prog w) A (letOwnedTupleGo target it v) (fun _ s₁' => wpAny (model prog w) A (assign target env v) (fun _ s₂ =>
          wpAny (model prog w) A (forIn ifs true fun c r => if r = true then do let ok ← isTrue c env (eval c env); pure (ForInStep.yield ok) else pure (ForInStep.yield r)) (fun ok s₃ =>
            if ok = true then wpAny (model prog w) A (eval elt env) (fun x s₄ =>
              wpAny (model prog w) A (call (.builtin "set.add") [acc, x]) (fun _ s₅ => ∃ m, m < n ∧ I m s₅) (fun _ _ => False) s₄) (fun _ _ => False) s₃
            else ∃ m, m < n ∧ I m s₃) (fun _ _ => False) s₂) (fun _ _ => False) s₁') (fun _ _ => False) s₁) (fun _ _ => False) s)
    (n : Nat) (h : I n s) :
    codeAny (model prog w) A (.compLoop (.SetComp elt [⟨target, iter, ifs, 0⟩] scope pos) 0 it acc env) R s := by
  refine codeAny_loop rfl I (fun n s hI => ?_) n h
  show wpAny _ A ((compTurn (.SetComp elt [⟨target, iter, ifs, 0⟩] scope pos) 0 it acc env).onRaise (fun x => do noteFrame x env; theTreesLotGoes x)) _ _ s
  refine wpAny_noted ?_
  rw [compTurn_set]
  refine wpAny_bind (wpAny_standAt (wpAny_bind (wpAny_mono (turn n s hI) (fun r s₁ h₁ => ?_) fun _ _ h' => h'.elim)))
  cases r with
  | none => exact wpAny_pure h₁
  | some v =>
    refine wpAny_bind (wpAny_mono h₁ (fun _ s₁' h₁' => ?_) fun _ _ h' => h'.elim)
    refine wpAny_bind (wpAny_mono h₁' (fun _ s₂ h₂ => wpAny_bind (wpAny_mono h₂ (fun ok s₃ h₃ => ?_) fun _ _ h' => h'.elim)) fun _ _ h' => h'.elim)
    cases ok with
    | false => exact wpAny_pure ⟨rfl, h₃⟩
    | true =>
      exact wpAny_bind (wpAny_bind (wpAny_mono h₃ (fun x s₄ h₄ => wpAny_bind (wpAny_standAt (wpAny_bind (wpAny_mono h₄ (fun _ s₅ h₅ => wpAny_pure (wpAny_pure ⟨rfl, h₅⟩)) fun _ _ h' => h'.elim)))) fun _ _ h' => h'.elim))
theorem codeAny_compStart_set {elt target iter ifs rest scope pos it acc env}
    (h0 : codeAny (model prog w) A (.compLoop (.SetComp elt (⟨target, iter, ifs, 0⟩ :: rest) scope pos) 0 it acc env) R s)
    (h : wpAny (model prog w) A (pyIter it) (fun it' s' => codeAny (model prog w) A (.compLoop (.SetComp elt (⟨target, iter, ifs, 0⟩ :: rest) scope pos) 0 it' acc env) R s')
      (notedBy (model prog w) A env fun x s' => R (.error x) s') s) :
    codeAny (model prog w) A (.compStart (.SetComp elt (⟨target, iter, ifs, 0⟩ :: rest) scope pos) 0 it acc env) R s := by
  refine codeAny_of_tree ?_
  show wpAny _ _ ((compStart (.SetComp elt (⟨target, iter, ifs, 0⟩ :: rest) scope pos) 0 it acc env).onRaise (fun x => do noteFrame x env; standAt theWindowsPlace)) _ _ s
  refine wpAny_notedAt ?_
  unfold compStart
  show wpAny _ _ (ask >>= _) _ _ s
  refine wpAny_bind (wpAny_askSetting (wpAny_ite ?_))
  split
  · first
      | exact wpAny_bind (wpAny_pure (wpAny_pure (And.intro rfl h0)))
      | exact wpAny_pure (And.intro rfl h0)
  · first
      | exact wpAny_bind (wpAny_rule (wpAny_bind (wpAny_standAt (wpAny_bind (wpAny_mono h (fun it' s' h' => wpAny_pure (And.intro rfl h')) fun _ _ x => x)))))
      | (refine wpAny_bind (wpAny_rule ?_); show wpAny _ _ (standAt iter.pos >>= _) _ _ s; exact wpAny_bind (wpAny_standAt (wpAny_bind (wpAny_mono h (fun it' s' h' => wpAny_pure (And.intro rfl h')) fun _ _ x => x))))
end
end PySem
namespace L2
open PySem PySem.Spec PyProof.Rows
def slotOf : List Str → St → Str → Option V
  | n :: N, v :: σ, x => if n = x then v else slotOf N σ x
  | _, _, _ => none
def cmpSt (N : List Str) (σ : St) (names : List (Str × NameKind)) : St := names.map fun p => if p.2 = NameKind.free then slotOf N σ p.1 else none
theorem slotOf_get : ∀ {N : List Str} {σ : St} {x : Str} {v : V}, slotOf N σ x = some v → ∃ i : Nat, N[i]? = some x ∧ σ[i]? = some (some v)
  | [], _, _, _, h => by simp [slotOf] at h
  | _ :: _, [], _, _, h => by simp [slotOf] at h
  | n :: N, u :: σ, x, v, h => by
    unfold slotOf at h
    by_cases e : n = x
    · rw [if_pos e] at h; exact ⟨0, by simp [e], by simp [h]⟩
    · rw [if_neg e] at h
      obtain ⟨i, h1, h2⟩ := slotOf_get h
      exact ⟨i + 1, by simpa using h1, by simpa using h2⟩
def Cx.cmp (X : Cx) (scope : Scope) (cl : List (Str × Addr)) (C : Addr) (s₀ : Shared) (H₀ : Hp) (fp : List Addr) : Cx where
  prog := X.prog
  w := X.w
  K := X.K
  mg := X.mg
  base := X.base
  A := X.A
  N := scope.names.map (·.1)
  s₀ := s₀
  H₀ := H₀
  env := compEnvC scope cl C X.env
  outer := X.stack
  stack := X.stack
  ex := fp
  fn := fun _ => false
  calm := X.calm
  pn := []
  xe := fun _ _ => False
def cmpB (sc scope : Scope) : Bool :=
  decide (scope.kind = .function) && scope.names.all (fun y => decide (y.2 ≠ .cell) && (decide (y.2 ≠ .free) || decide (sc.names.lookup y.1 = some .cell) || decide (sc.names.lookup y.1 = some .free))) && decide (scope.names.map (·.1)).Nodup
structure CmpOk (X : Cx) (scope : Scope) : Prop where
  kind : scope.kind = .function
  nocell : ∀ y ∈ scope.names, y.2 ≠ .cell
  free : ∀ y ∈ scope.names, y.2 = .free → X.env.kindOf y.1 = some .cell ∨ X.env.kindOf y.1 = some .free
  nd : (scope.names.map (·.1)).Nodup
theorem CmpOk.of {X : Cx} {scope : Scope} (h : cmpB X.env.scope scope = true) : CmpOk X scope := by
  unfold cmpB at h
  rw [Bool.and_eq_true, Bool.and_eq_true] at h
  obtain ⟨⟨h1, h2⟩, h3⟩ := h
  rw [List.all_eq_true] at h2
  refine ⟨of_decide_eq_true h1, fun y hy => ?_, fun y hy e => ?_, of_decide_eq_true h3⟩
  · have := h2 y hy; rw [Bool.and_eq_true] at this; exact of_decide_eq_true this.1
  · have := h2 y hy; rw [Bool.and_eq_true, Bool.or_eq_true, Bool.or_eq_true] at this
    rcases this.2 with (q | q) | q
    · exact absurd e (of_decide_eq_true q)
    · exact .inl (of_decide_eq_true q)
    · exact .inr (of_decide_eq_true q)
theorem lookup_of_mem {names : List (Str × NameKind)} (nd : (names.map (·.1)).Nodup) {y : Str × NameKind} (hy : y ∈ names) : names.lookup y.1 = some y.2 := by
  induction names with
  | nil => nomatch hy
  | cons z r ih =>
    obtain ⟨n, k⟩ := z
    simp only [List.map_cons, List.nodup_cons] at nd
    rcases List.mem_cons.mp hy with rfl | hy
    · simp [List.lookup_cons]
    · have hne : (y.1 == n) = false := by
        simp only [beq_eq_false_iff_ne, ne_eq]
        rintro e
        exact nd.1 (e ▸ List.mem_map_of_mem (f := (·.1)) hy)
      rw [List.lookup_cons, hne]
      exact ih nd.2 hy
theorem mem_lookup {names : List (Str × NameKind)} {x : Str} {k : NameKind} (h : names.lookup x = some k) : (x, k) ∈ names := by
  induction names with
  | nil => simp at h
  | cons z r ih =>
    obtain ⟨n, j⟩ := z
    rw [List.lookup_cons] at h
    by_cases e : x = n
    · subst e; simp at h; subst h; exact List.mem_cons_self
    · have hb : (x == n) = false := by simpa using e
      rw [hb] at h; exact List.mem_cons_of_mem _ (ih h)
theorem relabel_kind {scope : Scope} {env : Env} {x : Str} {k : NameKind} (h : (relabel scope env).names.lookup x = some k) :
    scope.names.lookup x = some k ∨ (scope.names.lookup x = some .free ∧ k = .cell ∧ env.kindOf x = some .cell) := by
  unfold relabel at h
  simp only at h
  generalize scope.names = names at h ⊢
  induction names with
  | nil => simp at h
  | cons z r ih =>
    obtain ⟨n, j⟩ := z
    rw [List.map_cons, List.lookup_cons] at h
    rw [List.lookup_cons]
    by_cases e : x = n
    · subst e
      by_cases hc : (j == NameKind.free && env.scope.kind == .function && env.kindOf x == some .cell) = true
      · simp only [hc, if_true, beq_self_eq_true] at h ⊢
        simp only [Bool.and_eq_true, beq_iff_eq] at hc
        cases h
        exact .inr ⟨by rw [hc.1.1], rfl, hc.2⟩
      · simp only [hc, Bool.false_eq_true, if_false, beq_self_eq_true] at h ⊢
        exact .inl h
    · have hb : (x == n) = false := by simpa using e
      by_cases hc : (j == NameKind.free && env.scope.kind == .function && env.kindOf n == some .cell) = true
      · simp only [hc, if_true, hb] at h ⊢; exact ih h
      · simp only [hc, Bool.false_eq_true, if_false, hb] at h ⊢; exact ih h
theorem cmp_nd {X : Cx} {scope : Scope} {cl : List (Str × Addr)} {C : Addr} {s₀ : Shared} {H₀ : Hp} {fp : List Addr} (h : (scope.names.map (·.1)).Nodup) : (X.cmp scope cl C s₀ H₀ fp).N.Nodup := h
theorem inv_cmp {X : Cx} {pins : List (Addr × Obj)} {σ : St} {H : Hp} {s3 : Shared} {scope : Scope} {cl : List (Str × Addr)} {fp : List Addr} {h' : Heap} {tk : Nat} (I : Inv X pins σ H s3) (ok : CmpOk X scope)
    (hcl : ∀ x c, cl.lookup x = some c → X.env.cells.lookup x = some c) (hcf : ∀ y ∈ scope.names, y.2 = .free → ∃ c, cl.lookup y.1 = some c)
    (hfp : ∀ b ∈ fp, FpOk X pins H b) (hlt : ∀ b ∈ fp, b < s3.heap.objs.size) (hns : h'.Ns s3.heap.objs.size fun _ => none) (hk : ∀ b o, s3.heap.get? b = some o → h'.get? b = some o) :
    Inv (X.cmp scope cl s3.heap.objs.size s3 H fp) [] (cmpSt X.N σ scope.names) H { s3 with heap := h', toks := tk } := by
  have kinds : ∀ x, ((X.cmp scope cl s3.heap.objs.size s3 H fp).env.kindOf x = some .cell ∨ (X.cmp scope cl s3.heap.objs.size s3 H fp).env.kindOf x = some .free) → scope.names.lookup x = some .free := fun x hx => by
    rcases hx with hx | hx
    · rcases relabel_kind hx with q | q
      · exact absurd rfl (ok.nocell _ (mem_lookup q))
      · exact q.1
    · rcases relabel_kind hx with q | q
      · exact q
      · exact q.1
  refine ⟨⟨I.ok.mod, ok.kind, I.ok.glob, I.ok.blt, Nat.le_refl _, fun x y c h1 h2 => I.ok.inj x y c (hcl _ _ h1) (hcl _ _ h2), fun x hx => ?_, (fun x c z _ => nomatch z), I.ok.hd, I.ok.frames, .inl rfl,
      fun b hb => ⟨Nat.ne_of_lt (hlt b hb), fun x c e => (hfp b hb).2.2.2.2.1 x c (hcl _ _ e)⟩, I.bs, Nat.le_trans I.ok.bsz I.sz, fun b o e hb => ?_, fun b hb z => ?_, I.stack, I.stkFree⟩,
    rfl, I.bare, Un.kept hk, ⟨_, hns, fun i x v h1 h2 h3 => ?_⟩, fun x c e => ?_, I.hok.fresh (Nat.le_refl _), fun x c e => I.freeC x c (hcl _ _ e), fun p hp => absurd (show p ∈ ([] : List (Addr × Obj)) from hp) (by simp), I.hok.kept hk, ?_⟩
  · have q := kinds x hx
    exact hcf _ (mem_lookup q) rfl
  · rcases (hfp b hb).2.2.2.1 with z | z
    · exact I.ok.noex b o e z
    · exact Nat.lt_irrefl _ (Nat.lt_of_lt_of_le (Heap.lt_size e) (Nat.le_trans I.ok.bsz z))
  · rcases List.mem_cons.mp (I.stkSub b z) with q | q
    · exact (hfp b hb).2.1 q
    · exact (hfp b hb).2.2.1 q
  · -- the names
    have e1 : (scope.names.map (·.1))[i]? = some x := h1
    have e2 : (cmpSt X.N σ scope.names)[i]? = some (some v) := h2
    unfold cmpSt at e2
    rw [List.getElem?_map] at e1 e2
    cases q : scope.names[i]? with
    | none => rw [q] at e1; cases e1
    | some y =>
      rw [q] at e1 e2
      simp only [Option.map_some, Option.some.injEq] at e1 e2
      have hy : y ∈ scope.names := List.mem_of_getElem? q
      by_cases hf : y.2 = .free
      · rw [if_pos hf] at e2
        obtain ⟨j, j1, j2⟩ := slotOf_get e2
        obtain ⟨m, hn, hl⟩ := I.loc
        have vis : Vis X.env.scope y.1 := by
          rcases ok.free y hy hf with z | z
          · exact .inr (.inl z)
          · exact .inr (.inr z)
        obtain ⟨u, ru, lk⟩ := hl j y.1 v j1 j2 vis
        refine ⟨u, ru, .inr ?_⟩
        obtain ⟨c, hc⟩ := hcf y hy hf
        have hc' := hcl _ _ hc
        rcases lk with ⟨hkl, _⟩ | ⟨_, c2, hc2, hcell⟩
        · rcases ok.free y hy hf with z | z
          · rw [hkl] at z; cases z
          · rw [hkl] at z; cases z
        · rw [hc'] at hc2
          cases hc2
          subst e1
          refine ⟨?_, c, hc, let ⟨o, ho, hd⟩ := hcell; ⟨o, hk _ o ho, hd⟩⟩
          have h3' : Vis (relabel scope X.env) y.1 := h3
          have lf : scope.names.lookup y.1 = some .free := by rw [lookup_of_mem ok.nd hy, hf]
          rcases h3' with z | z | z
          · rcases relabel_kind z with q | q
            · rw [lf] at q; cases q
            · cases q.2.1
          · exact .inl z
          · exact .inr z
      · rw [if_neg hf] at e2; cases e2
  · obtain ⟨v, hv⟩ := I.cell x c (hcl _ _ e)
    obtain ⟨o, ho, hd⟩ := hv
    exact ⟨v, o, hk _ o ho, hd⟩
  · show (cmpSt X.N σ scope.names).length = (scope.names.map (·.1)).length
    unfold cmpSt
    rw [List.length_map, List.length_map]
def PTs (X : Cx) (ifs : List Expr) (t : TT) : Prop :=
  ∀ (pins : List (Addr × Obj)) (s : Shared) (σ : St) (H : Hp) (Q : Bool → Hp → Prop), Inv X pins σ H s → t σ H Q →
    wpAny (model X.prog X.w) X.A (forIn ifs true fun c r => if r = true then do let ok ← isTrue c X.env (eval c X.env); pure (ForInStep.yield ok) else pure (ForInStep.yield r)) (TP X pins σ Q) X.xe s
def tNoIf : TT := fun _ H Q => Q true H
theorem pts_nil {X : Cx} : PTs X [] tNoIf := fun _ _ _ H _ I h => wpAny_tests_nil ⟨H, I, h⟩
theorem pts_one {X : Cx} {c : Expr} {t : TT} (h : PT X c t) : PTs X [c] t := fun pins s σ H Q I q => wpAny_tests_one (h pins s σ H Q I q)
def tLC (N : List Str) (names : List (Str × NameKind)) (wi : TI) (g : TG) (tc : TT) (te : TE) : TE := fun σ H Q => wi σ H fun J H1 => ∀ D, H1 D = none →
  ∃ W : Nat → Nat → St → Hp → Prop, (∃ m, W 0 m (cmpSt N σ names) (upd H1 D (.lst []))) ∧ ∀ i m σ2 H2, W i m σ2 H2 →
    (J.stop i H2 ∧ Q (.ref D) H2) ∨ (J.go i H2 ∧ ∀ x H3, J.yld i H2 x H3 → g x σ2 H3 fun σ4 H4 => tc σ4 H4 fun b H5 =>
      if b = true then te σ4 H5 fun v H6 => ∃ ys m', H6 D = some (.lst ys) ∧ ys.length < sizeLine ∧ m' < m ∧ W (i + 1) m' σ4 (upd H6 D (.lst (ys ++ [v]))) else ∃ m', m' < m ∧ W (i + 1) m' σ4 H5)
theorem pinsAt_get {X : Cx} {pins : List (Addr × Obj)} {σ : St} {H : Hp} {s : Shared} {fp : List Addr} {h : Heap} (I : Inv X (pins ++ pinsAt fp h) σ H s) {b : Addr} {o : Obj} (hb : b ∈ fp) (e : h.get? b = some o) : s.heap.get? b = some o ∧ H b = none := by
  have q := I.pin (b, o) (List.mem_append_right _ (List.mem_append_right _ (mem_pinsAt hb e)))
  exact ⟨q.1, q.2.1⟩
theorem after_cmp {X : Cx} {pins : List (Addr × Obj)} {σ σc : St} {H H' : Hp} {s3 s' : Shared} {scope : Scope} {cl : List (Str × Addr)} {fp : List Addr} {h' : Heap} {pins' : List (Addr × Obj)} (I : Inv X pins σ H s3)
    (hfp : ∀ b ∈ fp, FpOk X pins H b) (J : Inv (X.cmp scope cl s3.heap.objs.size s3 H fp) pins' σc H' s') (hb : Heap.SameBut s3.heap.objs.size s'.heap h') : Inv X pins σ H' { s' with heap := h' } := by
  have hC : H' s3.heap.objs.size = none := J.free
  have u : Un (frs X.stack) fp H H' s3.heap s'.heap := J.base
  have lt : ∀ b o, s3.heap.get? b = some o → b ≠ s3.heap.objs.size := fun b o e z => by subst z; exact Nat.lt_irrefl _ (Heap.lt_size e)
  have u' : Un (frs X.stack) fp H H' s3.heap h' := ⟨fun b o e n h1 h2 => hb.extBut b o (lt b o e) (u.keep b o e n h1 h2), fun b o e n h1 h2 => (by
      obtain ⟨sl, q⟩ := u.slot b o e n h1 h2; exact ⟨sl, hb.extBut b _ (lt b o e) q⟩), u.free, fun b o e h2 => (by
      obtain ⟨o', q⟩ := u.there b o e h2; exact ⟨o', hb.extBut b _ (lt b o e) q⟩), u.tups, u.frzs, u.tbls⟩
  have hok : HOk X.prog X.w H' h' := fun a o e => (J.hok a o e).stay (fun b v hbv q => hb.extBut b v (fun z => by
      subst z
      rcases hbv with z | z
      · subst z; rw [hC] at e; cases e
      · rw [hC] at z; cases z) q) (fun _ q => q) fun _ _ q => q
  exact I.call' (ch := fp) (J.os.trans rfl) u' hok J.bare fun b hbf => ⟨(hfp b hbf).2.2.2.1, (hfp b hbf).2.1, (hfp b hbf).2.2.2.2.1, (hfp b hbf).2.2.2.2.2⟩
theorem Inv.but {X : Cx} {pins : List (Addr × Obj)} {σ : St} {H : Hp} {s : Shared} {C : Addr} {h' : Heap} (I : Inv X pins σ H s) (f : FpOk X pins H C) (sb : Heap.SameBut C s.heap h') : Inv X pins σ H { s with heap := h' } :=
  I.turned (t' := s.toks) (fun b o hb e => sb.extBut b o hb e) f.1 f.2.1 f.2.2.2.1 f.2.2.2.2.1 f.2.2.2.2.2
theorem ns_lookup_nil {h : Heap} {a : Addr} (x : h.Ns a fun y => ([] : List (Str × Value)).reverse.lookup y) : h.Ns a fun _ => none := by
  have e : (fun y : Str => ([] : List (Str × Value)).reverse.lookup y) = fun _ => none := by funext y; simp
  rw [e] at x; exact x
theorem block_lc {X : Cx} {elt tg iter : Expr} {ifs : List Expr} {scope : Scope} {pos : Pos} {g : TG} {tc : TT} {te : TE} (hc : X.calm = true) (ok : CmpOk X scope)
    (hg : ∀ cl C s₀ H₀ fp, PG (X.cmp scope cl C s₀ H₀ fp) tg g) (ht : ∀ cl C s₀ H₀ fp, PTs (X.cmp scope cl C s₀ H₀ fp) ifs tc) (he : ∀ cl C s₀ H₀ fp, PE (X.cmp scope cl C s₀ H₀ fp) elt te)
    {pins : List (Addr × Obj)} {σ : St} {H1 : Hp} {s2 : Shared} {cl : List (Str × Addr)} {it : Addr} {fp : List Addr} {tn : Nat → Heap → Prop} {J : It} {Q : VK} {E : Value → Shared → Prop} {RR : Value → Addr → Result → Shared → Prop}
    (hcl : ∀ x c, cl.lookup x = some c → X.env.cells.lookup x = some c) (hcf : ∀ y ∈ scope.names, y.2 = .free → ∃ c, cl.lookup y.1 = some c)
    (I : Inv X pins σ H1 s2) (T : Turn X.prog X.w X.K tg J fp it tn) (st : tn 0 s2.heap) (hf : ∀ b ∈ fp, FpOk X pins H1 b)
    (h : ∀ D, H1 D = none → ∃ W : Nat → Nat → St → Hp → Prop, (∃ m, W 0 m (cmpSt X.N σ scope.names) (upd H1 D (.lst []))) ∧ ∀ i m σ2 H2, W i m σ2 H2 →
      (J.stop i H2 ∧ Q (.ref D) H2) ∨ (J.go i H2 ∧ ∀ x H3, J.yld i H2 x H3 → g x σ2 H3 fun σ4 H4 => tc σ4 H4 fun b H5 =>
        if b = true then te σ4 H5 fun v H6 => ∃ ys m', H6 D = some (.lst ys) ∧ ys.length < sizeLine ∧ m' < m ∧ W (i + 1) m' σ4 (upd H6 D (.lst (ys ++ [v]))) else ∃ m', m' < m ∧ W (i + 1) m' σ4 H5))
    (hRR : ∀ D C H' s' m, s'.heap.Ns C m → Inv X pins σ H' s' → FpOk X pins H' C → Q (.ref D) H' → RR (.ref D) C (.ok .next) s') :
    wpAny (model X.prog X.w) X.A (newList []) (fun acc s₃ => wpAny (model X.prog X.w) X.A (newFunctionEnv scope X.env.globals cl [] X.env.qual none .none (some X.env)) (fun cenv s₄ =>
      codeAny (model X.prog X.w) X.A (.compStart (.ListComp elt [⟨tg, iter, ifs, 0⟩] scope pos) 0 (.ref it) acc { cenv with scope := relabel scope X.env }) (RR acc cenv.locals) s₄) E s₃) E s2 := by
  refine wpAny_newObj_type ?_
  have I3 : Inv X pins σ (upd H1 s2.heap.objs.size (.lst [])) { s2 with heap := s2.heap.push { cls := .type "list", data := .seq ([] : List Value).toArray }, toks := s2.toks } := I.lnew (its := []) .nil (Nat.zero_le _)
  have hD : H1 s2.heap.objs.size = none := I.fresh
  obtain ⟨W, ⟨m0, w0⟩, turn⟩ := h _ hD
  generalize hs3 : ({ s2 with heap := s2.heap.push { cls := .type "list", data := .seq ([] : List Value).toArray }, toks := s2.toks } : Shared) = s3 at I3
  have kp3 : ∀ b o, s2.heap.get? b = some o → s3.heap.get? b = some o := fun b o e => by rw [← hs3]; exact Heap.get?_push_of_some _ e
  have fpD : ∀ b ∈ fp, b ≠ s2.heap.objs.size := fun b hb z => by
    obtain ⟨o, e, _⟩ := T.obj _ _ st b hb
    subst z
    exact Nat.lt_irrefl _ (Heap.lt_size e)
  have hf3 : ∀ b ∈ fp, FpOk X pins (upd H1 s2.heap.objs.size (.lst [])) b := fun b hb => ⟨by rw [upd_ne (fpD b hb)]; exact (hf b hb).1, (hf b hb).2⟩
  have st3 : tn 0 s3.heap := T.keep _ _ _ st fun b _ o e => kp3 b o e
  have lt3 : ∀ b ∈ fp, b < s3.heap.objs.size := fun b hb => by
    obtain ⟨o, e, _⟩ := T.obj _ _ st3 b hb
    exact Heap.lt_size e
  generalize hDD : s2.heap.objs.size = D at *
  refine wpAny_newFunctionEnv ok.nocell (by intro y hy; simp at hy) (fun h₁ hns₁ hsb₁ => ?_) ok.kind
  have kp4 : ∀ b o, s3.heap.get? b = some o → h₁.get? b = some o := fun b o e => hsb₁.extBut b o (fun z => by subst z; exact Nat.lt_irrefl _ (Heap.lt_size e)) (Heap.get?_push_of_some _ e)
  have I4 := inv_cmp (tk := s3.toks + ([] : List (Str × Value)).length) I3 ok hcl hcf hf3 lt3 (ns_lookup_nil hns₁) kp4
  generalize hs4 : ({ s3 with heap := h₁, toks := s3.toks + ([] : List (Str × Value)).length } : Shared) = s4 at I4
  have st4 : tn 0 s4.heap := by rw [← hs4]; exact T.keep _ _ _ st3 fun b _ o e => kp4 b o e
  show codeAny _ _ (.compStart (.ListComp elt [⟨tg, iter, ifs, 0⟩] scope pos) 0 (.ref it) (.ref D) (compEnvC scope cl s3.heap.objs.size X.env)) (RR (.ref D) s3.heap.objs.size) s4
  -- the block's own context
  generalize hX : X.cmp scope cl s3.heap.objs.size s3 (upd H1 D (.lst [])) fp = Y at I4
  have eA : Y.A = X.A := by rw [← hX]; rfl
  have eP : Y.prog = X.prog := by rw [← hX]; rfl
  have eW : Y.w = X.w := by rw [← hX]; rfl
  have eK : Y.K = X.K := by rw [← hX]; rfl
  have eC : Y.calm = true := by rw [← hX]; exact hc
  have eE : Y.env = compEnvC scope cl s3.heap.objs.size X.env := by rw [← hX]; rfl
  have eX : Y.xe = fun _ _ => False := by rw [← hX]; rfl
  have stat : ∀ {H' : Hp}, (∀ b ∈ fp, H' b = none) → ∀ b ∈ fp, FpOk Y [] H' b := fun {H'} hn b hb => by
    subst hX
    refine ⟨hn b hb, Nat.ne_of_lt (lt3 b hb), fun z => ?_, .inl hb, fun x c e => (hf3 b hb).2.2.2.2.1 x c (hcl _ _ e), fun p hp => absurd (show p ∈ ([] : List (Addr × Obj)) from hp) (by simp)⟩
    rcases List.mem_cons.mp (I3.stkSub b z) with q | q
    · exact (hf3 b hb).2.1 q
    · exact (hf3 b hb).2.2.1 q
  have loop : codeAny (model X.prog X.w) X.A (.compLoop (.ListComp elt [⟨tg, iter, ifs, 0⟩] scope pos) 0 (.ref it) (.ref D) (compEnvC scope cl s3.heap.objs.size X.env)) (RR (.ref D) s3.heap.objs.size) s4 := by
    refine codeAny_compLoop_listG (fun n s' => ∃ i σ' H', Inv Y [] σ' H' s' ∧ tn i s'.heap ∧ (∀ b ∈ fp, H' b = none) ∧ W i n σ' H') ?_ m0 ⟨0, _, _, I4, st4, fun b hb => (hf3 b hb).1, w0⟩
    rintro n s5 ⟨i, σ5, H5, I5, st5, fr5, w5⟩
    rcases turn i n σ5 H5 w5 with ⟨stop, qn⟩ | ⟨go, step⟩
    · have q := T.done Y eP eW eK eC i [] s5 σ5 H5 (fun _ _ => False) I5 (stat fr5) st5 stop
      rw [eA] at q
      refine thn q fun r s6 ⟨hr, I6⟩ => ?_
      subst hr
      obtain ⟨m6, hn6, _⟩ := I6.loc
      have hn6' : s6.heap.Ns s3.heap.objs.size m6 := by rw [eE] at hn6; exact hn6
      rw [← hX] at I6
      exact hRR D s3.heap.objs.size H5 s6 m6 hn6' (after_cmp I3 hf3 I6 (.refl ..)) (I3.fpOk (Nat.le_refl _) I6.free) qn
    · have q := T.item Y eP eW eK eC i [] s5 σ5 H5 (fun _ _ => False) I5 (stat fr5) st5 go
      rw [eA] at q
      refine thn q fun r s6 ⟨u, hr, h6⟩ => ?_
      subst hr
      refine thn h6 fun _ s7 ⟨x, H7, I7, r7, y7, st7, fr7⟩ => ?_
      have I7' := I7.pinned (stat fr7) (T.obj _ _ st7)
      have gg : PG Y tg g := by rw [← hX]; exact hg _ _ _ _ _
      have tt : PTs Y ifs tc := by rw [← hX]; exact ht _ _ _ _ _
      have ee : PE Y elt te := by rw [← hX]; exact he _ _ _ _ _
      have q1 := gg _ s7 σ5 H7 x u _ I7' r7 (step x H7 y7)
      rw [eA, eP, eW, eE, eX] at q1
      refine thn q1 fun _ s8 ⟨σ8, H8, I8, q8⟩ => ?_
      have q2 := tt _ s8 σ8 H8 _ I8 q8
      rw [eA, eP, eW, eE, eX] at q2
      refine thn q2 fun b s9 ⟨H9, I9, q9⟩ => ?_
      have again : ∀ {H10 : Hp} {s10 : Shared}, Inv Y ([] ++ pinsAt fp s7.heap) σ8 H10 s10 → (∃ m', m' < n ∧ W (i + 1) m' σ8 H10) → ∃ m, m < n ∧ ∃ i σ' H', Inv Y [] σ' H' s10 ∧ tn i s10.heap ∧ (∀ b ∈ fp, H' b = none) ∧ W i m σ' H' := fun {H10 s10} J10 ⟨m', hm, w10⟩ => by
        refine ⟨m', hm, i + 1, σ8, H10, J10.unpinned, T.keep _ _ _ st7 fun b hb o e => (pinsAt_get J10 hb e).1, fun b hb => ?_, w10⟩
        obtain ⟨o, e, _⟩ := T.obj _ _ st7 b hb
        exact (pinsAt_get J10 hb e).2
      cases b with
      | false =>
        rw [if_neg Bool.false_ne_true] at q9 ⊢
        exact again I9 q9
      | true =>
        rw [if_pos rfl] at q9 ⊢
        have q3 := ee _ s9 σ8 H9 _ I9 q9
        rw [eA, eP, eW, eE, eX] at q3
        refine thn q3 fun u9 s10 ⟨v, H10, I10, r10, ys, m', hys, hz, hm, w10⟩ => ?_
        have q4 := mt_append (X := Y) _ s10 σ8 H10 (.ref D) [v] (.ref D) [u9] (fun _ H' => H' = upd H10 D (.lst (ys ++ [v]))) I10 rfl (.cons r10 .nil) ⟨D, ys, v, rfl, rfl, hys, hz, rfl⟩
        rw [eA, eP, eW, eX] at q4
        refine thn q4 fun _ s11 ⟨_, H11, I11, _, e11⟩ => ?_
        subst e11
        exact again I11 ⟨m', hm, w10⟩
  exact codeAny_compStart_list loop (T.self X.A 0 s4 _ _ st4 loop)
theorem pe_lc {X : Cx} {elt tg iter : Expr} {ifs : List Expr} {scope : Scope} {pos : Pos} {wi : TI} {g : TG} {tc : TT} {te : TE} {sc : Scope} (hc : X.calm = true) (hsc : X.env.scope = sc) (hok : cmpB sc scope = true) (hi : PI X tg iter wi)
    (hg : ∀ cl C s₀ H₀ fp, PG (X.cmp scope cl C s₀ H₀ fp) tg g) (ht : ∀ cl C s₀ H₀ fp, PTs (X.cmp scope cl C s₀ H₀ fp) ifs tc) (he : ∀ cl C s₀ H₀ fp, PE (X.cmp scope cl C s₀ H₀ fp) elt te)
    (hs : ∀ x, foldedSetIterable iter X.env x = pure x := by intro _; rfl) : PE X (.ListComp elt [⟨tg, iter, ifs, 0⟩] scope pos) (tLC X.N scope.names wi g tc te) := by
  intro pins s σ H Q I h
  have ok := CmpOk.of (X := X) (hsc ▸ hok)
  obtain ⟨cl, e1, e2, e3⟩ := closureFor_some (scope := scope) (env := X.env) fun y hy hf => I.ok.has y.1 (ok.free y hy hf)
  rw [eval_ListComp]
  refine wpAny_comprehension_free (use := none) rfl hs e1 ok.kind (fun y hy hl => by rw [lookup_of_mem ok.nd hy, hl]) (thn (hi pins s σ H _ I h) fun v s1 h1 => thn h1 fun itv s2 h2 => ?_)
  obtain ⟨it, fp, tn, J, H2, e, I2, T, st2, f2, q⟩ := h2
  subst e
  refine block_lc (E := X.xe) (RR := fun acc C => compPost (model X.prog X.w) X.A X.xe none (EP X pins σ Q) acc C) hc ok hg ht he e2 e3 I2 T st2 f2 q ?_
  intro D C H' s' m hn hI f hQ
  exact ⟨m, hn, fun h' sb => ⟨.ref D, H', hI.but f sb, rfl, hQ⟩⟩
theorem ps_lc {X : Cx} {elt tg iter : Expr} {ifs : List Expr} {scope : Scope} {pos spos py : Pos} {wi : TI} {g : TG} {tc : TT} {te : TE} {i : Nat} {y : Str} (hN : X.N.Nodup) (hy : X.N[i]? = some y) (hyl : X.env.scope.names.lookup y = some .local)
    (hsw : swapsWith (.ListComp elt [⟨tg, iter, ifs, 0⟩] scope pos) (some (.Name y py)) spos.line X.env = pure true)
    {sc : Scope} (hc : X.calm = true) (hsc : X.env.scope = sc) (hok : cmpB sc scope = true) (hi : PI X tg iter wi)
    (hg : ∀ cl C s₀ H₀ fp, PG (X.cmp scope cl C s₀ H₀ fp) tg g) (ht : ∀ cl C s₀ H₀ fp, PTs (X.cmp scope cl C s₀ H₀ fp) ifs tc) (he : ∀ cl C s₀ H₀ fp, PE (X.cmp scope cl C s₀ H₀ fp) elt te)
    (hs : ∀ x, foldedSetIterable iter X.env x = pure x := by intro _; rfl) : PS X (.Assign [.Name y py] (.ListComp elt [⟨tg, iter, ifs, 0⟩] scope pos) spos) (tAsg (tLC X.N scope.names wi g tc te) (gName i)) := by
  intro pins s σ H D I h
  have ok := CmpOk.of (X := X) (hsc ▸ hok)
  obtain ⟨cl, e1, e2, e3⟩ := closureFor_some (scope := scope) (env := X.env) fun y hy hf => I.ok.has y.1 (ok.free y hy hf)
  rw [exec_Assign_Name_used _ _ _ _ hsw]
  refine wpAny_bind (wpAny_standAt (wpAny_bind ?_))
  show wpAny _ X.A (do let _ ← comprehension (.ListComp elt [⟨tg, iter, ifs, 0⟩] scope pos) scope X.env _ (newList []) false (eval iter X.env) (some (assign (.Name y py) X.env))) _ _ s
  have hh : tLC X.N scope.names wi g tc te σ H fun x H1 => D.nx (σ.set i (some x)) H1 := h
  refine wpAny_bind (wpAny_mono (wpAny_comprehension_free (use := some (assign (.Name y py) X.env)) (Q := fun _ s' => SP X pins D .next s') rfl hs e1 ok.kind (fun y hy hl => by rw [lookup_of_mem ok.nd hy, hl])
    (thn (hi pins s σ H _ I hh) fun v s1 h1 => thn h1 fun itv s2 h2 => ?_)) (fun _ s' hq => wpAny_pure (wpAny_pure hq)) fun _ _ e => e)
  obtain ⟨it, fp, tn, J, H2, e, I2, T, st2, f2, q⟩ := h2
  subst e
  refine block_lc (Q := fun x H1 => D.nx (σ.set i (some x)) H1) (E := X.xe) (RR := fun acc C => compPost (model X.prog X.w) X.A X.xe (some (assign (.Name y py) X.env)) (fun _ s' => SP X pins D .next s') acc C) hc ok hg ht he e2 e3 I2 T st2 f2 q ?_
  intro D' C H' s' m hn I' f hQ
  refine wpAny_assign_Name (store_ok2 I' hN hy (.inl hyl) (v := .ref D') rfl (fun s'' I'' hd => ?_) (.inr hyl))
  obtain ⟨a, sb, ha⟩ := hd
  have hne : C ≠ a := by
    rcases ha with rfl | ha
    · exact f.2.1
    · exact fun z => f.2.2.2.2.1 y a ha z.symm
  exact ⟨m, hn.sameBut sb hne, fun h' sb' => ⟨_, H', I''.but f sb', hQ⟩⟩
end L2
namespace L2
open PySem PySem.Spec PyProof.Rows
section
variable {X : Cx}
theorem set_add {pins : List (Addr × Obj)} {s : Shared} {σ : St} {H : Hp} {D : Addr} {S : Int → Bool} {n : Nat} {k : Int} {u : Value} {Q : VK} {E : Value → Shared → Prop} (I : Inv X pins σ H s) (hD : H D = some (.set S n)) (r : RelV (.int k) u) (hb : n + 1 < scanBound)
    (q : Q .non (upd H D (.set (fun k' => S k' || decide (k' = k)) (if S k then n else n + 1)))) : wpAny (model X.prog X.w) X.A (call (.builtin "set.add") [.ref D, u]) (EP X pins σ Q) E s := by
  obtain ⟨t, rfl⟩ := r
  have hS : s.heap.SetOf (intKind X.prog X.w) D S n := I.hok D _ hD
  refine call_set_add (knd := intKind X.prog X.w) (k := k) (by simp [intKind, Value.isInt]) rfl hS hb fun h' sb hS' => ?_
  refine ⟨.non, _, I.write (o := .set (fun k' => S k' || decide (k' = k)) (if S k then n else n + 1)) (t' := s.toks + 1) (x := D) (e := D) (by rw [hD]; exact trivial) (.inl rfl) (fun b u hb e => sb.extBut b u hb e) ?_ hS', rfl, q⟩
  obtain ⟨o, _, _, _, e, _⟩ := hS'
  exact ⟨o, e⟩
theorem call_len_setI : CallR X (.builtin "len") (fun xs H Q => ∃ p S n, xs = [.ref p] ∧ H p = some (.set S n) ∧ Q (.int n) H) := by
  intro pins s σ H xs us Q I r h
  obtain ⟨p, S, n, rfl, hp, q⟩ := h
  obtain ⟨u, rfl, ru⟩ := vals1 r
  cases (show u = Value.ref p from ru)
  obtain ⟨o, es, ep, t, e, hex, hd, _, _, hb, hf, hn⟩ := (show s.heap.SetOf (intKind X.prog X.w) p S n from I.hok p _ hp)
  subst hn
  refine call_len_set e hex hd hf ?_ ⟨.int es.size, H, I.tok _, ⟨_, rfl⟩, q⟩
  have : es.size < 4096 := hb
  omega
theorem vals_bl : ∀ {bs : List Bool} {us : List Value}, Vals (bs.map V.bl) us → us = bs.map Value.bool
  | [], _, .nil => rfl
  | b :: r, _, .cons h t => by rw [List.map_cons, ← vals_bl t, (show _ = Value.bool b from h)]
theorem range_allB (bs : List Bool) : ((List.range bs.length).all fun i => (bs[i]?).getD true) = bs.all id := by
  rw [Bool.eq_iff_iff, List.all_eq_true, List.all_eq_true]
  constructor
  · intro h b hb
    obtain ⟨i, hi, rfl⟩ := List.mem_iff_getElem.mp hb
    have := h i (List.mem_range.mpr hi)
    simpa [hi] using this
  · intro h i hi
    have hi' := List.mem_range.mp hi
    have := h bs[i] (List.getElem_mem hi')
    simpa [hi'] using this
theorem call_allB (hc : X.calm = true) : CallR X (.builtin "all") (fun xs H Q => ∃ (p : Addr) (bs : List Bool), xs = [.ref p] ∧ SqL X.K H p (bs.map V.bl) ∧ Q (.bl (bs.all id)) H) := by
  intro pins s σ H xs us Q I r h
  obtain ⟨l, bs, rfl, hp, q⟩ := h
  obtain ⟨u, rfl, ru⟩ := vals1 r
  cases (show u = Value.ref l from ru)
  obtain ⟨its, rv, pl, hz⟩ := I.list hp
  have ei := vals_bl rv
  subst ei
  have hl := pl.isList
  have hlt : l < s.heap.objs.size := by obtain ⟨_, e, _⟩ := hl; exact Heap.lt_size e
  refine call_all_walk (wpAny_pyIter_list hl ?_)
  refine ⟨s.heap.objs.size, [s.heap.objs.size, l], [s.heap.objs.size], (bs.map Value.bool).toArray.size, _, _, fun i => (bs[i]?).getD true, rfl, Walks.list (A := X.A.in1) (I.ok.hd hc) _ l (Nat.ne_of_lt hlt) (bs.map Value.bool).toArray,
    ⟨⟨_, Heap.get?_push_size _ rfl, rfl, rfl⟩, hl.push _⟩, fun i v s' Q' E' hP hQ => ?_, fun h' tk hk => ?_⟩
  · have hP' : (bs.map Value.bool)[i]? = some v := by simpa using hP
    rw [List.getElem?_map] at hP'
    cases e : bs[i]? with
    | none => rw [e] at hP'; cases hP'
    | some b =>
      rw [e] at hP'
      simp only [Option.map_some, Option.some.injEq] at hP'
      subst hP'
      simp only [e, Option.getD_some] at hQ
      exact wpAny_truthy_bool hQ
  · have e : ((List.range (bs.map Value.bool).toArray.size).all fun i => (bs[i]?).getD true) = bs.all id := by
      rw [List.size_toArray, List.length_map]; exact range_allB bs
    rw [e]
    exact ⟨.bl (bs.all id), H, I.kept (PyProof.Rows.LSm.kept_iter hk), rfl, q⟩
theorem call_isi {T : String} {b : Bool} {t : Value} {x : V} {pins : List (Addr × Obj)} {s : Shared} {σ : St} {H : Hp} {u : Value} {Q : VK} {E : Value → Shared → Prop} (I : Inv X pins σ H s) (rx : RelV x u) (ty : TyOf X.K H x t) (e : PySem.W.kitOne X.K t (.type T) = some b) (q : Q (.bl b) H) :
    wpAny (model X.prog X.w) X.A (call (.builtin "isinstance") [u, .type T]) (EP X pins σ Q) E s :=
  isinst_ok I rx ty e fun tk => ⟨.bl b, H, I.tok tk, rfl, q⟩
theorem call_isiR : CallR X (.builtin "isinstance") (fun xs H Q => ∃ (x : V) (T : String) (t : Value) (b : Bool), xs = [x, .ty T] ∧ TyOf X.K H x t ∧ PySem.W.kitOne X.K t (.type T) = some b ∧ Q (.bl b) H) := by
  intro pins s σ H xs us Q I r h
  obtain ⟨x, T, t, b, rfl, ty, e, q⟩ := h
  obtain ⟨u, w', rfl, ru, rw'⟩ := vals2 r
  cases (show w' = Value.type T from rw')
  exact call_isi I ru ty e q
def rEqL (K : PySem.W.Frag) : R2 := fun x y H Q => ∃ (a b : Addr) (ns ms : List Int), x = .ref a ∧ y = .ref b ∧ SqL K H a (ns.map V.int) ∧ SqL K H b (ms.map V.int) ∧ Q (.bl (decide (ns = ms))) H
theorem op_eqL (hu : X.A.units + 64 < cLine) : OpR X (compareOp .Eq) (rEqL X.K) := by
  intro pins s σ H x y v u Q I rx ry h
  obtain ⟨a, b, ns, ms, rfl, rfl, ha, hb, q⟩ := h
  cases (show v = Value.ref a from rx)
  cases (show u = Value.ref b from ry)
  obtain ⟨its, rv, pl, _⟩ := I.list ha
  obtain ⟨its2, rv2, pl2, _⟩ := I.list hb
  exact PySem.W.eq_intsK pl.isList (L2.intsAre_of rv) pl2.isList (L2.intsAre_of rv2) hu ⟨.bl _, H, I, rfl, q⟩
end
def tSC (N : List Str) (names : List (Str × NameKind)) (wi : TI) (g : TG) (tc : TT) (te : TE) : TE := fun σ H Q => wi σ H fun J H1 => ∀ D, H1 D = none →
  ∃ W : Nat → Nat → St → Hp → Prop, (∃ m, W 0 m (cmpSt N σ names) (upd H1 D (.set (fun _ => false) 0))) ∧ ∀ i m σ2 H2, W i m σ2 H2 →
    (J.stop i H2 ∧ Q (.ref D) H2) ∨ (J.go i H2 ∧ ∀ x H3, J.yld i H2 x H3 → g x σ2 H3 fun σ4 H4 => tc σ4 H4 fun b H5 =>
      if b = true then te σ4 H5 fun v H6 => ∃ k S n m', v = .int k ∧ H6 D = some (.set S n) ∧ n + 1 < scanBound ∧ m' < m ∧ W (i + 1) m' σ4 (upd H6 D (.set (fun k' => S k' || decide (k' = k)) (if S k then n else n + 1))) else ∃ m', m' < m ∧ W (i + 1) m' σ4 H5)
theorem block_sc {X : Cx} {elt tg iter : Expr} {ifs : List Expr} {scope : Scope} {pos : Pos} {g : TG} {tc : TT} {te : TE} (hc : X.calm = true) (ok : CmpOk X scope)
    (hg : ∀ cl C s₀ H₀ fp, PG (X.cmp scope cl C s₀ H₀ fp) tg g) (ht : ∀ cl C s₀ H₀ fp, PTs (X.cmp scope cl C s₀ H₀ fp) ifs tc) (he : ∀ cl C s₀ H₀ fp, PE (X.cmp scope cl C s₀ H₀ fp) elt te)
    {pins : List (Addr × Obj)} {σ : St} {H1 : Hp} {s2 : Shared} {cl : List (Str × Addr)} {it : Addr} {fp : List Addr} {tn : Nat → Heap → Prop} {J : It} {Q : VK} {E : Value → Shared → Prop} {RR : Value → Addr → Result → Shared → Prop}
    (hcl : ∀ x c, cl.lookup x = some c → X.env.cells.lookup x = some c) (hcf : ∀ y ∈ scope.names, y.2 = .free → ∃ c, cl.lookup y.1 = some c)
    (I : Inv X pins σ H1 s2) (T : Turn X.prog X.w X.K tg J fp it tn) (st : tn 0 s2.heap) (hf : ∀ b ∈ fp, FpOk X pins H1 b)
    (h : ∀ D, H1 D = none → ∃ W : Nat → Nat → St → Hp → Prop, (∃ m, W 0 m (cmpSt X.N σ scope.names) (upd H1 D (.set (fun _ => false) 0))) ∧ ∀ i m σ2 H2, W i m σ2 H2 →
      (J.stop i H2 ∧ Q (.ref D) H2) ∨ (J.go i H2 ∧ ∀ x H3, J.yld i H2 x H3 → g x σ2 H3 fun σ4 H4 => tc σ4 H4 fun b H5 =>
        if b = true then te σ4 H5 fun v H6 => ∃ k S n m', v = .int k ∧ H6 D = some (.set S n) ∧ n + 1 < scanBound ∧ m' < m ∧ W (i + 1) m' σ4 (upd H6 D (.set (fun k' => S k' || decide (k' = k)) (if S k then n else n + 1))) else ∃ m', m' < m ∧ W (i + 1) m' σ4 H5))
    (hRR : ∀ D C H' s' m, s'.heap.Ns C m → Inv X pins σ H' s' → FpOk X pins H' C → Q (.ref D) H' → RR (.ref D) C (.ok .next) s') :
    wpAny (model X.prog X.w) X.A (newSet (.type "set")) (fun acc s₃ => wpAny (model X.prog X.w) X.A (newFunctionEnv scope X.env.globals cl [] X.env.qual none .none (some X.env)) (fun cenv s₄ =>
      codeAny (model X.prog X.w) X.A (.compStart (.SetComp elt [⟨tg, iter, ifs, 0⟩] scope pos) 0 (.ref it) acc { cenv with scope := relabel scope X.env }) (RR acc cenv.locals) s₄) E s₃) E s2 := by
  refine wpAny_newSet_of (knd := intKind X.prog X.w) fun led hS0 => ?_
  have I3 : Inv X pins σ (upd H1 s2.heap.objs.size (.set (fun _ => false) 0)) { s2 with heap := s2.heap.push { cls := .type "set", dict := none, data := .set #[] 0 (.fresh 0 0 led) }, toks := s2.toks } := I.laid (t' := s2.toks) (fun b u e => Heap.get?_push_of_some _ e) (Nat.le_refl _) hS0
  have hD : H1 s2.heap.objs.size = none := I.fresh
  obtain ⟨W, ⟨m0, w0⟩, turn⟩ := h _ hD
  generalize hs3 : ({ s2 with heap := s2.heap.push { cls := .type "set", dict := none, data := .set #[] 0 (.fresh 0 0 led) }, toks := s2.toks } : Shared) = s3 at I3
  have kp3 : ∀ b o, s2.heap.get? b = some o → s3.heap.get? b = some o := fun b o e => by rw [← hs3]; exact Heap.get?_push_of_some _ e
  have fpD : ∀ b ∈ fp, b ≠ s2.heap.objs.size := fun b hb z => by
    obtain ⟨o, e, _⟩ := T.obj _ _ st b hb
    subst z
    exact Nat.lt_irrefl _ (Heap.lt_size e)
  have hf3 : ∀ b ∈ fp, FpOk X pins (upd H1 s2.heap.objs.size (.set (fun _ => false) 0)) b := fun b hb => ⟨by rw [upd_ne (fpD b hb)]; exact (hf b hb).1, (hf b hb).2⟩
  have st3 : tn 0 s3.heap := T.keep _ _ _ st fun b _ o e => kp3 b o e
  have lt3 : ∀ b ∈ fp, b < s3.heap.objs.size := fun b hb => by
    obtain ⟨o, e, _⟩ := T.obj _ _ st3 b hb
    exact Heap.lt_size e
  generalize hDD : s2.heap.objs.size = D at *
  refine wpAny_newFunctionEnv ok.nocell (by intro y hy; simp at hy) (fun h₁ hns₁ hsb₁ => ?_) ok.kind
  have kp4 : ∀ b o, s3.heap.get? b = some o → h₁.get? b = some o := fun b o e => hsb₁.extBut b o (fun z => by subst z; exact Nat.lt_irrefl _ (Heap.lt_size e)) (Heap.get?_push_of_some _ e)
  have I4 := inv_cmp (tk := s3.toks + ([] : List (Str × Value)).length) I3 ok hcl hcf hf3 lt3 (ns_lookup_nil hns₁) kp4
  generalize hs4 : ({ s3 with heap := h₁, toks := s3.toks + ([] : List (Str × Value)).length } : Shared) = s4 at I4
  have st4 : tn 0 s4.heap := by rw [← hs4]; exact T.keep _ _ _ st3 fun b _ o e => kp4 b o e
  show codeAny _ _ (.compStart (.SetComp elt [⟨tg, iter, ifs, 0⟩] scope pos) 0 (.ref it) (.ref D) (compEnvC scope cl s3.heap.objs.size X.env)) (RR (.ref D) s3.heap.objs.size) s4
  -- the block's own context
  generalize hX : X.cmp scope cl s3.heap.objs.size s3 (upd H1 D (.set (fun _ => false) 0)) fp = Y at I4
  have eA : Y.A = X.A := by rw [← hX]; rfl
  have eP : Y.prog = X.prog := by rw [← hX]; rfl
  have eW : Y.w = X.w := by rw [← hX]; rfl
  have eK : Y.K = X.K := by rw [← hX]; rfl
  have eC : Y.calm = true := by rw [← hX]; exact hc
  have eE : Y.env = compEnvC scope cl s3.heap.objs.size X.env := by rw [← hX]; rfl
  have eX : Y.xe = fun _ _ => False := by rw [← hX]; rfl
  have stat : ∀ {H' : Hp}, (∀ b ∈ fp, H' b = none) → ∀ b ∈ fp, FpOk Y [] H' b := fun {H'} hn b hb => by
    subst hX
    refine ⟨hn b hb, Nat.ne_of_lt (lt3 b hb), fun z => ?_, .inl hb, fun x c e => (hf3 b hb).2.2.2.2.1 x c (hcl _ _ e), fun p hp => absurd (show p ∈ ([] : List (Addr × Obj)) from hp) (by simp)⟩
    rcases List.mem_cons.mp (I3.stkSub b z) with q | q
    · exact (hf3 b hb).2.1 q
    · exact (hf3 b hb).2.2.1 q
  have loop : codeAny (model X.prog X.w) X.A (.compLoop (.SetComp elt [⟨tg, iter, ifs, 0⟩] scope pos) 0 (.ref it) (.ref D) (compEnvC scope cl s3.heap.objs.size X.env)) (RR (.ref D) s3.heap.objs.size) s4 := by
    refine codeAny_compLoop_setG (fun n s' => ∃ i σ' H', Inv Y [] σ' H' s' ∧ tn i s'.heap ∧ (∀ b ∈ fp, H' b = none) ∧ W i n σ' H') ?_ m0 ⟨0, _, _, I4, st4, fun b hb => (hf3 b hb).1, w0⟩
    rintro n s5 ⟨i, σ5, H5, I5, st5, fr5, w5⟩
    rcases turn i n σ5 H5 w5 with ⟨stop, qn⟩ | ⟨go, step⟩
    · have q := T.done Y eP eW eK eC i [] s5 σ5 H5 (fun _ _ => False) I5 (stat fr5) st5 stop
      rw [eA] at q
      refine thn q fun r s6 ⟨hr, I6⟩ => ?_
      subst hr
      obtain ⟨m6, hn6, _⟩ := I6.loc
      have hn6' : s6.heap.Ns s3.heap.objs.size m6 := by rw [eE] at hn6; exact hn6
      rw [← hX] at I6
      exact hRR D s3.heap.objs.size H5 s6 m6 hn6' (after_cmp I3 hf3 I6 (.refl ..)) (I3.fpOk (Nat.le_refl _) I6.free) qn
    · have q := T.item Y eP eW eK eC i [] s5 σ5 H5 (fun _ _ => False) I5 (stat fr5) st5 go
      rw [eA] at q
      refine thn q fun r s6 ⟨u, hr, h6⟩ => ?_
      subst hr
      refine thn h6 fun _ s7 ⟨x, H7, I7, r7, y7, st7, fr7⟩ => ?_
      have I7' := I7.pinned (stat fr7) (T.obj _ _ st7)
      have gg : PG Y tg g := by rw [← hX]; exact hg _ _ _ _ _
      have tt : PTs Y ifs tc := by rw [← hX]; exact ht _ _ _ _ _
      have ee : PE Y elt te := by rw [← hX]; exact he _ _ _ _ _
      have q1 := gg _ s7 σ5 H7 x u _ I7' r7 (step x H7 y7)
      rw [eA, eP, eW, eE, eX] at q1
      refine thn q1 fun _ s8 ⟨σ8, H8, I8, q8⟩ => ?_
      have q2 := tt _ s8 σ8 H8 _ I8 q8
      rw [eA, eP, eW, eE, eX] at q2
      refine thn q2 fun b s9 ⟨H9, I9, q9⟩ => ?_
      have again : ∀ {H10 : Hp} {s10 : Shared}, Inv Y ([] ++ pinsAt fp s7.heap) σ8 H10 s10 → (∃ m', m' < n ∧ W (i + 1) m' σ8 H10) → ∃ m, m < n ∧ ∃ i σ' H', Inv Y [] σ' H' s10 ∧ tn i s10.heap ∧ (∀ b ∈ fp, H' b = none) ∧ W i m σ' H' := fun {H10 s10} J10 ⟨m', hm, w10⟩ => by
        refine ⟨m', hm, i + 1, σ8, H10, J10.unpinned, T.keep _ _ _ st7 fun b hb o e => (pinsAt_get J10 hb e).1, fun b hb => ?_, w10⟩
        obtain ⟨o, e, _⟩ := T.obj _ _ st7 b hb
        exact (pinsAt_get J10 hb e).2
      cases b with
      | false =>
        rw [if_neg Bool.false_ne_true] at q9 ⊢
        exact again I9 q9
      | true =>
        rw [if_pos rfl] at q9 ⊢
        have q3 := ee _ s9 σ8 H9 _ I9 q9
        rw [eA, eP, eW, eE, eX] at q3
        refine thn q3 fun u9 s10 ⟨v, H10, I10, r10, k, S, n', m', hv, hys, hz, hm, w10⟩ => ?_
        subst hv
        have q4 := set_add (X := Y) (E := Y.xe) (Q := fun _ H' => H' = upd H10 D (.set (fun k' => S k' || decide (k' = k)) (if S k then n' else n' + 1))) I10 hys r10 hz rfl
        rw [eA, eP, eW, eX] at q4
        refine thn q4 fun _ s11 ⟨_, H11, I11, _, e11⟩ => ?_
        subst e11
        exact again I11 ⟨m', hm, w10⟩
  exact codeAny_compStart_set loop (T.self X.A 0 s4 _ _ st4 loop)
theorem pe_sc {X : Cx} {elt tg iter : Expr} {ifs : List Expr} {scope : Scope} {pos : Pos} {wi : TI} {g : TG} {tc : TT} {te : TE} {sc : Scope} (hc : X.calm = true) (hsc : X.env.scope = sc) (hok : cmpB sc scope = true) (hi : PI X tg iter wi)
    (hg : ∀ cl C s₀ H₀ fp, PG (X.cmp scope cl C s₀ H₀ fp) tg g) (ht : ∀ cl C s₀ H₀ fp, PTs (X.cmp scope cl C s₀ H₀ fp) ifs tc) (he : ∀ cl C s₀ H₀ fp, PE (X.cmp scope cl C s₀ H₀ fp) elt te)
    (hs : ∀ x, foldedSetIterable iter X.env x = pure x := by intro _; rfl) : PE X (.SetComp elt [⟨tg, iter, ifs, 0⟩] scope pos) (tSC X.N scope.names wi g tc te) := by
  intro pins s σ H Q I h
  have ok := CmpOk.of (X := X) (hsc ▸ hok)
  obtain ⟨cl, e1, e2, e3⟩ := closureFor_some (scope := scope) (env := X.env) fun y hy hf => I.ok.has y.1 (ok.free y hy hf)
  show wpAny _ _ (comprehension (.SetComp elt [⟨tg, iter, ifs, 0⟩] scope pos) scope X.env _ (newSet (.type "set")) false (eval iter X.env)) _ _ s
  refine wpAny_comprehension_free (use := none) rfl hs e1 ok.kind (fun y hy hl => by rw [lookup_of_mem ok.nd hy, hl]) (thn (hi pins s σ H _ I h) fun v s1 h1 => thn h1 fun itv s2 h2 => ?_)
  obtain ⟨it, fp, tn, J, H2, e, I2, T, st2, f2, q⟩ := h2
  subst e
  refine block_sc (E := X.xe) (RR := fun acc C => compPost (model X.prog X.w) X.A X.xe none (EP X pins σ Q) acc C) hc ok hg ht he e2 e3 I2 T st2 f2 q ?_
  intro D C H' s' m hn hI f hQ
  exact ⟨m, hn, fun h' sb => ⟨.ref D, H', hI.but f sb, rfl, hQ⟩⟩
end L2
namespace L2
open PySem PySem.Spec PyProof.Rows
theorem same_upd {H : Hp} {D : Addr} {o : HO} (h : H D = none) : Same H (upd H D o) := fun b u e => by rw [upd_ne (ne_of_none e h)]; exact e
theorem Same.tupS {K : PySem.W.Frag} {H H' : Hp} {a : Addr} {xs : List V} (e : Same H H') (h : SqT K H a xs) : SqT K H' a xs := by
  rcases h with (h | ⟨o, h⟩) | h
  · exact .inl (.inl (e _ _ h))
  · exact .inl (.inr ⟨o, e _ _ h⟩)
  · exact .inr h
def ItOf (J : It) (H1 : Hp) (xs : List V) : Prop := ∀ H2, Same H1 H2 → ∀ i, (i < xs.length → J.go i H2 ∧ ∀ x H3, J.yld i H2 x H3 → H3 = H2 ∧ xs[i]? = some x) ∧ (i = xs.length → J.stop i H2)
theorem itOf_tup {K : PySem.W.Frag} {H : Hp} {a : Addr} {xs : List V} (h : SqT K H a xs) : ItOf (Itt K a) H xs := fun H2 s i =>
  ⟨fun hi => ⟨⟨xs, xs[i], s.tupS h, by simp [hi]⟩, fun x H3 y => ⟨y.1, y.2 xs (s.tupS h)⟩⟩, fun e => ⟨xs, s.tupS h, by omega⟩⟩
def rngV (lo : Int) (n : Nat) : List V := (List.range n).map fun i => V.int (lo + (i : Nat))
theorem rngV_len (lo : Int) (n : Nat) : (rngV lo n).length = n := by unfold rngV; simp
theorem itOf_rng {H : Hp} (lo : Int) (n : Nat) : ItOf (Itr lo n) H (rngV lo n) := fun H2 s i =>
  ⟨fun hi => ⟨by rw [rngV_len] at hi; exact hi, fun x H3 y => ⟨y.1, by
    rw [rngV_len] at hi
    unfold rngV
    rw [List.getElem?_map, List.getElem?_range hi, y.2]; rfl⟩⟩, fun e => by rw [rngV_len] at e; exact Nat.le_of_eq e.symm⟩
theorem take_snoc {α : Type} {xs : List α} {i : Nat} {x : α} (h : xs[i]? = some x) : xs.take (i + 1) = xs.take i ++ [x] := by
  rw [List.take_add_one, h]; rfl
theorem lc_pure {J : It} {H1 : Hp} {xs : List V} {g : TG} {tc : TT} {te : TE} {σ0 : St} {Q : Addr → Hp → Prop} (hJ : ItOf J H1 xs) (S : St → Prop) (p : V → Bool) (f : V → V) (h0 : S σ0) (hz : xs.length ≤ sizeLine)
    (hs : ∀ (x : V) (σ2 : St) (H2 : Hp) (Qt : St → V → Hp → Prop) (Qf : St → Hp → Prop), x ∈ xs → Same H1 H2 → S σ2 → (p x = true → ∀ σ4, S σ4 → Qt σ4 (f x) H2) → (p x = false → ∀ σ4, S σ4 → Qf σ4 H2) →
      g x σ2 H2 fun σ4 H4 => tc σ4 H4 fun b H5 => if b = true then te σ4 H5 fun v H6 => Qt σ4 v H6 else Qf σ4 H5)
    (hQ : ∀ D, H1 D = none → Q D (upd H1 D (.lst ((xs.filter p).map f)))) :
    ∀ D, H1 D = none → ∃ W : Nat → Nat → St → Hp → Prop, (∃ m, W 0 m σ0 (upd H1 D (.lst []))) ∧ ∀ i m σ2 H2, W i m σ2 H2 →
      (J.stop i H2 ∧ Q D H2) ∨ (J.go i H2 ∧ ∀ x H3, J.yld i H2 x H3 → g x σ2 H3 fun σ4 H4 => tc σ4 H4 fun b H5 =>
        if b = true then te σ4 H5 fun v H6 => ∃ ys m', H6 D = some (.lst ys) ∧ ys.length < sizeLine ∧ m' < m ∧ W (i + 1) m' σ4 (upd H6 D (.lst (ys ++ [v]))) else ∃ m', m' < m ∧ W (i + 1) m' σ4 H5) := by
  intro D hD
  refine ⟨fun i m σ2 H2 => i ≤ xs.length ∧ m = xs.length - i ∧ S σ2 ∧ H2 = upd H1 D (.lst (((xs.take i).filter p).map f)), ⟨xs.length, Nat.zero_le _, by omega, h0, by simp⟩, ?_⟩
  rintro i m σ2 H2 ⟨hi, rfl, hS, rfl⟩
  obtain ⟨j1, j2⟩ := hJ _ (same_upd hD) i
  by_cases hlt : i < xs.length
  · obtain ⟨go, yl⟩ := j1 hlt
    refine .inr ⟨go, fun x H3 y => ?_⟩
    obtain ⟨rfl, hx⟩ := yl x H3 y
    have et := take_snoc hx
    refine hs x σ2 _ _ _ (List.mem_of_getElem? hx) (same_upd hD) hS (fun hp σ4 h4 => ?_) fun hp σ4 h4 => ?_
    · refine ⟨_, xs.length - (i + 1), upd_same, ?_, by omega, hlt, rfl, h4, ?_⟩
      · rw [List.length_map]
        have := List.length_filter_le p (xs.take i)
        rw [List.length_take] at this
        omega
      · rw [upd_upd, et, List.filter_append, List.map_append, List.filter_cons, hp]; rfl
    · refine ⟨xs.length - (i + 1), by omega, hlt, rfl, h4, ?_⟩
      rw [et, List.filter_append, List.filter_cons, hp]
      simp
  · have e : i = xs.length := by omega
    refine .inl ⟨j2 e, ?_⟩
    subst e
    rw [List.take_length]
    exact hQ D hD
def dset (ks : List Int) : (Int → Bool) × Nat := ks.foldl (fun a k => (fun k' => a.1 k' || decide (k' = k), if a.1 k then a.2 else a.2 + 1)) (fun _ => false, 0)
theorem dset_snoc (ks : List Int) (k : Int) : dset (ks ++ [k]) = (fun k' => (dset ks).1 k' || decide (k' = k), if (dset ks).1 k then (dset ks).2 else (dset ks).2 + 1) := by
  unfold dset; rw [List.foldl_append]; rfl
theorem revInd {P : List Int → Prop} (h0 : P []) (hs : ∀ l a, P l → P (l ++ [a])) (l : List Int) : P l := by
  have key : ∀ r : List Int, P r.reverse := fun r => by
    induction r with
    | nil => exact h0
    | cons a r ih => rw [List.reverse_cons]; exact hs _ _ ih
  rw [← List.reverse_reverse l]; exact key _
theorem dset_mem (ks : List Int) (k : Int) : (dset ks).1 k = true ↔ k ∈ ks := by
  revert k
  induction ks using revInd with
  | h0 => intro k; simp [dset]
  | hs l a ih => intro k; rw [dset_snoc]; simp [ih]
theorem dset_le (ks : List Int) : (dset ks).2 ≤ ks.length := by
  induction ks using revInd with
  | h0 => simp [dset]
  | hs l a ih => rw [dset_snoc]; simp only [List.length_append, List.length_singleton]; split <;> omega
theorem nodup_snoc {l : List Int} {a : Int} : (l ++ [a]).Nodup ↔ l.Nodup ∧ a ∉ l := by
  rw [List.nodup_append]
  constructor
  · rintro ⟨h1, _, h3⟩; exact ⟨h1, fun h => h3 a h a (by simp) rfl⟩
  · rintro ⟨h1, h2⟩
    refine ⟨h1, by simp, fun x hx y hy e => ?_⟩
    simp at hy; subst hy; subst e; exact h2 hx
theorem dset_nodup (ks : List Int) : (dset ks).2 = ks.length ↔ ks.Nodup := by
  induction ks using revInd with
  | h0 => simp [dset]
  | hs l a ih =>
    rw [dset_snoc, nodup_snoc, ← ih]
    have hle := dset_le l
    simp only [List.length_append, List.length_singleton]
    by_cases h : (dset l).1 a = true
    · rw [if_pos h]
      constructor
      · intro e; omega
      · rintro ⟨_, h2⟩; exact absurd ((dset_mem l a).mp h) h2
    · rw [if_neg h]
      constructor
      · intro e; exact ⟨by omega, fun h2 => h ((dset_mem l a).mpr h2)⟩
      · rintro ⟨e, _⟩; omega
end L2
namespace L2
open PySem PySem.Spec PyProof.Rows
theorem boot_ty_int : bootBuiltins "int" = some (.type "int") := by decide +kernel
theorem boot_ty_bool : bootBuiltins "bool" = some (.type "bool") := by decide +kernel
theorem boot_ty_list : bootBuiltins "list" = some (.type "list") := by decide +kernel
theorem boot_ty_tuple : bootBuiltins "tuple" = some (.type "tuple") := by decide +kernel
section
variable {X : Cx}
theorem pe_globI {x : Str} {i : Int} {pos : Pos} (hg : Gl X x) (hm : ∃ t, X.mg x = some (.int i t)) (hd : (x == ("__debug__" : Str)) = false := by decide) : PE X (.Name x pos) (tC (.int i)) := by
  obtain ⟨t, hm⟩ := hm
  exact pe_glob hg hm ⟨t, rfl⟩ hd
def rGetL (K : PySem.W.Frag) : V → V → Hp → VK → Prop := fun o i H Q => ∃ (p : Addr) (xs : List V) (j : Nat) (v : V), o = .ref p ∧ i = .int j ∧ SqL K H p xs ∧ xs[j]? = some v ∧ Q v H
theorem get_listG : PGet X (rGetL X.K) := by
  intro pins s σ H o i ov iv Q I ro ri h
  obtain ⟨p, xs, j, v, rfl, rfl, hp, hx, q⟩ := h
  cases (show ov = Value.ref p from ro)
  obtain ⟨t, rfl⟩ := ri
  obtain ⟨its, r, pl, hz⟩ := I.list hp
  obtain ⟨w, ew, rw'⟩ := r.get hx
  have hj : j < xs.length := by
    by_cases h : j < xs.length
    · exact h
    · rw [List.getElem?_eq_none (Nat.le_of_not_lt h)] at hx; cases hx
  have hn := line63
  exact wpAny_getItem_list pl.isList (Int.natCast_nonneg _) (by omega) (by simpa using ew) ⟨v, H, I, rw', q⟩
end
end L2
namespace L2
open PySem
theorem PSs.rd {X : Cx} {st : List Stmt} {t : TS} {D : Ends} {σ : St} {H : Hp} (h : PSs X st t) (q : t D σ H) : ∃ t, PSs X st t ∧ t D σ H := ⟨t, h, q⟩
end L2
namespace L2
open PySem
def tCut (t : TS) : TS := fun D σ H => ∃ M : L2.St → Hp → Prop, t { D with nx := M } σ H ∧ ∀ σ' H', M σ' H' → D.nx σ' H'
theorem ps_cut {X : Cx} {st : Stmt} {t : TS} (h : PS X st t) : PS X st (tCut t) := by
  intro pins s σ H D I q
  obtain ⟨M, q, hM⟩ := q
  refine thn (h pins s σ H _ I q) fun f s' r => ?_
  cases f with
  | next => obtain ⟨σ', H', I', m⟩ := r; exact ⟨σ', H', I', hM _ _ m⟩
  | brk => exact r
  | cont => exact r
  | ret u => exact r
end L2
namespace L2
theorem pj {j : Int} (h : decide ((0 : Int) < j) = true := by decide) : (0 : Int) < j := of_decide_eq_true h
theorem cdiv {x j : Int} (h : decide ((0 : Int) < j ∧ j < 1073741824) = true := by decide) : CDiv x j := by unfold CDiv; exact of_decide_eq_true h
theorem cmulR {x j : Int} (h : decide (-(2 ^ 64) < j ∧ j < 2 ^ 64) = true := by decide) : CMul x j := .inr (of_decide_eq_true h)
theorem cmulL {x j : Int} (h : decide (-(2 ^ 64) < x ∧ x < 2 ^ 64) = true := by decide) : CMul x j := .inl (of_decide_eq_true h)
end L2
namespace L2
open PySem PySem.Spec PyProof.Rows
theorem iteD {c A B : Prop} [Decidable c] (h1 : c → A) (h2 : ¬ c → B) : if decide c = true then A else B := by
  by_cases h : c
  · rw [if_pos (decide_eq_true h)]; exact h1 h
  · rw [if_neg (by rw [decide_eq_false h]; decide)]; exact h2 h
theorem iteND {c A B : Prop} [Decidable c] (h1 : ¬ c → A) (h2 : c → B) : if (!decide c) = true then A else B := by
  by_cases h : c
  · rw [if_neg (by rw [decide_eq_true h]; decide)]; exact h2 h
  · rw [if_pos (by rw [decide_eq_false h]; rfl)]; exact h1 h
theorem iteB {b : Bool} {A B : Prop} (h1 : b = true → A) (h2 : b = false → B) : if b = true then A else B := by
  cases b with
  | true => exact iteT (h1 rfl)
  | false => exact iteF (h2 rfl)
theorem iteNB {b : Bool} {A B : Prop} (h1 : b = false → A) (h2 : b = true → B) : if (!b) = true then A else B := by
  cases b with
  | true => exact iteF (h2 rfl)
  | false => exact iteT (h1 rfl)
theorem get_lt {α : Type} {xs : List α} {i : Nat} {x : α} (h : xs[i]? = some x) : i < xs.length := by
  by_cases q : i < xs.length
  · exact q
  · rw [List.getElem?_eq_none (Nat.le_of_not_lt q)] at h; cases h
theorem get_some {α : Type} {xs : List α} {i : Nat} (h : i < xs.length) : ∃ x, xs[i]? = some x := ⟨xs[i], by simp [h]⟩
theorem lc_by {J : It} {H1 : Hp} {xs ws : List V} {g : TG} {tc : TT} {te : TE} {σ0 : L2.St} {Q : Addr → Hp → Prop} (hJ : ItOf J H1 xs) (S : L2.St → Prop) (h0 : S σ0) (hw : ws.length = xs.length) (hz : xs.length ≤ sizeLine)
    (hs : ∀ (i : Nat) (x w : V) (σ2 : L2.St) (H2 : Hp) (Qt : L2.St → V → Hp → Prop) (Qf : L2.St → Hp → Prop), xs[i]? = some x → ws[i]? = some w → Same H1 H2 → S σ2 → (∀ σ4, S σ4 → Qt σ4 w H2) →
      g x σ2 H2 fun σ4 H4 => tc σ4 H4 fun b H5 => if b = true then te σ4 H5 fun v H6 => Qt σ4 v H6 else Qf σ4 H5)
    (hQ : ∀ D, H1 D = none → Q D (upd H1 D (.lst ws))) :
    ∀ D, H1 D = none → ∃ W : Nat → Nat → L2.St → Hp → Prop, (∃ m, W 0 m σ0 (upd H1 D (.lst []))) ∧ ∀ i m σ2 H2, W i m σ2 H2 →
      (J.stop i H2 ∧ Q D H2) ∨ (J.go i H2 ∧ ∀ x H3, J.yld i H2 x H3 → g x σ2 H3 fun σ4 H4 => tc σ4 H4 fun b H5 =>
        if b = true then te σ4 H5 fun v H6 => ∃ ys m', H6 D = some (.lst ys) ∧ ys.length < sizeLine ∧ m' < m ∧ W (i + 1) m' σ4 (upd H6 D (.lst (ys ++ [v]))) else ∃ m', m' < m ∧ W (i + 1) m' σ4 H5) := by
  intro D hD
  refine ⟨fun i m σ2 H2 => i ≤ xs.length ∧ m = xs.length - i ∧ S σ2 ∧ H2 = upd H1 D (.lst (ws.take i)), ⟨xs.length, Nat.zero_le _, by omega, h0, by simp⟩, ?_⟩
  rintro i m σ2 H2 ⟨hi, rfl, hS, rfl⟩
  obtain ⟨j1, j2⟩ := hJ _ (same_upd hD) i
  by_cases hlt : i < xs.length
  · obtain ⟨go, yl⟩ := j1 hlt
    refine .inr ⟨go, fun x H3 y => ?_⟩
    obtain ⟨rfl, hx⟩ := yl x H3 y
    obtain ⟨w, hw'⟩ := get_some (xs := ws) (i := i) (by omega)
    have et := take_snoc hw'
    refine hs i x w σ2 _ _ _ hx hw' (same_upd hD) hS fun σ4 h4 => ?_
    refine ⟨_, xs.length - (i + 1), upd_same, ?_, by omega, hlt, rfl, h4, ?_⟩
    · rw [List.length_take]; omega
    · rw [upd_upd, et]
  · have e : i = xs.length := by omega
    refine .inl ⟨j2 e, ?_⟩
    rw [e, ← hw, List.take_length]
    exact hQ D hD
theorem sc_by {J : It} {H1 : Hp} {xs : List V} {ks : List Int} {g : TG} {tc : TT} {te : TE} {σ0 : L2.St} {Q : Addr → Hp → Prop} (hJ : ItOf J H1 xs) (S : L2.St → Prop) (h0 : S σ0) (hw : ks.length = xs.length) (hz : xs.length < 4000)
    (hs : ∀ (i : Nat) (x : V) (k : Int) (σ2 : L2.St) (H2 : Hp) (Qt : L2.St → V → Hp → Prop) (Qf : L2.St → Hp → Prop), xs[i]? = some x → ks[i]? = some k → Same H1 H2 → S σ2 → (∀ σ4, S σ4 → Qt σ4 (.int k) H2) →
      g x σ2 H2 fun σ4 H4 => tc σ4 H4 fun b H5 => if b = true then te σ4 H5 fun v H6 => Qt σ4 v H6 else Qf σ4 H5)
    (hQ : ∀ D, H1 D = none → Q D (upd H1 D (.set (dset ks).1 (dset ks).2))) :
    ∀ D, H1 D = none → ∃ W : Nat → Nat → L2.St → Hp → Prop, (∃ m, W 0 m σ0 (upd H1 D (.set (fun _ => false) 0))) ∧ ∀ i m σ2 H2, W i m σ2 H2 →
      (J.stop i H2 ∧ Q D H2) ∨ (J.go i H2 ∧ ∀ x H3, J.yld i H2 x H3 → g x σ2 H3 fun σ4 H4 => tc σ4 H4 fun b H5 =>
        if b = true then te σ4 H5 fun v H6 => ∃ k S n m', v = .int k ∧ H6 D = some (.set S n) ∧ n + 1 < scanBound ∧ m' < m ∧ W (i + 1) m' σ4 (upd H6 D (.set (fun k' => S k' || decide (k' = k)) (if S k then n else n + 1))) else ∃ m', m' < m ∧ W (i + 1) m' σ4 H5) := by
  intro D hD
  refine ⟨fun i m σ2 H2 => i ≤ xs.length ∧ m = xs.length - i ∧ S σ2 ∧ H2 = upd H1 D (.set (dset (ks.take i)).1 (dset (ks.take i)).2), ⟨xs.length, Nat.zero_le _, by omega, h0, by simp [dset]⟩, ?_⟩
  rintro i m σ2 H2 ⟨hi, rfl, hS, rfl⟩
  obtain ⟨j1, j2⟩ := hJ _ (same_upd hD) i
  by_cases hlt : i < xs.length
  · obtain ⟨go, yl⟩ := j1 hlt
    refine .inr ⟨go, fun x H3 y => ?_⟩
    obtain ⟨rfl, hx⟩ := yl x H3 y
    obtain ⟨k, hk⟩ := get_some (xs := ks) (i := i) (by omega)
    have et := take_snoc hk
    refine hs i x k σ2 _ _ _ hx hk (same_upd hD) hS fun σ4 h4 => ?_
    refine ⟨k, _, _, xs.length - (i + 1), rfl, upd_same, ?_, by omega, hlt, rfl, h4, ?_⟩
    · have h1 := dset_le (ks.take i)
      rw [List.length_take] at h1
      show (dset (ks.take i)).2 + 1 < 4096
      omega
    · rw [upd_upd, et, dset_snoc]
  · have e : i = xs.length := by omega
    refine .inl ⟨j2 e, ?_⟩
    rw [e, ← hw, List.take_length]
    exact hQ D hD
def PairAt (K : PySem.W.Frag) (H : Hp) (v : V) (l : Int × Int) : Prop := ∃ q, v = .ref q ∧ SqT K H q [.int l.1, .int l.2]
structure PairsAt (K : PySem.W.Frag) (H : Hp) (vs : List V) (L : List (Int × Int)) : Prop where
  len : vs.length = L.length
  at_ : ∀ (i : Nat) (l : Int × Int), L[i]? = some l → ∃ v, vs[i]? = some v ∧ PairAt K H v l
structure LinesAt (K : PySem.W.Frag) (H : Hp) (p : Addr) (L : List (Int × Int)) : Prop where
  ex : ∃ vs, SqT K H p vs ∧ PairsAt K H vs L
theorem PairAt.same {K : PySem.W.Frag} {H H' : Hp} {v : V} {l : Int × Int} (h : PairAt K H v l) (s : Same H H') : PairAt K H' v l := let ⟨q, e, t⟩ := h; ⟨q, e, s.tupS t⟩
theorem PairsAt.same {K : PySem.W.Frag} {H H' : Hp} {vs : List V} {L : List (Int × Int)} (h : PairsAt K H vs L) (s : Same H H') : PairsAt K H' vs L :=
  ⟨h.len, fun i l e => let ⟨v, e1, e2⟩ := h.at_ i l e; ⟨v, e1, e2.same s⟩⟩
theorem LinesAt.same {K : PySem.W.Frag} {H H' : Hp} {p : Addr} {L : List (Int × Int)} (h : LinesAt K H p L) (s : Same H H') : LinesAt K H' p L := let ⟨vs, e1, e2⟩ := h.ex; ⟨vs, s.tupS e1, e2.same s⟩
theorem PairsAt.snoc {K : PySem.W.Frag} {H : Hp} {vs : List V} {L : List (Int × Int)} {v : V} {l : Int × Int} (h : PairsAt K H vs L) (p : PairAt K H v l) : PairsAt K H (vs ++ [v]) (L ++ [l]) := by
  refine ⟨by rw [List.length_append, List.length_append, h.len]; rfl, fun i m e => ?_⟩
  by_cases hi : i < L.length
  · rw [List.getElem?_append_left hi] at e
    obtain ⟨u, e1, e2⟩ := h.at_ i m e
    exact ⟨u, by rw [List.getElem?_append_left (by rw [h.len]; exact hi)]; exact e1, e2⟩
  · have hlt := get_lt e
    rw [List.length_append, List.length_singleton] at hlt
    have ei : i = L.length := by omega
    subst ei
    rw [List.getElem?_append_right (Nat.le_refl _), Nat.sub_self] at e
    simp at e; subst e
    exact ⟨v, by rw [List.getElem?_append_right (by rw [h.len]; exact Nat.le_refl _), h.len, Nat.sub_self]; rfl, p⟩
theorem PairsAt.get {K : PySem.W.Frag} {H : Hp} {vs : List V} {L : List (Int × Int)} {i : Nat} {v : V} (h : PairsAt K H vs L) (e : vs[i]? = some v) : ∃ l, L[i]? = some l ∧ PairAt K H v l := by
  have hi := get_lt e
  obtain ⟨l, hl⟩ := get_some (xs := L) (i := i) (by rw [← h.len]; exact hi)
  obtain ⟨u, e1, e2⟩ := h.at_ i l hl
  rw [e] at e1; cases e1
  exact ⟨l, hl, e2⟩
end L2
namespace L2
open PySem PySem.Spec PyProof.Rows
theorem pgc (i : Nat) {X : Cx} {scope : Scope} {cl : List (Str × Addr)} {C : Addr} {s₀ : Shared} {H₀ : Hp} {fp : List Addr} {x : Str} {pos : Pos} (hN : (scope.names.map (·.1)).Nodup := by decide +kernel)
    (hi : (scope.names.map (·.1))[i]? = some x := by rfl) (hx : (relabel scope X.env).names.lookup x = some .local := by rfl) : PG (X.cmp scope cl C s₀ H₀ fp) (.Name x pos) (gName i) :=
  pg_name (X := X.cmp scope cl C s₀ H₀ fp) (cmp_nd hN) hi (.inl hx) (.inr hx)
theorem pgc2 (i j : Nat) {X : Cx} {scope : Scope} {cl : List (Str × Addr)} {C : Addr} {s₀ : Shared} {H₀ : Hp} {fp : List Addr} {x y : Str} {px py pos : Pos} {k : Nat} (hN : (scope.names.map (·.1)).Nodup := by decide +kernel)
    (hi : (scope.names.map (·.1))[i]? = some x := by rfl) (hx : (relabel scope X.env).names.lookup x = some .local := by rfl)
    (hj : (scope.names.map (·.1))[j]? = some y := by rfl) (hy : (relabel scope X.env).names.lookup y = some .local := by rfl) (hc : X.calm = true := by rfl) :
    PG (X.cmp scope cl C s₀ H₀ fp) (.Tuple [.Name x px, .Name y py] k pos) (gTup X.K 2 (gCons (gName i) (gCons (gName j) gNil))) :=
  pg_tup (X := X.cmp scope cl C s₀ H₀ fp) (n := 2) hc (pgs_cons (pg_name (cmp_nd hN) hi (.inl hx) (.inr hx)) (pgs_cons (pg_name (cmp_nd hN) hj (.inl hy) (.inr hy)) pgs_nil))
section
variable {X : Cx} {elt tg iter : Expr} {ifs : List Expr} {scope : Scope} {pos : Pos} {wi : TI} {g : TG} {tc : TT} {te : TE}
theorem lcA (sc : Scope) (hi : PI X tg iter wi)
    (hg : ∀ cl C s₀ H₀ fp, PG (X.cmp scope cl C s₀ H₀ fp) tg g) (ht : ∀ cl C s₀ H₀ fp, PTs (X.cmp scope cl C s₀ H₀ fp) ifs tc) (he : ∀ cl C s₀ H₀ fp, PE (X.cmp scope cl C s₀ H₀ fp) elt te)
    (hc : X.calm = true := by rfl) (hsc : X.env.scope = sc := by rfl) (hok : cmpB sc scope = true := by decide +kernel)
    (hs : ∀ x, foldedSetIterable iter X.env x = pure x := by intro _; rfl) : PE X (.ListComp elt [⟨tg, iter, ifs, 0⟩] scope pos) (tLC X.N scope.names wi g tc te) := pe_lc hc hsc hok hi hg ht he hs
theorem scA (sc : Scope) (hi : PI X tg iter wi)
    (hg : ∀ cl C s₀ H₀ fp, PG (X.cmp scope cl C s₀ H₀ fp) tg g) (ht : ∀ cl C s₀ H₀ fp, PTs (X.cmp scope cl C s₀ H₀ fp) ifs tc) (he : ∀ cl C s₀ H₀ fp, PE (X.cmp scope cl C s₀ H₀ fp) elt te)
    (hc : X.calm = true := by rfl) (hsc : X.env.scope = sc := by rfl) (hok : cmpB sc scope = true := by decide +kernel)
    (hs : ∀ x, foldedSetIterable iter X.env x = pure x := by intro _; rfl) : PE X (.SetComp elt [⟨tg, iter, ifs, 0⟩] scope pos) (tSC X.N scope.names wi g tc te) := pe_sc hc hsc hok hi hg ht he hs
theorem lcS (sc : Scope) (i : Nat) {y : Str} {spos py : Pos} (hN : X.N.Nodup) (hi : PI X tg iter wi)
    (hg : ∀ cl C s₀ H₀ fp, PG (X.cmp scope cl C s₀ H₀ fp) tg g) (ht : ∀ cl C s₀ H₀ fp, PTs (X.cmp scope cl C s₀ H₀ fp) ifs tc) (he : ∀ cl C s₀ H₀ fp, PE (X.cmp scope cl C s₀ H₀ fp) elt te)
    (hy : X.N[i]? = some y := by rfl) (hyl : X.env.scope.names.lookup y = some .local := by rfl)
    (hsw : swapsWith (.ListComp elt [⟨tg, iter, ifs, 0⟩] scope pos) (some (.Name y py)) spos.line X.env = pure true := by rfl)
    (hc : X.calm = true := by rfl) (hsc : X.env.scope = sc := by rfl) (hok : cmpB sc scope = true := by decide +kernel)
    (hs : ∀ x, foldedSetIterable iter X.env x = pure x := by intro _; rfl) : PS X (.Assign [.Name y py] (.ListComp elt [⟨tg, iter, ifs, 0⟩] scope pos) spos) (tAsg (tLC X.N scope.names wi g tc te) (gName i)) :=
  ps_lc hN hy hyl hsw hc hsc hok hi hg ht he hs
end
end L2
namespace L2
theorem iteF' {b : Bool} {A B : Prop} (e : b = false) (h : B) : if b = true then A else B := by rw [e]; exact iteF h
theorem iteT' {b : Bool} {A B : Prop} (e : b = true) (h : A) : if b = true then A else B := by rw [e]; exact iteT h
end L2
namespace L2
open PySem
section
variable {X : Cx}
end
end L2
namespace L2
open PySem
end L2
namespace L2
open PySem PySem.Spec PyProof.Rows
structure KDict (w : World) (K : PySem.W.Frag) (d : Addr) (kvs : List (Key × Value)) : Prop where
  low : (d == sysModules) = false
  at_ : ∀ (P : Program) (h : Heap), K.In h → h.DictOf (mixKind P w) d kvs
def KTup (K : PySem.W.Frag) (a : Addr) (xs : List V) : Prop := ∃ (o : Obj) (its : Array Value) (n : Nat), K.lookup a = some o ∧ o.cls = .type "tuple" ∧ o.data = .seq its n ∧ its.size ≤ sizeLine ∧ Vals xs its.toList
theorem KTup.sq {K : PySem.W.Frag} {a : Addr} {xs : List V} (h : KTup K a xs) (H : Hp) : SqT K H a xs := .inr h
theorem kdict_mk {w : World} {K : PySem.W.Frag} {d : Addr} {es : List DictEntry} {ep : Nat} {kvs : List (Key × Value)} (l : K.lookup d = some ⟨.type "dict", none, .dict es.toArray ep, #[]⟩) (low : (d == sysModules) = false)
    (hk : ∀ e ∈ es, ∃ k : Key, keyIs k e.key = true ∧ e.hash = keyH w k) (hp : ∀ P : Program, Pairs (mixKind P w) es kvs) (nd : (kvs.map (·.1)).Nodup) : KDict w K d kvs :=
  ⟨low, fun P h X => ⟨_, es.toArray, ep, X _ _ l, ⟨rfl, rfl, rfl⟩, rfl, fun e he => hk e (by simpa using he), by simpa using hp P, nd⟩⟩
section
variable {X : Cx}
theorem op_knotin : OpR X (compareOp .NotIn) (fun x y H Q => ∃ (k : Str) (d : Addr) (kvs : List (Key × Value)), x = .str k ∧ y = .ref d ∧ KDict X.w X.K d kvs ∧ Q (.bl (!(valueAt kvs (Sum.inr k)).isSome)) H) := by
  intro pins s σ H x y v u Q I rx ry h
  obtain ⟨k, d, kvs, rfl, rfl, kd, q⟩ := h
  cases (show u = Value.ref d from ry)
  obtain ⟨t, rfl⟩ := rx
  exact wpAny_notIn_of (knd := mixKind X.prog X.w) (k := Sum.inr k) (mixKind_str _ _ k t) kd.low (kd.at_ X.prog _ I.kIn).mapOf ⟨.bl _, H, I.tok _, rfl, q⟩
theorem ix_kdict : IxR X (fun x y H Q => ∃ (k : Str) (d : Addr) (kvs : List (Key × Value)) (v : V) (u : Value), x = .ref d ∧ y = .str k ∧ KDict X.w X.K d kvs ∧ valueAt kvs (Sum.inr k) = some u ∧ RelV v u ∧ Q v H) := by
  intro value slice pins s σ H x y v u Q I rx ry h hs
  obtain ⟨k, d, kvs, z, uz, rfl, rfl, kd, hv, rz, q⟩ := h
  cases (show v = Value.ref d from rx)
  obtain ⟨t, rfl⟩ := ry
  have dd := kd.at_ X.prog _ I.kIn
  exact subscriptTail_builtinR (x := uz) dd.mapOf.typeIs PySem.F.slot_dict_getitem.lookup
    (wpAny_getItem_of (Q := fun r s' => r = uz ∧ EP X pins σ Q r s') (knd := mixKind X.prog X.w) (k := Sum.inr k) (mixKind_str _ _ k t) dd.mapOf hv ⟨rfl, z, H, I.tok _, rz, q⟩) hs
end
end L2
namespace HT
open PySem PySem.Spec PyProof.Rows
section
variable {prog : Program} {w : World} {A : Around} {E : Value → Shared → Prop} {s : Shared}
theorem getItem_tuple_all {t sl : Addr} {items : Array Value} {vl vu : Value} {lo hi : Option Int} {Q : Value → Shared → Prop} (ht : IsTup s.heap t items) (hs : s.heap.IsSliceOf sl vl vu .none) (pl : IsPart vl lo) (pu : IsPart vu hi)
    (hw : sIx items.size 0 lo = 0 ∧ sIx items.size items.size hi = items.size) (h : Q (.ref t) s) : wpAny (model prog w) A (getItem (.ref t) (.ref sl)) Q E s := by
  obtain ⟨os, hos, hcs, hds⟩ := id hs
  have hTs : s.TypeIs (.ref sl) "slice" := ⟨os, hos, hcs⟩
  unfold getItem
  try with_reducible refine wpAny_holding ?_
  first | refine wpAny_bind (wpAny_pure ?_) | skip
  refine wpAny_bind (wpAny_sequenceKey ht.typeIs (by decide) ?_)
  refine wpAny_bind (wpAny_callSpecial?_slot (name := Str.ofString "__getitem__") ht.typeIs PyProof.Rows.slot_tuple_getitem
    (wpAny_call_entry PyProof.Rows.slot_tuple_getitem ht.typeIs entry_tuple_getitem ?_ (args_tuple_getitem _ _)))
  show wpAny _ _ (Builtin.Tuple.tupleItemsOf (.ref t) >>= _) _ _ s
  refine wpAny_bind (tupleItemsOf_ ht ?_)
  refine wpAny_bind (wpAny_typeOf hTs ?_)
  rw [if_pos (by decide)]
  refine wpAny_bind (sliceApplied_gen hs pl pu ?_)
  show wpAny _ _ (if (((sIx items.size 0 lo : Nat) : Int) == 0 && (1 : Int) == 1 && (sIx items.size items.size hi - sIx items.size 0 lo) == items.size) = true then _ else _) _ _ s
  rw [if_pos (by rw [hw.1, hw.2]; simp)]
  refine wpAny_bind (wpAny_bind (wpAny_typeOf ht.typeIs (wpAny_pure ?_)))
  rw [if_pos (by decide)]
  exact wpAny_bind (wpAny_rule (wpAny_pure ⟨_, rfl, wpAny_pure h⟩))
theorem cat_nil {t b : Addr} {ws : List Value} {Q : Value → Shared → Prop} (ht : IsTup s.heap t ([] : List Value).toArray) (hb : IsTup s.heap b ws.toArray) (h : Q (.ref b) s) : wpAny (model prog w) A (binaryOp .Add (.ref t) (.ref b)) Q E s := by
  obtain ⟨⟨cls, dd, data, sl⟩, ho, hc, n, hd⟩ := id ht
  obtain ⟨⟨cls2, dd2, data2, sl2⟩, ho2, hc2, n2, hd2⟩ := id hb
  simp only at hc hd hc2 hd2
  subst hc hd hc2 hd2
  exact concat_meets ⟨_, ho, rfl⟩ ⟨_, ho2, rfl⟩ noFill_tuple_add seq_tuple_add PySem.F.slot_tuple_add PySem.F.entry_tuple_add (PySem.F.args_tuple_add_2 _ _)
    (tuple_addW0 t b ([] : List Value).toArray ws.toArray n n2 dd dd2 sl sl2 (by simp)) ⟨ho, ho2, h⟩
end
end HT
namespace L2
open PySem PySem.Spec PyProof.Rows
section
variable {X : Cx}
def rSlTA (K : PySem.W.Frag) : V → Option Int → Option Int → Hp → VK → Prop := fun x lo hi H Q => ∃ a xs, x = .ref a ∧ SqT K H a xs ∧
  ((HT.sIx xs.length 0 lo = 0 ∧ HT.sIx xs.length xs.length hi = xs.length) → Q (.ref a) H) ∧
  (¬ (HT.sIx xs.length 0 lo = 0 ∧ HT.sIx xs.length xs.length hi = xs.length) → ∀ p, H p = none → Q (.ref p) (upd H p (.tup (cutV xs lo hi))))
theorem sl_tupA : SlR X (rSlTA X.K) := by
  intro pins s σ H x v vl vu lo hi sl Q I rx hs pl pu h
  obtain ⟨a, xs, rfl, ha, h1, h2⟩ := h
  by_cases hw : HT.sIx xs.length 0 lo = 0 ∧ HT.sIx xs.length xs.length hi = xs.length
  · cases (show v = Value.ref a from rx)
    obtain ⟨its, rv, tp, hz⟩ := I.tuple ha
    have hl := rv.length
    refine ⟨"tuple", _, slot_tuple_getitem.lookup, tp.typeIs, ?_⟩
    exact HT.getItem_tuple_all tp hs pl pu (by rw [List.size_toArray, ← hl]; exact hw) ⟨.ref a, H, I, rfl, h1 hw⟩
  · exact sl_tup pins s σ H (.ref a) v vl vu lo hi sl Q I rx hs pl pu ⟨a, xs, rfl, ha, hw, h2 hw⟩
def rCatTA (K : PySem.W.Frag) : R2 := fun x y H Q => ∃ a b xs ys, x = .ref a ∧ y = .ref b ∧ SqT K H a xs ∧ SqT K H b ys ∧ xs.length + ys.length ≤ sizeLine ∧
  (xs = [] → Q (.ref b) H) ∧ (xs ≠ [] → ys = [] → Q (.ref a) H) ∧ (xs ≠ [] → ys ≠ [] → ∀ p, H p = none → Q (.ref p) (upd H p (.tup (xs ++ ys))))
theorem op_catTA : OpR X (binaryOp .Add) (rCatTA X.K) := by
  intro pins s σ H x y v u Q I rx ry h
  obtain ⟨a, b, xs, ys, rfl, rfl, ha, hb, hz, h0, h1, h2⟩ := h
  by_cases hx : xs = []
  · subst hx
    cases (show v = Value.ref a from rx)
    cases (show u = Value.ref b from ry)
    obtain ⟨its, rv, tp, _⟩ := I.tuple ha
    obtain ⟨its2, rv2, tp2, _⟩ := I.tuple hb
    have e : its = [] := by cases rv; rfl
    subst e
    exact HT.cat_nil tp tp2 ⟨.ref b, H, I, rfl, h0 rfl⟩
  · exact op_catT pins s σ H _ _ v u Q I rx ry ⟨a, b, xs, ys, rfl, rfl, ha, hb, hx, hz, h1 hx, h2 hx⟩
end
end L2
namespace L2
open PySem
theorem catTA_of {K : PySem.W.Frag} {H : Hp} {a b : Addr} {xs ys : List V} {Q : VK} (ha : SqT K H a xs) (hb : SqT K H b ys) (hz : xs.length + ys.length ≤ sizeLine) (h : ∀ q H', Same H H' → SqT K H' q (xs ++ ys) → Q (.ref q) H') : rCatTA K (.ref a) (.ref b) H Q :=
  ⟨a, b, xs, ys, rfl, rfl, ha, hb, hz, fun e => h b H (Same.refl _) (by rw [e]; exact hb), fun _ e => h a H (Same.refl _) (by rw [e, List.append_nil]; exact ha), fun _ _ p hp => h p _ (same_upd hp) (SqT.of upd_same)⟩
theorem slTA_of {K : PySem.W.Frag} {H : Hp} {a : Addr} {xs : List V} {lo hi : Option Int} {Q : VK} (ha : SqT K H a xs) (h : ∀ q H', Same H H' → SqT K H' q (cutV xs lo hi) → Q (.ref q) H') : rSlTA K (.ref a) lo hi H Q := by
  refine ⟨a, xs, rfl, ha, fun e => h a H (Same.refl _) ?_, fun _ p hp => h p _ (same_upd hp) (SqT.of upd_same)⟩
  have e2 : cutV xs lo hi = xs := by unfold cutV; rw [e.1, e.2, Nat.sub_zero, List.drop_zero, List.take_length]
  rw [e2]; exact ha
end L2
namespace L2
open PySem PySem.Spec PyProof.Rows
section
variable {X : Cx}
def rCount : V → List V → Hp → VK → Prop := fun x vs H Q => ∃ (l : Addr) (ns : List Int) (k : Int), x = .ref l ∧ vs = [.int k] ∧ H l = some (.lst (ns.map V.int)) ∧ Q (.int (ns.count k : Nat)) H
theorem mt_count : MtM X "list.count" rCount := by
  intro pins s σ H x vs v us Q I rx rv h
  obtain ⟨l, ns, k, rfl, rfl, hH, q⟩ := h
  cases rx
  obtain ⟨u, rfl, ⟨t, rfl⟩⟩ := rv.one
  obtain ⟨z, its, n, r, hl, e⟩ := I.lstM hH
  exact count_list_ints ⟨_, e, rfl, n, rfl⟩ (L2.intsAre_of r) ⟨.int (ns.count k : Nat), H, I.tok _, ⟨_, rfl⟩, q⟩
variable {o e : Expr} {es : List Expr} {to : TE} {t : TA} {name : Str} {apos cpos : Pos} {T id : String} {r : V → List V → Hp → VK → Prop}
theorem pe_bmK (K : PySem.W.Frag) (hK : X.K = K) (pa : PlainAttrs T) (slot : Slot T name id) (hty : typeOf (.builtin id) = pure (.type "method_descriptor")) (hm : MtR X id r) (ho : PE X o to) (ha : PA X (e :: es) t)
    (hbase : attributeBase o name X.env (eval o X.env) = eval o X.env := by rfl)
    (hfew : ((backTo cpos (starEach (e :: es) X.env)).all (fun x => !x.1) && (backToKw cpos (keywordEach [] X.env)).all (fun x => x.1.isSome)
      && decide ((e :: es).length + ([] : List Keyword).length + (if ([] : List Keyword).isEmpty then 0 else 1) < 30)) = true := by rfl)
    (hline : (apos.endLine == cpos.line) = true := by rfl) (hs : starEach (e :: es) X.env = (false, eval e X.env) :: starEach es X.env := by rfl) (hplain : (backTo cpos (starEach es X.env)).any (·.1) = false := by rfl) :
    PE X (.Call (.Attribute o name apos) (e :: es) [] cpos) (tBM K T r to t) := by
  subst hK; exact pe_bm pa slot hty hm ho ha hbase hfew hline hs hplain
end
section
variable {X : Cx} {e : Expr} {f : Str} {pos : Pos} {ta : TE}
end
section
variable {X : Cx}
end
theorem for_rangeO {lo : Int} {n : Nat} {g : TG} {tb : TS} {D : Ends} {σ : St} {H : Hp} (Pv : Nat → St → Hp → Prop) (h0 : Pv 0 σ H)
    (hs : ∀ (N : St → Hp → Prop) (R : VK) (B : St → Hp → Prop) (i : Nat) (σ : St) (H : Hp), i < n → Pv i σ H → (∀ σ' H', Pv (i + 1) σ' H' → N σ' H') → (∀ v H', D.rt v H' → R v H') → g (.int (lo + i)) σ H fun σ2 H2 => tb ⟨N, R, B, N⟩ σ2 H2) (hd : ∀ σ H, Pv n σ H → D.nx σ H) :
    ∃ W : Nat → Nat → St → Hp → Prop, (∃ m, W 0 m σ H) ∧ ∀ i m σ H, W i m σ H →
      ((Itr lo n).stop i H ∧ D.nx σ H) ∨ ((Itr lo n).go i H ∧ ∃ N : St → Hp → Prop, (∀ σ' H', N σ' H' → ∃ m', m' < m ∧ W (i + 1) m' σ' H') ∧ ∀ x H', (Itr lo n).yld i H x H' → g x σ H' fun σ2 H2 => tb { D with nx := N, ct := N, bk := D.nx } σ2 H2) :=
  for_range Pv h0 (fun i σ H hi p => hs (Pv (i + 1)) D.rt D.nx i σ H hi p (fun _ _ x => x) fun _ _ x => x) hd
theorem for_listO {K : PySem.W.Frag} {a : Addr} {xs : List V} {g : TG} {tb : TS} {D : Ends} {σ : St} {H : Hp} (Pv : Nat → St → Hp → Prop) (h0 : Pv 0 σ H) (hl : ∀ i σ H, i ≤ xs.length → Pv i σ H → SqL K H a xs)
    (hs : ∀ (N : St → Hp → Prop) (R : VK) (B : St → Hp → Prop) (i : Nat) (x : V) (σ : St) (H : Hp), xs[i]? = some x → Pv i σ H → (∀ σ' H', Pv (i + 1) σ' H' → N σ' H') → (∀ v H', D.rt v H' → R v H') → g x σ H fun σ2 H2 => tb ⟨N, R, B, N⟩ σ2 H2) (hd : ∀ σ H, Pv xs.length σ H → D.nx σ H) :
    ∃ W : Nat → Nat → St → Hp → Prop, (∃ m, W 0 m σ H) ∧ ∀ i m σ H, W i m σ H →
      ((Itl K a).stop i H ∧ D.nx σ H) ∨ ((Itl K a).go i H ∧ ∃ N : St → Hp → Prop, (∀ σ' H', N σ' H' → ∃ m', m' < m ∧ W (i + 1) m' σ' H') ∧ ∀ x H', (Itl K a).yld i H x H' → g x σ H' fun σ2 H2 => tb { D with nx := N, ct := N, bk := D.nx } σ2 H2) :=
  for_list Pv h0 hl (fun i x σ H hx p => hs (Pv (i + 1)) D.rt D.nx i x σ H hx p (fun _ _ x => x) fun _ _ x => x) hd
end L2
namespace L2
open PySem PySem.Spec PyProof.Rows
section
variable {X : Cx} {pins : List (Addr × Obj)} {σ : St} {H : Hp} {s : Shared} {h' : Heap}
end
section
variable {X : Cx} {es : List Expr} {kk : Nat} {tp : Pos}
end
def ItG (J : It) (H1 : Hp) (n : Nat) (Y : Nat → V → Hp → Prop) : Prop := ∀ H2, Same H1 H2 → ∀ i, (i < n → J.go i H2 ∧ ∀ x H3, J.yld i H2 x H3 → Same H2 H3 ∧ Y i x H3) ∧ (i = n → J.stop i H2)
theorem itG_of {J : It} {H1 : Hp} {xs : List V} (h : ItOf J H1 xs) : ItG J H1 xs.length (fun i x _ => xs[i]? = some x) := fun H2 s i =>
  ⟨fun hi => ⟨((h H2 s i).1 hi).1, fun x H3 y => by obtain ⟨rfl, e⟩ := ((h H2 s i).1 hi).2 x H3 y; exact ⟨fun _ _ q => q, e⟩⟩, (h H2 s i).2⟩
theorem lc_fG {J : It} {H1 : Hp} {n : Nat} {Y : Nat → V → Hp → Prop} {g : TG} {tc : TT} {te : TE} {σ0 : L2.St} {Q : Addr → Hp → Prop} (f : Nat → Option V) (hJ : ItG J H1 n Y) (S : L2.St → Prop) (h0 : S σ0) (hz : n ≤ sizeLine)
    (hs : ∀ (i : Nat) (x : V) (σ2 : L2.St) (H2 : Hp) (Qt : L2.St → V → Hp → Prop) (Qf : L2.St → Hp → Prop), i < n → Y i x H2 → Same H1 H2 → S σ2 → (∀ w σ4 H6, f i = some w → S σ4 → Same H2 H6 → Qt σ4 w H6) → (∀ σ4 H5, f i = none → S σ4 → Same H2 H5 → Qf σ4 H5) →
      g x σ2 H2 fun σ4 H4 => tc σ4 H4 fun b H5 => if b = true then te σ4 H5 fun v H6 => Qt σ4 v H6 else Qf σ4 H5)
    (hQ : ∀ D H2, H1 D = none → Same H1 H2 → H2 D = some (.lst ((List.range n).filterMap f)) → Q D H2) :
    ∀ D, H1 D = none → ∃ W : Nat → Nat → L2.St → Hp → Prop, (∃ m, W 0 m σ0 (upd H1 D (.lst []))) ∧ ∀ i m σ2 H2, W i m σ2 H2 →
      (J.stop i H2 ∧ Q D H2) ∨ (J.go i H2 ∧ ∀ x H3, J.yld i H2 x H3 → g x σ2 H3 fun σ4 H4 => tc σ4 H4 fun b H5 =>
        if b = true then te σ4 H5 fun v H6 => ∃ ys m', H6 D = some (.lst ys) ∧ ys.length < sizeLine ∧ m' < m ∧ W (i + 1) m' σ4 (upd H6 D (.lst (ys ++ [v]))) else ∃ m', m' < m ∧ W (i + 1) m' σ4 H5) := by
  intro D hD
  have fm : ∀ i, (List.range (i + 1)).filterMap f = (List.range i).filterMap f ++ (f i).toList := fun i => by
    rw [List.range_succ, List.filterMap_append]; cases h : f i <;> simp [h]
  have fl : ∀ i, ((List.range i).filterMap f).length ≤ i := fun i => by
    have := List.length_filterMap_le f (List.range i); rw [List.length_range] at this; exact this
  refine ⟨fun i m σ2 H2 => i ≤ n ∧ m = n - i ∧ S σ2 ∧ Same H1 H2 ∧ H2 D = some (.lst ((List.range i).filterMap f)), ⟨n, Nat.zero_le _, by omega, h0, same_upd hD, upd_same⟩, ?_⟩
  rintro i m σ2 H2 ⟨hi, rfl, hS, sm, hys⟩
  obtain ⟨j1, j2⟩ := hJ _ sm i
  by_cases hlt : i < n
  · obtain ⟨go, yl⟩ := j1 hlt
    refine .inr ⟨go, fun x H3 y => ?_⟩
    obtain ⟨s3, hY⟩ := yl x H3 y
    refine hs i x σ2 _ _ _ hlt hY (sm.trans s3) hS (fun w σ4 H6 e h4 s6 => ?_) fun σ4 H5 e h4 s5 => ?_
    · have h6 := s6 _ _ (s3 _ _ hys)
      have l6 := fl i
      refine ⟨_, n - (i + 1), h6, by omega, by omega, hlt, rfl, h4, fun b o e => ?_, ?_⟩
      · rw [upd_ne (ne_of_none e hD)]; exact s6 _ _ (s3 _ _ (sm _ _ e))
      · rw [upd_same, fm, e]; rfl
    · refine ⟨n - (i + 1), by omega, hlt, rfl, h4, (sm.trans s3).trans s5, ?_⟩
      rw [fm, e, Option.toList_none, List.append_nil]; exact s5 _ _ (s3 _ _ hys)
  · have e : i = n := by omega
    refine .inl ⟨j2 e, hQ D H2 hD sm ?_⟩
    rw [← e]; exact hys
theorem lc_growD {J : It} {H1 : Hp} {n : Nat} {Y : Nat → V → Hp → Prop} {g : TG} {tc : TT} {te : TE} {σ0 : L2.St} {Q : Addr → Hp → Prop} (hJ : ItG J H1 n Y) (S : L2.St → Prop) (P : Addr → Nat → List V → Hp → Prop) (h0 : S σ0) (hz : n ≤ sizeLine) (hP0 : ∀ D H2, P D 0 [] H2)
    (hPS : ∀ D i ys H2 H3, P D i ys H2 → Same H2 H3 → P D i ys H3) (hPD : ∀ D i ys zs H2 o, H2 D = some (.lst zs) → P D i ys H2 → P D i ys (upd H2 D o))
    (hs : ∀ (D : Addr) (i : Nat) (x : V) (ys : List V) (σ2 : L2.St) (H2 : Hp) (Qt : L2.St → V → Hp → Prop) (Qf : L2.St → Hp → Prop), i < n → ys.length = i → Y i x H2 → H2 D = some (.lst ys) → Same H1 H2 → S σ2 → P D i ys H2 → (∀ σ4 v H6, S σ4 → Same H2 H6 → P D (i + 1) (ys ++ [v]) H6 → Qt σ4 v H6) →
      g x σ2 H2 fun σ4 H4 => tc σ4 H4 fun b H5 => if b = true then te σ4 H5 fun v H6 => Qt σ4 v H6 else Qf σ4 H5)
    (hQ : ∀ D H2 ys, H1 D = none → Same H1 H2 → H2 D = some (.lst ys) → ys.length = n → P D n ys H2 → Q D H2) :
    ∀ D, H1 D = none → ∃ W : Nat → Nat → L2.St → Hp → Prop, (∃ m, W 0 m σ0 (upd H1 D (.lst []))) ∧ ∀ i m σ2 H2, W i m σ2 H2 →
      (J.stop i H2 ∧ Q D H2) ∨ (J.go i H2 ∧ ∀ x H3, J.yld i H2 x H3 → g x σ2 H3 fun σ4 H4 => tc σ4 H4 fun b H5 =>
        if b = true then te σ4 H5 fun v H6 => ∃ ys m', H6 D = some (.lst ys) ∧ ys.length < sizeLine ∧ m' < m ∧ W (i + 1) m' σ4 (upd H6 D (.lst (ys ++ [v]))) else ∃ m', m' < m ∧ W (i + 1) m' σ4 H5) := by
  intro D hD
  refine ⟨fun i m σ2 H2 => i ≤ n ∧ m = n - i ∧ S σ2 ∧ Same H1 H2 ∧ ∃ ys, H2 D = some (.lst ys) ∧ ys.length = i ∧ P D i ys H2, ⟨n, Nat.zero_le _, by omega, h0, same_upd hD, [], upd_same, rfl, hP0 _ _⟩, ?_⟩
  rintro i m σ2 H2 ⟨hi, rfl, hS, sm, ys, hys, hyl, hP⟩
  obtain ⟨j1, j2⟩ := hJ _ sm i
  by_cases hlt : i < n
  · obtain ⟨go, yl⟩ := j1 hlt
    refine .inr ⟨go, fun x H3 y => ?_⟩
    obtain ⟨s3, hY⟩ := yl x H3 y
    refine hs D i x ys σ2 _ _ _ hlt hyl hY (s3 _ _ hys) (sm.trans s3) hS (hPS _ _ _ _ _ hP s3) fun σ4 v H6 h4 s6 p6 => ?_
    have h6 := s6 _ _ (s3 _ _ hys)
    refine ⟨ys, n - (i + 1), h6, by omega, by omega, hlt, rfl, h4, fun b o e => ?_, ys ++ [v], upd_same, by rw [List.length_append, hyl]; rfl, hPD _ _ _ _ _ _ h6 p6⟩
    rw [upd_ne (ne_of_none e hD)]
    exact s6 _ _ (s3 _ _ (sm _ _ e))
  · have e : i = n := by omega
    exact .inl ⟨j2 e, hQ D H2 ys hD sm hys (hyl.trans e) (e ▸ hP)⟩
theorem itG_range {H : Hp} {lo : Int} {n : Nat} : ItG (Itr lo n) H n (fun i x _ => x = .int (lo + (i : Nat))) := fun H2 s i =>
  ⟨fun hi => ⟨hi, fun x H3 y => by obtain ⟨rfl, e⟩ := y; exact ⟨fun _ _ q => q, e⟩⟩, fun e => by show n ≤ i; omega⟩
end L2
namespace L2
theorem byC {p : Prop} (h : ¬ ¬ p) : p := Classical.byContradiction h
open PySem PySem.Spec PyProof.Rows
inductive tVarI (i : Nat) (σ : St) (H : Hp) (Q : VK) : Prop
  | mk (v : V) (h : σ[i]? = some (some v)) (q : Q v H) : tVarI i σ H Q
inductive rI0I (g : Int → Int → V) (x y : V) (H : Hp) (Q : VK) : Prop
  | mk (i j : Int) (hx : x = .int i) (hy : y = .int j) (q : Q (g i j) H) : rI0I g x y H Q
inductive rII (C : Int → Int → Prop) (g : Int → Int → V) (x y : V) (H : Hp) (Q : VK) : Prop
  | mk (i j : Int) (hx : x = .int i) (hy : y = .int j) (c : C i j) (q : Q (g i j) H) : rII C g x y H Q
inductive rIxLI (K : PySem.W.Frag) (x y : V) (H : Hp) (Q : VK) : Prop
  | mk (p : Addr) (xs : List V) (i : Int) (v : V) (hx : x = .ref p) (hy : y = .int i) (hs : SqL K H p xs) (ha : atI xs i = some v) (q : Q v H) : rIxLI K x y H Q
inductive rIxTI (K : PySem.W.Frag) (x y : V) (H : Hp) (Q : VK) : Prop
  | mk (p : Addr) (xs : List V) (i : Int) (v : V) (hx : x = .ref p) (hy : y = .int i) (hs : SqT K H p xs) (ha : atI xs i = some v) (q : Q v H) : rIxTI K x y H Q
section
variable {X : Cx}
theorem PE.imp {e : Expr} {t t' : TE} (h : PE X e t) (i : ∀ σ H Q, t' σ H Q → t σ H Q) : PE X e t' := fun pins s σ H Q I q => h pins s σ H Q I (i σ H Q q)
theorem OpR.imp {f : Value → Value → Sem Value} {r r' : R2} (h : OpR X f r) (i : ∀ x y H Q, r' x y H Q → r x y H Q) : OpR X f r' := fun pins s σ H x y v u Q I rx ry q => h pins s σ H x y v u Q I rx ry (i x y H Q q)
theorem pvI (i : Nat) {x : Str} {pos : Pos} (hN : X.N[i]? = some x := by rfl) (hv : Vis X.env.scope x := by first | exact Or.inl rfl | exact Or.inr (Or.inl rfl) | exact Or.inr (Or.inr rfl)) (hd : (x == ("__debug__" : Str)) = false := by decide)
    (hcd : (x == ("__classdict__" : Str)) = false := by decide) : PE X (.Name x pos) (tVarI i) := (pe_var hN hv hd hcd).imp fun _ _ _ ⟨v, h, q⟩ => ⟨v, h, q⟩
theorem o0 {f : Value → Value → Sem Value} {g : Int → Int → V} (h : OpR X f (rI0 g)) : OpR X f (rI0I g) := h.imp fun _ _ _ _ ⟨i, j, a, b, q⟩ => ⟨i, j, a, b, q⟩
theorem o1 {f : Value → Value → Sem Value} {C : Int → Int → Prop} {g : Int → Int → V} (h : OpR X f (rI C g)) : OpR X f (rII C g) := h.imp fun _ _ _ _ ⟨i, j, a, b, c, q⟩ => ⟨i, j, a, b, c, q⟩
theorem op_addI : OpR X (binaryOp .Add) (rI0I fun i j => .int (i + j)) := o0 op_add
theorem op_subI : OpR X (binaryOp .Sub) (rI0I fun i j => .int (i - j)) := o0 op_sub
theorem op_mulI : OpR X (binaryOp .Mult) (rII CMul fun i j => .int (i * j)) := o1 op_mul
theorem op_fdivI : OpR X (binaryOp .FloorDiv) (rII CDiv fun i j => .int (i / j)) := o1 op_fdiv
theorem op_modI : OpR X (binaryOp .Mod) (rII (fun _ j => 0 < j) fun i j => .int (i % j)) := o1 op_mod
theorem op_ltI : OpR X (compareOp .Lt) (rI0I fun i j => .bl (decide (i < j))) := o0 op_lt
theorem op_leI : OpR X (compareOp .LtE) (rI0I fun i j => .bl (decide (i ≤ j))) := o0 op_le
theorem op_gtI : OpR X (compareOp .Gt) (rI0I fun i j => .bl (decide (j < i))) := o0 op_gt
theorem IxR.imp {r r' : R2} (h : IxR X r) (i : ∀ x y H Q, r' x y H Q → r x y H Q) : IxR X r' := fun value slice pins s σ H x y v u Q I rx ry q e => h value slice pins s σ H x y v u Q I rx ry (i x y H Q q) e
theorem ix_listI (K : PySem.W.Frag) (h : X.K = K) : IxR X (rIxLI K) := by subst h; exact ix_list.imp fun _ _ _ _ ⟨p, xs, i, v, a, b, c, d, q⟩ => ⟨p, xs, i, v, a, b, c, d, q⟩
theorem ix_tupI (K : PySem.W.Frag) (h : X.K = K) : IxR X (rIxTI K) := by subst h; exact ix_tup.imp fun _ _ _ _ ⟨p, xs, i, v, a, b, c, d, q⟩ => ⟨p, xs, i, v, a, b, c, d, q⟩
end
end L2
namespace L2
open PySem PySem.Spec PyProof.Rows PyProof
section
variable {X : Cx}
theorem vals_rev : ∀ {xs : List V} {us : List Value}, Vals xs us → Vals xs.reverse us.reverse
  | [], [], h => h
  | x :: xs, u :: us, .cons h1 h2 => by
    rw [List.reverse_cons, List.reverse_cons]
    exact Vals.append (vals_rev h2) (.cons h1 .nil)
end
end L2
namespace Mt
def stp (ls b : List Int) (best place : Nat) : Nat :=
  if (b.getD place 0 + 1) * ls.getD best 0 < (b.getD best 0 + 1) * ls.getD place 0 then place else best
def pickTo (ls b : List Int) (n : Nat) : Nat := (List.range n).foldl (stp ls b) 0
def pick (ls b : List Int) : Nat := pickTo ls b ls.length
def give (ls b : List Int) : List Int := b.set (pick ls b) (b.getD (pick ls b) 0 + 1)
def deal (ls : List Int) : Nat → List Int
  | 0 => List.replicate ls.length 0
  | k + 1 => give ls (deal ls k)
theorem pickTo_succ (ls b : List Int) (n : Nat) : pickTo ls b (n + 1) = stp ls b (pickTo ls b n) n := by
  unfold pickTo; rw [List.range_succ, List.foldl_append]; rfl
theorem pickTo_zero (ls b : List Int) : pickTo ls b 0 = 0 := rfl
theorem pickTo_one (ls b : List Int) : pickTo ls b 1 = 0 := by
  rw [pickTo_succ, pickTo_zero]; unfold stp; split <;> rfl
theorem pickTo_lt (ls b : List Int) : ∀ n, 0 < n → pickTo ls b n < n
  | 0, h => absurd h (Nat.lt_irrefl _)
  | 1, _ => by rw [pickTo_one]; exact Nat.one_pos
  | n + 2, _ => by
    have ih := pickTo_lt ls b (n + 1) (Nat.succ_pos _)
    rw [pickTo_succ]; unfold stp; split <;> omega
theorem pick_lt {ls b : List Int} (h : 0 < ls.length) : pick ls b < ls.length := pickTo_lt ls b _ h
theorem give_length (ls b : List Int) : (give ls b).length = b.length := by unfold give; rw [List.length_set]
theorem deal_length (ls : List Int) : ∀ k, (deal ls k).length = ls.length
  | 0 => List.length_replicate
  | k + 1 => by rw [deal, give_length, deal_length ls k]
end Mt
namespace Rc
open PySem PySem.Spec PyProof.Rows L2
def InD (ds : List Int) : Prop := ∀ d ∈ ds, 0 ≤ d ∧ d < 997
theorem InD.snoc {ds : List Int} {d : Int} (h : InD ds) (h0 : 0 ≤ d) (h1 : d < 997) : InD (ds ++ [d]) := fun x hx => by
  rcases List.mem_append.mp hx with hx | hx
  · exact h x hx
  · rw [List.mem_singleton.mp hx]; exact ⟨h0, h1⟩
theorem map_snoc (ds : List Int) (d : Int) : ds.map V.int ++ [V.int d] = (ds ++ [d]).map V.int := by rw [List.map_append]; rfl
theorem small_line {n : Nat} (h : n ≤ 100000) : n < sizeLine := Nat.lt_of_le_of_lt h (by decide)
structure DrawSt (H0 H : Hp) (a r sl : Addr) (n : Nat) (ys : List V) (least most : Nat) (σ : L2.St) : Prop where
  ex : ∃ (row : List Int) (seed : Int) (c rest k : Option V), σ = [some (.ref a), some (.int n), some (.ref r), some (.int seed), c, rest, k] ∧ 0 ≤ seed ∧ seed < 2147483629 ∧ H r = some (.lst (row.map V.int)) ∧ least ≤ row.length ∧ row.length ≤ most ∧ InD row
  same : Same H0 H
  slc : H sl = some (.lst ys)
def lineB (l : Int × Int) : Bool := decide (0 ≤ l.1 ∧ l.1 ≤ 5 ∧ 1 ≤ l.2 ∧ l.2 ≤ 20)
def isLinesB (L : List (Int × Int)) : Bool := decide (1 ≤ L.length ∧ L.length ≤ 4) && (decide (L.map (·.1)).Nodup && L.all lineB)
structure GoodL (L : List (Int × Int)) : Prop where
  l1 : 1 ≤ L.length
  l4 : L.length ≤ 4
  nd : (L.map (·.1)).Nodup
  all : ∀ l ∈ L, 0 ≤ l.1 ∧ l.1 ≤ 5 ∧ 1 ≤ l.2 ∧ l.2 ≤ 20
theorem GoodL.isB {L : List (Int × Int)} (g : GoodL L) : isLinesB L = true := by
  unfold isLinesB
  rw [decide_eq_true ⟨g.l1, g.l4⟩, decide_eq_true g.nd, Bool.true_and, Bool.true_and, List.all_eq_true]
  exact fun l hl => decide_eq_true (g.all l hl)
theorem getD_of {b : List Int} {i : Nat} {v : Int} (h : b[i]? = some v) : b.getD i 0 = v := by simp [List.getD, h]
theorem ix_of {b : List Int} {i : Nat} (h : i < b.length) : atI (b.map V.int) (i : Int) = some (V.int (b.getD i 0)) := by
  obtain ⟨v, hv⟩ := get_some h
  rw [getD_of hv]
  exact atI_nat (by rw [List.getElem?_map, hv]; rfl)
theorem _root_.L2.PairsAt.ix {K : PySem.W.Frag} {H : Hp} {us : List V} {L : List (Int × Int)} {i : Nat} (h : PairsAt K H us L) (hi : i < L.length) :
    ∃ q a, atI us (i : Int) = some (.ref q) ∧ SqT K H q [.int a, .int ((L.map (·.2)).getD i 0)] ∧ L[i]? = some (a, (L.map (·.2)).getD i 0) := by
  obtain ⟨l, hl⟩ := get_some (xs := L) hi
  obtain ⟨v, e1, q, rfl, e2⟩ := h.at_ i l hl
  have e : (L.map (·.2)).getD i 0 = l.2 := getD_of (by rw [List.getElem?_map, hl]; rfl)
  rw [e]
  exact ⟨q, l.1, atI_nat e1, e2, hl⟩
def SmallL (L : List (Int × Int)) : Prop := ∀ l ∈ L, -100000 < l.2 ∧ l.2 < 100000
theorem SmallL.get {L : List (Int × Int)} (h : SmallL L) (i : Nat) : -(2 ^ 64) < (L.map (·.2)).getD i 0 ∧ (L.map (·.2)).getD i 0 < 2 ^ 64 := by
  cases e : L[i]? with
  | none => simp [List.getD, e]
  | some l =>
    have e2 : (L.map (·.2)).getD i 0 = l.2 := getD_of (by rw [List.getElem?_map, e]; rfl)
    rw [e2]
    have := h l (List.mem_of_getElem? e)
    omega
theorem GoodL.small {L : List (Int × Int)} (g : GoodL L) : SmallL L := fun l hl => by have := g.all l hl; omega
def bearerOf (L : List (Int × Int)) (n : Nat) : Int := (L.map (·.1)).getD (Mt.pick (L.map (·.2)) (Mt.deal (L.map (·.2)) n)) 0
theorem fst_of {L : List (Int × Int)} {i : Nat} {a b : Int} (h : L[i]? = some (a, b)) : (L.map (·.1)).getD i 0 = a := getD_of (by rw [List.getElem?_map, h]; rfl)
theorem not_mem_erase : ∀ {l : List Int} {k : Nat} {x : Int}, l.Nodup → l[k]? = some x → x ∉ l.eraseIdx k
  | [], _, _, _, h => by simp at h
  | y :: r, 0, x, hn, h => by
    simp at h; subst h
    rw [List.eraseIdx_cons_zero]
    exact (List.nodup_cons.mp hn).1
  | y :: r, k + 1, x, hn, h => by
    rw [List.eraseIdx_cons_succ, List.mem_cons]
    have hn' := List.nodup_cons.mp hn
    have hx : r[k]? = some x := by simpa using h
    rintro (e | e)
    · subst e; exact hn'.1 (List.mem_of_getElem? hx)
    · exact not_mem_erase hn'.2 hx e
theorem map_erase (l : List Int) (k : Nat) : (l.map V.int).eraseIdx k = (l.eraseIdx k).map V.int := by
  induction l generalizing k with
  | nil => simp
  | cons a r ih => cases k with
    | zero => simp
    | succ k => simp [ih]
def othersOf (n o : Nat) : List Int := ((List.range n).map fun i => (0 : Int) + (i : Nat)).filter fun i => !decide (i = (o : Int))
def othersB (n o : Nat) : Bool := decide (othersOf n o).Nodup && (othersOf n o).all (fun x => decide (0 ≤ x ∧ x < (n : Int) ∧ x ≠ (o : Int))) && decide ((othersOf n o).length = n - 1)
theorem othersB_all : (List.range 7).all (fun n => (List.range n).all fun o => othersB n o) = true := by decide +kernel
theorem othersOf_facts (n : Nat) (hn : n < 7) (o : Nat) (ho : o < n) : (othersOf n o).Nodup ∧ (∀ x ∈ othersOf n o, 0 ≤ x ∧ x < (n : Int) ∧ x ≠ (o : Int)) ∧ (othersOf n o).length = n - 1 := by
  have h := List.all_eq_true.mp (List.all_eq_true.mp othersB_all n (List.mem_range.mpr hn)) o (List.mem_range.mpr ho)
  unfold othersB at h
  rw [Bool.and_eq_true, Bool.and_eq_true] at h
  exact ⟨of_decide_eq_true h.1.1, fun x hx => of_decide_eq_true (List.all_eq_true.mp h.1.2 x hx), of_decide_eq_true h.2⟩
theorem PairAt.updL {K : PySem.W.Frag} {H : Hp} {x : Addr} {xs : List V} {o : HO} {v : V} {l : Int × Int} (h : PairAt K H v l) (hx : H x = some (.lst xs)) : PairAt K (upd H x o) v l := by
  obtain ⟨q, rfl, (h | ⟨ob, h⟩) | h⟩ := h
  · exact ⟨q, rfl, .inl (.inl (by rw [upd_ne (ne_of h hx (by intro z; cases z))]; exact h))⟩
  · exact ⟨q, rfl, .inl (.inr ⟨ob, by rw [upd_ne (ne_of h hx (by intro z; cases z))]; exact h⟩)⟩
  · exact ⟨q, rfl, .inr h⟩
theorem PairsAt.updL {K : PySem.W.Frag} {H : Hp} {x : Addr} {xs : List V} {o : HO} {vs : List V} {L : List (Int × Int)} (h : PairsAt K H vs L) (hx : H x = some (.lst xs)) : PairsAt K (upd H x o) vs L :=
  ⟨h.len, fun i l e => let ⟨v, e1, e2⟩ := h.at_ i l e; ⟨v, e1, PairAt.updL e2 hx⟩⟩
structure LineSt (K : PySem.W.Frag) (H0 H : Hp) (h o : Nat) (d oth r : Addr) (many : Nat) (i : Nat) (all : Nat) (σ : L2.St) : Prop where
  ex : ∃ (os : List Int) (L : List (Int × Int)) (us : List V) (k s l : Option V), σ = [some (.int h), some (.int o), some (.ref d), k, some (.ref oth), some (.int many), some (.ref r), s, l] ∧
    H oth = some (.lst (os.map V.int)) ∧ H r = some (.lst us) ∧ PairsAt K H us L ∧ L.length = i ∧ os.length + i = all ∧ os.Nodup ∧ (L.map (·.1)).Nodup ∧ (∀ l ∈ L, l.1 ∉ os) ∧
    (∀ x ∈ os, 0 ≤ x ∧ x < (h : Int) ∧ x ≠ (o : Int)) ∧ (∀ l ∈ L, (0 ≤ l.1 ∧ l.1 < (h : Int) ∧ l.1 ≠ (o : Int)) ∧ 1 ≤ l.2 ∧ l.2 ≤ 20)
  same : Same H0 H
theorem flat_rep (n : Nat) : (List.replicate n [V.int 0]).flatten = (List.replicate n (0 : Int)).map V.int := by
  induction n with
  | zero => rfl
  | succ n ih => rw [List.replicate_succ, List.flatten_cons, ih, List.replicate_succ]; rfl
theorem ixN_nat {n j : Nat} (h : j < n) : ixN n (j : Int) = some j := by
  unfold ixN
  rw [if_pos (Int.natCast_nonneg _), if_pos (by omega)]
  rfl
def RowsAt (H : Hp) (ls : List Int) (qs : List Addr) (n : Nat) : Prop := ∀ k, k ≤ n → ∃ q, qs[k]? = some q ∧ H q = some (.lst ((Mt.deal ls k).map V.int))
structure SplitSt (H0 H : Hp) (p b rw : Addr) (n : Nat) (ls : List Int) (i : Nat) (σ : L2.St) : Prop where
  ex : ∃ (qs : List Addr) (c be at_ he : Option V), σ = [some (.ref p), some (.int n), some (.ref b), some (.ref rw), c, be, at_, he] ∧ H rw = some (.lst (qs.map V.ref)) ∧ qs.length = i + 1 ∧ RowsAt H ls qs i ∧ (∀ q ∈ qs, q ≠ b ∧ q ≠ rw)
  bo : H b = some (.lst ((Mt.deal ls i).map V.int))
  same : Same H0 H
theorem cut_ints (ds : List Int) (i j : Nat) (hj : j ≤ ds.length) (hij : i ≤ j) : cutV (ds.map V.int) (some (i : Int)) (some (j : Int)) = ((ds.drop i).take (j - i)).map V.int := by
  unfold cutV
  rw [HT.sIx_nat, HT.sIx_nat, List.length_map, Nat.min_eq_left hj, Nat.min_eq_left (Nat.le_trans hij hj), List.map_take, List.map_drop]
theorem cut_len (ds : List Int) (i j : Nat) (hj : j ≤ ds.length) : ((ds.drop i).take (j - i)).length = j - i := by
  rw [List.length_take, List.length_drop]; omega
theorem cut_in {ds : List Int} (h : InD ds) (i n : Nat) : InD ((ds.drop i).take n) := fun d hd => h d (List.mem_of_mem_drop (List.mem_of_mem_take hd))
theorem draw_at {ds : List Int} (h : InD ds) {i : Nat} (hi : i < ds.length) : ∃ d : Nat, d < 997 ∧ atI (ds.map V.int) (i : Int) = some (V.int (d : Int)) := by
  obtain ⟨v, hv⟩ := get_some hi
  have := h v (List.mem_of_getElem? hv)
  refine ⟨v.toNat, by omega, ?_⟩
  have e : ((v.toNat : Nat) : Int) = v := by omega
  rw [e]
  exact atI_nat (by rw [List.getElem?_map, hv]; rfl)
theorem nodup_getD {l : List Int} (h : l.Nodup) {i j : Nat} (hi : i < l.length) (hj : j < l.length) (e : l.getD i 0 = l.getD j 0) : i = j := by
  rw [getD_of (List.getElem?_eq_getElem hi), getD_of (List.getElem?_eq_getElem hj)] at e
  exact (List.getElem_inj h).mp e
def measB (kind : Str) (by_ most : Int) : Bool := (if kind = ("share" : Str) then decide (1 ≤ by_ ∧ by_ ≤ 100) else if kind = ("layer" : Str) then decide (0 ≤ by_ ∧ by_ ≤ 200) else false) && decide (0 ≤ most ∧ most ≤ 24)
theorem share_ne : ¬ ("share" : Str) = "layer" := by decide +kernel
def wishZ (kind : Str) (b r : Int) : Int := if kind = ("share" : Str) then r * b / 100 else if r - b > 0 then r - b else 0
theorem dec_strV {x y : Str} : decide (V.str x = V.str y) = decide (x = y) := by
  by_cases h : x = y
  · rw [h, decide_eq_true rfl, decide_eq_true rfl]
  · rw [decide_eq_false h, decide_eq_false (fun z => h (V.str.inj z))]
def takeZ (kind : Str) (b m r : Int) : Int := if wishZ kind b r < m then wishZ kind b r else m
theorem ix3 {x y z : V} {i : Nat} (h : i < 3) : atI [x, y, z] (i : Int) = some (if i = 0 then x else if i = 1 then y else z) := by
  match i, h with
  | 0, _ => rfl
  | 1, _ => rfl
  | 2, _ => rfl
theorem ix2 {x y : V} {i : Nat} (h : i < 2) : atI [x, y] (i : Int) = some (if i = 0 then x else y) := by
  match i, h with
  | 0, _ => rfl
  | 1, _ => rfl
end Rc
namespace Rc
open PySem PySem.Spec PyProof.Rows L2
abbrev Row := Int × Str × Int × Int × List (Int × Int)
def RowAt (K : PySem.W.Frag) (H : Hp) (p : Addr) : Option Row → Prop
  | none => ∃ xs, SqT K H p xs ∧ xs.length ≠ 5 ∧ xs.length ≤ 100
  | some (ho, k, b, m, L) => ∃ lp, SqT K H p [.int ho, .str k, .int b, .int m, .ref lp] ∧ LinesAt K H lp L ∧ L.length ≤ 100
def othersBL (h ho : Int) (L : List (Int × Int)) : Bool := L.all fun l => decide (l.1 < h) && !decide (l.1 = ho)
def isCoverB (h : Int) : Option Row → Bool
  | none => false
  | some (ho, k, b, m, L) => decide (0 ≤ ho ∧ ho < h) && (measB k b m && (isLinesB L && othersBL h ho L))
theorem isCoverB_some {h ho : Int} {k : Str} {b m : Int} {L : List (Int × Int)} : isCoverB h (some (ho, k, b, m, L)) = (decide (0 ≤ ho ∧ ho < h) && (measB k b m && (isLinesB L && othersBL h ho L))) := rfl
theorem isCoverB_iff {h ho : Int} {k : Str} {b m : Int} {L : List (Int × Int)} (h6 : h ≤ 6) : isCoverB h (some (ho, k, b, m, L)) = true ↔
    (0 ≤ ho ∧ ho < h) ∧ measB k b m = true ∧ (1 ≤ L.length ∧ L.length ≤ 4) ∧ (L.map (·.1)).Nodup ∧ ∀ l ∈ L, (0 ≤ l.1 ∧ l.1 < h ∧ l.1 ≠ ho) ∧ 1 ≤ l.2 ∧ l.2 ≤ 20 := by
  unfold isCoverB isLinesB othersBL
  simp only [Bool.and_eq_true, decide_eq_true_eq, List.all_eq_true, lineB, Bool.not_eq_true', decide_eq_false_iff_not]
  constructor
  · rintro ⟨a1, a2, ⟨a3, a4, a5⟩, a6⟩
    exact ⟨a1, a2, a3, a4, fun l hl => ⟨⟨(a5 l hl).1, (a6 l hl).1, (a6 l hl).2⟩, (a5 l hl).2.2.1, (a5 l hl).2.2.2⟩⟩
  · rintro ⟨a1, a2, a3, a4, a5⟩
    refine ⟨a1, a2, ⟨a3, a4, fun l hl => ?_⟩, fun l hl => ⟨(a5 l hl).1.2.1, (a5 l hl).1.2.2⟩⟩
    have := a5 l hl
    omega
theorem dec_intV {x y : Int} : decide (V.int x = V.int y) = decide (x = y) := by
  by_cases h : x = y
  · rw [h, decide_eq_true rfl, decide_eq_true rfl]
  · rw [decide_eq_false h, decide_eq_false (fun z => h (V.int.inj z))]
end Rc
namespace Rc
open PySem PySem.Spec PyProof.Rows L2
theorem measB_cases {k : Str} {b m : Int} (h : measB k b m = true) : ((k = "share" ∧ 1 ≤ b ∧ b ≤ 100) ∨ (k = "layer" ∧ 0 ≤ b ∧ b ≤ 200)) ∧ 0 ≤ m ∧ m ≤ 24 := by
  unfold measB at h
  rw [Bool.and_eq_true] at h
  refine ⟨?_, of_decide_eq_true h.2⟩
  by_cases e1 : k = ("share" : Str)
  · rw [if_pos e1] at h; exact .inl ⟨e1, of_decide_eq_true h.1⟩
  · rw [if_neg e1] at h
    by_cases e2 : k = ("layer" : Str)
    · rw [if_pos e2] at h; exact .inr ⟨e2, of_decide_eq_true h.1⟩
    · rw [if_neg e2] at h; cases h.1
end Rc
namespace Rc
open PySem PySem.Spec PyProof.Rows L2
def bearersL (L : List (Int × Int)) (n : Nat) : List Int := (List.range n).map (bearerOf L)
theorem bearersL_succ (L : List (Int × Int)) (n : Nat) : bearersL L (n + 1) = bearersL L n ++ [bearerOf L n] := by
  unfold bearersL; rw [List.range_succ, List.map_append]; rfl
theorem bearersL_len (L : List (Int × Int)) (n : Nat) : (bearersL L n).length = n := by unfold bearersL; rw [List.length_map, List.length_range]
theorem bearersL_last (L : List (Int × Int)) (n : Nat) : atI ((bearersL L (n + 1)).map V.int) (-1) = some (V.int (bearerOf L n)) := by
  rw [bearersL_succ, List.map_append]
  unfold atI ixN
  have e : (if 1 ≤ (n : Int) + 1 then some (-1 + ((n : Int) + 1)).toNat else none) = some n := by rw [if_pos (by omega)]; congr 1; omega
  simp [bearersL_len, e]
theorem count_deal {L : List (Int × Int)} (h1 : 1 ≤ L.length) (nd : (L.map (·.1)).Nodup) : ∀ (n i : Nat), i < L.length → (((bearersL L n).count ((L.map (·.1)).getD i 0) : Nat) : Int) = (Mt.deal (L.map (·.2)) n).getD i 0
  | 0, i, hi => by simp [bearersL, Mt.deal, List.getD, hi]
  | n + 1, i, hi => by
    have ih := count_deal h1 nd n i hi
    have hpk : Mt.pick (L.map (·.2)) (Mt.deal (L.map (·.2)) n) < L.length := by
      have := Mt.pick_lt (ls := L.map (·.2)) (b := Mt.deal (L.map (·.2)) n) (by rw [List.length_map]; exact h1)
      rw [List.length_map] at this; exact this
    have hdl : (Mt.deal (L.map (·.2)) n).length = L.length := by rw [Mt.deal_length, List.length_map]
    rw [bearersL_succ, List.count_append, Mt.deal, Mt.give]
    unfold bearerOf
    generalize Mt.pick (L.map (·.2)) (Mt.deal (L.map (·.2)) n) = k at *
    by_cases e : k = i
    · subst e
      rw [List.count_singleton_self, getD_of (List.getElem?_set_self (by omega))]
      push_cast; omega
    · have hne : ¬ (L.map (·.1)).getD k 0 = (L.map (·.1)).getD i 0 := fun z => e (nodup_getD nd (by rw [List.length_map]; exact hpk) (by rw [List.length_map]; exact hi) z)
      rw [List.count_singleton, if_neg (by simpa using hne)]
      have e2 : ∀ v : Int, ((Mt.deal (L.map (·.2)) n).set k v).getD i 0 = (Mt.deal (L.map (·.2)) n).getD i 0 := fun v => by
        simp only [List.getD_eq_getElem?_getD, List.getElem?_set_ne e]
      rw [e2, Nat.add_zero]; exact ih
theorem len1 {p : List Value → Prop} : ∀ {us : List Value}, us.length = 1 → (∀ a0, p [a0]) → p us
  | [a0], _, h => h a0
theorem len2 {p : List Value → Prop} : ∀ {us : List Value}, us.length = 2 → (∀ a0 a1, p [a0, a1]) → p us
  | [a0, a1], _, h => h a0 a1
theorem len3 {p : List Value → Prop} : ∀ {us : List Value}, us.length = 3 → (∀ a0 a1 a2, p [a0, a1, a2]) → p us
  | [a0, a1, a2], _, h => h a0 a1 a2
theorem len4 {p : List Value → Prop} : ∀ {us : List Value}, us.length = 4 → (∀ a0 a1 a2 a3, p [a0, a1, a2, a3]) → p us
  | [a0, a1, a2, a3], _, h => h a0 a1 a2 a3
end Rc
namespace Rc
open PySem PySem.Spec PyProof.Rows L2
structure FL (K : PySem.W.Frag) (x q : Str) (st : Stmt) (f : Addr) : Prop where
  ex : ∃ (od an : Option Addr) (sl : Array (Option Value)) (oc kV dc pm cd ct : Value), K.lookup f = some ⟨oc, od, .func (PySem.W.fnOf x q (defArgs st) (defBody st) (defScope st) .none kV dc pm an cd ct), sl⟩ ∧ PySem.W.codeIn K cd q = true ∧ PySem.W.keepIn K (.ref f) = true
theorem fl_mk {K : PySem.W.Frag} {x q : Str} {st : Stmt} {f : Addr} {od an : Option Addr} {sl : Array (Option Value)} {oc kV dc pm cd ct : Value} (l : K.lookup f = some ⟨oc, od, .func (PySem.W.fnOf x q (defArgs st) (defBody st) (defScope st) .none kV dc pm an cd ct), sl⟩) (c : PySem.W.codeIn K cd q = true) (k : PySem.W.keepIn K (.ref f) = true) : FL K x q st f :=
  ⟨od, an, sl, oc, kV, dc, pm, cd, ct, l, c, k⟩
theorem FL.fn {K : PySem.W.Frag} {x q : Str} {st : Stmt} {f : Addr} (l : FL K x q st f) (ps : List Str)
    (h : ∀ (kV doc pm : Value) (an : Option Addr) (cdv ct : Value) (us : List Value), us.length = ps.length → bindArgs (PySem.W.fnOf x q (defArgs st) (defBody st) (defScope st) .none kV doc pm an cdv ct) ⟨us, []⟩ = pure (ps.zip us)) :
    ∃ fd, Fun K x q st f fd ∧ PySem.W.keepIn K (.ref f) = true ∧ Binds K fd ps [] := by
  obtain ⟨od, an, sl, oc, kV, dc, pm, cd, ct, l1, c, k⟩ := l.ex
  exact ⟨_, fun_mk l1 c k, k, (fun_mk l1 c k).binds h⟩
section
variable {K : PySem.W.Frag} {x q : Str} {st : Stmt} {f : Addr}
theorem FL.fn1 (l : FL K x q st f) (ps : List Str) (h : ∀ (kV doc pm : Value) (an : Option Addr) (cdv ct u0 : Value), bindArgs (PySem.W.fnOf x q (defArgs st) (defBody st) (defScope st) .none kV doc pm an cdv ct) ⟨[u0], []⟩ = pure (ps.zip [u0])) (hp : ps.length = 1 := by rfl) : ∃ fd, Fun K x q st f fd ∧ PySem.W.keepIn K (.ref f) = true ∧ Binds K fd ps [] :=
  l.fn ps fun kV doc pm an cdv ct us hl => len1 (p := fun us => bindArgs (PySem.W.fnOf x q (defArgs st) (defBody st) (defScope st) .none kV doc pm an cdv ct) ⟨us, []⟩ = pure (ps.zip us)) (hl.trans hp) fun u0 => h kV doc pm an cdv ct u0
theorem FL.fn2 (l : FL K x q st f) (ps : List Str) (h : ∀ (kV doc pm : Value) (an : Option Addr) (cdv ct u0 u1 : Value), bindArgs (PySem.W.fnOf x q (defArgs st) (defBody st) (defScope st) .none kV doc pm an cdv ct) ⟨[u0, u1], []⟩ = pure (ps.zip [u0, u1])) (hp : ps.length = 2 := by rfl) : ∃ fd, Fun K x q st f fd ∧ PySem.W.keepIn K (.ref f) = true ∧ Binds K fd ps [] :=
  l.fn ps fun kV doc pm an cdv ct us hl => len2 (p := fun us => bindArgs (PySem.W.fnOf x q (defArgs st) (defBody st) (defScope st) .none kV doc pm an cdv ct) ⟨us, []⟩ = pure (ps.zip us)) (hl.trans hp) fun u0 u1 => h kV doc pm an cdv ct u0 u1
theorem FL.fn3 (l : FL K x q st f) (ps : List Str) (h : ∀ (kV doc pm : Value) (an : Option Addr) (cdv ct u0 u1 u2 : Value), bindArgs (PySem.W.fnOf x q (defArgs st) (defBody st) (defScope st) .none kV doc pm an cdv ct) ⟨[u0, u1, u2], []⟩ = pure (ps.zip [u0, u1, u2])) (hp : ps.length = 3 := by rfl) : ∃ fd, Fun K x q st f fd ∧ PySem.W.keepIn K (.ref f) = true ∧ Binds K fd ps [] :=
  l.fn ps fun kV doc pm an cdv ct us hl => len3 (p := fun us => bindArgs (PySem.W.fnOf x q (defArgs st) (defBody st) (defScope st) .none kV doc pm an cdv ct) ⟨us, []⟩ = pure (ps.zip us)) (hl.trans hp) fun u0 u1 u2 => h kV doc pm an cdv ct u0 u1 u2
theorem FL.fn4 (l : FL K x q st f) (ps : List Str) (h : ∀ (kV doc pm : Value) (an : Option Addr) (cdv ct u0 u1 u2 u3 : Value), bindArgs (PySem.W.fnOf x q (defArgs st) (defBody st) (defScope st) .none kV doc pm an cdv ct) ⟨[u0, u1, u2, u3], []⟩ = pure (ps.zip [u0, u1, u2, u3])) (hp : ps.length = 4 := by rfl) : ∃ fd, Fun K x q st f fd ∧ PySem.W.keepIn K (.ref f) = true ∧ Binds K fd ps [] :=
  l.fn ps fun kV doc pm an cdv ct us hl => len4 (p := fun us => bindArgs (PySem.W.fnOf x q (defArgs st) (defBody st) (defScope st) .none kV doc pm an cdv ct) ⟨us, []⟩ = pure (ps.zip us)) (hl.trans hp) fun u0 u1 u2 u3 => h kV doc pm an cdv ct u0 u1 u2 u3
end
end Rc
namespace Rc
open PySem PySem.Spec PyProof.Rows L2
section
variable {K : PySem.W.Frag} {H H' : Hp} {v : V} {vs : List V} {c : Row} {cs : List Row} {x : Addr} {xs : List V} {o : HO}
end
structure GoodC (h : Int) (c : Row) : Prop where
  ho : 0 ≤ c.1 ∧ c.1 < h
  ms : measB c.2.1 c.2.2.1 c.2.2.2.1 = true
  gl : GoodL c.2.2.2.2
  ot : ∀ l ∈ c.2.2.2.2, l.1 < h ∧ l.1 ≠ c.1
theorem goodC_iff {h : Int} {c : Row} (h6 : h ≤ 6) : isCoverB h (some c) = true ↔ GoodC h c := by
  obtain ⟨ho, k, b, m, L⟩ := c
  rw [isCoverB_iff h6]
  constructor
  · rintro ⟨a1, a2, a3, a4, a5⟩
    exact ⟨a1, a2, ⟨a3.1, a3.2, a4, fun l hl => by have := a5 l hl; omega⟩, fun l hl => (a5 l hl).1.2⟩
  · rintro ⟨a1, a2, a3, a4⟩
    exact ⟨a1, a2, ⟨a3.l1, a3.l4⟩, a3.nd, fun l hl => ⟨⟨(a3.all l hl).1, a4 l hl⟩, (a3.all l hl).2.2⟩⟩
section
variable {h : Int} {a b c : Addr}
end
section
variable {F : Addr → Prop} {C : Addr} {K : PySem.W.Frag} {H H' : Hp} {t : Addr} {h : Nat} {cs : List Row} {ls : List Int}
end
end Rc
namespace Rc
open PySem PySem.Spec PyProof.Rows L2
end Rc
namespace Rc
open PySem PySem.Spec PyProof.Rows L2
section
variable {h : Nat} {cs : List Row} {ls acc : List Int}
end
end Rc
namespace Rc
open PySem PySem.Spec PyProof.Rows L2
section
variable {h : Nat} {cs : List Row} {ls acc : List Int} {f : Int → Int → Int}
end
end Rc
namespace Rc
open PySem PySem.Spec PyProof.Rows L2
section
variable {h : Nat} {cs : List Row} {ls acc : List Int}
end
end Rc
namespace Rc
open PySem PySem.Spec PyProof.Rows L2
section
variable {h : Nat} {cs : List Row} {ls acc : List Int}
def moreL (ls : List Int) (j : Nat) (k : Int) : List Int := ls.set j (ls.getD j 0 + k)
end
end Rc
namespace Rc
open PySem PySem.Spec PyProof.Rows L2
section
variable {C : Addr} {K : PySem.W.Frag} {H H' : Hp} {dh r lo sp x : Addr} {ds : List Int} {us : List V} {cs : List Row} {ls : List Int} {ss : List Addr} {h : Nat}
end
theorem fm_none {β : Type} {g : Nat → Option β} : ∀ n, (∀ i, i < n → g i = none) → (List.range n).filterMap g = []
  | 0, _ => rfl
  | n + 1, h => by rw [List.range_succ, List.filterMap_append, fm_none n fun i hi => h i (by omega)]; simp [h n (by omega)]
theorem fm_one {β : Type} {g : Nat → Option β} {f : Nat} {v : β} (h1 : g f = some v) : ∀ n, f < n → (∀ i, i < n → i ≠ f → g i = none) → (List.range n).filterMap g = [v]
  | 0, hf, _ => absurd hf (Nat.not_lt_zero _)
  | n + 1, hf, h2 => by
    rw [List.range_succ, List.filterMap_append]
    by_cases e : f = n
    · subst e
      rw [fm_none f fun i hi => h2 i (by omega) (by omega)]; simp [h1]
    · rw [fm_one h1 n (by omega) fun i hi hne => h2 i (by omega) hne]; simp [h2 n (by omega) (fun z => e z.symm)]
theorem more_get {ls : List Int} {f : Nat} {k : Int} (hf : f < ls.length) (i : Nat) : (moreL ls f k).getD i 0 = ls.getD i 0 + if i = f then k else 0 := by
  unfold moreL
  rw [List.getD_eq_getElem?_getD, List.getElem?_set]
  by_cases e : f = i
  · subst e; rw [if_pos rfl, if_pos hf, if_pos rfl]; rfl
  · rw [if_neg e, if_neg (fun z => e z.symm), ← List.getD_eq_getElem?_getD]; omega
end Rc
namespace Rc
open PySem PySem.Spec PyProof.Rows L2
section
variable {h : Nat} {cs : List Row} {ls a b c : List Int}
end
end Rc
namespace Rc
open PySem PySem.Spec PyProof.Rows L2
section
variable {h : Nat} {cs : List Row} {ls acc : List Int}
end
end Rc
namespace Rc
open PySem PySem.Spec PyProof.Rows L2
section
variable {CT CR : Addr} {K : PySem.W.Frag} {H H' : Hp} {x s t : Addr} {h : Nat} {cs : List Row} {ls acc : List Int}
end
structure PairsT (H : Hp) (vs : List V) (L : List (Int × Int)) : Prop where
  len : vs.length = L.length
  at_ : ∀ (i : Nat) (l : Int × Int), L[i]? = some l → ∃ q, vs[i]? = some (.ref q) ∧ H q = some (.tup [.int l.1, .int l.2])
section
variable {K : PySem.W.Frag} {H H' : Hp} {vs : List V} {L : List (Int × Int)}
theorem PairsT.toAt (h : PairsT H vs L) : PairsAt K H vs L := ⟨h.len, fun i l e => let ⟨q, e1, e2⟩ := h.at_ i l e; ⟨.ref q, e1, q, rfl, SqT.of e2⟩⟩
theorem PairsT.same (h : PairsT H vs L) (s : Same H H') : PairsT H' vs L := ⟨h.len, fun i l e => let ⟨q, e1, e2⟩ := h.at_ i l e; ⟨q, e1, s _ _ e2⟩⟩
theorem PairsT.but {x : Addr} {xs : List V} (h : PairsT H vs L) (hx : H x = some (.lst xs)) (s : ∀ b o, b ≠ x → H b = some o → H' b = some o) : PairsT H' vs L :=
  ⟨h.len, fun i l e => let ⟨q, e1, e2⟩ := h.at_ i l e; ⟨q, e1, s _ _ (fun z => by rw [z, hx] at e2; cases e2) e2⟩⟩
theorem PairsT.updL {x : Addr} {xs : List V} {o : HO} (h : PairsT H vs L) (hx : H x = some (.lst xs)) : PairsT (upd H x o) vs L := h.but hx fun b o n e => by rw [upd_ne n]; exact e
theorem PairsT.nil : PairsT H [] [] := ⟨rfl, fun i l e => by simp at e⟩
theorem PairsT.snoc {q : Addr} {l : Int × Int} (h : PairsT H vs L) (hq : H q = some (.tup [.int l.1, .int l.2])) : PairsT H (vs ++ [.ref q]) (L ++ [l]) := by
  refine ⟨by rw [List.length_append, List.length_append, h.len]; rfl, fun i m e => ?_⟩
  by_cases hi : i < L.length
  · rw [List.getElem?_append_left hi] at e
    obtain ⟨u, e1, e2⟩ := h.at_ i m e
    exact ⟨u, by rw [List.getElem?_append_left (by rw [h.len]; exact hi)]; exact e1, e2⟩
  · have hlt := get_lt e
    rw [List.length_append, List.length_singleton] at hlt
    have ei : i = L.length := by omega
    subst ei
    rw [List.getElem?_append_right (Nat.le_refl _), Nat.sub_self] at e
    simp at e; subst e
    exact ⟨q, by rw [List.getElem?_append_right (by rw [h.len]; exact Nat.le_refl _), h.len, Nat.sub_self]; rfl, hq⟩
end
section
variable {F G : Addr → Prop} {C : Addr} {K : PySem.W.Frag} {H H' : Hp} {t s : Addr} {h : Nat} {cs : List Row} {ls acc : List Int}
end
end Rc
namespace Rc
open PySem PySem.Spec PyProof.Rows L2
section
variable {F : Addr → Prop} {C : Addr} {K : PySem.W.Frag} {H H' : Hp} {t : Addr} {h : Nat} {cs : List Row} {ls : List Int}
end
section
variable {n hop : Nat} {kind : Str} {b : Int} {ms ws : Nat → Int} {cs : List Row} {acc : List Int}
end
end Rc
namespace Rc
open PySem PySem.Spec PyProof.Rows L2
section
variable {h : Nat} {cs : List Row} {ls a b : List Int}
end
end Rc
namespace L2
open PySem PySem.Spec PyProof.Rows
section
variable {P : Program} {w : World} {H H' : Hp} {h h' : Heap} {a : Addr} {o : HO}
end
section
variable {X : Cx} {pins : List (Addr × Obj)} {σ : St} {H : Hp} {s s' : Shared} {E E1 : XK} {a C : Addr} {args : List Value}
end
end L2
namespace L2
open PySem PySem.Spec PyProof.Rows
section
variable {X : Cx} {E : XK} {x : Str} {C : Addr} {e : Expr} {es : List Expr} {t : TA} {np cpos pos : Pos} {B newId initId : String} {bmB : List Value}
end
section
variable {P : Program} {w : World} {K : PySem.W.Frag} {mg : Str → Option Value} {base : Heap} {k : Nat} {f : Addr} {fd : FuncData} {ps : List Str} {sp : Sp}
end
section
variable {X : Cx} {v₁ v₂ : Expr} {rest : List Expr} {pos : Pos}
end
section
variable {P : Program} {w : World} {K : PySem.W.Frag} {mg : Str → Option Value} {base : Heap} {k : Nat} {f : Addr} {fd : FuncData} {ps : List Str} {sp : Sp}
end
section
variable {X : Cx} {k : Nat} {f : Addr} {fd : FuncData} {ps : List Str} {sp : Sp} {x : Str} {p pos : Pos} {e : Expr} {es : List Expr} {t : TA}
end
end L2
namespace L2
open PySem PySem.Spec PyProof.Rows
section
variable {X : Cx} {pins pl : List (Addr × Obj)} {σ : St} {H H' : Hp} {s s' : Shared} {Ex : St → XK} {v : Value}
end
section
variable {X : Cx} {k : Nat} {f : Addr} {fd : FuncData} {ps : List Str} {sp : Sp} {x n : Str} {p np hpos pos : Pos} {e : Expr} {es : List Expr} {t : TA} {pins : List (Addr × Obj)} {Ex : St → XK}
end
end L2
namespace L2
open PySem PySem.Spec PyProof.Rows PySem.W Builtin Builtin.ObjectAttr Builtin.Getset_descriptor
section
variable {prog : Program} {w : World} {A : Around} {E : Value → Shared → Prop} {K : PySem.W.Frag} {C a : Addr} {o : Obj} {hh : Heap} {g : Array GenState} {d : Drawn} {t : Nat} {os : OsState}
end
section
variable {X : Cx}
end
end L2
namespace L2
open PySem PySem.Spec PyProof.Rows PySem.Calls PyProof.V PySem.SeqAt
section
variable {X : Cx} {pins : List (Addr × Obj)} {σ : St} {H : Hp} {s : Shared}
end
section
variable {X : Cx}
end
end L2
namespace L2
open PySem PySem.Spec PyProof.Rows
end L2
namespace L2
open PySem PySem.Spec PyProof.Rows
section
variable {X : Cx} {k : Nat} {f C : Addr} {fd : FuncData} {ps : List Str} {sp : Sp} {x m : Str} {p pos apos : Pos} {e o : Expr} {es : List Expr} {t : TA} {ta : TE} {pins : List (Addr × Obj)} {Ex : St → XK}
end
end L2
namespace L2
open PySem PySem.Spec PyProof.Rows
section
variable {X : Cx}
end
end L2
namespace Rc
open PySem PySem.Spec PyProof.Rows L2 PySem.Calls PyProof.V PySem.SeqAt
theorem cut_from (us : List V) {n : Nat} (h : n ≤ us.length) : cutV us (some (n : Int)) none = us.drop n := by
  unfold cutV
  rw [HT.sIx_nat, Nat.min_eq_left h, HT.sIx_none, List.take_of_length_le (by rw [List.length_drop]; omega)]
end Rc
namespace L2
open PySem PySem.Spec PyProof.Rows
section
variable {M F F' : Hp} {a b : Addr} {o : HO}
end
section
variable {P : Program} {w : World} {H : Hp} {h h' : Heap} {M F F' : Hp} {a : Addr} {o : HO}
end
section
variable {P : Program} {w : World} {K : PySem.W.Frag} {mg : Str → Option Value} {base : Heap} {k : Nat} {f : Addr} {fd : FuncData} {ps : List Str} {sp sp' : Sp}
end
section
variable {Z : Addr → Prop} {H F : Hp} {b : Addr}
end
section
variable {P : Program} {w : World} {K : PySem.W.Frag} {mg : Str → Option Value} {base : Heap} {k : Nat} {f : Addr} {fd : FuncData} {ps : List Str} {sp : Sp}
end
section
variable {X : Cx}
end
end L2
namespace HT
open PySem PySem.Spec PyProof.Rows
section
variable {prog : Program} {w : World} {A : Around} {E : Value → Shared → Prop} {s : Shared}
theorem adjust_rev (n : Nat) : Builtin.Slice.sliceAdjust none none (-1) (n : Int) = ((n : Int) - 1, -1) := by
  unfold Builtin.Slice.sliceAdjust
  simp
theorem places_rev (n : Nat) : Builtin.Slice.slicePlaces ((n : Int) - 1) (-1) (-1) = n := by
  unfold Builtin.Slice.slicePlaces
  simp
  omega
theorem sliceApplied_rev {sl : Addr} {vk : Value} {n : Nat} {Q : Int × Int × Nat → Shared → Prop} (hs : s.heap.IsSliceOf sl .none .none vk) (pk : IsPart vk (some (-1)))
    (h : Q ((n : Int) - 1, -1, n) s) : wpAny (model prog w) A (Builtin.Slice.sliceApplied (.ref sl) (pure (n : Int))) Q E s := by
  obtain ⟨os, hos, hcs, hds⟩ := id hs
  unfold Builtin.Slice.sliceApplied Builtin.Slice.sliceFields
  refine wpAny_bind (wpAny_bind (wpAny_field hos hds (x := .none) rfl (wpAny_bind (wpAny_field hos hds (x := .none) rfl (wpAny_bind (wpAny_field hos hds (x := vk) rfl (wpAny_pure ?_)))))))
  refine wpAny_bind (slicePart_ pk ?_)
  show wpAny _ _ (if ((-1 : Int) == 0) = true then _ else _) _ _ s
  rw [if_neg (by decide)]
  refine wpAny_bind (slicePart_none (wpAny_bind (slicePart_none (wpAny_bind (wpAny_pure ?_)))))
  show wpAny _ _ (match Builtin.Slice.sliceAdjust none none (-1) (n : Int) with | (lo, hi) => pure (lo, (-1 : Int), Builtin.Slice.slicePlaces lo hi (-1))) _ _ s
  rw [adjust_rev n]
  show wpAny _ _ (pure ((n : Int) - 1, (-1 : Int), Builtin.Slice.slicePlaces ((n : Int) - 1) (-1) (-1))) _ _ s
  rw [places_rev]
  exact wpAny_pure h
theorem fm_congr {α β : Type} {f g : α → Option β} : ∀ {l : List α}, (∀ x ∈ l, f x = g x) → l.filterMap f = l.filterMap g
  | [], _ => rfl
  | x :: r, h => by rw [List.filterMap_cons, List.filterMap_cons, h x List.mem_cons_self, fm_congr fun y hy => h y (List.mem_cons_of_mem _ hy)]
theorem pick_rev (xs : Array Value) : ((List.range xs.size).filterMap fun (m : Nat) => xs[(((xs.size : Nat) : Int) - 1 + (m : Int) * -1).toNat]?).toArray = xs.toList.reverse.toArray := by
  congr 1
  refine List.ext_getElem? fun i => ?_
  by_cases hi : i < xs.size
  · have e : (List.range xs.size).filterMap (fun (m : Nat) => xs[(((xs.size : Nat) : Int) - 1 + (m : Int) * -1).toNat]?) = (List.range xs.size).map fun m => xs.toList.getD (xs.size - 1 - m) .none := by
      rw [← List.filterMap_eq_map]
      refine fm_congr fun m hm => ?_
      have hm' := List.mem_range.mp hm
      have e2 : (((xs.size : Nat) : Int) - 1 + (m : Int) * -1).toNat = xs.size - 1 - m := by omega
      rw [e2]
      have hl : xs.size - 1 - m < xs.size := by omega
      simp [List.getD, hl]
    rw [e, List.getElem?_map, List.getElem?_range hi, List.getElem?_reverse (by simpa using hi)]
    have hl : xs.size - 1 - i < xs.size := by omega
    simp [List.getD, hl]
  · have l1 : ((List.range xs.size).filterMap fun (m : Nat) => xs[(((xs.size : Nat) : Int) - 1 + (m : Int) * -1).toNat]?).length ≤ i := Nat.le_trans (List.length_filterMap_le _ _) (by rw [List.length_range]; omega)
    rw [List.getElem?_eq_none l1, List.getElem?_eq_none (by simp; omega)]
theorem getItem_tuple_rev {t sl : Addr} {items : Array Value} {vk : Value} {Q : Value → Shared → Prop} (ht : IsTup s.heap t items) (hs : s.heap.IsSliceOf sl .none .none vk) (pk : IsPart vk (some (-1)))
    (h : Q (.ref s.heap.objs.size) { s with heap := s.heap.push { cls := .type "tuple", data := .seq items.toList.reverse.toArray } })
    (hsz : items.size ≤ sizeLine) : wpAny (model prog w) A (getItem (.ref t) (.ref sl)) Q E s := by
  have htake : sizeOk (.seq items.toList.reverse.toArray) := by
    show items.toList.reverse.toArray.size ≤ sizeLine
    rw [List.size_toArray, List.length_reverse, Array.length_toList]; exact hsz
  obtain ⟨os, hos, hcs, hds⟩ := id hs
  have hTs : s.TypeIs (.ref sl) "slice" := ⟨os, hos, hcs⟩
  unfold getItem
  try with_reducible refine wpAny_holding ?_
  first | refine wpAny_bind (wpAny_pure ?_) | skip
  refine wpAny_bind (wpAny_sequenceKey ht.typeIs (by decide) ?_)
  refine wpAny_bind (wpAny_callSpecial?_slot (name := Str.ofString "__getitem__") ht.typeIs PyProof.Rows.slot_tuple_getitem
    (wpAny_call_entry PyProof.Rows.slot_tuple_getitem ht.typeIs entry_tuple_getitem ?_ (args_tuple_getitem _ _)))
  show wpAny _ _ (Builtin.Tuple.tupleItemsOf (.ref t) >>= _) _ _ s
  refine wpAny_bind (tupleItemsOf_ ht ?_)
  refine wpAny_bind (wpAny_typeOf hTs ?_)
  rw [if_pos (by decide)]
  refine wpAny_bind (sliceApplied_rev hs pk ?_)
  have hno : ¬ ((((items.size : Nat) : Int) - 1 == 0 && (-1 : Int) == 1 && items.size == items.size) = true) := by
    intro q
    rw [Bool.and_eq_true, Bool.and_eq_true] at q
    exact absurd (eq_of_beq q.1.2) (by decide)
  show wpAny _ _ (if (((items.size : Nat) : Int) - 1 == 0 && (-1 : Int) == 1 && items.size == items.size) = true then _ else _) _ _ s
  rw [if_neg hno, pick_rev]
  first
    | exact wpAny_bind (m := Builtin.Tuple.tupleExact _) (wpAny_newObj_type (wpAny_pure ⟨_, rfl, wpAny_pure h⟩) htake)
    | exact wpAny_bind (m := Builtin.Tuple.tupleExact _) (wpAny_newObj_type (wpAny_bind (wpAny_pure (wpAny_pure ⟨_, rfl, wpAny_pure h⟩))) htake)
    | exact wpAny_bind (wpAny_bind (m := Builtin.Tuple.tupleExact _) (wpAny_newObj_type (wpAny_pure (wpAny_pure ⟨_, rfl, wpAny_pure h⟩)) htake))
    | exact wpAny_bind (wpAny_bind (m := Builtin.Tuple.tupleExact _) (wpAny_newObj_type (wpAny_pure ⟨_, rfl, wpAny_pure h⟩) htake))
end
end HT
namespace L2
open PySem PySem.Spec PyProof.Rows
section
variable {X : Cx}
def tRevT (K : PySem.W.Frag) (te : TE) (th : TO) : TE := fun σ H Q => te σ H fun x H1 => th σ H1 fun u H2 => u = some (-1) ∧ ∃ a xs, x = .ref a ∧ SqT K H2 a xs ∧ ∀ l, H2 l = none → Q (.ref l) (upd H2 l (.tup xs.reverse))
theorem pe_revT {e k : Expr} {te : TE} {th : TO} {p2 pos : Pos} (he : PE X e te) (hk : PO X (some k) th) (hs : ∀ v r, ∃ ops, subscripted (.Slice none none (some k) p2) false v r = operate ops (getItem v r)) : PE X (.Subscript e (.Slice none none (some k) p2) pos) (tRevT X.K te th) := by
  intro pins s σ H Q I h
  refine Subscript_ (thn (he pins s σ H _ I h) fun v s1 ⟨x, H1, I1, r1, q1⟩ => ?_)
  refine wpAny_Slice ?_
  rw [evalPart_none]
  refine wpAny_pure ?_
  refine wpAny_pure ?_
  refine thn (hk pins s1 σ H1 _ I1 q1) fun vk s3 ⟨u, H3, I3, pk, q3⟩ => ?_
  obtain ⟨rfl, a, xs, rfl, hx, q⟩ := q3
  cases r1
  have I4 : Inv X pins σ H3 { s3 with heap := s3.heap.push { cls := .type "slice", data := .fields #[.none, .none, vk] } } := I3.kept (t' := s3.toks) fun b ob q => Heap.get?_push_of_some _ q
  show wpAny (model X.prog X.w) X.A (subscriptTail e (.Slice none none (some k) p2) (.ref a) (.ref s3.heap.objs.size)) (EP X pins σ Q) X.xe { s3 with heap := s3.heap.push { cls := .type "slice", data := .fields #[.none, .none, vk] } }
  obtain ⟨its, r, ht, hz⟩ := I4.tuple hx
  have hlen := r.length
  obtain ⟨ops, hops⟩ := hs (.ref a) (.ref s3.heap.objs.size)
  refine tail_any (ops := ops) ht.typeIs slot_tuple_getitem.lookup ?_ hops
  refine HT.getItem_tuple_rev ht (Heap.IsSliceOf.new ..) pk ?_ (by rw [List.size_toArray] <;> omega)
  refine ⟨.ref _, _, I4.laid (t' := s3.toks) (o := .tup xs.reverse) (fun b ob q => Heap.get?_push_of_some _ q) (Nat.le_refl _) ?_, rfl, q _ (I4.hok.fresh (Nat.le_refl _))⟩
  exact ⟨by rw [List.length_reverse]; exact hz, _, vals_rev r, _, Heap.get?_push_size _ rfl, rfl, _, rfl⟩
end
end L2
namespace Rc
open PySem PySem.Spec PyProof.Rows L2
inductive Tm where
  | stop (ho b m : Int) (L : List (Int × Int))
  | full (k : Str) (ho b m w f l : Int) (L : List (Int × Int))
  | other
def TmAt (K : PySem.W.Frag) (H : Hp) (p : Addr) : Tm → Prop
  | .stop ho b m L => ∃ lp, SqT K H p [.str "stop", .int ho, .int b, .int m, .ref lp] ∧ LinesAt K H lp L ∧ L.length ≤ 100
  | .full k ho b m w f l L => (k = "share" ∨ k = "layer") ∧ ∃ lp, SqT K H p [.str k, .int ho, .int b, .int m, .int w, .int f, .int l, .ref lp] ∧ LinesAt K H lp L ∧ L.length ≤ 100
  | .other => ∃ xs, SqT K H p xs ∧ xs.length ≤ 100 ∧ (xs = [] ∨ ∃ k rest, xs = .str k :: rest ∧ ¬ (k = "stop" ∧ xs.length = 5) ∧ ¬ ((k = "share" ∨ k = "layer") ∧ xs.length = 8))
theorem TmAt.same {K : PySem.W.Frag} {H H' : Hp} {p : Addr} (s : Same H H') : ∀ {t : Tm}, TmAt K H p t → TmAt K H' p t
  | .stop _ _ _ _, ⟨lp, h, h1, h2⟩ => ⟨lp, s.tupS h, h1.same s, h2⟩
  | .full _ _ _ _ _ _ _ _, ⟨hk, lp, h, h1, h2⟩ => ⟨hk, lp, s.tupS h, h1.same s, h2⟩
  | .other, ⟨xs, h, h1⟩ => ⟨xs, s.tupS h, h1⟩
def bndB (w f l : Int) : Bool := decide (1 ≤ w ∧ w ≤ 120) && (decide (0 ≤ f ∧ f ≤ 99) && (decide (0 ≤ l ∧ l ≤ 99) && decide (f ≤ l)))
def termsB (h : Int) : Tm → Bool
  | .stop ho b m L => isCoverB h (some (ho, "layer", b, m, L)) && decide (1 ≤ m)
  | .full k ho b m w f l L => isCoverB h (some (ho, k, b, m, L)) && decide (1 ≤ m) && bndB w f l
  | .other => false
theorem termsB_stop {h ho b m : Int} {L : List (Int × Int)} : termsB h (.stop ho b m L) = (isCoverB h (some (ho, "layer", b, m, L)) && decide (1 ≤ m)) := rfl
theorem termsB_full {h : Int} {k : Str} {ho b m w f l : Int} {L : List (Int × Int)} : termsB h (.full k ho b m w f l L) = (isCoverB h (some (ho, k, b, m, L)) && decide (1 ≤ m) && bndB w f l) := rfl
end Rc
namespace Rc
open PySem PySem.Spec PyProof.Rows L2
section
variable {K : PySem.W.Frag} {H : Hp} {vs : List V} {L : List (Int × Int)} {us : List V} {cs : List Row}
theorem cut_init (us : List V) (v : V) : cutV (us ++ [v]) none (some (-1)) = us := by
  have e : HT.sIx (us ++ [v]).length (us ++ [v]).length (some (-1)) = us.length := by
    rw [List.length_append, List.length_singleton]
    unfold HT.sIx
    simp
    omega
  unfold cutV
  rw [HT.sIx_none, e, List.drop_zero, Nat.sub_zero, List.take_append_of_le_length (Nat.le_refl _), List.take_length]
theorem cut_upto (us : List V) (n : Nat) : cutV us none (some (n : Int)) = us.take n := by
  unfold cutV
  rw [HT.sIx_none, HT.sIx_nat, List.drop_zero, Nat.sub_zero]
  rcases Nat.le_total n us.length with h | h
  · rw [Nat.min_eq_left h]
  · rw [Nat.min_eq_right h, List.take_length, List.take_of_length_le h]
end
end Rc
namespace Rc
open PySem PySem.Spec PyProof.Rows L2
section
variable {K : PySem.W.Frag} {H : Hp} {vs : List V} {L : List (Int × Int)}
theorem pairs_rev (h : PairsAt K H vs L) : PairsAt K H vs.reverse L.reverse := by
  refine ⟨by rw [List.length_reverse, List.length_reverse, h.len], fun i l e => ?_⟩
  have hi := get_lt e
  rw [List.length_reverse] at hi
  rw [List.getElem?_reverse hi] at e
  obtain ⟨v, e1, e2⟩ := h.at_ _ l e
  exact ⟨v, by rw [List.getElem?_reverse (by rw [h.len]; exact hi), h.len]; exact e1, e2⟩
theorem good_rev (g : GoodL L) : GoodL L.reverse := by
  refine ⟨by rw [List.length_reverse]; exact g.l1, by rw [List.length_reverse]; exact g.l4, ?_, fun l hl => g.all l (List.mem_reverse.mp hl)⟩
  rw [List.map_reverse]
  exact List.pairwise_reverse.mpr (List.Pairwise.imp (fun h => Ne.symm h) g.nd)
def bumpL (d : Int) (L : List (Int × Int)) : List (Int × Int) := L.map fun l => (l.1, 1 + (l.2 + d) % 20)
theorem bump_mem {d : Int} {l : Int × Int} (h : l ∈ bumpL d L) : ∃ l' ∈ L, l.1 = l'.1 ∧ 1 ≤ l.2 ∧ l.2 ≤ 20 := by
  unfold bumpL at h
  rw [List.mem_map] at h
  obtain ⟨l', h', rfl⟩ := h
  refine ⟨l', h', rfl, ?_, ?_⟩
  · show 1 ≤ 1 + (l'.2 + d) % 20; omega
  · show 1 + (l'.2 + d) % 20 ≤ 20; omega
theorem good_bump {d : Int} (g : GoodL L) : GoodL (bumpL d L) := by
  refine ⟨by unfold bumpL; rw [List.length_map]; exact g.l1, by unfold bumpL; rw [List.length_map]; exact g.l4, ?_, fun l hl => ?_⟩
  · have e : (bumpL d L).map (·.1) = L.map (·.1) := by unfold bumpL; rw [List.map_map]; rfl
    rw [e]; exact g.nd
  · obtain ⟨l', h', e, e2⟩ := bump_mem hl
    have := g.all l' h'
    rw [e]; exact ⟨this.1, this.2.1, e2⟩
theorem one_line {p q : Addr} {a b : Int} (h1 : SqT K H p [.ref q]) (h2 : SqT K H q [.int a, .int b]) : LinesAt K H p [(a, b)] := by
  refine ⟨_, h1, rfl, fun i l e => ?_⟩
  match i, e with
  | 0, e => simp at e; subst e; exact ⟨_, rfl, q, rfl, h2⟩
  | i + 1, e => simp at e
theorem deal_next {ls : List Int} {n : Nat} (h : 1 ≤ ls.length) (i : Nat) : (Mt.deal ls (n + 1)).getD i 0 = (Mt.deal ls n).getD i 0 + if i = Mt.pick ls (Mt.deal ls n) then 1 else 0 := by
  have hp := Mt.pick_lt (ls := ls) (b := Mt.deal ls n) (by omega)
  exact more_get (ls := Mt.deal ls n) (k := 1) (by rw [Mt.deal_length]; exact hp) i
end
end Rc
theorem PySem.W.Fast.tw13745133110874797257 : True := trivial
theorem PySem.W.Fast.tw14769824973848258438 : True := trivial
theorem PySem.W.Fast.tw4161669312335149796 : True := trivial
theorem PySem.W.Fast.tw4330833280122872991 : True := trivial
theorem PySem.W.Fast.tw1577910289483031287 : True := trivial
theorem PySem.W.Fast.tw18150539460108777430 : True := trivial
theorem PySem.W.Fast.tw11865406191156774131 : True := trivial
theorem PySem.W.Fast.tw14149112385357200749 : True := trivial
theorem PySem.W.Fast.tw9852297067705889794 : True := trivial
theorem PySem.W.Fast.tw7906942168788917002 : True := trivial
theorem PySem.W.Fast.tw13474244577356084175 : True := trivial
theorem PySem.W.Fast.tw15113804778867397237 : True := trivial
theorem PySem.W.Fast.tw2156597557947483540 : True := trivial
theorem PySem.W.Fast.tw16441294085031705970 : True := trivial
theorem PySem.W.Fast.tw7989371897560439064 : True := trivial
theorem PySem.W.Fast.tw5769358218505512417 : True := trivial
theorem PySem.W.Fast.tw15084430659131154247 : True := trivial
theorem PySem.W.Fast.tw11614508032935895700 : True := trivial
theorem PySem.W.Fast.tw2511221418336424826 : True := trivial
theorem PySem.W.Fast.tw1619601917051802847 : True := trivial
theorem PySem.W.Fast.tw6054036560917296730 : True := trivial
theorem PySem.W.Fast.tw5655915035629814957 : True := trivial
theorem PySem.W.Fast.tw13044259587062816473 : True := trivial
theorem PySem.W.Fast.tw17178743123702615158 : True := trivial
theorem PySem.W.Fast.tw8179439942930086236 : True := trivial
theorem PySem.W.Fast.tw10933522434282823863 : True := trivial
theorem PySem.W.Fast.tw5513339438602651307 : True := trivial
theorem PySem.W.Fast.tw14069625893951929531 : True := trivial
theorem PySem.W.Fast.tw11079524091375868398 : True := trivial
theorem PySem.W.Fast.tw11246865129877026106 : True := trivial
theorem PySem.W.Fast.tw12646286702757618805 : True := trivial
theorem PySem.W.Fast.tw11929961751829919327 : True := trivial
theorem PySem.W.Fast.tw16743493986794284683 : True := trivial
theorem PySem.W.Fast.tw3077444069715736671 : True := trivial
theorem PySem.W.Fast.tw13427430619746043608 : True := trivial
theorem PySem.W.Fast.tw9387435339459496831 : True := trivial
theorem PySem.W.Fast.tw9787522885926333209 : True := trivial
theorem PySem.W.Fast.tw14697103713669316388 : True := trivial
theorem PySem.W.Fast.tw1705535280812236668 : True := trivial
theorem PySem.W.Fast.tw5803635543259662804 : True := trivial
theorem PySem.W.Fast.tw16602623452970982934 : True := trivial
theorem PySem.W.Fast.tw3718188513927493469 : True := trivial
theorem PySem.W.Fast.tw83048008148834716 : True := trivial
theorem PySem.W.Fast.tw13799798422537329361 : True := trivial
theorem PySem.W.Fast.tw13437991521141457030 : True := trivial
theorem PySem.W.Fast.tw9019429781438337574 : True := trivial
theorem PySem.W.Fast.tw8716368386663663008 : True := trivial
theorem PySem.W.Fast.tw721044484213274252 : True := trivial
theorem PySem.W.Fast.tw14045343904856804434 : True := trivial
theorem PySem.W.Fast.tw4609597226458467020 : True := trivial
theorem PySem.W.Fast.tw9818984794750410358 : True := trivial
theorem PySem.W.Fast.tw14498702803199090081 : True := trivial
theorem PySem.W.Fast.tw16486640255139327514 : True := trivial
theorem PySem.W.Fast.tw9824797329427933275 : True := trivial
theorem PySem.W.Fast.tw14973452707420200071 : True := trivial
theorem PySem.W.Fast.tw5842950726032049229 : True := trivial
theorem PySem.W.Fast.tw12620397645406108310 : True := trivial
theorem PySem.W.Fast.tw13974810143130085786 : True := trivial
theorem PySem.W.Fast.tw16680031089403405675 : True := trivial
theorem PySem.W.Fast.tw16444975828144578885 : True := trivial
theorem PySem.W.Fast.tw4798119066236178682 : True := trivial
theorem PySem.W.Fast.tw11802239250588055543 : True := trivial
theorem PySem.W.Fast.tw4458959552705164381 : True := trivial
theorem PySem.W.Fast.tw12406108766199212390 : True := trivial
theorem PySem.W.Fast.tw3372011353674122143 : True := trivial
theorem PySem.W.Fast.tw9971006086714214914 : True := trivial
theorem PySem.W.Fast.tw7868389513661956401 : True := trivial
theorem PySem.W.Fast.tw5539287499265723545 : True := trivial
theorem PySem.W.Fast.tw8055496231299478068 : True := trivial
theorem PySem.W.Fast.tw9477830885699814302 : True := trivial
theorem PySem.W.Fast.tw17882140740790083431 : True := trivial
theorem PySem.W.Fast.tw13431678160732044724 : True := trivial
theorem PySem.W.Fast.tw14343875574744942174 : True := trivial
theorem PySem.W.Fast.tw5213147056074104348 : True := trivial
theorem PySem.W.Fast.tw6674291466926528825 : True := trivial
theorem PySem.W.Fast.tw16873558474837084593 : True := trivial
theorem PySem.W.Fast.tw200833806320200181 : True := trivial
theorem PySem.W.Fast.tw12403398215424717143 : True := trivial
theorem PySem.W.Fast.tw10075560213335493932 : True := trivial
theorem PySem.W.Fast.tw1842348460040653779 : True := trivial
theorem PySem.W.Fast.tw14412833471095737544 : True := trivial
theorem PySem.W.Fast.tw4910523618796227892 : True := trivial
theorem PySem.W.Fast.tw8504463009246927642 : True := trivial
theorem PySem.W.Fast.tw15184751433107669917 : True := trivial
theorem PySem.W.Fast.tw11698852622949928154 : True := trivial
theorem PySem.W.Fast.tw12478255775250417672 : True := trivial
theorem PySem.W.Fast.tw1069807900905256857 : True := trivial
theorem PySem.W.Fast.tw7805961440789117592 : True := trivial
theorem PySem.W.Fast.tw18416365310637310557 : True := trivial
theorem PySem.W.Fast.tw12709599439952197424 : True := trivial
theorem PySem.W.Fast.tw16160708517153199236 : True := trivial
theorem PySem.W.Fast.tw2887329988064590794 : True := trivial
theorem PySem.W.Fast.tw15013465139290840701 : True := trivial
theorem PySem.W.Fast.tw18349795375407811217 : True := trivial
theorem PySem.W.Fast.tw15531023663895821280 : True := trivial
theorem PySem.W.Fast.tw17195701951746118406 : True := trivial
theorem PySem.W.Fast.tw13874769414610217217 : True := trivial
theorem PySem.W.Fast.tw13845660533847717299 : True := trivial
theorem PySem.W.Fast.tw8157264915323739196 : True := trivial
theorem PySem.W.Fast.tw14618242676862766634 : True := trivial
theorem PySem.W.Fast.tw10199955587759582614 : True := trivial
theorem PySem.W.Fast.tw17613229603096091412 : True := trivial
theorem PySem.W.Fast.tw969234602582018437 : True := trivial
theorem PySem.W.Fast.tw10015591966303020159 : True := trivial
theorem PySem.W.Fast.tw13051687120151211542 : True := trivial
theorem PySem.W.Fast.tw12507259289895542606 : True := trivial
theorem PySem.W.Fast.tw18347657471708301338 : True := trivial
theorem PySem.W.Fast.tw1465935431205254258 : True := trivial
theorem PySem.W.Fast.tw15438527218841801213 : True := trivial
theorem PySem.W.Fast.tw18409062657076057539 : True := trivial
theorem PySem.W.Fast.tw12190708845048029731 : True := trivial
theorem PySem.W.Fast.tw517023492472046563 : True := trivial
theorem PySem.W.Fast.tw15598768458628857631 : True := trivial
theorem PySem.W.Fast.tw2144700787165473408 : True := trivial
theorem PySem.W.Fast.tw395096540707571537 : True := trivial
theorem PySem.W.Fast.tw10370324890780043769 : True := trivial
theorem PySem.W.Fast.tw2776560294806359018 : True := trivial
theorem PySem.W.Fast.tw13033632752741271761 : True := trivial
theorem PySem.W.Fast.tw18285610302220531442 : True := trivial
theorem PySem.W.Fast.tw15699255303074376674 : True := trivial
theorem PySem.W.Fast.tw7325294274935649021 : True := trivial
theorem PySem.W.Fast.tw16343682961686122534 : True := trivial
theorem PySem.W.Fast.tw17362376155458173959 : True := trivial
theorem PySem.W.Fast.tw2594759346870915370 : True := trivial
theorem PySem.W.Fast.tw13207253655559304174 : True := trivial
theorem PySem.W.Fast.tw12745817466680661516 : True := trivial
theorem PySem.W.Fast.tw16527140872431868982 : True := trivial
theorem PySem.W.Fast.tw16558554838764661670 : True := trivial
theorem PySem.W.Fast.tw14294051135060247243 : True := trivial
theorem PySem.W.Fast.tw506606342022776886 : True := trivial
theorem PySem.W.Fast.tw15106956463757263248 : True := trivial
theorem PySem.W.Fast.tw4685713798835929961 : True := trivial
theorem PySem.W.Fast.tw95269789932706644 : True := trivial
theorem PySem.W.Fast.tw4953935921691395625 : True := trivial
theorem PySem.W.Fast.tw13259895249187794570 : True := trivial
theorem PySem.W.Fast.tw513168315116263922 : True := trivial
theorem PySem.W.Fast.tw11487956355733944249 : True := trivial
theorem PySem.W.Fast.tw3306561639703579521 : True := trivial
theorem PySem.W.Fast.tw212604725900389537 : True := trivial
theorem PySem.W.Fast.tw5029248663017034941 : True := trivial
theorem PySem.W.Fast.tw5445444326873093745 : True := trivial
theorem PySem.W.Fast.tw7454189089227947556 : True := trivial
theorem PySem.W.Fast.tw3024556235409628780 : True := trivial
theorem PySem.W.Fast.tw17493127389053178459 : True := trivial
theorem PySem.W.Fast.tw16980421428553103362 : True := trivial
theorem PySem.W.Fast.tw13221294031048714996 : True := trivial
theorem PySem.W.Fast.tw4371129087765121289 : True := trivial
theorem PySem.W.Fast.tw241042850752069506 : True := trivial
theorem PySem.W.Fast.tw295333675915012809 : True := trivial
theorem PySem.W.Fast.tw6053060807499104069 : True := trivial
theorem PySem.W.Fast.tw16099979370132954771 : True := trivial
theorem PySem.W.Fast.tw980924819316891713 : True := trivial
theorem PySem.W.Fast.tw6612461458218833910 : True := trivial
theorem PySem.W.Fast.tw15556432637638490163 : True := trivial
theorem PySem.W.Fast.tw6823553721625227431 : True := trivial
theorem PySem.W.Fast.tw3604354628507176853 : True := trivial
theorem PySem.W.Fast.tw14551682572624252676 : True := trivial
theorem PySem.W.Fast.tw12618662565007168711 : True := trivial
theorem PySem.W.Fast.tw11793579969632825999 : True := trivial
theorem PySem.W.Fast.tw7845269695216725268 : True := trivial
theorem PySem.W.Fast.tw6199770623995386185 : True := trivial
theorem PySem.W.Fast.tw10764679720653322389 : True := trivial
theorem PySem.W.Fast.tw10328997606346732675 : True := trivial
theorem PySem.W.Fast.tw15441334214352496849 : True := trivial
theorem PySem.W.Fast.tw18040279155357466221 : True := trivial
theorem PySem.W.Fast.tw5213230695644896001 : True := trivial
theorem PySem.W.Fast.tw5622395554254093333 : True := trivial
theorem PySem.W.Fast.tw14405241171988497900 : True := trivial
theorem PySem.W.Fast.tw10665477621185806954 : True := trivial
theorem PySem.W.Fast.tw9141460541370353983 : True := trivial
theorem PySem.W.Fast.tw5237405451444275087 : True := trivial
theorem PySem.W.Fast.tw280978641977064635 : True := trivial
theorem PySem.W.Fast.tw18038412367995397709 : True := trivial
theorem PySem.W.Fast.tw9187066176807035436 : True := trivial
theorem PySem.W.Fast.tw9178290088332436179 : True := trivial
theorem PySem.W.Fast.tw9172033939016472896 : True := trivial
theorem PySem.W.Fast.tw8998573613910297669 : True := trivial
theorem PySem.W.Fast.tw8549318140472597134 : True := trivial
theorem PySem.W.Fast.tw8532297195236564954 : True := trivial
theorem PySem.W.Fast.tw8065827534919722480 : True := trivial
theorem PySem.W.Fast.tw6823137823763219135 : True := trivial
theorem PySem.W.Fast.tw6655761664055353696 : True := trivial
theorem PySem.W.Fast.tw6598088806572109245 : True := trivial
theorem PySem.W.Fast.tw6564766876354396979 : True := trivial
theorem PySem.W.Fast.tw6340586910645350528 : True := trivial
theorem PySem.W.Fast.tw6236051157600576078 : True := trivial
theorem PySem.W.Fast.tw6158811087586895949 : True := trivial
theorem PySem.W.Fast.tw5652623626994199712 : True := trivial
theorem PySem.W.Fast.tw5440297071939145 : True := trivial
theorem PySem.W.Fast.tw5257698236174713172 : True := trivial
theorem PySem.W.Fast.tw5055652713390971394 : True := trivial
theorem PySem.W.Fast.tw4769370758842809125 : True := trivial
theorem PySem.W.Fast.tw4575086446910234784 : True := trivial
theorem PySem.W.Fast.tw4226124945973923722 : True := trivial
theorem PySem.W.Fast.tw379409981067660630 : True := trivial
theorem PySem.W.Fast.tw3746964978305810776 : True := trivial
theorem PySem.W.Fast.tw3217342084974299629 : True := trivial
theorem PySem.W.Fast.tw2630340505808473212 : True := trivial
theorem PySem.W.Fast.tw1939879417033870343 : True := trivial
theorem PySem.W.Fast.tw18307926023053200432 : True := trivial
theorem PySem.W.Fast.tw18260761825254049877 : True := trivial
theorem PySem.W.Fast.tw17866926203105408163 : True := trivial
theorem PySem.W.Fast.tw17855892918461849173 : True := trivial
theorem PySem.W.Fast.tw1771979603395705466 : True := trivial
theorem PySem.W.Fast.tw17594788246776204064 : True := trivial
theorem PySem.W.Fast.tw17405445175922932812 : True := trivial
theorem PySem.W.Fast.tw16816534569257157268 : True := trivial
theorem PySem.W.Fast.tw16711310054112646754 : True := trivial
theorem PySem.W.Fast.tw15835782071464858118 : True := trivial
theorem PySem.W.Fast.tw15831856908891777163 : True := trivial
theorem PySem.W.Fast.tw15669026988774155591 : True := trivial
theorem PySem.W.Fast.tw15339057767591322599 : True := trivial
theorem PySem.W.Fast.tw15057922340610088858 : True := trivial
theorem PySem.W.Fast.tw15015709538957596281 : True := trivial
theorem PySem.W.Fast.tw14979471542592325226 : True := trivial
theorem PySem.W.Fast.tw13850434018603394184 : True := trivial
theorem PySem.W.Fast.tw13324839892734479865 : True := trivial
theorem PySem.W.Fast.tw12952215854956944315 : True := trivial
theorem PySem.W.Fast.tw12815531427451229232 : True := trivial
theorem PySem.W.Fast.tw12146146873006695499 : True := trivial
theorem PySem.W.Fast.tw11472028113248413056 : True := trivial
theorem PySem.W.Fast.tw11421380049755041355 : True := trivial
theorem PySem.W.Fast.tw10835377630927482691 : True := trivial
theorem PySem.W.Fast.tw10679852297881474619 : True := trivial
theorem PySem.W.Fast.tw10366614934058686970 : True := trivial
theorem PySem.W.Fast.tw1020356722940568558 : True := trivial
theorem PySem.W.Fast.tw10179538723520015900 : True := trivial
theorem PySem.W.Fast.tw10148358985752112342 : True := trivial
namespace Rc
open PySem PySem.Spec PyProof.Rows L2
def top (i : Nat) : Stmt := PySem.Challenge.pw_ringcede_k70_small_calls_by_turns.main.body.getD i (.Pass ⟨0, 0, 0, 0⟩)
abbrev s_is_lines : Stmt := top 11
abbrev s_require_lines : Stmt := top 12
abbrev s_next_place : Stmt := top 13
abbrev s_bearers : Stmt := top 14
abbrev s_parts : Stmt := top 15
abbrev s_bearer : Stmt := top 16
abbrev s_is_measure : Stmt := top 20
abbrev s_are_others : Stmt := top 21
abbrev s_is_cover : Stmt := top 22
abbrev s_wish : Stmt := top 23
abbrev s_take : Stmt := top 24
abbrev s_is_day : Stmt := top 29
abbrev s_is_stop : Stmt := top 30
abbrev s_cover_of : Stmt := top 31
abbrev s_are_bounds : Stmt := top 32
abbrev s_is_terms : Stmt := top 33
abbrev s__law_draws : Stmt := top 35
abbrev s__law_whole : Stmt := top 36
abbrev s__law_wholes : Stmt := top 37
abbrev s__law_list : Stmt := top 38
abbrev s__law_lines : Stmt := top 39
abbrev s__law_cover : Stmt := top 40
abbrev s__law_split : Stmt := top 41
abbrev s__law_take : Stmt := top 42
abbrev s__law_terms : Stmt := top 43
abbrev s_law : Stmt := top 44
set_option genInjectivity false in
set_option genSizeOfSpec false in
set_option genSizeOf false in
structure Adr where
  a_is_lines : Addr
  f_is_lines : FuncData
  a_require_lines : Addr
  f_require_lines : FuncData
  a_next_place : Addr
  f_next_place : FuncData
  a_bearers : Addr
  f_bearers : FuncData
  a_parts : Addr
  f_parts : FuncData
  a_bearer : Addr
  f_bearer : FuncData
  a_is_measure : Addr
  f_is_measure : FuncData
  a_are_others : Addr
  f_are_others : FuncData
  a_is_cover : Addr
  f_is_cover : FuncData
  a_wish : Addr
  f_wish : FuncData
  a_take : Addr
  f_take : FuncData
  a_is_day : Addr
  f_is_day : FuncData
  a_is_stop : Addr
  f_is_stop : FuncData
  a_cover_of : Addr
  f_cover_of : FuncData
  a_are_bounds : Addr
  f_are_bounds : FuncData
  a_is_terms : Addr
  f_is_terms : FuncData
  a__law_draws : Addr
  f__law_draws : FuncData
  a__law_whole : Addr
  f__law_whole : FuncData
  a__law_wholes : Addr
  f__law_wholes : FuncData
  a__law_list : Addr
  f__law_list : FuncData
  a__law_lines : Addr
  f__law_lines : FuncData
  a__law_cover : Addr
  f__law_cover : FuncData
  a__law_split : Addr
  f__law_split : FuncData
  a__law_take : Addr
  f__law_take : FuncData
  a__law_terms : Addr
  f__law_terms : FuncData
  a_law : Addr
  f_law : FuncData
  o_BY_BOUNDS : Addr
  u_BY_BOUNDS_0 : Addr
  u_BY_BOUNDS_1 : Addr
  o_THINGS : Addr
  u_THINGS_0 : Tok
  u_THINGS_1 : Tok
  u_THINGS_2 : Tok
structure Txt (w : World) (K : PySem.W.Frag) (mg : Str → Option Value) (A : Adr) : Prop where
  F_is_lines : Fun K "is_lines" "is_lines" s_is_lines A.a_is_lines A.f_is_lines
  m_is_lines : mg "is_lines" = some (.ref A.a_is_lines)
  k_is_lines : PySem.W.keepIn K (.ref A.a_is_lines) = true
  d_is_lines : Binds K A.f_is_lines ["lines"] []
  F_require_lines : Fun K "require_lines" "require_lines" s_require_lines A.a_require_lines A.f_require_lines
  m_require_lines : mg "require_lines" = some (.ref A.a_require_lines)
  k_require_lines : PySem.W.keepIn K (.ref A.a_require_lines) = true
  d_require_lines : Binds K A.f_require_lines ["lines"] []
  F_next_place : Fun K "next_place" "next_place" s_next_place A.a_next_place A.f_next_place
  m_next_place : mg "next_place" = some (.ref A.a_next_place)
  k_next_place : PySem.W.keepIn K (.ref A.a_next_place) = true
  d_next_place : Binds K A.f_next_place ["lines", "borne"] []
  F_bearers : Fun K "bearers" "bearers" s_bearers A.a_bearers A.f_bearers
  m_bearers : mg "bearers" = some (.ref A.a_bearers)
  k_bearers : PySem.W.keepIn K (.ref A.a_bearers) = true
  d_bearers : Binds K A.f_bearers ["lines", "crowns"] []
  F_parts : Fun K "parts" "parts" s_parts A.a_parts A.f_parts
  m_parts : mg "parts" = some (.ref A.a_parts)
  k_parts : PySem.W.keepIn K (.ref A.a_parts) = true
  d_parts : Binds K A.f_parts ["lines", "crowns"] []
  F_bearer : Fun K "bearer" "bearer" s_bearer A.a_bearer A.f_bearer
  m_bearer : mg "bearer" = some (.ref A.a_bearer)
  k_bearer : PySem.W.keepIn K (.ref A.a_bearer) = true
  d_bearer : Binds K A.f_bearer ["lines", "crown"] []
  F_is_measure : Fun K "is_measure" "is_measure" s_is_measure A.a_is_measure A.f_is_measure
  m_is_measure : mg "is_measure" = some (.ref A.a_is_measure)
  k_is_measure : PySem.W.keepIn K (.ref A.a_is_measure) = true
  d_is_measure : Binds K A.f_is_measure ["kind", "by", "most"] []
  F_are_others : Fun K "are_others" "are_others" s_are_others A.a_are_others A.f_are_others
  m_are_others : mg "are_others" = some (.ref A.a_are_others)
  k_are_others : PySem.W.keepIn K (.ref A.a_are_others) = true
  d_are_others : Binds K A.f_are_others ["houses", "house", "lines"] []
  F_is_cover : Fun K "is_cover" "is_cover" s_is_cover A.a_is_cover A.f_is_cover
  m_is_cover : mg "is_cover" = some (.ref A.a_is_cover)
  k_is_cover : PySem.W.keepIn K (.ref A.a_is_cover) = true
  d_is_cover : Binds K A.f_is_cover ["houses", "cover"] []
  F_wish : Fun K "wish" "wish" s_wish A.a_wish A.f_wish
  m_wish : mg "wish" = some (.ref A.a_wish)
  k_wish : PySem.W.keepIn K (.ref A.a_wish) = true
  d_wish : Binds K A.f_wish ["kind", "by", "reach"] []
  F_take : Fun K "take" "take" s_take A.a_take A.f_take
  m_take : mg "take" = some (.ref A.a_take)
  k_take : PySem.W.keepIn K (.ref A.a_take) = true
  d_take : Binds K A.f_take ["kind", "by", "most", "reach"] []
  F_is_day : Fun K "is_day" "is_day" s_is_day A.a_is_day A.f_is_day
  m_is_day : mg "is_day" = some (.ref A.a_is_day)
  k_is_day : PySem.W.keepIn K (.ref A.a_is_day) = true
  d_is_day : Binds K A.f_is_day ["day"] []
  F_is_stop : Fun K "is_stop" "is_stop" s_is_stop A.a_is_stop A.f_is_stop
  m_is_stop : mg "is_stop" = some (.ref A.a_is_stop)
  k_is_stop : PySem.W.keepIn K (.ref A.a_is_stop) = true
  d_is_stop : Binds K A.f_is_stop ["terms"] []
  F_cover_of : Fun K "cover_of" "cover_of" s_cover_of A.a_cover_of A.f_cover_of
  m_cover_of : mg "cover_of" = some (.ref A.a_cover_of)
  k_cover_of : PySem.W.keepIn K (.ref A.a_cover_of) = true
  d_cover_of : Binds K A.f_cover_of ["terms"] []
  F_are_bounds : Fun K "are_bounds" "are_bounds" s_are_bounds A.a_are_bounds A.f_are_bounds
  m_are_bounds : mg "are_bounds" = some (.ref A.a_are_bounds)
  k_are_bounds : PySem.W.keepIn K (.ref A.a_are_bounds) = true
  d_are_bounds : Binds K A.f_are_bounds ["whole", "first", "last"] []
  F_is_terms : Fun K "is_terms" "is_terms" s_is_terms A.a_is_terms A.f_is_terms
  m_is_terms : mg "is_terms" = some (.ref A.a_is_terms)
  k_is_terms : PySem.W.keepIn K (.ref A.a_is_terms) = true
  d_is_terms : Binds K A.f_is_terms ["houses", "terms"] []
  F__law_draws : Fun K "_law_draws" "_law_draws" s__law_draws A.a__law_draws A.f__law_draws
  m__law_draws : mg "_law_draws" = some (.ref A.a__law_draws)
  k__law_draws : PySem.W.keepIn K (.ref A.a__law_draws) = true
  d__law_draws : Binds K A.f__law_draws ["_law_script", "_law_many"] []
  F__law_whole : Fun K "_law_whole" "_law_whole" s__law_whole A.a__law_whole A.f__law_whole
  m__law_whole : mg "_law_whole" = some (.ref A.a__law_whole)
  k__law_whole : PySem.W.keepIn K (.ref A.a__law_whole) = true
  d__law_whole : Binds K A.f__law_whole ["_law_found"] []
  F__law_wholes : Fun K "_law_wholes" "_law_wholes" s__law_wholes A.a__law_wholes A.f__law_wholes
  m__law_wholes : mg "_law_wholes" = some (.ref A.a__law_wholes)
  k__law_wholes : PySem.W.keepIn K (.ref A.a__law_wholes) = true
  d__law_wholes : Binds K A.f__law_wholes ["_law_found", "_law_many"] []
  F__law_list : Fun K "_law_list" "_law_list" s__law_list A.a__law_list A.f__law_list
  m__law_list : mg "_law_list" = some (.ref A.a__law_list)
  k__law_list : PySem.W.keepIn K (.ref A.a__law_list) = true
  d__law_list : Binds K A.f__law_list ["_law_found", "_law_due"] []
  F__law_lines : Fun K "_law_lines" "_law_lines" s__law_lines A.a__law_lines A.f__law_lines
  m__law_lines : mg "_law_lines" = some (.ref A.a__law_lines)
  k__law_lines : PySem.W.keepIn K (.ref A.a__law_lines) = true
  d__law_lines : Binds K A.f__law_lines ["_law_houses", "_law_house", "_law_draws_here"] []
  F__law_cover : Fun K "_law_cover" "_law_cover" s__law_cover A.a__law_cover A.f__law_cover
  m__law_cover : mg "_law_cover" = some (.ref A.a__law_cover)
  k__law_cover : PySem.W.keepIn K (.ref A.a__law_cover) = true
  d__law_cover : Binds K A.f__law_cover ["_law_houses", "_law_draws_here"] []
  F__law_split : Fun K "_law_split" "_law_split" s__law_split A.a__law_split A.f__law_split
  m__law_split : mg "_law_split" = some (.ref A.a__law_split)
  k__law_split : PySem.W.keepIn K (.ref A.a__law_split) = true
  d__law_split : Binds K A.f__law_split ["_law_lines_here", "_law_most"] []
  F__law_take : Fun K "_law_take" "_law_take" s__law_take A.a__law_take A.f__law_take
  m__law_take : mg "_law_take" = some (.ref A.a__law_take)
  k__law_take : PySem.W.keepIn K (.ref A.a__law_take) = true
  d__law_take : Binds K A.f__law_take ["_law_kind", "_law_by", "_law_most", "_law_reach"] []
  F__law_terms : Fun K "_law_terms" "_law_terms" s__law_terms A.a__law_terms A.f__law_terms
  m__law_terms : mg "_law_terms" = some (.ref A.a__law_terms)
  k__law_terms : PySem.W.keepIn K (.ref A.a__law_terms) = true
  d__law_terms : Binds K A.f__law_terms ["_law_houses", "_law_draws_here"] []
  F_law : Fun K "law" "law" s_law A.a_law A.f_law
  m_law : mg "law" = some (.ref A.a_law)
  k_law : PySem.W.keepIn K (.ref A.a_law) = true
  d_law : Binds K A.f_law ["_law_script"] []
  c_LAST_DAY : ∃ t, mg "LAST_DAY" = some (.int 99 t)
  c_LAST_HOUSE : ∃ t, mg "LAST_HOUSE" = some (.int 5 t)
  c_LEAST_LINE : ∃ t, mg "LEAST_LINE" = some (.int 1 t)
  c_MOST_BILL : ∃ t, mg "MOST_BILL" = some (.int 24 t)
  c_MOST_LINE : ∃ t, mg "MOST_LINE" = some (.int 20 t)
  c_MOST_PAIRS : ∃ t, mg "MOST_PAIRS" = some (.int 4 t)
  c_MOST_REACH : ∃ t, mg "MOST_REACH" = some (.int 99999 t)
  c_MOST_WHOLE : ∃ t, mg "MOST_WHOLE" = some (.int 120 t)
  b_all : mg "all" = none
  b_bool : mg "bool" = none
  b_int : mg "int" = none
  b_isinstance : mg "isinstance" = none
  b_len : mg "len" = none
  b_list : mg "list" = none
  b_max : mg "max" = none
  b_min : mg "min" = none
  b_range : mg "range" = none
  b_tuple : mg "tuple" = none
  g_BY_BOUNDS : mg "BY_BOUNDS" = some (.ref A.o_BY_BOUNDS)
  t_BY_BOUNDS : KDict w K A.o_BY_BOUNDS [(Sum.inr "share", .ref A.u_BY_BOUNDS_0), (Sum.inr "layer", .ref A.u_BY_BOUNDS_1)]
  s_BY_BOUNDS_0 : KTup K A.u_BY_BOUNDS_0 [.int 1, .int 100]
  s_BY_BOUNDS_1 : KTup K A.u_BY_BOUNDS_1 [.int 0, .int 200]
  g_THINGS : mg "THINGS" = some (.ref A.o_THINGS)
  t_THINGS : KDict w K A.o_THINGS [(Sum.inr "share", .int 8 A.u_THINGS_0), (Sum.inr "layer", .int 8 A.u_THINGS_1), (Sum.inr "stop", .int 5 A.u_THINGS_2)]
section
variable {P : Program} {w : World} {K : PySem.W.Frag} {mg : Str → Option Value} {base : Heap} {A : Adr}
def sp_is_lines (K : PySem.W.Frag) : Sp := fun vs H Q _ => ∃ (p : Addr) (L : List (Int × Int)), vs = [.ref p] ∧ LinesAt K H p L ∧ L.length ≤ 1000 ∧ ∀ H', Same H H' → Q (.bl (isLinesB L)) H'
theorem sc_is_lines : FnScope ["lines"] ["lines"] (defScope s_is_lines) := ⟨rfl, rfl, rfl, by decide +kernel, rfl, by decide +kernel, by decide +kernel⟩
set_option maxHeartbeats 4000000 in
theorem ok_is_lines (T : Txt w K mg A) : FnOk P w K mg base CX0 1 A.a_is_lines A.f_is_lines ["lines"] (sp_is_lines K) := by
  have nd := sc_is_lines.nd
  refine T.F_is_lines.ok sc_is_lines (fun vs H Q E h => ?_) (fun cdv Ar outer s H vs Q E hr h => ?_)
  · obtain ⟨p, L, rfl, _⟩ := h; rfl
  · skip
    obtain ⟨p, L, rfl, ⟨us, hp, hu⟩, hl, kk⟩ := h
    have hlen := hu.len
    have hz : us.length ≤ sizeLine := Nat.le_of_lt (small_line (by omega))
    have out : ∀ H', isLinesB L = false → Same H H' → Q (.bl false) H' := fun H' e s => by rw [← e]; exact kk H' s
    refine PSs.rd (pss_cons (ps_if (pt_not (pt_chain op_leI op_leI pe_int (pe_callB call_len_seq rfl T.b_len PySem.boot_len (pa_cons (pvI 0) pa_nil)) (pe_globI rfl T.c_MOST_PAIRS)))
      (pss_one (ps_ret pe_bl))
      pss_nil)
    (pss_cons (ps_if (pt_cmpR op_ltI (pe_callB call_len_setI rfl T.b_len PySem.boot_len (pa_cons (scA (defScope s_is_lines) (pi_tup (pvI 0)) (fun _ _ _ _ _ => pgc2 1 2) (fun _ _ _ _ _ => pts_nil) (fun _ _ _ _ _ => (pvI 1))) pa_nil)) (pe_callB call_len_seq rfl T.b_len PySem.boot_len (pa_cons (pvI 0) pa_nil)) (nomark _))
      (pss_one (ps_ret pe_bl))
      pss_nil)
    (pss_one (ps_ret (pe_callB (call_allB rfl) rfl T.b_all boot_all (pa_cons (lcA (defScope s_is_lines) (pi_tup (pvI 0)) (fun _ _ _ _ _ => pgc2 1 2) (fun _ _ _ _ _ => pts_nil) (fun _ _ _ _ _ => (pe_and (pe_chain op_leI op_leI pe_int (pvI 1) (pe_globI rfl T.c_LAST_HOUSE)) (pe_one (pe_chain op_leI op_leI (pe_globI rfl T.c_LEAST_LINE) (pvI 2) (pe_globI rfl T.c_MOST_LINE)))))) pa_nil)))))) ?_
    try dsimp only [L2.cxOf, L2.Cx.nox]
    refine ⟨_, rfl, p, us, rfl, .inr hp, _, _, rfl, rfl, _, rfl, iteD (fun h1 => ?_) (fun h1 => ?_)⟩
    case refine_2 =>
      refine ⟨_, rfl, iteT (out H ?_ (Same.refl H))⟩
      unfold isLinesB
      rw [decide_eq_false (by omega)]; rfl
    refine ⟨_, _, rfl, rfl, _, rfl, iteND (fun h4 => ?_) (fun h4 => ?_)⟩
    · refine out H ?_ (Same.refl H)
      unfold isLinesB
      rw [decide_eq_false (by omega)]; rfl
    refine ⟨_, rfl, p, rfl, ⟨us, hp⟩, ?_⟩
    refine sc_by (ks := L.map (·.1)) (itOf_tup hp) (fun σ => ∃ x y z, σ = [x, y, z]) ?_ (by rw [List.length_map]; exact hlen.symm) (by omega) ?_ ?_
    · exact ⟨_, _, _, rfl⟩
    · intro i x k σ2 H2 Qt Qf hx hk sm zz1 q
      refine byC fun hG => ?_
      obtain ⟨a, b, c, rfl⟩ := zz1
      obtain ⟨l, hl1, q1, rfl, hq⟩ := hu.get hx
      refine hG ?_
      rw [List.getElem?_map, hl1] at hk
      cases hk
      exact ⟨q1, _, rfl, sm.tupS hq, rfl, _, _, rfl, _, _, rfl, rfl, _, rfl, q _ ⟨_, _, _, rfl⟩⟩
    intro D hD
    have sD : Same H (upd H D (.set (dset (L.map (·.1))).1 (dset (L.map (·.1))).2)) := same_upd hD
    refine ⟨D, _, _, rfl, upd_same, _, rfl, p, us, rfl, .inr (sD.tupS hp), _, _, rfl, rfl, _, rfl, iteD (fun h5 => ?_) (fun h5 => ?_)⟩
    · refine out _ ?_ sD
      have hn : ¬ (L.map (·.1)).Nodup := fun hn => by
        have := (dset_nodup _).mpr hn
        rw [List.length_map] at this
        omega
      unfold isLinesB
      rw [decide_eq_false hn, Bool.false_and, Bool.and_false]
    have hn : (L.map (·.1)).Nodup := (dset_nodup _).mp (by
      have := dset_le (L.map (·.1))
      rw [List.length_map] at this ⊢
      omega)
    refine ⟨_, rfl, p, rfl, ⟨us, sD.tupS hp⟩, ?_⟩
    refine lc_by (ws := L.map fun l => V.bl (lineB l)) (itOf_tup (sD.tupS hp)) (fun σ => ∃ a b c d e f, σ = [a, b, c, d, e, f]) ?_ (by rw [List.length_map]; exact hlen.symm) hz ?_ ?_
    · exact ⟨_, _, _, _, _, _, rfl⟩
    · intro i x w σ2 H2 Qt Qf hx hk sm zz2 q
      refine byC fun hG => ?_
      obtain ⟨a, b, c, d, e, f, rfl⟩ := zz2
      obtain ⟨l, hl1, q1, rfl, hq⟩ := hu.get hx
      refine hG ?_
      rw [List.getElem?_map, hl1] at hk
      cases hk
      refine ⟨q1, _, rfl, (sD.trans sm).tupS hq, rfl, _, _, rfl, _, _, rfl, rfl, ?_⟩
      have q2 : ∀ (k : Bool) (σ4 : L2.St), k = lineB l → (∃ a b c d e f, σ4 = [a, b, c, d, e, f]) → Qt σ4 (V.bl k) H2 := fun k σ4 e h => by rw [e]; exact q σ4 h
      refine ⟨_, rfl, _, _, rfl, rfl, _, rfl, iteD (fun g1 => ?_) (fun g1 => ?_)⟩
      case refine_2 =>
        refine ⟨_, rfl, iteF ?_⟩
        have e : lineB l = false := decide_eq_false (fun z => g1 z.1)
        exact q2 _ _ e.symm ⟨_, _, _, _, _, _, rfl⟩
      refine ⟨_, _, rfl, rfl, _, rfl, iteD (fun g2 => ?_) (fun g2 => ?_)⟩
      case refine_2 =>
        have e : lineB l = false := decide_eq_false (fun z => g2 z.2.1)
        exact q2 _ _ e.symm ⟨_, _, _, _, _, _, rfl⟩
      refine ⟨_, rfl, _, _, rfl, rfl, _, rfl, iteD (fun g3 => ?_) (fun g3 => ?_)⟩
      case refine_2 =>
        have e : lineB l = false := decide_eq_false (fun z => g3 z.2.2.1)
        exact q2 _ _ e.symm ⟨_, _, _, _, _, _, rfl⟩
      refine ⟨_, _, rfl, rfl, ?_⟩
      have e : lineB l = decide (l.2 ≤ 20) := by
        unfold lineB
        by_cases g4 : l.2 ≤ 20
        · rw [decide_eq_true g4, decide_eq_true ⟨g1, g2, g3, g4⟩]
        · rw [decide_eq_false g4, decide_eq_false (fun z => g4 z.2.2.2)]
      exact q2 _ _ e.symm ⟨_, _, _, _, _, _, rfl⟩
    intro D2 hD2
    refine ⟨D2, L.map lineB, rfl, SqL.of ?_, ?_⟩
    · rw [upd_same, List.map_map]; rfl
    have e : isLinesB L = (L.map lineB).all id := by
      unfold isLinesB
      rw [decide_eq_true hn, Bool.true_and, decide_eq_true (show 1 ≤ L.length ∧ L.length ≤ 4 by omega), Bool.true_and, List.all_map]
      rfl
    rw [← e]
    exact kk _ (sD.trans (same_upd hD2))
def sp_require_lines (K : PySem.W.Frag) : Sp := fun vs H Q _ => ∃ (p : Addr) (L : List (Int × Int)), vs = [.ref p] ∧ LinesAt K H p L ∧ GoodL L ∧ ∀ H', Same H H' → Q .non H'
theorem sc_require_lines : FnScope ["lines"] ["lines"] (defScope s_require_lines) := ⟨rfl, rfl, rfl, by decide +kernel, rfl, by decide +kernel, by decide +kernel⟩
set_option maxHeartbeats 4000000 in
theorem ok_require_lines (T : Txt w K mg A) : FnOk P w K mg base CX0 2 A.a_require_lines A.f_require_lines ["lines"] (sp_require_lines K) := by
  have nd := sc_require_lines.nd
  have G_is_lines := ok_is_lines (P := P) (w := w) (base := base) T
  refine T.F_require_lines.ok sc_require_lines (fun vs H Q E h => ?_) (fun cdv Ar outer s H vs Q E hr h => ?_)
  · obtain ⟨p, L, rfl, _⟩ := h; rfl
  · skip
    obtain ⟨p, L, rfl, hp, g, kk⟩ := h
    refine PSs.rd (pss_one (ps_if (pt_not (pt_truth (pe_call (G_is_lines.mono (by decide)) hr rfl T.m_is_lines T.k_is_lines T.d_is_lines .nil pass0 (pa_cons (pvI 0) pa_nil)) (fun _ => rfl)))
      (pss_one ps_never)
      pss_nil)) ?_
    try dsimp only [L2.cxOf, L2.Cx.nox]
    refine ⟨_, rfl, p, L, rfl, hp, by have := g.l4; omega, fun H' s => ⟨_, rfl, ?_⟩⟩
    rw [g.isB]
    exact iteF (kk H' s)
def sp_next_place (K : PySem.W.Frag) : Sp := fun vs H Q _ => ∃ (p q : Addr) (L : List (Int × Int)) (b : List Int), vs = [.ref p, .ref q] ∧ LinesAt K H p L ∧ SqL K H q (b.map V.int) ∧ b.length = L.length ∧ 1 ≤ L.length ∧ L.length ≤ 1000 ∧ SmallL L ∧
  Q (.int (Mt.pick (L.map (·.2)) b : Nat)) H
theorem sc_next_place : FnScope ["lines", "borne", "best", "place"] ["lines", "borne"] (defScope s_next_place) := ⟨rfl, rfl, rfl, by decide +kernel, rfl, by decide +kernel, by decide +kernel⟩
set_option maxHeartbeats 4000000 in
theorem ok_next_place (T : Txt w K mg A) : FnOk P w K mg base CX0 1 A.a_next_place A.f_next_place ["lines", "borne"] (sp_next_place K) := by
  have nd := sc_next_place.nd
  refine T.F_next_place.ok sc_next_place (fun vs H Q E h => ?_) (fun cdv Ar outer s H vs Q E hr h => ?_)
  · obtain ⟨p, q, L, b, rfl, _⟩ := h; rfl
  · skip
    obtain ⟨p, q, L, b, rfl, ⟨us, hp, hu⟩, hq, hb, h1, hl, sm, kk⟩ := h
    have hlen := hu.len
    refine PSs.rd (pss_cons (ps_set (i := 2) nd rfl (Or.inl rfl) pe_int)
    (pss_cons (ps_for PassesOwn.never rfl (pi_range2 rfl T.b_range (pa_cons pe_int (pa_cons (pe_callB call_len_seq rfl T.b_len PySem.boot_len (pa_cons (pvI 0) pa_nil)) pa_nil))) (pg_name (i := 3) nd rfl (Or.inl rfl))
      (pss_one (ps_if (pt_cmpR op_ltI (pe_op op_mulI (pe_op op_addI (pe_ix (ix_listI K rfl) (pvI 1) (pvI 3) (fun _ _ => rfl)) pe_int) (pe_ix (ix_tupI K rfl) (pe_ix (ix_tupI K rfl) (pvI 0) (pvI 2) (fun _ _ => rfl)) pe_int (fun _ _ => rfl))) (pe_op op_mulI (pe_op op_addI (pe_ix (ix_listI K rfl) (pvI 1) (pvI 2) (fun _ _ => rfl)) pe_int) (pe_ix (ix_tupI K rfl) (pe_ix (ix_tupI K rfl) (pvI 0) (pvI 3) (fun _ _ => rfl)) pe_int (fun _ _ => rfl))) (nomark _))
         (pss_one (ps_set (i := 2) nd rfl (Or.inl rfl) (pvI 3)))
         pss_nil)))
    (pss_one (ps_ret (pvI 2))))) ?_
    try dsimp only [L2.cxOf, L2.Cx.nox]
    refine ⟨_, rfl, p, us, rfl, .inr hp, 1, _, rfl, ⟨by decide, by decide, by omega, by omega⟩, ?_⟩
    have en : (((us.length : Nat) : Int) - 1).toNat = L.length - 1 := by omega
    rw [en]
    refine for_range (lo := 1) (n := L.length - 1) (fun i σ H' => H' = H ∧ ∃ k, σ = [some (.ref p), some (.ref q), some (.int (Mt.pickTo (L.map (·.2)) b (i + 1) : Nat)), k]) ⟨rfl, none, by rw [Mt.pickTo_one]; rfl⟩ ?_ ?_
    · intro i σ H' hi zz1
      refine byC fun hG => ?_
      obtain ⟨rfl, k, rfl⟩ := zz1
      have hbest : Mt.pickTo (L.map (·.2)) b (i + 1) < L.length := Nat.lt_of_lt_of_le (Mt.pickTo_lt _ _ _ (Nat.succ_pos _)) (by omega)
      have epl : (1 : Int) + (i : Nat) = ((i + 1 : Nat) : Int) := by omega
      refine hG ?_
      rw [epl]
      have estp := Mt.pickTo_succ (L.map (·.2)) b (i + 1)
      generalize Mt.pickTo (L.map (·.2)) b (i + 1) = best at hbest estp ⊢
      refine byC fun hG => ?_
      obtain ⟨q1, a1, i1, t1, _⟩ := hu.ix hbest
      obtain ⟨q2, a2, i2, t2, _⟩ := hu.ix (i := i + 1) (by omega)
      refine hG ?_
      refine ⟨_, rfl, _, rfl, q, _, _, _, rfl, rfl, hq, ix_of (by omega), _, _, rfl, rfl, _, rfl, _, rfl, p, _, _, _, rfl, rfl, hp, i1, q1, _, 1, _, rfl, rfl, t1, rfl, _, _, rfl, rfl, .inr (sm.get _), ?_⟩
      refine ⟨_, rfl, _, rfl, q, _, _, _, rfl, rfl, hq, ix_of (by omega), _, _, rfl, rfl, _, rfl, _, rfl, p, _, _, _, rfl, rfl, hp, i2, q2, _, 1, _, rfl, rfl, t2, rfl, _, _, rfl, rfl, .inr (sm.get _), ?_⟩
      refine ⟨_, _, rfl, rfl, _, rfl, iteD (fun hc => ?_) (fun hc => ?_)⟩
      · refine ⟨_, rfl, rfl, some (.int ((i + 1 : Nat) : Int)), ?_⟩
        rw [estp]; unfold Mt.stp; rw [if_pos hc]; rfl
      · refine ⟨rfl, some (.int ((i + 1 : Nat) : Int)), ?_⟩
        rw [estp]; unfold Mt.stp; rw [if_neg hc]; rfl
    · intro σ H' zz2
      refine byC fun hG => ?_
      obtain ⟨rfl, k, rfl⟩ := zz2
      refine hG ?_
      refine ⟨_, rfl, ?_⟩
      have e : L.length - 1 + 1 = (L.map (·.2)).length := by rw [List.length_map]; omega
      rw [e]
      exact kk
def sp_bearers (K : PySem.W.Frag) : Sp := fun vs H Q _ => ∃ (p : Addr) (n : Nat) (L : List (Int × Int)), vs = [.ref p, .int n] ∧ LinesAt K H p L ∧ 1 ≤ L.length ∧ L.length ≤ 1000 ∧ SmallL L ∧ n ≤ 1000 ∧
  ∀ (r : Addr) (H' : Hp), H r = none → Same H H' → H' r = some (.lst ((bearersL L n).map V.int)) → Q (.ref r) H'
theorem sc_bearers : FnScope ["lines", "crowns", "borne", "told", "crown", "place"] ["lines", "crowns"] (defScope s_bearers) := ⟨rfl, rfl, rfl, by decide +kernel, rfl, by decide +kernel, by decide +kernel⟩
set_option maxHeartbeats 4000000 in
theorem ok_bearers (T : Txt w K mg A) : FnOk P w K mg base CX0 2 A.a_bearers A.f_bearers ["lines", "crowns"] (sp_bearers K) := by
  have nd := sc_bearers.nd
  have G_next_place := ok_next_place (P := P) (w := w) (base := base) T
  refine T.F_bearers.ok sc_bearers (fun vs H Q E h => ?_) (fun cdv Ar outer s H vs Q E hr h => ?_)
  · obtain ⟨p, n, L, rfl, _⟩ := h; rfl
  · skip
    obtain ⟨p, n, L, rfl, hp, h1, hl, sm, hn, kk⟩ := h
    obtain ⟨us, hp1, hu⟩ := hp.ex
    have hlen := hu.len
    refine PSs.rd (pss_cons (lcS (defScope s_bearers) 2 nd (pi_tup (pvI 0)) (fun _ _ _ _ _ => pgc 1) (fun _ _ _ _ _ => pts_nil) (fun _ _ _ _ _ => pe_int))
    (pss_cons (ps_set (i := 3) nd rfl (Or.inl rfl) (pe_lst pa_nil))
    (pss_cons (ps_for PassesOwn.never rfl (pi_range1 rfl T.b_range (pa_cons (pvI 1) pa_nil)) (pg_name (i := 4) nd rfl (Or.inl rfl))
      (pss_cons (ps_set (i := 5) nd rfl (Or.inl rfl) (pe_call (G_next_place.mono (by decide)) hr rfl T.m_next_place T.k_next_place T.d_next_place .nil pass0 (pa_cons (pvI 0) (pa_cons (pvI 2) pa_nil))))
       (pss_cons (ps_augS (pvI 2) (pvI 5) get_listG pe_int ip_add set_list)
       (pss_one (ps_expr (pe_bm PySem.F.plainAttrs_list PySem.F.slot_list_append PySem.F.type_list_append mt_append (pvI 3) (pa_cons (pe_ix (ix_tupI K rfl) (pe_ix (ix_tupI K rfl) (pvI 0) (pvI 5) (fun _ _ => rfl)) pe_int (fun _ _ => rfl)) pa_nil)))))))
    (pss_one (ps_ret (pvI 3)))))) ?_
    try dsimp only [L2.cxOf, L2.Cx.nox]
    refine ⟨_, rfl, p, rfl, ⟨us, hp1⟩, ?_⟩
    refine lc_by (ws := (List.replicate L.length (0 : Int)).map V.int) (itOf_tup hp1) (fun σ => ∃ x y, σ = [x, y]) ?_ (by rw [List.length_map, List.length_replicate]; exact hlen.symm) (Nat.le_of_lt (small_line (by omega))) ?_ ?_
    · exact ⟨_, _, rfl⟩
    · intro i x w σ2 H2 Qt Qf hx hk s2 zz1 q
      refine byC fun hG => ?_
      obtain ⟨a, b, rfl⟩ := zz1
      refine hG ?_
      rw [List.getElem?_map, List.getElem?_replicate] at hk
      split at hk
      · cases hk
        exact q _ ⟨_, _, rfl⟩
      · cases hk
    intro r hr0
    have sr : Same H (upd H r (.lst ((List.replicate L.length (0 : Int)).map V.int))) := same_upd hr0
    refine ⟨by show 0 ≤ sizeLine; decide, fun t ht => ?_⟩
    have ht0 : H t = none := sr.free ht
    have ntr : r ≠ t := fun z => by rw [← z, upd_same] at ht; cases ht
    refine ⟨_, rfl, n, rfl, by omega, by omega, ?_⟩
    have en : ((n : Nat) : Int).toNat = n := by omega
    rw [en]
    refine for_range (n := n) (fun j σ H' => (∃ k l, σ = [some (.ref p), some (.int n), some (.ref r), some (.ref t), k, l]) ∧ Same H H' ∧ H' r = some (.lst ((Mt.deal (L.map (·.2)) j).map V.int)) ∧ H' t = some (.lst ((bearersL L j).map V.int))) ⟨⟨none, none, rfl⟩, sr.trans (same_upd ht), ?_, upd_same⟩ ?_ ?_
    · rw [upd_ne ntr, upd_same, Mt.deal, List.length_map]
    · intro j σ H' hj zz2
      refine byC fun hG => ?_
      obtain ⟨⟨k, l, rfl⟩, s2, hr', ht'⟩ := zz2
      have hb : (Mt.deal (L.map (·.2)) j).length = L.length := by rw [Mt.deal_length, List.length_map]
      have hpk : Mt.pick (L.map (·.2)) (Mt.deal (L.map (·.2)) j) < (Mt.deal (L.map (·.2)) j).length := by
        rw [Mt.deal_length]; exact Mt.pick_lt (by rw [List.length_map]; omega)
      refine hG ?_
      refine ⟨_, rfl, _, rfl, p, r, L, _, rfl, hp.same s2, SqL.of hr', hb, h1, hl, sm, ?_⟩
      refine byC fun hG => ?_
      obtain ⟨v, hv⟩ := get_some hpk
      refine hG ?_
      refine ⟨_, rfl, _, rfl, r, _, _, _, rfl, rfl, SqL.of hr', (by rw [List.getElem?_map, hv]; rfl), _, _, rfl, rfl, ?_⟩
      refine ⟨r, _, _, Mt.pick (L.map (·.2)) (Mt.deal (L.map (·.2)) j), rfl, rfl, hr', ?_, ?_⟩
      · unfold ixN
        rw [if_pos (Int.natCast_nonneg _), if_pos (by rw [List.length_map]; omega)]
        rfl
      have s3 : Same H (upd H' r (.lst (((Mt.deal (L.map (·.2)) j).map V.int).set (Mt.pick (L.map (·.2)) (Mt.deal (L.map (·.2)) j)) (.int (v + 1))))) := fun b o e => by
        rw [upd_ne (ne_of_none e hr0)]; exact s2 b o e
      have ht3 := upd_ne (H := H') (o := .lst (((Mt.deal (L.map (·.2)) j).map V.int).set (Mt.pick (L.map (·.2)) (Mt.deal (L.map (·.2)) j)) (.int (v + 1)))) ntr.symm
      have hp3 := hp.same s3
      refine byC fun hG => ?_
      obtain ⟨us3, hp4, hu3⟩ := hp3.ex
      obtain ⟨q1, a1, i1, t1, e2⟩ := hu3.ix (i := Mt.pick (L.map (·.2)) (Mt.deal (L.map (·.2)) j)) (by omega)
      refine hG ?_
      refine ⟨_, rfl, .inl ⟨rfl, _, SqL.of (ht3.trans ht')⟩, _, rfl, _, rfl, p, _, _, _, rfl, rfl, hp4, i1, q1, _, 0, _, rfl, rfl, t1, rfl, t, _, _, rfl, rfl, ht3.trans ht', ?_, ⟨_, _, rfl⟩, fun b o e => ?_, ?_, ?_⟩
      · exact small_line (by rw [List.length_map, bearersL_len]; omega)
      · rw [upd_ne (ne_of_none e ht0)]; exact s3 b o e
      · rw [upd_ne ntr, upd_same, Mt.deal, Mt.give, getD_of hv, List.map_set]
      · rw [upd_same, bearersL_succ, map_snoc]
        unfold bearerOf
        rw [fst_of e2]
    · intro σ H' zz3
      refine byC fun hG => ?_
      obtain ⟨⟨k, l, rfl⟩, s2, hr', ht'⟩ := zz3
      refine hG ?_
      exact ⟨_, rfl, kk t H' ht0 s2 ht'⟩
def sp_parts (K : PySem.W.Frag) : Sp := fun vs H Q _ => ∃ (p : Addr) (n : Nat) (L : List (Int × Int)), vs = [.ref p, .int n] ∧ LinesAt K H p L ∧ GoodL L ∧ n ≤ 24 ∧
  ∀ (r : Addr) (H' : Hp), H r = none → Same H H' → H' r = some (.lst ((Mt.deal (L.map (·.2)) n).map V.int)) → Q (.ref r) H'
theorem sc_parts : FnScope ["lines", "crowns", "told"] ["lines", "crowns"] (defScope s_parts) := ⟨rfl, rfl, rfl, by decide +kernel, rfl, by decide +kernel, by decide +kernel⟩
set_option maxHeartbeats 4000000 in
theorem ok_parts (T : Txt w K mg A) : FnOk P w K mg base CX0 3 A.a_parts A.f_parts ["lines", "crowns"] (sp_parts K) := by
  have nd := sc_parts.nd
  have G_bearers := ok_bearers (P := P) (w := w) (base := base) T
  have G_require_lines := ok_require_lines (P := P) (w := w) (base := base) T
  refine T.F_parts.ok sc_parts (fun vs H Q E h => ?_) (fun cdv Ar outer s H vs Q E hr h => ?_)
  · obtain ⟨p, n, L, rfl, _⟩ := h; rfl
  · skip
    obtain ⟨p, n, L, rfl, hp, g, hn, kk⟩ := h
    refine PSs.rd (pss_cons (ps_expr (pe_call (G_require_lines.mono (by decide)) hr rfl T.m_require_lines T.k_require_lines T.d_require_lines .nil pass0 (pa_cons (pvI 0) pa_nil)))
    (pss_cons (ps_if (pt_not (pt_chain op_leI op_leI pe_int (pvI 1) (pe_globI rfl T.c_MOST_BILL)))
      (pss_one ps_never)
      pss_nil)
    (pss_cons (ps_set (i := 2) nd rfl (Or.inr rfl) (pe_call (G_bearers.mono (by decide)) hr rfl T.m_bearers T.k_bearers T.d_bearers .nil pass0 (pa_cons (pvI 0) (pa_cons (pvI 1) pa_nil))))
    (pss_one (ps_ret (lcA (defScope s_parts) (pi_tup (pvI 0)) (fun _ _ _ _ _ => pgc2 1 2) (fun _ _ _ _ _ => pts_nil) (fun _ _ _ _ _ => (pe_bmK K rfl PySem.F.plainAttrs_list PySem.F.slot_list_count PySem.F.type_list_count mt_count (pvI 3) (pa_cons (pvI 1) pa_nil))))))))) ?_
    try dsimp only [L2.cxOf, L2.Cx.nox]
    refine ⟨_, rfl, p, L, rfl, hp, g, fun H1 s1 => ?_⟩
    refine ⟨_, rfl, _, _, rfl, rfl, _, rfl, iteD (fun _ => ?_) (fun h => absurd (by omega) h)⟩
    refine ⟨_, _, rfl, rfl, _, rfl, iteND (fun h => absurd (by omega) h) (fun _ => ?_)⟩
    refine ⟨_, rfl, _, rfl, p, n, L, rfl, hp.same s1, g.l1, by have := g.l4; omega, g.small, by omega, fun t H2 ht s2 ht2 => ?_⟩
    have hp2 := (hp.same s1).same s2
    refine byC fun hG => ?_
    obtain ⟨us, hp3, hu⟩ := hp2.ex
    have hlen := hu.len
    have g4 := g.l4
    refine hG ?_
    refine ⟨_, rfl, p, rfl, ⟨us, hp3⟩, ?_⟩
    refine lc_by (ws := (Mt.deal (L.map (·.2)) n).map V.int) (itOf_tup hp3) (fun σ => ∃ x y z, σ = [x, y, z, some (.ref t)]) ⟨_, _, _, rfl⟩ (by rw [List.length_map, Mt.deal_length, List.length_map]; exact hlen.symm) (Nat.le_of_lt (small_line (by omega))) ?_ ?_
    · intro i x w σ2 H4 Qt Qf hx hk s4 zz1 q
      refine byC fun hG => ?_
      obtain ⟨a, b, c, rfl⟩ := zz1
      obtain ⟨l, hl, q1, rfl, t1⟩ := hu.get hx
      have hi := get_lt hl
      have hw : w = V.int ((Mt.deal (L.map (·.2)) n).getD i 0) := by
        rw [List.getElem?_map] at hk
        obtain ⟨z, hz, rfl⟩ := Option.map_eq_some_iff.mp hk
        rw [getD_of hz]
      refine hG ?_
      have ef : (L.map (·.1)).getD i 0 = l.1 := getD_of (by rw [List.getElem?_map, hl]; rfl)
      have ec := count_deal g.l1 g.nd n i hi
      rw [ef] at ec
      refine ⟨q1, _, rfl, s4.tupS t1, rfl, _, _, rfl, _, _, rfl, rfl, ?_⟩
      refine ⟨_, rfl, .inl ⟨rfl, _, SqL.of (s4 _ _ ht2)⟩, _, rfl, t, _, _, rfl, rfl, s4 _ _ ht2, ?_⟩
      have e3 : w = V.int ((bearersL L n).count l.1 : Nat) := by rw [hw, ec]
      rw [← e3]
      exact q _ ⟨_, _, _, rfl⟩
    intro r hr
    exact kk r _ (s1.free (s2.free hr)) ((s1.trans s2).trans (same_upd hr)) upd_same
def sp_bearer (K : PySem.W.Frag) : Sp := fun vs H Q _ => ∃ (p : Addr) (n : Nat) (L : List (Int × Int)), vs = [.ref p, .int ((n + 1 : Nat) : Int)] ∧ LinesAt K H p L ∧ GoodL L ∧ n + 1 ≤ 24 ∧
  ∀ H' : Hp, Same H H' → Q (.int (bearerOf L n)) H'
theorem sc_bearer : FnScope ["lines", "crown"] ["lines", "crown"] (defScope s_bearer) := ⟨rfl, rfl, rfl, by decide +kernel, rfl, by decide +kernel, by decide +kernel⟩
set_option maxHeartbeats 4000000 in
theorem ok_bearer (T : Txt w K mg A) : FnOk P w K mg base CX0 3 A.a_bearer A.f_bearer ["lines", "crown"] (sp_bearer K) := by
  have nd := sc_bearer.nd
  have G_bearers := ok_bearers (P := P) (w := w) (base := base) T
  have G_require_lines := ok_require_lines (P := P) (w := w) (base := base) T
  refine T.F_bearer.ok sc_bearer (fun vs H Q E h => ?_) (fun cdv Ar outer s H vs Q E hr h => ?_)
  · obtain ⟨p, n, L, rfl, _⟩ := h; rfl
  · skip
    obtain ⟨p, n, L, rfl, hp, g, hn, kk⟩ := h
    have g4 := g.l4
    refine PSs.rd (pss_cons (ps_expr (pe_call (G_require_lines.mono (by decide)) hr rfl T.m_require_lines T.k_require_lines T.d_require_lines .nil pass0 (pa_cons (pvI 0) pa_nil)))
    (pss_cons (ps_if (pt_not (pt_chain op_leI op_leI pe_int (pvI 1) (pe_globI rfl T.c_MOST_BILL)))
      (pss_one ps_never)
      pss_nil)
    (pss_one (ps_ret (pe_ix (ix_listI K rfl) (pe_call (G_bearers.mono (by decide)) hr rfl T.m_bearers T.k_bearers T.d_bearers .nil pass0 (pa_cons (pvI 0) (pa_cons (pvI 1) pa_nil))) (pe_un un_neg pe_int) (fun _ _ => rfl)))))) ?_
    try dsimp only [L2.cxOf, L2.Cx.nox]
    refine ⟨_, rfl, p, L, rfl, hp, g, fun H1 s1 => ?_⟩
    refine ⟨_, rfl, _, _, rfl, rfl, _, rfl, iteD (fun _ => ?_) (fun h => absurd (by omega) h)⟩
    refine ⟨_, _, rfl, rfl, _, rfl, iteND (fun h => absurd (by omega) h) (fun _ => ?_)⟩
    refine ⟨_, rfl, _, rfl, p, n + 1, L, rfl, hp.same s1, g.l1, by omega, g.small, by omega, fun r H2 _ s2 hr2 => ?_⟩
    exact ⟨_, rfl, r, _, -1, _, rfl, rfl, SqL.of hr2, bearersL_last L n, kk H2 (s1.trans s2)⟩
def sp_is_measure (K : PySem.W.Frag) : Sp := fun vs H Q _ => ∃ (k : Str) (b m : Int), vs = [.str k, .int b, .int m] ∧ Q (.bl (measB k b m)) H
theorem sc_is_measure : FnScope ["kind", "by", "most", "low", "high"] ["kind", "by", "most"] (defScope s_is_measure) := ⟨rfl, rfl, rfl, by decide +kernel, rfl, by decide +kernel, by decide +kernel⟩
set_option maxHeartbeats 4000000 in
theorem ok_is_measure (T : Txt w K mg A) : FnOk P w K mg base CX0 1 A.a_is_measure A.f_is_measure ["kind", "by", "most"] (sp_is_measure K) := by
  have nd := sc_is_measure.nd
  refine T.F_is_measure.ok sc_is_measure (fun vs H Q E h => ?_) (fun cdv Ar outer s H vs Q E hr h => ?_)
  · obtain ⟨k, b, m, rfl, _⟩ := h; rfl
  · skip
    obtain ⟨k, b, m, rfl, kk⟩ := h
    refine PSs.rd (pss_cons (ps_if (pt_cmpR op_knotin (pvI 0) (pe_glob (v := .ref A.o_BY_BOUNDS) rfl T.g_BY_BOUNDS rfl) (by with_unfolding_all rfl))
      (pss_one (ps_ret pe_bl))
      pss_nil)
    (pss_cons (ps_asg (pe_ix ix_kdict (pe_glob (v := .ref A.o_BY_BOUNDS) rfl T.g_BY_BOUNDS rfl) (pvI 0) (fun _ _ => rfl)) (pg_tup (n := 2) rfl (pgs_cons (pg_name (i := 3) nd rfl (Or.inl rfl)) (pgs_cons (pg_name (i := 4) nd rfl (Or.inl rfl)) pgs_nil))))
    (pss_one (ps_ret (pe_and (pe_chain op_leI op_leI (pvI 3) (pvI 1) (pvI 4)) (pe_one (pe_chain op_leI op_leI pe_int (pvI 2) (pe_globI rfl T.c_MOST_BILL)))))))) ?_
    try dsimp only [L2.cxOf, L2.Cx.nox]
    refine ⟨_, rfl, k, A.o_BY_BOUNDS, _, rfl, rfl, T.t_BY_BOUNDS, _, rfl, ?_⟩
    by_cases e1 : k = ("share" : Str)
    · subst e1
      refine iteF' (by rfl) ?_
      refine ⟨_, rfl, ("share" : Str), A.o_BY_BOUNDS, _, .ref A.u_BY_BOUNDS_0, _, rfl, rfl, T.t_BY_BOUNDS, rfl, rfl, A.u_BY_BOUNDS_0, _, rfl, T.s_BY_BOUNDS_0.sq _, rfl, _, _, rfl, _, _, rfl, rfl, ?_⟩
      have kk' : Q (.bl (decide (1 ≤ b ∧ b ≤ 100) && decide (0 ≤ m ∧ m ≤ 24))) H := by
        have e : measB "share" b m = (decide (1 ≤ b ∧ b ≤ 100) && decide (0 ≤ m ∧ m ≤ 24)) := by unfold measB; rw [if_pos rfl]
        rw [← e]; exact kk
      refine ⟨_, rfl, _, rfl, _, _, rfl, rfl, _, rfl, iteD (fun g1 => ?_) (fun g1 => ?_)⟩
      case refine_2 =>
        rw [decide_eq_false (fun z => g1 z.1)] at kk'
        exact ⟨_, rfl, iteF kk'⟩
      refine ⟨_, rfl, _, _, rfl, rfl, _, rfl, iteD (fun g2 => ?_) (fun g2 => ?_)⟩
      case refine_2 =>
        rw [decide_eq_false (fun z => g2 z.2)] at kk'
        exact kk'
      rw [decide_eq_true ⟨g1, g2⟩, Bool.true_and] at kk'
      refine ⟨_, rfl, _, _, rfl, rfl, _, rfl, iteD (fun g3 => ?_) (fun g3 => ?_)⟩
      case refine_2 =>
        rw [decide_eq_false (fun z => g3 z.1)] at kk'
        exact kk'
      have e : decide (0 ≤ m ∧ m ≤ 24) = decide (m ≤ 24) := by by_cases g4 : m ≤ 24 <;> simp [g3, g4]
      rw [e] at kk'
      exact ⟨_, _, rfl, rfl, kk'⟩
    by_cases e2 : k = ("layer" : Str)
    · subst e2
      refine iteF' (by rfl) ?_
      refine ⟨_, rfl, ("layer" : Str), A.o_BY_BOUNDS, _, .ref A.u_BY_BOUNDS_1, _, rfl, rfl, T.t_BY_BOUNDS, rfl, rfl, A.u_BY_BOUNDS_1, _, rfl, T.s_BY_BOUNDS_1.sq _, rfl, _, _, rfl, _, _, rfl, rfl, ?_⟩
      have kk' : Q (.bl (decide (0 ≤ b ∧ b ≤ 200) && decide (0 ≤ m ∧ m ≤ 24))) H := by
        have e : measB "layer" b m = (decide (0 ≤ b ∧ b ≤ 200) && decide (0 ≤ m ∧ m ≤ 24)) := by unfold measB; rw [if_neg e1, if_pos rfl]
        rw [← e]; exact kk
      refine ⟨_, rfl, _, rfl, _, _, rfl, rfl, _, rfl, iteD (fun g1 => ?_) (fun g1 => ?_)⟩
      case refine_2 =>
        rw [decide_eq_false (fun z => g1 z.1)] at kk'
        exact ⟨_, rfl, iteF kk'⟩
      refine ⟨_, rfl, _, _, rfl, rfl, _, rfl, iteD (fun g2 => ?_) (fun g2 => ?_)⟩
      case refine_2 =>
        rw [decide_eq_false (fun z => g2 z.2)] at kk'
        exact kk'
      rw [decide_eq_true ⟨g1, g2⟩, Bool.true_and] at kk'
      refine ⟨_, rfl, _, _, rfl, rfl, _, rfl, iteD (fun g3 => ?_) (fun g3 => ?_)⟩
      case refine_2 =>
        rw [decide_eq_false (fun z => g3 z.1)] at kk'
        exact kk'
      have e : decide (0 ≤ m ∧ m ≤ 24) = decide (m ≤ 24) := by by_cases g4 : m ≤ 24 <;> simp [g3, g4]
      rw [e] at kk'
      exact ⟨_, _, rfl, rfl, kk'⟩
    have e3 : (valueAt ([(Sum.inr "share", Value.ref A.u_BY_BOUNDS_0), (Sum.inr "layer", Value.ref A.u_BY_BOUNDS_1)] : List (Key × Value)) (Sum.inr k : Key)) = none := by
      unfold valueAt
      rw [List.find?_cons_of_neg (by intro z; exact e1 (Sum.inr.inj (of_decide_eq_true z)).symm), List.find?_cons_of_neg (by intro z; exact e2 (Sum.inr.inj (of_decide_eq_true z)).symm)]
      rfl
    rw [e3]
    have e4 : measB k b m = false := by unfold measB; rw [if_neg e1, if_neg e2, Bool.false_and]
    rw [e4] at kk
    exact kk
def sp_are_others (K : PySem.W.Frag) : Sp := fun vs H Q _ => ∃ (h ho : Int) (p : Addr) (L : List (Int × Int)), vs = [.int h, .int ho, .ref p] ∧ LinesAt K H p L ∧ L.length ≤ 1000 ∧ ∀ H', Same H H' → Q (.bl (othersBL h ho L)) H'
theorem sc_are_others : FnScope ["houses", "house", "lines"] ["houses", "house", "lines"] (defScope s_are_others) := ⟨rfl, rfl, rfl, by decide +kernel, rfl, by decide +kernel, by decide +kernel⟩
set_option maxHeartbeats 4000000 in
theorem ok_are_others (T : Txt w K mg A) : FnOk P w K mg base CX0 1 A.a_are_others A.f_are_others ["houses", "house", "lines"] (sp_are_others K) := by
  have nd := sc_are_others.nd
  refine T.F_are_others.ok sc_are_others (fun vs H Q E h => ?_) (fun cdv Ar outer s H vs Q E hr h => ?_)
  · obtain ⟨h, ho, p, L, rfl, _⟩ := h; rfl
  · skip
    obtain ⟨h, ho, p, L, rfl, ⟨us, hp, hu⟩, hl, kk⟩ := h
    have hlen := hu.len
    refine PSs.rd (pss_one (ps_ret (pe_callB (call_allB rfl) rfl T.b_all boot_all (pa_cons (lcA (defScope s_are_others) (pi_tup (pvI 2)) (fun _ _ _ _ _ => pgc2 1 2) (fun _ _ _ _ _ => pts_nil) (fun _ _ _ _ _ => (pe_and (pe_cmpR op_ltI (pvI 1) (pvI 4) (nomark _)) (pe_one (pe_cmpR op_ne (pvI 1) (pvI 3) (nomark _)))))) pa_nil)))) ?_
    try dsimp only [L2.cxOf, L2.Cx.nox]
    refine ⟨_, rfl, p, rfl, ⟨us, hp⟩, ?_⟩
    refine lc_by (ws := L.map fun l => V.bl (decide (l.1 < h) && !decide (l.1 = ho))) (itOf_tup hp) (fun σ => ∃ x y z, σ = [x, y, z, some (.int ho), some (.int h)]) ?_ (by rw [List.length_map]; exact hlen.symm) (Nat.le_of_lt (small_line (by omega))) ?_ ?_
    · exact ⟨_, _, _, rfl⟩
    · intro i x w σ2 H2 Qt Qf hx hk sm zz1 q
      refine byC fun hG => ?_
      obtain ⟨a, b, c, rfl⟩ := zz1
      obtain ⟨l, hl1, q1, rfl, hq⟩ := hu.get hx
      refine hG ?_
      rw [List.getElem?_map, hl1] at hk
      cases hk
      have q2 : ∀ (e : Bool) (σ4 : L2.St), e = (decide (l.1 < h) && !decide (l.1 = ho)) → (∃ x y z, σ4 = [x, y, z, some (.int ho), some (.int h)]) → Qt σ4 (V.bl e) H2 := fun e σ4 h1 h2 => by rw [h1]; exact q σ4 h2
      refine ⟨q1, _, rfl, sm.tupS hq, rfl, _, _, rfl, _, _, rfl, rfl, ?_⟩
      refine ⟨_, rfl, _, rfl, _, _, rfl, rfl, _, rfl, iteD (fun g1 => ?_) (fun g1 => ?_)⟩
      · refine ⟨_, rfl, _, rfl, rfl, ?_⟩
        exact q2 _ _ (by rw [dec_intV, decide_eq_true g1, Bool.true_and]) ⟨_, _, _, rfl⟩
      · exact q2 _ _ (by rw [decide_eq_false g1, Bool.false_and]) ⟨_, _, _, rfl⟩
    intro D hD
    refine ⟨D, L.map fun l => (decide (l.1 < h) && !decide (l.1 = ho)), rfl, SqL.of ?_, ?_⟩
    · rw [upd_same, List.map_map]; rfl
    have e : othersBL h ho L = (L.map fun l => (decide (l.1 < h) && !decide (l.1 = ho))).all id := by
      unfold othersBL; rw [List.all_map]; rfl
    rw [← e]
    exact kk _ (same_upd hD)
def sp_is_cover (K : PySem.W.Frag) : Sp := fun vs H Q _ => ∃ (h : Int) (p : Addr) (r : Option Row), vs = [.int h, .ref p] ∧ RowAt K H p r ∧ ∀ H', Same H H' → Q (.bl (isCoverB h r)) H'
theorem sc_is_cover : FnScope ["houses", "cover", "house", "kind", "by", "most", "lines"] ["houses", "cover"] (defScope s_is_cover) := ⟨rfl, rfl, rfl, by decide +kernel, rfl, by decide +kernel, by decide +kernel⟩
set_option maxHeartbeats 4000000 in
theorem ok_is_cover (T : Txt w K mg A) : FnOk P w K mg base CX0 2 A.a_is_cover A.f_is_cover ["houses", "cover"] (sp_is_cover K) := by
  have nd := sc_is_cover.nd
  have G_are_others := ok_are_others (P := P) (w := w) (base := base) T
  have G_is_lines := ok_is_lines (P := P) (w := w) (base := base) T
  have G_is_measure := ok_is_measure (P := P) (w := w) (base := base) T
  refine T.F_is_cover.ok sc_is_cover (fun vs H Q E h => ?_) (fun cdv Ar outer s H vs Q E hr h => ?_)
  · obtain ⟨h, p, r, rfl, _⟩ := h; rfl
  · skip
    obtain ⟨h, p, r, rfl, hr', kk⟩ := h
    refine PSs.rd (pss_cons (ps_if (pt_cmpR op_ne (pe_callB call_len_seq rfl T.b_len PySem.boot_len (pa_cons (pvI 1) pa_nil)) pe_int (nomark _))
      (pss_one (ps_ret pe_bl))
      pss_nil)
    (pss_cons (ps_asg (pvI 1) (pg_tup (n := 5) rfl (pgs_cons (pg_name (i := 2) nd rfl (Or.inl rfl)) (pgs_cons (pg_name (i := 3) nd rfl (Or.inl rfl)) (pgs_cons (pg_name (i := 4) nd rfl (Or.inl rfl)) (pgs_cons (pg_name (i := 5) nd rfl (Or.inl rfl)) (pgs_cons (pg_name (i := 6) nd rfl (Or.inl rfl)) pgs_nil)))))))
    (pss_cons (ps_if (pt_not (pt_chain op_leI op_ltI pe_int (pvI 2) (pvI 0)))
      (pss_one (ps_ret pe_bl))
      pss_nil)
    (pss_one (ps_ret (pe_and (pe_call (G_is_measure.mono (by decide)) hr rfl T.m_is_measure T.k_is_measure T.d_is_measure .nil pass0 (pa_cons (pvI 3) (pa_cons (pvI 4) (pa_cons (pvI 5) pa_nil)))) (pe_and (pe_call (G_is_lines.mono (by decide)) hr rfl T.m_is_lines T.k_is_lines T.d_is_lines .nil pass0 (pa_cons (pvI 6) pa_nil)) (pe_one (pe_call (G_are_others.mono (by decide)) hr rfl T.m_are_others T.k_are_others T.d_are_others .nil pass0 (pa_cons (pvI 0) (pa_cons (pvI 2) (pa_cons (pvI 6) pa_nil)))))))))))) ?_
    try dsimp only [L2.cxOf, L2.Cx.nox]
    cases r with
    | none =>
      refine byC fun hG => ?_
      obtain ⟨xs, hx, h5, _⟩ := hr'
      refine hG ?_
      refine ⟨_, rfl, p, xs, rfl, .inr hx, rfl, _, rfl, ?_⟩
      rw [dec_intV]
      exact iteND (fun _ => kk H (Same.refl _)) (fun e => absurd (by omega) h5)
    | some r =>
      refine byC fun hG => ?_
      obtain ⟨ho, k, b, m, L⟩ := r
      obtain ⟨lp, hp, hL, hl⟩ := hr'
      refine hG ?_
      refine ⟨_, rfl, p, _, rfl, .inr hp, rfl, _, rfl, iteF' (by rfl) ?_⟩
      refine ⟨_, rfl, p, _, rfl, hp, rfl, _, _, rfl, _, _, rfl, _, _, rfl, _, _, rfl, _, _, rfl, rfl, ?_⟩
      have out : ∀ H', Same H H' → isCoverB h (some (ho, k, b, m, L)) = false → Q (.bl false) H' := fun H' s e => by rw [← e]; exact kk H' s
      refine ⟨_, rfl, _, _, rfl, rfl, _, rfl, iteD (fun g1 => ?_) (fun g1 => ?_)⟩
      case refine_2 => exact ⟨_, rfl, out H (Same.refl _) (by rw [isCoverB_some, decide_eq_false (fun z => g1 z.1), Bool.false_and])⟩
      refine ⟨_, rfl, _, _, rfl, rfl, _, rfl, iteND (fun g2 => ?_) (fun g2 => ?_)⟩
      · exact out H (Same.refl _) (by rw [isCoverB_some, decide_eq_false (fun z => g2 z.2), Bool.false_and])
      have e0 : isCoverB h (some (ho, k, b, m, L)) = (measB k b m && (isLinesB L && othersBL h ho L)) := by
        rw [isCoverB_some, decide_eq_true ⟨g1, g2⟩, Bool.true_and]
      rw [e0] at kk
      refine ⟨_, rfl, _, rfl, _, rfl, k, b, m, rfl, _, rfl, iteB (fun e1 => ?_) (fun e1 => ?_)⟩
      case refine_2 => rw [e1, Bool.false_and] at kk; exact kk H (Same.refl _)
      rw [e1, Bool.true_and] at kk
      refine ⟨_, rfl, lp, L, rfl, hL, by omega, fun H1 s1 => ⟨_, rfl, iteB (fun e2 => ?_) (fun e2 => ?_)⟩⟩
      case refine_2 => rw [e2, Bool.false_and] at kk; exact kk H1 s1
      rw [e2, Bool.true_and] at kk
      exact ⟨_, rfl, _, rfl, _, rfl, h, ho, lp, L, rfl, hL.same s1, by omega, fun H2 s2 => kk H2 (s1.trans s2)⟩
def sp_wish (K : PySem.W.Frag) : Sp := fun vs H Q _ => ∃ (k : Str) (b r : Int), vs = [.str k, .int b, .int r] ∧ (-(2 ^ 64) < r ∧ r < 2 ^ 64) ∧ Q (.int (wishZ k b r)) H
theorem sc_wish : FnScope ["kind", "by", "reach"] ["kind", "by", "reach"] (defScope s_wish) := ⟨rfl, rfl, rfl, by decide +kernel, rfl, by decide +kernel, by decide +kernel⟩
set_option maxHeartbeats 4000000 in
theorem ok_wish (T : Txt w K mg A) : FnOk P w K mg base CX0 1 A.a_wish A.f_wish ["kind", "by", "reach"] (sp_wish K) := by
  have nd := sc_wish.nd
  refine T.F_wish.ok sc_wish (fun vs H Q E h => ?_) (fun cdv Ar outer s H vs Q E hr h => ?_)
  · obtain ⟨k, b, r, rfl, _⟩ := h; rfl
  · skip
    obtain ⟨k, b, r, rfl, hr1, kk⟩ := h
    refine PSs.rd (pss_cons (ps_if (pt_cmpR op_eq (pvI 0) pe_str (nomark _))
      (pss_one (ps_ret (pe_op op_fdivI (pe_op op_mulI (pvI 2) (pvI 1)) pe_int)))
      pss_nil)
    (pss_one (ps_ret (pe_callB (call_max2 rfl) rfl T.b_max boot_max (pa_cons pe_int (pa_cons (pe_op op_subI (pvI 2) (pvI 1)) pa_nil)))))) ?_
    try dsimp only [L2.cxOf, L2.Cx.nox]
    refine ⟨_, rfl, rfl, _, rfl, ?_⟩
    rw [dec_strV]
    unfold wishZ at kk
    refine iteD (fun e => ?_) (fun e => ?_)
    · rw [if_pos e] at kk
      exact ⟨_, rfl, _, rfl, _, _, rfl, rfl, .inl hr1, _, _, rfl, rfl, cdiv, kk⟩
    · rw [if_neg e] at kk
      exact ⟨_, rfl, _, rfl, _, _, rfl, rfl, 0, _, rfl, kk⟩
def sp_take (K : PySem.W.Frag) : Sp := fun vs H Q _ => ∃ (k : Str) (b m r : Int), vs = [.str k, .int b, .int m, .int r] ∧ measB k b m = true ∧ 0 ≤ r ∧ r ≤ 99999 ∧ Q (.int (takeZ k b m r)) H
theorem sc_take : FnScope ["kind", "by", "most", "reach"] ["kind", "by", "most", "reach"] (defScope s_take) := ⟨rfl, rfl, rfl, by decide +kernel, rfl, by decide +kernel, by decide +kernel⟩
set_option maxHeartbeats 4000000 in
theorem ok_take (T : Txt w K mg A) : FnOk P w K mg base CX0 2 A.a_take A.f_take ["kind", "by", "most", "reach"] (sp_take K) := by
  have nd := sc_take.nd
  have G_is_measure := ok_is_measure (P := P) (w := w) (base := base) T
  have G_wish := ok_wish (P := P) (w := w) (base := base) T
  refine T.F_take.ok sc_take (fun vs H Q E h => ?_) (fun cdv Ar outer s H vs Q E hr h => ?_)
  · obtain ⟨k, b, m, r, rfl, _⟩ := h; rfl
  · skip
    obtain ⟨k, b, m, r, rfl, hm, h0, h9, kk⟩ := h
    refine PSs.rd (pss_cons (ps_if (pt_not (pt_truth (pe_call (G_is_measure.mono (by decide)) hr rfl T.m_is_measure T.k_is_measure T.d_is_measure .nil pass0 (pa_cons (pvI 0) (pa_cons (pvI 1) (pa_cons (pvI 2) pa_nil)))) (fun _ => rfl)))
      (pss_one ps_never)
      pss_nil)
    (pss_cons (ps_if (pt_not (pt_chain op_leI op_leI pe_int (pvI 3) (pe_globI rfl T.c_MOST_REACH)))
      (pss_one ps_never)
      pss_nil)
    (pss_one (ps_ret (pe_callB (call_min2 rfl) rfl T.b_min boot_min (pa_cons (pvI 2) (pa_cons (pe_call (G_wish.mono (by decide)) hr rfl T.m_wish T.k_wish T.d_wish .nil pass0 (pa_cons (pvI 0) (pa_cons (pvI 1) (pa_cons (pvI 3) pa_nil)))) pa_nil))))))) ?_
    try dsimp only [L2.cxOf, L2.Cx.nox]
    refine ⟨_, rfl, _, rfl, _, rfl, k, b, m, rfl, _, rfl, ?_⟩
    rw [hm]
    refine iteF ?_
    refine ⟨_, rfl, _, _, rfl, rfl, _, rfl, iteD (fun _ => ?_) (fun h => absurd h0 h)⟩
    refine ⟨_, _, rfl, rfl, _, rfl, iteND (fun h => absurd h9 h) (fun _ => ?_)⟩
    exact ⟨_, rfl, _, rfl, _, rfl, _, rfl, k, b, r, rfl, ⟨by omega, by omega⟩, m, _, rfl, kk⟩
def sp_is_day (K : PySem.W.Frag) : Sp := fun vs H Q _ => ∃ d : Int, vs = [.int d] ∧ Q (.bl (decide (0 ≤ d ∧ d ≤ 99))) H
theorem sc_is_day : FnScope ["day"] ["day"] (defScope s_is_day) := ⟨rfl, rfl, rfl, by decide +kernel, rfl, by decide +kernel, by decide +kernel⟩
set_option maxHeartbeats 4000000 in
theorem ok_is_day (T : Txt w K mg A) : FnOk P w K mg base CX0 1 A.a_is_day A.f_is_day ["day"] (sp_is_day K) := by
  have nd := sc_is_day.nd
  refine T.F_is_day.ok sc_is_day (fun vs H Q E h => ?_) (fun cdv Ar outer s H vs Q E hr h => ?_)
  · obtain ⟨d, rfl, _⟩ := h; rfl
  · skip
    obtain ⟨d, rfl, kk⟩ := h
    refine PSs.rd (pss_one (ps_ret (pe_chain op_leI op_leI pe_int (pvI 0) (pe_globI rfl T.c_LAST_DAY)))) ?_
    try dsimp only [L2.cxOf, L2.Cx.nox]
    refine ⟨_, rfl, _, _, rfl, rfl, _, rfl, iteD (fun h0 => ?_) (fun h0 => ?_)⟩
    · refine ⟨_, _, rfl, rfl, ?_⟩
      have e : decide (d ≤ 99) = decide (0 ≤ d ∧ d ≤ 99) := by
        have h0' : (0 : Int) ≤ d := h0
        simp [h0']
      show Q (.bl (decide (d ≤ 99))) H
      rw [e]; exact kk
    · have e : false = decide (0 ≤ d ∧ d ≤ 99) := by
        have h0' : ¬ (0 : Int) ≤ d := h0
        simp [h0']
      rw [e]; exact kk
def sp_is_stop (K : PySem.W.Frag) : Sp := fun vs H Q _ => ∃ (p : Addr) (k : Str) (rest : List V), vs = [.ref p] ∧ SqT K H p (.str k :: rest) ∧ Q (.bl (decide (k = "stop"))) H
theorem sc_is_stop : FnScope ["terms"] ["terms"] (defScope s_is_stop) := ⟨rfl, rfl, rfl, by decide +kernel, rfl, by decide +kernel, by decide +kernel⟩
set_option maxHeartbeats 4000000 in
theorem ok_is_stop (T : Txt w K mg A) : FnOk P w K mg base CX0 1 A.a_is_stop A.f_is_stop ["terms"] (sp_is_stop K) := by
  have nd := sc_is_stop.nd
  refine T.F_is_stop.ok sc_is_stop (fun vs H Q E h => ?_) (fun cdv Ar outer s H vs Q E hr h => ?_)
  · obtain ⟨p, k, rest, rfl, _⟩ := h; rfl
  · skip
    obtain ⟨p, k, rest, rfl, hp, kk⟩ := h
    refine PSs.rd (pss_one (ps_ret (pe_cmpR op_eq (pe_ix (ix_tupI K rfl) (pvI 0) pe_int (fun _ _ => rfl)) pe_str (nomark _)))) ?_
    try dsimp only [L2.cxOf, L2.Cx.nox]
    refine ⟨_, rfl, p, _, 0, .str k, rfl, rfl, hp, atI_nat (j := 0) rfl, rfl, ?_⟩
    show Q (.bl (decide (V.str k = V.str "stop"))) H
    rw [dec_strV]; exact kk
def sp_cover_of (K : PySem.W.Frag) : Sp := fun vs H Q _ => ∃ (p lp : Addr) (k : Str) (ho b m : Int) (mid : List V) (L : List (Int × Int)), vs = [.ref p] ∧ SqT K H p (.str k :: .int ho :: .int b :: .int m :: (mid ++ [.ref lp])) ∧ LinesAt K H lp L ∧ L.length ≤ 100 ∧ ∀ q H', Same H H' → SqT K H' q [.int ho, .str (if k = "stop" then "layer" else k), .int b, .int m, .ref lp] → Q (.ref q) H'
theorem sc_cover_of : FnScope ["terms", "kind", "house", "by", "most"] ["terms"] (defScope s_cover_of) := ⟨rfl, rfl, rfl, by decide +kernel, rfl, by decide +kernel, by decide +kernel⟩
set_option maxHeartbeats 4000000 in
theorem ok_cover_of (T : Txt w K mg A) : FnOk P w K mg base CX0 2 A.a_cover_of A.f_cover_of ["terms"] (sp_cover_of K) := by
  have nd := sc_cover_of.nd
  have G_is_stop := ok_is_stop (P := P) (w := w) (base := base) T
  refine T.F_cover_of.ok sc_cover_of (fun vs H Q E h => ?_) (fun cdv Ar outer s H vs Q E hr h => ?_)
  · obtain ⟨p, lp, k, ho, b, m, mid, L, rfl, _⟩ := h; rfl
  · skip
    obtain ⟨p, lp, k, ho, b, m, mid, L, rfl, hp, hL, hl, kk⟩ := h
    refine PSs.rd (pss_cons (ps_asg (pe_slice sl_tupA (pvI 0) po_none (po_some pe_int)) (pg_tup (n := 4) rfl (pgs_cons (pg_name (i := 1) nd rfl (Or.inl rfl)) (pgs_cons (pg_name (i := 2) nd rfl (Or.inl rfl)) (pgs_cons (pg_name (i := 3) nd rfl (Or.inl rfl)) (pgs_cons (pg_name (i := 4) nd rfl (Or.inl rfl)) pgs_nil))))))
    (pss_one (ps_ret (pe_tup (pa_cons (pvI 2) (pa_cons (pe_ifExp (pt_truth (pe_call (G_is_stop.mono (by decide)) hr rfl T.m_is_stop T.k_is_stop T.d_is_stop .nil pass0 (pa_cons (pvI 0) pa_nil)) (fun _ => rfl)) pe_str (pvI 1)) (pa_cons (pvI 3) (pa_cons (pvI 4) (pa_cons (pe_ix (ix_tupI K rfl) (pvI 0) (pe_un un_neg pe_int) (fun _ _ => rfl)) pa_nil))))))))) ?_
    try dsimp only [L2.cxOf, L2.Cx.nox]
    refine ⟨_, rfl, 4, rfl, slTA_of hp fun q1 H1 s1 r1 => ?_⟩
    have c4 : cutV (.str k :: .int ho :: .int b :: .int m :: (mid ++ [.ref lp])) none (some 4) = [.str k, .int ho, .int b, .int m] := cut_upto _ 4
    rw [c4] at r1
    refine ⟨q1, _, rfl, r1, rfl, _, _, rfl, _, _, rfl, _, _, rfl, _, _, rfl, rfl, ?_⟩
    have hp1 := s1.tupS hp
    have ha : atI (.str k :: .int ho :: .int b :: .int m :: (mid ++ [.ref lp])) (-1) = some (.ref lp) := by
      have e : (.str k :: .int ho :: .int b :: .int m :: (mid ++ [.ref lp]) : List V) = (.str k :: .int ho :: .int b :: .int m :: mid) ++ [.ref lp] := rfl
      rw [e]; exact atI_last _ _
    refine ⟨_, rfl, _, rfl, p, k, _, rfl, hp1, _, rfl, ?_⟩
    by_cases e : k = "stop"
    · refine iteT' (decide_eq_true e) ?_
      rw [if_pos e] at kk
      refine ⟨_, rfl, _, rfl, _, rfl, _, rfl, p, _, _, _, rfl, rfl, hp1, ha, by show 5 ≤ sizeLine; decide, fun q hq => ?_⟩
      exact kk q _ (s1.trans (same_upd hq)) (SqT.of upd_same)
    · refine iteF' (decide_eq_false e) ?_
      rw [if_neg e] at kk
      refine ⟨_, rfl, _, rfl, _, rfl, _, rfl, _, rfl, p, _, _, _, rfl, rfl, hp1, ha, by show 5 ≤ sizeLine; decide, fun q hq => ?_⟩
      exact kk q _ (s1.trans (same_upd hq)) (SqT.of upd_same)
def sp_are_bounds (K : PySem.W.Frag) : Sp := fun vs H Q _ => ∃ w f l : Int, vs = [.int w, .int f, .int l] ∧ Q (.bl (bndB w f l)) H
theorem sc_are_bounds : FnScope ["whole", "first", "last"] ["whole", "first", "last"] (defScope s_are_bounds) := ⟨rfl, rfl, rfl, by decide +kernel, rfl, by decide +kernel, by decide +kernel⟩
set_option maxHeartbeats 4000000 in
theorem ok_are_bounds (T : Txt w K mg A) : FnOk P w K mg base CX0 2 A.a_are_bounds A.f_are_bounds ["whole", "first", "last"] (sp_are_bounds K) := by
  have nd := sc_are_bounds.nd
  have G_is_day := ok_is_day (P := P) (w := w) (base := base) T
  refine T.F_are_bounds.ok sc_are_bounds (fun vs H Q E h => ?_) (fun cdv Ar outer s H vs Q E hr h => ?_)
  · obtain ⟨w, f, l, rfl, _⟩ := h; rfl
  · skip
    obtain ⟨wh, f, l, rfl, kk⟩ := h
    have out : bndB wh f l = false → Q (.bl false) H := fun e => by rw [e] at kk; exact kk
    refine PSs.rd (pss_one (ps_ret (pe_and (pe_chain op_leI op_leI pe_int (pvI 0) (pe_globI rfl T.c_MOST_WHOLE)) (pe_and (pe_call (G_is_day.mono (by decide)) hr rfl T.m_is_day T.k_is_day T.d_is_day .nil pass0 (pa_cons (pvI 1) pa_nil)) (pe_and (pe_call (G_is_day.mono (by decide)) hr rfl T.m_is_day T.k_is_day T.d_is_day .nil pass0 (pa_cons (pvI 2) pa_nil)) (pe_one (pe_cmpR op_leI (pvI 1) (pvI 2) (nomark _)))))))) ?_
    try dsimp only [L2.cxOf, L2.Cx.nox]
    refine ⟨_, rfl, _, _, rfl, rfl, _, rfl, iteD (fun h0 => ?_) (fun h0 => ?_)⟩
    · refine ⟨_, _, rfl, rfl, _, rfl, iteD (fun h1 => ?_) (fun h1 => ?_)⟩
      · have e1 : decide (1 ≤ wh ∧ wh ≤ 120) = true := decide_eq_true ⟨h0, h1⟩
        refine ⟨_, rfl, f, rfl, _, rfl, iteD (fun h2 => ?_) (fun h2 => out (by unfold bndB; rw [decide_eq_false h2]; simp))⟩
        refine ⟨_, rfl, l, rfl, _, rfl, iteD (fun h3 => ?_) (fun h3 => out (by unfold bndB; rw [decide_eq_false h3]; simp))⟩
        refine ⟨_, rfl, _, rfl, _, _, rfl, rfl, ?_⟩
        have e : decide (f ≤ l) = bndB wh f l := by unfold bndB; rw [e1, decide_eq_true h2, decide_eq_true h3]; simp
        show Q (.bl (decide (f ≤ l))) H
        rw [e]; exact kk
      · exact out (by unfold bndB; rw [decide_eq_false (fun z => h1 z.2)]; simp)
    · exact ⟨_, rfl, iteF (out (by unfold bndB; rw [decide_eq_false (fun z => h0 z.1)]; simp))⟩
def sp_is_terms (K : PySem.W.Frag) : Sp := fun vs H Q _ => ∃ (h : Int) (p : Addr) (t : Tm), vs = [.int h, .ref p] ∧ TmAt K H p t ∧ ∀ H', Same H H' → Q (.bl (termsB h t)) H'
theorem sc_is_terms : FnScope ["houses", "terms"] ["houses", "terms"] (defScope s_is_terms) := ⟨rfl, rfl, rfl, by decide +kernel, rfl, by decide +kernel, by decide +kernel⟩
set_option maxHeartbeats 4000000 in
theorem ok_is_terms (T : Txt w K mg A) : FnOk P w K mg base CX0 3 A.a_is_terms A.f_is_terms ["houses", "terms"] (sp_is_terms K) := by
  have nd := sc_is_terms.nd
  have G_are_bounds := ok_are_bounds (P := P) (w := w) (base := base) T
  have G_cover_of := ok_cover_of (P := P) (w := w) (base := base) T
  have G_is_cover := ok_is_cover (P := P) (w := w) (base := base) T
  have G_is_stop := ok_is_stop (P := P) (w := w) (base := base) T
  refine T.F_is_terms.ok sc_is_terms (fun vs H Q E h => ?_) (fun cdv Ar outer s H vs Q E hr h => ?_)
  · obtain ⟨h, p, t, rfl, _⟩ := h; rfl
  · skip
    obtain ⟨h, p, t, rfl, ht, kk⟩ := h
    have some8 : ∀ k : Str, (k = "share" ∨ k = "layer") → (valueAt ([(Sum.inr "share", Value.int 8 A.u_THINGS_0), (Sum.inr "layer", Value.int 8 A.u_THINGS_1), (Sum.inr "stop", Value.int 5 A.u_THINGS_2)] : List (Key × Value)) (Sum.inr k : Key)) = some (Value.int 8 (if k = "share" then A.u_THINGS_0 else A.u_THINGS_1)) := fun k hk => by
      rcases hk with rfl | rfl
      · rfl
      · rfl
    have some5 : (valueAt ([(Sum.inr "share", Value.int 8 A.u_THINGS_0), (Sum.inr "layer", Value.int 8 A.u_THINGS_1), (Sum.inr "stop", Value.int 5 A.u_THINGS_2)] : List (Key × Value)) (Sum.inr "stop" : Key)) = some (Value.int 5 A.u_THINGS_2) := rfl
    have no : ∀ k : Str, ¬ k = "share" → ¬ k = "layer" → ¬ k = "stop" → (valueAt ([(Sum.inr "share", Value.int 8 A.u_THINGS_0), (Sum.inr "layer", Value.int 8 A.u_THINGS_1), (Sum.inr "stop", Value.int 5 A.u_THINGS_2)] : List (Key × Value)) (Sum.inr k : Key)) = none := fun k h1 h2 h3 => by
      simp [valueAt, Ne.symm h1, Ne.symm h2, Ne.symm h3]
    have out : termsB h t = false → ∀ H', Same H H' → Q (.bl false) H' := fun e H' s => by have := kk H' s; rw [e] at this; exact this
    refine PSs.rd (pss_cons (ps_if (PW.pt (pw_or (pt_cmpR op_eq (pe_callB call_len_seq rfl T.b_len PySem.boot_len (pa_cons (pvI 1) pa_nil)) pe_int (nomark _)) (pw_or (pt_cmpR op_knotin (pe_ix (ix_tupI K rfl) (pvI 1) pe_int (fun _ _ => rfl)) (pe_glob (v := .ref A.o_THINGS) rfl T.g_THINGS rfl) (by with_unfolding_all rfl)) (pw_or1 (pt_cmpR op_ne (pe_callB call_len_seq rfl T.b_len PySem.boot_len (pa_cons (pvI 1) pa_nil)) (pe_ix ix_kdict (pe_glob (v := .ref A.o_THINGS) rfl T.g_THINGS rfl) (pe_ix (ix_tupI K rfl) (pvI 1) pe_int (fun _ _ => rfl)) (fun _ _ => rfl)) (nomark _))))))
      (pss_one (ps_ret pe_bl))
      pss_nil)
    (pss_cons (ps_if (PW.pt (pw_or (pt_not (pt_truth (pe_call (G_is_cover.mono (by decide)) hr rfl T.m_is_cover T.k_is_cover T.d_is_cover .nil pass0 (pa_cons (pvI 0) (pa_cons (pe_call (G_cover_of.mono (by decide)) hr rfl T.m_cover_of T.k_cover_of T.d_cover_of .nil pass0 (pa_cons (pvI 1) pa_nil)) pa_nil))) (fun _ => rfl))) (pw_or1 (pt_cmpR op_ltI (pe_ix (ix_tupI K rfl) (pvI 1) pe_int (fun _ _ => rfl)) pe_int (nomark _)))))
      (pss_one (ps_ret pe_bl))
      pss_nil)
    (pss_one (ps_ret (pe_or (pe_call (G_is_stop.mono (by decide)) hr rfl T.m_is_stop T.k_is_stop T.d_is_stop .nil pass0 (pa_cons (pvI 1) pa_nil)) (pe_one (pe_call (G_are_bounds.mono (by decide)) hr rfl T.m_are_bounds T.k_are_bounds T.d_are_bounds .nil pass0 (pa_cons (pe_ix (ix_tupI K rfl) (pvI 1) pe_int (fun _ _ => rfl)) (pa_cons (pe_ix (ix_tupI K rfl) (pvI 1) pe_int (fun _ _ => rfl)) (pa_cons (pe_ix (ix_tupI K rfl) (pvI 1) pe_int (fun _ _ => rfl)) pa_nil)))))))))) ?_
    try dsimp only [L2.cxOf, L2.Cx.nox]
    cases t with
    | other =>
      refine byC fun hG => ?_
      obtain ⟨xs, hp, h100, hxs⟩ := ht
      refine hG ?_
      rcases hxs with rfl | ⟨k, rest, rfl, n5, n8⟩
      · refine ⟨_, rfl, p, _, rfl, .inr hp, rfl, _, rfl, iteT' (show decide (V.int ((0 : Nat) : Int) = V.int 0) = true by decide +kernel) ?_⟩
        exact out rfl _ (Same.refl _)
      refine ⟨_, rfl, p, _, rfl, .inr hp, rfl, _, rfl, iteF' (decide_eq_false fun z => ?_) ?_⟩
      · have := V.int.inj z
        rw [List.length_cons] at this; omega
      by_cases k1 : k = "share" ∨ k = "layer"
      · refine ⟨_, rfl, p, _, 0, .str k, rfl, rfl, hp, atI_nat (j := 0) rfl, k, A.o_THINGS, _, rfl, rfl, T.t_THINGS, _, rfl, iteF' (by rw [some8 k k1]; rfl) ?_⟩
        refine ⟨_, rfl, p, _, rfl, .inr hp, _, rfl, p, _, 0, .str k, rfl, rfl, hp, atI_nat (j := 0) rfl, k, A.o_THINGS, _, .int 8, _, rfl, rfl, T.t_THINGS, some8 k k1, ⟨_, rfl⟩, rfl, _, rfl, iteND (fun _ => out rfl _ (Same.refl _)) (fun z => ?_)⟩
        exact absurd ⟨k1, by have := V.int.inj z; omega⟩ n8
      by_cases k2 : k = "stop"
      · subst k2
        refine ⟨_, rfl, p, _, 0, .str "stop", rfl, rfl, hp, atI_nat (j := 0) rfl, "stop", A.o_THINGS, _, rfl, rfl, T.t_THINGS, _, rfl, iteF' (by rw [some5]; rfl) ?_⟩
        refine ⟨_, rfl, p, _, rfl, .inr hp, _, rfl, p, _, 0, .str "stop", rfl, rfl, hp, atI_nat (j := 0) rfl, "stop", A.o_THINGS, _, .int 5, _, rfl, rfl, T.t_THINGS, some5, ⟨_, rfl⟩, rfl, _, rfl, iteND (fun _ => out rfl _ (Same.refl _)) (fun z => ?_)⟩
        exact absurd ⟨rfl, by have := V.int.inj z; omega⟩ n5
      · refine ⟨_, rfl, p, _, 0, .str k, rfl, rfl, hp, atI_nat (j := 0) rfl, k, A.o_THINGS, _, rfl, rfl, T.t_THINGS, _, rfl, iteT' (by rw [no k (fun z => k1 (.inl z)) (fun z => k1 (.inr z)) k2]; rfl) ?_⟩
        exact out rfl _ (Same.refl _)
    | stop ho b m L =>
      refine byC fun hG => ?_
      obtain ⟨lp, hp, hL, hl⟩ := ht
      refine hG ?_
      refine ⟨_, rfl, p, _, rfl, .inr hp, rfl, _, rfl, iteF' (show decide (V.int ((5 : Nat) : Int) = V.int 0) = false by decide +kernel) ?_⟩
      refine ⟨_, rfl, p, _, 0, .str "stop", rfl, rfl, hp, rfl, "stop", A.o_THINGS, _, rfl, rfl, T.t_THINGS, _, rfl, iteF' (by rw [some5]; rfl) ?_⟩
      refine ⟨_, rfl, p, _, rfl, .inr hp, _, rfl, p, _, 0, .str "stop", rfl, rfl, hp, rfl, "stop", A.o_THINGS, _, .int 5, _, rfl, rfl, T.t_THINGS, some5, ⟨_, rfl⟩, rfl, _, rfl, iteF' (show (!decide (V.int ((5 : Nat) : Int) = V.int 5)) = false by decide +kernel) ?_⟩
      refine ⟨_, rfl, _, rfl, p, lp, "stop", ho, b, m, [], L, rfl, hp, hL, hl, fun q H1 s1 hq => ?_⟩
      rw [if_pos rfl] at hq
      refine ⟨h, q, some (ho, "layer", b, m, L), rfl, ⟨lp, hq, hL.same s1, hl⟩, fun H2 s2 => ⟨_, rfl, iteNB (fun e => ?_) (fun e => ?_)⟩⟩
      · exact out (by rw [termsB_stop, e]; rfl) _ (s1.trans s2)
      have t2 := s1.trans s2
      have hp2 := t2.tupS hp
      refine ⟨_, rfl, p, _, 3, _, rfl, rfl, hp2, rfl, _, _, rfl, rfl, _, rfl, iteD (fun c => ?_) (fun c => ?_)⟩
      · exact out (by rw [termsB_stop, e, decide_eq_false (show ¬ (1 : Int) ≤ m by omega)]; rfl) _ t2
      refine ⟨_, rfl, p, "stop", _, rfl, hp2, _, rfl, iteT' (by decide +kernel) ?_⟩
      have := kk H2 t2
      have et : termsB h (.stop ho b m L) = true := by rw [termsB_stop, e, decide_eq_true (show (1 : Int) ≤ m by omega)]; rfl
      rw [et] at this
      exact this
    | full k ho b m w f l L =>
      refine byC fun hG => ?_
      obtain ⟨hk, lp, hp, hL, hl⟩ := ht
      have nst : ¬ k = "stop" := fun z => by rcases hk with e | e <;> (rw [z] at e; exact absurd e (by decide +kernel))
      refine hG ?_
      refine ⟨_, rfl, p, _, rfl, .inr hp, rfl, _, rfl, iteF' (show decide (V.int ((8 : Nat) : Int) = V.int 0) = false by decide +kernel) ?_⟩
      refine ⟨_, rfl, p, _, 0, .str k, rfl, rfl, hp, rfl, k, A.o_THINGS, _, rfl, rfl, T.t_THINGS, _, rfl, iteF' (by rw [some8 k hk]; rfl) ?_⟩
      refine ⟨_, rfl, p, _, rfl, .inr hp, _, rfl, p, _, 0, .str k, rfl, rfl, hp, rfl, k, A.o_THINGS, _, .int 8, _, rfl, rfl, T.t_THINGS, some8 k hk, ⟨_, rfl⟩, rfl, _, rfl, iteF' (show (!decide (V.int ((8 : Nat) : Int) = V.int 8)) = false by decide +kernel) ?_⟩
      refine ⟨_, rfl, _, rfl, p, lp, k, ho, b, m, [.int w, .int f, .int l], L, rfl, hp, hL, hl, fun q H1 s1 hq => ?_⟩
      rw [if_neg nst] at hq
      refine ⟨h, q, some (ho, k, b, m, L), rfl, ⟨lp, hq, hL.same s1, hl⟩, fun H2 s2 => ⟨_, rfl, iteNB (fun e => ?_) (fun e => ?_)⟩⟩
      · exact out (by rw [termsB_full, e]; rfl) _ (s1.trans s2)
      have t2 := s1.trans s2
      have hp2 := t2.tupS hp
      refine ⟨_, rfl, p, _, 3, _, rfl, rfl, hp2, rfl, _, _, rfl, rfl, _, rfl, iteD (fun c => ?_) (fun c => ?_)⟩
      · exact out (by rw [termsB_full, e, decide_eq_false (show ¬ (1 : Int) ≤ m by omega)]; rfl) _ t2
      refine ⟨_, rfl, p, k, _, rfl, hp2, _, rfl, iteF' (decide_eq_false nst) ?_⟩
      refine ⟨_, rfl, p, _, 4, _, rfl, rfl, hp2, rfl, _, rfl, p, _, 5, _, rfl, rfl, hp2, rfl, _, rfl, p, _, 6, _, rfl, rfl, hp2, rfl, w, f, l, rfl, ?_⟩
      have := kk H2 t2
      have et : termsB h (.full k ho b m w f l L) = bndB w f l := by rw [termsB_full, e, decide_eq_true (show (1 : Int) ≤ m by omega)]; rfl
      rw [et] at this
      exact this
def sp__law_draws (K : PySem.W.Frag) : Sp := fun vs H Q _ => ∃ (a : Addr) (ns : List Int) (n : Nat), vs = [.ref a, .int n] ∧ SqL K H a (ns.map V.int) ∧ ns.length ≤ 63 ∧ n ≤ 1000 ∧
  ∀ (p : Addr) (ds : List Int) (H' : Hp), H p = none → Same H H' → H' p = some (.lst (ds.map V.int)) → ds.length = n → InD ds → Q (.ref p) H'
theorem sc__law_draws : FnScope ["_law_script", "_law_many", "_law_row", "_law_seed", "_law_cell", "_law_rest", "_law_k"] ["_law_script", "_law_many"] (defScope s__law_draws) := ⟨rfl, rfl, rfl, by decide +kernel, rfl, by decide +kernel, by decide +kernel⟩
set_option maxHeartbeats 4000000 in
theorem ok__law_draws (T : Txt w K mg A) : FnOk P w K mg base CX0 1 A.a__law_draws A.f__law_draws ["_law_script", "_law_many"] (sp__law_draws K) := by
  have nd := sc__law_draws.nd
  refine T.F__law_draws.ok sc__law_draws (fun vs H Q E h => ?_) (fun cdv Ar outer s H vs Q E hr h => ?_)
  · obtain ⟨a, ns, n, rfl, _⟩ := h; rfl
  · skip
    obtain ⟨a, ns, n, rfl, hS, hl, hn, kk⟩ := h
    refine PSs.rd (pss_cons (ps_set (i := 2) nd rfl (Or.inl rfl) (pe_lst pa_nil))
    (pss_cons (ps_set (i := 3) nd rfl (Or.inl rfl) pe_int)
    (pss_cons (ps_for PassesOwn.never rfl (pi_list (pe_slice sl_list (pvI 0) po_none (po_some pe_int))) (pg_name (i := 4) nd rfl (Or.inl rfl))
      (pss_cons (ps_set (i := 3) nd rfl (Or.inl rfl) (pe_op op_modI (pe_op op_addI (pe_op op_addI (pe_op op_mulI (pvI 3) pe_int) (pe_op op_modI (pvI 4) pe_int)) pe_int) pe_int))
       (pss_cons (ps_set (i := 5) nd rfl (Or.inl rfl) (pe_op op_subI (pvI 4) (pe_op op_pow pe_int pe_int)))
       (pss_cons (ps_cut (ps_if (pt_cmpR op_ltI (pvI 5) pe_int (nomark _))
         (pss_one (ps_expr (pe_bm PySem.F.plainAttrs_list PySem.F.slot_list_append PySem.F.type_list_append mt_append (pvI 2) (pa_cons (pe_op op_modI (pvI 4) pe_int) pa_nil))))
         pss_nil))
       (pss_one (ps_for PassesOwn.never rfl (pi_range1 rfl T.b_range (pa_cons pe_int pa_nil)) (pg_name (i := 6) nd rfl (Or.inl rfl))
         (pss_one (ps_if (pt_cmpR op_gtI (pvI 5) pe_int (nomark _))
            (pss_cons (ps_expr (pe_bm PySem.F.plainAttrs_list PySem.F.slot_list_append PySem.F.type_list_append mt_append (pvI 2) (pa_cons (pe_op op_modI (pvI 5) pe_int) pa_nil)))
             (pss_one (ps_set (i := 5) nd rfl (Or.inl rfl) (pe_op op_fdivI (pvI 5) pe_int))))
            pss_nil))))))))
    (pss_cons (ps_for PassesOwn.never rfl (pi_range1 rfl T.b_range (pa_cons (pvI 1) pa_nil)) (pg_name (i := 6) nd rfl (Or.inl rfl))
      (pss_cons (ps_set (i := 3) nd rfl (Or.inl rfl) (pe_op op_modI (pe_op op_addI (pe_op op_addI (pe_op op_addI (pe_op op_mulI (pvI 3) (pvI 3)) (pe_op op_mulI pe_int (pvI 3))) (pe_op op_mulI pe_int (pvI 6))) pe_int) pe_int))
       (pss_one (ps_expr (pe_bm PySem.F.plainAttrs_list PySem.F.slot_list_append PySem.F.type_list_append mt_append (pvI 2) (pa_cons (pe_op op_modI (pe_op op_fdivI (pvI 3) pe_int) pe_int) pa_nil))))))
    (pss_one (ps_ret (pe_slice sl_list (pvI 2) po_none (po_some (pvI 1))))))))) ?_
    try dsimp only [L2.cxOf, L2.Cx.nox]
    refine ⟨Nat.zero_le _, fun r hr0 => ?_⟩
    refine ⟨_, rfl, _, rfl, a, _, rfl, (same_upd hr0).seq hS, fun sl hsl => ?_⟩
    have hrs : r ≠ sl := ne_of_none upd_same hsl
    refine ⟨sl, rfl, ⟨_, SqL.of upd_same⟩, ?_⟩
    have hlen : (cutV (ns.map V.int) none (some 63)).length ≤ 63 := by
      have := cutV_length (ns.map V.int) none (some 63)
      rw [List.length_map] at this; omega
    have hint : ∀ x ∈ cutV (ns.map V.int) none (some 63), ∃ i, x = V.int i := fun x hx => by
      have h1 : x ∈ ns.map V.int := List.mem_of_mem_drop (List.mem_of_mem_take hx)
      refine byC fun hG => ?_
      obtain ⟨i, _, e⟩ := List.mem_map.mp h1
      refine hG ?_
      exact ⟨i, e.symm⟩
    generalize cutV (ns.map V.int) none (some 63) = ys at hlen hint ⊢
    refine for_list (xs := ys) (fun i σ H' => DrawSt H H' a r sl n ys 0 (61 * i) σ) ?_ (fun i σ H' _ h => SqL.of h.slc) ?_ ?_
    · exact ⟨⟨[], 29, none, none, none, rfl, by decide, by decide, by rw [upd_ne hrs, upd_same]; rfl, Nat.zero_le _, Nat.zero_le _, fun _ h => nomatch h⟩, (same_upd hr0).trans (same_upd hsl), upd_same⟩
    · intro i x σ H' hx h
      refine byC fun hG => ?_
      obtain ⟨⟨row, seed, c, rest, k, rfl, s0, s1, hr', _, hrl, hd⟩, sm, hsl'⟩ := h
      obtain ⟨ce, rfl⟩ := hint x (List.mem_of_getElem? hx)
      have hi : i < 63 := by
        have : i < ys.length := by
          by_cases h : i < ys.length
          · exact h
          · rw [List.getElem?_eq_none (Nat.le_of_not_lt h)] at hx; cases hx
        omega
      refine hG ?_
      refine ⟨_, rfl, _, _, rfl, rfl, cmulR, _, rfl, _, _, rfl, rfl, pj, _, _, rfl, rfl, _, _, rfl, rfl, _, _, rfl, rfl, pj, ?_⟩
      refine ⟨_, rfl, _, _, rfl, rfl, ⟨by decide, by decide, by decide⟩, _, _, rfl, rfl, ?_⟩
      have s0' := Int.emod_nonneg (seed * 40009 + ce % 1000033 + 13) (by decide : (2147483629 : Int) ≠ 0)
      have s1' := Int.emod_lt_of_pos (seed * 40009 + ce % 1000033 + 13) (by decide : (0 : Int) < 2147483629)
      refine ⟨fun σ H'' => DrawSt H H'' a r sl n ys 0 (61 * i + 1) σ ∧ ∃ z, σ[5]? = some (some (V.int z)), ?_, ?_⟩
      · refine ⟨_, rfl, _, _, rfl, rfl, _, rfl, ite2 (fun _ => ?_) (fun _ => ?_)⟩
        · refine ⟨_, rfl, .inl ⟨rfl, _, SqL.of hr'⟩, _, rfl, _, _, rfl, rfl, pj, r, _, _, rfl, rfl, hr', small_line (by rw [List.length_map]; omega), ?_⟩
          rw [map_snoc]
          refine ⟨⟨⟨_, _, _, _, _, rfl, s0', s1', upd_same, Nat.zero_le _, ?_, hd.snoc (Int.emod_nonneg _ (by decide)) (Int.emod_lt_of_pos _ (by decide))⟩, ?_, by rw [upd_ne hrs.symm]; exact hsl'⟩, _, rfl⟩
          · rw [List.length_append, List.length_singleton]; omega
          · exact fun b o e => by rw [upd_ne (ne_of_none e hr0)]; exact sm b o e
        · exact ⟨⟨⟨row, _, _, _, _, rfl, s0', s1', hr', Nat.zero_le _, by omega, hd⟩, sm, hsl'⟩, _, rfl⟩
      · intro σ H'' zz1
        refine byC fun hG => ?_
        obtain ⟨h, z, hz⟩ := zz1
        refine hG ?_
        refine ⟨60, rfl, by decide, by decide, ?_⟩
        refine for_range (n := 60) (fun j σ H'' => DrawSt H H'' a r sl n ys 0 (61 * i + 1 + j) σ ∧ ∃ z, σ[5]? = some (some (V.int z))) ⟨h, z, hz⟩ ?_ ?_
        · intro j σ H'' hj zz2
          refine byC fun hG => ?_
          obtain ⟨⟨⟨row, seed, c, rest, k, rfl, s0, s1, hr', _, hrl, hd⟩, sm, hsl'⟩, z, hz⟩ := zz2
          refine hG ?_
          cases hz
          refine ⟨_, rfl, _, _, rfl, rfl, _, rfl, ite2 (fun hp => ?_) (fun _ => ?_)⟩
          · refine ⟨_, rfl, .inl ⟨rfl, _, SqL.of hr'⟩, _, rfl, _, _, rfl, rfl, pj, r, _, _, rfl, rfl, hr', small_line (by rw [List.length_map]; omega), ?_⟩
            rw [map_snoc]
            refine ⟨_, rfl, _, _, rfl, rfl, cdiv, ?_⟩
            refine ⟨⟨⟨_, seed, _, _, _, rfl, s0, s1, upd_same, Nat.zero_le _, ?_, hd.snoc (Int.emod_nonneg _ (by decide)) (Int.emod_lt_of_pos _ (by decide))⟩, ?_, by rw [upd_ne hrs.symm]; exact hsl'⟩, _, rfl⟩
            · rw [List.length_append, List.length_singleton]; omega
            · exact fun b o e => by rw [upd_ne (ne_of_none e hr0)]; exact sm b o e
          · exact ⟨⟨⟨row, seed, _, _, _, rfl, s0, s1, hr', Nat.zero_le _, by omega, hd⟩, sm, hsl'⟩, z, rfl⟩
        · intro σ H'' zz3
          refine byC fun hG => ?_
          obtain ⟨⟨⟨row, seed, c, rest, k, rfl, s0, s1, hr', _, hrl, hd⟩, sm, hsl'⟩, _⟩ := zz3
          refine hG ?_
          exact ⟨⟨row, seed, _, _, _, rfl, s0, s1, hr', Nat.zero_le _, by omega, hd⟩, sm, hsl'⟩
    · intro σ H' zz4
      refine byC fun hG => ?_
      obtain ⟨⟨row, seed, c, rest, k, rfl, s0, s1, hr', _, hrl, hd⟩, sm, hsl'⟩ := zz4
      refine hG ?_
      refine ⟨_, rfl, _, rfl, by omega, by omega, ?_⟩
      have en : ((n : Nat) : Int).toNat = n := by omega
      rw [en]
      refine for_range (n := n) (fun j σ H'' => DrawSt H H'' a r sl n ys j (61 * 63 + j) σ) ⟨⟨row, seed, _, _, _, rfl, s0, s1, hr', Nat.zero_le _, by omega, hd⟩, sm, hsl'⟩ ?_ ?_
      · intro j σ H'' hj zz5
        refine byC fun hG => ?_
        obtain ⟨⟨row, seed, c, rest, k, rfl, s0, s1, hr', hlo, hrl, hd⟩, sm, hsl'⟩ := zz5
        refine hG ?_
        refine ⟨_, rfl, _, rfl, _, _, rfl, rfl, .inl ⟨by omega, by omega⟩, _, rfl, _, _, rfl, rfl, cmulL, _, _, rfl, rfl, _, rfl, _, _, rfl, rfl, cmulL, _, _, rfl, rfl, _, _, rfl, rfl, _, _, rfl, rfl, pj, ?_⟩
        have s0' := Int.emod_nonneg (seed * seed + 69621 * seed + 7 * (0 + (j : Nat)) + 5) (by decide : (2147483629 : Int) ≠ 0)
        have s1' := Int.emod_lt_of_pos (seed * seed + 69621 * seed + 7 * (0 + (j : Nat)) + 5) (by decide : (0 : Int) < 2147483629)
        refine ⟨_, rfl, .inl ⟨rfl, _, SqL.of hr'⟩, _, rfl, _, _, rfl, rfl, cdiv, _, _, rfl, rfl, pj, r, _, _, rfl, rfl, hr', small_line (by rw [List.length_map]; omega), ?_⟩
        rw [map_snoc]
        refine ⟨⟨_, _, _, _, _, rfl, s0', s1', upd_same, ?_, ?_, hd.snoc (Int.emod_nonneg _ (by decide)) (Int.emod_lt_of_pos _ (by decide))⟩, ?_, by rw [upd_ne hrs.symm]; exact hsl'⟩
        · rw [List.length_append, List.length_singleton]; omega
        · rw [List.length_append, List.length_singleton]; omega
        · exact fun b o e => by rw [upd_ne (ne_of_none e hr0)]; exact sm b o e
      · intro σ H'' zz6
        refine byC fun hG => ?_
        obtain ⟨⟨row, seed, c, rest, k, rfl, s0, s1, hr', hlo, hrl, hd⟩, sm, hsl'⟩ := zz6
        refine hG ?_
        refine ⟨_, rfl, _, rfl, _, rfl, r, _, rfl, SqL.of hr', fun p hp => ?_⟩
        have ec : cutV (row.map V.int) none (some (n : Int)) = (row.take n).map V.int := by
          unfold cutV
          rw [HT.sIx_none, HT.sIx_nat, List.drop_zero, List.length_map, Nat.sub_zero, Nat.min_eq_left hlo, List.map_take]
        rw [ec]
        refine kk p (row.take n) _ (sm.free hp) (sm.trans (same_upd hp)) upd_same ?_ fun d hd' => hd d (List.mem_of_mem_take hd')
        rw [List.length_take]; omega
def sp__law_whole (K : PySem.W.Frag) : Sp := fun vs H Q _ => ∃ i : Int, vs = [.int i] ∧ Q (.bl true) H
theorem sc__law_whole : FnScope ["_law_found"] ["_law_found"] (defScope s__law_whole) := ⟨rfl, rfl, rfl, by decide +kernel, rfl, by decide +kernel, by decide +kernel⟩
set_option maxHeartbeats 4000000 in
theorem ok__law_whole (T : Txt w K mg A) : FnOk P w K mg base CX0 1 A.a__law_whole A.f__law_whole ["_law_found"] (sp__law_whole K) := by
  have nd := sc__law_whole.nd
  refine T.F__law_whole.ok sc__law_whole (fun vs H Q E h => ?_) (fun cdv Ar outer s H vs Q E hr h => ?_)
  · obtain ⟨i, rfl, _⟩ := h; rfl
  · skip
    obtain ⟨i, rfl, kk⟩ := h
    refine PSs.rd (pss_one (ps_ret (pe_and (pe_callB call_isiR rfl T.b_isinstance boot_isinstance (pa_cons (pvI 0) (pa_cons (pe_bltn (v := .ty "int") rfl T.b_int boot_ty_int rfl) pa_nil))) (pe_one (pe_not (pe_callB call_isiR rfl T.b_isinstance boot_isinstance (pa_cons (pvI 0) (pa_cons (pe_bltn (v := .ty "bool") rfl T.b_bool boot_ty_bool rfl) pa_nil)))))))) ?_
    try dsimp only [L2.cxOf, L2.Cx.nox]
    refine ⟨_, rfl, _, _, _, _, rfl, .int i, rfl, _, rfl, iteT ?_⟩
    exact ⟨_, rfl, _, _, _, _, rfl, .int i, rfl, _, rfl, kk⟩
def sp__law_wholes (K : PySem.W.Frag) : Sp := fun vs H Q _ => ∃ (p : Addr) (m : Int) (ns : List Int), vs = [.ref p, .int m] ∧ H p = some (.lst (ns.map V.int)) ∧ Q (.bl (decide ((ns.length : Int) = m))) H
theorem sc__law_wholes : FnScope ["_law_found", "_law_many", "_law_one"] ["_law_found", "_law_many"] (defScope s__law_wholes) := ⟨rfl, rfl, rfl, by decide +kernel, rfl, by decide +kernel, by decide +kernel⟩
set_option maxHeartbeats 4000000 in
theorem ok__law_wholes (T : Txt w K mg A) : FnOk P w K mg base CX0 2 A.a__law_wholes A.f__law_wholes ["_law_found", "_law_many"] (sp__law_wholes K) := by
  have nd := sc__law_wholes.nd
  have G__law_whole := ok__law_whole (P := P) (w := w) (base := base) T
  refine T.F__law_wholes.ok sc__law_wholes (fun vs H Q E h => ?_) (fun cdv Ar outer s H vs Q E hr h => ?_)
  · obtain ⟨p, m, ns, rfl, _⟩ := h; rfl
  · skip
    obtain ⟨p, m, ns, rfl, hp, kk⟩ := h
    refine PSs.rd (pss_cons (ps_if (PW.pt (pw_or (pt_not (pt_truth (pe_callB call_isiR rfl T.b_isinstance boot_isinstance (pa_cons (pvI 0) (pa_cons (pe_bltn (v := .ty "list") rfl T.b_list boot_ty_list rfl) pa_nil))) (fun _ => rfl))) (pw_or1 (pt_cmpR op_ne (pe_callB call_len_seq rfl T.b_len PySem.boot_len (pa_cons (pvI 0) pa_nil)) (pvI 1) (nomark _)))))
      (pss_one (ps_ret pe_bl))
      pss_nil)
    (pss_cons (ps_for PassesOwn.never rfl (pi_list (pvI 0)) (pg_name (i := 2) nd rfl (Or.inl rfl))
      (pss_one (ps_if (pt_not (pt_truth (pe_call (G__law_whole.mono (by decide)) hr rfl T.m__law_whole T.k__law_whole T.d__law_whole .nil pass0 (pa_cons (pvI 2) pa_nil)) (fun _ => rfl)))
         (pss_one (ps_ret pe_bl))
         pss_nil)))
    (pss_one (ps_ret pe_bl)))) ?_
    try dsimp only [L2.cxOf, L2.Cx.nox]
    refine ⟨_, rfl, _, _, _, _, rfl, .lst hp, rfl, _, rfl, iteF ?_⟩
    refine ⟨_, rfl, p, _, rfl, .inl (SqL.of hp), _, rfl, rfl, _, rfl, ?_⟩
    rw [List.length_map]
    have ed : decide (V.int ((ns.length : Nat) : Int) = V.int m) = decide (((ns.length : Nat) : Int) = m) := by
      by_cases h : ((ns.length : Nat) : Int) = m
      · rw [h, decide_eq_true rfl, decide_eq_true rfl]
      · rw [decide_eq_false h, decide_eq_false (fun z => h (V.int.inj z))]
    rw [ed]
    refine iteND (fun h => ?_) (fun h => ?_)
    · rw [decide_eq_false h] at kk; exact kk
    rw [decide_eq_true h] at kk
    refine ⟨_, rfl, p, rfl, ⟨_, SqL.of hp⟩, for_list (xs := ns.map V.int) (fun i σ H' => H' = H ∧ ∃ k, σ = [some (.ref p), some (.int m), k]) ⟨rfl, none, rfl⟩ (fun i σ H' _ h => by rw [h.1]; exact SqL.of hp) ?_ ?_⟩
    · intro i x σ H' hx zz1
      refine byC fun hG => ?_
      obtain ⟨rfl, k, rfl⟩ := zz1
      obtain ⟨z, _, rfl⟩ := List.mem_map.mp (List.mem_of_getElem? hx)
      refine hG ?_
      exact ⟨_, rfl, z, rfl, _, rfl, iteF ⟨rfl, _, rfl⟩⟩
    · intro σ H' zz2
      refine byC fun hG => ?_
      obtain ⟨rfl, k, rfl⟩ := zz2
      refine hG ?_
      exact kk
def sp__law_list (K : PySem.W.Frag) : Sp := fun vs H Q _ => ∃ (p q : Addr) (ns ms : List Int), vs = [.ref p, .ref q] ∧ H p = some (.lst (ns.map V.int)) ∧ SqL K H q (ms.map V.int) ∧ Q (.bl (decide (ns = ms))) H
theorem sc__law_list : FnScope ["_law_found", "_law_due"] ["_law_found", "_law_due"] (defScope s__law_list) := ⟨rfl, rfl, rfl, by decide +kernel, rfl, by decide +kernel, by decide +kernel⟩
set_option maxHeartbeats 4000000 in
theorem ok__law_list (T : Txt w K mg A) : FnOk P w K mg base CX0 3 A.a__law_list A.f__law_list ["_law_found", "_law_due"] (sp__law_list K) := by
  have nd := sc__law_list.nd
  have G__law_wholes := ok__law_wholes (P := P) (w := w) (base := base) T
  refine T.F__law_list.ok sc__law_list (fun vs H Q E h => ?_) (fun cdv Ar outer s H vs Q E hr h => ?_)
  · obtain ⟨p, q, ns, ms, rfl, _⟩ := h; rfl
  · skip
    obtain ⟨p, q, ns, ms, rfl, hp, hq, kk⟩ := h
    refine PSs.rd (pss_one (ps_ret (pe_and (pe_call (G__law_wholes.mono (by decide)) hr rfl T.m__law_wholes T.k__law_wholes T.d__law_wholes .nil pass0 (pa_cons (pvI 0) (pa_cons (pe_callB call_len_seq rfl T.b_len PySem.boot_len (pa_cons (pvI 1) pa_nil)) pa_nil))) (pe_one (pe_cmpR (op_eqL hr.units) (pvI 0) (pvI 1) (nomark _)))))) ?_
    try dsimp only [L2.cxOf, L2.Cx.nox]
    refine ⟨_, rfl, _, rfl, q, _, rfl, .inl hq, p, _, ns, rfl, hp, _, rfl, iteD (fun h => ?_) (fun h => ?_)⟩
    · exact ⟨_, rfl, _, rfl, p, q, ns, ms, rfl, rfl, SqL.of hp, hq, kk⟩
    · have e : ¬ ns = ms := fun z => h (by rw [z, List.length_map])
      rw [decide_eq_false e] at kk; exact kk
def sp__law_lines (K : PySem.W.Frag) : Sp := fun vs H Q _ => ∃ (h o : Nat) (d : Addr) (ds : List Int), vs = [.int h, .int o, .ref d] ∧ 2 ≤ h ∧ h ≤ 6 ∧ o < h ∧ SqL K H d (ds.map V.int) ∧ ds.length = 5 ∧ InD ds ∧
  ∀ (p : Addr) (L : List (Int × Int)) (H' : Hp), Same H H' → LinesAt K H' p L → GoodL L → (∀ l ∈ L, l.1 < (h : Int) ∧ l.1 ≠ (o : Int)) → L.length < h → Q (.ref p) H'
theorem sc__law_lines : FnScope ["_law_houses", "_law_house", "_law_draws_here", "_law_k", "_law_others", "_law_many", "_law_row", "_law_signer", "_law_line"] ["_law_houses", "_law_house", "_law_draws_here"] (defScope s__law_lines) := ⟨rfl, rfl, rfl, by decide +kernel, rfl, by decide +kernel, by decide +kernel⟩
set_option maxHeartbeats 4000000 in
theorem ok__law_lines (T : Txt w K mg A) : FnOk P w K mg base CX0 1 A.a__law_lines A.f__law_lines ["_law_houses", "_law_house", "_law_draws_here"] (sp__law_lines K) := by
  have nd := sc__law_lines.nd
  refine T.F__law_lines.ok sc__law_lines (fun vs H Q E h => ?_) (fun cdv Ar outer s H vs Q E hr h => ?_)
  · obtain ⟨h, o, d, ds, rfl, _⟩ := h; rfl
  · skip
    obtain ⟨h, o, d, ds, rfl, h2, h6, ho, hd, hd5, hD, kk⟩ := h
    obtain ⟨f1, f2, f3⟩ := othersOf_facts h (by omega) o ho
    refine PSs.rd (pss_cons (lcS (defScope s__law_lines) 4 nd (pi_range1 rfl T.b_range (pa_cons (pvI 0) pa_nil)) (fun _ _ _ _ _ => pgc 1) (fun _ _ _ _ _ => (pts_one (pt_cmpR op_ne (pvI 1) (pvI 2) (nomark _)))) (fun _ _ _ _ _ => (pvI 1)))
    (pss_cons (ps_set (i := 5) nd rfl (Or.inl rfl) (pe_op op_addI pe_int (pe_op op_modI (pe_ix (ix_listI K rfl) (pvI 2) pe_int (fun _ _ => rfl)) (pe_callB (call_min2 rfl) rfl T.b_min boot_min (pa_cons pe_int (pa_cons (pe_callB call_len_seq rfl T.b_len PySem.boot_len (pa_cons (pvI 4) pa_nil)) pa_nil))))))
    (pss_cons (ps_set (i := 6) nd rfl (Or.inl rfl) (pe_lst pa_nil))
    (pss_cons (ps_for PassesOwn.never rfl (pi_range1 rfl T.b_range (pa_cons (pvI 5) pa_nil)) (pg_name (i := 3) nd rfl (Or.inl rfl))
      (pss_cons (ps_set (i := 7) nd rfl (Or.inl rfl) (pe_bm PySem.F.plainAttrs_list PySem.F.slot_list_pop PySem.F.type_list_pop mt_popAt (pvI 4) (pa_cons (pe_op op_modI (pe_ix (ix_listI K rfl) (pvI 2) (pe_op op_addI pe_int (pvI 3)) (fun _ _ => rfl)) (pe_callB call_len_seq rfl T.b_len PySem.boot_len (pa_cons (pvI 4) pa_nil))) pa_nil)))
       (pss_cons (ps_set (i := 8) nd rfl (Or.inl rfl) (pe_op op_addI pe_int (pe_op op_modI (pe_op op_fdivI (pe_ix (ix_listI K rfl) (pvI 2) (pe_op op_addI pe_int (pvI 3)) (fun _ _ => rfl)) pe_int) pe_int)))
       (pss_cons (ps_cut (ps_if (pt_cmpR op_eq (pe_op op_modI (pe_op op_fdivI (pe_ix (ix_listI K rfl) (pvI 2) pe_int (fun _ _ => rfl)) pe_int) pe_int) pe_int (nomark _))
         (pss_one (ps_set (i := 8) nd rfl (Or.inl rfl) (pe_op op_addI pe_int (pe_op op_modI (pe_op op_fdivI (pe_ix (ix_listI K rfl) (pvI 2) (pe_op op_addI pe_int (pvI 3)) (fun _ _ => rfl)) pe_int) pe_int))))
         pss_nil))
       (pss_one (ps_expr (pe_bm PySem.F.plainAttrs_list PySem.F.slot_list_append PySem.F.type_list_append mt_append (pvI 6) (pa_cons (pe_tup (pa_cons (pvI 7) (pa_cons (pvI 8) pa_nil))) pa_nil))))))))
    (pss_one (ps_ret (pe_callTy call_tuple_of rfl T.b_tuple boot_ty_tuple (pa_cons (pvI 6) pa_nil)))))))) ?_
    try dsimp only [L2.cxOf, L2.Cx.nox]
    refine ⟨_, rfl, h, rfl, by omega, by omega, ?_⟩
    have en : ((h : Nat) : Int).toNat = h := by omega
    rw [en]
    refine lc_pure (itOf_rng 0 h) (fun σ => ∃ x y, σ = [x, y, some (.int o)]) (fun x => match x with | .int i => !decide (i = (o : Int)) | _ => true) id ?_ (Nat.le_of_lt (small_line (by rw [rngV_len]; omega))) ?_ ?_
    · exact ⟨_, _, rfl⟩
    · intro x σ2 H2 Qt Qf hx sm zz1 qt qf
      refine byC fun hG => ?_
      obtain ⟨a, b, rfl⟩ := zz1
      obtain ⟨i, _, rfl⟩ := List.mem_map.mp hx
      refine hG ?_
      refine ⟨_, rfl, _, rfl, rfl, _, rfl, ?_⟩
      have ed : decide (V.int (0 + (i : Nat)) = V.int (o : Int)) = decide ((0 : Int) + (i : Nat) = (o : Int)) := by
        by_cases e : (0 : Int) + (i : Nat) = (o : Int)
        · rw [e, decide_eq_true rfl, decide_eq_true rfl]
        · rw [decide_eq_false e, decide_eq_false (fun z => e (V.int.inj z))]
      rw [ed]
      refine iteND (fun e => ?_) (fun e => ?_)
      · exact ⟨_, rfl, qt (by show (!decide ((0 : Int) + (i : Nat) = (o : Int))) = true; rw [decide_eq_false e]; rfl) _ ⟨_, _, rfl⟩⟩
      · exact qf (by show (!decide ((0 : Int) + (i : Nat) = (o : Int))) = false; rw [decide_eq_true e]; rfl) _ ⟨_, _, rfl⟩
    intro oth hoth0
    have eo : ((rngV 0 h).filter (fun x => match x with | .int i => !decide (i = (o : Int)) | _ => true)).map id = (othersOf h o).map V.int := by
      unfold rngV othersOf
      rw [List.map_id, List.filter_map, List.filter_map, List.map_map]
      rfl
    rw [eo]
    have s1 : Same H (upd H oth (.lst ((othersOf h o).map V.int))) := same_upd hoth0
    -- many
    refine byC fun hG => ?_
    obtain ⟨d0, hd0⟩ := get_some (xs := ds) (i := 0) (by omega)
    have D0 := hD d0 (List.mem_of_getElem? hd0)
    refine hG ?_
    refine ⟨_, rfl, d, _, 0, _, rfl, rfl, s1.seq hd, atI_nat (j := 0) (by rw [List.getElem?_map, hd0]; rfl), _, rfl, oth, _, rfl, .inl (SqL.of upd_same), 4, _, rfl, _, _, rfl, rfl, ?_, _, _, rfl, rfl, ?_⟩
    · rw [List.length_map, f3]; split <;> omega
    rw [List.length_map, f3]
    have hm : ∃ many : Nat, (1 : Int) + d0 % (if (((h - 1 : Nat)) : Int) < 4 then (((h - 1 : Nat)) : Int) else 4) = (many : Int) ∧ 1 ≤ many ∧ many ≤ 4 ∧ many ≤ h - 1 := by
      refine ⟨(1 + d0 % (if (((h - 1 : Nat)) : Int) < 4 then (((h - 1 : Nat)) : Int) else 4)).toNat, ?_⟩
      split
      · have a1 := Int.emod_nonneg d0 (show (((h - 1 : Nat)) : Int) ≠ 0 by omega)
        have a2 := Int.emod_lt_of_pos d0 (show 0 < (((h - 1 : Nat)) : Int) by omega)
        omega
      · have a1 := Int.emod_nonneg d0 (show (4 : Int) ≠ 0 by omega)
        have a2 := Int.emod_lt_of_pos d0 (show 0 < (4 : Int) by omega)
        omega
    refine byC fun hG => ?_
    obtain ⟨many, em, m1, m4, mh⟩ := hm
    refine hG ?_
    -- row = []
    refine ⟨Nat.zero_le _, fun r hr0 => ?_⟩
    have hor : oth ≠ r := ne_of_none upd_same hr0
    refine ⟨_, rfl, many, ?_, by omega, by omega, ?_⟩
    · show [V.int _] = [V.int _]
      rw [← em]
    have en2 : ((many : Nat) : Int).toNat = many := by omega
    rw [en2]
    refine for_range (n := many) (fun i σ H' => LineSt K H H' h o d oth r many i (h - 1) σ) ?_ ?_ ?_
    · refine ⟨⟨othersOf h o, [], [], none, none, none, ?_, by rw [upd_ne hor]; exact upd_same, upd_same, ⟨rfl, fun i l e => by simp at e⟩, rfl, by rw [f3]; omega, f1, by simp, fun l hl => (nomatch hl), f2, fun l hl => (nomatch hl)⟩, s1.trans (same_upd hr0)⟩
      show [_, _, _, _, _, some (V.int _), _, _, _] = _
      rw [em]
    · intro i σ H' hi zz2
      refine byC fun hG => ?_
      obtain ⟨⟨os, L, us, k, sg, ln, rfl, hoth, hr', hP, hLl, hol, hnd, hLn, hdis, hos, hL⟩, sm⟩ := zz2
      have neor : oth ≠ r := hor
      obtain ⟨dk, hdk⟩ := get_some (xs := ds) (i := 1 + i) (by omega)
      have Dk := hD dk (List.mem_of_getElem? hdk)
      have hpos : 0 < os.length := by omega
      have b1 := Int.emod_nonneg dk (show ((os.length : Nat) : Int) ≠ 0 by omega)
      have b2 := Int.emod_lt_of_pos dk (show 0 < ((os.length : Nat) : Int) by omega)
      have hix : atI (ds.map V.int) ((1 : Int) + (0 + (i : Nat))) = some (V.int dk) := by
        have e : (1 : Int) + (0 + (i : Nat)) = ((1 + i : Nat) : Int) := by omega
        rw [e]; exact atI_nat (by rw [List.getElem?_map, hdk]; rfl)
      obtain ⟨sv, hsv⟩ := get_some (xs := os) (i := (dk % (os.length : Nat)).toNat) (by omega)
      have hsq : seqIndex? (dk % (os.length : Nat)) (os.map V.int).length = some (dk % (os.length : Nat)).toNat := by
        rw [List.length_map]; exact seqIndex_of b1 b2
      have hsm := List.mem_of_getElem? hsv
      refine hG ?_
      -- signer
      refine ⟨_, rfl, .inl ⟨rfl, _, SqL.of hoth⟩, _, rfl, _, rfl, _, _, rfl, rfl, d, _, _, _, rfl, rfl, sm.seq hd, hix, _, rfl, oth, _, rfl, .inl (SqL.of hoth), _, _, rfl, rfl, ?_, oth, _, _, (dk % (os.length : Nat)).toNat, V.int sv, rfl, rfl, hoth, ?_, ?_, ?_, ?_, ?_⟩
      · rw [List.length_map]; omega
      · rw [List.length_map]; omega
      · rw [List.length_map]; omega
      · rw [List.length_map] at hsq ⊢; exact hsq
      · rw [List.getElem?_map, hsv]; rfl
      rw [map_erase]
      have neq : ∀ b o', H b = some o' → b ≠ oth ∧ b ≠ r := fun b o' e => ⟨ne_of_none e hoth0, fun z => by subst z; rw [s1 _ _ e] at hr0; cases hr0⟩
      generalize eH : upd H' oth (.lst ((os.eraseIdx (dk % (os.length : Nat)).toNat).map V.int)) = H2
      have hoth2 : H2 oth = some (.lst ((os.eraseIdx (dk % (os.length : Nat)).toNat).map V.int)) := by rw [← eH]; exact upd_same
      have hr2 : H2 r = some (.lst us) := by rw [← eH, upd_ne hor.symm]; exact hr'
      have hP2 : PairsAt K H2 us L := by rw [← eH]; exact PairsAt.updL hP hoth
      have sm2 : Same H H2 := fun b o' e => by rw [← eH, upd_ne (neq b o' e).1]; exact sm b o' e
      -- line
      refine ⟨_, rfl, _, rfl, _, _, rfl, rfl, d, _, _, _, rfl, rfl, sm2.seq hd, hix, _, _, rfl, rfl, cdiv, _, _, rfl, rfl, pj, _, _, rfl, rfl, ?_⟩
      refine ⟨fun σ H3 => H3 = H2 ∧ ∃ ln : Int, 1 ≤ ln ∧ ln ≤ 20 ∧ σ = [some (.int h), some (.int o), some (.ref d), some (.int (0 + (i : Nat))), some (.ref oth), some (.int many), some (.ref r), some (.int sv), some (.int ln)], ?_, ?_⟩
      · refine ⟨_, rfl, d, _, 0, _, rfl, rfl, sm2.seq hd, atI_nat (j := 0) (by rw [List.getElem?_map, hd0]; rfl), _, _, rfl, rfl, cdiv, _, _, rfl, rfl, pj, rfl, _, rfl, iteD (fun _ => ?_) (fun _ => ?_)⟩
        · refine ⟨_, rfl, _, rfl, _, _, rfl, rfl, d, _, _, _, rfl, rfl, sm2.seq hd, hix, _, _, rfl, rfl, cdiv, _, _, rfl, rfl, pj, _, _, rfl, rfl, rfl, _, ?_, ?_, rfl⟩
          · have := Int.emod_nonneg (dk / 7) (show (3 : Int) ≠ 0 by decide); omega
          · have := Int.emod_lt_of_pos (dk / 7) (show (0 : Int) < 3 by decide); omega
        · refine ⟨rfl, _, ?_, ?_, rfl⟩
          · have := Int.emod_nonneg (dk / 7) (show (20 : Int) ≠ 0 by decide); omega
          · have := Int.emod_lt_of_pos (dk / 7) (show (0 : Int) < 20 by decide); omega
      intro σ H3 zz3
      refine byC fun hG => ?_
      obtain ⟨e3, ln2, n1, n20, rfl⟩ := zz3
      obtain rfl := e3.symm
      refine hG ?_
      -- row.append((signer, line))
      refine ⟨_, rfl, .inl ⟨rfl, _, SqL.of hr2⟩, _, rfl, _, rfl, by show 2 ≤ sizeLine; decide, fun t ht => ?_⟩
      have ntr : r ≠ t := ne_of_none hr2 ht
      have nto : oth ≠ t := ne_of_none hoth2 ht
      refine ⟨r, us, _, rfl, rfl, by rw [upd_ne ntr]; exact hr2, small_line (by have := hP.len; omega), ?_⟩
      have hP3 : PairsAt K (upd H2 t (.tup [.int sv, .int ln2])) us L := hP2.same (same_upd ht)
      have hr3 : (upd H2 t (.tup [.int sv, .int ln2])) r = some (.lst us) := by rw [upd_ne ntr]; exact hr2
      have hpt : PairAt K (upd H2 t (.tup [.int sv, .int ln2])) (.ref t) (sv, ln2) := ⟨t, rfl, SqT.of upd_same⟩
      refine ⟨⟨os.eraseIdx (dk % (os.length : Nat)).toNat, L ++ [(sv, ln2)], us ++ [.ref t], _, _, _, rfl, by rw [upd_ne hor, upd_ne nto]; exact hoth2, upd_same, PairsAt.updL (hP3.snoc hpt) hr3, by rw [List.length_append, hLl]; rfl, ?_, ?_, ?_, ?_, ?_, ?_⟩, ?_⟩
      · rw [List.length_eraseIdx_of_lt (by omega)]; omega
      · exact hnd.sublist (List.eraseIdx_sublist _ _)
      · rw [List.map_append]
        refine List.nodup_append.mpr ⟨hLn, by simp, fun a ha b hb e => ?_⟩
        simp at hb
        subst hb; subst e
        refine byC fun hG => ?_
        obtain ⟨l, hl, el⟩ := List.mem_map.mp ha
        refine hG ?_
        exact hdis l hl (el ▸ hsm)
      · intro l hl
        rcases List.mem_append.mp hl with hl | hl
        · exact fun z => hdis l hl ((List.eraseIdx_sublist _ _).subset z)
        · rw [List.mem_singleton.mp hl]; exact not_mem_erase hnd hsv
      · exact fun x hx => hos x ((List.eraseIdx_sublist _ _).subset hx)
      · intro l hl
        rcases List.mem_append.mp hl with hl | hl
        · exact hL l hl
        · rw [List.mem_singleton.mp hl]; exact ⟨hos sv hsm, n1, n20⟩
      · exact fun b o' e => by rw [upd_ne (neq b o' e).2, upd_ne (ne_of_none (sm2 b o' e) ht)]; exact sm2 b o' e
    · intro σ H' zz4
      refine byC fun hG => ?_
      obtain ⟨⟨os, L, us, k, sg, ln, rfl, hoth, hr', hP, hLl, hol, hnd, hLn, hdis, hos, hL⟩, sm⟩ := zz4
      refine hG ?_
      refine ⟨_, rfl, r, us, rfl, .inl ⟨SqL.of hr', fun t ht => ?_⟩⟩
      refine kk t L _ (sm.trans (same_upd ht)) ⟨us, SqT.of upd_same, hP.same (same_upd ht)⟩ ⟨by omega, by omega, hLn, fun l hl => ?_⟩ (fun l hl => ⟨(hL l hl).1.2.1, (hL l hl).1.2.2⟩) (by omega)
      have := hL l hl
      omega
def sp__law_cover (K : PySem.W.Frag) : Sp := fun vs H Q _ => ∃ (h : Nat) (d : Addr) (ds : List Int), vs = [.int h, .ref d] ∧ 2 ≤ h ∧ h ≤ 6 ∧ SqL K H d (ds.map V.int) ∧ ds.length = 9 ∧ InD ds ∧
  ∀ (p lp : Addr) (ho : Nat) (k : Str) (b m : Int) (L : List (Int × Int)) (H' : Hp), Same H H' → SqT K H' p [.int ho, .str k, .int b, .int m, .ref lp] → LinesAt K H' lp L → GoodL L → ho < h → (∀ l ∈ L, l.1 < (h : Int) ∧ l.1 ≠ (ho : Int)) → L.length < h → measB k b m = true → Q (.ref p) H'
theorem sc__law_cover : FnScope ["_law_houses", "_law_draws_here", "_law_house", "_law_kind", "_law_by", "_law_most"] ["_law_houses", "_law_draws_here"] (defScope s__law_cover) := ⟨rfl, rfl, rfl, by decide +kernel, rfl, by decide +kernel, by decide +kernel⟩
set_option maxHeartbeats 4000000 in
theorem ok__law_cover (T : Txt w K mg A) : FnOk P w K mg base CX0 2 A.a__law_cover A.f__law_cover ["_law_houses", "_law_draws_here"] (sp__law_cover K) := by
  have nd := sc__law_cover.nd
  have G__law_lines := ok__law_lines (P := P) (w := w) (base := base) T
  refine T.F__law_cover.ok sc__law_cover (fun vs H Q E h => ?_) (fun cdv Ar outer s H vs Q E hr h => ?_)
  · obtain ⟨h, d, ds, rfl, _⟩ := h; rfl
  · skip
    obtain ⟨h, d, ds, rfl, h2, h6, hd, hd9, hD, kk⟩ := h
    obtain ⟨d0, D0, i0⟩ := draw_at hD (i := 0) (by omega)
    obtain ⟨d1, D1, i1⟩ := draw_at hD (i := 1) (by omega)
    obtain ⟨d2, D2, i2⟩ := draw_at hD (i := 2) (by omega)
    obtain ⟨d3, D3, i3⟩ := draw_at hD (i := 3) (by omega)
    have hh : 0 < h := by omega
    have b0 := Nat.mod_lt d0 hh
    refine PSs.rd (pss_cons (ps_set (i := 2) nd rfl (Or.inl rfl) (pe_op op_modI (pe_ix (ix_listI K rfl) (pvI 1) pe_int (fun _ _ => rfl)) (pvI 0)))
    (pss_cons (ps_set (i := 3) nd rfl (Or.inl rfl) (pe_ix (ix_listI K rfl) (pe_lst (pa_cons pe_str (pa_cons pe_str pa_nil))) (pe_op op_modI (pe_ix (ix_listI K rfl) (pvI 1) pe_int (fun _ _ => rfl)) pe_int) (fun _ _ => rfl)))
    (pss_cons (ps_set (i := 4) nd rfl (Or.inl rfl) (pe_op op_modI (pe_ix (ix_listI K rfl) (pvI 1) pe_int (fun _ _ => rfl)) pe_int))
    (pss_cons (ps_cut (ps_if (pt_cmpR op_eq (pe_op op_modI (pe_op op_fdivI (pe_ix (ix_listI K rfl) (pvI 1) pe_int (fun _ _ => rfl)) pe_int) pe_int) pe_int (nomark _))
      (pss_one (ps_set (i := 4) nd rfl (Or.inl rfl) (pe_op op_modI (pe_ix (ix_listI K rfl) (pvI 1) pe_int (fun _ _ => rfl)) pe_int)))
      pss_nil))
    (pss_cons (ps_cut (ps_if (pt_cmpR op_eq (pvI 3) pe_str (nomark _))
      (pss_one (ps_set (i := 4) nd rfl (Or.inl rfl) (pe_ix (ix_listI K rfl) (pe_lst (pa_cons (pe_op op_addI pe_int (pe_op op_modI (pe_ix (ix_listI K rfl) (pvI 1) pe_int (fun _ _ => rfl)) pe_int)) (pa_cons pe_int (pa_cons (pe_op op_addI pe_int (pe_op op_modI (pe_ix (ix_listI K rfl) (pvI 1) pe_int (fun _ _ => rfl)) pe_int)) pa_nil)))) (pe_op op_modI (pe_op op_fdivI (pe_ix (ix_listI K rfl) (pvI 1) pe_int (fun _ _ => rfl)) pe_int) pe_int) (fun _ _ => rfl))))
      pss_nil))
    (pss_cons (ps_set (i := 5) nd rfl (Or.inl rfl) (pe_op op_modI (pe_ix (ix_listI K rfl) (pvI 1) pe_int (fun _ _ => rfl)) pe_int))
    (pss_one (ps_ret (pe_tup (pa_cons (pvI 2) (pa_cons (pvI 3) (pa_cons (pvI 4) (pa_cons (pvI 5) (pa_cons (pe_call (G__law_lines.mono (by decide)) hr rfl T.m__law_lines T.k__law_lines T.d__law_lines .nil pass0 (pa_cons (pvI 0) (pa_cons (pvI 2) (pa_cons (pe_slice sl_list (pvI 1) (po_some pe_int) (po_some pe_int)) pa_nil)))) pa_nil)))))))))))))) ?_
    try dsimp only [L2.cxOf, L2.Cx.nox]
    refine ⟨_, rfl, d, _, 0, _, rfl, rfl, hd, i0, _, rfl, _, _, rfl, rfl, by show (0 : Int) < _; omega, ?_⟩
    refine ⟨by show 2 ≤ sizeLine; decide, fun z hz => ?_⟩
    have sz : ∀ o, Same H (upd H z o) := fun o => same_upd hz
    refine ⟨_, rfl, d, _, 1, _, rfl, rfl, (sz _).seq hd, i1, _, _, rfl, rfl, pj, z, _, ((d1 % 2 : Nat) : Int), _, rfl, by show V.int _ = V.int _; rw [Int.natCast_emod]; rfl, SqL.of upd_same, ix2 (Nat.mod_lt _ (by decide)), ?_⟩
    generalize eH1 : upd H z (.lst [V.str "share", V.str "layer"]) = H1
    have s1 : Same H H1 := by rw [← eH1]; exact sz _
    have hk : ∃ k : Str, (if d1 % 2 = 0 then V.str "share" else V.str "layer") = V.str k ∧ (k = "share" ∨ k = "layer") := by
      by_cases e : d1 % 2 = 0
      · exact ⟨"share", by rw [if_pos e], .inl rfl⟩
      · exact ⟨"layer", by rw [if_neg e], .inr rfl⟩
    refine byC fun hG => ?_
    obtain ⟨k, ek, hk⟩ := hk
    refine hG ?_
    rw [ek]
    refine ⟨_, rfl, d, _, 2, _, rfl, rfl, s1.seq hd, i2, _, _, rfl, rfl, pj, ?_⟩
    refine ⟨fun σ H' => H' = H1 ∧ ∃ b : Int, σ = [some (.int h), some (.ref d), some (.int ((d0 % h : Nat) : Int)), some (.str k), some (.int b), none] ∧ 0 ≤ b ∧ b ≤ 200, ?_, ?_⟩
    · refine ⟨_, rfl, d, _, 1, _, rfl, rfl, s1.seq hd, i1, _, _, rfl, rfl, cdiv, _, _, rfl, rfl, pj, rfl, _, rfl, iteD (fun _ => ?_) (fun _ => ?_)⟩
      · exact ⟨_, rfl, d, _, 2, _, rfl, rfl, s1.seq hd, i2, _, _, rfl, rfl, pj, rfl, _, by rw [Int.natCast_emod]; rfl, by omega, by omega⟩
      · exact ⟨rfl, _, by rw [Int.natCast_emod]; rfl, by omega, by omega⟩
    intro σ H' zz1
    refine byC fun hG => ?_
    obtain ⟨e1, b, rfl, hb0, hb2⟩ := zz1
    obtain rfl := e1.symm
    refine hG ?_
    refine ⟨fun σ H' => Same H H' ∧ ∃ b : Int, σ = [some (.int h), some (.ref d), some (.int ((d0 % h : Nat) : Int)), some (.str k), some (.int b), none] ∧ (k = "share" → 1 ≤ b ∧ b ≤ 100) ∧ (k = "layer" → 0 ≤ b ∧ b ≤ 200), ?_, ?_⟩
    · refine ⟨_, rfl, rfl, _, rfl, ?_⟩
      rw [dec_strV]
      refine iteD (fun e => ?_) (fun e => ?_)
      · refine ⟨_, rfl, d, _, 2, _, rfl, rfl, s1.seq hd, i2, _, _, rfl, rfl, pj, _, _, rfl, rfl, _, rfl, d, _, 2, _, rfl, rfl, s1.seq hd, i2, _, _, rfl, rfl, pj, _, _, rfl, rfl, by show 3 ≤ sizeLine; decide, fun y hy => ?_⟩
        have s2 := s1.trans (same_upd (o := .lst [V.int (1 + (d2 : Int) % 100), V.int 100, V.int (50 + (d2 : Int) % 50)]) hy)
        refine ⟨_, rfl, d, _, 1, _, rfl, rfl, s2.seq hd, i1, _, _, rfl, rfl, cdiv, _, _, rfl, rfl, pj, y, _, ((d1 / 2 % 3 : Nat) : Int), _, rfl, by show V.int _ = V.int _; rw [Int.natCast_emod, Int.natCast_ediv]; rfl, SqL.of upd_same, ix3 (Nat.mod_lt _ (by decide)), s2, ?_⟩
        have hs : ¬ k = "layer" := fun z => share_ne (e.symm.trans z)
        by_cases f0 : d1 / 2 % 3 = 0
        · rw [if_pos f0]; exact ⟨_, rfl, fun _ => by omega, fun z => absurd z hs⟩
        · rw [if_neg f0]
          by_cases f1 : d1 / 2 % 3 = 1
          · rw [if_pos f1]; exact ⟨_, rfl, fun _ => by omega, fun z => absurd z hs⟩
          · rw [if_neg f1]; exact ⟨_, rfl, fun _ => by omega, fun z => absurd z hs⟩
      · exact ⟨s1, _, rfl, fun z => absurd z e, fun _ => ⟨hb0, hb2⟩⟩
    intro σ H2 zz2
    refine byC fun hG => ?_
    obtain ⟨s2, b, rfl, hs, hl⟩ := zz2
    refine hG ?_
    refine ⟨_, rfl, d, _, 3, _, rfl, rfl, s2.seq hd, i3, _, _, rfl, rfl, pj, ?_⟩
    refine ⟨_, rfl, _, rfl, _, rfl, _, rfl, _, rfl, _, rfl, _, rfl, 4, rfl, 9, rfl, d, _, rfl, s2.seq hd, fun sl hsl => ?_⟩
    have ecut : cutV (ds.map V.int) (some 4) (some 9) = ((ds.drop 4).take (9 - 4)).map V.int := cut_ints ds 4 9 (by omega) (by omega)
    rw [ecut]
    refine ⟨h, d0 % h, sl, (ds.drop 4).take (9 - 4), rfl, h2, h6, b0, SqL.of upd_same, by rw [cut_len _ _ _ (by omega)], cut_in hD _ _, fun lp L H3 s3 hlp g hL hLl => ?_⟩
    refine ⟨by show 5 ≤ sizeLine; decide, fun p hp => ?_⟩
    refine kk p lp (d0 % h) k b ((d3 % 25 : Nat) : Int) L _ (s2.trans ((same_upd hsl).trans (s3.trans (same_upd hp)))) ?_ (hlp.same (same_upd hp)) g b0 hL hLl ?_
    · have e3 : ((d3 % 25 : Nat) : Int) = (d3 : Int) % 25 := by omega
      rw [e3]
      exact SqT.of upd_same
    · unfold measB
      rcases hk with rfl | rfl
      · rw [if_pos rfl, decide_eq_true (hs rfl), Bool.true_and]; exact decide_eq_true (by omega)
      · rw [if_neg (fun z => share_ne z.symm), if_pos rfl, decide_eq_true (hl rfl), Bool.true_and]; exact decide_eq_true (by omega)
def sp__law_split (K : PySem.W.Frag) : Sp := fun vs H Q _ => ∃ (p : Addr) (n : Nat) (L : List (Int × Int)), vs = [.ref p, .int n] ∧ LinesAt K H p L ∧ 1 ≤ L.length ∧ L.length ≤ 1000 ∧ SmallL L ∧ n ≤ 1000 ∧
  ∀ (r : Addr) (qs : List Addr) (H' : Hp), H r = none → Same H H' → H' r = some (.lst (qs.map V.ref)) → qs.length = n + 1 → RowsAt H' (L.map (·.2)) qs n → Q (.ref r) H'
theorem sc__law_split : FnScope ["_law_lines_here", "_law_most", "_law_borne", "_law_rows", "_law_crown", "_law_best", "_law_at", "_law_here"] ["_law_lines_here", "_law_most"] (defScope s__law_split) := ⟨rfl, rfl, rfl, by decide +kernel, rfl, by decide +kernel, by decide +kernel⟩
set_option maxHeartbeats 4000000 in
theorem ok__law_split (T : Txt w K mg A) : FnOk P w K mg base CX0 1 A.a__law_split A.f__law_split ["_law_lines_here", "_law_most"] (sp__law_split K) := by
  have nd := sc__law_split.nd
  refine T.F__law_split.ok sc__law_split (fun vs H Q E h => ?_) (fun cdv Ar outer s H vs Q E hr h => ?_)
  · obtain ⟨p, n, L, rfl, _⟩ := h; rfl
  · skip
    obtain ⟨p, n, L, rfl, hp, h1, hl, sml, hn, kk⟩ := h
    obtain ⟨us, hp1, hu⟩ := hp.ex
    have hlen := hu.len
    refine PSs.rd (pss_cons (ps_set (i := 2) nd rfl (Or.inl rfl) (pe_op op_rep (pe_lst (pa_cons pe_int pa_nil)) (pe_callB call_len_seq rfl T.b_len PySem.boot_len (pa_cons (pvI 0) pa_nil))))
    (pss_cons (ps_set (i := 3) nd rfl (Or.inl rfl) (pe_lst (pa_cons (pe_callTy call_list_of rfl T.b_list boot_ty_list (pa_cons (pvI 2) pa_nil)) pa_nil)))
    (pss_cons (ps_for PassesOwn.never rfl (pi_range1 rfl T.b_range (pa_cons (pvI 1) pa_nil)) (pg_name (i := 4) nd rfl (Or.inl rfl))
      (pss_cons (ps_set (i := 5) nd rfl (Or.inl rfl) pe_int)
       (pss_cons (ps_for PassesOwn.never rfl (pi_range1 rfl T.b_range (pa_cons (pe_callB call_len_seq rfl T.b_len PySem.boot_len (pa_cons (pvI 0) pa_nil)) pa_nil)) (pg_name (i := 6) nd rfl (Or.inl rfl))
         (pss_cons (ps_set (i := 7) nd rfl (Or.inl rfl) (pe_op op_mulI (pe_op op_addI (pe_ix (ix_listI K rfl) (pvI 2) (pvI 6) (fun _ _ => rfl)) pe_int) (pe_ix (ix_tupI K rfl) (pe_ix (ix_tupI K rfl) (pvI 0) (pvI 5) (fun _ _ => rfl)) pe_int (fun _ _ => rfl))))
          (pss_one (ps_if (pt_cmpR op_ltI (pvI 7) (pe_op op_mulI (pe_op op_addI (pe_ix (ix_listI K rfl) (pvI 2) (pvI 5) (fun _ _ => rfl)) pe_int) (pe_ix (ix_tupI K rfl) (pe_ix (ix_tupI K rfl) (pvI 0) (pvI 6) (fun _ _ => rfl)) pe_int (fun _ _ => rfl))) (nomark _))
            (pss_one (ps_set (i := 5) nd rfl (Or.inl rfl) (pvI 6)))
            pss_nil))))
       (pss_cons (ps_asg (pe_op op_addI (pe_ix (ix_listI K rfl) (pvI 2) (pvI 5) (fun _ _ => rfl)) pe_int) (pg_sub (pvI 2) (pvI 5) set_list))
       (pss_one (ps_expr (pe_bm PySem.F.plainAttrs_list PySem.F.slot_list_append PySem.F.type_list_append mt_append (pvI 3) (pa_cons (pe_callTy call_list_of rfl T.b_list boot_ty_list (pa_cons (pvI 2) pa_nil)) pa_nil))))))))
    (pss_one (ps_ret (pvI 3)))))) ?_
    try dsimp only [L2.cxOf, L2.Cx.nox]
    refine ⟨by show 1 ≤ sizeLine; decide, fun z hz => ?_⟩
    have sz : Same H (upd H z (.lst [V.int 0])) := same_upd hz
    refine ⟨_, rfl, p, us, rfl, .inr (sz.tupS hp1), z, _, _, rfl, rfl, upd_same, by omega, by omega, ?_, fun b hb => ?_⟩
    · have : 1 * ((us.length : Nat) : Int).toNat ≤ 1000 := by omega
      exact Nat.le_of_lt (small_line (by show 1 * ((us.length : Nat) : Int).toNat ≤ 100000; omega))
    have enl : ((us.length : Nat) : Int).toNat = L.length := by omega
    rw [enl, flat_rep]
    have sb := same_upd (o := .lst ((List.replicate L.length (0 : Int)).map V.int)) hb
    refine ⟨_, rfl, b, _, rfl, .inl (SqL.of upd_same), fun c0 hc0 => ?_⟩
    have sc := same_upd (o := .lst ((List.replicate L.length (0 : Int)).map V.int)) hc0
    refine ⟨by show 1 ≤ sizeLine; decide, fun rw hrw => ?_⟩
    have nbc : b ≠ c0 := ne_of_none upd_same hc0
    have nbr : b ≠ rw := ne_of_none (sc _ _ upd_same) hrw
    have ncr : c0 ≠ rw := ne_of_none upd_same hrw
    have hb0 : H b = none := sz.free hb
    have hrw0 : H rw = none := sz.free (sb.free (sc.free hrw))
    have hls : (L.map (·.2)).length = L.length := List.length_map _
    refine ⟨_, rfl, n, rfl, by omega, by omega, ?_⟩
    have en : ((n : Nat) : Int).toNat = n := by omega
    rw [en]
    refine for_range (n := n) (fun i σ H' => SplitSt H H' p b rw n (L.map (·.2)) i σ) ?_ ?_ ?_
    · refine ⟨⟨[c0], none, none, none, none, rfl, upd_same, rfl, fun k hk => ⟨c0, ?_, ?_⟩, fun q hq => ?_⟩, ?_, sz.trans (sb.trans (sc.trans (same_upd hrw)))⟩
      · have : k = 0 := by omega
        subst this; rfl
      · have : k = 0 := by omega
        subst this
        rw [upd_ne ncr, upd_same, Mt.deal, hls]
      · rw [List.mem_singleton.mp hq]; exact ⟨nbc.symm, ncr⟩
      · rw [upd_ne nbr, upd_ne nbc, upd_same, Mt.deal, hls]
    · intro i σ H' hi zz1
      refine byC fun hG => ?_
      obtain ⟨⟨qs, c, be, at_, he, rfl, hrw', hql, hrows, hqn⟩, hbo, sm⟩ := zz1
      have hbl : (Mt.deal (L.map (·.2)) i).length = L.length := by rw [Mt.deal_length, hls]
      have hu' := hu.same sm
      have hp' := sm.tupS hp1
      refine hG ?_
      refine ⟨_, rfl, p, us, rfl, .inr hp', _, rfl, by omega, by omega, ?_⟩
      rw [enl]
      refine for_range (n := L.length) (fun j σ H2 => H2 = H' ∧ ∃ at_ he, σ = [some (.ref p), some (.int n), some (.ref b), some (.ref rw), some (.int (0 + (i : Nat))), some (.int (Mt.pickTo (L.map (·.2)) (Mt.deal (L.map (·.2)) i) j : Nat)), at_, he]) ⟨rfl, _, _, rfl⟩ ?_ ?_
      · intro j σ H2 hj zz2
        refine byC fun hG => ?_
        obtain ⟨rfl, at_, he, rfl⟩ := zz2
        have hbest : Mt.pickTo (L.map (·.2)) (Mt.deal (L.map (·.2)) i) j < L.length := by
          rcases Nat.eq_zero_or_pos j with e | e
          · subst e; exact h1
          · exact Nat.lt_trans (Mt.pickTo_lt _ _ _ e) hj
        have epl : (0 : Int) + (j : Nat) = ((j : Nat) : Int) := by omega
        refine hG ?_
        rw [epl]
        have estp := Mt.pickTo_succ (L.map (·.2)) (Mt.deal (L.map (·.2)) i) j
        generalize Mt.pickTo (L.map (·.2)) (Mt.deal (L.map (·.2)) i) j = best at hbest estp ⊢
        refine byC fun hG => ?_
        obtain ⟨q1, a1, i1, t1, _⟩ := hu'.ix hbest
        obtain ⟨q2, a2, i2, t2, _⟩ := hu'.ix (i := j) hj
        refine hG ?_
        refine ⟨_, rfl, _, rfl, b, _, _, _, rfl, rfl, SqL.of hbo, ix_of (by omega), _, _, rfl, rfl, _, rfl, _, rfl, p, _, _, _, rfl, rfl, hp', i1, q1, _, 1, _, rfl, rfl, t1, rfl, _, _, rfl, rfl, .inr (sml.get _), ?_⟩
        refine ⟨_, rfl, _, rfl, _, rfl, b, _, _, _, rfl, rfl, SqL.of hbo, ix_of (by omega), _, _, rfl, rfl, _, rfl, _, rfl, p, _, _, _, rfl, rfl, hp', i2, q2, _, 1, _, rfl, rfl, t2, rfl, _, _, rfl, rfl, .inr (sml.get _), ?_⟩
        refine ⟨_, _, rfl, rfl, _, rfl, iteD (fun hc => ?_) (fun hc => ?_)⟩
        · have e2 : Mt.pickTo (L.map (·.2)) (Mt.deal (L.map (·.2)) i) (j + 1) = j := by rw [estp]; unfold Mt.stp; rw [if_pos hc]
          rw [e2]
          exact ⟨_, rfl, rfl, _, _, rfl⟩
        · have e2 : Mt.pickTo (L.map (·.2)) (Mt.deal (L.map (·.2)) i) (j + 1) = best := by rw [estp]; unfold Mt.stp; rw [if_neg hc]
          rw [e2]
          exact ⟨rfl, _, _, rfl⟩
      · intro σ H2 zz3
        refine byC fun hG => ?_
        obtain ⟨rfl, at_, he, rfl⟩ := zz3
        have epk : Mt.pickTo (L.map (·.2)) (Mt.deal (L.map (·.2)) i) L.length = Mt.pick (L.map (·.2)) (Mt.deal (L.map (·.2)) i) := by unfold Mt.pick; rw [hls]
        refine hG ?_
        rw [epk]
        have hpk : Mt.pick (L.map (·.2)) (Mt.deal (L.map (·.2)) i) < (Mt.deal (L.map (·.2)) i).length := by
          rw [Mt.deal_length]; exact Mt.pick_lt (by rw [hls]; omega)
        refine ⟨_, rfl, _, rfl, b, _, _, _, rfl, rfl, SqL.of hbo, ix_of hpk, _, _, rfl, rfl, _, rfl, _, rfl, b, _, _, Mt.pick (L.map (·.2)) (Mt.deal (L.map (·.2)) i), rfl, rfl, hbo, ixN_nat (by rw [List.length_map]; exact hpk), ?_⟩
        have eset : ((Mt.deal (L.map (·.2)) i).map V.int).set (Mt.pick (L.map (·.2)) (Mt.deal (L.map (·.2)) i)) (V.int ((Mt.deal (L.map (·.2)) i).getD (Mt.pick (L.map (·.2)) (Mt.deal (L.map (·.2)) i)) 0 + 1)) = (Mt.deal (L.map (·.2)) (i + 1)).map V.int := by
          rw [Mt.deal, Mt.give, List.map_set]
        rw [eset]
        generalize eH : upd H2 b (.lst ((Mt.deal (L.map (·.2)) (i + 1)).map V.int)) = H3
        have hb3 : H3 b = some (.lst ((Mt.deal (L.map (·.2)) (i + 1)).map V.int)) := by rw [← eH]; exact upd_same
        have hr3 : H3 rw = some (.lst (qs.map V.ref)) := by rw [← eH, upd_ne nbr.symm]; exact hrw'
        refine ⟨_, rfl, .inl ⟨rfl, _, SqL.of hr3⟩, _, rfl, b, _, rfl, .inl (SqL.of hb3), fun c1 hc1 => ?_⟩
        have nb1 : b ≠ c1 := ne_of_none hb3 hc1
        have nr1 : rw ≠ c1 := ne_of_none hr3 hc1
        refine ⟨rw, _, _, rfl, rfl, by rw [upd_ne nr1]; exact hr3, small_line (by rw [List.length_map]; omega), ?_⟩
        refine ⟨⟨qs ++ [c1], _, _, _, _, rfl, by rw [upd_same, List.map_append]; rfl, by rw [List.length_append, hql]; rfl, fun k hk => ?_, fun q hq => ?_⟩, by rw [upd_ne nbr, upd_ne nb1]; exact hb3, fun x o e => ?_⟩
        · by_cases ek : k ≤ i
          · obtain ⟨q, hq, hq2⟩ := hrows k ek
            have nq := hqn q (List.mem_of_getElem? hq)
            refine ⟨q, by rw [List.getElem?_append_left (get_lt hq)]; exact hq, ?_⟩
            have hq3 : H3 q = some (.lst ((Mt.deal (L.map (·.2)) k).map V.int)) := by rw [← eH, upd_ne nq.1]; exact hq2
            rw [upd_ne nq.2, upd_ne (ne_of_none hq3 hc1)]
            exact hq3
          · have ek' : k = i + 1 := by omega
            subst ek'
            refine ⟨c1, by rw [List.getElem?_append_right (by omega), hql, Nat.sub_self]; rfl, ?_⟩
            rw [upd_ne nr1.symm, upd_same]
        · rcases List.mem_append.mp hq with hq | hq
          · exact hqn q hq
          · rw [List.mem_singleton.mp hq]; exact ⟨nb1.symm, nr1.symm⟩
        · have e1 : x ≠ b := ne_of_none e hb0
          have e2 : x ≠ rw := ne_of_none e hrw0
          have e3 : H3 x = some o := by rw [← eH, upd_ne e1]; exact sm x o e
          rw [upd_ne e2, upd_ne (ne_of_none e3 hc1)]
          exact e3
    · intro σ H' zz4
      refine byC fun hG => ?_
      obtain ⟨⟨qs, c, be, at_, he, rfl, hrw', hql, hrows, hqn⟩, hbo, sm⟩ := zz4
      refine hG ?_
      exact ⟨_, rfl, kk rw qs H' hrw0 sm hrw' hql hrows⟩
def sp__law_take (K : PySem.W.Frag) : Sp := fun vs H Q _ => ∃ (k : Str) (b m r : Int), vs = [.str k, .int b, .int m, .int r] ∧ measB k b m = true ∧ 0 ≤ r ∧ r ≤ 99999 ∧ Q (.int (takeZ k b m r)) H
theorem sc__law_take : FnScope ["_law_kind", "_law_by", "_law_most", "_law_reach"] ["_law_kind", "_law_by", "_law_most", "_law_reach"] (defScope s__law_take) := ⟨rfl, rfl, rfl, by decide +kernel, rfl, by decide +kernel, by decide +kernel⟩
set_option maxHeartbeats 4000000 in
theorem ok__law_take (T : Txt w K mg A) : FnOk P w K mg base CX0 1 A.a__law_take A.f__law_take ["_law_kind", "_law_by", "_law_most", "_law_reach"] (sp__law_take K) := by
  have nd := sc__law_take.nd
  refine T.F__law_take.ok sc__law_take (fun vs H Q E h => ?_) (fun cdv Ar outer s H vs Q E hr h => ?_)
  · obtain ⟨k, b, m, r, rfl, _⟩ := h; rfl
  · skip
    obtain ⟨k, b, m, r, rfl, hm, h0, h9, kk⟩ := h
    obtain ⟨hk, m0, m24⟩ := measB_cases hm
    refine PSs.rd (pss_cons (ps_if (pt_cmpR op_eq (pvI 0) pe_str (nomark _))
      (pss_one (ps_ret (pe_callB (call_min2 rfl) rfl T.b_min boot_min (pa_cons (pvI 2) (pa_cons (pe_op op_fdivI (pe_op op_mulI (pvI 3) (pvI 1)) pe_int) pa_nil)))))
      pss_nil)
    (pss_cons (ps_if (pt_cmpR op_leI (pvI 3) (pvI 1) (nomark _))
      (pss_one (ps_ret pe_int))
      pss_nil)
    (pss_one (ps_ret (pe_callB (call_min2 rfl) rfl T.b_min boot_min (pa_cons (pvI 2) (pa_cons (pe_op op_subI (pvI 3) (pvI 1)) pa_nil))))))) ?_
    try dsimp only [L2.cxOf, L2.Cx.nox]
    refine ⟨_, rfl, rfl, _, rfl, ?_⟩
    rw [dec_strV]
    refine iteD (fun e => ?_) (fun e => ?_)
    · refine ⟨_, rfl, _, rfl, _, rfl, _, _, rfl, rfl, .inl ⟨by omega, by omega⟩, _, _, rfl, rfl, cdiv, m, _, rfl, ?_⟩
      unfold takeZ wishZ at kk
      rw [if_pos e] at kk
      exact kk
    · have hb : 0 ≤ b := by rcases hk with ⟨z, _, _⟩ | ⟨_, z, _⟩ <;> first | exact absurd z e | exact z
      refine ⟨_, rfl, _, rfl, _, _, rfl, rfl, _, rfl, iteD (fun e2 => ?_) (fun e2 => ?_)⟩
      · have hw : wishZ k b r = 0 := by unfold wishZ; rw [if_neg e, if_neg (by omega)]
        have : takeZ k b m r = 0 := by unfold takeZ; rw [hw]; split <;> omega
        rw [this] at kk
        exact kk
      · refine ⟨_, rfl, _, rfl, _, rfl, _, _, rfl, rfl, m, _, rfl, ?_⟩
        have hw : wishZ k b r = r - b := by unfold wishZ; rw [if_neg e, if_pos (by omega)]
        have : takeZ k b m r = if r - b < m then r - b else m := by unfold takeZ; rw [hw]
        rw [this] at kk
        exact kk
def sp__law_terms (K : PySem.W.Frag) : Sp := fun vs H Q _ => ∃ (h : Nat) (d : Addr) (ds : List Int), vs = [.int h, .ref d] ∧ 2 ≤ h ∧ h ≤ 6 ∧ SqL K H d (ds.map V.int) ∧ ds.length = 12 ∧ InD ds ∧
  ∀ (p : Addr) (t : Tm) (H' : Hp), Same H H' → TmAt K H' p t → termsB h t = true → Q (.ref p) H'
theorem sc__law_terms : FnScope ["_law_houses", "_law_draws_here", "_law_house", "_law_kind", "_law_by", "_law_most", "_law_lines_here", "_law_whole_here", "_law_first", "_law_last"] ["_law_houses", "_law_draws_here"] (defScope s__law_terms) := ⟨rfl, rfl, rfl, by decide +kernel, rfl, by decide +kernel, by decide +kernel⟩
set_option maxHeartbeats 4000000 in
theorem ok__law_terms (T : Txt w K mg A) : FnOk P w K mg base CX0 3 A.a__law_terms A.f__law_terms ["_law_houses", "_law_draws_here"] (sp__law_terms K) := by
  have nd := sc__law_terms.nd
  have G__law_cover := ok__law_cover (P := P) (w := w) (base := base) T
  refine T.F__law_terms.ok sc__law_terms (fun vs H Q E h => ?_) (fun cdv Ar outer s H vs Q E hr h => ?_)
  · obtain ⟨h, d, ds, rfl, _⟩ := h; rfl
  · skip
    obtain ⟨h, d, ds, rfl, h2, h6, hd, hd12, hD, kk⟩ := h
    obtain ⟨d9, D9, i9⟩ := draw_at hD (i := 9) (by omega)
    obtain ⟨d10, D10, i10⟩ := draw_at hD (i := 10) (by omega)
    obtain ⟨d11, D11, i11⟩ := draw_at hD (i := 11) (by omega)
    refine PSs.rd (pss_cons (ps_asg (pe_call (G__law_cover.mono (by decide)) hr rfl T.m__law_cover T.k__law_cover T.d__law_cover .nil pass0 (pa_cons (pvI 0) (pa_cons (pe_slice sl_list (pvI 1) (po_some pe_int) (po_some pe_int)) pa_nil))) (pg_tup (n := 5) rfl (pgs_cons (pg_name (i := 2) nd rfl (Or.inl rfl)) (pgs_cons (pg_name (i := 3) nd rfl (Or.inl rfl)) (pgs_cons (pg_name (i := 4) nd rfl (Or.inl rfl)) (pgs_cons (pg_name (i := 5) nd rfl (Or.inl rfl)) (pgs_cons (pg_name (i := 6) nd rfl (Or.inl rfl)) pgs_nil)))))))
    (pss_cons (ps_set (i := 5) nd rfl (Or.inl rfl) (pe_op op_addI pe_int (pe_op op_modI (pvI 5) pe_int)))
    (pss_cons (ps_if (pt_cmpR op_eq (pe_op op_modI (pe_ix (ix_listI K rfl) (pvI 1) pe_int (fun _ _ => rfl)) pe_int) pe_int (nomark _))
      (pss_one (ps_ret (pe_tup (pa_cons pe_str (pa_cons (pvI 2) (pa_cons (pvI 4) (pa_cons (pvI 5) (pa_cons (pvI 6) pa_nil))))))))
      pss_nil)
    (pss_cons (ps_set (i := 7) nd rfl (Or.inl rfl) (pe_op op_addI pe_int (pe_op op_modI (pe_ix (ix_listI K rfl) (pvI 1) pe_int (fun _ _ => rfl)) pe_int)))
    (pss_cons (ps_cut (ps_if (pt_cmpR op_eq (pe_op op_fdivI (pe_ix (ix_listI K rfl) (pvI 1) pe_int (fun _ _ => rfl)) pe_int) pe_int (nomark _))
      (pss_one (ps_set (i := 7) nd rfl (Or.inl rfl) (pe_op op_addI pe_int (pe_op op_modI (pe_ix (ix_listI K rfl) (pvI 1) pe_int (fun _ _ => rfl)) pe_int))))
      pss_nil))
    (pss_cons (ps_set (i := 8) nd rfl (Or.inl rfl) pe_int)
    (pss_cons (ps_set (i := 9) nd rfl (Or.inl rfl) pe_int)
    (pss_cons (ps_cut (ps_if (pt_cmpR op_eq (pe_op op_modI (pe_ix (ix_listI K rfl) (pvI 1) pe_int (fun _ _ => rfl)) pe_int) pe_int (nomark _))
      (pss_cons (ps_set (i := 8) nd rfl (Or.inl rfl) (pe_op op_modI (pe_op op_fdivI (pe_ix (ix_listI K rfl) (pvI 1) pe_int (fun _ _ => rfl)) pe_int) pe_int))
       (pss_one (ps_set (i := 9) nd rfl (Or.inl rfl) (pe_op op_addI (pvI 8) (pe_op op_modI (pe_op op_fdivI (pe_ix (ix_listI K rfl) (pvI 1) pe_int (fun _ _ => rfl)) pe_int) (pe_op op_subI pe_int (pvI 8)))))))
      pss_nil))
    (pss_cons (ps_cut (ps_if (pt_cmpR op_eq (pe_op op_modI (pe_ix (ix_listI K rfl) (pvI 1) pe_int (fun _ _ => rfl)) pe_int) pe_int (nomark _))
      (pss_cons (ps_set (i := 8) nd rfl (Or.inl rfl) (pe_op op_mulI (pe_op op_modI (pe_op op_fdivI (pe_ix (ix_listI K rfl) (pvI 1) pe_int (fun _ _ => rfl)) pe_int) pe_int) pe_int))
       (pss_one (ps_set (i := 9) nd rfl (Or.inl rfl) (pe_callB (call_min2 rfl) rfl T.b_min boot_min (pa_cons pe_int (pa_cons (pe_op op_addI (pvI 8) (pe_op op_mulI (pe_op op_modI (pe_op op_fdivI (pe_ix (ix_listI K rfl) (pvI 1) pe_int (fun _ _ => rfl)) pe_int) pe_int) pe_int)) pa_nil))))))
      pss_nil))
    (pss_one (ps_ret (pe_tup (pa_cons (pvI 3) (pa_cons (pvI 2) (pa_cons (pvI 4) (pa_cons (pvI 5) (pa_cons (pvI 7) (pa_cons (pvI 8) (pa_cons (pvI 9) (pa_cons (pvI 6) pa_nil)))))))))))))))))))) ?_
    try dsimp only [L2.cxOf, L2.Cx.nox]
    rw [show ∀ v0 v1 : V, L2.start ["_law_houses", "_law_draws_here", "_law_house", "_law_kind", "_law_by", "_law_most", "_law_lines_here", "_law_whole_here", "_law_first", "_law_last"] [v0, v1] = [some v0, some v1, none, none, none, none, none, none, none, none] from fun _ _ => rfl]
    refine ⟨_, rfl, _, rfl, 0, rfl, 9, rfl, d, _, rfl, hd, fun sl hsl => ?_⟩
    have ec : cutV (ds.map V.int) (some 0) (some 9) = ((ds.drop 0).take (9 - 0)).map V.int := cut_ints ds 0 9 (by omega) (by omega)
    rw [ec]
    have ssl := same_upd (o := .lst (((ds.drop 0).take (9 - 0)).map V.int)) hsl
    refine ⟨h, sl, _, rfl, h2, h6, SqL.of upd_same, by rw [cut_len _ _ _ (by omega)], cut_in hD _ _, fun p lp ho k b m L H1 s1' hrow hL gL hho hot hLl hms => ?_⟩
    have s1 := ssl.trans s1'
    have hd1 := s1.seq hd
    have gl4 := gL.l4
    have mc := measB_cases hms
    refine ⟨p, _, rfl, hrow, rfl, _, _, rfl, _, _, rfl, _, _, rfl, _, _, rfl, _, _, rfl, rfl, ?_⟩
    try dsimp only [List.set_cons_zero, List.set_cons_succ]
    refine ⟨_, rfl, _, _, rfl, rfl, pj, _, _, rfl, rfl, ?_⟩
    have m1 : 1 ≤ 1 + m % 24 ∧ 1 + m % 24 ≤ 24 := by omega
    try dsimp only [List.set_cons_zero, List.set_cons_succ]
    generalize 1 + m % 24 = m' at m1
    have cov : ∀ k' : Str, measB k' b m' = true → isCoverB h (some ((ho : Int), k', b, m', L)) = true := fun k' hm' => (goodC_iff (by omega)).mpr ⟨⟨Int.natCast_nonneg _, by show (ho : Int) < h; omega⟩, hm', gL, hot⟩
    have mk : measB k b m' = true := by
      unfold measB
      rcases mc.1 with ⟨rfl, q⟩ | ⟨rfl, q⟩
      · rw [if_pos rfl, decide_eq_true q, decide_eq_true (show 0 ≤ m' ∧ m' ≤ 24 by omega)]; rfl
      · rw [if_neg (by decide +kernel), if_pos rfl, decide_eq_true q, decide_eq_true (show 0 ≤ m' ∧ m' ≤ 24 by omega)]; rfl
    have ml : measB "layer" b m' = true := by
      unfold measB
      rw [if_neg (by decide +kernel), if_pos rfl, decide_eq_true (show 0 ≤ b ∧ b ≤ 200 by rcases mc.1 with ⟨_, q⟩ | ⟨_, q⟩ <;> omega), decide_eq_true (show 0 ≤ m' ∧ m' ≤ 24 by omega)]; rfl
    have hk : k = "share" ∨ k = "layer" := mc.1.imp (fun z => z.1) fun z => z.1
    refine ⟨_, rfl, d, _, 9, _, rfl, rfl, hd1, i9, _, _, rfl, rfl, pj, rfl, _, rfl, iteD (fun _ => ?_) (fun _ => ?_)⟩
    · refine ⟨_, rfl, _, rfl, _, rfl, _, rfl, by show 5 ≤ sizeLine; decide, fun q hq => ?_⟩
      have sq := same_upd (o := .tup [.str "stop", .int (ho : Nat), .int b, .int m', .ref lp]) hq
      exact kk q (.stop (ho : Nat) b m' L) _ (s1.trans sq) ⟨lp, SqT.of upd_same, hL.same sq, by omega⟩ (by rw [termsB_stop, cov _ ml, decide_eq_true m1.1]; rfl)
    refine ⟨_, rfl, d, _, 10, _, rfl, rfl, hd1, i10, _, _, rfl, rfl, pj, _, _, rfl, rfl, ?_⟩
    try dsimp only [List.set_cons_zero, List.set_cons_succ]
    refine ⟨fun σ H' => ∃ w : Int, σ = [some (.int h), some (.ref d), some (.int (ho : Nat)), some (.str k), some (.int b), some (.int m'), some (.ref lp), some (.int w), none, none] ∧ H1 = H' ∧ 1 ≤ w ∧ w ≤ 120, ?_, ?_⟩
    · refine ⟨_, rfl, d, _, 10, _, rfl, rfl, hd1, i10, _, _, rfl, rfl, cdiv, rfl, _, rfl, iteD (fun _ => ?_) (fun _ => ⟨_, rfl, rfl, by omega, by omega⟩)⟩
      refine ⟨_, rfl, d, _, 10, _, rfl, rfl, hd1, i10, _, _, rfl, rfl, pj, _, _, rfl, rfl, ?_⟩
      exact ⟨_, rfl, rfl, by omega, by omega⟩
    intro σ H1' zz1
    refine byC fun hG => ?_
    obtain ⟨w, rfl, rfl, hw1, hw2⟩ := zz1
    refine hG ?_
    try dsimp only [List.set_cons_zero, List.set_cons_succ]
    refine ⟨fun σ H' => ∃ f l : Int, σ = [some (.int h), some (.ref d), some (.int (ho : Nat)), some (.str k), some (.int b), some (.int m'), some (.ref lp), some (.int w), some (.int f), some (.int l)] ∧ H1 = H' ∧ 0 ≤ f ∧ f ≤ l ∧ l ≤ 99, ?_, ?_⟩
    · refine ⟨_, rfl, d, _, 11, _, rfl, rfl, hd1, i11, _, _, rfl, rfl, pj, rfl, _, rfl, iteD (fun _ => ?_) (fun _ => ⟨0, 99, rfl, rfl, by decide, by decide, by decide⟩)⟩
      refine ⟨_, rfl, d, _, 11, _, rfl, rfl, hd1, i11, _, _, rfl, rfl, cdiv, _, _, rfl, rfl, pj, ?_⟩
      have hf : 0 ≤ (d11 : Int) / 3 % 100 ∧ (d11 : Int) / 3 % 100 ≤ 99 := by omega
      try dsimp only [List.set_cons_zero, List.set_cons_succ]
      generalize (d11 : Int) / 3 % 100 = f at hf
      refine ⟨_, rfl, _, rfl, d, _, 9, _, rfl, rfl, hd1, i9, _, _, rfl, rfl, cdiv, _, rfl, _, _, rfl, rfl, _, _, rfl, rfl, (by omega), _, _, rfl, rfl, ?_⟩
      have q1 := Int.emod_nonneg ((d9 : Int) / 5) (b := 100 - f) (by omega)
      have q2 := Int.emod_lt_of_pos ((d9 : Int) / 5) (b := 100 - f) (by omega)
      generalize (d9 : Int) / 5 % (100 - f) = e at q1 q2
      exact ⟨f, f + e, rfl, rfl, by omega, by omega, by omega⟩
    intro σ H2 zz2
    refine byC fun hG => ?_
    obtain ⟨f, l, rfl, rfl, hf0, hfl, hl9⟩ := zz2
    refine hG ?_
    try dsimp only [List.set_cons_zero, List.set_cons_succ]
    refine ⟨fun σ H' => ∃ f l : Int, σ = [some (.int h), some (.ref d), some (.int (ho : Nat)), some (.str k), some (.int b), some (.int m'), some (.ref lp), some (.int w), some (.int f), some (.int l)] ∧ H1 = H' ∧ 0 ≤ f ∧ f ≤ l ∧ l ≤ 99, ?_, ?_⟩
    · refine ⟨_, rfl, d, _, 11, _, rfl, rfl, hd1, i11, _, _, rfl, rfl, pj, rfl, _, rfl, iteD (fun _ => ?_) (fun _ => ⟨f, l, rfl, rfl, hf0, hfl, hl9⟩)⟩
      refine ⟨_, rfl, d, _, 11, _, rfl, rfl, hd1, i11, _, _, rfl, rfl, cdiv, _, _, rfl, rfl, pj, _, _, rfl, rfl, cmulR, ?_⟩
      have hf : 0 ≤ (d11 : Int) / 3 % 4 * 30 ∧ (d11 : Int) / 3 % 4 * 30 ≤ 90 := by omega
      try dsimp only [List.set_cons_zero, List.set_cons_succ]
      generalize (d11 : Int) / 3 % 4 * 30 = f2 at hf
      refine ⟨_, rfl, _, rfl, d, _, 9, _, rfl, rfl, hd1, i9, _, _, rfl, rfl, cdiv, _, _, rfl, rfl, pj, _, _, rfl, rfl, cmulR, _, _, rfl, rfl, _, _, rfl, ?_⟩
      have q1 : 0 ≤ (d9 : Int) / 5 % 4 * 30 := by omega
      try dsimp only [List.set_cons_zero, List.set_cons_succ]
      generalize (d9 : Int) / 5 % 4 * 30 = e at q1
      refine ⟨f2, _, rfl, rfl, by omega, ?_, ?_⟩ <;> split <;> omega
    intro σ H3 zz3
    refine byC fun hG => ?_
    obtain ⟨f, l, rfl, rfl, hf0, hfl, hl9⟩ := zz3
    refine hG ?_
    refine ⟨_, rfl, _, rfl, _, rfl, _, rfl, _, rfl, _, rfl, _, rfl, _, rfl, by show 8 ≤ sizeLine; decide, fun q hq => ?_⟩
    have sq := same_upd (o := .tup [.str k, .int (ho : Nat), .int b, .int m', .int w, .int f, .int l, .ref lp]) hq
    refine kk q (.full k (ho : Nat) b m' w f l L) _ (s1.trans sq) ⟨hk, lp, SqT.of upd_same, hL.same sq, by omega⟩ ?_
    rw [termsB_full, cov _ mk, decide_eq_true m1.1]
    unfold bndB
    rw [decide_eq_true ⟨hw1, hw2⟩, decide_eq_true (show 0 ≤ f ∧ f ≤ 99 by omega), decide_eq_true (show 0 ≤ l ∧ l ≤ 99 by omega), decide_eq_true hfl]
    rfl
def sp_law (K : PySem.W.Frag) : Sp := fun vs H Q _ => ∃ (a : Addr) (ns : List Int), vs = [.ref a] ∧ SqL K H a (ns.map V.int) ∧ ns.length ≤ 63 ∧ ∀ H', Q (.bl true) H'
theorem sc_law : FnScope ["_law_script", "_law_draws_here", "_law_houses", "_law_cover_here", "_law_lines_here", "_law_other", "_law_crowns", "_law_reach", "_law_by", "_law_terms_here", "_law_odd", "_law_turn", "_law_row", "_law_due", "_law_grown", "_law_kind", "_law_number"] ["_law_script"] (defScope s_law) := ⟨rfl, rfl, rfl, by decide +kernel, rfl, by decide +kernel, by decide +kernel⟩
set_option maxHeartbeats 0 in
theorem ok_law (T : Txt w K mg A) : FnOk P w K mg base CX0 4 A.a_law A.f_law ["_law_script"] (sp_law K) := by
  have nd := sc_law.nd
  have G__law_cover := ok__law_cover (P := P) (w := w) (base := base) T
  have G__law_draws := ok__law_draws (P := P) (w := w) (base := base) T
  have G__law_list := ok__law_list (P := P) (w := w) (base := base) T
  have G__law_split := ok__law_split (P := P) (w := w) (base := base) T
  have G__law_take := ok__law_take (P := P) (w := w) (base := base) T
  have G__law_terms := ok__law_terms (P := P) (w := w) (base := base) T
  have G_bearer := ok_bearer (P := P) (w := w) (base := base) T
  have G_is_cover := ok_is_cover (P := P) (w := w) (base := base) T
  have G_is_terms := ok_is_terms (P := P) (w := w) (base := base) T
  have G_parts := ok_parts (P := P) (w := w) (base := base) T
  have G_take := ok_take (P := P) (w := w) (base := base) T
  refine T.F_law.ok sc_law (fun vs H Q E h => ?_) (fun cdv Ar outer s H vs Q E hr h => ?_)
  · obtain ⟨a, ns, rfl, _⟩ := h; rfl
  · skip
    obtain ⟨a, ns, rfl, hS, hl, kk⟩ := h
    refine PSs.rd (pss_cons (ps_set (i := 1) nd rfl (Or.inr rfl) (pe_call (G__law_draws.mono (by decide)) hr rfl T.m__law_draws T.k__law_draws T.d__law_draws .nil pass0 (pa_cons (pvI 0) (pa_cons pe_int pa_nil))))
    (pss_cons (ps_set (i := 2) nd rfl (Or.inl rfl) (pe_op op_addI pe_int (pe_op op_modI (pe_ix (ix_listI K rfl) (pvI 1) pe_int (fun _ _ => rfl)) pe_int)))
    (pss_cons (ps_set (i := 3) nd rfl (Or.inl rfl) (pe_call (G__law_cover.mono (by decide)) hr rfl T.m__law_cover T.k__law_cover T.d__law_cover .nil pass0 (pa_cons (pvI 2) (pa_cons (pe_slice sl_list (pvI 1) (po_some pe_int) (po_some pe_int)) pa_nil))))
    (pss_cons (ps_set (i := 4) nd rfl (Or.inl rfl) (pe_ix (ix_tupI K rfl) (pvI 3) pe_int (fun _ _ => rfl)))
    (pss_cons (ps_set (i := 5) nd rfl (Or.inl rfl) (pe_callTy call_tuple_of rfl T.b_tuple boot_ty_tuple (pa_cons (lcA (defScope s_law) (pi_tup (pvI 4)) (fun _ _ _ _ _ => pgc 1) (fun _ _ _ _ _ => pts_nil) (fun _ _ _ _ _ => (pe_tup (pa_cons (pe_ix (ix_tupI K rfl) (pvI 1) pe_int (fun _ _ => rfl)) (pa_cons (pe_op op_addI pe_int (pe_op op_modI (pe_op op_addI (pe_ix (ix_tupI K rfl) (pvI 1) pe_int (fun _ _ => rfl)) (pe_ix (ix_listI K rfl) (pvI 2) pe_int (fun _ _ => rfl))) pe_int)) pa_nil))))) pa_nil)))
    (pss_cons (ps_cut (ps_if (pt_cmpR op_eq (pe_op op_modI (pe_ix (ix_listI K rfl) (pvI 1) pe_int (fun _ _ => rfl)) pe_int) pe_int (nomark _))
      (pss_one (ps_set (i := 5) nd rfl (Or.inl rfl) (pe_revT (pvI 4) (po_some (pe_un un_neg pe_int)) (fun _ _ => ⟨_, rfl⟩))))
      pss_nil))
    (pss_cons (ps_set (i := 6) nd rfl (Or.inr rfl) (pe_op op_addI pe_int (pe_op op_modI (pe_ix (ix_listI K rfl) (pvI 1) pe_int (fun _ _ => rfl)) pe_int)))
    (pss_cons (ps_set (i := 7) nd rfl (Or.inl rfl) (pe_ix (ix_listI K rfl) (pvI 1) pe_int (fun _ _ => rfl)))
    (pss_cons (ps_set (i := 8) nd rfl (Or.inl rfl) (pe_op op_addI pe_int (pe_op op_modI (pe_ix (ix_listI K rfl) (pvI 1) pe_int (fun _ _ => rfl)) pe_int)))
    (pss_cons (ps_set (i := 9) nd rfl (Or.inl rfl) (pe_call (G__law_terms.mono (by decide)) hr rfl T.m__law_terms T.k__law_terms T.d__law_terms .nil pass0 (pa_cons (pvI 2) (pa_cons (pe_slice sl_list (pvI 1) (po_some pe_int) (po_some pe_int)) pa_nil))))
    (pss_cons (ps_set (i := 10) nd rfl (Or.inl rfl) (pe_op op_catTA (pe_slice sl_tupA (pvI 9) po_none (po_some (pe_un un_neg pe_int))) (pe_tup (pa_cons (pe_tup (pa_cons (pe_tup (pa_cons (pe_ix (ix_tupI K rfl) (pvI 9) pe_int (fun _ _ => rfl)) (pa_cons pe_int pa_nil))) pa_nil)) pa_nil))))
    (pss_cons (ps_for PassesOwn.never rfl (pi_range1 rfl T.b_range (pa_cons pe_int pa_nil)) (pg_name (i := 11) nd rfl (Or.inl rfl))
      (pss_cons (ps_for PassesOwn.never rfl (pi_list (pe_lst (pa_cons (pvI 4) (pa_cons (pvI 5) pa_nil)))) (pg_name (i := 12) nd rfl (Or.inl rfl))
         (pss_cons (ps_set (i := 13) nd rfl (Or.inr rfl) (pe_call (G__law_split.mono (by decide)) hr rfl T.m__law_split T.k__law_split T.d__law_split .nil pass0 (pa_cons (pvI 12) (pa_cons (pvI 6) pa_nil))))
          (pss_cons (ps_if (pt_not (pt_truth (pe_call (G__law_list.mono (by decide)) hr rfl T.m__law_list T.k__law_list T.d__law_list .nil pass0 (pa_cons (pe_call (G_parts.mono (by decide)) hr rfl T.m_parts T.k_parts T.d_parts .nil pass0 (pa_cons (pvI 12) (pa_cons (pvI 6) pa_nil))) (pa_cons (pe_ix (ix_listI K rfl) (pvI 13) (pvI 6) (fun _ _ => rfl)) pa_nil))) (fun _ => rfl)))
            (pss_one (ps_ret pe_bl))
            pss_nil)
          (pss_cons (lcS (defScope s_law) 14 nd (pi_range1 rfl T.b_range (pa_cons (pe_callB call_len_seq rfl T.b_len PySem.boot_len (pa_cons (pvI 12) pa_nil)) pa_nil)) (fun _ _ _ _ _ => pgc 1) (fun _ _ _ _ _ => (pts_one (pt_cmpR op_gtI (pe_ix (ix_listI K rfl) (pe_ix (ix_listI K rfl) (pvI 3) (pvI 2) (fun _ _ => rfl)) (pvI 1) (fun _ _ => rfl)) (pe_ix (ix_listI K rfl) (pe_ix (ix_listI K rfl) (pvI 3) (pe_op op_subI (pvI 2) pe_int) (fun _ _ => rfl)) (pvI 1) (fun _ _ => rfl)) (nomark _)))) (fun _ _ _ _ _ => (pvI 1)))
          (pss_one (ps_if (pt_cmpR op_ne (pe_call (G_bearer.mono (by decide)) hr rfl T.m_bearer T.k_bearer T.d_bearer .nil pass0 (pa_cons (pvI 12) (pa_cons (pvI 6) pa_nil))) (pe_ix (ix_tupI K rfl) (pe_ix (ix_tupI K rfl) (pvI 12) (pe_ix (ix_listI K rfl) (pvI 14) pe_int (fun _ _ => rfl)) (fun _ _ => rfl)) pe_int (fun _ _ => rfl)) (nomark _))
            (pss_one (ps_ret pe_bl))
            pss_nil))))))
       (pss_cons (ps_for PassesOwn.never rfl (pi_list (pe_lst (pa_cons (pe_tup (pa_cons (pe_ix (ix_tupI K rfl) (pvI 3) pe_int (fun _ _ => rfl)) (pa_cons (pe_ix (ix_tupI K rfl) (pvI 3) pe_int (fun _ _ => rfl)) pa_nil))) (pa_cons (pe_tup (pa_cons (pe_ix (ix_tupI K rfl) (pvI 3) pe_int (fun _ _ => rfl)) (pa_cons (pvI 8) pa_nil))) (pa_cons (pe_tup (pa_cons pe_str (pa_cons (pvI 8) pa_nil))) (pa_cons (pe_tup (pa_cons pe_str (pa_cons (pvI 8) pa_nil))) pa_nil)))))) (pg_tup (n := 2) rfl (pgs_cons (pg_name (i := 15) nd rfl (Or.inl rfl)) (pgs_cons (pg_name (i := 16) nd rfl (Or.inl rfl)) pgs_nil)))
         (pss_one (ps_if (pt_cmpR op_ne (pe_call (G_take.mono (by decide)) hr rfl T.m_take T.k_take T.d_take .nil pass0 (pa_cons (pvI 15) (pa_cons (pvI 16) (pa_cons (pe_ix (ix_tupI K rfl) (pvI 3) pe_int (fun _ _ => rfl)) (pa_cons (pvI 7) pa_nil))))) (pe_call (G__law_take.mono (by decide)) hr rfl T.m__law_take T.k__law_take T.d__law_take .nil pass0 (pa_cons (pvI 15) (pa_cons (pvI 16) (pa_cons (pe_ix (ix_tupI K rfl) (pvI 3) pe_int (fun _ _ => rfl)) (pa_cons (pvI 7) pa_nil))))) (nomark _))
            (pss_one (ps_ret pe_bl))
            pss_nil)))
       (pss_cons (ps_if (PW.pt (pw_or (pt_not (pt_truth (pe_call (G_is_cover.mono (by decide)) hr rfl T.m_is_cover T.k_is_cover T.d_is_cover .nil pass0 (pa_cons (pvI 2) (pa_cons (pvI 3) pa_nil))) (fun _ => rfl))) (pw_or1 (pt_truth (pe_call (G_is_cover.mono (by decide)) hr rfl T.m_is_cover T.k_is_cover T.d_is_cover .nil pass0 (pa_cons (pvI 2) (pa_cons (pe_op op_catTA (pe_slice sl_tupA (pvI 3) po_none (po_some pe_int)) (pe_tup (pa_cons (pe_tup (pa_cons (pe_tup (pa_cons (pe_ix (ix_tupI K rfl) (pvI 3) pe_int (fun _ _ => rfl)) (pa_cons pe_int pa_nil))) pa_nil)) pa_nil))) pa_nil))) (fun _ => rfl)))))
         (pss_one (ps_ret pe_bl))
         pss_nil)
       (pss_cons (ps_if (PW.pt (pw_or (pt_not (pt_truth (pe_call (G_is_cover.mono (by decide)) hr rfl T.m_is_cover T.k_is_cover T.d_is_cover .nil pass0 (pa_cons (pvI 2) (pa_cons (pe_op op_catTA (pe_slice sl_tupA (pvI 3) po_none (po_some pe_int)) (pe_tup (pa_cons (pvI 5) pa_nil))) pa_nil))) (fun _ => rfl))) (pw_or1 (pt_truth (pe_call (G_is_cover.mono (by decide)) hr rfl T.m_is_cover T.k_is_cover T.d_is_cover .nil pass0 (pa_cons (pvI 2) (pa_cons (pe_op op_catTA (pe_op op_catTA (pe_slice sl_tupA (pvI 3) po_none (po_some pe_int)) (pe_tup (pa_cons pe_int pa_nil))) (pe_slice sl_tupA (pvI 3) (po_some pe_int) po_none)) pa_nil))) (fun _ => rfl)))))
         (pss_one (ps_ret pe_bl))
         pss_nil)
       (pss_one (ps_if (PW.pt (pw_or (pt_not (pt_truth (pe_call (G_is_terms.mono (by decide)) hr rfl T.m_is_terms T.k_is_terms T.d_is_terms .nil pass0 (pa_cons (pvI 2) (pa_cons (pvI 9) pa_nil))) (fun _ => rfl))) (pw_or (pt_truth (pe_call (G_is_terms.mono (by decide)) hr rfl T.m_is_terms T.k_is_terms T.d_is_terms .nil pass0 (pa_cons (pvI 2) (pa_cons (pvI 10) pa_nil))) (fun _ => rfl)) (pw_or1 (pt_truth (pe_call (G_is_terms.mono (by decide)) hr rfl T.m_is_terms T.k_is_terms T.d_is_terms .nil pass0 (pa_cons (pvI 2) (pa_cons (pe_op op_catTA (pe_op op_catTA (pe_slice sl_tupA (pvI 9) po_none (po_some pe_int)) (pe_tup (pa_cons pe_int pa_nil))) (pe_slice sl_tupA (pvI 9) (po_some pe_int) po_none)) pa_nil))) (fun _ => rfl))))))
         (pss_one (ps_ret pe_bl))
         pss_nil)))))))
    (pss_one (ps_ret pe_bl)))))))))))))) ?_
    try dsimp only [L2.cxOf, L2.Cx.nox]
    rw [show ∀ v0 : V, L2.start ["_law_script", "_law_draws_here", "_law_houses", "_law_cover_here", "_law_lines_here", "_law_other", "_law_crowns", "_law_reach", "_law_by", "_law_terms_here", "_law_odd", "_law_turn", "_law_row", "_law_due", "_law_grown", "_law_kind", "_law_number"] [v0] = [some v0, none, none, none, none, none, none, none, none, none, none, none, none, none, none, none, none] from fun _ => rfl]
    refine ⟨_, rfl, a, ns, 60, rfl, hS, hl, by decide, fun dh ds H1 _ s1 hd1 hdl hD => ?_⟩
    refine byC fun hG => ?_
    obtain ⟨d0, D0, i0⟩ := draw_at hD (i := 0) (by omega)
    obtain ⟨d10, D10, i10⟩ := draw_at hD (i := 10) (by omega)
    obtain ⟨d11, D11, i11⟩ := draw_at hD (i := 11) (by omega)
    obtain ⟨d12, D12, i12⟩ := draw_at hD (i := 12) (by omega)
    obtain ⟨d13, D13, i13⟩ := draw_at hD (i := 13) (by omega)
    obtain ⟨d14, D14, i14⟩ := draw_at hD (i := 14) (by omega)
    refine hG ?_
    refine ⟨_, rfl, dh, _, 0, _, rfl, rfl, SqL.of hd1, i0, _, _, rfl, rfl, pj, _, _, rfl, rfl, ?_⟩
    try dsimp only [List.set_cons_zero, List.set_cons_succ]
    have e1 : (2 : Int) + (d0 : Int) % 5 = ((2 + d0 % 5 : Nat) : Int) := by omega
    rw [e1]
    have hn2 : 2 ≤ 2 + d0 % 5 := by omega
    have hn6 : 2 + d0 % 5 ≤ 6 := by omega
    generalize 2 + d0 % 5 = h at hn2 hn6
    have ec1 : cutV (ds.map V.int) (some 1) (some 10) = ((ds.drop 1).take (10 - 1)).map V.int := cut_ints ds 1 10 (by omega) (by omega)
    have ec2 : cutV (ds.map V.int) (some 15) (some 27) = ((ds.drop 15).take (27 - 15)).map V.int := cut_ints ds 15 27 (by omega) (by omega)
    refine ⟨_, rfl, _, rfl, 1, rfl, 10, rfl, dh, _, rfl, SqL.of hd1, fun sl hsl => ?_⟩
    rw [ec1]
    have ssl := same_upd (o := .lst (((ds.drop 1).take (10 - 1)).map V.int)) hsl
    refine ⟨h, sl, _, rfl, hn2, hn6, SqL.of upd_same, by rw [cut_len _ _ _ (by omega)], cut_in hD _ _, fun p lp ho k b m L H2 s2' hrow hL gL hho hot hLl hms => ?_⟩
    have hd2 := s2' _ _ (ssl _ _ hd1)
    clear s1 ssl s2' hsl
    refine byC fun hG => ?_
    obtain ⟨vs, hlp, hvs⟩ := hL.ex
    have hvl := hvs.len
    have g4 := gL.l4
    refine hG ?_
    refine ⟨_, rfl, p, _, 4, _, rfl, rfl, hrow, rfl, ?_⟩
    try dsimp only [List.set_cons_zero, List.set_cons_succ]
    -- other
    refine ⟨_, rfl, lp, rfl, ⟨_, hlp⟩, ?_⟩
    refine lc_growD (itG_of (itOf_tup hlp)) (fun σ => ∃ x0 x1, σ = [x0, x1, some (.ref dh)]) (fun D i ys H' => PairsT H' ys (bumpL d10 (L.take i))) ⟨_, _, rfl⟩ (Nat.le_of_lt (small_line (by omega))) ?_ ?_ ?_ ?_ ?_
    · exact fun D H' => by rw [List.take_zero]; exact PairsT.nil
    · exact fun D i ys H' H'' hp s => hp.same s
    · exact fun D i ys zs H' o hD' hp => hp.updL hD'
    · intro D i' xv ys σ2 H5 Qt Qf hi' hyl hx hD5 s5 zz1 hp q
      refine byC fun hG => ?_
      obtain ⟨x0, x1, rfl⟩ := zz1
      obtain ⟨l, hl, pq, rfl, hpq⟩ := (hvs.same s5).get hx
      refine hG ?_
      refine ⟨_, rfl, pq, _, 0, _, rfl, rfl, hpq, rfl, _, rfl, pq, _, 1, _, rfl, rfl, hpq, rfl, _, rfl, dh, _, 10, _, rfl, rfl, SqL.of (s5 _ _ hd2), i10, _, _, rfl, rfl, _, _, rfl, rfl, pj, _, _, rfl, rfl, by show 2 ≤ sizeLine; decide, fun t4 ht4 => ?_⟩
      have st4 := same_upd (o := .tup [.int l.1, .int (1 + (l.2 + (d10 : Int)) % 20)]) ht4
      refine q _ _ _ ⟨_, _, rfl⟩ st4 ?_
      have et : bumpL d10 (L.take (i' + 1)) = bumpL d10 (L.take i') ++ [(l.1, 1 + (l.2 + (d10 : Int)) % 20)] := by
        rw [take_snoc hl]; unfold bumpL; rw [List.map_append]; rfl
      rw [et]
      exact (hp.same st4).snoc upd_same
    rintro D H5 ys hD s5 hD5 hyl hp
    rw [hvl, List.take_length] at hp
    refine ⟨D, _, rfl, .inl ⟨SqL.of hD5, fun l2 hl2 => ?_⟩⟩
    have sl2' := same_upd (o := .tup ys) hl2
    have hl26 := upd_same (H := H5) (a := l2) (o := .tup ys)
    generalize upd H5 l2 (.tup ys) = H6 at *
    have s46 := s5.trans sl2'
    have hbu : LinesAt K H6 l2 (bumpL d10 L) := ⟨_, SqT.of hl26, (hp.same sl2').toAt⟩
    have hd6 := s46 _ _ hd2
    have hrow6 := s46.tupS hrow
    have hL6 := hL.same s46
    have hlp6 := s46.tupS hlp
    have hvs6 := hvs.same s46
    clear hp hD5 hL hrow hlp hvs hd2 hl26 hd1 sl2' s5 hyl
    try dsimp only [List.set_cons_zero, List.set_cons_succ]
    refine ⟨fun σ H' => ∃ (o : Addr) (M : List (Int × Int)), σ = [some (.ref a), some (.ref dh), some (.int h), some (.ref p), some (.ref lp), some (.ref o), none, none, none, none, none, none, none, none, none, none, none] ∧ Same H6 H' ∧ LinesAt K H' o M ∧ GoodL M ∧ (∀ l ∈ M, ∃ l' ∈ L, l.1 = l'.1), ?_, ?_⟩
    · refine ⟨_, rfl, dh, _, 11, _, rfl, rfl, SqL.of hd6, i11, _, _, rfl, rfl, pj, rfl, _, rfl, iteD (fun _ => ?_) (fun _ => ?_)⟩
      · refine ⟨_, rfl, _, rfl, _, rfl, rfl, lp, _, rfl, hlp6, fun lr hlr => ?_⟩
        have slr := same_upd (o := .tup vs.reverse) hlr
        exact ⟨lr, L.reverse, rfl, slr, ⟨_, SqT.of upd_same, (pairs_rev hvs6).same slr⟩, good_rev gL, fun l hl => ⟨l, List.mem_reverse.mp hl, rfl⟩⟩
      · exact ⟨l2, _, rfl, Same.refl _, hbu, good_bump gL, fun l hl => let ⟨l', h1, h2, _⟩ := bump_mem hl; ⟨l', h1, h2⟩⟩
    intro σ H7 zz2
    refine byC fun hG => ?_
    obtain ⟨o, M, rfl, s7, hM7, gM, hML⟩ := zz2
    have hd7 := s7 _ _ hd6
    have hrow7 := s7.tupS hrow6
    have hL7 := hL6.same s7
    refine hG ?_
    clear hbu hd6 hrow6 hL6 hlp6 hvs6 s7 s46 hl2 hD
    refine ⟨_, rfl, dh, _, 12, _, rfl, rfl, SqL.of hd7, i12, _, _, rfl, rfl, pj, _, _, rfl, rfl, ?_⟩
    try dsimp only [List.set_cons_zero, List.set_cons_succ]
    have e2 : (1 : Int) + (d12 : Int) % 24 = ((d12 % 24 + 1 : Nat) : Int) := by omega
    rw [e2]
    have hc24 : d12 % 24 + 1 ≤ 24 := by omega
    generalize d12 % 24 = c at hc24
    refine ⟨_, rfl, dh, _, 13, _, rfl, rfl, SqL.of hd7, i13, ?_⟩
    try dsimp only [List.set_cons_zero, List.set_cons_succ]
    refine ⟨_, rfl, dh, _, 14, _, rfl, rfl, SqL.of hd7, i14, _, _, rfl, rfl, pj, _, _, rfl, rfl, ?_⟩
    try dsimp only [List.set_cons_zero, List.set_cons_succ]
    have hby : 1 ≤ (1 : Int) + (d14 : Int) % 100 ∧ (1 : Int) + (d14 : Int) % 100 ≤ 100 := by omega
    generalize (1 : Int) + (d14 : Int) % 100 = by_ at hby
    refine ⟨_, rfl, _, rfl, 15, rfl, 27, rfl, dh, _, rfl, SqL.of hd7, fun sl hsl => ?_⟩
    rw [ec2]
    have ssl := same_upd (o := .lst (((ds.drop 15).take (27 - 15)).map V.int)) hsl
    refine ⟨h, sl, _, rfl, hn2, hn6, SqL.of upd_same, by rw [cut_len _ _ _ (by omega)], cut_in hD _ _, fun q t H8 s8' ht hB => ?_⟩
    have s8 := ssl.trans s8'
    have hrow8 := s8.tupS hrow7
    have hL8 := hL7.same s8
    have hM8 := hM7.same s8
    clear hd7 hrow7 hL7 hM7 s8 s8' ssl hsl
    try dsimp only [List.set_cons_zero, List.set_cons_succ]
    have hx : ∃ (tk : Str) (to tb tm : Int) (mid : List V) (tl : Addr), SqT K H8 q (.str tk :: .int to :: .int tb :: .int tm :: (mid ++ [.ref tl])) ∧ mid.length ≤ 3 ∧
        (∀ G q5 u, Same H8 G → SqT K G q5 (.str tk :: .int to :: .int tb :: .int tm :: (mid ++ [.ref u])) → LinesAt K G u [(to, 3)] → ∃ t'', TmAt K G q5 t'' ∧ termsB h t'' = false) ∧
        (∀ G q5, Same H8 G → SqT K G q5 (.str tk :: .int to :: .int tb :: .int 0 :: (mid ++ [.ref tl])) → ∃ t'', TmAt K G q5 t'' ∧ termsB h t'' = false) := by
      have own : ∀ (k : Str) (to tb tm : Int), isCoverB h (some (to, k, tb, tm, [(to, 3)])) = false := fun k to tb tm => by
        cases e : isCoverB h (some (to, k, tb, tm, [(to, 3)])) with
        | false => rfl
        | true => exact absurd rfl ((((isCoverB_iff (by omega)).mp e).2.2.2.2 _ List.mem_cons_self).1.2.2)
      cases t with
      | stop to tb tm TL =>
        refine byC fun hG => ?_
        obtain ⟨tl, hp, hL, hl'⟩ := ht
        refine hG ?_
        exact ⟨_, to, tb, tm, [], tl, hp, by decide, fun G q5 u s r5 hu => ⟨.stop to tb tm [(to, 3)], ⟨u, r5, hu, by show 1 ≤ 100; decide⟩, by rw [termsB_stop, own]; rfl⟩, fun G q5 s r5 => ⟨.stop to tb 0 TL, ⟨tl, r5, hL.same s, hl'⟩, by rw [termsB_stop, Bool.and_comm]; rfl⟩⟩
      | full tk to tb tm w f l TL =>
        refine byC fun hG => ?_
        obtain ⟨hk, tl, hp, hL, hl'⟩ := ht
        refine hG ?_
        exact ⟨_, to, tb, tm, [.int w, .int f, .int l], tl, hp, by show 3 ≤ 3; decide, fun G q5 u s r5 hu => ⟨.full tk to tb tm w f l [(to, 3)], ⟨hk, u, r5, hu, by show 1 ≤ 100; decide⟩, by rw [termsB_full, own]; rfl⟩, fun G q5 s r5 => ⟨.full tk to tb 0 w f l TL, ⟨hk, tl, r5, hL.same s, hl'⟩, by rw [termsB_full, Bool.and_comm (isCoverB _ _)]; rfl⟩⟩
      | other => cases hB
    refine byC fun hG => ?_
    obtain ⟨tk, to, tb, tm, mid, tl, hq8, hmid, ho1, ho2⟩ := hx
    refine hG ?_
    -- odd
    refine ⟨_, rfl, _, rfl, _, rfl, slTA_of hq8 fun q1 G1 t1 r1 => ?_⟩
    have c1 : cutV (.str tk :: .int to :: .int tb :: .int tm :: (mid ++ [.ref tl])) none (some (-1)) = .str tk :: .int to :: .int tb :: .int tm :: mid := cut_init (.str tk :: .int to :: .int tb :: .int tm :: mid) (.ref tl)
    rw [c1] at r1
    refine ⟨_, rfl, q, _, 1, _, rfl, rfl, t1.tupS hq8, atI_nat (j := 1) rfl, by show 2 ≤ sizeLine; decide, fun u1 hu1 => ?_⟩
    have su1 := same_upd (o := .tup [.int to, .int 3]) hu1
    have ru1 := SqT.of (K := K) (upd_same (H := G1) (a := u1) (o := .tup [.int to, .int 3]))
    generalize upd G1 u1 (.tup [.int to, .int 3]) = G2 at *
    refine ⟨by show 1 ≤ sizeLine; decide, fun u2 hu2 => ?_⟩
    have su2 := same_upd (o := .tup [.ref u1]) hu2
    have ru2 := SqT.of (K := K) (upd_same (H := G2) (a := u2) (o := .tup [.ref u1]))
    generalize upd G2 u2 (.tup [.ref u1]) = G3 at *
    refine ⟨by show 1 ≤ sizeLine; decide, fun u3 hu3 => ?_⟩
    have su3 := same_upd (o := .tup [.ref u2]) hu3
    have ru3 := SqT.of (K := K) (upd_same (H := G3) (a := u3) (o := .tup [.ref u2]))
    generalize upd G3 u3 (.tup [.ref u2]) = G4 at *
    have sG14 := su1.trans (su2.trans su3)
    refine catTA_of (sG14.tupS r1) ru3 (Nat.le_of_lt (small_line (by show mid.length + 1 + 1 + 1 + 1 + 1 ≤ 100000; omega))) fun q5 G5 t5 r5 => ?_
    have sG := t1.trans (sG14.trans t5)
    have hl5 : LinesAt K G5 u2 [(to, 3)] := one_line (t5.tupS (su3.tupS ru2)) (t5.tupS (su3.tupS (su2.tupS ru1)))
    refine byC fun hG => ?_
    obtain ⟨tt, htt, ett⟩ := ho1 G5 q5 u2 sG r5 hl5
    have hrow9 := sG.tupS hrow8
    have hL9 := hL8.same sG
    have hM9 := hM8.same sG
    have hq9 := sG.tupS hq8
    have ht9 := TmAt.same sG ht
    refine hG ?_
    replace ho2 : ∀ G q5, Same G5 G → SqT K G q5 (.str tk :: .int to :: .int tb :: .int 0 :: (mid ++ [.ref tl])) → ∃ t'', TmAt K G q5 t'' ∧ termsB h t'' = false := fun G q5 s r => ho2 G q5 (sG.trans s) r
    clear hrow8 hL8 hM8 hq8 ht ho1 sG sG14 su1 su2 su3 ru1 ru2 ru3 hu1 hu2 hu3 hl5 r5 r1 t5 t1 c1
    try dsimp only [List.set_cons_zero, List.set_cons_succ]
    generalize G5 = G at *
    -- is it a cover
    have iscov : ∀ M, GoodL M → (∀ l ∈ M, ∃ l' ∈ L, l.1 = l'.1) → isCoverB h (some (ho, k, b, m, M)) = true := fun M g hM => by
      refine (isCoverB_iff (by omega)).mpr ⟨⟨by omega, by omega⟩, hms, ⟨g.l1, g.l4⟩, g.nd, fun l hl => ?_⟩
      refine byC fun hG => ?_
      obtain ⟨l', hl', e⟩ := hM l hl
      have a1 := hot l' hl'
      have a2 := g.all l hl
      refine hG ?_
      rw [e] at a2 ⊢
      exact ⟨⟨a2.1, a1.1, a1.2⟩, a2.2.2⟩
    have notown : ∀ (mm : Int), isCoverB h (some (ho, k, b, mm, [((ho : Int), 3)])) = false := fun mm => by
      cases e : isCoverB h (some (ho, k, b, mm, [((ho : Int), 3)])) with
      | false => rfl
      | true => exact absurd rfl ((((isCoverB_iff (by omega)).mp e).2.2.2.2 _ List.mem_cons_self).1.2.2)
    have not25 : isCoverB h (some (ho, k, b, 25, L)) = false := by
      cases e : isCoverB h (some (ho, k, b, 25, L)) with
      | false => rfl
      | true =>
        have := ((isCoverB_iff (by omega)).mp e).2.1
        unfold measB at this
        rw [Bool.and_eq_true] at this
        exact absurd this.2 (by decide)
    have meas2 : ∀ k' b', (k' = k ∧ b' = b) ∨ (b' = by_ ∧ (k' = k ∨ k' = "share" ∨ k' = "layer")) → measB k' b' m = true := fun k' b' hk => by
      have hm : decide (0 ≤ m ∧ m ≤ 24) = true ∧ (k = "share" ∨ k = "layer") := by
        have := hms
        unfold measB at this
        rw [Bool.and_eq_true] at this
        refine ⟨this.2, ?_⟩
        by_cases e : k = "share"
        · exact .inl e
        · by_cases e2 : k = "layer"
          · exact .inr e2
          · rw [if_neg e, if_neg e2] at this
            exact absurd this.1 (by decide)
      rcases hk with ⟨rfl, rfl⟩ | ⟨rfl, hk⟩
      · exact hms
      have hk2 : k' = "share" ∨ k' = "layer" := by
        rcases hk with rfl | hk
        · exact hm.2
        · exact hk
      unfold measB
      rw [hm.1, Bool.and_true]
      rcases hk2 with rfl | rfl
      · rw [if_pos rfl]; exact decide_eq_true hby
      · rw [if_neg (fun z => share_ne z.symm), if_pos rfl]; exact decide_eq_true (by omega)
    refine ⟨2, rfl, by decide, by decide, ?_⟩
    refine for_rangeO (n := 2) (fun i σ H' => Same G H' ∧ ∃ x11 x12 x13 x14 x15 x16, σ = [some (.ref a), some (.ref dh), some (.int h), some (.ref p), some (.ref lp), some (.ref o), some (.int ((c + 1 : Nat) : Int)), some (.int (d13 : Nat)), some (.int by_), some (.ref q), some (.ref q5), x11, x12, x13, x14, x15, x16]) ⟨Same.refl _, _, _, _, _, _, _, rfl⟩ ?_ ?_
    · intro N R B i σ H' hi zz3 hN _
      refine byC fun hG => ?_
      obtain ⟨sm, x11, x12, x13, x14, x15, x16, rfl⟩ := zz3
      refine hG ?_
      refine ⟨_, rfl, _, rfl, by show 2 ≤ sizeLine; decide, fun li hli => ?_⟩
      have sli := same_upd (o := .lst [.ref lp, .ref o]) hli
      have hli1 := upd_same (H := H') (a := li) (o := .lst [.ref lp, .ref o])
      refine ⟨li, rfl, ⟨_, SqL.of hli1⟩, ?_⟩
      generalize upd H' li (.lst [.ref lp, .ref o]) = J at *
      have sJ := sm.trans sli
      refine for_listO (xs := [V.ref lp, V.ref o]) (fun j σ H2 => Same J H2 ∧ ∃ x12 x13 x14, σ = [some (.ref a), some (.ref dh), some (.int h), some (.ref p), some (.ref lp), some (.ref o), some (.int ((c + 1 : Nat) : Int)), some (.int (d13 : Nat)), some (.int by_), some (.ref q), some (.ref q5), some (.int (0 + (i : Nat) : Int)), x12, x13, x14, x15, x16]) ⟨Same.refl _, _, _, _, rfl⟩ (fun j σ H2 _ q => SqL.of (q.1 _ _ hli1)) ?_ ?_
      · intro N2 R2 B2 j v σ H2 hv zz4 hN2 _
        refine byC fun hG => ?_
        obtain ⟨s2, x12, x13, x14, rfl⟩ := zz4
        have sG2 := sJ.trans s2
        obtain ⟨rp, RL, rfl, hRL, gR⟩ : ∃ rp RL, v = .ref rp ∧ LinesAt K H2 rp RL ∧ GoodL RL := by
          match j, hv with
          | 0, hv => simp at hv; exact ⟨_, _, hv.symm, hL9.same sG2, gL⟩
          | 1, hv => simp at hv; exact ⟨_, _, hv.symm, hM9.same sG2, gM⟩
          | j + 2, hv => simp at hv
        have r4 := gR.l4
        have r1 := gR.l1
        have hls : (RL.map (·.2)).length = RL.length := List.length_map _
        refine hG ?_
        refine ⟨_, rfl, _, rfl, rp, c + 1, RL, rfl, hRL, gR.l1, by omega, gR.small, by omega, fun r qs H3 hr s3 hr3 hql hrows => ?_⟩
        try dsimp only [List.set_cons_zero, List.set_cons_succ]
        refine ⟨_, rfl, _, rfl, rp, c + 1, RL, rfl, hRL.same s3, gR, hc24, fun f H4 _ s4 hf4 => ?_⟩
        refine byC fun hG => ?_
        obtain ⟨qd, iqd, hqd⟩ := hrows (c + 1) (Nat.le_refl _)
        obtain ⟨qe, iqe, hqe⟩ := hrows c (by omega)
        refine hG ?_
        have jqd : atI (qs.map V.ref) ((c + 1 : Nat) : Int) = some (.ref qd) := atI_nat (by rw [List.getElem?_map, iqd]; rfl)
        have jqe : atI (qs.map V.ref) ((c : Nat) : Int) = some (.ref qe) := atI_nat (by rw [List.getElem?_map, iqe]; rfl)
        refine ⟨_, rfl, _, rfl, r, _, _, _, rfl, rfl, SqL.of (s4 _ _ hr3), jqd, f, qd, _, _, rfl, hf4, SqL.of (s4 _ _ hqd), ?_⟩
        rw [decide_eq_true rfl]
        refine ⟨_, rfl, iteF ?_⟩
        have hR4 := (hRL.same s3).same s4
        refine byC fun hG => ?_
        obtain ⟨us, hus, hu⟩ := hR4.ex
        have hul := hu.len
        refine hG ?_
        refine ⟨_, rfl, rp, us, rfl, .inr hus, _, rfl, by omega, by omega, ?_⟩
        have enl : ((us.length : Nat) : Int).toNat = RL.length := by omega
        rw [enl]
        have hpk : Mt.pick (RL.map (·.2)) (Mt.deal (RL.map (·.2)) c) < RL.length := by
          have := Mt.pick_lt (ls := RL.map (·.2)) (b := Mt.deal (RL.map (·.2)) c) (by rw [hls]; exact r1)
          rw [hls] at this; exact this
        have dnx := deal_next (ls := RL.map (·.2)) (n := c) (by rw [hls]; exact r1)
        have dl1 : (Mt.deal (RL.map (·.2)) (c + 1)).length = RL.length := by rw [Mt.deal_length, hls]
        have dl0 : (Mt.deal (RL.map (·.2)) c).length = RL.length := by rw [Mt.deal_length, hls]
        have hbo : bearerOf RL c = (RL.map (·.1)).getD (Mt.pick (RL.map (·.2)) (Mt.deal (RL.map (·.2)) c)) 0 := rfl
        generalize Mt.pick (RL.map (·.2)) (Mt.deal (RL.map (·.2)) c) = pk at hpk dnx hbo
        refine lc_fG (fun i => if i = pk then some (V.int i) else none) (itG_range (H := H4) (lo := 0) (n := RL.length)) (fun σ => ∃ x0 x1, σ = [x0, x1, some (.int ((c + 1 : Nat) : Int)), some (.ref r)]) ⟨_, _, rfl⟩ (Nat.le_of_lt (small_line (by omega))) ?_ ?_
        · intro i x σ2 H6 Qt Qf hi zz5 s6 zz6 qt qf
          refine byC fun hG => ?_
          subst zz5
          obtain ⟨x0, x1, rfl⟩ := zz6
          have ei : (0 + (i : Nat) : Int) = ((i : Nat) : Int) := by omega
          have ec : ((c + 1 : Nat) : Int) - 1 = ((c : Nat) : Int) := by omega
          have s46 := s4.trans s6
          refine hG ?_
          refine ⟨_, rfl, _, rfl, r, _, _, _, rfl, rfl, SqL.of (s46 _ _ hr3), jqd, _, rfl, qd, _, _, _, rfl, rfl, SqL.of (s46 _ _ hqd), (by show atI _ (0 + (i : Nat) : Int) = _; rw [ei]; exact ix_of (by omega)), _, rfl, _, rfl, _, _, rfl, rfl, r, _, _, _, rfl, rfl, SqL.of (s46 _ _ hr3), (by show atI _ (((c + 1 : Nat) : Int) - 1) = _; rw [ec]; exact jqe), _, rfl, qe, _, _, _, rfl, rfl, SqL.of (s46 _ _ hqe), (by show atI _ (0 + (i : Nat) : Int) = _; rw [ei]; exact ix_of (by omega)), _, _, rfl, rfl, _, rfl, iteD (fun hgt => ?_) (fun hle => ?_)⟩
          · have e : i = pk := Classical.byContradiction fun z => by rw [dnx i, if_neg z] at hgt; omega
            exact ⟨_, rfl, qt _ _ _ (by rw [if_pos e]; show some (V.int (i : Int)) = some (V.int (0 + (i : Nat) : Int)); rw [ei]) ⟨_, _, rfl⟩ (Same.refl _)⟩
          · have e : ¬ i = pk := fun z => by rw [dnx i, if_pos z] at hle; omega
            exact qf _ _ (by rw [if_neg e]) ⟨_, _, rfl⟩ (Same.refl _)
        intro D H6 hD s6 hD6
        rw [fm_one (f := pk) (v := V.int pk) (by rw [if_pos rfl]) RL.length hpk (fun i _ hne => by rw [if_neg hne])] at hD6
        try dsimp only [List.set_cons_zero, List.set_cons_succ]
        refine ⟨_, rfl, _, rfl, rp, c, RL, rfl, hR4.same s6, gR, hc24, fun H7 s7 => ?_⟩
        have s47 := s6.trans s7
        refine byC fun hG => ?_
        obtain ⟨q1, a1, ix1, t1, e1⟩ := (hu.same s47).ix hpk
        refine hG ?_
        refine ⟨_, rfl, _, rfl, D, _, 0, _, rfl, rfl, SqL.of (s7 _ _ hD6), rfl, rp, _, _, _, rfl, rfl, s47.tupS hus, ix1, q1, _, 0, _, rfl, rfl, t1, rfl, rfl, _, rfl, iteF' (by rw [hbo, fst_of e1, decide_eq_true rfl]; rfl) ?_⟩
        exact hN2 _ _ ⟨s2.trans (s3.trans (s4.trans s47)), _, _, _, rfl⟩
      intro σ H2 zz7
      refine byC fun hG => ?_
      obtain ⟨s2, x12, x13, x14, rfl⟩ := zz7
      have s02 := sJ.trans s2
      have hrw := s02.tupS hrow9
      refine hG ?_
      try dsimp only [List.set_cons_zero, List.set_cons_succ]
      refine ⟨_, rfl, p, _, 1, _, rfl, rfl, hrw, rfl, _, rfl, p, _, 2, _, rfl, rfl, hrw, rfl, by show 2 ≤ sizeLine; decide, fun t1 ht1 => ?_⟩
      have st1 := same_upd (o := .tup [.str k, .int b]) ht1
      have rt1 := SqT.of (K := K) (upd_same (H := H2) (a := t1) (o := .tup [.str k, .int b]))
      generalize upd H2 t1 (.tup [.str k, .int b]) = J1 at *
      refine ⟨_, rfl, p, _, 1, _, rfl, rfl, st1.tupS hrw, rfl, _, rfl, by show 2 ≤ sizeLine; decide, fun t2 ht2 => ?_⟩
      have st2 := same_upd (o := .tup [.str k, .int by_]) ht2
      have rt2 := SqT.of (K := K) (upd_same (H := J1) (a := t2) (o := .tup [.str k, .int by_]))
      generalize upd J1 t2 (.tup [.str k, .int by_]) = J2 at *
      refine ⟨_, rfl, by show 2 ≤ sizeLine; decide, fun t3 ht3 => ?_⟩
      have st3 := same_upd (o := .tup [.str "share", .int by_]) ht3
      have rt3 := SqT.of (K := K) (upd_same (H := J2) (a := t3) (o := .tup [.str "share", .int by_]))
      generalize upd J2 t3 (.tup [.str "share", .int by_]) = J3 at *
      refine ⟨_, rfl, by show 2 ≤ sizeLine; decide, fun t4 ht4 => ?_⟩
      have st4 := same_upd (o := .tup [.str "layer", .int by_]) ht4
      have rt4 := SqT.of (K := K) (upd_same (H := J3) (a := t4) (o := .tup [.str "layer", .int by_]))
      generalize upd J3 t4 (.tup [.str "layer", .int by_]) = J4 at *
      refine ⟨by show 4 ≤ sizeLine; decide, fun lj hlj => ?_⟩
      have slj := same_upd (o := .lst [.ref t1, .ref t2, .ref t3, .ref t4]) hlj
      have hlj1 := upd_same (H := J4) (a := lj) (o := .lst [.ref t1, .ref t2, .ref t3, .ref t4])
      refine ⟨lj, rfl, ⟨_, SqL.of hlj1⟩, ?_⟩
      generalize upd J4 lj (.lst [.ref t1, .ref t2, .ref t3, .ref t4]) = J5 at *
      have s45 := st4.trans slj
      have s35 := st3.trans s45
      have s25 := st2.trans s35
      have sJ5 := s02.trans (st1.trans s25)
      have all4 : ∀ v ∈ [V.ref t1, .ref t2, .ref t3, .ref t4], ∃ tu k' b', v = .ref tu ∧ SqT K J5 tu [.str k', .int b'] ∧ measB k' b' m = true := fun v hv => by
        simp only [List.mem_cons, List.not_mem_nil, or_false] at hv
        rcases hv with rfl | rfl | rfl | rfl
        · exact ⟨_, _, _, rfl, s25.tupS rt1, meas2 _ _ (.inl ⟨rfl, rfl⟩)⟩
        · exact ⟨_, _, _, rfl, s35.tupS rt2, meas2 _ _ (.inr ⟨rfl, .inl rfl⟩)⟩
        · exact ⟨_, _, _, rfl, s45.tupS rt3, meas2 _ _ (.inr ⟨rfl, .inr (.inl rfl)⟩)⟩
        · exact ⟨_, _, _, rfl, slj.tupS rt4, meas2 _ _ (.inr ⟨rfl, .inr (.inr rfl)⟩)⟩
      clear rt1 rt2 rt3 rt4 st1 st2 st3 st4 ht1 ht2 ht3 ht4 s45 s35 s25 slj hlj hrw s02 sJ sli s2 hli1
      refine for_listO (xs := [.ref t1, .ref t2, .ref t3, .ref t4]) (fun j σ H2 => Same J5 H2 ∧ ∃ x15 x16, σ = [some (.ref a), some (.ref dh), some (.int h), some (.ref p), some (.ref lp), some (.ref o), some (.int ((c + 1 : Nat) : Int)), some (.int (d13 : Nat)), some (.int by_), some (.ref q), some (.ref q5), some (.int (0 + (i : Nat) : Int)), x12, x13, x14, x15, x16]) ⟨Same.refl _, _, _, rfl⟩ (fun j σ H2 _ q => SqL.of (q.1 _ _ hlj1)) ?_ ?_
      · intro N2 R2 B2 j v σ H3 hv zz8 hN2 _
        refine byC fun hG => ?_
        obtain ⟨s3, x15, x16, rfl⟩ := zz8
        obtain ⟨tu, k', b', rfl, htu, hm'⟩ := all4 v (List.mem_of_getElem? hv)
        have hr3 := (sJ5.trans s3).tupS hrow9
        refine hG ?_
        refine ⟨tu, _, rfl, s3.tupS htu, rfl, _, _, rfl, _, _, rfl, rfl, ?_⟩
        try dsimp only [List.set_cons_zero, List.set_cons_succ]
        refine ⟨_, rfl, _, rfl, _, rfl, p, _, 3, _, rfl, rfl, hr3, rfl, _, rfl, k', b', m, _, rfl, hm', by omega, by omega, _, rfl, _, rfl, _, rfl, p, _, 3, _, rfl, rfl, hr3, rfl, _, rfl, k', b', m, _, rfl, hm', by omega, by omega, rfl, _, rfl, iteF' (by rw [decide_eq_true rfl]; rfl) ?_⟩
        exact hN2 _ _ ⟨s3, _, _, rfl⟩
      intro σ H3 zz9
      refine byC fun hG => ?_
      obtain ⟨s3, x15', x16', rfl⟩ := zz9
      have s03 := sJ5.trans s3
      refine hG ?_
      clear s3 all4 hlj1 sJ5
      try dsimp only [List.set_cons_zero, List.set_cons_succ]
      have hrow3 := s03.tupS hrow9
      have hL3 := hL9.same s03
      have hM3 := hM9.same s03
      -- the cover itself
      refine ⟨_, rfl, _, rfl, h, p, some (ho, k, b, m, L), rfl, ⟨lp, hrow3, hL3, by omega⟩, fun H4 s4 => ?_⟩
      rw [iscov L gL fun l hl => ⟨l, hl, rfl⟩]
      refine ⟨_, rfl, iteF ?_⟩
      have hr4 := s4.tupS hrow3
      refine ⟨_, rfl, _, rfl, 4, rfl, slTA_of hr4 fun q1 G1 t1 r1 => ?_⟩
      replace r1 : SqT K G1 q1 [.int ho, .str k, .int b, .int m] := r1
      refine ⟨_, rfl, p, _, 0, _, rfl, rfl, t1.tupS hr4, rfl, by show 2 ≤ sizeLine; decide, fun u1 hu1 => ?_⟩
      have su1 := same_upd (o := .tup [.int ho, .int 3]) hu1
      have ru1 := SqT.of (K := K) (upd_same (H := G1) (a := u1) (o := .tup [.int ho, .int 3]))
      generalize upd G1 u1 (.tup [.int ho, .int 3]) = G2 at *
      refine ⟨by show 1 ≤ sizeLine; decide, fun u2 hu2 => ?_⟩
      have su2 := same_upd (o := .tup [.ref u1]) hu2
      have ru2 := SqT.of (K := K) (upd_same (H := G2) (a := u2) (o := .tup [.ref u1]))
      generalize upd G2 u2 (.tup [.ref u1]) = G3 at *
      refine ⟨by show 1 ≤ sizeLine; decide, fun u3 hu3 => ?_⟩
      have su3 := same_upd (o := .tup [.ref u2]) hu3
      have ru3 := SqT.of (K := K) (upd_same (H := G3) (a := u3) (o := .tup [.ref u2]))
      generalize upd G3 u3 (.tup [.ref u2]) = G4 at *
      have sG14 := su1.trans (su2.trans su3)
      refine catTA_of (sG14.tupS r1) ru3 (Nat.le_of_lt (small_line (by show 5 ≤ 100000; decide))) fun q7 G5 t5 r5 => ?_
      replace r5 : SqT K G5 q7 [.int ho, .str k, .int b, .int m, .ref u2] := r5
      have hl5 : LinesAt K G5 u2 [((ho : Int), 3)] := one_line (t5.tupS (su3.tupS ru2)) (t5.tupS (su3.tupS (su2.tupS ru1)))
      refine ⟨h, q7, some (ho, k, b, m, [((ho : Int), 3)]), rfl, ⟨u2, r5, hl5, by show 1 ≤ 100; decide⟩, fun H5 s5 => ?_⟩
      rw [notown m]
      refine ⟨_, rfl, iteF ?_⟩
      have s05 := s4.trans (t1.trans (sG14.trans (t5.trans s5)))
      have hr5 := s05.tupS hrow3
      have hL5 := hL3.same s05
      have hM5 := hM3.same s05
      have s15 := s03.trans s05
      clear hrow3 hL3 hM3 s03 s05 s5 hl5 r5 t5 sG14 su1 su2 su3 ru1 ru2 ru3 hu1 hu2 hu3 r1 t1 hr4 s4
      -- with the other lines, and with too much
      refine ⟨_, rfl, _, rfl, 4, rfl, slTA_of hr5 fun q1 G1 t1 r1 => ?_⟩
      replace r1 : SqT K G1 q1 [.int ho, .str k, .int b, .int m] := r1
      refine ⟨_, rfl, by show 1 ≤ sizeLine; decide, fun u3 hu3 => ?_⟩
      have su3 := same_upd (o := .tup [.ref o]) hu3
      have ru3 := SqT.of (K := K) (upd_same (H := G1) (a := u3) (o := .tup [.ref o]))
      generalize upd G1 u3 (.tup [.ref o]) = G4 at *
      refine catTA_of (su3.tupS r1) ru3 (Nat.le_of_lt (small_line (by show 5 ≤ 100000; decide))) fun q7 G5 t5 r5 => ?_
      replace r5 : SqT K G5 q7 [.int ho, .str k, .int b, .int m, .ref o] := r5
      have s55 := t1.trans (su3.trans t5)
      have gM4 := gM.l4
      refine ⟨h, q7, some (ho, k, b, m, M), rfl, ⟨o, r5, hM5.same s55, by omega⟩, fun H6 s6 => ?_⟩
      rw [iscov M gM hML]
      refine ⟨_, rfl, iteF ?_⟩
      have s56 := s55.trans s6
      have hr6 := s56.tupS hr5
      have hL6 := hL5.same s56
      have s16 := s15.trans s56
      clear s15 s56 s55 s6 r5 t5 su3 ru3 hu3 r1 t1 hr5 hL5 hM5
      refine ⟨_, rfl, _, rfl, 3, rfl, slTA_of hr6 fun q1 G1 t1 r1 => ?_⟩
      replace r1 : SqT K G1 q1 [.int ho, .str k, .int b] := r1
      refine ⟨by show 1 ≤ sizeLine; decide, fun u3 hu3 => ?_⟩
      have su3 := same_upd (o := .tup [.int 25]) hu3
      have ru3 := SqT.of (K := K) (upd_same (H := G1) (a := u3) (o := .tup [.int 25]))
      generalize upd G1 u3 (.tup [.int 25]) = G4 at *
      refine catTA_of (su3.tupS r1) ru3 (Nat.le_of_lt (small_line (by show 4 ≤ 100000; decide))) fun q7 G5 t5 r5 => ?_
      replace r5 : SqT K G5 q7 [.int ho, .str k, .int b, .int 25] := r5
      have s65 := t1.trans (su3.trans t5)
      refine ⟨_, rfl, 4, rfl, ?_⟩
      dsimp only [tNoPart]
      refine slTA_of (s65.tupS hr6) fun q8 G6 t6 r6 => ?_
      replace r6 : SqT K G6 q8 [.ref lp] := r6
      refine catTA_of (t6.tupS r5) r6 (Nat.le_of_lt (small_line (by show 5 ≤ 100000; decide))) fun q9 G7 t7 r7 => ?_
      replace r7 : SqT K G7 q9 [.int ho, .str k, .int b, .int 25, .ref lp] := r7
      have s67 := s65.trans (t6.trans t7)
      refine ⟨h, q9, some (ho, k, b, 25, L), rfl, ⟨lp, r7, hL6.same s67, by omega⟩, fun H7 s7 => ?_⟩
      rw [not25]
      refine ⟨_, rfl, iteF ?_⟩
      have s17 := s16.trans (s67.trans s7)
      clear s16 s67 s7 r7 t7 r6 t6 s65 r5 t5 su3 ru3 hu3 r1 t1 hr6 hL6
      -- terms
      refine ⟨_, rfl, _, rfl, h, q, t, rfl, TmAt.same s17 ht9, fun H8 s8 => ?_⟩
      rw [hB]
      refine ⟨_, rfl, iteF ?_⟩
      have s18 := s17.trans s8
      refine ⟨_, rfl, _, rfl, h, q5, tt, rfl, TmAt.same s18 htt, fun H9 s9 => ?_⟩
      rw [ett]
      refine ⟨_, rfl, iteF ?_⟩
      have s19 := s18.trans s9
      have hq := s19.tupS hq9
      refine ⟨_, rfl, _, rfl, 3, rfl, slTA_of hq fun q1 G1 t1 r1 => ?_⟩
      have c1 : cutV (.str tk :: .int to :: .int tb :: .int tm :: (mid ++ [.ref tl])) none (some 3) = [.str tk, .int to, .int tb] := cut_upto _ 3
      rw [c1] at r1
      refine ⟨by show 1 ≤ sizeLine; decide, fun u3 hu3 => ?_⟩
      have su3 := same_upd (o := .tup [.int 0]) hu3
      have ru3 := SqT.of (K := K) (upd_same (H := G1) (a := u3) (o := .tup [.int 0]))
      generalize upd G1 u3 (.tup [.int 0]) = G4 at *
      refine catTA_of (su3.tupS r1) ru3 (Nat.le_of_lt (small_line (by show 4 ≤ 100000; decide))) fun q7 G5 t5 r5 => ?_
      replace r5 : SqT K G5 q7 [.str tk, .int to, .int tb, .int 0] := r5
      have s65 := t1.trans (su3.trans t5)
      refine ⟨_, rfl, 4, rfl, ?_⟩
      dsimp only [tNoPart]
      refine slTA_of (s65.tupS hq) fun q8 G6 t6 r6 => ?_
      have c2 : cutV (.str tk :: .int to :: .int tb :: .int tm :: (mid ++ [.ref tl])) (some 4) none = mid ++ [.ref tl] := cut_from _ (n := 4) (by simp only [List.length_cons]; omega)
      rw [c2] at r6
      refine catTA_of (t6.tupS r5) r6 (Nat.le_of_lt (small_line (by show 4 + (mid ++ [V.ref tl]).length ≤ 100000; rw [List.length_append, List.length_singleton]; omega))) fun q9 G7 t7 r7 => ?_
      refine byC fun hG => ?_
      obtain ⟨t2, ht2, et2⟩ := ho2 G7 q9 (s19.trans (s65.trans (t6.trans t7))) r7
      refine hG ?_
      refine ⟨h, q9, t2, rfl, ht2, fun H10 s10 => ?_⟩
      rw [et2]
      refine ⟨_, rfl, iteF ?_⟩
      exact hN _ _ ⟨s19.trans ((s65.trans (t6.trans t7)).trans s10), _, _, _, _, _, _, rfl⟩
    · intro σ H' zz10
      refine byC fun hG => ?_
      obtain ⟨_, x11, x12, x13, x14, x15, x16, rfl⟩ := zz10
      refine hG ?_
      exact kk _
end
set_option maxHeartbeats 0 in
theorem all_mk {l : PySem.W.OpenLaw} {w : World} {K : PySem.W.Frag} {h : Heap} {mg : Str → Option Value} {fa : Addr} (X : K.In h) (G : h.Ns mainGlobals mg) (hfa : mg "law" = some (.ref fa))
    {f0 : Addr}
    (a0 : PySem.W.nsIn K mainGlobals "is_lines" = some (some (.ref f0)))
    (l0 : FL K "is_lines" "is_lines" s_is_lines f0)
    {f1 : Addr}
    (a1 : PySem.W.nsIn K mainGlobals "require_lines" = some (some (.ref f1)))
    (l1 : FL K "require_lines" "require_lines" s_require_lines f1)
    {f2 : Addr}
    (a2 : PySem.W.nsIn K mainGlobals "next_place" = some (some (.ref f2)))
    (l2 : FL K "next_place" "next_place" s_next_place f2)
    {f3 : Addr}
    (a3 : PySem.W.nsIn K mainGlobals "bearers" = some (some (.ref f3)))
    (l3 : FL K "bearers" "bearers" s_bearers f3)
    {f4 : Addr}
    (a4 : PySem.W.nsIn K mainGlobals "parts" = some (some (.ref f4)))
    (l4 : FL K "parts" "parts" s_parts f4)
    {f5 : Addr}
    (a5 : PySem.W.nsIn K mainGlobals "bearer" = some (some (.ref f5)))
    (l5 : FL K "bearer" "bearer" s_bearer f5)
    {f6 : Addr}
    (a6 : PySem.W.nsIn K mainGlobals "is_measure" = some (some (.ref f6)))
    (l6 : FL K "is_measure" "is_measure" s_is_measure f6)
    {f7 : Addr}
    (a7 : PySem.W.nsIn K mainGlobals "are_others" = some (some (.ref f7)))
    (l7 : FL K "are_others" "are_others" s_are_others f7)
    {f8 : Addr}
    (a8 : PySem.W.nsIn K mainGlobals "is_cover" = some (some (.ref f8)))
    (l8 : FL K "is_cover" "is_cover" s_is_cover f8)
    {f9 : Addr}
    (a9 : PySem.W.nsIn K mainGlobals "wish" = some (some (.ref f9)))
    (l9 : FL K "wish" "wish" s_wish f9)
    {f10 : Addr}
    (a10 : PySem.W.nsIn K mainGlobals "take" = some (some (.ref f10)))
    (l10 : FL K "take" "take" s_take f10)
    {f11 : Addr}
    (a11 : PySem.W.nsIn K mainGlobals "is_day" = some (some (.ref f11)))
    (l11 : FL K "is_day" "is_day" s_is_day f11)
    {f12 : Addr}
    (a12 : PySem.W.nsIn K mainGlobals "is_stop" = some (some (.ref f12)))
    (l12 : FL K "is_stop" "is_stop" s_is_stop f12)
    {f13 : Addr}
    (a13 : PySem.W.nsIn K mainGlobals "cover_of" = some (some (.ref f13)))
    (l13 : FL K "cover_of" "cover_of" s_cover_of f13)
    {f14 : Addr}
    (a14 : PySem.W.nsIn K mainGlobals "are_bounds" = some (some (.ref f14)))
    (l14 : FL K "are_bounds" "are_bounds" s_are_bounds f14)
    {f15 : Addr}
    (a15 : PySem.W.nsIn K mainGlobals "is_terms" = some (some (.ref f15)))
    (l15 : FL K "is_terms" "is_terms" s_is_terms f15)
    {f16 : Addr}
    (a16 : PySem.W.nsIn K mainGlobals "_law_draws" = some (some (.ref f16)))
    (l16 : FL K "_law_draws" "_law_draws" s__law_draws f16)
    {f17 : Addr}
    (a17 : PySem.W.nsIn K mainGlobals "_law_whole" = some (some (.ref f17)))
    (l17 : FL K "_law_whole" "_law_whole" s__law_whole f17)
    {f18 : Addr}
    (a18 : PySem.W.nsIn K mainGlobals "_law_wholes" = some (some (.ref f18)))
    (l18 : FL K "_law_wholes" "_law_wholes" s__law_wholes f18)
    {f19 : Addr}
    (a19 : PySem.W.nsIn K mainGlobals "_law_list" = some (some (.ref f19)))
    (l19 : FL K "_law_list" "_law_list" s__law_list f19)
    {f20 : Addr}
    (a20 : PySem.W.nsIn K mainGlobals "_law_lines" = some (some (.ref f20)))
    (l20 : FL K "_law_lines" "_law_lines" s__law_lines f20)
    {f21 : Addr}
    (a21 : PySem.W.nsIn K mainGlobals "_law_cover" = some (some (.ref f21)))
    (l21 : FL K "_law_cover" "_law_cover" s__law_cover f21)
    {f22 : Addr}
    (a22 : PySem.W.nsIn K mainGlobals "_law_split" = some (some (.ref f22)))
    (l22 : FL K "_law_split" "_law_split" s__law_split f22)
    {f23 : Addr}
    (a23 : PySem.W.nsIn K mainGlobals "_law_take" = some (some (.ref f23)))
    (l23 : FL K "_law_take" "_law_take" s__law_take f23)
    {f24 : Addr}
    (a24 : PySem.W.nsIn K mainGlobals "_law_terms" = some (some (.ref f24)))
    (l24 : FL K "_law_terms" "_law_terms" s__law_terms f24)
    {f25 : Addr}
    (a25 : PySem.W.nsIn K mainGlobals "law" = some (some (.ref f25)))
    (l25 : FL K "law" "law" s_law f25)
    {t_LAST_DAY : Tok} (v_LAST_DAY : PySem.W.nsIn K mainGlobals "LAST_DAY" = some (some (.int 99 t_LAST_DAY)))
    {t_LAST_HOUSE : Tok} (v_LAST_HOUSE : PySem.W.nsIn K mainGlobals "LAST_HOUSE" = some (some (.int 5 t_LAST_HOUSE)))
    {t_LEAST_LINE : Tok} (v_LEAST_LINE : PySem.W.nsIn K mainGlobals "LEAST_LINE" = some (some (.int 1 t_LEAST_LINE)))
    {t_MOST_BILL : Tok} (v_MOST_BILL : PySem.W.nsIn K mainGlobals "MOST_BILL" = some (some (.int 24 t_MOST_BILL)))
    {t_MOST_LINE : Tok} (v_MOST_LINE : PySem.W.nsIn K mainGlobals "MOST_LINE" = some (some (.int 20 t_MOST_LINE)))
    {t_MOST_PAIRS : Tok} (v_MOST_PAIRS : PySem.W.nsIn K mainGlobals "MOST_PAIRS" = some (some (.int 4 t_MOST_PAIRS)))
    {t_MOST_REACH : Tok} (v_MOST_REACH : PySem.W.nsIn K mainGlobals "MOST_REACH" = some (some (.int 99999 t_MOST_REACH)))
    {t_MOST_WHOLE : Tok} (v_MOST_WHOLE : PySem.W.nsIn K mainGlobals "MOST_WHOLE" = some (some (.int 120 t_MOST_WHOLE)))
    (z_all : PySem.W.nsIn K mainGlobals "all" = some none)
    (z_bool : PySem.W.nsIn K mainGlobals "bool" = some none)
    (z_int : PySem.W.nsIn K mainGlobals "int" = some none)
    (z_isinstance : PySem.W.nsIn K mainGlobals "isinstance" = some none)
    (z_len : PySem.W.nsIn K mainGlobals "len" = some none)
    (z_list : PySem.W.nsIn K mainGlobals "list" = some none)
    (z_max : PySem.W.nsIn K mainGlobals "max" = some none)
    (z_min : PySem.W.nsIn K mainGlobals "min" = some none)
    (z_range : PySem.W.nsIn K mainGlobals "range" = some none)
    (z_tuple : PySem.W.nsIn K mainGlobals "tuple" = some none)
    {d_BY_BOUNDS : Addr} {e_BY_BOUNDS : Nat} {u_BY_BOUNDS_0 : Addr} {x_BY_BOUNDS_0 : Tok} {n_BY_BOUNDS_0 : Nat} {dd_BY_BOUNDS_0 : Option Addr} {sl_BY_BOUNDS_0 : Array (Option Value)} {y_BY_BOUNDS_0_0 : Tok} {y_BY_BOUNDS_0_1 : Tok} {u_BY_BOUNDS_1 : Addr} {x_BY_BOUNDS_1 : Tok} {n_BY_BOUNDS_1 : Nat} {dd_BY_BOUNDS_1 : Option Addr} {sl_BY_BOUNDS_1 : Array (Option Value)} {y_BY_BOUNDS_1_0 : Tok} {y_BY_BOUNDS_1_1 : Tok}
    (ga_BY_BOUNDS : PySem.W.nsIn K mainGlobals "BY_BOUNDS" = some (some (.ref d_BY_BOUNDS)))
    (gl_BY_BOUNDS : K.lookup d_BY_BOUNDS = some ⟨.type "dict", none, .dict #[⟨PyData.keyHash w.params "share", .str "share" x_BY_BOUNDS_0, .ref u_BY_BOUNDS_0⟩, ⟨PyData.keyHash w.params "layer", .str "layer" x_BY_BOUNDS_1, .ref u_BY_BOUNDS_1⟩] e_BY_BOUNDS, #[]⟩) (gz_BY_BOUNDS : (d_BY_BOUNDS == sysModules) = false)
    (gt_BY_BOUNDS_0 : K.lookup u_BY_BOUNDS_0 = some ⟨.type "tuple", dd_BY_BOUNDS_0, .seq #[.int 1 y_BY_BOUNDS_0_0, .int 100 y_BY_BOUNDS_0_1] n_BY_BOUNDS_0, sl_BY_BOUNDS_0⟩)
    (gt_BY_BOUNDS_1 : K.lookup u_BY_BOUNDS_1 = some ⟨.type "tuple", dd_BY_BOUNDS_1, .seq #[.int 0 y_BY_BOUNDS_1_0, .int 200 y_BY_BOUNDS_1_1] n_BY_BOUNDS_1, sl_BY_BOUNDS_1⟩)
    {d_THINGS : Addr} {e_THINGS : Nat} {u_THINGS_0 : Tok} {x_THINGS_0 : Tok} {u_THINGS_1 : Tok} {x_THINGS_1 : Tok} {u_THINGS_2 : Tok} {x_THINGS_2 : Tok}
    (ga_THINGS : PySem.W.nsIn K mainGlobals "THINGS" = some (some (.ref d_THINGS)))
    (gl_THINGS : K.lookup d_THINGS = some ⟨.type "dict", none, .dict #[⟨PyData.keyHash w.params "share", .str "share" x_THINGS_0, .int 8 u_THINGS_0⟩, ⟨PyData.keyHash w.params "layer", .str "layer" x_THINGS_1, .int 8 u_THINGS_1⟩, ⟨PyData.keyHash w.params "stop", .str "stop" x_THINGS_2, .int 5 u_THINGS_2⟩] e_THINGS, #[]⟩) (gz_THINGS : (d_THINGS == sysModules) = false)
    : ∃ fd : FuncData, (∀ (s : Shared) (v : Value), BindsTo s fd ⟨[v], []⟩ [("_law_script", v)]) ∧ ∀ base : Heap, K.In base → base.Ns mainGlobals mg → FnOk l.prog w K mg base CX0 4 fa fd ["_law_script"] (sp_law K) := by
  have e := hfa.symm.trans (PySem.W.mg_of X G a25)
  cases e
  obtain ⟨e0, F0, k0, b0⟩ := l0.fn1 ["lines"] fun _ _ _ _ _ _ _ => rfl
  obtain ⟨e1, F1, k1, b1⟩ := l1.fn1 ["lines"] fun _ _ _ _ _ _ _ => rfl
  obtain ⟨e2, F2, k2, b2⟩ := l2.fn2 ["lines", "borne"] fun _ _ _ _ _ _ _ _ => rfl
  obtain ⟨e3, F3, k3, b3⟩ := l3.fn2 ["lines", "crowns"] fun _ _ _ _ _ _ _ _ => rfl
  obtain ⟨e4, F4, k4, b4⟩ := l4.fn2 ["lines", "crowns"] fun _ _ _ _ _ _ _ _ => rfl
  obtain ⟨e5, F5, k5, b5⟩ := l5.fn2 ["lines", "crown"] fun _ _ _ _ _ _ _ _ => rfl
  obtain ⟨e6, F6, k6, b6⟩ := l6.fn3 ["kind", "by", "most"] fun _ _ _ _ _ _ _ _ _ => rfl
  obtain ⟨e7, F7, k7, b7⟩ := l7.fn3 ["houses", "house", "lines"] fun _ _ _ _ _ _ _ _ _ => rfl
  obtain ⟨e8, F8, k8, b8⟩ := l8.fn2 ["houses", "cover"] fun _ _ _ _ _ _ _ _ => rfl
  obtain ⟨e9, F9, k9, b9⟩ := l9.fn3 ["kind", "by", "reach"] fun _ _ _ _ _ _ _ _ _ => rfl
  obtain ⟨e10, F10, k10, b10⟩ := l10.fn4 ["kind", "by", "most", "reach"] fun _ _ _ _ _ _ _ _ _ _ => rfl
  obtain ⟨e11, F11, k11, b11⟩ := l11.fn1 ["day"] fun _ _ _ _ _ _ _ => rfl
  obtain ⟨e12, F12, k12, b12⟩ := l12.fn1 ["terms"] fun _ _ _ _ _ _ _ => rfl
  obtain ⟨e13, F13, k13, b13⟩ := l13.fn1 ["terms"] fun _ _ _ _ _ _ _ => rfl
  obtain ⟨e14, F14, k14, b14⟩ := l14.fn3 ["whole", "first", "last"] fun _ _ _ _ _ _ _ _ _ => rfl
  obtain ⟨e15, F15, k15, b15⟩ := l15.fn2 ["houses", "terms"] fun _ _ _ _ _ _ _ _ => rfl
  obtain ⟨e16, F16, k16, b16⟩ := l16.fn2 ["_law_script", "_law_many"] fun _ _ _ _ _ _ _ _ => rfl
  obtain ⟨e17, F17, k17, b17⟩ := l17.fn1 ["_law_found"] fun _ _ _ _ _ _ _ => rfl
  obtain ⟨e18, F18, k18, b18⟩ := l18.fn2 ["_law_found", "_law_many"] fun _ _ _ _ _ _ _ _ => rfl
  obtain ⟨e19, F19, k19, b19⟩ := l19.fn2 ["_law_found", "_law_due"] fun _ _ _ _ _ _ _ _ => rfl
  obtain ⟨e20, F20, k20, b20⟩ := l20.fn3 ["_law_houses", "_law_house", "_law_draws_here"] fun _ _ _ _ _ _ _ _ _ => rfl
  obtain ⟨e21, F21, k21, b21⟩ := l21.fn2 ["_law_houses", "_law_draws_here"] fun _ _ _ _ _ _ _ _ => rfl
  obtain ⟨e22, F22, k22, b22⟩ := l22.fn2 ["_law_lines_here", "_law_most"] fun _ _ _ _ _ _ _ _ => rfl
  obtain ⟨e23, F23, k23, b23⟩ := l23.fn4 ["_law_kind", "_law_by", "_law_most", "_law_reach"] fun _ _ _ _ _ _ _ _ _ _ => rfl
  obtain ⟨e24, F24, k24, b24⟩ := l24.fn2 ["_law_houses", "_law_draws_here"] fun _ _ _ _ _ _ _ _ => rfl
  obtain ⟨od, an, sl, oc, kV, dc, pm, cd, ct, l, c, k25⟩ := l25.ex
  have F25 := fun_mk (st := s_law) l c k25
  have b25 := F25.binds (ps := ["_law_script"]) fun _ _ _ _ _ _ us hl => len1 (p := fun us => bindArgs _ ⟨us, []⟩ = pure (List.zip (["_law_script"] : List Str) us)) (show us.length = 1 from hl) fun _ => rfl
  have T : Txt w K mg ⟨_, _, _, _, _, _, _, _, _, _, _, _, _, _, _, _, _, _, _, _, _, _, _, _, _, _, _, _, _, _, _, _, _, _, _, _, _, _, _, _, _, _, _, _, _, _, _, _, _, _, _, _, d_BY_BOUNDS, u_BY_BOUNDS_0, u_BY_BOUNDS_1, d_THINGS, u_THINGS_0, u_THINGS_1, u_THINGS_2⟩ := ⟨F0, PySem.W.mg_of X G a0, k0, b0, F1, PySem.W.mg_of X G a1, k1, b1, F2, PySem.W.mg_of X G a2, k2, b2, F3, PySem.W.mg_of X G a3, k3, b3, F4, PySem.W.mg_of X G a4, k4, b4, F5, PySem.W.mg_of X G a5, k5, b5, F6, PySem.W.mg_of X G a6, k6, b6, F7, PySem.W.mg_of X G a7, k7, b7, F8, PySem.W.mg_of X G a8, k8, b8, F9, PySem.W.mg_of X G a9, k9, b9, F10, PySem.W.mg_of X G a10, k10, b10, F11, PySem.W.mg_of X G a11, k11, b11, F12, PySem.W.mg_of X G a12, k12, b12, F13, PySem.W.mg_of X G a13, k13, b13, F14, PySem.W.mg_of X G a14, k14, b14, F15, PySem.W.mg_of X G a15, k15, b15, F16, PySem.W.mg_of X G a16, k16, b16, F17, PySem.W.mg_of X G a17, k17, b17, F18, PySem.W.mg_of X G a18, k18, b18, F19, PySem.W.mg_of X G a19, k19, b19, F20, PySem.W.mg_of X G a20, k20, b20, F21, PySem.W.mg_of X G a21, k21, b21, F22, PySem.W.mg_of X G a22, k22, b22, F23, PySem.W.mg_of X G a23, k23, b23, F24, PySem.W.mg_of X G a24, k24, b24, F25, PySem.W.mg_of X G a25, k25, b25, ⟨_, PySem.W.mg_of X G v_LAST_DAY⟩, ⟨_, PySem.W.mg_of X G v_LAST_HOUSE⟩, ⟨_, PySem.W.mg_of X G v_LEAST_LINE⟩, ⟨_, PySem.W.mg_of X G v_MOST_BILL⟩, ⟨_, PySem.W.mg_of X G v_MOST_LINE⟩, ⟨_, PySem.W.mg_of X G v_MOST_PAIRS⟩, ⟨_, PySem.W.mg_of X G v_MOST_REACH⟩, ⟨_, PySem.W.mg_of X G v_MOST_WHOLE⟩, PySem.W.mg_none_of X G z_all, PySem.W.mg_none_of X G z_bool, PySem.W.mg_none_of X G z_int, PySem.W.mg_none_of X G z_isinstance, PySem.W.mg_none_of X G z_len, PySem.W.mg_none_of X G z_list, PySem.W.mg_none_of X G z_max, PySem.W.mg_none_of X G z_min, PySem.W.mg_none_of X G z_range, PySem.W.mg_none_of X G z_tuple, PySem.W.mg_of X G ga_BY_BOUNDS, kdict_mk (es := [_, _]) gl_BY_BOUNDS gz_BY_BOUNDS (fun e he => by simp only [List.mem_cons, List.not_mem_nil, or_false] at he; rcases he with rfl | rfl <;> exact ⟨Sum.inr _, keyIs_str _ _, rfl⟩) (fun P => .cons (mixKind_str _ _ _ _) rfl (.cons (mixKind_str _ _ _ _) rfl (.nil))) (by show ([Sum.inr "share", Sum.inr "layer"] : List Key).Nodup; decide +kernel), ⟨_, _, _, gt_BY_BOUNDS_0, rfl, rfl, by show 2 ≤ sizeLine; decide, .cons ⟨_, rfl⟩ (.cons ⟨_, rfl⟩ (.nil))⟩, ⟨_, _, _, gt_BY_BOUNDS_1, rfl, rfl, by show 2 ≤ sizeLine; decide, .cons ⟨_, rfl⟩ (.cons ⟨_, rfl⟩ (.nil))⟩, PySem.W.mg_of X G ga_THINGS, kdict_mk (es := [_, _, _]) gl_THINGS gz_THINGS (fun e he => by simp only [List.mem_cons, List.not_mem_nil, or_false] at he; rcases he with rfl | rfl | rfl <;> exact ⟨Sum.inr _, keyIs_str _ _, rfl⟩) (fun P => .cons (mixKind_str _ _ _ _) rfl (.cons (mixKind_str _ _ _ _) rfl (.cons (mixKind_str _ _ _ _) rfl (.nil)))) (by show ([Sum.inr "share", Sum.inr "layer", Sum.inr "stop"] : List Key).Nodup; decide +kernel)⟩
  exact ⟨_, fun s v => .of_eq rfl, fun base _ _ => ok_law T⟩
theorem walk {l : PySem.W.OpenLaw} {q : Program} {loose : List Str} {XP : (Str → Option Value) → Heap → Prop} {YP : World → Heap → Prop} {d : DefRec} {K : Params → PySem.W.Frag} (hn : l.most = some 63) (hdf : d.params.defaults = [])
    (hY : ∀ (w : World) (h : Heap), YP w h → (K w.params).In h)
    (F : ∀ (w : World) (mg : Str → Option Value) (fa : Addr) (h : Heap), (K w.params).In h → h.Ns mainGlobals mg → mg d.name = some (.ref fa) →
      ∃ fd : FuncData, (∀ (s : Shared) (u : Value), BindsTo s fd ⟨[u], []⟩ [("_law_script", u)]) ∧ ∀ base : Heap, (K w.params).In base → base.Ns mainGlobals mg → FnOk l.prog w (K w.params) mg base CX0 4 fa fd ["_law_script"] (sp_law (K w.params))) :
    PySem.W.WalkO q loose XP YP l.row.toRowW d [] (fun f vs => PySem.call f vs) :=
  L2.walk_of (n := 63) (k := 4) (x := "_law_script") (CX := fun _ => CX0) (sp := fun w => sp_law (K w.params)) hn (by decide) hdf ⟨rfl, by decide, by decide⟩ hY F (fun _ _ a ns hl _ hS => ⟨a, ns, rfl, hS, hl, fun _ => rfl⟩) fun _ _ _ _ _ z => z
end Rc
open PySem PySem.W PyProof.Rows
set_option maxRecDepth 100000 in
set_option maxHeartbeats 0 in
theorem PySem.Challenge.cw_ringcede_k70_small_calls_by_turns_holds : PySem.Challenge.rw_ringcede_k70_small_calls_by_turns.Holds := by
  w_on; o_law; k_head; (case hw => w_witness2)
  k_fill
  refine Rc.walk (l := PySem.Challenge.rw_ringcede_k70_small_calls_by_turns) rfl rfl (fun w h Y => PySem.W.kIn_of Y) ?F
  case F =>
    intro w mg fa h KX G hmg
    refine' Rc.all_mk KX G hmg ?a0 ?l0 ?a1 ?l1 ?a2 ?l2 ?a3 ?l3 ?a4 ?l4 ?a5 ?l5 ?a6 ?l6 ?a7 ?l7 ?a8 ?l8 ?a9 ?l9 ?a10 ?l10 ?a11 ?l11 ?a12 ?l12 ?a13 ?l13 ?a14 ?l14 ?a15 ?l15 ?a16 ?l16 ?a17 ?l17 ?a18 ?l18 ?a19 ?l19 ?a20 ?l20 ?a21 ?l21 ?a22 ?l22 ?a23 ?l23 ?a24 ?l24 ?a25 ?l25 ?v_LAST_DAY ?v_LAST_HOUSE ?v_LEAST_LINE ?v_MOST_BILL ?v_MOST_LINE ?v_MOST_PAIRS ?v_MOST_REACH ?v_MOST_WHOLE ?z_all ?z_bool ?z_int ?z_isinstance ?z_len ?z_list ?z_max ?z_min ?z_range ?z_tuple ?ga_BY_BOUNDS ?gl_BY_BOUNDS ?gz_BY_BOUNDS ?gt_BY_BOUNDS_0 ?gt_BY_BOUNDS_1 ?ga_THINGS ?gl_THINGS ?gz_THINGS
    (case a0 | a1 | a2 | a3 | a4 | a5 | a6 | a7 | a8 | a9 | a10 | a11 | a12 | a13 | a14 | a15 | a16 | a17 | a18 | a19 | a20 | a21 | a22 | a23 | a24 | a25 => k_is)
    (case l0 | l1 | l2 | l3 | l4 | l5 | l6 | l7 | l8 | l9 | l10 | l11 | l12 | l13 | l14 | l15 | l16 | l17 | l18 | l19 | l20 | l21 | l22 | l23 | l24 | l25 => refine' Rc.fl_mk ?l ?c ?k; (case l => k_is); (case c => k_is); (case k => k_is))
    (case v_LAST_DAY | v_LAST_HOUSE | v_LEAST_LINE | v_MOST_BILL | v_MOST_LINE | v_MOST_PAIRS | v_MOST_REACH | v_MOST_WHOLE | z_all | z_bool | z_int | z_isinstance | z_len | z_list | z_max | z_min | z_range | z_tuple | ga_BY_BOUNDS | gl_BY_BOUNDS | gt_BY_BOUNDS_0 | gt_BY_BOUNDS_1 | ga_THINGS | gl_THINGS => k_is)
    (case gz_BY_BOUNDS | gz_THINGS => rfl)
#print axioms PySem.Challenge.cw_ringcede_k70_small_calls_by_turns_holds
