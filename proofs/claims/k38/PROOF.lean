import PyProof.Rows.All
import Wide.All
import OpenK.AllK
import Wide.FinOn
import Lean
import PyProof.EqAt
import PyProof.EqKinds
import PyProof.TupleCall
import PySem.Challenge.RW_ringcede_k38_what_hangs_on_a_house
set_option Elab.async false
set_option linter.all false
set_option maxRecDepth 100000
namespace L2
open PySem PySem.Spec PyProof.Rows
abbrev Key := Sum Int Str
def keyIs : Key → Value → Bool
  | .inl k, v => Value.isInt k v
  | .inr x, v => Value.isStrOf x v
def keyH (w : World) : Key → Int
  | .inl k => hashInt k
  | .inr x => hashStr w x
theorem keyIs_shape : ∀ {k : Key} {v : Value}, keyIs k v = true → (∃ i t, k = Sum.inl i ∧ v = Value.int i t) ∨ (∃ x t, k = Sum.inr x ∧ v = Value.str x t)
  | .inl i, v, h => by
    obtain ⟨t, e⟩ := Value.isInt_shape (k := i) (v := v) h
    exact .inl ⟨i, t, rfl, e⟩
  | .inr x, v, h => by
    obtain ⟨t, e⟩ := Value.isStrOf_shape (x := x) (v := v) h
    exact .inr ⟨x, t, rfl, e⟩
theorem keyIs_str (x : Str) (t : Tok) : keyIs (.inr x) (.str x t) = true := by simp [keyIs, Value.isStrOf]
theorem key_ll (a b : Int) : decide ((Sum.inl a : Key) = Sum.inl b) = (a == b) := by
  by_cases e : a = b
  · subst e; simp
  · have h : ¬ (Sum.inl a : Key) = Sum.inl b := fun q => e (Sum.inl.inj q)
    rw [decide_eq_false h]
    exact (beq_eq_false_iff_ne.mpr e).symm
theorem key_rr (a b : Str) : decide ((Sum.inr a : Key) = Sum.inr b) = decide (a = b) := by
  by_cases e : a = b
  · subst e; simp
  · have h : ¬ (Sum.inr a : Key) = Sum.inr b := fun q => e (Sum.inr.inj q)
    rw [decide_eq_false h, decide_eq_false e]
theorem key_lr (a : Int) (b : Str) : decide ((Sum.inl a : Key) = Sum.inr b) = false := decide_eq_false (fun q => nomatch q)
theorem key_rl (a : Str) (b : Int) : decide ((Sum.inr a : Key) = Sum.inl b) = false := decide_eq_false (fun q => nomatch q)
def mixKind (prog : Program) (w : World) : PySem.KeyKind prog w Key where
  is := keyIs
  hash := keyH w
  inj := fun v a b ha hb => by
    rcases keyIs_shape ha with ⟨i, t, rfl, rfl⟩ | ⟨x, t, rfl, rfl⟩
    · rcases keyIs_shape hb with ⟨j, u, rfl, e⟩ | ⟨y, u, rfl, e⟩
      · injection e with e1 _; rw [e1]
      · exact nomatch e
    · rcases keyIs_shape hb with ⟨j, u, rfl, e⟩ | ⟨y, u, rfl, e⟩
      · exact nomatch e
      · injection e with e1 _; rw [e1]
  byValue := fun k v h => by
    rcases keyIs_shape h with ⟨i, t, rfl, rfl⟩ | ⟨x, t, rfl, rfl⟩ <;> rfl
  pyHash := fun hv h => by
    rcases keyIs_shape hv with ⟨i, t, rfl, rfl⟩ | ⟨x, t, rfl, rfl⟩
    · exact wpAny_pyHash_int h
    · exact wpAny_pyHash_str h
  eqBool := fun hu hv h => by
    rcases keyIs_shape hu with ⟨i, t, rfl, rfl⟩ | ⟨x, t, rfl, rfl⟩
    · rcases keyIs_shape hv with ⟨j, u, rfl, rfl⟩ | ⟨y, u, rfl, rfl⟩
      · rw [key_ll] at h; exact wpAny_eqBool_int h
      · rw [key_lr] at h; exact SeqAt.EqAt.int_str i t y u _ _ _ _ h
    · rcases keyIs_shape hv with ⟨j, u, rfl, rfl⟩ | ⟨y, u, rfl, rfl⟩
      · rw [key_rl] at h; exact SeqAt.EqAt.str_int x t j u _ _ _ _ h
      · rw [key_rr] at h; exact wpAny_eqBool_str h
  «strs» := fun k x t v h => by
    rcases keyIs_shape h with ⟨i, u, rfl, e⟩ | ⟨y, u, rfl, e⟩
    · exact nomatch e
    · injection e with e1 _
      subst e1
      cases v <;> rfl
theorem mixKind_str (prog : Program) (w : World) (x : Str) (t : Tok) : (mixKind prog w).is (.inr x) (.str x t) = true := keyIs_str x t
end L2
namespace L2
open PySem PySem.Spec PyProof.Rows
inductive V where
  | non | bl (b : Bool) | int (i : Int) | str (x : Str) | byt (b : Array UInt8) | flt (b : UInt64) | ref (a : Addr) | ty (n : String)
  deriving DecidableEq
def RelV : V → Value → Prop
  | .non, u => u = Value.none
  | .bl b, u => u = Value.bool b
  | .int i, u => ∃ t, u = Value.int i t
  | .str x, u => ∃ t, u = Value.str x t
  | .byt b, u => ∃ t, u = Value.bytes b t
  | .flt b, u => ∃ t, u = Value.float b t
  | .ref a, u => u = Value.ref a
  | .ty n, u => u = Value.type n
abbrev Vals : List V → List Value → Prop := Paired RelV
theorem Vals.length {xs : List V} {us : List Value} (r : Vals xs us) : xs.length = us.length := Paired.length r
theorem Vals.get : ∀ {xs : List V} {us : List Value} {i : Nat} {x : V}, Vals xs us → xs[i]? = some x → ∃ u, us[i]? = some u ∧ RelV x u
  | _, _, _, _, .nil, e => by simp at e
  | _, _, 0, _, .cons r _, e => by simp at e; subst e; exact ⟨_, rfl, r⟩
  | _, _, i + 1, x, .cons _ t, e => by
    obtain ⟨u, h1, h2⟩ := Vals.get (i := i) (x := x) t (by simpa using e)
    exact ⟨u, by simpa using h1, h2⟩
theorem Vals.set {x : V} {u : Value} (r : RelV x u) : ∀ {xs : List V} {us : List Value} (i : Nat), Vals xs us → Vals (xs.set i x) (us.set i u)
  | _, _, _, .nil => .nil
  | _, _, 0, .cons _ t => .cons r t
  | _, _, i + 1, .cons q t => .cons q (Vals.set r i t)
theorem Vals.append : ∀ {xs ys : List V} {us ws : List Value}, Vals xs us → Vals ys ws → Vals (xs ++ ys) (us ++ ws)
  | _, _, _, _, .nil, s => s
  | _, _, _, _, .cons r t, s => .cons r (Vals.append t s)
theorem Vals.take : ∀ {xs : List V} {us : List Value} (n : Nat), Vals xs us → Vals (xs.take n) (us.take n)
  | _, _, 0, _ => .nil
  | _, _, _ + 1, .nil => .nil
  | _, _, n + 1, .cons r t => .cons r (Vals.take n t)
theorem Vals.drop : ∀ {xs : List V} {us : List Value} (n : Nat), Vals xs us → Vals (xs.drop n) (us.drop n)
  | _, _, 0, r => r
  | _, _, _ + 1, .nil => .nil
  | _, _, n + 1, .cons _ t => Vals.drop n t
def RelO : Option V → Option Value → Prop
  | some v, some u => RelV v u
  | none, none => True
  | _, _ => False
def KV {κ : Type} : List (κ × V) → List (κ × Value) → Prop := Paired fun (p : κ × V) (q : κ × Value) => p.1 = q.1 ∧ RelV p.2 q.2
def kV : Key → V
  | .inl i => .int i
  | .inr x => .str x
inductive HO where
  /-- a list -/
  | lst (xs : List V)
  /-- a tuple (never changes) -/
  | tup (xs : List V)
  /-- a dict whose keys are ints and texts; one whose keys are tuples of ints and texts (the empty one is both) -/
  | dK (kvs : List (Key × V)) | dT (kvs : List (List Key × V))
  /-- a set of ints: its members, its size -/
  | set (S : Int → Bool) (n : Nat)
  /-- an instance of the class at C, its dict at dx, its attributes -/
  | ins (C dx : Addr) (fs : List (Str × V))
  /-- the dict of the instance at x -/
  | own (x : Addr)
  /-- the dict of an exception -/
  | xd (fs : List (Str × V))
  /-- a bound method, f of x -/
  | met (f x : Addr)
  /-- a range object lo, lo + 1, .. below hi -/
  | rng (lo hi : Int)
  /-- a thing that is known to the object (the script; a dict while a loop walks it): read, never written while it is so -/
  | frz (o : Obj) (u : HO)
  /-- a code object's table -/
  | tbl (ps : Array Value)
  /-- any other thing, by what is true of its one object (a def of one's own: SetO a S n := HO.ext fun h => ..) -/
  | ext (φ : Heap → Prop)
abbrev Hp := Addr → Option HO
def upd (H : Hp) (a : Addr) (o : HO) : Hp := fun b => if b = a then some o else H b
theorem upd_same {H : Hp} {a : Addr} {o : HO} : upd H a o a = some o := by unfold upd; rw [if_pos rfl]
theorem upd_ne {H : Hp} {a b : Addr} {o : HO} (h : b ≠ a) : upd H a o b = H b := by unfold upd; rw [if_neg h]
theorem upd_upd {H : Hp} {a : Addr} {o u : HO} : upd (upd H a o) a u = upd H a u := by
  funext b; unfold upd; split <;> rfl
theorem ne_of {H : Hp} {a b : Addr} {o u : HO} (h : H a = some o) (h' : H b = some u) (d : o ≠ u) : a ≠ b := by
  intro e; subst e; rw [h] at h'; exact d (Option.some.inj h')
theorem ne_of_none {H : Hp} {a b : Addr} {o : HO} (h : H a = some o) (h' : H b = none) : a ≠ b := by
  intro e; subst e; rw [h] at h'; cases h'
section
variable (P : Program) (w : World)
def ObjOk (H : Hp) (h : Heap) (a : Addr) : HO → Prop
  | .lst xs => xs.length ≤ sizeLine ∧ ∃ (its : List Value) (n : Nat), Vals xs its ∧ h.get? a = some { cls := .type "list", data := .seq its.toArray n }
  | .tup xs => xs.length ≤ sizeLine ∧ ∃ its : List Value, Vals xs its ∧ IsTup h a its.toArray
  | .dK kvs => kvs.length ≤ sizeLine ∧ (a == sysModules) = false ∧ ∃ vs, KV kvs vs ∧ h.DictOf (mixKind P w) a vs
  | .dT kvs => kvs.length ≤ sizeLine ∧ (a == sysModules) = false ∧ ∃ xs : List (List Key × Addr × Value),
      Paired (fun (p : List Key × V) (q : List Key × Addr × Value) => p.1 = q.1 ∧ H q.2.1 = some (.tup (p.1.map kV)) ∧ RelV p.2 q.2.2) kvs xs ∧
      ∃ o es ep, h.get? a = some o ∧ o.ExactDict ∧ o.data = .dict es ep ∧ es.toList = xs.map (entryOfKey (tupleKind (mixKind P w))) ∧ (xs.map (·.1)).Nodup
  | .set S n => h.SetOf (intKind P w) a S n
  | .ins C dx fs => H dx = some (.own a) ∧ fs.length ≤ 1000 ∧ dx ≠ a ∧ h.get? a = some (PySem.W.instObj C dx) ∧
      ∃ mA, h.Ns1 dx mA ∧ (∀ f, RelO (fs.lookup f) (mA f)) ∧ PySem.Within mA (fs.map (·.1))
  | .own _ => ∃ o, h.get? a = some o
  | .xd fs => ∃ mA, h.Ns1 a mA ∧ ∀ f, RelO (fs.lookup f) (mA f)
  | .rng lo hi => ∃ t u v, h.get? a = some { cls := .type "range", data := .fields #[.int lo t, .int hi u, .int 1 v] }
  | .frz o u => h.get? a = some o ∧ ObjOk H h a u
  | .tbl ps => h.get? a = some { cls := .none, data := .fields ps }
  | .met f x => h.get? a = some (PySem.W.methodObj (.ref f) (.ref x))
  | .ext φ => φ h ∧ (∃ o, h.get? a = some o) ∧ ∀ h1 h2 : Heap, φ h1 → (∀ o, h1.get? a = some o → h2.get? a = some o) → φ h2
def HOk (H : Hp) (h : Heap) : Prop := ∀ a o, H a = some o → ObjOk P w H h a o
end
section
variable {P : Program} {w : World} {H H' : Hp} {h h' : Heap} {a : Addr} {o : HO}
theorem ObjOk.lt (x : ObjOk P w H h a o) : a < h.objs.size := by
  cases o with
  | lst xs => obtain ⟨_, _, _, _, e⟩ := x; exact Heap.lt_size e
  | tup xs => obtain ⟨_, _, _, p⟩ := x; exact p.lt
  | dK kvs => obtain ⟨_, _, _, _, o, _, _, e, _⟩ := x; exact Heap.lt_size e
  | dT kvs => obtain ⟨_, _, _, _, o, _, _, e, _⟩ := x; exact Heap.lt_size e
  | set S n => obtain ⟨o, _, _, _, e, _⟩ := x; exact Heap.lt_size e
  | ins C dx fs => obtain ⟨_, _, _, e, _⟩ := x; exact Heap.lt_size e
  | own y => obtain ⟨_, e⟩ := x; exact Heap.lt_size e
  | xd fs => obtain ⟨_, ⟨_, _, _, e, _⟩, _⟩ := x; exact Heap.lt_size e
  | rng lo hi => obtain ⟨_, _, _, e⟩ := x; exact Heap.lt_size e
  | frz ob u => obtain ⟨e, _⟩ := x; exact Heap.lt_size e
  | tbl ps => exact Heap.lt_size (show h.get? a = some _ from x)
  | met f y => exact Heap.lt_size (show h.get? a = some _ from x)
  | ext φ => obtain ⟨_, ⟨_, e⟩, _⟩ := x; exact Heap.lt_size e
theorem Paired.mapP {α β : Type} {F G : α → β → Prop} : ∀ {l₁ : List α} {l₂ : List β}, Paired F l₁ l₂ → (∀ a b, F a b → G a b) → Paired G l₁ l₂
  | _, _, .nil, _ => .nil
  | _, _, .cons r t, f => .cons (f _ _ r) (Paired.mapP t f)
theorem ObjOk.stay (x : ObjOk P w H h a o) (k : ∀ b u, (b = a ∨ H b = some (.own a)) → h.get? b = some u → h'.get? b = some u)
    (ho : ∀ b, H b = some (.own a) → H' b = some (.own a)) (ht : ∀ b xs, H b = some (.tup xs) → H' b = some (.tup xs)) : ObjOk P w H' h' a o := by
  induction o with
  | lst xs => obtain ⟨z, its, n, r, e⟩ := x; exact ⟨z, its, n, r, k _ _ (.inl rfl) e⟩
  | tup xs => obtain ⟨z, its, r, ob, e, c⟩ := x; exact ⟨z, its, r, ob, k _ _ (.inl rfl) e, c⟩
  | dK kvs => obtain ⟨z, y, vs, r, ob, es, ep, e, c⟩ := x; exact ⟨z, y, vs, r, ob, es, ep, k _ _ (.inl rfl) e, c⟩
  | dT kvs =>
    obtain ⟨z, y, xs, r, ob, es, ep, e, c⟩ := x
    exact ⟨z, y, xs, Paired.mapP r fun p q z => ⟨z.1, ht _ _ z.2.1, z.2.2⟩, ob, es, ep, k _ _ (.inl rfl) e, c⟩
  | set S n => obtain ⟨ob, es, ep, t, e, c⟩ := x; exact ⟨ob, es, ep, t, k _ _ (.inl rfl) e, c⟩
  | ins C dx fs =>
    obtain ⟨d, z, ne, e, mA, ⟨od, es, ep, e2, c⟩, r⟩ := x
    exact ⟨ho _ d, z, ne, k _ _ (.inl rfl) e, mA, ⟨od, es, ep, k _ _ (.inr d) e2, c⟩, r⟩
  | own y => obtain ⟨ob, e⟩ := x; exact ⟨ob, k _ _ (.inl rfl) e⟩
  | xd fs => obtain ⟨mA, ⟨od, es, ep, e, c⟩, r⟩ := x; exact ⟨mA, ⟨od, es, ep, k _ _ (.inl rfl) e, c⟩, r⟩
  | rng lo hi => obtain ⟨t, u, v, e⟩ := x; exact ⟨t, u, v, k _ _ (.inl rfl) e⟩
  | frz ob u ih => obtain ⟨e, q⟩ := x; exact ⟨k _ _ (.inl rfl) e, ih q⟩
  | tbl ps =>
    have e : h.get? a = some { cls := .none, data := .fields ps } := x
    show h'.get? a = some { cls := .none, data := .fields ps }
    exact k a _ (.inl rfl) e
  | met f y =>
    have e : h.get? a = some (PySem.W.methodObj (.ref f) (.ref y)) := x
    show h'.get? a = some (PySem.W.methodObj (.ref f) (.ref y))
    exact k a _ (.inl rfl) e
  | ext φ => obtain ⟨p, ⟨o, e⟩, st⟩ := x; exact ⟨st _ _ p fun o q => k _ _ (.inl rfl) q, ⟨o, k _ _ (.inl rfl) e⟩, st⟩
theorem HOk.lt (x : HOk P w H h) (e : H a = some o) : a < h.objs.size := (x a o e).lt
theorem HOk.fresh (x : HOk P w H h) (e : h.objs.size ≤ a) : H a = none := by
  cases q : H a with
  | none => rfl
  | some u => exact absurd (Nat.lt_of_lt_of_le (x.lt q) e) (Nat.lt_irrefl _)
theorem HOk.kept (x : HOk P w H h) (k : ∀ b u, h.get? b = some u → h'.get? b = some u) : HOk P w H h' := fun a o e =>
  (x a o e).stay (fun b u _ q => k b u q) (fun _ q => q) fun _ _ q => q
theorem HOk.laid (x : HOk P w H h) (k : ∀ b u, h.get? b = some u → h'.get? b = some u) (hp : h.objs.size ≤ a) (new : ObjOk P w (upd H a o) h' a o) : HOk P w (upd H a o) h' := fun b u e => by
  have hn := x.fresh hp
  by_cases hb : b = a
  · subst hb; rw [upd_same] at e; cases e; exact new
  · rw [upd_ne hb] at e
    exact (x b u e).stay (fun c v _ q => k c v q) (fun c q => by rw [upd_ne (ne_of_none q hn)]; exact q) fun c xs q => by rw [upd_ne (ne_of_none q hn)]; exact q
end
def Rd (H : Hp) (a : Addr) (u : HO) : Prop := H a = some u ∨ ∃ o, H a = some (.frz o u)
theorem Rd.ok {P : Program} {w : World} {H : Hp} {h : Heap} {a : Addr} {u : HO} (r : Rd H a u) (x : HOk P w H h) : ObjOk P w H h a u := by
  rcases r with r | ⟨o, r⟩
  · exact x a u r
  · obtain ⟨_, q⟩ := x a _ r
    exact q
def Mut : Option HO → Prop
  | some (.lst _) => True
  | some (.dK _) => True
  | some (.dT _) => True
  | some (.set _ _) => True
  | some (.ins _ _ _) => True
  | some (.ext _) => True
  | _ => False
section
variable {P : Program} {w : World} {H : Hp} {h h' : Heap} {x e : Addr} {o' : HO}
theorem HOk.write (ok : HOk P w H h) (mu : Mut (H x)) (he : e = x ∨ H e = some (.own x)) (k : ∀ b u, b ≠ e → h.get? b = some u → h'.get? b = some u) (heo : ∃ u, h'.get? e = some u)
    (new : ObjOk P w (upd H x o') h' x o') : HOk P w (upd H x o') h' := fun b u q => by
  have nown : ∀ c y, H c = some (.own y) → c ≠ x := fun c y r z => by subst z; rw [r] at mu; exact mu
  have ntup : ∀ c xs, H c = some (.tup xs) → c ≠ x := fun c xs r z => by subst z; rw [r] at mu; exact mu
  by_cases hb : b = x
  · subst hb; rw [upd_same] at q; cases q; exact new
  · rw [upd_ne hb] at q
    by_cases hbe : b = e
    · have q' : H b = some (.own x) := by
        rcases he with z | z
        · exact absurd (hbe.trans z) hb
        · rw [hbe]; exact z
      rw [q] at q'; cases q'
      obtain ⟨v, hv⟩ := heo
      exact ⟨v, by rw [hbe]; exact hv⟩
    · refine (ok b u q).stay (fun c v hc r => k c v ?_ r) (fun c r => by rw [upd_ne (nown c b r)]; exact r) fun c xs r => by rw [upd_ne (ntup c xs r)]; exact r
      rcases hc with rfl | hc
      · exact hbe
      · rintro rfl
        rcases he with z | z
        · exact nown c b hc z
        · rw [hc] at z; cases z; exact hb rfl
end
structure Un (fs ex : List Addr) (H H' : Hp) (h h' : Heap) : Prop where
  keep : ∀ b o, h.get? b = some o → H b = none → b ∉ fs → b ∉ ex → h'.get? b = some o
  slot : ∀ b o, h.get? b = some o → H b = none → b ∈ fs → b ∉ ex → ∃ sl, h'.get? b = some { o with slots := sl }
  free : ∀ b o, h.get? b = some o → H b = none → b ∉ ex → H' b = none
  there : ∀ b o, h.get? b = some o → b ∉ ex → ∃ o', h'.get? b = some o'
  tups : ∀ b xs, H b = some (.tup xs) → H' b = some (.tup xs)
  frzs : ∀ b o u, H b = some (.frz o u) → H' b = some (.frz o u)
  tbls : ∀ b ps, H b = some (.tbl ps) → ∃ more, H' b = some (.tbl (ps ++ more))
section
variable {fs fs' ex ex' : List Addr} {H H1 H2 : Hp} {h h1 h2 h' : Heap} {a x e : Addr} {o : HO}
theorem Un.any (u : Un fs ex H H1 h h1) {b : Addr} {ob : Obj} (q : h.get? b = some ob) (n : H b = none) (hx : b ∉ ex) : ∃ sl, h1.get? b = some { ob with slots := sl } := by
  by_cases hb : b ∈ fs
  · exact u.slot b ob q n hb hx
  · exact ⟨ob.slots, u.keep b ob q n hb hx⟩
theorem Un.kept (k : ∀ b u, h.get? b = some u → h'.get? b = some u) : Un fs ex H H h h' :=
  ⟨fun b ob q _ _ _ => k b ob q, fun b ob q _ _ _ => ⟨ob.slots, k b ob q⟩, fun _ _ _ n _ => n, fun b ob q _ => ⟨ob, k b ob q⟩, fun _ _ q => q, fun _ _ _ q => q, fun _ ps q => ⟨#[], by rw [q]; simp⟩⟩
theorem Un.refl : Un fs ex H H h h := Un.kept fun _ _ q => q
theorem Un.laid (k : ∀ b u, h.get? b = some u → h'.get? b = some u) (hp : h.objs.size ≤ a) (hn : H a = none) : Un fs ex H (upd H a o) h h' where
  keep := fun b u q _ _ _ => k b u q
  slot := fun b u q _ _ _ => ⟨u.slots, k b u q⟩
  free := fun b u q n _ => by rw [upd_ne (Nat.ne_of_lt (Nat.lt_of_lt_of_le (Heap.lt_size q) hp))]; exact n
  there := fun b u q _ => ⟨u, k b u q⟩
  tups := fun b xs q => by rw [upd_ne (ne_of_none q hn)]; exact q
  frzs := fun b u xs q => by rw [upd_ne (ne_of_none q hn)]; exact q
  tbls := fun b ps q => ⟨#[], by rw [upd_ne (ne_of_none q hn), q]; simp⟩
theorem Un.write (mu : Mut (H x)) (he : e = x ∨ H e = some (.own x)) (k : ∀ b u, b ≠ e → h.get? b = some u → h'.get? b = some u) (heo : ∃ u, h'.get? e = some u) : Un fs ex H (upd H x o) h h' := by
  have hx : ∀ b, H b = none → b ≠ x := fun b n z => by subst z; rw [n] at mu; exact mu
  have hb : ∀ b, H b = none → b ≠ e := fun b n z => by
    subst z
    rcases he with r | r
    · exact hx b n r
    · rw [n] at r; cases r
  have hm : ∀ b u, H b = some u → ¬ Mut (some u) → b ≠ x := fun b u q nm z => by subst z; rw [q] at mu; exact nm mu
  refine ⟨fun b u q n _ _ => k b u (hb b n) q, fun b u q n _ _ => ⟨u.slots, k b u (hb b n) q⟩, fun b u q n _ => by rw [upd_ne (hx b n)]; exact n, fun b u q _ => ?_,
    fun b xs q => by rw [upd_ne (hm b _ q fun z => z)]; exact q, fun b u xs q => by rw [upd_ne (hm b _ q fun z => z)]; exact q, fun b ps q => ⟨#[], by rw [upd_ne (hm b _ q fun z => z), q]; simp⟩⟩
  by_cases hbe : b = e
  · subst hbe; exact heo
  · exact ⟨u, k b u hbe q⟩
end
def trk (h : Heap) (H : Hp) : List Addr := (List.range h.objs.size).filter fun a => (H a).isSome
def hidT (h : Heap) (H : Hp) : Heap := PySem.W.hideAll h (trk h H)
theorem hidT_size (h : Heap) (H : Hp) : (hidT h H).objs.size = h.objs.size := PySem.W.hideAll_size _ _
theorem hidT_get {h : Heap} {H : Hp} {b : Addr} {o : Obj} (e : h.get? b = some o) (n : H b = none) : (hidT h H).get? b = some o :=
  PySem.W.hideAll_get _ e fun hm => by
    have q : (H b).isSome = true := (List.mem_filter.mp hm).2
    rw [n] at q; simp at q
theorem of_hidT {h : Heap} {H : Hp} {b : Addr} {o : Obj} (e : (hidT h H).get? b = some o) : h.get? b = some o ∧ H b = none := by
  have e' : h.get? b = some o := PySem.W.of_hideAll (trk h H) e
  refine ⟨e', ?_⟩
  cases q : H b with
  | none => rfl
  | some x =>
    have hm : b ∈ trk h H := List.mem_filter.mpr ⟨List.mem_range.mpr (Heap.lt_size e'), by simp [q]⟩
    have z : (hidT h H).get? b = none := PySem.W.hideAll_none (trk h H) hm
    rw [z] at e; cases e
end L2
namespace L2
open PySem PySem.Spec PyProof.Rows
structure Mod (K : PySem.W.Frag) (mg : Str → Option Value) (base : Heap) : Prop where
  kin : K.In base
  glob : base.Ns mainGlobals mg
  blt : ∃ mb, base.Ns builtinsNs mb ∧ ∀ x : Str, x ≠ "__name__" → mb x = bootBuiltins x
  nolimit : base.NoLimit
structure Cx where
  prog : Program
  w : World
  K : PySem.W.Frag
  mg : Str → Option Value
  base : Heap
  A : Around
  N : List Str
  s₀ : Shared
  H₀ : Hp
  env : Env
  outer : List Env
  stack : List Env
  ex : List Addr
  fn : Str → Bool
  calm : Bool
  pn : List (Addr × Obj)
  xe : Value → Shared → Prop
def frs (l : List Env) : List Addr := l.filterMap (·.frame)
abbrev Cx.fs (X : Cx) : List Addr := frs X.outer
def Vis (sc : Scope) (x : Str) : Prop := sc.names.lookup x = some .local ∨ sc.names.lookup x = some .cell ∨ sc.names.lookup x = some .free
def Loc (sc : Scope) (x : Str) : Prop := sc.names.lookup x = some .local ∨ sc.names.lookup x = some .cell
def Look (env : Env) (h : Heap) (m : Str → Option Value) (x : Str) (u : Value) : Prop :=
  (env.kindOf x = some .local ∧ m x = some u) ∨ ((env.kindOf x = some .cell ∨ env.kindOf x = some .free) ∧ ∃ c, env.cells.lookup x = some c ∧ h.IsCell c (some u))
structure Cx.Ok (X : Cx) : Prop where
  mod : Mod X.K X.mg X.base
  kind : X.env.scope.kind = .function
  glob : X.env.globals = mainGlobals
  blt : X.env.builtins = builtinsNs
  above : X.s₀.heap.objs.size ≤ X.env.locals
  inj : ∀ x y c, X.env.cells.lookup x = some c → X.env.cells.lookup y = some c → x = y
  has : ∀ x, (X.env.kindOf x = some .cell ∨ X.env.kindOf x = some .free) → ∃ c, X.env.cells.lookup x = some c
  cab : ∀ x c, X.fn x = true → X.env.cells.lookup x = some c → X.s₀.heap.objs.size ≤ c
  hd : X.calm = true → X.A.handled = none
  frames : X.A.frames = some X.stack
  stk : X.stack = X.outer ∨ (X.stack = X.env :: X.outer ∧ X.env.frame = some X.env.locals)
  exf : ∀ b ∈ X.ex, b ≠ X.env.locals ∧ ∀ x c, X.env.cells.lookup x = some c → c ≠ b
  bs : ∀ b o, X.base.get? b = some o → X.s₀.heap.get? b = some o ∧ X.H₀ b = none
  bsz : X.base.objs.size ≤ X.s₀.heap.objs.size
  noex : ∀ b o, X.base.get? b = some o → b ∉ X.ex
  exfs : ∀ b ∈ X.ex, b ∉ X.fs
  funs : X.s₀.heap.FunFrames X.base X.outer
  frf : ∀ b ∈ X.fs, X.H₀ b = none
structure Inv (X : Cx) (pins : List (Addr × Obj)) (σ : List (Option V)) (H : Hp) (s : Shared) : Prop where
  ok : X.Ok
  os : s.os = X.s₀.os
  bare : AllBare s.gens
  base : Un X.fs X.ex X.H₀ H X.s₀.heap s.heap
  loc : ∃ m, s.heap.Ns X.env.locals m ∧ ∀ (i : Nat) (x : Str) (v : V), X.N[i]? = some x → σ[i]? = some (some v) → Vis X.env.scope x → ∃ u, RelV v u ∧ Look X.env s.heap m x u
  cell : ∀ x c, X.env.cells.lookup x = some c → ∃ v, s.heap.IsCell c v
  free : H X.env.locals = none
  freeC : ∀ x c, X.env.cells.lookup x = some c → H c = none
  pin : ∀ p ∈ X.pn ++ pins, s.heap.get? p.1 = some p.2 ∧ H p.1 = none ∧ p.1 ≠ X.env.locals ∧ p.1 ∉ X.fs ∧ ∀ v, p.2.data ≠ .cell v
  hok : HOk X.prog X.w H s.heap
  len : σ.length = X.N.length
section
variable {X : Cx} {pins : List (Addr × Obj)} {σ : List (Option V)} {H H' : Hp} {s : Shared} {h' : Heap}
theorem Cx.Ok.nofr (ok : X.Ok) {b : Addr} {o : Obj} (e : X.base.get? b = some o) : b ∉ X.fs := fun hb => by
  have := (ok.funs.mem hb).1
  rw [e] at this; cases this
theorem Inv.bs (I : Inv X pins σ H s) : ∀ b o, X.base.get? b = some o → s.heap.get? b = some o ∧ H b = none := fun b o e =>
  ⟨I.base.keep b o (I.ok.bs b o e).1 (I.ok.bs b o e).2 (I.ok.nofr e) (I.ok.noex b o e), I.base.free b o (I.ok.bs b o e).1 (I.ok.bs b o e).2 (I.ok.noex b o e)⟩
theorem Inv.bk (I : Inv X pins σ H s) : ∀ b o, X.base.get? b = some o → s.heap.get? b = some o := fun b o e => (I.bs b o e).1
theorem Inv.mod (I : Inv X pins σ H s) : Mod X.K X.mg X.base := I.ok.mod
theorem Inv.kIn (I : Inv X pins σ H s) : X.K.In s.heap := I.ok.mod.kin.keeps I.bk
theorem Inv.lt (I : Inv X pins σ H s) : X.env.locals < s.heap.objs.size := let ⟨_, hn, _⟩ := I.loc; hn.lt
theorem Inv.sz (I : Inv X pins σ H s) : X.s₀.heap.objs.size ≤ s.heap.objs.size := Nat.le_trans I.ok.above (Nat.le_of_lt I.lt)
theorem Inv.nofs (I : Inv X pins σ H s) {a : Addr} (h : s.heap.objs.size ≤ a) : a ∉ X.fs := fun hb => by
  obtain ⟨_, o, ho, _⟩ := I.ok.funs.mem hb
  exact absurd (Nat.lt_of_lt_of_le (Heap.lt_size ho) (Nat.le_trans I.sz h)) (Nat.lt_irrefl _)
theorem Inv.cne (I : Inv X pins σ H s) : ∀ x c, X.env.cells.lookup x = some c → c ≠ X.env.locals := fun x c e z => by
  obtain ⟨v, o, ho, hd⟩ := I.cell x c e
  obtain ⟨m, ⟨o', es, ep, ho', hd', _⟩, _⟩ := I.loc
  rw [z, ho'] at ho; cases ho; rw [hd'] at hd; cases hd
theorem Inv.funs (I : Inv X pins σ H s) : s.heap.FunFrames X.base X.outer := by
  have all : ∀ (l : List Env), (∀ b ∈ frs l, b ∈ X.fs) → X.s₀.heap.FunFrames X.base l → s.heap.FunFrames X.base l := by
    intro l
    induction l with
    | nil => intro _ _; trivial
    | cons env r ih =>
      intro hs hl
      obtain ⟨hk, ⟨L, o, hf, hn, ho, hd⟩, hr⟩ := hl
      have hL : L ∈ X.fs := hs L (by unfold frs; rw [List.filterMap_cons, hf]; exact List.mem_cons_self)
      obtain ⟨sl, e⟩ := I.base.slot L o ho (I.ok.frf L hL) hL fun z => I.ok.exfs L z hL
      exact ⟨hk, ⟨L, _, hf, hn, e, hd⟩, ih (fun b hb => hs b (by unfold frs; rw [List.filterMap_cons, hf]; exact List.mem_cons_of_mem _ hb)) hr⟩
  exact all X.outer (fun _ hb => hb) I.ok.funs
theorem Inv.stack (I : Inv X pins σ H s) : s.heap.FunFrames X.base X.stack := by
  rcases I.ok.stk with e | ⟨e, hf⟩
  · rw [e]; exact I.funs
  · rw [e]
    obtain ⟨m, hn, _⟩ := I.loc
    refine .cons (by rw [I.ok.kind]; decide) hf hn ?_ I.funs
    exact Heap.get?_none_of_le (Nat.le_trans I.ok.bsz I.ok.above)
theorem Inv.stkSub (I : Inv X pins σ H s) : ∀ b ∈ frs X.stack, b ∈ X.env.locals :: X.fs := fun b hb => by
  rcases I.ok.stk with e | ⟨e, hf⟩
  · rw [e] at hb; exact List.mem_cons_of_mem _ hb
  · rw [e] at hb
    unfold frs at hb
    rw [List.filterMap_cons, hf] at hb
    exact hb
theorem Inv.stkFree (I : Inv X pins σ H s) : ∀ b ∈ frs X.stack, H b = none := fun b hb => by
  rcases List.mem_cons.mp (I.stkSub b hb) with e | hb
  · rw [e]; exact I.free
  · obtain ⟨_, o, ho, _⟩ := I.ok.funs.mem hb
    exact I.base.free b o ho (I.ok.frf b hb) fun z => I.ok.exfs b z hb
theorem Inv.step {g' : Array GenState} {t' : Nat} {d' : Drawn} {ch : List Addr} (I : Inv X pins σ H s)
    (hch : ∀ b ∈ ch, (b ∈ X.ex ∨ X.s₀.heap.objs.size ≤ b) ∧ b ≠ X.env.locals ∧ (∀ x c, X.env.cells.lookup x = some c → c ≠ b) ∧ ∀ p ∈ X.pn ++ pins, p.1 ≠ b)
    (keep : ∀ b o, b ≠ X.env.locals → b ∉ X.fs → b ∉ ch → s.heap.get? b = some o → H b = none → h'.get? b = some o)
    (slot : ∀ b o, b ≠ X.env.locals → b ∈ X.fs → b ∉ ch → s.heap.get? b = some o → H b = none → ∃ sl, h'.get? b = some { o with slots := sl }) (free : ∀ b o, b ∉ ch → s.heap.get? b = some o → H b = none → H' b = none)
    (there : ∀ b o, b ∉ ch → s.heap.get? b = some o → ∃ o', h'.get? b = some o')
    (tups : ∀ b xs, H b = some (.tup xs) → H' b = some (.tup xs)) (frzs : ∀ b o u, H b = some (.frz o u) → H' b = some (.frz o u)) (tbls : ∀ b ps, H b = some (.tbl ps) → ∃ more, H' b = some (.tbl (ps ++ more)))
    (ns : ∀ m, s.heap.Ns X.env.locals m → h'.Ns X.env.locals m) (hok : HOk X.prog X.w H' h') (hg : AllBare g') :
    Inv X pins σ H' { s with heap := h', gens := g', drawn := d', toks := t' } := by
  have neL : ∀ b o, X.s₀.heap.get? b = some o → b ≠ X.env.locals := fun b o e => Nat.ne_of_lt (Nat.lt_of_lt_of_le (Heap.lt_size e) I.ok.above)
  have neC : ∀ b o, X.s₀.heap.get? b = some o → b ∉ X.ex → b ∉ ch := fun b o e hx hb => by
    rcases (hch b hb).1 with z | z
    · exact hx z
    · exact absurd (Nat.lt_of_lt_of_le (Heap.lt_size e) z) (Nat.lt_irrefl _)
  have cellK : ∀ x c, X.env.cells.lookup x = some c → ∀ v, s.heap.IsCell c v → h'.IsCell c v := fun x c e v ⟨o, ho, hd⟩ => by
    have nch : c ∉ ch := fun z => (hch c z).2.2.1 x c e rfl
    by_cases hc : c ∈ X.fs
    · obtain ⟨sl, q⟩ := slot c o (I.cne x c e) hc nch ho (I.freeC x c e)
      exact ⟨_, q, hd⟩
    · exact ⟨o, keep c o (I.cne x c e) hc nch ho (I.freeC x c e), hd⟩
  refine ⟨I.ok, I.os, hg, ⟨fun b o e n hb hx => ?_, fun b o e n hb hx => ?_, fun b o e n hx => ?_, fun b o e hx => ?_, fun b xs e => tups b xs (I.base.tups b xs e), fun b o xs e => frzs b o xs (I.base.frzs b o xs e), fun b ps e => ?_⟩, ?_, fun x c e => ?_, ?_, fun x c e => ?_, fun p hp => ?_, hok, I.len⟩
  · exact keep b o (neL b o e) hb (neC b o e hx) (I.base.keep b o e n hb hx) (I.base.free b o e n hx)
  · obtain ⟨sl, e1⟩ := I.base.slot b o e n hb hx
    obtain ⟨sl', e2⟩ := slot b _ (neL b o e) hb (neC b o e hx) e1 (I.base.free b o e n hx)
    exact ⟨sl', e2⟩
  · obtain ⟨o', e1⟩ := I.base.there b o e hx
    exact free b o' (neC b o e hx) e1 (I.base.free b o e n hx)
  · obtain ⟨o', e1⟩ := I.base.there b o e hx
    exact there b o' (neC b o e hx) e1
  · obtain ⟨m1, e1⟩ := I.base.tbls b ps e
    obtain ⟨m2, e2⟩ := tbls b _ e1
    exact ⟨m1 ++ m2, by rw [e2, Array.append_assoc]⟩
  · obtain ⟨m, hn, hl⟩ := I.loc
    refine ⟨m, ns m hn, fun i x v e1 e2 e3 => ?_⟩
    obtain ⟨u, r, l⟩ := hl i x v e1 e2 e3
    refine ⟨u, r, ?_⟩
    rcases l with l | ⟨k, c, e, z⟩
    · exact .inl l
    · exact .inr ⟨k, c, e, cellK x c e _ z⟩
  · obtain ⟨v, z⟩ := I.cell x c e
    exact ⟨v, cellK x c e v z⟩
  · obtain ⟨m, ⟨o, _, _, ho, _⟩, _⟩ := I.loc
    exact free _ o (fun z => (hch _ z).2.1 rfl) ho I.free
  · obtain ⟨v, o, ho, hd⟩ := I.cell x c e
    exact free c o (fun z => (hch c z).2.2.1 x c e rfl) ho (I.freeC x c e)
  · obtain ⟨e, n, ne, nf, d⟩ := I.pin p hp
    have nch : p.1 ∉ ch := fun z => (hch p.1 z).2.2.2 p hp rfl
    exact ⟨keep p.1 p.2 ne nf nch e n, free p.1 p.2 nch e n, ne, nf, d⟩
theorem Inv.un {t' : Nat} (I : Inv X pins σ H s) (u : Un X.fs [] H H' s.heap h') (hok : HOk X.prog X.w H' h') : Inv X pins σ H' { s with heap := h', toks := t' } := by
  obtain ⟨m, ⟨o, es, ep, ho, r⟩, _⟩ := id I.loc
  obtain ⟨sl, hL⟩ := u.any ho I.free (by simp)
  exact I.step (g' := s.gens) (d' := s.drawn) (ch := []) (fun _ z => nomatch z) (fun b o _ hb _ e n => u.keep b o e n hb (by simp)) (fun b o _ hb _ e n => u.slot b o e n hb (by simp)) (fun b o _ e n => u.free b o e n (by simp)) (fun b o _ e => u.there b o e (by simp)) u.tups u.frzs u.tbls (fun m' hm => by
    obtain ⟨o', es', ep', ho', r'⟩ := hm
    rw [ho] at ho'; cases ho'
    exact ⟨_, es', ep', hL, r'⟩) hok I.bare
theorem Inv.call {g' : Array GenState} {t' : Nat} {d' : Drawn} {ch : List Addr} (I : Inv X pins σ H s) (u : Un (frs X.stack) ch H H' s.heap h') (hok : HOk X.prog X.w H' h') (hg : AllBare g')
    (hch : ∀ b ∈ ch, (b ∈ X.ex ∨ X.s₀.heap.objs.size ≤ b) ∧ b ≠ X.env.locals ∧ (∀ x c, X.env.cells.lookup x = some c → c ≠ b) ∧ ∀ p ∈ X.pn ++ pins, p.1 ≠ b) :
    Inv X pins σ H' { s with heap := h', gens := g', drawn := d', toks := t' } := by
  obtain ⟨m, ⟨o, es, ep, ho, r⟩, _⟩ := id I.loc
  obtain ⟨sl, hL⟩ := u.any ho I.free fun z => (hch _ z).2.1 rfl
  exact I.step (ch := ch) hch (fun b o hL hb hc e n => u.keep b o e n (fun z => (List.mem_cons.mp (I.stkSub b z)).elim hL hb) hc) (fun b o _ _ hc e n => u.any e n hc) (fun b o hc e n => u.free b o e n hc) (fun b o hc e => u.there b o e hc) u.tups u.frzs u.tbls (fun m' hm => by
    obtain ⟨o', es', ep', ho', r'⟩ := hm
    rw [ho] at ho'; cases ho'
    exact ⟨_, es', ep', hL, r'⟩) hok hg
theorem Inv.turned {t' : Nat} {it : Addr} (I : Inv X pins σ H s) (k : ∀ b o, b ≠ it → s.heap.get? b = some o → h'.get? b = some o) (hn : H it = none) (hL : it ≠ X.env.locals)
    (h1 : it ∈ X.ex ∨ X.s₀.heap.objs.size ≤ it) (h2 : ∀ x c, X.env.cells.lookup x = some c → c ≠ it) (h3 : ∀ p ∈ X.pn ++ pins, p.1 ≠ it) : Inv X pins σ H { s with heap := h', toks := t' } := by
  have nit : ∀ b u, H b = some u → b ≠ it := fun b u e z => by rw [z, hn] at e; cases e
  refine I.step (g' := s.gens) (d' := s.drawn) (ch := [it]) (fun b hb => ?_) (fun b o _ _ hc e _ => k b o (fun z => hc (by simp [z])) e) (fun b o _ _ hc e _ => ⟨o.slots, k b o (fun z => hc (by simp [z])) e⟩) (fun _ _ _ _ n => n)
    (fun b o hc e => ⟨o, k b o (fun z => hc (by simp [z])) e⟩) (fun _ _ e => e) (fun _ _ _ e => e) (fun b ps e => ⟨#[], by rw [e]; simp⟩) (fun m hm => ?_) (fun b u e => ?_) I.bare
  · have e : b = it := by simpa using hb
    subst e
    exact ⟨h1, hL, h2, h3⟩
  · obtain ⟨o, es, ep, ho, r⟩ := hm
    exact ⟨o, es, ep, k _ o (Ne.symm hL) ho, r⟩
  · refine (I.hok b u e).stay (fun c v hc q => k c v ?_ q) (fun _ q => q) fun _ _ q => q
    rcases hc with z | z
    · rw [z]; exact nit b u e
    · exact nit c _ z
theorem Inv.tok (I : Inv X pins σ H s) (t : Nat) : Inv X pins σ H { s with toks := t } := I.un (h' := s.heap) (t' := t) Un.refl I.hok
theorem Inv.kept {t' : Nat} (I : Inv X pins σ H s) (k : ∀ b u, s.heap.get? b = some u → h'.get? b = some u) : Inv X pins σ H { s with heap := h', toks := t' } := I.un (Un.kept k) (I.hok.kept k)
theorem Inv.laid {a : Addr} {o : HO} {t' : Nat} (I : Inv X pins σ H s) (k : ∀ b u, s.heap.get? b = some u → h'.get? b = some u) (hp : s.heap.objs.size ≤ a) (new : ObjOk X.prog X.w (upd H a o) h' a o) :
    Inv X pins σ (upd H a o) { s with heap := h', toks := t' } := I.un (Un.laid k hp (I.hok.fresh hp)) (I.hok.laid k hp new)
theorem Inv.write {x e : Addr} {o : HO} {t' : Nat} (I : Inv X pins σ H s) (mu : Mut (H x)) (he : e = x ∨ H e = some (.own x)) (k : ∀ b u, b ≠ e → s.heap.get? b = some u → h'.get? b = some u) (heo : ∃ u, h'.get? e = some u)
    (new : ObjOk X.prog X.w (upd H x o) h' x o) : Inv X pins σ (upd H x o) { s with heap := h', toks := t' } := I.un (Un.write mu he k heo) (I.hok.write mu he k heo new)
theorem Inv.pins_of {pins' : List (Addr × Obj)} (I : Inv X pins σ H s) (h : ∀ p ∈ pins', s.heap.get? p.1 = some p.2 ∧ H p.1 = none ∧ p.1 ≠ X.env.locals ∧ p.1 ∉ X.fs ∧ ∀ v, p.2.data ≠ .cell v) : Inv X pins' σ H s :=
  ⟨I.ok, I.os, I.bare, I.base, I.loc, I.cell, I.free, I.freeC, fun p hp => (List.mem_append.mp hp).elim (fun z => I.pin p (List.mem_append_left _ z)) (h p), I.hok, I.len⟩
theorem nodup_ix {N : List Str} (hN : N.Nodup) {i j : Nat} {x : Str} (a : N[i]? = some x) (b : N[j]? = some x) : i = j := by
  obtain ⟨h1, e1⟩ := List.getElem?_eq_some_iff.mp a
  obtain ⟨h2, e2⟩ := List.getElem?_eq_some_iff.mp b
  exact (List.getElem_inj hN).mp (e1.trans e2.symm)
theorem store_ok2 {M : Model} {A : Around} {E : Value → Shared → Prop} {i : Nat} {x : Str} {v : V} {u : Value} {Q : Unit → Shared → Prop} (I : Inv X pins σ H s) (hN : X.N.Nodup) (hi : X.N[i]? = some x) (hx : Loc X.env.scope x) (r : RelV v u)
    (h : ∀ s', Inv X pins (σ.set i (some v)) H s' → (∃ a, Heap.SameBut a s.heap s'.heap ∧ (a = X.env.locals ∨ X.env.cells.lookup x = some a)) → Q () s') (hf : X.fn x = true ∨ X.env.scope.names.lookup x = some .local := by first | exact .inl rfl | exact .inr rfl | assumption) : wpAny M A (storeName X.env x u) Q E s := by
  obtain ⟨m, hn, hl⟩ := id I.loc
  have hcls : (X.env.scope.kind == .class || (X.env.scope.kind == .module && X.env.locals != X.env.globals)) = false := by rw [I.ok.kind]; rfl
  have hiσ : i < σ.length := by rw [I.len]; exact (List.getElem?_eq_some_iff.mp hi).1
  have cne := I.cne
  have tracked : ∀ {a : Addr} {h' : Heap}, (∃ o, s.heap.get? a = some o ∧ H a = none) → Heap.SameBut a s.heap h' → HOk X.prog X.w H h' := fun {a h'} ha hs b ob e => by
    obtain ⟨_, _, hfree⟩ := ha
    refine (I.hok b ob e).stay (fun c w' hc q => (hs.2 c ?_).trans q) (fun _ q => q) fun _ _ q => q
    rintro rfl
    rcases hc with rfl | hc
    · rw [hfree] at e; cases e
    · rw [hfree] at hc; cases hc
  rcases hx with hk | hk
  · refine wpAny_storeName_local hk hn (fun h' hn' hs => ?_) hcls
    obtain ⟨oL, _, _, hoL, _⟩ := id hn
    refine h _ ⟨I.ok, I.os, I.bare, ⟨fun b o e n hb hx => ?_, fun b o e n hb hx => ?_, I.base.free, fun b o e hx => ?_, I.base.tups, I.base.frzs, I.base.tbls⟩, ⟨_, hn', fun j y v' e1 e2 e3 => ?_⟩, fun y c e => ?_, I.free, I.freeC, fun p hp => ?_, tracked ⟨oL, hoL, I.free⟩ hs, by simpa using I.len⟩ ⟨_, hs, .inl rfl⟩
    · exact (hs.2 b (Nat.ne_of_lt (Nat.lt_of_lt_of_le (Heap.lt_size e) I.ok.above))).trans (I.base.keep b o e n hb hx)
    · obtain ⟨sl, e1⟩ := I.base.slot b o e n hb hx
      exact ⟨sl, (hs.2 b (Nat.ne_of_lt (Nat.lt_of_lt_of_le (Heap.lt_size e) I.ok.above))).trans e1⟩
    · obtain ⟨o', e1⟩ := I.base.there b o e hx
      exact ⟨o', (hs.2 b (Nat.ne_of_lt (Nat.lt_of_lt_of_le (Heap.lt_size e) I.ok.above))).trans e1⟩
    · by_cases hj : j = i
      · subst hj
        rw [hi] at e1; cases e1
        rw [List.getElem?_set_self hiσ] at e2
        cases e2
        exact ⟨u, r, .inl ⟨hk, by simp⟩⟩
      · rw [List.getElem?_set_ne (Ne.symm hj)] at e2
        obtain ⟨u', r', q⟩ := hl j y v' e1 e2 e3
        refine ⟨u', r', ?_⟩
        rcases q with ⟨k, e⟩ | ⟨k, c, e, z⟩
        · refine .inl ⟨k, ?_⟩
          have : y ≠ x := fun e => hj (nodup_ix hN e1 (e ▸ hi))
          simp [this, e]
        · exact .inr ⟨k, c, e, z.sameBut hs (cne y c e)⟩
    · obtain ⟨w', z⟩ := I.cell y c e
      exact ⟨w', z.sameBut hs (cne y c e)⟩
    · obtain ⟨e, n, ne, nf, d⟩ := I.pin p hp
      exact ⟨(hs.2 p.1 ne).trans e, n, ne, nf, d⟩
  · have hfn : X.fn x = true := by
      rcases hf with z | z
      · exact z
      · rw [z] at hk; cases hk
    obtain ⟨c, hc⟩ := I.ok.has x (.inl hk)
    obtain ⟨w', z⟩ := I.cell x c hc
    refine wpAny_storeName_cell I.ok.kind hk hc z (fun h' hc' hs => ?_)
    obtain ⟨oc, hoc, hocd⟩ := id z
    refine h { s with heap := h' } ⟨I.ok, I.os, I.bare, ⟨fun b o e n hb hx => ?_, fun b o e n hb hx => ?_, I.base.free, fun b o e hx => ?_, I.base.tups, I.base.frzs, I.base.tbls⟩, ⟨m, hn.sameBut hs (Ne.symm (cne x c hc)), fun j y v' e1 e2 e3 => ?_⟩, fun y c' e => ?_, I.free, I.freeC, fun p hp => ?_, tracked ⟨oc, hoc, I.freeC x c hc⟩ hs, by simpa using I.len⟩ ⟨c, hs, .inr hc⟩
    · exact (hs.2 b (Nat.ne_of_lt (Nat.lt_of_lt_of_le (Heap.lt_size e) (I.ok.cab x c hfn hc)))).trans (I.base.keep b o e n hb hx)
    · obtain ⟨sl, e1⟩ := I.base.slot b o e n hb hx
      exact ⟨sl, (hs.2 b (Nat.ne_of_lt (Nat.lt_of_lt_of_le (Heap.lt_size e) (I.ok.cab x c hfn hc)))).trans e1⟩
    · obtain ⟨o', e1⟩ := I.base.there b o e hx
      exact ⟨o', (hs.2 b (Nat.ne_of_lt (Nat.lt_of_lt_of_le (Heap.lt_size e) (I.ok.cab x c hfn hc)))).trans e1⟩
    · by_cases hj : j = i
      · subst hj
        rw [hi] at e1; cases e1
        rw [List.getElem?_set_self hiσ] at e2
        cases e2
        exact ⟨u, r, .inr ⟨.inl hk, c, hc, hc'⟩⟩
      · rw [List.getElem?_set_ne (Ne.symm hj)] at e2
        obtain ⟨u', r', q⟩ := hl j y v' e1 e2 e3
        refine ⟨u', r', ?_⟩
        rcases q with q | ⟨k, c', e, z'⟩
        · exact .inl q
        · refine .inr ⟨k, c', e, z'.sameBut hs ?_⟩
          rintro rfl
          exact hj (nodup_ix hN e1 (I.ok.inj _ _ _ e hc ▸ hi))
    · by_cases hcc : c' = c
      · subst hcc; exact ⟨_, hc'⟩
      · obtain ⟨w2, z2⟩ := I.cell y c' e
        exact ⟨w2, z2.sameBut hs hcc⟩
    · obtain ⟨e, n, ne, nf, d⟩ := I.pin p hp
      refine ⟨(hs.2 p.1 ?_).trans e, n, ne, nf, d⟩
      intro q
      rw [q, hoc] at e
      have q' : oc = p.2 := Option.some.inj e
      exact d w' (by rw [← q']; exact hocd)
theorem store_ok {M : Model} {A : Around} {E : Value → Shared → Prop} {i : Nat} {x : Str} {v : V} {u : Value} {Q : Unit → Shared → Prop} (I : Inv X pins σ H s) (hN : X.N.Nodup) (hi : X.N[i]? = some x) (hx : Loc X.env.scope x) (r : RelV v u)
    (h : ∀ s', Inv X pins (σ.set i (some v)) H s' → Q () s') (hf : X.fn x = true ∨ X.env.scope.names.lookup x = some .local := by first | exact .inl rfl | exact .inr rfl | assumption) : wpAny M A (storeName X.env x u) Q E s :=
  store_ok2 I hN hi hx r (fun s' I' _ => h s' I') hf
theorem Inv.call' {s' : Shared} {ch : List Addr} (I : Inv X pins σ H s) (ho : s'.os = s.os) (u : Un (frs X.stack) ch H H' s.heap s'.heap) (hok : HOk X.prog X.w H' s'.heap) (hg : AllBare s'.gens)
    (hch : ∀ b ∈ ch, (b ∈ X.ex ∨ X.s₀.heap.objs.size ≤ b) ∧ b ≠ X.env.locals ∧ (∀ x c, X.env.cells.lookup x = some c → c ≠ b) ∧ ∀ p ∈ X.pn ++ pins, p.1 ≠ b) : Inv X pins σ H' s' := by
  obtain ⟨h', g', d', t', o'⟩ := s'
  have e : o' = s.os := ho
  subst e
  exact I.call (g' := g') (t' := t') (d' := d') u hok hg hch
end
abbrev XK := Value → Option Addr → Hp → Prop
abbrev St := List (Option V)
abbrev VK := V → Hp → Prop
abbrev TE := St → Hp → VK → Prop
abbrev TT := St → Hp → (Bool → Hp → Prop) → Prop
abbrev TA := St → Hp → (List V → Hp → Prop) → Prop
structure Ends where
  nx : St → Hp → Prop
  rt : VK
  bk : St → Hp → Prop := fun _ _ => False
  ct : St → Hp → Prop := fun _ _ => False
abbrev TS := Ends → St → Hp → Prop
def EP (X : Cx) (pins : List (Addr × Obj)) (σ : St) (Q : VK) (u : Value) (s' : Shared) : Prop := ∃ v H', Inv X pins σ H' s' ∧ RelV v u ∧ Q v H'
def TP (X : Cx) (pins : List (Addr × Obj)) (σ : St) (Q : Bool → Hp → Prop) (b : Bool) (s' : Shared) : Prop := ∃ H', Inv X pins σ H' s' ∧ Q b H'
def AP (X : Cx) (pins : List (Addr × Obj)) (σ : St) (Q : List V → Hp → Prop) (us : List Value) (s' : Shared) : Prop := ∃ vs H', Inv X pins σ H' s' ∧ Vals vs us ∧ Q vs H'
def SP (X : Cx) (pins : List (Addr × Obj)) (D : Ends) (f : Flow) (s' : Shared) : Prop :=
  match f with
  | .next => ∃ σ' H', Inv X pins σ' H' s' ∧ D.nx σ' H'
  | .brk => ∃ σ' H', Inv X pins σ' H' s' ∧ D.bk σ' H'
  | .cont => ∃ σ' H', Inv X pins σ' H' s' ∧ D.ct σ' H'
  | .ret u => ∃ v σ' H', Inv X pins σ' H' s' ∧ RelV v u ∧ D.rt v H'
def PE (X : Cx) (e : Expr) (t : TE) : Prop :=
  ∀ (pins : List (Addr × Obj)) (s : Shared) (σ : St) (H : Hp) (Q : VK), Inv X pins σ H s → t σ H Q → wpAny (model X.prog X.w) X.A (eval e X.env) (EP X pins σ Q) X.xe s
def PT (X : Cx) (e : Expr) (t : TT) : Prop :=
  ∀ (pins : List (Addr × Obj)) (s : Shared) (σ : St) (H : Hp) (Q : Bool → Hp → Prop), Inv X pins σ H s → t σ H Q → wpAny (model X.prog X.w) X.A (isTrue e X.env (eval e X.env)) (TP X pins σ Q) X.xe s
def PW (X : Cx) (e : Expr) (t : TT) : Prop :=
  ∀ (whole : Sem Value) (pins : List (Addr × Obj)) (s : Shared) (σ : St) (H : Hp) (Q : Bool → Hp → Prop), Inv X pins σ H s → t σ H Q → wpAny (model X.prog X.w) X.A (isTrue e X.env whole) (TP X pins σ Q) X.xe s
theorem PW.pt {X : Cx} {e : Expr} {t : TT} (h : PW X e t) : PT X e t := h _
def PA (X : Cx) (es : List Expr) (t : TA) : Prop :=
  ∀ (pos : Pos) (pins : List (Addr × Obj)) (s : Shared) (σ : St) (H : Hp) (Q : List V → Hp → Prop), Inv X pins σ H s → t σ H Q → wpAny (model X.prog X.w) X.A (spliced (backTo pos (starEach es X.env))) (AP X pins σ Q) X.xe s
def PS (X : Cx) (st : Stmt) (t : TS) : Prop :=
  ∀ (pins : List (Addr × Obj)) (s : Shared) (σ : St) (H : Hp) (D : Ends), Inv X pins σ H s → t D σ H → wpAny (model X.prog X.w) X.A (exec st X.env) (SP X pins D) X.xe s
def PSs (X : Cx) (st : List Stmt) (t : TS) : Prop :=
  ∀ (pins : List (Addr × Obj)) (s : Shared) (σ : St) (H : Hp) (D : Ends), Inv X pins σ H s → t D σ H → wpAny (model X.prog X.w) X.A (execs st X.env) (SP X pins D) X.xe s
theorem thn {α : Type} {t : Sem α} {Q Q' : α → Shared → Prop} {M : Model} {A : Around} {E : Value → Shared → Prop} {s : Shared} (h : wpAny M A t Q E s) (hQ : ∀ a s, Q a s → Q' a s) : wpAny M A t Q' E s := wpAny_mono h hQ fun _ _ x => x
end L2
namespace L2
open PySem PySem.Spec PyProof.Rows
section
variable {X : Cx}
def tVar (i : Nat) : TE := fun σ H Q => ∃ v, σ[i]? = some (some v) ∧ Q v H
def tC (v : V) : TE := fun _ H Q => Q v H
theorem pe_var {i : Nat} {x : Str} {pos : Pos} (hN : X.N[i]? = some x) (hv : Vis X.env.scope x) (hd : (x == ("__debug__" : Str)) = false := by decide) (hcd : (x == ("__classdict__" : Str)) = false := by decide) : PE X (.Name x pos) (tVar i) := by
  intro pins s σ H Q I h
  obtain ⟨v, e, h⟩ := h
  obtain ⟨m, hn, hl⟩ := I.loc
  obtain ⟨u, r, l⟩ := hl i x v hN e hv
  have fin : EP X pins σ Q u s := ⟨v, H, I, r, h⟩
  rcases l with ⟨hk, hm⟩ | ⟨hk, c, hc, hcell⟩
  · exact wpAny_Name (wpAny_loadName_local I.ok.kind hk hn hm fin) hd
  · rcases hk with hk | hk
    · exact wpAny_Name (wpAny_loadName_cell I.ok.kind hk hc hcell fin) hd
    · exact wpAny_Name (wpAny_loadName_free I.ok.kind hk hc hcell fin hcd) hd
theorem pe_int {i j pos} : PE X (.Constant (.int i) j pos) (tC (.int i)) := fun _ _ _ H _ I h => wpAny_Constant_int ⟨.int i, H, I.tok _, ⟨_, rfl⟩, h⟩
theorem pe_bl {b j pos} : PE X (.Constant (.bool b) j pos) (tC (.bl b)) := fun _ _ _ H _ I h => Constant_bool ⟨.bl b, H, I, rfl, h⟩
theorem pe_str {x j pos} : PE X (.Constant (.str x) j pos) (tC (.str x)) := fun _ _ _ H _ I h => Calls.Constant_str ⟨.str x, H, I.tok _, ⟨_, rfl⟩, h⟩
def Gl (X : Cx) (x : Str) : Prop := X.env.kindOf x = some .globalImplicit
theorem ld_glob {E : Value → Shared → Prop} {pins : List (Addr × Obj)} {s : Shared} {σ : St} {H : Hp} {x : Str} {u : Value} {pos : Pos} {Q : Value → Shared → Prop} (I : Inv X pins σ H s) (hg : Gl X x) (hm : X.mg x = some u) (h : Q u s)
    (hd : (x == ("__debug__" : Str)) = false := by decide) : wpAny (model X.prog X.w) X.A (eval (.Name x pos) X.env) Q E s :=
  Calls.Name_function_global I.ok.kind hg (Calls.loadGlobal_global (by rw [I.ok.glob]; exact I.mod.glob.keeps I.bk) hm h) hd
theorem ld_blt {E : Value → Shared → Prop} {pins : List (Addr × Obj)} {s : Shared} {σ : St} {H : Hp} {x : Str} {u : Value} {pos : Pos} {Q : Value → Shared → Prop} (I : Inv X pins σ H s) (hg : Gl X x) (hm : X.mg x = none) (hv : bootBuiltins x = some u) (h : Q u s)
    (hn : x ≠ "__name__" := by decide) (hd : (x == ("__debug__" : Str)) = false := by decide) : wpAny (model X.prog X.w) X.A (eval (.Name x pos) X.env) Q E s := by
  obtain ⟨mb, h1, h2⟩ := I.mod.blt
  exact Calls.Name_function_global I.ok.kind hg (Calls.loadGlobal_builtin (by rw [I.ok.glob]; exact I.mod.glob.keeps I.bk) hm (by rw [I.ok.blt]; exact h1.keeps I.bk) ((h2 x hn).trans hv) h) hd
theorem pe_glob {x : Str} {v : V} {u : Value} {pos : Pos} (hg : Gl X x) (hm : X.mg x = some u) (r : RelV v u) (hd : (x == ("__debug__" : Str)) = false := by decide) : PE X (.Name x pos) (tC v) :=
  fun _ _ _ H _ I h => ld_glob I hg hm ⟨v, H, I, r, h⟩ hd
theorem pe_bltn {x : Str} {v : V} {u : Value} {pos : Pos} (hg : Gl X x) (hm : X.mg x = none) (hv : bootBuiltins x = some u) (r : RelV v u) (hn : x ≠ "__name__" := by decide) (hd : (x == ("__debug__" : Str)) = false := by decide) : PE X (.Name x pos) (tC v) :=
  fun _ _ _ H _ I h => ld_blt I hg hm hv ⟨v, H, I, r, h⟩ hn hd
variable {a b : Expr} {ta tb : TE} {pos : Pos}
variable {tA tB' : TT} {rest : List Expr}
def tOr (t u : TT) : TT := fun σ H Q => t σ H fun c H1 => if c = true then Q true H1 else u σ H1 Q
def tNot (t : TT) : TT := fun σ H Q => t σ H fun c H1 => Q (!c) H1
theorem pw_or1 (ha : PT X a tA) : PW X (.BoolOp .Or [a] pos) tA := by
  intro wh pins s σ H Q I h
  refine isTrue_or (thn (ha pins s σ H Q I h) fun c s1 e => ?_)
  cases c with
  | false => exact isTrue_or_nil e
  | true => exact e
theorem pw_or (ha : PT X a tA) (hb : PW X (.BoolOp .Or (b :: rest) pos) tB') : PW X (.BoolOp .Or (a :: b :: rest) pos) (tOr tA tB') := by
  intro wh pins s σ H Q I h
  refine isTrue_or (thn (ha pins s σ H _ I h) fun c s1 ⟨H1, I1, q1⟩ => ?_)
  cases c with
  | true => exact ⟨H1, I1, q1⟩
  | false => exact hb wh pins s1 σ H1 Q I1 q1
theorem pt_not (ha : PT X a tA) : PT X (.UnaryOp .Not a pos) (tNot tA) := by
  intro pins s σ H Q I h
  exact isTrue_not (ha pins s σ H (fun c H1 => Q (!c) H1) I h)
def tAndV (ta tb : TE) : TE := fun σ H Q => ta σ H fun x H1 => ∃ c, x = .bl c ∧ if c = true then tb σ H1 Q else Q (.bl false) H1
def tNotV (ta : TE) : TE := fun σ H Q => ta σ H fun x H1 => ∃ c, x = .bl c ∧ Q (.bl (!c)) H1
theorem pe_one {op} {t : TE} (h : PE X a t) : PE X (.BoolOp op [a] pos) t := fun pins s σ H Q I hw => BoolOp_one (h pins s σ H Q I hw)
theorem pe_and (ha : PE X a ta) (hb : PE X (.BoolOp .And (b :: rest) pos) tb) : PE X (.BoolOp .And (a :: b :: rest) pos) (tAndV ta tb) := by
  intro pins s σ H Q I h
  refine BoolOp_and (thn (ha pins s σ H _ I h) fun v s1 ⟨x, H1, I1, r1, q1⟩ => ?_)
  obtain ⟨c, rfl, q1⟩ := q1
  cases r1
  refine wpAny_truthy_bool ?_
  cases c with
  | true => exact hb pins s1 σ H1 Q I1 q1
  | false => exact ⟨.bl false, H1, I1, rfl, q1⟩
theorem pe_not (ha : PE X a ta) : PE X (.UnaryOp .Not a pos) (tNotV ta) := by
  intro pins s σ H Q I h
  refine UnaryOp_ (thn (ha pins s σ H _ I h) fun v s1 ⟨x, H1, I1, r1, q1⟩ => ?_)
  obtain ⟨c, rfl, q1⟩ := q1
  cases r1
  exact not_of (wpAny_truthy_bool ⟨.bl (!c), H1, I1, rfl, q1⟩)
end
end L2
namespace L2
open PySem PySem.Spec PyProof.Rows
def SqL (K : PySem.W.Frag) (H : Hp) (a : Addr) (xs : List V) : Prop :=
  Rd H a (.lst xs) ∨
    ∃ (o : Obj) (its : Array Value) (n : Nat), K.lookup a = some o ∧ o.cls = .type "list" ∧ o.dict = none ∧ o.data = .seq its n ∧ its.size ≤ sizeLine ∧ Vals xs its.toList
def SqT (K : PySem.W.Frag) (H : Hp) (a : Addr) (xs : List V) : Prop :=
  Rd H a (.tup xs) ∨
    ∃ (o : Obj) (its : Array Value) (n : Nat), K.lookup a = some o ∧ o.cls = .type "tuple" ∧ o.data = .seq its n ∧ its.size ≤ sizeLine ∧ Vals xs its.toList
def absV : Value → Option V
  | .none => some .non
  | .bool b => some (.bl b)
  | .int i _ => some (.int i)
  | .str x _ => some (.str x)
  | .bytes b _ => some (.byt b)
  | .float b _ => some (.flt b)
  | .ref a => some (.ref a)
  | .type n => some (.ty n)
  | _ => none
theorem RelV.abs {x : V} {u : Value} (r : RelV x u) : absV u = some x := by
  cases x with
  | non => cases r; rfl
  | bl _ => cases r; rfl
  | int _ => obtain ⟨t, rfl⟩ := r; rfl
  | str _ => obtain ⟨t, rfl⟩ := r; rfl
  | byt _ => obtain ⟨t, rfl⟩ := r; rfl
  | flt _ => obtain ⟨t, rfl⟩ := r; rfl
  | ref _ => cases r; rfl
  | ty _ => cases r; rfl
theorem RelV.inj {x y : V} {u : Value} (r : RelV x u) (q : RelV y u) : x = y := Option.some.inj (r.abs.symm.trans q.abs)
theorem Vals.inj : ∀ {xs ys : List V} {us : List Value}, Vals xs us → Vals ys us → xs = ys
  | _, _, _, .nil, .nil => rfl
  | _, _, _, .cons r t, .cons r' t' => by rw [r.inj r', Vals.inj t t']
section
variable {X : Cx} {pins : List (Addr × Obj)} {σ : St} {H : Hp} {s : Shared} {a : Addr} {xs ys : List V}
theorem SqL.of {K : PySem.W.Frag} (h : H a = some (.lst xs)) : SqL K H a xs := .inl (.inl h)
theorem SqT.of {K : PySem.W.Frag} (h : H a = some (.tup xs)) : SqT K H a xs := .inl (.inl h)
theorem Inv.list (I : Inv X pins σ H s) (h : SqL X.K H a xs) : ∃ its : List Value, Vals xs its ∧ PlainL s.heap a its.toArray ∧ xs.length ≤ sizeLine := by
  rcases h with h | ⟨o, its, n, hk, hc, hd, hs, hz, r⟩
  · obtain ⟨z, its, n, r, e⟩ := h.ok I.hok
    exact ⟨its, r, ⟨_, n, e, rfl, rfl, rfl⟩, z⟩
  · refine ⟨its.toList, r, ⟨o, n, I.kIn a o hk, hc, hd, by simpa using hs⟩, ?_⟩
    have e := r.length
    simp only [Array.length_toList] at e
    omega
theorem Inv.tuple (I : Inv X pins σ H s) (h : SqT X.K H a xs) : ∃ its : List Value, Vals xs its ∧ IsTup s.heap a its.toArray ∧ xs.length ≤ sizeLine := by
  rcases h with h | ⟨o, its, n, hk, hc, hs, hz, r⟩
  · obtain ⟨z, its, r, p⟩ := h.ok I.hok
    exact ⟨its, r, p, z⟩
  · refine ⟨its.toList, r, ⟨o, I.kIn a o hk, hc, n, by simpa using hs⟩, ?_⟩
    have e := r.length
    simp only [Array.length_toList] at e
    omega
theorem Inv.list_inj (I : Inv X pins σ H s) (h : SqL X.K H a xs) (h' : SqL X.K H a ys) : xs = ys := by
  obtain ⟨its, r, ⟨o, n, e, _, _, d⟩, _⟩ := I.list h
  obtain ⟨its', r', ⟨o', n', e', _, _, d'⟩, _⟩ := I.list h'
  rw [e] at e'; cases e'
  rw [d] at d'
  injection d' with d1 _
  have : its = its' := by simpa using congrArg Array.toList d1
  subst this
  exact r.inj r'
theorem Inv.tuple_inj (I : Inv X pins σ H s) (h : SqT X.K H a xs) (h' : SqT X.K H a ys) : xs = ys := by
  obtain ⟨its, r, ⟨o, e, _, n, d⟩, _⟩ := I.tuple h
  obtain ⟨its', r', ⟨o', e', _, n', d'⟩, _⟩ := I.tuple h'
  rw [e] at e'; cases e'
  rw [d] at d'
  injection d' with d1 _
  have : its = its' := by simpa using congrArg Array.toList d1
  subst this
  exact r.inj r'
end
abbrev Cx.wish (X : Cx) (E : Value → Shared → Prop) : Cx := { X with xe := E }
abbrev Cx.nox (X : Cx) : Cx := X.wish fun _ _ => False
theorem Cx.Ok.wish {X : Cx} (ok : X.Ok) (E : Value → Shared → Prop) : (X.wish E).Ok :=
  ⟨ok.mod, ok.kind, ok.glob, ok.blt, ok.above, ok.inj, ok.has, ok.cab, ok.hd, ok.frames, ok.stk, ok.exf, ok.bs, ok.bsz, ok.noex, ok.exfs, ok.funs, ok.frf⟩
theorem Cx.Ok.unwish {X : Cx} {E : Value → Shared → Prop} (ok : (X.wish E).Ok) : X.Ok :=
  ⟨ok.mod, ok.kind, ok.glob, ok.blt, ok.above, ok.inj, ok.has, ok.cab, ok.hd, ok.frames, ok.stk, ok.exf, ok.bs, ok.bsz, ok.noex, ok.exfs, ok.funs, ok.frf⟩
section
variable {X : Cx} {pins : List (Addr × Obj)} {σ : St} {H : Hp} {s : Shared} {E : Value → Shared → Prop}
theorem Inv.wish (I : Inv X pins σ H s) (E : Value → Shared → Prop) : Inv (X.wish E) pins σ H s := ⟨I.ok.wish E, I.os, I.bare, I.base, I.loc, I.cell, I.free, I.freeC, I.pin, I.hok, I.len⟩
theorem Inv.unwish (I : Inv (X.wish E) pins σ H s) : Inv X pins σ H s := ⟨I.ok.unwish, I.os, I.bare, I.base, I.loc, I.cell, I.free, I.freeC, I.pin, I.hok, I.len⟩
theorem SP.unwish {D : Ends} {f : Flow} {s' : Shared} (h : SP (X.wish E) pins D f s') : SP X pins D f s' := by
  cases f with
  | next => obtain ⟨σ', H', I, q⟩ := h; exact ⟨σ', H', I.unwish, q⟩
  | brk => obtain ⟨σ', H', I, q⟩ := h; exact ⟨σ', H', I.unwish, q⟩
  | cont => obtain ⟨σ', H', I, q⟩ := h; exact ⟨σ', H', I.unwish, q⟩
  | ret u => obtain ⟨v, σ', H', I, r, q⟩ := h; exact ⟨v, σ', H', I.unwish, r, q⟩
theorem PSs.nox {st : List Stmt} {t : TS} (h : PSs X.nox st t) : PSs X st t := fun pins s σ H D I hw =>
  wpAny_mono (h pins s σ H D (I.wish _) hw) (fun _ _ q => q.unwish) fun _ _ z => False.elim z
end
section
variable {X : Cx} {st : Stmt} {rest : List Stmt} {t u : TS} {e : Expr} {te : TE} {pos : Pos}
def tNext : TS := fun D σ H => D.nx σ H
def tSeq (t u : TS) : TS := fun D σ H => t { D with nx := u D } σ H
theorem pss_nil : PSs X [] tNext := fun _ _ σ H _ I h => wpAny_execs_nil ⟨σ, H, I, h⟩
theorem pss_cons (h1 : PS X st t) (h2 : PSs X rest u) : PSs X (st :: rest) (tSeq t u) := by
  intro pins s σ H D I h
  refine wpAny_execs_cons (thn (h1 pins s σ H { D with nx := u D } I h) fun f s1 q => ?_)
  cases f with
  | next =>
    obtain ⟨σ', H', I', q⟩ := q
    exact h2 pins s1 σ' H' D I' q
  | ret v => exact q
  | brk => exact q
  | cont => exact q
theorem pss_one (h1 : PS X st t) : PSs X [st] t := by
  intro pins s σ H D I h
  refine wpAny_execs_cons (thn (h1 pins s σ H D I h) fun f s1 q => ?_)
  cases f with
  | next => exact wpAny_execs_nil q
  | ret v => exact q
  | brk => exact q
  | cont => exact q
theorem Inv.quiet {pins : List (Addr × Obj)} {σ : St} {H : Hp} {s : Shared} (I : Inv X pins σ H s) : interactive X.env = false := by simp [interactive, I.ok.kind]
def tDrop (te : TE) : TS := fun D σ H => te σ H fun _ H1 => D.nx σ H1
theorem ps_expr (he : PE X e te) (hs : swapsWith e none pos.line X.env = pure false := by rfl) : PS X (.Expr e pos) (tDrop te) := by
  intro pins s σ H D I h
  exact wpAny_Expr_any (thn (he pins s σ H _ I h) fun v s1 ⟨x, H1, I1, r1, q1⟩ => ⟨σ, H1, I1, q1⟩) I.quiet hs
def tRet (te : TE) : TS := fun D σ H => te σ H D.rt
theorem ps_ret (he : PE X e te) : PS X (.Return (some e) pos) (tRet te) := by
  intro pins s σ H D I h
  exact wpAny_Return_some (thn (he pins s σ H _ I h) fun v s1 ⟨x, H1, I1, r1, q1⟩ => ⟨x, σ, H1, I1, r1, q1⟩)
def tIfS (c : TT) (t u : TS) : TS := fun D σ H => c σ H fun b H1 => if b = true then t D σ H1 else u D σ H1
theorem ps_if {c : Expr} {a b : List Stmt} {tc : TT} (hc : PT X c tc) (ha : PSs X a t) (hb : PSs X b u) : PS X (.If c a b pos) (tIfS tc t u) := by
  intro pins s σ H D I h
  refine wpAny_If (thn (hc pins s σ H _ I h) fun d s1 ⟨H1, I1, q1⟩ => ?_)
  cases d with
  | true => exact ha pins s1 σ H1 D I1 q1
  | false => exact hb pins s1 σ H1 D I1 q1
def tNever : TS := fun _ _ _ => False
theorem ps_never : PS X st tNever := fun _ _ _ _ _ _ h => h.elim
end
abbrev TG := V → St → Hp → (St → Hp → Prop) → Prop
abbrev TGs := List V → St → Hp → (St → Hp → Prop) → Prop
def PG (X : Cx) (target : Expr) (t : TG) : Prop :=
  ∀ (pins : List (Addr × Obj)) (s : Shared) (σ : St) (H : Hp) (v : V) (u : Value) (Q : St → Hp → Prop), Inv X pins σ H s → RelV v u → t v σ H Q →
    wpAny (model X.prog X.w) X.A (assign target X.env u) (fun _ s' => ∃ σ' H', Inv X pins σ' H' s' ∧ Q σ' H') X.xe s
def PGs (X : Cx) (ts : List Expr) (t : TGs) : Prop :=
  ∀ (pins : List (Addr × Obj)) (s : Shared) (σ : St) (H : Hp) (vs : List V) (us : List Value) (Q : St → Hp → Prop), Inv X pins σ H s → Vals vs us → t vs σ H Q →
    wpAny (model X.prog X.w) X.A (assignInOrder ((assignEach ts X.env).map (·.2)) us) (fun _ s' => ∃ σ' H', Inv X pins σ' H' s' ∧ Q σ' H') X.xe s
abbrev TSet := V → V → V → Hp → (Hp → Prop) → Prop
def PSet (X : Cx) (t : TSet) : Prop :=
  ∀ (pins : List (Addr × Obj)) (s : Shared) (σ : St) (H : Hp) (o i v : V) (ov iv u : Value) (Q : Hp → Prop), Inv X pins σ H s → RelV o ov → RelV i iv → RelV v u → t o i v H Q →
    wpAny (model X.prog X.w) X.A (setItem ov iv u) (fun _ s' => ∃ H', Inv X pins σ H' s' ∧ Q H') X.xe s
abbrev TIp := V → V → Hp → VK → Prop
def PIp (X : Cx) (op : Operator) (t : TIp) : Prop :=
  ∀ (pins : List (Addr × Obj)) (s : Shared) (σ : St) (H : Hp) (x y : V) (v u : Value) (Q : VK), Inv X pins σ H s → RelV x v → RelV y u → t x y H Q →
    wpAny (model X.prog X.w) X.A (inplaceOp op v u) (EP X pins σ Q) X.xe s
section
variable {X : Cx} {pos : Pos}
def gName (i : Nat) : TG := fun v σ H Q => Q (σ.set i (some v)) H
theorem pg_name {i : Nat} {x : Str} (hN : X.N.Nodup) (hi : X.N[i]? = some x) (hx : Loc X.env.scope x) (hf : X.fn x = true ∨ X.env.scope.names.lookup x = some .local := by first | exact .inl rfl | exact .inr rfl | assumption) : PG X (.Name x pos) (gName i) := by
  intro pins s σ H v u Q I r h
  exact wpAny_assign_Name (store_ok I hN hi hx r (fun s' I' => ⟨_, H, I', h⟩) hf)
def gNil : TGs := fun vs σ H Q => vs = [] ∧ Q σ H
def gCons (t : TG) (u : TGs) : TGs := fun vs σ H Q => ∃ v r, vs = v :: r ∧ t v σ H fun σ' H' => u r σ' H' Q
theorem pgs_nil : PGs X [] gNil := by
  intro pins s σ H vs us Q I r h
  obtain ⟨e, h⟩ := h
  subst e
  cases r
  exact assignInOrder_nil ⟨σ, H, I, h⟩
theorem pgs_cons {e : Expr} {es : List Expr} {t : TG} {u : TGs} (h1 : PG X e t) (h2 : PGs X es u)
    (hs : (assignEach (e :: es) X.env).map (·.2) = assign e X.env :: (assignEach es X.env).map (·.2) := by rfl) : PGs X (e :: es) (gCons t u) := by
  intro pins s σ H vs us Q I r h
  obtain ⟨v, vr, e1, h⟩ := h
  subst e1
  cases r with
  | cons r rr =>
    rw [hs]
    refine assignInOrder_cons (thn (h1 pins s σ H _ _ _ I r h) fun _ s1 ⟨σ1, H1, I1, q1⟩ => ?_)
    exact h2 pins s1 σ1 H1 _ _ Q I1 rr q1
def gTup (K : PySem.W.Frag) (n : Nat) (t : TGs) : TG := fun v σ H Q => ∃ a xs, v = .ref a ∧ SqT K H a xs ∧ xs.length = n ∧ t xs σ H Q
theorem pg_tup {es : List Expr} {k : Nat} {t : TGs} {n : Nat} (hc : X.calm = true) (h : PGs X es t)
    (hn : (assignEach es X.env).length = n := by rfl) (hst : (assignEach es X.env).findIdx? (·.1) = none := by rfl) : PG X (.Tuple es k pos) (gTup X.K n t) := by
  intro pins s σ H v u Q I r hw
  obtain ⟨a, xs, e1, hq, hl, hw⟩ := hw
  subst e1
  cases r
  obtain ⟨its, rv, ht, hz⟩ := I.tuple hq
  refine assign_Tuple_tuple (I.ok.hd hc) ht (by simp [hn, ← hl, rv.length]) hst fun h' hx => ?_
  have I1 : Inv X pins σ H { s with heap := h' } := I.kept (t' := s.toks) fun b o e => hx b o (Nat.ne_of_lt (Heap.lt_size e)) e
  exact h pins _ σ H xs _ Q I1 (by simpa using rv) hw
def gSub (to ti : TE) (t : TSet) : TG := fun v σ H Q => to σ H fun o H1 => ti σ H1 fun i H2 => t o i v H2 fun H3 => Q σ H3
theorem pg_sub {o i : Expr} {to ti : TE} {t : TSet} (ho : PE X o to) (hi : PE X i ti) (hs : PSet X t)
    (ha : ∀ v, assign (.Subscript o i pos) X.env v = (do
      let ov ← holding [v] (eval o X.env)
      let iv ← holding [v, ov] (eval i X.env)
      standAt pos
      holding [v, ov, iv] (setItem ov iv v)
      release [v, ov, iv] []) := by intro _; rfl) : PG X (.Subscript o i pos) (gSub to ti t) := by
  intro pins s σ H v u Q I r h
  rw [ha]
  refine wpAny_bind (wpAny_holding (thn (ho pins s σ H _ I h) fun ov s1 ⟨x, H1, I1, r1, q1⟩ => ?_))
  refine wpAny_bind (wpAny_holding (thn (hi pins s1 σ H1 _ I1 q1) fun iv s2 ⟨y, H2, I2, r2, q2⟩ => ?_))
  refine wpAny_bind (wpAny_standAt (wpAny_bind (wpAny_holding (thn (hs pins s2 σ H2 x y v ov iv u _ I2 r1 r2 r q2) fun _ s3 ⟨H3, I3, q3⟩ => ?_))))
  exact wpAny_release ⟨σ, H3, I3, q3⟩
def tAsg (te : TE) (g : TG) : TS := fun D σ H => te σ H fun x H1 => g x σ H1 D.nx
theorem ps_asg {tg e : Expr} {te : TE} {g : TG} (he : PE X e te) (hg : PG X tg g) (hs : swapsWithSole [tg] e pos.line X.env = pure false := by rfl) (hw : swappedStores [tg] e X.env = pure none := by rfl)
    (h1 : (assignEach [tg] X.env).map (·.2) = [assign tg X.env] := by rfl) : PS X (.Assign [tg] e pos) (tAsg te g) := by
  intro pins s σ H D I h
  refine wpAny_Assign_stores (thn (he pins s σ H _ I h) fun v s1 ⟨x, H1, I1, r1, q1⟩ => ?_) hs hw
  rw [h1]
  exact thn (hg pins s1 σ H1 x v _ I1 r1 q1) fun _ s2 q => q
theorem ps_set {i : Nat} {x : Str} {e : Expr} {te : TE} {pos' : Pos} (hN : X.N.Nodup) (hi : X.N[i]? = some x) (hx : Loc X.env.scope x) (he : PE X e te) (hs : swapsWith e (some (.Name x pos')) pos.line X.env = pure false := by rfl) (hf : X.fn x = true ∨ X.env.scope.names.lookup x = some .local := by first | exact .inl rfl | exact .inr rfl | assumption) :
    PS X (.Assign [.Name x pos'] e pos) (tAsg te (gName i)) := by
  intro pins s σ H D I h
  refine wpAny_Assign_Name (thn (he pins s σ H _ I h) fun v s1 ⟨y, H1, I1, r1, q1⟩ => ?_) hs
  exact store_ok I1 hN hi hx r1 (fun s2 I2 => ⟨_, H1, I2, q1⟩) hf
def tAugS (to ti te : TE) (tget : V → V → Hp → VK → Prop) (tip : TIp) (tset : TSet) : TS := fun D σ H => to σ H fun o H1 => ti σ H1 fun i H2 => tget o i H2 fun x H3 => te σ H3 fun y H4 => tip x y H4 fun z H5 => tset o i z H5 fun H6 => D.nx σ H6
def PGet (X : Cx) (t : V → V → Hp → VK → Prop) : Prop :=
  ∀ (pins : List (Addr × Obj)) (s : Shared) (σ : St) (H : Hp) (o i : V) (ov iv : Value) (Q : VK), Inv X pins σ H s → RelV o ov → RelV i iv → t o i H Q →
    wpAny (model X.prog X.w) X.A (getItem ov iv) (EP X pins σ Q) X.xe s
theorem ps_augS {o i e : Expr} {to ti te : TE} {tget : V → V → Hp → VK → Prop} {tip : TIp} {tset : TSet} {op : Operator} {tpos : Pos} (ho : PE X o to) (hi : PE X i ti) (hg : PGet X tget) (he : PE X e te) (hp : PIp X op tip) (hs : PSet X tset)
    (ha : ∀ ov iv new, augStore i ov iv new = (do holding [new, ov, iv] (setItem ov iv new); release [new, ov, iv] []; pure .next) := by intros; rfl) : PS X (.AugAssign (.Subscript o i tpos) op e pos) (tAugS to ti te tget tip tset) := by
  intro pins s σ H D I h
  refine wpAny_AugAssign_SubscriptAny (thn (ho pins s σ H _ I h) fun ov s1 ⟨x1, H1, I1, r1, q1⟩ => ?_) ha
  refine thn (hi pins s1 σ H1 _ I1 q1) fun iv s2 ⟨x2, H2, I2, r2, q2⟩ => ?_
  refine thn (hg pins s2 σ H2 x1 x2 ov iv _ I2 r1 r2 q2) fun old s3 ⟨x3, H3, I3, r3, q3⟩ => ?_
  refine thn (he pins s3 σ H3 _ I3 q3) fun v s4 ⟨x4, H4, I4, r4, q4⟩ => ?_
  refine thn (hp pins s4 σ H4 x3 x4 old v _ I4 r3 r4 q4) fun new s5 ⟨x5, H5, I5, r5, q5⟩ => ?_
  exact thn (hs pins s5 σ H5 x1 x2 x5 ov iv new _ I5 r1 r2 r5 q5) fun _ s6 ⟨H6, I6, q6⟩ => ⟨σ, H6, I6, q6⟩
def ipI (f : Int → Int → Int) : TIp := fun x y H Q => ∃ i j, x = .int i ∧ y = .int j ∧ Q (.int (f i j)) H
theorem ip_add : PIp X .Add (ipI fun i j => i + j) := by
  intro pins s σ H x y v u Q I r1 r2 h
  obtain ⟨i, j, e1, e2, q⟩ := h
  subst e1; subst e2
  obtain ⟨t, rfl⟩ := r1
  obtain ⟨t', rfl⟩ := r2
  exact iadd_int ⟨.int _, H, I.tok _, ⟨_, rfl⟩, q⟩
theorem ip_sub : PIp X .Sub (ipI fun i j => i - j) := by
  intro pins s σ H x y v u Q I r1 r2 h
  obtain ⟨i, j, e1, e2, q⟩ := h
  subst e1; subst e2
  obtain ⟨t, rfl⟩ := r1
  obtain ⟨t', rfl⟩ := r2
  exact isub_int ⟨.int _, H, I.tok _, ⟨_, rfl⟩, q⟩
end
section
variable {X : Cx} {pos : Pos}
def tWhile (c : TT) (tb : TS) : TS := fun D σ H => ∃ W : Nat → St → Hp → Prop, (∃ m, W m σ H) ∧ ∀ m σ H, W m σ H →
  c σ H fun b H1 => if b = true then ∃ N : St → Hp → Prop, (∀ σ' H', N σ' H' → ∃ m', m' < m ∧ W m' σ' H') ∧ tb { D with nx := N, ct := N, bk := D.nx } σ H1 else D.nx σ H1
theorem ps_while {c : Expr} {body : List Stmt} {tc : TT} {tb : TS} (hp : PassesOwn (model X.prog X.w) X.A X.env X.xe) (hc : PT X c tc) (hb : PSs X body tb) : PS X (.While c body [] pos) (tWhile tc tb) := by
  intro pins s σ H D I h
  obtain ⟨W, ⟨m0, w0⟩, turn⟩ := h
  refine wpAny_While (codeAny_whileLoop (fun n s' => ∃ σ' H', Inv X pins σ' H' s' ∧ W n σ' H') ?_ m0 ⟨σ, H, I, w0⟩)
  rintro n s1 ⟨σ1, H1, I1, w1⟩
  refine wpAny_passesOwn hp (thn (hc pins s1 σ1 H1 _ I1 (turn n σ1 H1 w1)) fun b s2 ⟨H2, I2, q2⟩ => ?_)
  cases b with
  | true =>
    obtain ⟨N, hN, q2⟩ := q2
    rw [if_pos rfl]
    refine wpAny_passesOwn hp (thn (hb pins s2 σ1 H2 _ I2 q2) fun f s3 q3 => ?_)
    cases f with
    | next =>
      obtain ⟨σ3, H3, I3, n3⟩ := q3
      obtain ⟨m', hm, w3⟩ := hN σ3 H3 n3
      exact ⟨m', hm, σ3, H3, I3, w3⟩
    | cont =>
      obtain ⟨σ3, H3, I3, n3⟩ := q3
      obtain ⟨m', hm, w3⟩ := hN σ3 H3 n3
      exact ⟨m', hm, σ3, H3, I3, w3⟩
    | brk => exact q3
    | ret v => exact q3
  | false =>
    rw [if_neg Bool.false_ne_true]
    exact wpAny_execs_nil ⟨σ1, H2, I2, q2⟩
end
structure It where
  go : Nat → Hp → Prop
  yld : Nat → Hp → V → Hp → Prop
  stop : Nat → Hp → Prop
def FpOk (X : Cx) (pins : List (Addr × Obj)) (H : Hp) (b : Addr) : Prop :=
  H b = none ∧ b ≠ X.env.locals ∧ b ∉ X.fs ∧ (b ∈ X.ex ∨ X.s₀.heap.objs.size ≤ b) ∧ (∀ x c, X.env.cells.lookup x = some c → c ≠ b) ∧ ∀ p ∈ X.pn ++ pins, p.1 ≠ b
theorem Inv.fpOk {X : Cx} {pins : List (Addr × Obj)} {σ : St} {H H' : Hp} {s : Shared} {b : Addr} (I : Inv X pins σ H s) (hb : s.heap.objs.size ≤ b) (hn : H' b = none) : FpOk X pins H' b := by
  refine ⟨hn, Nat.ne_of_gt (Nat.lt_of_lt_of_le I.lt hb), I.nofs hb, .inr (Nat.le_trans I.sz hb), fun x c e z => ?_, fun p hp z => ?_⟩
  · obtain ⟨v, q⟩ := I.cell x c e
    exact absurd (Nat.lt_of_lt_of_le q.lt (by rw [z]; exact hb)) (Nat.lt_irrefl _)
  · exact absurd (Nat.lt_of_lt_of_le (Heap.lt_size (I.pin p hp).1) (by rw [z]; exact hb)) (Nat.lt_irrefl _)
structure Turn (P : Program) (w : World) (K : PySem.W.Frag) (tg : Expr) (J : It) (fp : List Addr) (it : Addr) (tn : Nat → Heap → Prop) : Prop where
  mem : it ∈ fp
  obj : ∀ i h, tn i h → ∀ b ∈ fp, ∃ o, h.get? b = some o ∧ ∀ v, o.data ≠ .cell v
  keep : ∀ i h h', tn i h → (∀ b ∈ fp, ∀ o, h.get? b = some o → h'.get? b = some o) → tn i h'
  item : ∀ (X : Cx), X.prog = P → X.w = w → X.K = K → X.calm = true → ∀ (i : Nat) (pins : List (Addr × Obj)) (s : Shared) (σ : St) (H : Hp) (E : Value → Shared → Prop), Inv X pins σ H s → (∀ b ∈ fp, FpOk X pins H b) → tn i s.heap → J.go i H →
    wpAny (model P w) X.A (pyNext (.ref it)) (fun r s1 => ∃ u, r = some u ∧
      wpAny (model P w) X.A (letOwnedTupleGo tg (.ref it) u) (fun _ s2 => ∃ x H', Inv X pins σ H' s2 ∧ RelV x u ∧ J.yld i H x H' ∧ tn (i + 1) s2.heap ∧ ∀ b ∈ fp, H' b = none) E s1) E s
  done : ∀ (X : Cx), X.prog = P → X.w = w → X.K = K → X.calm = true → ∀ (i : Nat) (pins : List (Addr × Obj)) (s : Shared) (σ : St) (H : Hp) (E : Value → Shared → Prop), Inv X pins σ H s → (∀ b ∈ fp, FpOk X pins H b) → tn i s.heap → J.stop i H →
    wpAny (model P w) X.A (pyNext (.ref it)) (fun r s1 => r = none ∧ Inv X pins σ H s1) E s
  self : ∀ (A : Around) (i : Nat) (s : Shared) (Q : Value → Shared → Prop) (E : Value → Shared → Prop), tn i s.heap → Q (.ref it) s → wpAny (model P w) A (pyIter (.ref it)) Q E s
abbrev TI := St → Hp → (It → Hp → Prop) → Prop
def PIE (X : Cx) (pins : List (Addr × Obj)) (σ : St) (tg : Expr) (R : It → Hp → Prop) (itv : Value) (s2 : Shared) : Prop :=
  ∃ (it : Addr) (fp : List Addr) (tn : Nat → Heap → Prop) (J : It) (H' : Hp), itv = .ref it ∧ Inv X pins σ H' s2 ∧ Turn X.prog X.w X.K tg J fp it tn ∧ tn 0 s2.heap ∧ (∀ b ∈ fp, FpOk X pins H' b) ∧ R J H'
def PI (X : Cx) (tg iter : Expr) (wi : TI) : Prop :=
  ∀ (pins : List (Addr × Obj)) (s : Shared) (σ : St) (H : Hp) (R : It → Hp → Prop), Inv X pins σ H s → wi σ H R →
    wpAny (model X.prog X.w) X.A (eval iter X.env) (fun v s1 => wpAny (model X.prog X.w) X.A (pyIter v) (PIE X pins σ tg R) X.xe s1) X.xe s
theorem go_of {M : Model} {A : Around} {E : Value → Shared → Prop} {s : Shared} {tg : Expr} {it : Addr} {u : Value} {o : Obj} {n : String} {vs : Array Value} {Q : Unit → Shared → Prop} (ho : s.heap.get? it = some o) (hc : o.cls = .type n) (hd : o.data = .fields vs)
    (hn : ["enumerate", "zip", "dict_itemiterator", "dict_reverseitemiterator", "odict_iterator", "itertools.zip_longest", "itertools.pairwise"].contains n = false) (hQ : Q () s) : wpAny M A (letOwnedTupleGo tg (.ref it) u) Q E s := by
  unfold letOwnedTupleGo
  cases tg <;> first
    | exact wpAny_pure hQ
    | (cases u <;> first
        | exact wpAny_pure hQ
        | (refine wpAny_bind (wpAny_load ho ?_)
           rw [hc, hd]
           show wpAny M A (if (["enumerate", "zip", "dict_itemiterator", "dict_reverseitemiterator", "odict_iterator", "itertools.zip_longest", "itertools.pairwise"].contains n && vs[0]? == some (rawInt _)) = true then _ else _) Q E s
           rw [if_neg (by intro h; rw [hn, Bool.false_and] at h; cases h)]
           exact wpAny_pure hQ))
def Itl (K : PySem.W.Frag) (a : Addr) : It :=
  ⟨fun i H => ∃ xs x, SqL K H a xs ∧ xs[i]? = some x, fun i H x H' => H' = H ∧ ∀ xs, SqL K H a xs → xs[i]? = some x, fun i H => ∃ xs, SqL K H a xs ∧ xs.length ≤ i⟩
def Itt (K : PySem.W.Frag) (a : Addr) : It :=
  ⟨fun i H => ∃ xs x, SqT K H a xs ∧ xs[i]? = some x, fun i H x H' => H' = H ∧ ∀ xs, SqT K H a xs → xs[i]? = some x, fun i H => ∃ xs, SqT K H a xs ∧ xs.length ≤ i⟩
def Itr (lo : Int) (n : Nat) : It := ⟨fun i _ => i < n, fun i H x H' => H' = H ∧ x = .int (lo + i), fun i _ => n ≤ i⟩
theorem turn_list {P : Program} {w : World} {K : PySem.W.Frag} {tg : Expr} (a it : Addr) : Turn P w K tg (Itl K a) [it] it (fun i h => h.IsListIter it a i) where
  mem := by simp
  obj := fun i h st b hb => by
    have e : b = it := by simpa using hb
    subst e
    obtain ⟨o, e, c, d⟩ := st
    exact ⟨o, e, fun v z => by rw [d] at z; cases z⟩
  keep := fun i h h' st k => st.at fun o e => k it (by simp) o e
  item := by
    intro X hP hw hK hc i pins s σ H E I hf st hg
    subst hP hw hK
    obtain ⟨xs, x, hq, hx⟩ := hg
    obtain ⟨its, rv, p, hz⟩ := I.list hq
    obtain ⟨u, hu, ru⟩ := rv.get hx
    obtain ⟨f0, f1, f2, f3, f4, f5⟩ := hf it (by simp)
    refine wpAny_pyNext_list_item st p.isList (x := u) (by simpa using hu) fun h' st' sb => ?_
    have I1 : Inv X pins σ H { s with heap := h' } := I.turned (t' := s.toks) (fun b o hb e => (sb.2 b hb).trans e) f0 f1 f3 f4 f5
    obtain ⟨o, e, c, d⟩ := id st'
    exact ⟨u, rfl, go_of (s := { s with heap := h' }) e c d (by decide) ⟨x, H, I1, ru, ⟨rfl, fun ys hy => by rw [I.list_inj hy hq]; exact hx⟩, st', fun b hb => (hf b hb).1⟩⟩
  done := by
    intro X hP hw hK hc i pins s σ H E I hf st hg
    subst hP hw hK
    obtain ⟨xs, hq, hx⟩ := hg
    obtain ⟨its, rv, p, hz⟩ := I.list hq
    obtain ⟨f0, f1, f2, f3, f4, f5⟩ := hf it (by simp)
    have hl := rv.length
    exact wpAny_pyNext_list_end (I.ok.hd hc) st p.isList (by simp; omega) fun h' eb => ⟨rfl, I.turned (t' := s.toks) (fun b o hb e => eb b o hb e) f0 f1 f3 f4 f5⟩
  self := fun _ _ _ _ _ st h => wpAny_pyIter_listiter st h
theorem turn_tuple {P : Program} {w : World} {K : PySem.W.Frag} {tg : Expr} (a it : Addr) : Turn P w K tg (Itt K a) [it] it (fun i h => h.IsTupleIter it a i) where
  mem := by simp
  obj := fun i h st b hb => by
    have e : b = it := by simpa using hb
    subst e
    obtain ⟨o, e, c, d⟩ := st
    exact ⟨o, e, fun v z => by rw [d] at z; cases z⟩
  keep := fun i h h' st k => st.at fun o e => k it (by simp) o e
  item := by
    intro X hP hw hK hc i pins s σ H E I hf st hg
    subst hP hw hK
    obtain ⟨xs, x, hq, hx⟩ := hg
    obtain ⟨its, rv, p, hz⟩ := I.tuple hq
    obtain ⟨u, hu, ru⟩ := rv.get hx
    obtain ⟨f0, f1, f2, f3, f4, f5⟩ := hf it (by simp)
    refine wpAny_pyNext_tuple_item st (show s.heap.IsTuple a its.toArray from p) (x := u) (by simpa using hu) fun h' st' sb => ?_
    have I1 : Inv X pins σ H { s with heap := h' } := I.turned (t' := s.toks) (fun b o hb e => (sb.2 b hb).trans e) f0 f1 f3 f4 f5
    obtain ⟨o, e, c, d⟩ := id st'
    exact ⟨u, rfl, go_of (s := { s with heap := h' }) e c d (by decide) ⟨x, H, I1, ru, ⟨rfl, fun ys hy => by rw [I.tuple_inj hy hq]; exact hx⟩, st', fun b hb => (hf b hb).1⟩⟩
  done := by
    intro X hP hw hK hc i pins s σ H E I hf st hg
    subst hP hw hK
    obtain ⟨xs, hq, hx⟩ := hg
    obtain ⟨its, rv, p, hz⟩ := I.tuple hq
    obtain ⟨f0, f1, f2, f3, f4, f5⟩ := hf it (by simp)
    have hl := rv.length
    exact wpAny_pyNext_tuple_end (I.ok.hd hc) st (show s.heap.IsTuple a its.toArray from p) (by simp; omega) fun h' eb => ⟨rfl, I.turned (t' := s.toks) (fun b o hb e => eb b o hb e) f0 f1 f3 f4 f5⟩
  self := fun _ _ _ _ _ st h => wpAny_pyIter_tupleiter st h
theorem turn_range {P : Program} {w : World} {K : PySem.W.Frag} {tg : Expr} (it : Addr) (lo : Int) (n : Nat) : Turn P w K tg (Itr lo n) [it] it (fun i h => IsRangeIter h it (lo + (i : Nat) * 1) ((n : Int) - (i : Nat)) 1) where
  mem := by simp
  obj := fun i h st b hb => by
    have e : b = it := by simpa using hb
    subst e
    exact ⟨_, st, fun v z => by
      have z' : Data.fields _ = Data.cell v := z
      cases z'⟩
  keep := fun i h h' st k => k it (by simp) _ st
  item := by
    intro X hP hw hK hc i pins s σ H E I hf st hg
    subst hP hw hK
    obtain ⟨f0, f1, f2, f3, f4, f5⟩ := hf it (by simp)
    have W := Walks.range (prog := X.prog) (w := X.w) (I.ok.hd hc) it lo 1 n
    refine W.item i s _ _ hg st fun v h' tk hv st' kk => ?_
    obtain ⟨t, rfl⟩ := hv
    have I1 : Inv X pins σ H { s with heap := h', toks := tk } := I.turned (fun b o hb e => kk b o (by simpa using hb) e) f0 f1 f3 f4 f5
    refine ⟨_, rfl, go_of (s := { s with heap := h', toks := tk }) (n := "range_iterator") st' rfl rfl (by decide) ⟨.int (lo + i), H, I1, ⟨t, ?_⟩, ⟨rfl, rfl⟩, st', fun b hb => (hf b hb).1⟩⟩
    rw [Int.mul_one]
  done := by
    intro X hP hw hK hc i pins s σ H E I hf st hg
    subst hP hw hK
    obtain ⟨f0, f1, f2, f3, f4, f5⟩ := hf it (by simp)
    exact wpAny_pyNext_range_end (I.ok.hd hc) st (by have : n ≤ i := hg; omega) fun h' eb => ⟨rfl, I.turned (t' := s.toks) (fun b o hb e => eb b o hb e) f0 f1 f3 f4 f5⟩
  self := fun _ _ _ _ _ st h => wpAny_pyIter_rangeiter st h
end L2
namespace L2
open PySem PySem.Spec PyProof.Rows
section
variable {X : Cx} {tg : Expr}
def iList (K : PySem.W.Frag) (tl : TE) : TI := fun σ H R => tl σ H fun x H1 => ∃ a, x = .ref a ∧ (∃ xs, SqL K H1 a xs) ∧ R (Itl K a) H1
def iTup (K : PySem.W.Frag) (tl : TE) : TI := fun σ H R => tl σ H fun x H1 => ∃ a, x = .ref a ∧ (∃ xs, SqT K H1 a xs) ∧ R (Itt K a) H1
theorem pi_list {l : Expr} {tl : TE} (hl : PE X l tl) : PI X tg l (iList X.K tl) := by
  intro pins s σ H R I h
  refine thn (hl pins s σ H _ I h) fun v s1 ⟨x, H1, I1, r1, q1⟩ => ?_
  obtain ⟨a, e, ⟨xs, hq⟩, q⟩ := q1
  subst e
  cases r1
  obtain ⟨its, rv, p, hz⟩ := I1.list hq
  refine wpAny_pyIter_list p.isList ?_
  refine ⟨s1.heap.objs.size, [s1.heap.objs.size], _, _, H1, rfl, I1.kept (t' := s1.toks) fun b o e => Heap.get?_push_of_some _ e, turn_list a _, ⟨_, Heap.get?_push_size _ rfl, rfl, rfl⟩, fun b hb => ?_, q⟩
  have e : b = s1.heap.objs.size := by simpa using hb
  subst e
  exact I1.fpOk (Nat.le_refl _) (I1.hok.fresh (Nat.le_refl _))
theorem pi_tup {l : Expr} {tl : TE} (hl : PE X l tl) : PI X tg l (iTup X.K tl) := by
  intro pins s σ H R I h
  refine thn (hl pins s σ H _ I h) fun v s1 ⟨x, H1, I1, r1, q1⟩ => ?_
  obtain ⟨a, e, ⟨xs, hq⟩, q⟩ := q1
  subst e
  cases r1
  obtain ⟨its, rv, p, hz⟩ := I1.tuple hq
  refine wpAny_pyIter_tuple (show s1.heap.IsTuple a its.toArray from p) ?_
  refine ⟨s1.heap.objs.size, [s1.heap.objs.size], _, _, H1, rfl, I1.kept (t' := s1.toks) fun b o e => Heap.get?_push_of_some _ e, turn_tuple a _, ⟨_, Heap.get?_push_size _ rfl, rfl, rfl⟩, fun b hb => ?_, q⟩
  have e : b = s1.heap.objs.size := by simpa using hb
  subst e
  exact I1.fpOk (Nat.le_refl _) (I1.hok.fresh (Nat.le_refl _))
theorem range_it {pins : List (Addr × Obj)} {σ : St} {H : Hp} {s : Shared} {R : It → Hp → Prop} {E : Value → Shared → Prop} {lo hi : Int} {t u v : Tok} {tk : Nat} (I : Inv X pins σ H s) (h1 : -(2 ^ 62) ≤ lo) (h2 : lo < 2 ^ 62) (h3 : -(2 ^ 62) ≤ hi) (h4 : hi < 2 ^ 62)
    (q : R (Itr lo (hi - lo).toNat) H) : wpAny (model X.prog X.w) X.A (pyIter (.ref s.heap.objs.size)) (PIE X pins σ tg R) E { s with heap := s.heap.push { cls := .type "range", data := .fields #[.int lo t, .int hi u, .int 1 v] }, toks := tk } := by
  refine wpAny_pyIter_range (IsRange.new ..) (small_one h1 h2 h3 h4) ?_
  have I1 : Inv X pins σ H { s with heap := s.heap.push { cls := .type "range", data := .fields #[.int lo t, .int hi u, .int 1 v] }, toks := tk } := I.kept fun b o e => Heap.get?_push_of_some _ e
  refine ⟨(s.heap.push { cls := .type "range", data := .fields #[.int lo t, .int hi u, .int 1 v] }).objs.size, [(s.heap.push { cls := .type "range", data := .fields #[.int lo t, .int hi u, .int 1 v] }).objs.size], _, _, H, rfl,
    I1.kept (t' := tk) fun b o e => Heap.get?_push_of_some _ e, turn_range _ lo (hi - lo).toNat, ?_, fun b hb => ?_, q⟩
  · have e1 : lo + ((0 : Nat) : Int) * 1 = lo := by simp
    have e2 : (((hi - lo).toNat : Nat) : Int) - ((0 : Nat) : Int) = Builtin.Range.rangeSize lo hi 1 := by rw [rangeSize_one]; split <;> omega
    show IsRangeIter _ _ (lo + ((0 : Nat) : Int) * 1) ((((hi - lo).toNat : Nat) : Int) - ((0 : Nat) : Int)) 1
    rw [e1, e2]
    exact Heap.get?_push_size _ rfl
  · have e : b = (s.heap.push { cls := .type "range", data := .fields #[.int lo t, .int hi u, .int 1 v] }).objs.size := by simpa using hb
    subst e
    exact I1.fpOk (Nat.le_refl _) (I1.hok.fresh (Nat.le_refl _))
def iRng1 (ta : TA) : TI := fun σ H R => ta σ H fun vs H1 => ∃ j : Int, vs = [.int j] ∧ -(2 ^ 62) ≤ j ∧ j < 2 ^ 62 ∧ R (Itr 0 j.toNat) H1
def iRng2 (ta : TA) : TI := fun σ H R => ta σ H fun vs H1 => ∃ i j : Int, vs = [.int i, .int j] ∧ (-(2 ^ 62) ≤ i ∧ i < 2 ^ 62 ∧ -(2 ^ 62) ≤ j ∧ j < 2 ^ 62) ∧ R (Itr i (j - i).toNat) H1
theorem pi_range1 {a : Expr} {ta : TA} {p pos : Pos} (hg : Gl X "range") (hm : X.mg "range" = none) (ha : PA X [a] ta) (hs : starEach [a] X.env = [(false, eval a X.env)] := by rfl) : PI X tg (.Call (.Name "range" p) [a] [] pos) (iRng1 ta) := by
  intro pins s σ H R I h
  refine Call_ (ld_blt I hg hm boot_range (PyProof.Rows.callWith_type1 (thn (ha pos pins s σ H _ I h) fun us s1 ⟨vs, H1, I1, r1, q1⟩ => ?_) hs rfl))
  obtain ⟨j, e, q1, q2, q⟩ := q1
  subst e
  cases r1 with
  | cons r rr =>
    cases rr
    obtain ⟨t, rfl⟩ := r
    exact call_range_1 (range_it I1 (by omega) (by omega) q1 q2 (by simpa using q))
theorem pi_range2 {a b : Expr} {ta : TA} {p pos : Pos} (hg : Gl X "range") (hm : X.mg "range" = none) (ha : PA X [a, b] ta) (hs : starEach [a, b] X.env = [(false, eval a X.env), (false, eval b X.env)] := by rfl) (hs2 : starEach [b] X.env = [(false, eval b X.env)] := by rfl) :
    PI X tg (.Call (.Name "range" p) [a, b] [] pos) (iRng2 ta) := by
  intro pins s σ H R I h
  refine Call_ (ld_blt I hg hm boot_range (PyProof.Rows.callWith_type1 (thn (ha pos pins s σ H _ I h) fun us s1 ⟨vs, H1, I1, r1, q1⟩ => ?_) (by rw [hs, hs2]) (by rw [hs2]; rfl)))
  obtain ⟨i, j, e, ⟨q1, q2, q3, q4⟩, q⟩ := q1
  subst e
  cases r1 with
  | cons r rr =>
    cases rr with
    | cons r' rr =>
      cases rr
      obtain ⟨t, rfl⟩ := r
      obtain ⟨t', rfl⟩ := r'
      exact call_range_2 (range_it I1 q1 q2 q3 q4 q)
def tFor (wi : TI) (g : TG) (tb : TS) : TS := fun D σ H => wi σ H fun J H1 => ∃ W : Nat → Nat → St → Hp → Prop, (∃ m, W 0 m σ H1) ∧ ∀ i m σ H, W i m σ H →
  (J.stop i H ∧ D.nx σ H) ∨ (J.go i H ∧ ∃ N : St → Hp → Prop, (∀ σ' H', N σ' H' → ∃ m', m' < m ∧ W (i + 1) m' σ' H') ∧ ∀ x H', J.yld i H x H' → g x σ H' fun σ2 H2 => tb { D with nx := N, ct := N, bk := D.nx } σ2 H2)
def pinsAt (fp : List Addr) (h : Heap) : List (Addr × Obj) := fp.filterMap fun b => (h.get? b).map fun o => (b, o)
theorem mem_pinsAt {fp : List Addr} {h : Heap} {b : Addr} {o : Obj} (hb : b ∈ fp) (e : h.get? b = some o) : (b, o) ∈ pinsAt fp h := List.mem_filterMap.mpr ⟨b, hb, by rw [e]; rfl⟩
theorem of_pinsAt {fp : List Addr} {h : Heap} {p : Addr × Obj} (hp : p ∈ pinsAt fp h) : p.1 ∈ fp ∧ h.get? p.1 = some p.2 := by
  obtain ⟨b, hb, e⟩ := List.mem_filterMap.mp hp
  cases q : h.get? b with
  | none => rw [q] at e; cases e
  | some o =>
    rw [q] at e
    have e' : (b, o) = p := Option.some.inj e
    subst e'
    exact ⟨hb, q⟩
theorem Inv.pinned {pins : List (Addr × Obj)} {σ : St} {H : Hp} {s : Shared} {fp : List Addr} (I : Inv X pins σ H s) (hf : ∀ b ∈ fp, FpOk X pins H b) (ho : ∀ b ∈ fp, ∃ o, s.heap.get? b = some o ∧ ∀ v, o.data ≠ .cell v) : Inv X (pins ++ pinsAt fp s.heap) σ H s :=
  I.pins_of fun p hp => (List.mem_append.mp hp).elim (fun z => I.pin p (List.mem_append_right _ z)) fun z => by
    obtain ⟨hb, e⟩ := of_pinsAt z
    obtain ⟨f0, f1, f2, _⟩ := hf p.1 hb
    obtain ⟨o, e', d⟩ := ho p.1 hb
    rw [e] at e'; cases e'
    exact ⟨e, f0, f1, f2, d⟩
theorem Inv.unpinned {pins pl : List (Addr × Obj)} {σ : St} {H : Hp} {s : Shared} (I : Inv X (pins ++ pl) σ H s) : Inv X pins σ H s := I.pins_of fun p hp => I.pin p (List.mem_append_right _ (List.mem_append_left _ hp))
theorem ps_for {iter : Expr} {body : List Stmt} {wi : TI} {g : TG} {tb : TS} {pos : Pos} (hp : PassesOwn (model X.prog X.w) X.A X.env X.xe) (hc : X.calm = true) (hi : PI X tg iter wi) (hg : PG X tg g) (hb : PSs X body tb)
    (hs : ∀ x, foldedSetIterable iter X.env x = pure x := by intro _; rfl) : PS X (.For tg iter body [] pos) (tFor wi g tb) := by
  intro pins s σ H D I h
  refine wpAny_For (thn (hi pins s σ H _ I h) fun v s1 h1 => thn h1 fun itv s2 h2 => ?_) hs
  obtain ⟨it, fp, tn, J, H2, e, I2, T, st2, f2, W, ⟨m0, w0⟩, turn⟩ := h2
  subst e
  -- what stays true of the iterator's objects through the loop
  have stat : ∀ {H' : Hp}, (∀ b ∈ fp, H' b = none) → ∀ b ∈ fp, FpOk X pins H' b := fun hn b hb => ⟨hn b hb, (f2 b hb).2⟩
  refine codeAny_forLoop_any (fun n s' => ∃ i σ' H', Inv X pins σ' H' s' ∧ tn i s'.heap ∧ (∀ b ∈ fp, H' b = none) ∧ W i n σ' H') ?_ m0 ⟨0, σ, H2, I2, st2, fun b hb => (f2 b hb).1, w0⟩
  rintro n s3 ⟨i, σ3, H3, I3, st3, fr3, w3⟩
  rcases turn i n σ3 H3 w3 with ⟨stop, qn⟩ | ⟨go, N, hN, step⟩
  · refine wpAny_passesOwn hp (thn (T.done X rfl rfl rfl hc i pins s3 σ3 H3 X.xe I3 (stat fr3) st3 stop) fun r s4 ⟨hr, I4⟩ => ?_)
    subst hr
    exact wpAny_execs_nil ⟨σ3, H3, I4, qn⟩
  · refine wpAny_passesOwn hp (thn (T.item X rfl rfl rfl hc i pins s3 σ3 H3 X.xe I3 (stat fr3) st3 go) fun r s4 ⟨u, hr, h4⟩ => ?_)
    subst hr
    refine wpAny_passesOwn hp (thn h4 fun _ s5 ⟨x, H5, I5, r5, y5, st5, fr5⟩ => ?_)
    have I5' := I5.pinned (stat fr5) (T.obj _ _ st5)
    refine wpAny_passesOwn hp (thn (hg _ s5 σ3 H5 x u _ I5' r5 (step x H5 y5)) fun _ s6 ⟨σ6, H6, I6, q6⟩ => ?_)
    refine wpAny_passesOwn hp (thn (hb _ s6 σ6 H6 _ I6 q6) fun f s7 q7 => ?_)
    have again : ∀ {σ7 : St} {H7 : Hp}, Inv X (pins ++ pinsAt fp s5.heap) σ7 H7 s7 → N σ7 H7 → ∃ m, m < n ∧ ∃ i σ' H', Inv X pins σ' H' s7 ∧ tn i s7.heap ∧ (∀ b ∈ fp, H' b = none) ∧ W i m σ' H' := fun {σ7 H7} I7 n7 => by
      obtain ⟨m', hm, w7⟩ := hN σ7 H7 n7
      refine ⟨m', hm, i + 1, σ7, H7, I7.unpinned, T.keep _ _ _ st5 fun b hb o e => (I7.pin (b, o) (List.mem_append_right _ (List.mem_append_right _ (mem_pinsAt hb e)))).1, fun b hb => ?_, w7⟩
      obtain ⟨o, e, d⟩ := T.obj _ _ st5 b hb
      exact (I7.pin (b, o) (List.mem_append_right _ (List.mem_append_right _ (mem_pinsAt hb e)))).2.1
    cases f with
    | next => obtain ⟨σ7, H7, I7, n7⟩ := q7; exact again I7 n7
    | cont => obtain ⟨σ7, H7, I7, n7⟩ := q7; exact again I7 n7
    | brk => obtain ⟨σ7, H7, I7, q7⟩ := q7; exact ⟨σ7, H7, I7.unpinned, q7⟩
    | ret v => obtain ⟨x7, σ7, H7, I7, r7, q7⟩ := q7; exact ⟨x7, σ7, H7, I7.unpinned, r7, q7⟩
end
theorem for_list {K : PySem.W.Frag} {a : Addr} {xs : List V} {g : TG} {tb : TS} {D : Ends} {σ : St} {H : Hp} (Pv : Nat → St → Hp → Prop) (h0 : Pv 0 σ H) (hl : ∀ i σ H, i ≤ xs.length → Pv i σ H → SqL K H a xs)
    (hs : ∀ i x σ H, xs[i]? = some x → Pv i σ H → g x σ H fun σ2 H2 => tb { D with nx := Pv (i + 1), ct := Pv (i + 1), bk := D.nx } σ2 H2) (hd : ∀ σ H, Pv xs.length σ H → D.nx σ H) :
    ∃ W : Nat → Nat → St → Hp → Prop, (∃ m, W 0 m σ H) ∧ ∀ i m σ H, W i m σ H →
      ((Itl K a).stop i H ∧ D.nx σ H) ∨ ((Itl K a).go i H ∧ ∃ N : St → Hp → Prop, (∀ σ' H', N σ' H' → ∃ m', m' < m ∧ W (i + 1) m' σ' H') ∧ ∀ x H', (Itl K a).yld i H x H' → g x σ H' fun σ2 H2 => tb { D with nx := N, ct := N, bk := D.nx } σ2 H2) := by
  refine ⟨fun i m σ H => m = xs.length - i ∧ i ≤ xs.length ∧ Pv i σ H, ⟨xs.length, by simp, Nat.zero_le _, h0⟩, ?_⟩
  rintro i m σ H ⟨rfl, hi, p⟩
  have q := hl i σ H hi p
  by_cases hlt : i < xs.length
  · refine .inr ⟨⟨xs, xs[i], q, by simp [hlt]⟩, Pv (i + 1), fun σ' H' p' => ⟨xs.length - (i + 1), by omega, rfl, hlt, p'⟩, fun x H' y => ?_⟩
    obtain ⟨e, y⟩ := y
    subst e
    exact hs i x σ _ (y xs q) p
  · have e : i = xs.length := by omega
    subst e
    exact .inl ⟨⟨xs, q, Nat.le_refl _⟩, hd σ H p⟩
theorem for_range {lo : Int} {n : Nat} {g : TG} {tb : TS} {D : Ends} {σ : St} {H : Hp} (Pv : Nat → St → Hp → Prop) (h0 : Pv 0 σ H)
    (hs : ∀ i σ H, i < n → Pv i σ H → g (.int (lo + i)) σ H fun σ2 H2 => tb { D with nx := Pv (i + 1), ct := Pv (i + 1), bk := D.nx } σ2 H2) (hd : ∀ σ H, Pv n σ H → D.nx σ H) :
    ∃ W : Nat → Nat → St → Hp → Prop, (∃ m, W 0 m σ H) ∧ ∀ i m σ H, W i m σ H →
      ((Itr lo n).stop i H ∧ D.nx σ H) ∨ ((Itr lo n).go i H ∧ ∃ N : St → Hp → Prop, (∀ σ' H', N σ' H' → ∃ m', m' < m ∧ W (i + 1) m' σ' H') ∧ ∀ x H', (Itr lo n).yld i H x H' → g x σ H' fun σ2 H2 => tb { D with nx := N, ct := N, bk := D.nx } σ2 H2) := by
  refine ⟨fun i m σ H => m = n - i ∧ i ≤ n ∧ Pv i σ H, ⟨n, by simp, Nat.zero_le _, h0⟩, ?_⟩
  rintro i m σ H ⟨rfl, hi, p⟩
  by_cases hlt : i < n
  · refine .inr ⟨hlt, Pv (i + 1), fun σ' H' p' => ⟨n - (i + 1), by omega, rfl, hlt, p'⟩, fun x H' y => ?_⟩
    obtain ⟨e, y⟩ := y
    subst e y
    exact hs i σ _ hlt p
  · have e : i = n := by omega
    subst e
    exact .inl ⟨Nat.le_refl _, hd σ H p⟩
end L2
namespace L2
open PySem PySem.Spec PyProof.Rows
abbrev R2 := V → V → Hp → VK → Prop
def OpR (X : Cx) (f : Value → Value → Sem Value) (r : R2) : Prop :=
  ∀ (pins : List (Addr × Obj)) (s : Shared) (σ : St) (H : Hp) (x y : V) (v u : Value) (Q : VK), Inv X pins σ H s → RelV x v → RelV y u → r x y H Q →
    wpAny (model X.prog X.w) X.A (f v u) (EP X pins σ Q) X.xe s
def UnR (X : Cx) (f : Value → Sem Value) (r : V → Hp → VK → Prop) : Prop :=
  ∀ (pins : List (Addr × Obj)) (s : Shared) (σ : St) (H : Hp) (x : V) (v : Value) (Q : VK), Inv X pins σ H s → RelV x v → r x H Q →
    wpAny (model X.prog X.w) X.A (f v) (EP X pins σ Q) X.xe s
def CallR (X : Cx) (f : Value) (r : List V → Hp → VK → Prop) : Prop :=
  ∀ (pins : List (Addr × Obj)) (s : Shared) (σ : St) (H : Hp) (xs : List V) (us : List Value) (Q : VK), Inv X pins σ H s → Vals xs us → r xs H Q →
    wpAny (model X.prog X.w) X.A (call f us) (EP X pins σ Q) X.xe s
def TruR (X : Cx) (r : V → Hp → (Bool → Hp → Prop) → Prop) : Prop :=
  ∀ (pins : List (Addr × Obj)) (s : Shared) (σ : St) (H : Hp) (x : V) (v : Value) (Q : Bool → Hp → Prop), Inv X pins σ H s → RelV x v → r x H Q →
    wpAny (model X.prog X.w) X.A (truthy v) (TP X pins σ Q) X.xe s
def tOp (r : R2) (ta tb : TE) : TE := fun σ H Q => ta σ H fun x H1 => tb σ H1 fun y H2 => r x y H2 Q
def tUn (r : V → Hp → VK → Prop) (ta : TE) : TE := fun σ H Q => ta σ H fun x H1 => r x H1 Q
def rI (C : Int → Int → Prop) (g : Int → Int → V) : R2 := fun x y H Q => ∃ i j, x = .int i ∧ y = .int j ∧ C i j ∧ Q (g i j) H
def rI0 (g : Int → Int → V) : R2 := fun x y H Q => ∃ i j, x = .int i ∧ y = .int j ∧ Q (g i j) H
def rU (g : Int → V) : V → Hp → VK → Prop := fun x H Q => ∃ i, x = .int i ∧ Q (g i) H
section
variable {X : Cx} {a b c : Expr} {ta tb tc : TE} {pos : Pos}
theorem binT (ha : PE X a ta) (hb : PE X b tb) {pins : List (Addr × Obj)} {s : Shared} {σ : St} {H : Hp} {R : V → V → Hp → Prop} (I : Inv X pins σ H s)
    (h : ta σ H fun x H1 => tb σ H1 fun y H2 => R x y H2) {Q : Value → Shared → Prop} {f : Value → Value → Sem Value}
    (hf : ∀ v u s2 x y H2, Inv X pins σ H2 s2 → RelV x v → RelV y u → R x y H2 → wpAny (model X.prog X.w) X.A (f v u) Q X.xe s2) :
    wpAny (model X.prog X.w) X.A (eval a X.env) (fun v s₁ => wpAny (model X.prog X.w) X.A (eval b X.env) (fun u s₂ => wpAny (model X.prog X.w) X.A (f v u) Q X.xe s₂) X.xe s₁) X.xe s := by
  refine thn (ha pins s σ H _ I h) fun v s1 ⟨x, H1, I1, r1, q1⟩ => ?_
  refine thn (hb pins s1 σ H1 _ I1 q1) fun u s2 ⟨y, H2, I2, r2, q2⟩ => ?_
  exact hf v u s2 x y H2 I2 r1 r2 q2
theorem pe_op {op : Operator} {r : R2} (ho : OpR X (binaryOp op) r) (ha : PE X a ta) (hb : PE X b tb) : PE X (.BinOp a op b pos) (tOp r ta tb) := by
  intro pins s σ H Q I h
  exact wpAny_BinOp (binT ha hb I h fun v u s2 x y H2 I2 rx ry q => ho pins s2 σ H2 x y v u Q I2 rx ry q)
theorem pe_un {op : UnaryOp} {r : V → Hp → VK → Prop} (ho : UnR X (unaryOp op) r) (ha : PE X a ta) : PE X (.UnaryOp op a pos) (tUn r ta) := by
  intro pins s σ H Q I h
  exact UnaryOp_ (thn (ha pins s σ H _ I h) fun v s1 ⟨x, H1, I1, r1, q1⟩ => ho pins s1 σ H1 x v Q I1 r1 q1)
theorem opI {f : Value → Value → Sem Value} {C : Int → Int → Prop} {g : Int → Int → Int}
    (rule : ∀ (i j : Int) (t u : Tok) (s : Shared) (Q : Value → Shared → Prop) (E : Value → Shared → Prop), C i j → Q (.int (g i j) s.toks) { s with toks := s.toks + 1 } → wpAny (model X.prog X.w) X.A (f (.int i t) (.int j u)) Q E s) :
    OpR X f (rI C fun i j => .int (g i j)) := by
  intro pins s σ H x y v u Q I rx ry h
  obtain ⟨i, j, rfl, rfl, hc, q⟩ := h
  obtain ⟨t, rfl⟩ := rx
  obtain ⟨t', rfl⟩ := ry
  exact rule i j t t' s _ _ hc ⟨.int (g i j), H, I.tok _, ⟨_, rfl⟩, q⟩
theorem opI0 {f : Value → Value → Sem Value} {g : Int → Int → Int}
    (rule : ∀ (i j : Int) (t u : Tok) (s : Shared) (Q : Value → Shared → Prop) (E : Value → Shared → Prop), Q (.int (g i j) s.toks) { s with toks := s.toks + 1 } → wpAny (model X.prog X.w) X.A (f (.int i t) (.int j u)) Q E s) :
    OpR X f (rI0 fun i j => .int (g i j)) := by
  intro pins s σ H x y v u Q I rx ry h
  obtain ⟨i, j, rfl, rfl, q⟩ := h
  obtain ⟨t, rfl⟩ := rx
  obtain ⟨t', rfl⟩ := ry
  exact rule i j t t' s _ _ ⟨.int (g i j), H, I.tok _, ⟨_, rfl⟩, q⟩
theorem opB0 {f : Value → Value → Sem Value} {g : Int → Int → Bool}
    (rule : ∀ (i j : Int) (t u : Tok) (s : Shared) (Q : Value → Shared → Prop) (E : Value → Shared → Prop), Q (.bool (g i j)) s → wpAny (model X.prog X.w) X.A (f (.int i t) (.int j u)) Q E s) :
    OpR X f (rI0 fun i j => .bl (g i j)) := by
  intro pins s σ H x y v u Q I rx ry h
  obtain ⟨i, j, rfl, rfl, q⟩ := h
  obtain ⟨t, rfl⟩ := rx
  obtain ⟨t', rfl⟩ := ry
  exact rule i j t t' s _ _ ⟨.bl (g i j), H, I, rfl, q⟩
def CDiv (i j : Int) : Prop := 0 < j ∧ j < 1073741824
def CPow (i j : Int) : Prop := 0 ≤ j ∧ j ≤ 1000000 ∧ i.natAbs < 2 ^ 64
def CMul (i j : Int) : Prop := (-(2 ^ 64) < i ∧ i < 2 ^ 64) ∨ (-(2 ^ 64) < j ∧ j < 2 ^ 64)
theorem CMul.ok {i j : Int} (h : CMul i j) : IntMulOk i j := by
  rcases h with ⟨h1, h2⟩ | ⟨h1, h2⟩
  · exact .of_left (intBits_le_64 h1 h2)
  · exact .of_right (intBits_le_64 h1 h2)
theorem op_add : OpR X (binaryOp .Add) (rI0 fun i j => .int (i + j)) := opI0 fun _ _ _ _ _ _ _ q => add_int q
theorem op_sub : OpR X (binaryOp .Sub) (rI0 fun i j => .int (i - j)) := opI0 fun _ _ _ _ _ _ _ q => sub_int q
theorem op_mul : OpR X (binaryOp .Mult) (rI CMul fun i j => .int (i * j)) := opI fun _ _ _ _ _ _ _ hc q => mul_int q hc.ok
theorem op_fdiv : OpR X (binaryOp .FloorDiv) (rI CDiv fun i j => .int (i / j)) := opI fun i j _ _ _ _ _ hc q => by
  have h1 : (0 : Int) < j := hc.1
  have h2 : j < 1073741824 := hc.2
  exact floordiv_int (by omega) (by rw [Int.fdiv_eq_ediv_of_nonneg i (by omega)]; exact q) (.inl (PyProof.noPylong_small (by omega)))
theorem op_mod : OpR X (binaryOp .Mod) (rI (fun _ j => 0 < j) fun i j => .int (i % j)) := opI fun i j _ _ _ _ _ hc q => by
  have h1 : (0 : Int) < j := hc
  exact mod_int' (by omega) (by rw [Int.fmod_eq_emod_of_nonneg i (by omega)]; exact q)
theorem op_pow : OpR X (binaryOp .Pow) (rI CPow fun i j => .int (i ^ j.toNat)) := opI fun _ _ _ _ _ _ _ hc q => pow_int_small hc.1 hc.2.1 hc.2.2 q
theorem unI {f : Value → Sem Value} {g : Int → Int}
    (rule : ∀ (i : Int) (t : Tok) (s : Shared) (Q : Value → Shared → Prop) (E : Value → Shared → Prop), Q (.int (g i) s.toks) { s with toks := s.toks + 1 } → wpAny (model X.prog X.w) X.A (f (.int i t)) Q E s) :
    UnR X f (rU fun i => .int (g i)) := by
  intro pins s σ H x v Q I rx h
  obtain ⟨i, rfl, q⟩ := h
  obtain ⟨t, rfl⟩ := rx
  exact rule i t s _ _ ⟨.int (g i), H, I.tok _, ⟨_, rfl⟩, q⟩
theorem un_neg : UnR X (unaryOp .USub) (rU fun i => .int (-i)) := unI fun _ _ _ _ _ q => neg_int q
end
def scal : V → V → Bool
  | .non, .non => true | .non, .int _ => true | .int _, .non => true | .non, .bl _ => true | .bl _, .non => true | .non, .str _ => true | .str _, .non => true
  | .int _, .int _ => true | .bl _, .bl _ => true | .str _, .str _ => true | .byt _, .byt _ => true
  | .int _, .str _ => true | .str _, .int _ => true | .bl _, .str _ => true | .str _, .bl _ => true
  | _, _ => false
def rEq : R2 := fun x y H Q => scal x y = true ∧ Q (.bl (decide (x = y))) H
def rNe : R2 := fun x y H Q => scal x y = true ∧ Q (.bl (!decide (x = y))) H
theorem dec_int {i j : Int} : decide (V.int i = V.int j) = (i == j) := by
  rw [Bool.eq_iff_iff]
  simp
theorem dec_bl {i j : Bool} : decide (V.bl i = V.bl j) = (i == j) := by
  rw [Bool.eq_iff_iff]
  simp
theorem dec_str {i j : Str} : decide (V.str i = V.str j) = (i == j) := by
  rw [Bool.eq_iff_iff]
  simp
theorem dec_byt {i j : Array UInt8} : decide (V.byt i = V.byt j) = (i.toList == j.toList) := by
  rw [Bool.eq_iff_iff]
  cases i
  cases j
  simp
section
variable {X : Cx} {a b c : Expr} {ta tb tc : TE} {pos : Pos}
theorem fin_bl {pins : List (Addr × Obj)} {σ : St} {H : Hp} {s : Shared} {Q : VK} {k k' : Bool} (I : Inv X pins σ H s) (q : Q (.bl k) H) (e : k = k') : EP X pins σ Q (.bool k') s := by
  subst e
  exact ⟨.bl k, H, I, rfl, q⟩
theorem op_eq : OpR X (compareOp .Eq) rEq := by
  intro pins s σ H x y v u Q I rx ry h
  obtain ⟨hs, q⟩ := h
  cases x with
  | non =>
    cases rx
    cases y with
    | non => cases ry; exact PySem.EqNone.eq_none_none (fin_bl I q (by simp))
    | bl j => cases ry; exact PySem.EqNone.eq_none_bool (fin_bl I q (by simp))
    | int j => obtain ⟨t', rfl⟩ := ry; exact PySem.EqNone.eq_none_int (fin_bl I q (by simp))
    | str j => obtain ⟨t', rfl⟩ := ry; exact PySem.EqNone.eq_none_str (fin_bl I q (by simp))
    | _ => exact absurd (show false = true from hs) Bool.false_ne_true
  | bl i =>
    cases rx
    cases y with
    | non => cases ry; exact PySem.EqNone.eq_bool_none (fin_bl I q (by simp))
    | bl j => cases ry; exact eq_bool (fin_bl I q dec_bl)
    | str j => obtain ⟨t', rfl⟩ := ry; exact PySem.EqMixed.eq_bool_str (fin_bl I q (by simp))
    | _ => exact absurd (show false = true from hs) Bool.false_ne_true
  | int i =>
    obtain ⟨t, rfl⟩ := rx
    cases y with
    | non => cases ry; exact PySem.EqNone.eq_int_none (fin_bl I q (by simp))
    | int j => obtain ⟨t', rfl⟩ := ry; exact eq_int (fin_bl I q dec_int)
    | str j => obtain ⟨t', rfl⟩ := ry; exact PySem.EqMixed.eq_int_str (fin_bl I q (by simp))
    | _ => exact absurd (show false = true from hs) Bool.false_ne_true
  | str i =>
    obtain ⟨t, rfl⟩ := rx
    cases y with
    | non => cases ry; exact PySem.EqNone.eq_str_none (fin_bl I q (by simp))
    | bl j => cases ry; exact PySem.EqMixed.eq_str_bool (fin_bl I q (by simp))
    | int j => obtain ⟨t', rfl⟩ := ry; exact PySem.EqMixed.eq_str_int (fin_bl I q (by simp))
    | str j => obtain ⟨t', rfl⟩ := ry; exact eq_str (fin_bl I q dec_str)
    | _ => exact absurd (show false = true from hs) Bool.false_ne_true
  | byt i =>
    obtain ⟨t, rfl⟩ := rx
    cases y with
    | byt j => obtain ⟨t', rfl⟩ := ry; exact PySem.W.eq_bytes (fin_bl I q dec_byt)
    | _ => exact absurd (show false = true from hs) Bool.false_ne_true
  | _ => cases y <;> exact absurd (show false = true from hs) Bool.false_ne_true
theorem op_ne : OpR X (compareOp .NotEq) rNe := by
  intro pins s σ H x y v u Q I rx ry h
  obtain ⟨hs, q⟩ := h
  cases x with
  | non =>
    cases rx
    cases y with
    | non => cases ry; exact PySem.EqNone.ne_none_none (fin_bl I q (by simp))
    | bl j => cases ry; exact PySem.EqNone.ne_none_bool (fin_bl I q (by simp))
    | int j => obtain ⟨t', rfl⟩ := ry; exact PySem.EqNone.ne_none_int (fin_bl I q (by simp))
    | str j => obtain ⟨t', rfl⟩ := ry; exact PySem.EqNone.ne_none_str (fin_bl I q (by simp))
    | _ => exact absurd (show false = true from hs) Bool.false_ne_true
  | bl i =>
    cases rx
    cases y with
    | non => cases ry; exact PySem.EqNone.ne_bool_none (fin_bl I q (by simp))
    | bl j => cases ry; exact ne_bool (fin_bl I q (congrArg not dec_bl))
    | str j => obtain ⟨t', rfl⟩ := ry; exact PySem.EqMixed.ne_bool_str (fin_bl I q (by simp))
    | _ => exact absurd (show false = true from hs) Bool.false_ne_true
  | int i =>
    obtain ⟨t, rfl⟩ := rx
    cases y with
    | non => cases ry; exact PySem.EqNone.ne_int_none (fin_bl I q (by simp))
    | int j => obtain ⟨t', rfl⟩ := ry; exact ne_int (fin_bl I q (congrArg not dec_int))
    | str j => obtain ⟨t', rfl⟩ := ry; exact PySem.EqMixed.ne_int_str (fin_bl I q (by simp))
    | _ => exact absurd (show false = true from hs) Bool.false_ne_true
  | str i =>
    obtain ⟨t, rfl⟩ := rx
    cases y with
    | non => cases ry; exact PySem.EqNone.ne_str_none (fin_bl I q (by simp))
    | bl j => cases ry; exact PySem.EqMixed.ne_str_bool (fin_bl I q (by simp))
    | int j => obtain ⟨t', rfl⟩ := ry; exact PySem.EqMixed.ne_str_int (fin_bl I q (by simp))
    | str j => obtain ⟨t', rfl⟩ := ry; exact ne_str (fin_bl I q (congrArg not dec_str))
    | _ => exact absurd (show false = true from hs) Bool.false_ne_true
  | byt i =>
    obtain ⟨t, rfl⟩ := rx
    cases y with
    | byt j => obtain ⟨t', rfl⟩ := ry; exact PySem.W.ne_bytes (fin_bl I q (congrArg not dec_byt))
    | _ => exact absurd (show false = true from hs) Bool.false_ne_true
  | _ => cases y <;> exact absurd (show false = true from hs) Bool.false_ne_true
theorem op_lt : OpR X (compareOp .Lt) (rI0 fun i j => .bl (decide (i < j))) := opB0 fun _ _ _ _ _ _ _ q => lt_int q
theorem op_le : OpR X (compareOp .LtE) (rI0 fun i j => .bl (decide (i ≤ j))) := opB0 fun _ _ _ _ _ _ _ q => le_int q
theorem op_gt : OpR X (compareOp .Gt) (rI0 fun i j => .bl (decide (j < i))) := opB0 fun _ _ _ _ _ _ _ q => gt_int q
theorem nomark (b : Expr) {op : CmpOp} (h : op ≠ .In := by decide) (h2 : op ≠ .NotIn := by decide) : behindInMarks op b = false := by
  have e1 : (op == CmpOp.In) = false := by cases op <;> first | rfl | exact absurd rfl h
  have e2 : (op == CmpOp.NotIn) = false := by cases op <;> first | rfl | exact absurd rfl h2
  cases b <;> simp [behindInMarks, e1, e2]
theorem pe_cmpR {op : CmpOp} {r : R2} (ho : OpR X (compareOp op) r) (ha : PE X a ta) (hb : PE X b tb) (hm : behindInMarks op b = false) : PE X (.Compare a [op] [b] pos) (tOp r ta tb) := by
  intro pins s σ H Q I h
  exact wpAny_Compare1 (binT ha hb I h fun v u s2 x y H2 I2 rx ry q => ho pins s2 σ H2 x y v u Q I2 rx ry q) hm
def tTest (t : TE) : TT := fun σ H Q => t σ H fun x H' => ∃ k, x = .bl k ∧ Q k H'
theorem pt_cmpR {op : CmpOp} {r : R2} (ho : OpR X (compareOp op) r) (ha : PE X a ta) (hb : PE X b tb) (hm : behindInMarks op b = false) : PT X (.Compare a [op] [b] pos) (tTest (tOp r ta tb)) := by
  intro pins s σ H Q I h
  refine wpAny_isTrue_Compare1 (thn (ha pins s σ H _ I h) fun v s1 ⟨x, H1, I1, r1, q1⟩ => thn (hb pins s1 σ H1 _ I1 q1) fun u s2 ⟨y, H2, I2, r2, q2⟩ =>
    thn (ho pins s2 σ H2 x y v u _ I2 r1 r2 q2) fun c s3 ⟨z, H3, I3, r3, k, e, q3⟩ => ?_) hm
  subst e
  cases r3
  exact wpAny_truthy_bool ⟨H3, I3, q3⟩
def tChain (r r' : R2) (ta tb tc : TE) : TE := fun σ H Q => ta σ H fun x H1 => tb σ H1 fun y H2 => r x y H2 fun z H3 => ∃ k, z = .bl k ∧
  (if k = true then tc σ H3 fun w' H4 => r' y w' H4 Q else Q (.bl false) H3)
theorem pe_chain {op op' : CmpOp} {r r' : R2} (ho : OpR X (compareOp op) r) (ho' : OpR X (compareOp op') r') (ha : PE X a ta) (hb : PE X b tb) (hc : PE X c tc)
    (hm : lastMarks [op, op'] [b, c] = false := by with_unfolding_all rfl) : PE X (.Compare a [op, op'] [b, c] pos) (tChain r r' ta tb tc) := by
  intro pins s σ H Q I h
  refine Compare_chain (thn (ha pins s σ H _ I h) fun v s1 ⟨x, H1, I1, r1, q1⟩ => chain_link (thn (hb pins s1 σ H1 _ I1 q1) fun u s2 ⟨y, H2, I2, r2, q2⟩ =>
    thn (ho pins s2 σ H2 x y v u _ I2 r1 r2 q2) fun d s3 ⟨z, H3, I3, r3, k, e, q3⟩ => ?_)) hm
  subst e
  cases r3
  refine wpAny_truthy_bool ?_
  cases k with
  | false => exact ite_ff ⟨.bl false, H3, I3, rfl, q3⟩
  | true => exact ite_tt (chain_last (thn (hc pins s3 σ H3 _ I3 q3) fun w' s4 ⟨z', H4, I4, r4, q4⟩ => ho' pins s4 σ H4 y z' u w' Q I4 r2 r4 q4))
theorem pt_chain {op op' : CmpOp} {r r' : R2} (ho : OpR X (compareOp op) r) (ho' : OpR X (compareOp op') r') (ha : PE X a ta) (hb : PE X b tb) (hc : PE X c tc)
    (hm : lastMarks [op, op'] [b, c] = false := by with_unfolding_all rfl) : PT X (.Compare a [op, op'] [b, c] pos) (tTest (tChain r r' ta tb tc)) := by
  intro pins s σ H Q I h
  refine isTrue_chain (thn (ha pins s σ H _ I h) fun v s1 ⟨x, H1, I1, r1, q1⟩ => test_link (thn (hb pins s1 σ H1 _ I1 q1) fun u s2 ⟨y, H2, I2, r2, q2⟩ =>
    thn (ho pins s2 σ H2 x y v u _ I2 r1 r2 q2) fun d s3 ⟨z, H3, I3, r3, k, e, q3⟩ => ?_)) hm
  subst e
  cases r3
  refine wpAny_truthy_bool ?_
  cases k with
  | false =>
    obtain ⟨k', e', q'⟩ := q3
    cases e'
    exact ite_ff ⟨H3, I3, q'⟩
  | true =>
    refine ite_tt (test_last (thn (hc pins s3 σ H3 _ I3 q3) fun w' s4 ⟨z', H4, I4, r4, q4⟩ => thn (ho' pins s4 σ H4 y z' u w' _ I4 r2 r4 q4) fun d' s5 ⟨z2, H5, I5, r5, k2, e2, q5⟩ => ?_))
    subst e2
    cases r5
    exact wpAny_truthy_bool ⟨H5, I5, q5⟩
def TruV (K : PySem.W.Frag) (x : V) (H : Hp) (k : Bool) : Prop :=
  match x with
  | .non => k = false
  | .bl b => k = b
  | .int i => k = (i != 0)
  | .str y => y.length ≤ sizeLine ∧ k = ((y.length : Int) != 0)
  | .byt y => y.size ≤ sizeLine ∧ k = ((y.size : Int) != 0)
  | .ref p => (∃ xs, SqL K H p xs ∧ k = !xs.isEmpty) ∨ (∃ xs, SqT K H p xs ∧ k = !xs.isEmpty) ∨ ∃ kvs, H p = some (.dK kvs) ∧ k = !kvs.isEmpty
  | _ => False
theorem isEmpty_kv {κ : Type} {kvs : List (κ × V)} {vs : List (κ × Value)} (r : KV kvs vs) : (!vs.isEmpty) = !kvs.isEmpty := by
  cases r <;> rfl
theorem isEmpty_of {xs : List V} {its : List Value} (r : Vals xs its) : (!its.toArray.isEmpty) = !xs.isEmpty := by
  cases r <;> simp
theorem line63 : (sizeLine : Nat) < 2 ^ 63 := by rw [sizeLine_eq]; decide
theorem tru_ok : TruR X (fun x H Q => ∃ k, TruV X.K x H k ∧ Q k H) := by
  intro pins s σ H x v Q I rx h
  obtain ⟨k, e, q⟩ := h
  have hl := line63
  have hs : sizeLine = 16777216 := sizeLine_eq
  cases x with
  | non =>
    cases rx
    have e' : k = false := e
    subst e'
    exact truthy_none ⟨H, I, q⟩
  | bl b =>
    cases rx
    have e' : k = b := e
    subst e'
    exact wpAny_truthy_bool ⟨H, I, q⟩
  | int i =>
    obtain ⟨t, rfl⟩ := rx
    have e' : k = (i != 0) := e
    subst e'
    exact PySem.P.truthy_int ⟨H, I, q⟩
  | str y =>
    obtain ⟨t, rfl⟩ := rx
    obtain ⟨hy, e'⟩ : y.length ≤ sizeLine ∧ k = ((y.length : Int) != 0) := e
    subst e'
    exact PySem.P.truthy_str (by omega) ⟨H, I.tok _, q⟩
  | byt y =>
    obtain ⟨t, rfl⟩ := rx
    obtain ⟨hy, e'⟩ : y.size ≤ sizeLine ∧ k = ((y.size : Int) != 0) := e
    subst e'
    exact PySem.W.truthy_bytes (by omega) ⟨H, I.tok _, q⟩
  | ref p =>
    cases rx
    have e' : (∃ xs, SqL X.K H p xs ∧ k = !xs.isEmpty) ∨ (∃ xs, SqT X.K H p xs ∧ k = !xs.isEmpty) ∨ ∃ kvs, H p = some (.dK kvs) ∧ k = !kvs.isEmpty := e
    rcases e' with ⟨xs, hx, e'⟩ | ⟨xs, hx, e'⟩ | ⟨kvs, hx, e'⟩
    · subst e'
      obtain ⟨its, r, pl, hz⟩ := I.list hx
      have hlen := r.length
      exact wpAny_truthy_list pl.isList (by simp only [List.size_toArray]; omega) ⟨H, I.tok _, by rw [isEmpty_of r]; exact q⟩
    · subst e'
      obtain ⟨its, r, pl, hz⟩ := I.tuple hx
      have hlen := r.length
      exact truthy_tuple pl (by simp only [List.size_toArray]; omega) ⟨H, I.tok _, by rw [isEmpty_of r]; exact q⟩
    · subst e'
      obtain ⟨hz, hS, vs, r, m⟩ : kvs.length ≤ sizeLine ∧ (p == sysModules) = false ∧ ∃ vs, KV kvs vs ∧ s.heap.DictOf (mixKind X.prog X.w) p vs := I.hok p _ hx
      have hlen : kvs.length = vs.length := Paired.length r
      exact wpAny_truthy_dict hS m (by omega) ⟨H, I.tok _, by rw [isEmpty_kv r]; exact q⟩
  | _ => exact (show False from e).elim
theorem pt_truth (ha : PE X a ta) (he : ∀ whole, isTrue a X.env whole = (do let v ← whole; standAt a.pos; holding [v] (truthy v))) :
    PT X a (fun σ H Q => ta σ H fun x H' => ∃ k, TruV X.K x H' k ∧ Q k H') := by
  intro pins s σ H Q I h
  exact isTrue_plain (thn (ha pins s σ H _ I h) fun v s1 ⟨x, H1, I1, r1, q1⟩ => tru_ok pins s1 σ H1 x v Q I1 r1 q1) (he _)
theorem vals1 {x : V} {us : List Value} (r : Vals [x] us) : ∃ u, us = [u] ∧ RelV x u := by
  cases r with
  | cons r1 r2 => cases r2; exact ⟨_, rfl, r1⟩
theorem vals2 {x y : V} {us : List Value} (r : Vals [x, y] us) : ∃ u w', us = [u, w'] ∧ RelV x u ∧ RelV y w' := by
  cases r with
  | cons r1 r2 =>
    cases r2 with
    | cons r3 r4 => cases r4; exact ⟨_, _, rfl, r1, r3⟩
theorem call_max2 (hc : X.calm = true) : CallR X (.builtin "max") (fun xs H Q => ∃ i j, xs = [.int i, .int j] ∧ Q (.int (if j > i then j else i)) H) := by
  intro pins s σ H xs us Q I r h
  obtain ⟨i, j, rfl, q⟩ := h
  obtain ⟨u, w', rfl, ⟨t, rfl⟩, ⟨t', rfl⟩⟩ := vals2 r
  refine max_two_ints (I.ok.hd hc) fun h' tk k => ⟨_, H, I.kept k, ?_, q⟩
  by_cases hj : j > i
  · rw [if_pos hj, if_pos hj]; exact ⟨_, rfl⟩
  · rw [if_neg hj, if_neg hj]; exact ⟨_, rfl⟩
theorem call_min2 (hc : X.calm = true) : CallR X (.builtin "min") (fun xs H Q => ∃ i j, xs = [.int i, .int j] ∧ Q (.int (if j < i then j else i)) H) := by
  intro pins s σ H xs us Q I r h
  obtain ⟨i, j, rfl, q⟩ := h
  obtain ⟨u, w', rfl, ⟨t, rfl⟩, ⟨t', rfl⟩⟩ := vals2 r
  refine min_two_ints (I.ok.hd hc) fun h' tk k => ⟨_, H, I.kept k, ?_, q⟩
  by_cases hj : j < i
  · rw [if_pos hj, if_pos hj]; exact ⟨_, rfl⟩
  · rw [if_neg hj, if_neg hj]; exact ⟨_, rfl⟩
theorem call_int1 : CallR X (.type "int") (fun xs H Q => (∃ i, xs = [.int i] ∧ Q (.int i) H) ∨ ∃ k, xs = [.bl k] ∧ Q (.int (if k then 1 else 0)) H) := by
  intro pins s σ H xs us Q I r h
  rcases h with ⟨i, rfl, q⟩ | ⟨k, rfl, q⟩
  · obtain ⟨u, rfl, t, rfl⟩ := vals1 r
    exact call_int_int ⟨.int i, H, I, ⟨_, rfl⟩, q⟩
  · obtain ⟨u, rfl, r1⟩ := vals1 r
    cases r1
    exact call_int_bool ⟨.int (if k then 1 else 0), H, I.tok _, ⟨_, rfl⟩, q⟩
end
end L2
namespace L2
open PySem PySem.Spec PyProof.Rows
structure ObjM (h : Heap) (x dx C : Addr) (mA : Str → Option Value) : Prop where
  obj : h.get? x = some (PySem.W.instObj C dx)
  ns : h.Ns1 dx mA
  ne : dx ≠ x
theorem lookIn_ns {h : Heap} {dx : Addr} {mA : Str → Option Value} (n : h.Ns1 dx mA) : ∃ od, h.get? dx = some od ∧ ∀ name, PySem.W.lookIn name od = some (mA name) := by
  obtain ⟨o, es, ep, ho, hd, hk, _, hm⟩ := n
  refine ⟨o, ho, fun name => ?_⟩
  have e := hm name
  unfold nsFind findBy at e
  rw [← Array.find?_toList] at e
  unfold PySem.W.lookIn
  rw [hd]
  dsimp only
  split
  · rename_i y q
    rw [q] at e
    exact congrArg some e
  · rename_i q
    rw [q] at e
    have a : es.toList.any (·.refKey) = false := by
      rw [List.any_eq_false]
      intro y hy
      obtain ⟨z, t, hkey⟩ := hk y (Array.mem_toList_iff.mp hy)
      simp [DictEntry.refKey, hkey]
    have a' : ¬ es.toList.any (·.refKey) = true := by rw [a]; exact Bool.false_ne_true
    rw [if_neg a']
    exact congrArg some e
theorem ObjM.look {h : Heap} {x dx C : Addr} {mA : Str → Option Value} (I : ObjM h x dx C mA) : ∃ od, PySem.W.InstAt h x (PySem.W.instObj C dx) C (some od) ∧ ∀ name, PySem.W.lookIn name od = some (mA name) :=
  let ⟨od, ho, hl⟩ := lookIn_ns I.ns
  ⟨od, ⟨I.obj, rfl, rfl, ho⟩, hl⟩
section
variable {prog : Program} {w : World} {A : Around} {E : Value → Shared → Prop} {s : Shared} {K : PySem.W.Frag} {x dx C f : Addr} {mA : Str → Option Value} {name : Str} {v : Value}
theorem get_map {expr : Bool} {Q : Value → Shared → Prop} (X : K.In s.heap) (I : ObjM s.heap x dx C mA) (hg : PySem.W.plainGet K C name = true) (hh : PySem.W.hasDictIn K C = true)
    (ha : PySem.W.findIn K (.ref C) name = some none) (hv : mA name = some v) (hv' : PySem.W.handedIn v = true) (h : Q v { s with toks := s.toks + 1 }) :
    wpAny (model prog w) A (getAttr (.ref x) name expr) Q E s := by
  obtain ⟨od, J, hl⟩ := I.look
  exact PySem.W.get_value X J (PySem.W.plainGet_of hg).1 (PySem.W.findObj_own hh ha rfl (by rw [hl, hv])) hv' h
theorem get_meth {pl : Sem Bool} {Q : Value × List Value → Shared → Prop} (X : K.In s.heap) (I : ObjM s.heap x dx C mA) (hg : PySem.W.plainGet K C name = true)
    (hf : PySem.W.findIn K (.ref C) name = some (some (.ref f))) (ht : PySem.W.isFn K (.ref f) = true) (hv : mA name = none) (h : Q (.ref f, [.ref x]) s) :
    wpAny (model prog w) A (getMethod (.ref x) name pl) Q E s := by
  obtain ⟨od, J, hl⟩ := I.look
  exact PySem.W.method_fn X J (PySem.W.plainGet_of hg).1 (PySem.W.plainGet_of hg).2 hf (beq_iff_eq.mp ht) (by show (PySem.W.lookIn name od).map (·.isSome) = some false; rw [hl, hv]; rfl) h
theorem set_map {ns : List Str} {Q : Unit → Shared → Prop} (X : K.In s.heap) (I : ObjM s.heap x dx C mA)
    (hs : PySem.W.findIn K (.ref C) "__setattr__" = some (some (.builtin "object.__setattr__"))) (hp : PySem.W.plainOver K C = true) (ht : PySem.W.takerIn K C name = some none) (hh : PySem.W.hasDictIn K C = true)
    (hw : PySem.Within mA ns) (hsz : ns.length ≤ sizeLine)
    (h : ∀ h', ObjM h' x dx C (fun y => if y = name then some v else mA y) → Heap.SameBut dx s.heap h' → Q () { s with heap := h', toks := s.toks + 2 }) :
    wpAny (model prog w) A (setAttr (.ref x) name v) Q E s := by
  obtain ⟨od, J, hl⟩ := I.look
  refine PySem.W.set_plain X J hs (PySem.W.osa_open (s := { s with toks := s.toks + 1 }) (r := none) X J hp ht fun b => ?_)
  obtain ⟨cd, hc, hd'⟩ := PySem.W.any_some hh
  have hx : s.heap.get? x = some ⟨.ref C, some dx, .plain, #[]⟩ := I.obj
  refine wpAny_bind (wpAny_pure (wpAny_bind (wpAny_bind (wpAny_loadPart hx (wpAny_bind (PySem.W.Looks.here (s := { s with toks := s.toks + 1 }) (PySem.W.looks_clsIn X hc) ?_))))))
  rw [hd']
  refine wpAny_pure (a := some dx) (wpAny_bind (wpAny_pure (wpAny_bind ?_)))
  refine wpAny_nsSet1 (s := { s with toks := s.toks + 1 }) I.ns fun h' hn2 hs2 => ?_
  obtain ⟨oD, esD, epD, hoD, hdD, hcD⟩ := hn2.count (PySem.Within.cons name v hw)
  refine wpAny_bind (wpAny_lookBehind hoD (by rw [hdD]; exact pastItsLine_dict (Nat.le_trans hcD (by rw [List.length_cons]; omega))) ?_)
  exact wpAny_pure (h _ ⟨(hs2.2 _ (Ne.symm I.ne)).trans I.obj, hn2, I.ne⟩ hs2)
theorem make_map {R : Result → Shared → Prop} {vs : List Value} {kw : List (Str × Value)} (X : K.In s.heap) (hm : PySem.W.makesIn K C = true)
    (hi : PySem.W.findIn K (.ref C) "__init__" = some (some (.ref f))) (hf : PySem.W.typeIn K (.ref f) = some (.type "function"))
    (h : codeAny (model prog w) (A.under (.builtin "type.__call__" ⟨.ref C :: vs, kw⟩)) (.call (.ref f) ⟨.ref (s.heap.objs.size + 1) :: vs, kw⟩) (PySem.W.InitBack (s.heap.objs.size + 1) R)
      { s with heap := (s.heap.push PySem.W.emptyDict).push (PySem.W.instObj C s.heap.objs.size) }) :
    codeAny (model prog w) A (.call (.ref C) ⟨vs, kw⟩) R s := by
  obtain ⟨hh, g, d, t, os⟩ := s
  exact PySem.W.make_core (PySem.W.makes_of X hm) (PySem.W.looks_findIn X hi) (fun self => PySem.W.bind_fn X self hf) (.inl rfl) h
end
def putF (f : Str) (v : V) : List (Str × V) → List (Str × V)
  | [] => [(f, v)]
  | (g, x) :: r => if g = f then (g, v) :: r else (g, x) :: putF f v r
theorem lookup_putF (f g : Str) (v : V) : ∀ fs : List (Str × V), (putF f v fs).lookup g = if g = f then some v else fs.lookup g
  | [] => by
    show List.lookup g [(f, v)] = _
    by_cases h : g = f
    · have hb : (g == f) = true := beq_iff_eq.mpr h
      simp only [List.lookup, hb, if_pos h]
    · have hb : (g == f) = false := beq_eq_false_iff_ne.mpr h
      simp only [List.lookup, hb, if_neg h]
  | (k, x) :: r => by
    have ih := lookup_putF f g v r
    rw [show putF f v ((k, x) :: r) = (if k = f then (k, v) :: r else (k, x) :: putF f v r) from rfl]
    by_cases hk : k = f
    · rw [if_pos hk]
      by_cases h : g = k
      · have hb : (g == k) = true := beq_iff_eq.mpr h
        simp only [List.lookup, hb, if_pos (h.trans hk)]
      · have hb : (g == k) = false := beq_eq_false_iff_ne.mpr h
        simp only [List.lookup, hb, if_neg (fun e : g = f => h (e.trans hk.symm))]
    · rw [if_neg hk]
      by_cases h : g = k
      · have hb : (g == k) = true := beq_iff_eq.mpr h
        simp only [List.lookup, hb, if_neg (fun e : g = f => hk (h.symm.trans e))]
      · have hb : (g == k) = false := beq_eq_false_iff_ne.mpr h
        simp only [List.lookup, hb]
        exact ih
theorem keys_putF (f : Str) (v : V) : ∀ fs : List (Str × V), f ∈ (putF f v fs).map (·.1) ∧ ∀ g, g ∈ fs.map (·.1) → g ∈ (putF f v fs).map (·.1)
  | [] => ⟨by simp [putF], fun g h => by simp at h⟩
  | (k, x) :: r => by
    obtain ⟨i1, i2⟩ := keys_putF f v r
    rw [show putF f v ((k, x) :: r) = (if k = f then (k, v) :: r else (k, x) :: putF f v r) from rfl]
    by_cases hk : k = f
    · rw [if_pos hk]
      subst hk
      exact ⟨by simp, fun g h => by simpa using h⟩
    · rw [if_neg hk]
      refine ⟨?_, fun g h => ?_⟩
      · rw [List.map_cons]
        exact List.mem_cons_of_mem _ i1
      · rw [List.map_cons] at h ⊢
        rcases List.mem_cons.mp h with e | e
        · exact List.mem_cons.mpr (.inl e)
        · exact List.mem_cons_of_mem _ (i2 g e)
theorem length_putF (f : Str) (v : V) : ∀ fs : List (Str × V), (putF f v fs).length ≤ fs.length + 1
  | [] => by simp [putF]
  | (k, x) :: r => by
    have ih := length_putF f v r
    rw [show putF f v ((k, x) :: r) = (if k = f then (k, v) :: r else (k, x) :: putF f v r) from rfl]
    by_cases hk : k = f
    · rw [if_pos hk, List.length_cons, List.length_cons]; omega
    · rw [if_neg hk, List.length_cons, List.length_cons]; omega
theorem RelO.some_of {v : V} {o : Option Value} (r : RelO (some v) o) : ∃ u, o = some u ∧ RelV v u := by
  cases o with
  | none => exact (show False from r).elim
  | some u => exact ⟨u, rfl, r⟩
theorem RelO.none_of {o : Option Value} (r : RelO none o) : o = none := by
  cases o with
  | none => rfl
  | some u => exact (show False from r).elim
theorem handed_of {v : V} {u : Value} (r : RelV v u) : PySem.W.handedIn u = true := by
  cases v with
  | non => cases (show u = Value.none from r); rfl
  | bl b => cases (show u = Value.bool b from r); rfl
  | int i => obtain ⟨t, e⟩ := (show ∃ t, u = Value.int i t from r); cases e; rfl
  | str x => obtain ⟨t, e⟩ := (show ∃ t, u = Value.str x t from r); cases e; rfl
  | byt b => obtain ⟨t, e⟩ := (show ∃ t, u = Value.bytes b t from r); cases e; rfl
  | flt b => obtain ⟨t, e⟩ := (show ∃ t, u = Value.float b t from r); cases e; rfl
  | ref a => cases (show u = Value.ref a from r); rfl
  | ty n => cases (show u = Value.type n from r); rfl
section
variable {P : Program} {w : World} {H H' : Hp} {h h' : Heap} {a C dx : Addr} {fs fs' : List (Str × V)}
theorem ins_get (hok : HOk P w H h) (e : H a = some (.ins C dx fs)) : ∃ mA, ObjM h a dx C mA ∧ (∀ f, RelO (fs.lookup f) (mA f)) ∧ PySem.Within mA (fs.map (·.1)) ∧ fs.length ≤ 1000 ∧ H dx = some (.own a) := by
  obtain ⟨d, z, ne, ob, mA, n, r, q⟩ := (show ObjOk P w H h a (.ins C dx fs) from hok a _ e)
  exact ⟨mA, ⟨ob, n, ne⟩, r, q, z, d⟩
end
structure Cls (K : PySem.W.Frag) (C : Addr) : Prop where
  pg : PySem.W.plainGet K C Str.empty = true
  hd : PySem.W.hasDictIn K C = true
  po : PySem.W.plainOver K C = true
  sa : PySem.W.findIn K (.ref C) "__setattr__" = some (some (.builtin "object.__setattr__"))
theorem Cls.get {K : PySem.W.Frag} {C : Addr} (c : Cls K C) (f : Str) : PySem.W.plainGet K C f = true := c.pg
def NoAttr (K : PySem.W.Frag) (C : Addr) (f : Str) : Prop := PySem.W.findIn K (.ref C) f = some none
theorem NoAttr.taker {K : PySem.W.Frag} {C : Addr} {f : Str} (n : NoAttr K C f) : PySem.W.takerIn K C f = some none := by
  unfold PySem.W.takerIn
  rw [show PySem.W.findIn K (.ref C) f = some none from n]
  rfl
structure Meth (K : PySem.W.Frag) (C : Addr) (m : Str) (f : Addr) : Prop where
  at_ : PySem.W.findIn K (.ref C) m = some (some (.ref f))
  fn : PySem.W.isFn K (.ref f) = true
  kp : PySem.W.keepIn K (.ref f) = true
section
variable {X : Cx} {pins : List (Addr × Obj)} {σ : St} {H : Hp} {s : Shared} {a C dx : Addr} {fs : List (Str × V)} {f : Str} {v : V} {A : Around} {E : Value → Shared → Prop}
theorem getattr_ok {b : Bool} {Q : Value → Shared → Prop} (I : Inv X pins σ H s) (e : H a = some (.ins C dx fs)) (c : Cls X.K C) (n : NoAttr X.K C f) (l : fs.lookup f = some v)
    (h : ∀ u s', Inv X pins σ H s' → RelV v u → Q u s') : wpAny (model X.prog X.w) A (getAttr (.ref a) f b) Q E s := by
  obtain ⟨mA, O, r, _, _, _⟩ := ins_get I.hok e
  obtain ⟨u, hu, ru⟩ := RelO.some_of (v := v) (o := mA f) (by rw [← l]; exact r f)
  exact get_map I.kIn O (c.get f) c.hd n hu (handed_of ru) (h u _ (I.tok _) ru)
theorem getmeth_ok {m : Str} {g : Addr} {pl : Sem Bool} {Q : Value × List Value → Shared → Prop} (I : Inv X pins σ H s) (e : H a = some (.ins C dx fs)) (c : Cls X.K C) (k : Meth X.K C m g) (l : fs.lookup m = none)
    (h : Q (.ref g, [.ref a]) s) : wpAny (model X.prog X.w) A (getMethod (.ref a) m pl) Q E s := by
  obtain ⟨mA, O, r, _, _, _⟩ := ins_get I.hok e
  have hn : mA m = none := RelO.none_of (by rw [← l]; exact r m)
  exact get_meth I.kIn O (c.get m) k.at_ k.fn hn h
theorem setattr_ok {y : V} {u : Value} {Q : Unit → Shared → Prop} (I : Inv X pins σ H s) (e : H a = some (.ins C dx fs)) (c : Cls X.K C) (n : NoAttr X.K C f) (hl : fs.length < 1000) (ry : RelV y u)
    (h : ∀ s', Inv X pins σ (upd H a (.ins C dx (putF f y fs))) s' → Q () s') : wpAny (model X.prog X.w) A (setAttr (.ref a) f u) Q E s := by
  obtain ⟨mA, O, r, wi, _, ho⟩ := ins_get I.hok e
  have hz : (fs.map (·.1)).length ≤ sizeLine := by rw [List.length_map, sizeLine_eq]; omega
  refine set_map I.kIn O c.sa c.po n.taker c.hd wi hz fun h' O' sb => h _ ?_
  have hd : ∃ o, h'.get? dx = some o := let ⟨o, _, _, e', _⟩ := O'.ns; ⟨o, e'⟩
  refine I.write (x := a) (e := dx) (by rw [e]; exact True.intro) (.inr ho) (fun b q hb z => (sb.2 b hb).trans z) hd ?_
  refine ⟨by rw [upd_ne O.ne]; exact ho, ?_, O.ne, O'.obj, _, O'.ns, fun g => ?_, fun g hg => ?_⟩
  · have := length_putF f y fs; omega
  · show RelO ((putF f y fs).lookup g) (if g = f then some u else mA g)
    rw [lookup_putF]
    by_cases q : g = f
    · rw [if_pos q, if_pos q]; exact ry
    · rw [if_neg q, if_neg q]; exact r g
  · by_cases q : g = f
    · rw [q]; exact (keys_putF f y fs).1
    · refine (keys_putF f y fs).2 g (wi g fun z => hg ?_)
      show (if g = f then some u else mA g) = none
      rw [if_neg q]; exact z
theorem Inv.made (I : Inv X pins σ H s) : Inv X pins σ (upd (upd H s.heap.objs.size (.own (s.heap.objs.size + 1))) (s.heap.objs.size + 1) (.ins C s.heap.objs.size []))
    { s with heap := (s.heap.push PySem.W.emptyDict).push (PySem.W.instObj C s.heap.objs.size) } := by
  have e1 : (s.heap.push PySem.W.emptyDict).get? s.heap.objs.size = some PySem.W.emptyDict := Heap.get?_push_size s.heap rfl
  have e2 : ((s.heap.push PySem.W.emptyDict).push (PySem.W.instObj C s.heap.objs.size)).get? (s.heap.objs.size + 1) = some (PySem.W.instObj C s.heap.objs.size) := by
    have := Heap.get?_push_size (s.heap.push PySem.W.emptyDict) (o := PySem.W.instObj C s.heap.objs.size) rfl
    rwa [Heap.size_push] at this
  have e3 : (s.heap.push PySem.W.emptyDict).Ns s.heap.objs.size (fun _ => none) := ⟨PySem.W.emptyDict, #[], _, e1, rfl, (fun e he => absurd he (by simp)), fun _ => rfl⟩
  have I1 := I.laid (a := s.heap.objs.size) (o := .own (s.heap.objs.size + 1)) (h' := s.heap.push PySem.W.emptyDict) (t' := s.toks) (fun b u q => Heap.get?_push_of_some _ q) (Nat.le_refl _) ⟨_, e1⟩
  refine I1.laid (a := s.heap.objs.size + 1) (o := .ins C s.heap.objs.size []) (t' := s.toks) (fun b u q => Heap.get?_push_of_some _ q) (Nat.le_of_eq (Heap.size_push _ _)) ?_
  have ne : s.heap.objs.size ≠ s.heap.objs.size + 1 := Nat.ne_of_lt (Nat.lt_succ_self _)
  refine ⟨by rw [upd_ne ne, upd_same], Nat.zero_le _, ne, e2, fun _ => none, (Heap.Ns1.of_empty e3).at fun o q => Heap.get?_push_of_some _ q, fun _ => True.intro, fun y hy => absurd rfl hy⟩
theorem attr_of {prog : Program} {w : World} {env : Env} {e : Expr} {f : Str} {pos : Pos} {s : Shared} {Q : Value → Shared → Prop} (hb : attributeBase e f env (eval e env) = eval e env)
    (h : wpAny (model prog w) A (eval e env) (fun o s₁ => wpAny (model prog w) A (getAttr o f true) Q E s₁) E s) : wpAny (model prog w) A (eval (.Attribute e f pos) env) Q E s :=
  Attribute_any_ h (by rw [arm_eval_Attribute, hb])
end
def tFld (K : PySem.W.Frag) (ta : TE) (f : Str) : TE := fun σ H Q => ta σ H fun x H1 => ∃ a C dx fs v, x = .ref a ∧ H1 a = some (.ins C dx fs) ∧ Cls K C ∧ NoAttr K C f ∧ fs.lookup f = some v ∧ Q v H1
def sFld (K : PySem.W.Frag) (ta tv : TE) (f : Str) : TS := fun D σ H => tv σ H fun y H1 => ta σ H1 fun x H2 => ∃ a C dx fs, x = .ref a ∧ H2 a = some (.ins C dx fs) ∧ Cls K C ∧ NoAttr K C f ∧ fs.length < 1000 ∧
  D.nx σ (upd H2 a (.ins C dx (putF f y fs)))
section
variable {X : Cx} {o e value : Expr} {f : Str} {pos pos' tpos : Pos} {ta tv : TE}
theorem pe_fld (he : PE X e ta) (hb : attributeBase e f X.env (eval e X.env) = eval e X.env) : PE X (.Attribute e f pos) (tFld X.K ta f) := by
  intro pins s σ H Q I h
  refine attr_of hb (thn (he pins s σ H _ I h) fun u s1 ⟨x, H1, I1, rx, a, C, dx, fs, v, ex, ea, c, n, l, q⟩ => ?_)
  subst ex
  obtain rfl : u = Value.ref a := rx
  exact getattr_ok I1 ea c n l fun u' s2 I2 ru => ⟨v, H1, I2, ru, q⟩
theorem ps_fld (ha : PE X o ta) (hv : PE X value tv) (hs : swapsWith value (some (.Attribute o f pos')) pos.line X.env = pure false) : PS X (.Assign [.Attribute o f pos'] value pos) (sFld X.K ta tv f) := by
  intro pins s σ H D I h
  refine plainObj_wpAny_Assign_Attribute (thn (hv pins s σ H _ I h) fun u s1 ⟨y, H1, I1, ry, q⟩ => thn (ha pins s1 σ H1 _ I1 q) fun ov s2 ⟨x, H2, I2, rx, a, C, dx, fs, ex, ea, c, n, l, q2⟩ => ?_) hs
  subst ex
  obtain rfl : ov = Value.ref a := rx
  exact setattr_ok I2 ea c n l ry fun s3 I3 => ⟨σ, _, I3, q2⟩
end
section
variable {X : Cx} {pins : List (Addr × Obj)} {σ : St} {H : Hp} {s : Shared} {A : Around} {E : Value → Shared → Prop} {Q : Value → Shared → Prop} {c : Value} {b : Bool}
inductive TyOf (K : PySem.W.Frag) (H : Hp) : V → Value → Prop where
  | non : TyOf K H .non (.type "NoneType")
  | bl (x : Bool) : TyOf K H (.bl x) (.type "bool")
  | int (i : Int) : TyOf K H (.int i) (.type "int")
  | str (x : Str) : TyOf K H (.str x) (.type "str")
  | flt (x : UInt64) : TyOf K H (.flt x) (.type "float")
  | lst {a : Addr} {xs : List V} (e : H a = some (.lst xs)) : TyOf K H (.ref a) (.type "list")
  | frz {a : Addr} {o : Obj} {xs : List V} (e : H a = some (.frz o (.lst xs))) : TyOf K H (.ref a) (.type "list")
  | tup {a : Addr} {xs : List V} (e : H a = some (.tup xs)) : TyOf K H (.ref a) (.type "tuple")
  | dK {a : Addr} {kvs : List (Key × V)} (e : H a = some (.dK kvs)) : TyOf K H (.ref a) (.type "dict")
  | dT {a : Addr} {kvs : List (List Key × V)} (e : H a = some (.dT kvs)) : TyOf K H (.ref a) (.type "dict")
  | ins {a C dx : Addr} {fs : List (Str × V)} (e : H a = some (.ins C dx fs)) (cl : Cls K C) (ha : PySem.W.findIn K (.ref C) "__class__" = some (some (.builtin "object.__class__")))
      (hn : PySem.W.specialIn K (.builtin "object.__class__") "__get__" = some (some (.builtin "getset_descriptor.__get__"))) (htk : PySem.W.takesIn K (.builtin "object.__class__") = some true)
      (hm : PySem.W.mroIn K C (.type "object") = some true) : TyOf K H (.ref a) (.ref C)
theorem isinst_ok {x : V} {u t : Value} (I : Inv X pins σ H s) (rx : RelV x u) (ty : TyOf X.K H x t) (e : PySem.W.kitOne X.K t c = some b) (h : ∀ tk, Q (.bool b) { s with toks := tk }) :
    wpAny (model X.prog X.w) A (call (.builtin "isinstance") [u, c]) Q E s := by
  cases ty with
  | non => cases (show u = Value.none from rx); exact PySem.W.kia_one PySem.W.kitx_none I.kIn True.intro e (fun z => nomatch z) h
  | bl y => cases (show u = Value.bool y from rx); exact PySem.W.kia_one PySem.W.kitx_bool I.kIn True.intro e (fun z => nomatch z) h
  | int i => obtain ⟨t, q⟩ := (show ∃ t, u = Value.int i t from rx); cases q; exact PySem.W.kia_one PySem.W.kitx_int I.kIn True.intro e (fun z => nomatch z) h
  | str y => obtain ⟨t, q⟩ := (show ∃ t, u = Value.str y t from rx); cases q; exact PySem.W.kia_one PySem.W.kitx_str I.kIn True.intro e (fun z => nomatch z) h
  | flt y => obtain ⟨t, q⟩ := (show ∃ t, u = Value.float y t from rx); cases q; exact PySem.W.kia_one PySem.W.kitx_float I.kIn True.intro e (fun z => nomatch z) h
  | @lst a xs ea =>
    cases (show u = Value.ref a from rx)
    obtain ⟨_, _, n, _, h1⟩ := (show ObjOk X.prog X.w H s.heap a (.lst xs) from I.hok a _ ea)
    exact PySem.W.kia_one PySem.W.kitx_list I.kIn ⟨_, h1, rfl⟩ e (fun z => nomatch z) h
  | @frz a ob xs ea =>
    cases (show u = Value.ref a from rx)
    obtain ⟨_, _, _, n, _, h1⟩ := (show ObjOk X.prog X.w H s.heap a (.frz ob (.lst xs)) from I.hok a _ ea)
    exact PySem.W.kia_one PySem.W.kitx_list I.kIn ⟨_, h1, rfl⟩ e (fun z => nomatch z) h
  | @tup a xs ea =>
    cases (show u = Value.ref a from rx)
    obtain ⟨_, _, _, p⟩ := (show ObjOk X.prog X.w H s.heap a (.tup xs) from I.hok a _ ea)
    obtain ⟨o, h1, h2, _⟩ := p
    exact PySem.W.kia_one PySem.W.kitx_tuple I.kIn ⟨o, h1, h2⟩ e (fun z => nomatch z) h
  | @dK a kvs ea =>
    cases (show u = Value.ref a from rx)
    obtain ⟨_, _, vs, _, p⟩ := (show ObjOk X.prog X.w H s.heap a (.dK kvs) from I.hok a _ ea)
    obtain ⟨o, es, ep, h1, h2, _⟩ := p
    exact PySem.W.kia_one PySem.W.kitx_dict I.kIn ⟨o, h1, h2.1⟩ e (fun z => nomatch z) h
  | @dT a kvs ea =>
    cases (show u = Value.ref a from rx)
    obtain ⟨_, _, xs, _, o, es, ep, h1, h2, _⟩ := (show ObjOk X.prog X.w H s.heap a (.dT kvs) from I.hok a _ ea)
    exact PySem.W.kia_one PySem.W.kitx_dict I.kIn ⟨o, h1, h2.1⟩ e (fun z => nomatch z) h
  | @ins a C dx fs ea cl ha hn htk hm =>
    cases (show u = Value.ref a from rx)
    obtain ⟨mA, O, _⟩ := ins_get I.hok ea
    obtain ⟨od, J, _⟩ := O.look
    exact PySem.W.kia_one (PySem.W.kitx_own (cl.get _) cl.hd ha hn htk hm) I.kIn J e (fun z => nomatch z) h
end
end L2
namespace L2
open PySem PySem.Spec PyProof.Rows
structure Room (k : Nat) (A : Around) : Prop where
  hd : A.handled = none
  dp : A.depth + 3 * k + 5 < recursionLimit
  un : A.units + 16 * k + 200 < cLine
theorem Room.mono {j k : Nat} {A : Around} (r : Room k A) (h : j ≤ k) : Room j A := ⟨r.hd, by have := r.dp; omega, by have := r.un; omega⟩
theorem Room.deeper {k : Nat} {A : Around} (r : Room (k + 1) A) (env : Env) : Room k (A.deeper env) :=
  ⟨r.hd, by have := r.dp; show A.depth + 1 + 3 * k + 5 < _; omega, by have := r.un; show A.units + 3 + 16 * k + 200 < _; omega⟩
theorem make_depth {A : Around} {C : Addr} {us : List Value} {kw : List (Str × Value)} : (A.under (.builtin "type.__call__" ⟨.ref C :: us, kw⟩)).depth = A.depth + 1 := by
  first | rfl | simp [Around.under, Code.weight, Code.isCreation, Code.isGuard, Code.isCaller, Code.frames, Code.isFrame, guardIds]
theorem make_units {A : Around} {C : Addr} {us : List Value} {kw : List (Str × Value)} : (A.under (.builtin "type.__call__" ⟨.ref C :: us, kw⟩)).units = A.units + 1 := by
  first | rfl | simp [Around.under, Code.cUnits, Code.frames, Code.isFrame]
theorem Room.make {k : Nat} {A : Around} (r : Room (k + 1) A) (C : Addr) (us : List Value) (kw : List (Str × Value)) : Room k (A.under (.builtin "type.__call__" ⟨.ref C :: us, kw⟩)) :=
  ⟨r.hd, by have := r.dp; rw [make_depth]; omega, by have := r.un; rw [make_units]; omega⟩
theorem Room.depth {k : Nat} {A : Around} (r : Room k A) : A.depth < recursionLimit := by have := r.dp; omega
theorem Room.units {k : Nat} {A : Around} (r : Room k A) : A.units + 64 < cLine := by have := r.un; omega
def tNil : TA := fun _ H Q => Q [] H
def tCons (ta : TE) (tr : TA) : TA := fun σ H Q => ta σ H fun x H1 => tr σ H1 fun xs H2 => Q (x :: xs) H2
section
variable {X : Cx} {e : Expr} {es : List Expr} {te : TE} {t : TA} {pos : Pos}
theorem pa_nil : PA X [] tNil := fun _ _ _ _ H Q I h => Calls.spliced_nil ⟨[], H, I, .nil, h⟩
theorem pa_cons (ha : PE X e te) (hr : PA X es t) (hs : starEach (e :: es) X.env = (false, eval e X.env) :: starEach es X.env := by rfl) : PA X (e :: es) (tCons te t) := by
  intro pos pins s σ H Q I h
  rw [hs]
  show wpAny _ _ (spliced ((false, eval e X.env) :: backTo pos (starEach es X.env))) _ _ s
  refine Calls.spliced_cons (thn (ha pins s σ H _ I h) fun u s1 ⟨x, H1, I1, r1, q1⟩ => ?_)
  exact thn (hr pos pins s1 σ H1 _ I1 q1) fun us s2 ⟨xs, H2, I2, r2, q2⟩ => ⟨x :: xs, H2, I2, .cons r1 r2, q2⟩
def tTup (t : TA) : TE := fun σ H Q => t σ H fun xs H1 => xs.length ≤ sizeLine ∧ ∀ p, H1 p = none → Q (.ref p) (upd H1 p (.tup xs))
def tLst (t : TA) : TE := fun σ H Q => t σ H fun xs H1 => xs.length ≤ sizeLine ∧ ∀ p, H1 p = none → Q (.ref p) (upd H1 p (.lst xs))
theorem pe_tup {x1} (h : PA X es t) : PE X (.Tuple es x1 pos) (tTup t) := by
  intro pins s σ H Q I hq
  refine wpAny_Tuple_spliced (thn (h pos pins s σ H _ I hq) fun us s1 ⟨xs, H1, I1, r, z, q⟩ => ⟨by rw [← r.length]; exact z, ?_⟩)
  have hf : H1 s1.heap.objs.size = none := I1.hok.fresh (Nat.le_refl _)
  refine ⟨.ref s1.heap.objs.size, upd H1 s1.heap.objs.size (.tup xs), I1.laid (t' := s1.toks) (fun b u e => Heap.get?_push_of_some _ e) (Nat.le_refl _) ?_, rfl, q _ hf⟩
  exact ⟨z, us, r, ⟨_, Heap.get?_push_size _ rfl, rfl, _, rfl⟩⟩
theorem pe_lst (h : PA X es t) : PE X (.List es pos) (tLst t) := by
  intro pins s σ H Q I hq
  refine wpAny_List_spliced (thn (h pos pins s σ H _ I hq) fun us s1 ⟨xs, H1, I1, r, z, q⟩ => ⟨by rw [← r.length]; exact z, ?_⟩)
  have hf : H1 s1.heap.objs.size = none := I1.hok.fresh (Nat.le_refl _)
  refine ⟨.ref s1.heap.objs.size, upd H1 s1.heap.objs.size (.lst xs), I1.laid (t' := s1.toks) (fun b u e => Heap.get?_push_of_some _ e) (Nat.le_refl _) ?_, rfl, q _ hf⟩
  exact ⟨z, us, 0, r, Heap.get?_push_size _ rfl⟩
end
abbrev Sp := List V → Hp → VK → XK → Prop
abbrev CXT := List Env → Hp → Shared → XK → Value → Shared → Prop
structure Env0 (P : Program) (w : World) (K : PySem.W.Frag) (mg : Str → Option Value) (base : Heap) (A : Around) (outer : List Env) (s : Shared) (H : Hp) : Prop where
  frames : A.frames = some outer
  mod : Mod K mg base
  bs : ∀ b o, base.get? b = some o → s.heap.get? b = some o ∧ H b = none
  bsz : base.objs.size ≤ s.heap.objs.size
  funs : s.heap.FunFrames base outer
  frf : ∀ b ∈ frs outer, H b = none
  hok : HOk P w H s.heap
  bare : AllBare s.gens
def CE (outer : List Env) (P : Program) (w : World) (H : Hp) (s : Shared) (Q : VK) (u : Value) (s' : Shared) : Prop :=
  ∃ v H', s'.os = s.os ∧ AllBare s'.gens ∧ Un (frs outer) [] H H' s.heap s'.heap ∧ HOk P w H' s'.heap ∧ RelV v u ∧ Q v H'
def CR (CX : CXT) (outer : List Env) (P : Program) (w : World) (H : Hp) (s : Shared) (Q : VK) (E : XK) (r : Result) (s' : Shared) : Prop :=
  match r with
  | .ok (.ret u) => CE outer P w H s Q u s'
  | .ok _ => False
  | .error e => CX outer H s E e s'
structure FnOk (P : Program) (w : World) (K : PySem.W.Frag) (mg : Str → Option Value) (base : Heap) (CX : CXT) (k : Nat) (f : Addr) (fd : FuncData) (ps : List Str) (sp : Sp) : Prop where
  len : ∀ vs H Q E, sp vs H Q E → vs.length = ps.length
  run : ∀ (A : Around) (outer : List Env) (s : Shared) (H : Hp) (args : Args) (us : List Value) (vs : List V) (Q : VK) (E : XK), Room k A → Env0 P w K mg base A outer s H → BindsTo s fd args (ps.zip us) → Vals vs us → sp vs H Q E →
    codeAny (model P w) A (.call (.ref f) args) (CR CX outer P w H s Q E) s
theorem FnOk.mono {P : Program} {w : World} {K : PySem.W.Frag} {mg : Str → Option Value} {base : Heap} {CX : CXT} {j k : Nat} {f : Addr} {fd : FuncData} {ps : List Str} {sp : Sp} (F : FnOk P w K mg base CX j f fd ps sp) (h : j ≤ k) :
    FnOk P w K mg base CX k f fd ps sp := ⟨F.len, fun A outer s H args us vs Q E hr => F.run A outer s H args us vs Q E (hr.mono h)⟩
theorem Env0.make {P : Program} {w : World} {K : PySem.W.Frag} {mg : Str → Option Value} {base : Heap} {A : Around} {outer : List Env} {s : Shared} {H : Hp} (e : Env0 P w K mg base A outer s H) (C : Addr) (us : List Value) (kw : List (Str × Value)) :
    Env0 P w K mg base (A.under (.builtin "type.__call__" ⟨.ref C :: us, kw⟩)) outer s H := ⟨by first | exact e.frames | (simpa [Around.under, Code.envs, Code.isFrame, pushEnvs] using e.frames), e.mod, e.bs, e.bsz, e.funs, e.frf, e.hok, e.bare⟩
section
variable {X : Cx} {pins : List (Addr × Obj)} {σ : St} {H : Hp} {s s' : Shared}
theorem Inv.env0 (I : Inv X pins σ H s) : Env0 X.prog X.w X.K X.mg X.base X.A X.stack s H :=
  ⟨I.ok.frames, I.ok.mod, I.bs, Nat.le_trans I.ok.bsz I.sz, I.stack, I.stkFree, I.hok, I.bare⟩
theorem Inv.after {Q : VK} {u : Value} (I : Inv X pins σ H s) (h : CE X.stack X.prog X.w H s Q u s') : EP X pins σ Q u s' := by
  obtain ⟨v, H', os, bare, un, hok, r, q⟩ := h
  obtain ⟨hh, g, d, t, os'⟩ := s'
  obtain rfl : os' = s.os := os
  exact ⟨v, H', I.call (h' := hh) (g' := g) (d' := d) (t' := t) (ch := []) un hok bare (fun b z => absurd z (by simp)), r, q⟩
end
def tCall (sp : Sp) (dvs : List V) (E : XK) (t : TA) : TE := fun σ H Q => t σ H fun vs H1 => sp (vs ++ dvs) H1 Q E
def tMeth (C : Addr) (m : Str) (sp : Sp) (dvs : List V) (E : XK) (ta : TE) (t : TA) : TE := fun σ H Q => ta σ H fun x H1 => ∃ a dx fs, x = .ref a ∧ H1 a = some (.ins C dx fs) ∧ fs.lookup m = none ∧
  t σ H1 fun vs H2 => sp (x :: (vs ++ dvs)) H2 Q E
def tMake (C : Addr) (sp : Sp) (dvs : List V) (E : XK) (t : TA) : TE := fun σ H Q => t σ H fun vs H1 => ∀ x dx, H1 x = none → H1 dx = none → dx ≠ x →
  sp (.ref x :: (vs ++ dvs)) (upd (upd H1 dx (.own x)) x (.ins C dx [])) (fun v H2 => v = .non ∧ Q (.ref x) H2) E
def Binds (K : PySem.W.Frag) (fd : FuncData) (ps : List Str) (ds : List Value) : Prop :=
  ∀ (s : Shared) (us : List Value), K.In s.heap → (us ++ ds).length = ps.length → BindsTo s fd ⟨us, []⟩ (ps.zip (us ++ ds))
theorem Binds.all {K : PySem.W.Frag} {fd : FuncData} {ps : List Str} (h : ∀ us : List Value, us.length = ps.length → bindArgs fd ⟨us, []⟩ = pure (ps.zip us)) : Binds K fd ps [] := fun s us _ hl => by
  rw [List.append_nil] at hl ⊢
  exact .of_eq (h us hl)
def Passes (CX : CXT) (X : Cx) (E : XK) : Prop := ∀ (pins : List (Addr × Obj)) (σ : St) (H : Hp) (s : Shared) (e : Value) (s' : Shared), Inv X pins σ H s → CX X.stack H s E e s' → X.xe e s'
section
variable {X : Cx} {CX : CXT} {k : Nat} {f C : Addr} {fd : FuncData} {ps : List Str} {sp : Sp} {dvs : List V} {ds : List Value} {E : XK} {x m : Str} {p pos apos : Pos} {e o : Expr} {es : List Expr} {ta : TE} {t : TA}
theorem run_fn {pins : List (Addr × Obj)} {σ : St} {H : Hp} {s : Shared} {Q : VK} {us : List Value} {vs : List V} (F : FnOk X.prog X.w X.K X.mg X.base CX k f fd ps sp) (hr : Room k X.A) (hb : Binds X.K fd ps ds) (hd : Vals dvs ds) (hx : Passes CX X E)
    (I : Inv X pins σ H s) (r : Vals vs us) (h : sp (vs ++ dvs) H Q E) : wpAny (model X.prog X.w) X.A (call (.ref f) us) (EP X pins σ Q) X.xe s := by
  have r2 : Vals (vs ++ dvs) (us ++ ds) := r.append hd
  have hl : (us ++ ds).length = ps.length := by rw [← r2.length]; exact F.len _ _ _ _ h
  refine wpAny_call (codeAny_mono (F.run X.A X.stack s H ⟨us, []⟩ (us ++ ds) (vs ++ dvs) Q E hr I.env0 (hb s us I.kIn hl) r2 h) fun r s' hq => ?_)
  cases r with
  | error e => exact hx pins σ H s e s' I hq
  | ok fl =>
    cases fl with
    | ret u => exact I.after hq
    | next => exact False.elim hq
    | brk => exact False.elim hq
    | cont => exact False.elim hq
theorem pe_call (F : FnOk X.prog X.w X.K X.mg X.base CX k f fd ps sp) (hr : Room k X.A) (hg : Gl X x) (hm : X.mg x = some (.ref f)) (hk : PySem.W.keepIn X.K (.ref f) = true) (hb : Binds X.K fd ps ds) (hd : Vals dvs ds) (hx : Passes CX X E)
    (ha : PA X (e :: es) t) (hdb : (x == ("__debug__" : Str)) = false := by decide) (he : starEach (e :: es) X.env = (false, eval e X.env) :: starEach es X.env := by rfl) (hpl : (backTo pos (starEach es X.env)).any (·.1) = false := by rfl) :
    PE X (.Call (.Name x p) (e :: es) [] pos) (tCall sp dvs E t) := by
  intro pins s σ H Q I h
  refine wpAny_Call_Name_kw (ld_glob I hg hm ?_ hdb)
  refine PySem.W.callWith_K (h₀ := X.base) I.ok.mod.kin hk (thn (ha pos pins s σ H _ I h) fun us s1 ⟨vs, H1, I1, r, q⟩ => ⟨I1.kIn, ?_⟩) he hpl
  exact run_fn F hr hb hd hx I1 r q
theorem pe_meth {pl : Sem Bool} (he : PE X o ta) (c : Cls X.K C) (hm : Meth X.K C m f) (F : FnOk X.prog X.w X.K X.mg X.base CX k f fd ps sp) (hr : Room k X.A) (hb : Binds X.K fd ps ds) (hd : Vals dvs ds) (hx : Passes CX X E) (ha : PA X (e :: es) t)
    (hst : starEach (e :: es) X.env = (false, eval e X.env) :: starEach es X.env := by rfl) (hpl : (backTo pos (starEach es X.env)).any (·.1) = false := by rfl)
    (ht : eval (.Call (.Attribute o m apos) (e :: es) [] pos) X.env = (do
      let ov ← eval o X.env
      standAt apos.atName
      let (f, first) ← holding [ov] (getMethod ov m pl)
      callWith pos f first (backTo pos (starEach (e :: es) X.env)) (backToKw pos (keywordEach [] X.env))) := by rfl) :
    PE X (.Call (.Attribute o m apos) (e :: es) [] pos) (tMeth C m sp dvs E ta t) := by
  intro pins s σ H Q I h
  refine PySem.W.methodCall_KW (pl := pl) (thn (he pins s σ H _ I h) fun u s1 ⟨x, H1, I1, rx, a, dx, fs, ex, ea, l, q⟩ => ?_) ht
  subst ex
  obtain rfl : u = Value.ref a := rx
  refine getmeth_ok I1 ea c hm l ?_
  refine PySem.W.callWith_K (first := [.ref a]) (h₀ := X.base) I.ok.mod.kin hm.kp (thn (ha pos pins s1 σ H1 _ I1 q) fun us s2 ⟨vs, H2, I2, r, q2⟩ => ⟨I2.kIn, ?_⟩) hst hpl
  exact run_fn (us := .ref a :: us) (vs := .ref a :: vs) F hr hb hd hx I2 (.cons rfl r) q2
theorem pe_meth0 {pl : Sem Bool} (he : PE X o ta) (c : Cls X.K C) (hm : Meth X.K C m f) (F : FnOk X.prog X.w X.K X.mg X.base CX k f fd ps sp) (hr : Room k X.A) (hb : Binds X.K fd ps ds) (hd : Vals dvs ds) (hx : Passes CX X E)
    (ht : eval (.Call (.Attribute o m apos) [] [] pos) X.env = (do
      let ov ← eval o X.env
      standAt apos.atName
      let (f, first) ← holding [ov] (getMethod ov m pl)
      callWith pos f first (backTo pos (starEach [] X.env)) (backToKw pos (keywordEach [] X.env))) := by rfl) :
    PE X (.Call (.Attribute o m apos) [] [] pos) (tMeth C m sp dvs E ta tNil) := by
  intro pins s σ H Q I h
  refine PySem.W.methodCall_KW (pl := pl) (thn (he pins s σ H _ I h) fun u s1 ⟨x, H1, I1, rx, a, dx, fs, ex, ea, l, q⟩ => ?_) ht
  subst ex
  obtain rfl : u = Value.ref a := rx
  refine getmeth_ok I1 ea c hm l ?_
  exact PySem.W.callWith_K0 (first := [.ref a]) I1.kIn hm.kp (run_fn (us := [.ref a]) (vs := [.ref a]) F hr hb hd hx I1 (.cons rfl .nil) q)
structure Mk (K : PySem.W.Frag) (C f : Addr) : Prop where
  makes : PySem.W.makesIn K C = true
  init : PySem.W.findIn K (.ref C) "__init__" = some (some (.ref f))
  fn : PySem.W.isFn K (.ref f) = true
  kp : PySem.W.keepIn K (.ref C) = true
theorem run_make {pins : List (Addr × Obj)} {σ : St} {H : Hp} {s : Shared} {Q : VK} {us : List Value} {vs : List V} (M : Mk X.K C f) (F : FnOk X.prog X.w X.K X.mg X.base CX k f fd ps sp) (hr : Room (k + 1) X.A) (hb : Binds X.K fd ps ds) (hd : Vals dvs ds)
    (hx : Passes CX X E) (I : Inv X pins σ H s) (r : Vals vs us)
    (h : ∀ x dx, H x = none → H dx = none → dx ≠ x → sp (.ref x :: (vs ++ dvs)) (upd (upd H dx (.own x)) x (.ins C dx [])) (fun v H2 => v = .non ∧ Q (.ref x) H2) E) :
    wpAny (model X.prog X.w) X.A (call (.ref C) us) (EP X pins σ Q) X.xe s := by
  have hq := h (s.heap.objs.size + 1) s.heap.objs.size (I.hok.fresh (Nat.le_succ _)) (I.hok.fresh (Nat.le_refl _)) (Nat.ne_of_lt (Nat.lt_succ_self _))
  have I2 := Inv.made (C := C) I
  have r2 : Vals (V.ref (s.heap.objs.size + 1) :: (vs ++ dvs)) (Value.ref (s.heap.objs.size + 1) :: (us ++ ds)) := .cons rfl (r.append hd)
  have hl : (Value.ref (s.heap.objs.size + 1) :: us ++ ds).length = ps.length := by
    have e := r2.length
    rw [F.len _ _ _ _ hq] at e
    exact e.symm
  refine wpAny_call (make_map (f := f) I.kIn M.makes M.init (beq_iff_eq.mp M.fn) (codeAny_mono (F.run _ X.stack _ _ ⟨Value.ref (s.heap.objs.size + 1) :: us, []⟩ (Value.ref (s.heap.objs.size + 1) :: (us ++ ds)) _ _ E (hr.make C us [])
    (I2.env0.make C us []) (hb _ (Value.ref (s.heap.objs.size + 1) :: us) I2.kIn hl) r2 hq) fun r s' hq' => ?_))
  cases r with
  | error e => exact hx pins σ _ _ e s' I2 hq'
  | ok fl =>
    cases fl with
    | ret u =>
      obtain ⟨v, H', I3, rv, ev, q3⟩ := I2.after hq'
      subst ev
      exact ⟨rv, ⟨V.ref (s.heap.objs.size + 1), H', I3, rfl, q3⟩⟩
    | next => exact False.elim hq'
    | brk => exact False.elim hq'
    | cont => exact False.elim hq'
theorem pe_make (M : Mk X.K C f) (F : FnOk X.prog X.w X.K X.mg X.base CX k f fd ps sp) (hr : Room (k + 1) X.A) (hg : Gl X x) (hm : X.mg x = some (.ref C)) (hb : Binds X.K fd ps ds) (hd : Vals dvs ds) (hx : Passes CX X E)
    (ha : PA X (e :: es) t) (hdb : (x == ("__debug__" : Str)) = false := by decide) (he : starEach (e :: es) X.env = (false, eval e X.env) :: starEach es X.env := by rfl) (hpl : (backTo pos (starEach es X.env)).any (·.1) = false := by rfl) :
    PE X (.Call (.Name x p) (e :: es) [] pos) (tMake C sp dvs E t) := by
  intro pins s σ H Q I h
  refine wpAny_Call_Name_kw (ld_glob I hg hm ?_ hdb)
  refine PySem.W.callWith_K (h₀ := X.base) I.ok.mod.kin M.kp (thn (ha pos pins s σ H _ I h) fun us s1 ⟨vs, H1, I1, r, q⟩ => ⟨I1.kIn, ?_⟩) he hpl
  exact run_make M F hr hb hd hx I1 r q
end
section
variable {X : Cx} {CX : CXT} {k : Nat} {f C : Addr} {fd : FuncData} {ps ks : List Str} {sp : Sp} {E : XK} {x m : Str} {p pos apos kpos : Pos} {e o : Expr} {es : List Expr} {kws : List Keyword} {te ta : TE} {t tk : TA} {nm : Option Str}
variable {g : List Value → List Value → List Value} {gV : List V → List V → List V}
end
structure FnScope (N P : List Str) (sc : Scope) : Prop where
  kind : sc.kind = .function
  co : sc.isCoroutine = false
  gen : sc.isGenerator = false
  nd : N.Nodup
  pre : N.take P.length = P
  par : ∀ x ∈ P, sc.names.lookup x = some .local ∨ sc.names.lookup x = some .cell
  nofree : ∀ y ∈ sc.names, y.2 ≠ .free
theorem bindL_out {kindOf : Str → Option NameKind} {x : Str} : ∀ {binds : List (Str × Value)} {m : Str → Option Value}, (∀ v, (x, v) ∉ binds) → bindL kindOf binds m x = m x
  | [], _, _ => rfl
  | (n, v) :: r, m, h => by
    unfold bindL
    rw [bindL_out fun w hw => h w (List.mem_cons_of_mem _ hw)]
    split
    · have : x ≠ n := by rintro rfl; exact h v List.mem_cons_self
      simp [this]
    · rfl
theorem bindC_out {kindOf : Str → Option NameKind} {x : Str} : ∀ {binds : List (Str × Value)} {m : Str → Option Value}, (∀ v, (x, v) ∉ binds) → bindC kindOf binds m x = m x
  | [], _, _ => rfl
  | (n, v) :: r, m, h => by
    unfold bindC
    rw [bindC_out fun w hw => h w (List.mem_cons_of_mem _ hw)]
    split
    · rfl
    · have : x ≠ n := by rintro rfl; exact h v List.mem_cons_self
      simp [this]
theorem bindL_get {kindOf : Str → Option NameKind} {x : Str} {v : Value} : ∀ {P : List Str} {vs : List Value} {i : Nat} {m : Str → Option Value}, P.Nodup → P[i]? = some x → vs[i]? = some v → kindOf x = some .local →
    bindL kindOf (P.zip vs) m x = some v
  | [], _, _, _, _, h, _, _ => by simp at h
  | _ :: _, [], _, _, _, _, h, _ => by simp at h
  | p :: P, w :: vs, 0, m, nd, h1, h2, hk => by
    simp at h1 h2; subst h1; subst h2
    show bindL kindOf ((p, w) :: P.zip vs) m p = _
    unfold bindL
    rw [bindL_out fun v hv => (List.nodup_cons.mp nd).1 (List.of_mem_zip hv).1, if_pos hk]
    simp
  | p :: P, w :: vs, i + 1, m, nd, h1, h2, hk => by
    show bindL kindOf ((p, w) :: P.zip vs) m x = _
    unfold bindL
    exact bindL_get (i := i) (List.nodup_cons.mp nd).2 (by simpa using h1) (by simpa using h2) hk
theorem bindC_get {kindOf : Str → Option NameKind} {x : Str} {v : Value} : ∀ {P : List Str} {vs : List Value} {i : Nat} {m : Str → Option Value}, P.Nodup → P[i]? = some x → vs[i]? = some v → kindOf x ≠ some .local →
    bindC kindOf (P.zip vs) m x = some v
  | [], _, _, _, _, h, _, _ => by simp at h
  | _ :: _, [], _, _, _, _, h, _ => by simp at h
  | p :: P, w :: vs, 0, m, nd, h1, h2, hk => by
    simp at h1 h2; subst h1; subst h2
    show bindC kindOf ((p, w) :: P.zip vs) m p = _
    unfold bindC
    rw [bindC_out fun v hv => (List.nodup_cons.mp nd).1 (List.of_mem_zip hv).1, if_neg hk]
    simp
  | p :: P, w :: vs, i + 1, m, nd, h1, h2, hk => by
    show bindC kindOf ((p, w) :: P.zip vs) m x = _
    unfold bindC
    exact bindC_get (i := i) (List.nodup_cons.mp nd).2 (by simpa using h1) (by simpa using h2) hk
def start (N : List Str) (vs : List V) : St := vs.map some ++ List.replicate (N.length - vs.length) none
def cxOf (CX : CXT) (P : Program) (w : World) (K : PySem.W.Frag) (mg : Str → Option Value) (base : Heap) (N : List Str) (qual : Str) (scope : Scope) (f : Addr) (cd : Value) (A : Around) (outer : List Env) (s : Shared) (H : Hp) (E : XK) : Cx where
  prog := P
  w := w
  K := K
  mg := mg
  base := base
  A := A.deeper (envOfC qual scope s.heap.objs.size f cd)
  N := N
  s₀ := s
  H₀ := H
  env := envOfC qual scope s.heap.objs.size f cd
  outer := outer
  stack := envOfC qual scope s.heap.objs.size f cd :: outer
  ex := []
  calm := true
  fn := fun _ => true
  pn := []
  xe := fun e s' => wpAny (model P w) (A.deeper (envOfC qual scope s.heap.objs.size f cd)) (leaving (envOfC qual scope s.heap.objs.size f cd) e) (fun _ s'' => CX outer H s E e s'') (fun e' s'' => CX outer H s E e' s'') s'
theorem cell_has {sc : Scope} {n : Nat} {x : Str} (h : sc.names.lookup x = some .cell) : ∃ c, (cellsFrom n sc.names []).lookup x = some c := by
  have q := PySem.W.cellsFrom_some sc.names n [] (.inl h)
  exact Option.isSome_iff_exists.mp q
theorem inv_start {CX : CXT} {P : Program} {w : World} {K : PySem.W.Frag} {mg : Str → Option Value} {base : Heap} {N ps : List Str} {qual : Str} {scope : Scope} {f : Addr} {cd : Value} {A : Around} {outer : List Env} {s s1 : Shared} {H : Hp} {E : XK} {us : List Value} {vs : List V}
    (S : FnScope N ps scope) (hd : A.handled = none) (e0 : Env0 P w K mg base A outer s H) (hl : vs.length = ps.length) (r : Vals vs us)
    (x : InCallC s s.heap.objs.size (bindL (envOfC qual scope s.heap.objs.size f cd).kindOf (ps.zip us) fun _ => none) (cellsFrom (s.heap.objs.size + 1) scope.names []) (bindC (envOfC qual scope s.heap.objs.size f cd).kindOf (ps.zip us) fun _ => none) s1) :
    Inv (cxOf CX P w K mg base N qual scope f cd A outer s H E) [] (start N vs) H s1 := by
  have hpl : ps.length ≤ N.length := by have := congrArg List.length S.pre; rw [List.length_take] at this; omega
  obtain ⟨h1, tk, rfl, hk⟩ := x.done
  have noA : ∀ b : Addr, b ∉ (cxOf CX P w K mg base N qual scope f cd A outer s H E).ex := fun b z => absurd (show b ∈ ([] : List Addr) from z) (by simp)
  refine ⟨⟨e0.mod, S.kind, rfl, rfl, Nat.le_refl _, fun y z c h1 h2 => ?_, fun y hy => ?_, fun y c _ h => ?_, fun _ => hd, Around.frames_deeper e0.frames, .inr ⟨rfl, rfl⟩, fun b z => absurd z (noA b), e0.bs, e0.bsz, fun b _ _ => noA b, fun b z => absurd z (noA b), e0.funs, e0.frf⟩,
    rfl, e0.bare, Un.kept hk, ⟨_, x.toInCall.ns, fun i y v h1 h2 h3 => ?_⟩, fun y c h => ⟨_, x.cell y c h⟩, e0.hok.fresh (Nat.le_refl _), fun y c h => ?_, fun p hp => absurd (show p ∈ ([] : List (Addr × Obj)) from hp) (by simp), e0.hok.kept hk, ?_⟩
  · exact name_of_addr x.apart (PySem.mem_of_lookup h1) (PySem.mem_of_lookup h2)
  · have hy : scope.names.lookup y = some .cell ∨ scope.names.lookup y = some .free := hy
    rcases hy with hy | hy
    · exact cell_has hy
    · exact absurd rfl (S.nofree _ (PySem.mem_of_lookup hy))
  · exact Nat.le_of_lt (x.above y c (PySem.mem_of_lookup h))
  · have hi : i < vs.length := by
      unfold start at h2
      by_cases hi : i < vs.length
      · exact hi
      · rw [List.getElem?_append_right (by simpa using hi)] at h2
        rw [List.getElem?_replicate] at h2
        split at h2 <;> cases h2
    have ha : vs[i]? = some v := by
      unfold start at h2
      rw [List.getElem?_append_left (by simpa using hi), List.getElem?_map] at h2
      cases e : vs[i]? with
      | none => rw [e] at h2; cases h2
      | some a => rw [e] at h2; cases h2; rfl
    obtain ⟨u, hu, rv⟩ := r.get ha
    have hp : ps[i]? = some y := by
      rw [← S.pre, List.getElem?_take_of_lt (by omega)]; exact h1
    have ndP : ps.Nodup := by rw [← S.pre]; exact S.nd.sublist (List.take_sublist _ _)
    refine ⟨u, rv, ?_⟩
    rcases S.par y (List.mem_of_getElem? hp) with k | k
    · exact .inl ⟨k, bindL_get ndP hp hu k⟩
    · obtain ⟨c, e⟩ := cell_has (n := s.heap.objs.size + 1) k
      refine .inr ⟨.inl k, c, e, ?_⟩
      have q := x.cell y c e
      rw [bindC_get ndP hp hu (by show scope.names.lookup y ≠ _; rw [k]; decide)] at q
      exact q
  · exact e0.hok.fresh (Nat.le_of_lt (x.above y c (PySem.mem_of_lookup h)))
  · unfold start
    show _ = N.length
    rw [List.length_append, List.length_map, List.length_replicate]
    omega
theorem fn_of {CX : CXT} {P : Program} {w : World} {K : PySem.W.Frag} {mg : Str → Option Value} {base : Heap} {k : Nat} {f : Addr} {name qual : Str} {params : Arguments} {body : List Stmt} {scope : Scope} {dV kV doc pm cdv ct oc : Value} {an od : Option Addr}
    {osl : Array (Option Value)} {N ps : List Str} {sp : Sp} (lk : K.lookup f = some ⟨oc, od, .func (PySem.W.fnOf name qual params body scope dV kV doc pm an cdv ct), osl⟩) (hcd : PySem.W.codeIn K cdv qual = true) (S : FnScope N ps scope)
    (len : ∀ vs H Q E, sp vs H Q E → vs.length = ps.length)
    (hbody : ∀ (A : Around) (outer : List Env) (s : Shared) (H : Hp) (vs : List V) (Q : VK) (E : XK), Room k (A.deeper (envOfC qual scope s.heap.objs.size f cdv)) → sp vs H Q E →
      ∃ t, PSs (cxOf CX P w K mg base N qual scope f cdv A outer s H E) body t ∧ t { nx := fun _ H' => Q .non H', rt := Q } (start N vs) H) :
    FnOk P w K mg base CX (k + 1) f (PySem.W.fnOf name qual params body scope dV kV doc pm an cdv ct) ps sp := by
  refine ⟨len, fun A outer s H args us vs Q E hr e0 hb r hsp => ?_⟩
  have hl := len _ _ _ _ hsp
  have KX : K.In s.heap := e0.mod.kin.keeps fun b o e => (e0.bs b o e).1
  have lim : s.heap.NoLimit := e0.mod.nolimit.keeps fun b o e => (e0.bs b o e).1
  have hkind : ∀ y ∈ ps.zip us, scope.names.lookup y.1 = some .local ∨ (scope.names.lookup y.1 = some .cell ∧ ((cellsFrom (s.heap.objs.size + 1) scope.names []).lookup y.1).isSome = true) := fun ⟨n, v⟩ hy => by
    rcases S.par n (List.of_mem_zip hy).1 with q | q
    · exact .inl q
    · exact .inr ⟨q, PySem.W.cellsFrom_some _ _ _ (.inl q)⟩
  refine codeAny_call_function hr.depth (KX _ _ lk) rfl S.co S.gen rfl (PySem.W.codeRec_of KX hcd) (hb _ _ _ _ ?_)
  refine wpAny_newFunctionEnv_cells S.kind hkind fun env he s1 x => ?_
  subst he
  refine ⟨lim.keeps x.toInCall.keep, codeAny_func ?_⟩
  obtain ⟨t, ht, hq⟩ := hbody A outer s H vs Q E (hr.deeper _) hsp
  have I : Inv (cxOf CX P w K mg base N qual scope f cdv A outer s H E) [] (start N vs) H s1 := inv_start S hr.hd e0 hl r x
  refine wpAny_mono (ht [] s1 (start N vs) H _ I hq) (fun fl s' hs => ?_) fun e s' hs => hs
  have fin : ∀ {σ' : St} {H' : Hp} {v : V} {u : Value}, Inv (cxOf CX P w K mg base N qual scope f cdv A outer s H E) [] σ' H' s' → RelV v u → Q v H' → CE outer P w H s Q u s' :=
    fun {σ' H' v u} J rv q => ⟨v, H', J.os, J.bare, J.base, J.hok, rv, q⟩
  cases fl with
  | ret u =>
    obtain ⟨v, σ', H', J, rv, q⟩ := hs
    exact fin J rv q
  | next =>
    obtain ⟨σ', H', J, q⟩ := hs
    exact fin (v := V.non) (u := Value.none) J rfl q
  | brk =>
    obtain ⟨_, _, _, q⟩ := hs
    exact False.elim q
  | cont =>
    obtain ⟨_, _, _, q⟩ := hs
    exact False.elim q
end L2
namespace L2
open PySem PySem.Spec PyProof.Rows
section
variable {X : Cx} {x : Str} {p pos : Pos} {e : Expr} {es : List Expr} {t : TA} {id T : String} {r : List V → Hp → VK → Prop}
def tCB (r : List V → Hp → VK → Prop) (t : TA) : TE := fun σ H Q => t σ H fun vs H1 => r vs H1 Q
theorem pe_callB (hc : CallR X (.builtin id) r) (hg : Gl X x) (hm : X.mg x = none) (hv : bootBuiltins x = some (.builtin id)) (ha : PA X (e :: es) t) (hn : x ≠ "__name__" := by decide) (hdb : (x == ("__debug__" : Str)) = false := by decide)
    (he : starEach (e :: es) X.env = (false, eval e X.env) :: starEach es X.env := by rfl) (hpl : (backTo pos (starEach es X.env)).any (·.1) = false := by rfl) : PE X (.Call (.Name x p) (e :: es) [] pos) (tCB r t) := by
  intro pins s σ H Q I h
  refine wpAny_Call_Name_kw (ld_blt I hg hm hv ?_ hn hdb)
  exact PyProof.Rows.callWith_builtin1 (thn (ha pos pins s σ H _ I h) fun us s1 ⟨vs, H1, I1, r1, q1⟩ => hc pins s1 σ H1 vs us Q I1 r1 q1) he hpl
theorem pe_callTy (hc : CallR X (.type T) r) (hg : Gl X x) (hm : X.mg x = none) (hv : bootBuiltins x = some (.type T)) (ha : PA X (e :: es) t) (hn : x ≠ "__name__" := by decide) (hdb : (x == ("__debug__" : Str)) = false := by decide)
    (he : starEach (e :: es) X.env = (false, eval e X.env) :: starEach es X.env := by rfl) (hpl : (backTo pos (starEach es X.env)).any (·.1) = false := by rfl) : PE X (.Call (.Name x p) (e :: es) [] pos) (tCB r t) := by
  intro pins s σ H Q I h
  refine wpAny_Call_Name_kw (ld_blt I hg hm hv ?_ hn hdb)
  exact PyProof.Rows.callWith_type1 (thn (ha pos pins s σ H _ I h) fun us s1 ⟨vs, H1, I1, r1, q1⟩ => hc pins s1 σ H1 vs us Q I1 r1 q1) he hpl
end
end L2
namespace HT
open PySem PyProof.Rows
section
open PySem.SeqAt
open PySem.AutoSeq1 (wpAny_loadPart')
open PySem.MeetsSeq PySem.MeetsSeq2 PySem.MeetsSeq3
end
section
variable {prog : Program} {w : World} {A : Around} {E : Value → Shared → Prop} {s : Shared}
def sIx (n d : Nat) : Option Int → Nat
  | none => d
  | some v => if v < 0 then (v + (n : Int)).toNat else min v.toNat n
theorem sIx_none (n d : Nat) : sIx n d none = d := rfl
theorem sIx_nat (n d k : Nat) : sIx n d (some (k : Int)) = min k n := by
  show (if (k : Int) < 0 then ((k : Int) + (n : Int)).toNat else min (k : Int).toNat n) = min k n
  rw [if_neg (by omega), Int.toNat_natCast]
end
end HT
namespace L2
open PySem PySem.Spec PyProof.Rows
abbrev TO := St → Hp → (Option Int → Hp → Prop) → Prop
def PO (X : Cx) (e : Option Expr) (t : TO) : Prop :=
  ∀ (pins : List (Addr × Obj)) (s : Shared) (σ : St) (H : Hp) (Q : Option Int → Hp → Prop), Inv X pins σ H s → t σ H Q →
    wpAny (model X.prog X.w) X.A (evalPart e X.env) (fun u s' => ∃ o H', Inv X pins σ H' s' ∧ IsPart u o ∧ Q o H') X.xe s
def tNoPart : TO := fun _ H Q => Q none H
def tPart (t : TE) : TO := fun σ H Q => t σ H fun x H1 => ∃ i, x = .int i ∧ Q (some i) H1
theorem intsAre_of {ns : List Int} : ∀ {us : List Value}, Vals (ns.map V.int) us → IntsAre us ns := by
  induction ns with
  | nil => intro us r; rw [List.map_nil] at r; cases r; exact .nil
  | cons n ns ih =>
    intro us r
    rw [List.map_cons] at r
    cases r with
    | cons r1 r2 =>
      obtain ⟨t, e⟩ := r1
      subst e
      exact .cons n t (ih r2)
section
variable {X : Cx} {e : Expr} {te : TE} {lo hi : Option Expr} {tl th : TO} {pos p2 : Pos}
theorem po_none : PO X none tNoPart := by
  intro pins s σ H Q I h
  rw [evalPart_none]
  exact wpAny_pure ⟨none, H, I, .none, h⟩
theorem po_some (h : PE X e te) : PO X (some e) (tPart te) := by
  intro pins s σ H Q I hw
  rw [evalPart_some]
  refine thn (h pins s σ H _ I hw) fun u s1 ⟨x, H1, I1, r1, q1⟩ => ?_
  obtain ⟨i, rfl, q⟩ := q1
  obtain ⟨t, rfl⟩ := r1
  exact ⟨some i, H1, I1, .int i t, q⟩
def SlR (X : Cx) (r : V → Option Int → Option Int → Hp → VK → Prop) : Prop :=
  ∀ (pins : List (Addr × Obj)) (s : Shared) (σ : St) (H : Hp) (x : V) (v vl vu : Value) (lo hi : Option Int) (sl : Addr) (Q : VK), Inv X pins σ H s → RelV x v → s.heap.IsSliceOf sl vl vu .none → IsPart vl lo → IsPart vu hi → r x lo hi H Q →
    ∃ T id, typeLookup (.type T) "__getitem__" = pure (some (.builtin id)) ∧ s.TypeIs v T ∧ wpAny (model X.prog X.w) X.A (getItem v (.ref sl)) (EP X pins σ Q) X.xe s
def tSl (r : V → Option Int → Option Int → Hp → VK → Prop) (te : TE) (tl th : TO) : TE := fun σ H Q => te σ H fun x H1 => tl σ H1 fun l H2 => th σ H2 fun u H3 => r x l u H3 Q
theorem pe_slice {r : V → Option Int → Option Int → Hp → VK → Prop} (hr : SlR X r) (he : PE X e te) (hl : PO X lo tl) (hu : PO X hi th) : PE X (.Subscript e (.Slice lo hi none p2) pos) (tSl r te tl th) := by
  intro pins s σ H Q I h
  refine Subscript_ (thn (he pins s σ H _ I h) fun v s1 ⟨x, H1, I1, r1, q1⟩ => ?_)
  refine wpAny_Slice (thn (hl pins s1 σ H1 _ I1 q1) fun vl s2 ⟨l, H2, I2, pl, q2⟩ => thn (hu pins s2 σ H2 _ I2 q2) fun vu s3 ⟨u, H3, I3, pu, q3⟩ => ?_)
  rw [evalPart_none]
  refine wpAny_pure ?_
  have I4 : Inv X pins σ H3 { s3 with heap := s3.heap.push { cls := .type "slice", data := .fields #[vl, vu, .none] } } := I3.kept (t' := s3.toks) fun b ob q => Heap.get?_push_of_some _ q
  obtain ⟨T, id, hT, ht, hg⟩ := hr pins { s3 with heap := s3.heap.push { cls := .type "slice", data := .fields #[vl, vu, .none] } } σ H3 x v vl vu l u s3.heap.objs.size Q I4 r1 (Heap.IsSliceOf.new ..) pl pu q3
  show wpAny (model X.prog X.w) X.A (subscriptTail e (.Slice lo hi none p2) v (.ref s3.heap.objs.size)) (EP X pins σ Q) X.xe { s3 with heap := s3.heap.push { cls := .type "slice", data := .fields #[vl, vu, .none] } }
  exact tail_any (ops := [.ref s3.heap.objs.size, v]) ht hT hg (by with_unfolding_all rfl)
def cutV (xs : List V) (lo hi : Option Int) : List V := (xs.drop (HT.sIx xs.length 0 lo)).take (HT.sIx xs.length xs.length hi - HT.sIx xs.length 0 lo)
theorem cutV_length (xs : List V) (lo hi : Option Int) : (cutV xs lo hi).length ≤ xs.length := by
  unfold cutV
  rw [List.length_take, List.length_drop]
  omega
end
end L2
namespace L2
open PySem PySem.Spec PyProof.Rows
def ixN (n : Nat) (i : Int) : Option Nat := if 0 ≤ i then (if i < n then some i.toNat else none) else if -(n : Int) ≤ i then some (i + n).toNat else none
def atI {α : Type} (xs : List α) (i : Int) : Option α := (ixN xs.length i).bind fun j => xs[j]?
theorem ixN_seq {n : Nat} {i : Int} {j : Nat} (h : ixN n i = some j) : seqIndex? i n = some j ∧ j < n ∧ -(n : Int) ≤ i ∧ i < n := by
  unfold ixN at h
  by_cases h0 : 0 ≤ i
  · rw [if_pos h0] at h
    by_cases h1 : i < n
    · rw [if_pos h1] at h
      have e : i.toNat = j := Option.some.inj h
      exact ⟨by rw [seqIndex_of h0 h1, e], by omega, by omega, h1⟩
    · rw [if_neg h1] at h; cases h
  · rw [if_neg h0] at h
    by_cases h1 : -(n : Int) ≤ i
    · rw [if_pos h1] at h
      have e : (i + n).toNat = j := Option.some.inj h
      exact ⟨by rw [seqIndex_neg (by omega) h1, e], by omega, h1, by omega⟩
    · rw [if_neg h1] at h; cases h
theorem atI_get {α : Type} {xs : List α} {i : Int} {v : α} (h : atI xs i = some v) : ∃ j, seqIndex? i xs.length = some j ∧ xs[j]? = some v ∧ j < xs.length ∧ -(xs.length : Int) ≤ i ∧ i < xs.length := by
  unfold atI at h
  cases e : ixN xs.length i with
  | none => rw [e] at h; cases h
  | some j =>
    rw [e] at h
    obtain ⟨h1, h2, h3, h4⟩ := ixN_seq e
    exact ⟨j, h1, h, h2, h3, h4⟩
theorem atI_nat {α : Type} {xs : List α} {j : Nat} {v : α} (h : xs[j]? = some v) : atI xs (j : Int) = some v := by
  have hj : j < xs.length := (List.getElem?_eq_some_iff.mp h).1
  have e : ixN xs.length (j : Int) = some j := by
    unfold ixN
    rw [if_pos (by omega), if_pos (by omega)]; simp
  unfold atI; rw [e]; exact h
def PlainIx (b : Expr) : Prop := ∀ o i, subscripted b false o i = operate [o, i] (getItem o i)
def IxR (X : Cx) (r : R2) : Prop :=
  ∀ (value slice : Expr) (pins : List (Addr × Obj)) (s : Shared) (σ : St) (H : Hp) (x y : V) (v u : Value) (Q : VK), Inv X pins σ H s → RelV x v → RelV y u → r x y H Q →
    subscripted slice false v u = operate [v, u] (getItem v u) → wpAny (model X.prog X.w) X.A (subscriptTail value slice v u) (EP X pins σ Q) X.xe s
def MtR (X : Cx) (id : String) (r : V → List V → Hp → VK → Prop) : Prop :=
  ∀ (pins : List (Addr × Obj)) (s : Shared) (σ : St) (H : Hp) (x : V) (xs : List V) (v : Value) (us : List Value) (Q : VK), Inv X pins σ H s → RelV x v → Vals xs us → r x xs H Q →
    wpAny (model X.prog X.w) X.A (call (.builtin id) (v :: us)) (EP X pins σ Q) X.xe s
section
variable {X : Cx} {a b : Expr} {ta tb : TE} {pos : Pos}
theorem pe_ix {r : R2} (hr : IxR X r) (ha : PE X a ta) (hb : PE X b tb) (hs : PlainIx b) : PE X (.Subscript a b pos) (tOp r ta tb) := by
  intro pins s σ H Q I h
  exact Subscript_ (binT ha hb I h fun v u s2 x y H2 I2 rx ry q => hr a b pins s2 σ H2 x y v u Q I2 rx ry q (hs _ _))
def rIxL (K : PySem.W.Frag) : R2 := fun x y H Q => ∃ p xs i v, x = .ref p ∧ y = .int i ∧ SqL K H p xs ∧ atI xs i = some v ∧ Q v H
def rIxT (K : PySem.W.Frag) : R2 := fun x y H Q => ∃ p xs i v, x = .ref p ∧ y = .int i ∧ SqT K H p xs ∧ atI xs i = some v ∧ Q v H
theorem ix_list : IxR X (rIxL X.K) := by
  intro value slice pins s σ H x y v u Q I rx ry h hs
  obtain ⟨p, xs, i, z, rfl, rfl, hq, he, q⟩ := h
  cases rx
  obtain ⟨t, rfl⟩ := ry
  obtain ⟨its, r, pl, hz⟩ := I.list hq
  obtain ⟨j, h1, h2, h3, h4, h5⟩ := atI_get he
  obtain ⟨w, ew, rw'⟩ := r.get h2
  have hl := r.length
  have hn := line63
  have fin : EP X pins σ Q w s := ⟨z, H, I, rw', q⟩
  by_cases h0 : 0 ≤ i
  · have hj : i.toNat = j := by
      rw [seqIndex_of h0 h5] at h1
      exact Option.some.inj h1
    exact item_listR pl.isList h0 (by omega) (by rw [hj]; simpa using ew) fin hs
  · have hj : (i + (its.toArray.size : Int)).toNat = j := by
      rw [seqIndex_neg (by omega) h4] at h1
      rw [List.size_toArray, ← hl]
      exact Option.some.inj h1
    exact subscriptTail_builtinR (x := w) pl.isList.typeIs slot_list_getitem.lookup
      (wpAny_getItem_list_neg (Q := fun r s' => r = w ∧ EP X pins σ Q r s') pl.isList (by omega) (by rw [List.size_toArray] <;> omega) (by omega) (by rw [hj]; simpa using ew) ⟨rfl, fin⟩) hs
theorem ix_tup : IxR X (rIxT X.K) := by
  intro value slice pins s σ H x y v u Q I rx ry h hs
  obtain ⟨p, xs, i, z, rfl, rfl, hq, he, q⟩ := h
  cases rx
  obtain ⟨t, rfl⟩ := ry
  obtain ⟨its, r, pl, hz⟩ := I.tuple hq
  obtain ⟨j, h1, h2, h3, h4, h5⟩ := atI_get he
  obtain ⟨w, ew, rw'⟩ := r.get h2
  have hl := r.length
  have hn := line63
  have fin : EP X pins σ Q w s := ⟨z, H, I, rw', q⟩
  exact subscriptTail_builtinR (x := w) pl.typeIs slot_tuple_getitem.lookup
    (getItem_tuple (j := j) (Q := fun r s' => r = w ∧ EP X pins σ Q r s') pl (by omega) (by omega) (by rw [List.size_toArray, ← hl]; exact h1) (by simpa using ew) ⟨rfl, fin⟩) hs
theorem mapSeq_set (its : List Value) (n j : Nat) (u : Value) : Obj.mapSeq (·.setIfInBounds j u) { cls := .type "list", data := .seq its.toArray n } = { cls := .type "list", data := .seq (its.set j u).toArray n } := by
  simp [Obj.mapSeq]
theorem Inv.lst {pins : List (Addr × Obj)} {σ : St} {H : Hp} {s : Shared} {p : Addr} {xs : List V} (I : Inv X pins σ H s) (h : H p = some (.lst xs)) :
    ∃ (its : List Value) (n : Nat), Vals xs its ∧ s.heap.get? p = some { cls := .type "list", data := .seq its.toArray n } ∧ xs.length ≤ sizeLine := by
  obtain ⟨z, its, n, r, e⟩ := I.hok p _ h
  exact ⟨its, n, r, e, z⟩
theorem Inv.lstUpd {pins : List (Addr × Obj)} {σ : St} {H : Hp} {s : Shared} {p : Addr} {xs ys : List V} {its its' : List Value} {n n' : Nat} {f : Obj → Obj} (I : Inv X pins σ H s) (h : H p = some (.lst xs))
    (ho : s.heap.get? p = some { cls := .type "list", data := .seq its.toArray n }) (hf : f { cls := .type "list", data := .seq its.toArray n } = { cls := .type "list", data := .seq its'.toArray n' }) (r : Vals ys its') (hz : ys.length ≤ sizeLine) (t : Nat) :
    Inv X pins σ (upd H p (.lst ys)) { s with heap := s.heap.update p f, toks := t } := by
  have e : (s.heap.update p f).get? p = some { cls := .type "list", data := .seq its'.toArray n' } := by
    rw [Heap.get?_update_self f ho (by rw [hf] <;> rfl), hf]
  refine I.write (x := p) (e := p) (by rw [h]; trivial) (.inl rfl) (fun b u hb q => (Heap.get?_update_other _ _ (Ne.symm hb)).trans q) ⟨_, e⟩ ?_
  exact ⟨hz, its', n', r, e⟩
def rSetL : V → V → V → Hp → (Hp → Prop) → Prop := fun o i v H Q => ∃ p xs k j, o = .ref p ∧ i = .int k ∧ H p = some (.lst xs) ∧ ixN xs.length k = some j ∧ Q (upd H p (.lst (xs.set j v)))
theorem set_list : PSet X rSetL := by
  intro pins s σ H o i v ov iv u Q I ro ri rv h
  obtain ⟨p, xs, k, j, rfl, rfl, hp, hj, q⟩ := h
  cases ro
  obtain ⟨t, rfl⟩ := ri
  obtain ⟨its, n, r, ho, hz⟩ := I.lst hp
  obtain ⟨h1, h2, h3, h4⟩ := ixN_seq hj
  have hl := r.length
  have hn := line63
  have I' : Inv X pins σ (upd H p (.lst (xs.set j v))) { s with heap := s.heap.update p (Obj.mapSeq (·.setIfInBounds j u)) } :=
    I.lstUpd hp ho (mapSeq_set its n j u) (r.set rv j) (by rw [List.length_set]; exact hz) s.toks
  by_cases h0 : 0 ≤ k
  · have hk : k.toNat = j := by
      rw [seqIndex_of h0 h4] at h1
      exact Option.some.inj h1
    exact PySem.W.ki_setAt ho h0 (by omega) (by rw [List.size_toArray, ← hl]; exact h4) (by rw [hk]; exact ⟨_, I', q⟩)
  · have hk : (k + (its.toArray.size : Int)).toNat = j := by
      rw [seqIndex_neg (by omega) h3] at h1
      rw [List.size_toArray, ← hl]
      exact Option.some.inj h1
    exact PySem.W.ki_setBack ho (by omega) (by rw [List.size_toArray, ← hl]; exact h3) (by omega) (by rw [hk]; exact ⟨_, I', q⟩)
theorem slice_bounds (lo hi : Option Int) (n : Nat) : (sliceBounds lo hi none n).1 = ((HT.sIx n 0 lo : Nat) : Int) ∧ (sliceBounds lo hi none n).2.1 = ((HT.sIx n n hi : Nat) : Int) ∧ (sliceBounds lo hi none n).2.2 = 1 := by
  refine ⟨?_, ?_, rfl⟩
  · cases lo with
    | none => simp [sliceBounds, HT.sIx]
    | some i =>
      simp only [sliceBounds, HT.sIx, Option.getD_none, show (1 : Int) > 0 by decide, if_true]
      by_cases h : i < 0
      · simp only [h, if_true] <;> omega
      · simp only [h, if_false] <;> omega
  · cases hi with
    | none => simp [sliceBounds, HT.sIx]
    | some i =>
      simp only [sliceBounds, HT.sIx, Option.getD_none, show (1 : Int) > 0 by decide, if_true]
      by_cases h : i < 0
      · simp only [h, if_true] <;> omega
      · simp only [h, if_false] <;> omega
theorem slicePick_cut (its : List Value) (lo hi : Option Int) : slicePick its.toArray lo hi none = ((its.drop (HT.sIx its.length 0 lo)).take (HT.sIx its.length its.length hi - HT.sIx its.length 0 lo)).toArray := by
  obtain ⟨h1, h2, h3⟩ := slice_bounds lo hi its.toArray.size
  unfold slicePick
  rw [h1, h2, h3]
  simp only [sliceRange_one, pick_run, List.size_toArray] <;> rfl
def rSlL (K : PySem.W.Frag) : V → Option Int → Option Int → Hp → VK → Prop := fun x lo hi H Q => ∃ a xs, x = .ref a ∧ SqL K H a xs ∧ ∀ p, H p = none → Q (.ref p) (upd H p (.lst (cutV xs lo hi)))
theorem sl_list : SlR X (rSlL X.K) := by
  intro pins s σ H x v vl vu lo hi sl Q I rx hs pl pu h
  obtain ⟨a, xs, rfl, hx, q⟩ := h
  cases rx
  obtain ⟨its, r, ht, hz⟩ := I.list hx
  have hlen := r.length
  refine ⟨"list", _, slot_list_getitem.lookup, ht.isList.typeIs, ?_⟩
  refine wpAny_getItem_list_slice ht.isList hs pl pu .none (by simp) ?_ (by rw [List.size_toArray] <;> omega)
  rw [slicePick_cut, ← hlen]
  refine ⟨.ref s.heap.objs.size, _, I.laid (t' := s.toks) (o := .lst (cutV xs lo hi)) (fun b ob q => Heap.get?_push_of_some _ q) (Nat.le_refl _) ?_, rfl, q _ (I.hok.fresh (Nat.le_refl _))⟩
  exact ⟨Nat.le_trans (cutV_length xs lo hi) hz, _, 0, (r.drop (HT.sIx xs.length 0 lo)).take (HT.sIx xs.length xs.length hi - HT.sIx xs.length 0 lo), Heap.get?_push_size _ rfl⟩
theorem call_len_seq : CallR X (.builtin "len") (fun xs H Q => ∃ p ys, xs = [.ref p] ∧ (SqL X.K H p ys ∨ SqT X.K H p ys) ∧ Q (.int ys.length) H) := by
  intro pins s σ H xs us Q I r h
  obtain ⟨p, ys, rfl, hq, q⟩ := h
  obtain ⟨u, rfl, rx⟩ := vals1 r
  cases rx
  have hn := line63
  rcases hq with hq | hq
  · obtain ⟨its, r', pl, hz⟩ := I.list hq
    have hlen := r'.length
    exact Calls.call_len_list pl.isList (by simp only [List.size_toArray] <;> omega) ⟨.int ys.length, H, I.tok _, ⟨s.toks + 1, by rw [List.size_toArray, hlen]⟩, q⟩
  · obtain ⟨its, r', pl, hz⟩ := I.tuple hq
    have hlen := r'.length
    exact len_tuple pl (by simp only [List.size_toArray] <;> omega) ⟨.int ys.length, H, I.tok _, ⟨s.toks + 1, by rw [List.size_toArray, hlen]⟩, q⟩
theorem call_list_of : CallR X (.type "list") (fun xs H Q => ∃ p ys, xs = [.ref p] ∧ (SqL X.K H p ys ∨ SqT X.K H p ys) ∧ ∀ l, H l = none → Q (.ref l) (upd H l (.lst ys))) := by
  intro pins s σ H xs us Q I r h
  obtain ⟨p, ys, rfl, hq, q⟩ := h
  obtain ⟨u, rfl, rx⟩ := vals1 r
  cases rx
  have fin : ∀ (its : List Value), Vals ys its → ys.length ≤ sizeLine → ∀ (h' : Heap) (c' : Nat), (∀ b o', s.heap.get? b = some o' → h'.get? b = some o') →
      h'.get? s.heap.objs.size = some { cls := .type "list", dict := none, data := .seq its.toArray c', slots := #[] } → EP X pins σ Q (.ref s.heap.objs.size) { s with heap := h' } := fun its r' hz h' c' kp e =>
    ⟨.ref s.heap.objs.size, _, I.laid (t' := s.toks) kp (Nat.le_refl _) (show ObjOk X.prog X.w _ h' _ (.lst ys) from ⟨hz, its, c', r', e⟩), rfl, q _ (I.hok.fresh (Nat.le_refl _))⟩
  rcases hq with hq | hq
  · obtain ⟨its, r', pl, hz⟩ := I.list hq
    have hlen := r'.length
    obtain ⟨o, ho, hc, n, hd⟩ := pl.isList
    exact call_list_seq p (.inl rfl) ho hc hd (fun h' c' kp e => fin its r' hz h' c' kp e) (by simp only [List.size_toArray] <;> omega)
  · obtain ⟨its, r', pl, hz⟩ := I.tuple hq
    have hlen := r'.length
    obtain ⟨o, ho, hc, n, hd⟩ := pl
    exact call_list_seq p (.inr rfl) ho hc hd (fun h' c' kp e => fin its r' hz h' c' kp e) (by simp only [List.size_toArray] <;> omega)
theorem call_tuple_of : CallR X (.type "tuple") (fun xs H Q => ∃ p ys, xs = [.ref p] ∧ ((SqL X.K H p ys ∧ ∀ l, H l = none → Q (.ref l) (upd H l (.tup ys))) ∨ (SqT X.K H p ys ∧ Q (.ref p) H))) := by
  intro pins s σ H xs us Q I r h
  obtain ⟨p, ys, rfl, h⟩ := h
  obtain ⟨u, rfl, rx⟩ := vals1 r
  cases rx
  rcases h with ⟨hq, q⟩ | ⟨hq, q⟩
  · obtain ⟨its, r', pl, hz⟩ := I.list hq
    have hlen := r'.length
    refine call_tuple_list pl.isList (fun h' kp => ?_) (by simp only [List.size_toArray] <;> omega)
    have I1 : Inv X pins σ H { s with heap := h' } := I.kept (t' := s.toks) kp
    have I2 : Inv X pins σ (upd H h'.objs.size (.tup ys)) { s with heap := h'.push { cls := .type "tuple", data := .seq its.toArray } } :=
      I1.laid (t' := s.toks) (fun b o e => Heap.get?_push_of_some _ e) (Nat.le_refl _) (show ObjOk X.prog X.w _ _ _ (.tup ys) from ⟨hz, its, r', IsTup.new _ _⟩)
    exact ⟨.ref h'.objs.size, _, I2, rfl, q _ (I1.hok.fresh (Nat.le_refl _))⟩
  · obtain ⟨its, r', pl, hz⟩ := I.tuple hq
    exact call_tuple_same pl ⟨.ref p, H, I, rfl, q⟩
def tyV (K : PySem.W.Frag) (T : String) (x : V) (H : Hp) : Prop := match x with
  | .str _ => T = "str"
  | .int _ => T = "int"
  | .ref p => (T = "list" ∧ ∃ xs, SqL K H p xs) ∨ (T = "tuple" ∧ ∃ o, K.lookup p = some o ∧ o.cls = .type "tuple" ∧ o.dict = none) ∨
      (T = "dict" ∧ ((∃ kvs, H p = some (.dK kvs)) ∨ ∃ kvs, H p = some (.dT kvs))) ∨ (T = "set" ∧ ∃ S n, H p = some (.set S n))
  | _ => False
theorem tyV_is {pins : List (Addr × Obj)} {σ : St} {H : Hp} {s : Shared} {T : String} {x : V} {v : Value} (I : Inv X pins σ H s) (r : RelV x v) (ty : tyV X.K T x H) :
    s.TypeIs v T ∧ ∀ a, v = .ref a → ∃ ob, s.heap.get? a = some ob ∧ ob.dict = none := by
  cases x with
  | str z =>
    obtain ⟨t, rfl⟩ := r
    cases (show T = "str" from ty)
    exact ⟨typeIs_str s z t, fun _ e => nomatch e⟩
  | int i =>
    obtain ⟨t, rfl⟩ := r
    cases (show T = "int" from ty)
    exact ⟨typeIs_int s i t, fun _ e => nomatch e⟩
  | ref p =>
    cases r
    rcases ty with ⟨rfl, xs, hq⟩ | ⟨rfl, o, hk, hc, hd⟩ | ⟨rfl, hk⟩ | ⟨rfl, S, n, hk⟩
    · obtain ⟨its, _, pl, _⟩ := I.list hq
      refine ⟨pl.isList.typeIs, fun a e => ?_⟩
      cases e
      obtain ⟨o, n, e, c, hd, _⟩ := pl
      exact ⟨o, e, hd⟩
    · refine ⟨⟨o, I.kIn p o hk, hc⟩, fun a e => ?_⟩
      cases e
      exact ⟨o, I.kIn _ o hk, hd⟩
    · have z : ∃ o, s.heap.get? p = some o ∧ o.ExactDict := by
        rcases hk with ⟨kvs, hk⟩ | ⟨kvs, hk⟩
        · obtain ⟨_, _, _, _, o, _, _, e, ex, _⟩ := I.hok p _ hk
          exact ⟨o, e, ex⟩
        · obtain ⟨_, _, _, _, o, _, _, e, ex, _⟩ := I.hok p _ hk
          exact ⟨o, e, ex⟩
      obtain ⟨o, e, ex⟩ := z
      refine ⟨⟨o, e, ex.1⟩, fun a e2 => ?_⟩
      cases e2
      exact ⟨o, e, ex.2.1⟩
    · obtain ⟨o, _, _, _, e, ex, _⟩ := I.hok p _ hk
      refine ⟨⟨o, e, ex.1⟩, fun a e2 => ?_⟩
      cases e2
      exact ⟨o, e, ex.2.1⟩
  | _ => exact False.elim ty
def tBM (K : PySem.W.Frag) (T : String) (r : V → List V → Hp → VK → Prop) (to : TE) (t : TA) : TE := fun σ H Q => to σ H fun x H1 => tyV K T x H1 ∧ t σ H1 fun xs H2 => r x xs H2 Q
variable {o e : Expr} {es : List Expr} {to : TE} {t : TA} {name : Str} {apos cpos : Pos} {T id : String} {r : V → List V → Hp → VK → Prop}
theorem pe_bm (pa : PlainAttrs T) (slot : Slot T name id) (hty : typeOf (.builtin id) = pure (.type "method_descriptor")) (hm : MtR X id r) (ho : PE X o to) (ha : PA X (e :: es) t)
    (hbase : attributeBase o name X.env (eval o X.env) = eval o X.env := by rfl)
    (hfew : ((backTo cpos (starEach (e :: es) X.env)).all (fun x => !x.1) && (backToKw cpos (keywordEach [] X.env)).all (fun x => x.1.isSome)
      && decide ((e :: es).length + ([] : List Keyword).length + (if ([] : List Keyword).isEmpty then 0 else 1) < 30)) = true := by rfl)
    (hline : (apos.endLine == cpos.line) = true := by rfl) (hs : starEach (e :: es) X.env = (false, eval e X.env) :: starEach es X.env := by rfl) (hplain : (backTo cpos (starEach es X.env)).any (·.1) = false := by rfl) :
    PE X (.Call (.Attribute o name apos) (e :: es) [] cpos) (tBM X.K T r to t) := by
  intro pins s σ H Q I h
  refine wpAny_Call_method_late hbase hfew hline rfl (thn (ho pins s σ H _ I h) fun v s1 ⟨x, H1, I1, r1, ty, q1⟩ => ?_)
  obtain ⟨h1, h2⟩ := tyV_is I1 r1 ty
  refine ⟨T, id, pa, slot, hty, h1, h2, ?_⟩
  have hA := ha cpos pins s1 σ H1 _ I1 q1
  rw [hs] at hA ⊢
  refine Calls.callWith_builtin (by show (false || (backTo cpos (starEach es X.env)).any (·.1)) = false; rw [hplain] <;> rfl) (Calls.evalArgs_plain ?_)
  exact thn hA fun us s2 ⟨vs, H2, I2, r2, q2⟩ => hm pins s2 σ H2 x vs v us Q I2 r1 r2 q2
end
end L2
namespace L2
open PySem PySem.Spec PyProof.Rows
def MtM (X : Cx) (id : String) (r : V → List V → Hp → VK → Prop) : Prop :=
  ∀ (pins : List (Addr × Obj)) (s : Shared) (σ : St) (H : Hp) (x : V) (xs : List V) (v : Value) (us : List Value) (Q : VK), Inv X pins σ H s → RelV x v → Vals xs us → r x xs H Q →
    wpAny (model X.prog X.w) X.A (call (.builtin id) (v :: us)) (EP X pins σ Q) X.xe s
theorem Vals.one : ∀ {x : V} {us : List Value}, Vals [x] us → ∃ u, us = [u] ∧ RelV x u
  | _, _, .cons r .nil => ⟨_, rfl, r⟩
theorem Vals.eraseIdx : ∀ {xs : List V} {us : List Value} (i : Nat), Vals xs us → Vals (xs.eraseIdx i) (us.eraseIdx i)
  | _, _, _, .nil => .nil
  | _, _, 0, .cons _ t => t
  | _, _, i + 1, .cons r t => .cons r (Vals.eraseIdx i t)
theorem Vals.rep {xs : List V} {us : List Value} (h : Vals xs us) : ∀ k : Nat, Vals (List.replicate k xs).flatten (List.replicate k us).flatten
  | 0 => .nil
  | k + 1 => by
    rw [List.replicate_succ, List.replicate_succ, List.flatten_cons, List.flatten_cons]
    exact Vals.append h (Vals.rep h k)
theorem len_erase {α : Type} : ∀ (l : List α) (i : Nat), (l.eraseIdx i).length ≤ l.length
  | [], _ => Nat.le_refl _
  | _ :: _, 0 => Nat.le_succ _
  | _ :: r, i + 1 => Nat.succ_le_succ (len_erase r i)
theorem foldl_rep (its : List Value) : ∀ (k : Nat) (acc : List Value),
    List.foldl (fun x1 x2 => x1 ++ x2) acc.toArray (List.replicate k its.toArray) = (acc ++ (List.replicate k its).flatten).toArray
  | 0, acc => by simp
  | k + 1, acc => by
    have e : acc.toArray ++ its.toArray = (acc ++ its).toArray := by simp
    have e2 : (acc ++ its) ++ (List.replicate k its).flatten = acc ++ (List.replicate (k + 1) its).flatten := by
      rw [List.replicate_succ, List.flatten_cons, List.append_assoc]
    rw [← e2, ← foldl_rep its k (acc ++ its), ← e, List.replicate_succ, List.foldl_cons]
section
variable {X : Cx} {pins : List (Addr × Obj)} {σ : St} {H : Hp} {s : Shared} {l b : Addr} {xs ys zs : List V}
theorem Inv.lset {its its' : List Value} {n : Nat} {f : Array Value → Array Value} {t' : Nat} (I : Inv X pins σ H s) (hH : H l = some (.lst xs))
    (e : s.heap.get? l = some { cls := .type "list", data := .seq its.toArray n }) (hf : f its.toArray = its'.toArray) (hv : Vals ys its') (hz : ys.length ≤ sizeLine) :
    Inv X pins σ (upd H l (.lst ys)) { s with heap := s.heap.update l (Obj.mapSeq f), toks := t' } := by
  have q := PySem.IsL.update e f
  rw [hf] at q
  refine I.write (x := l) (e := l) (by rw [hH]; exact trivial) (.inl rfl) (fun b' u hb hu => (Heap.get?_update_other s.heap (Obj.mapSeq f) (Ne.symm hb)).trans hu) ⟨_, q⟩ ?_
  exact ⟨hz, its', _, hv, q⟩
theorem Inv.lnew {its : List Value} {t' : Nat} (I : Inv X pins σ H s) (hv : Vals ys its) (hz : ys.length ≤ sizeLine) :
    Inv X pins σ (upd H s.heap.objs.size (.lst ys)) { s with heap := s.heap.push { cls := .type "list", data := .seq its.toArray }, toks := t' } :=
  I.laid (fun _ _ q => Heap.get?_push_of_some _ q) (Nat.le_refl _) ⟨hz, its, 0, hv, Heap.get?_push_size _ rfl⟩
theorem Inv.fresh (I : Inv X pins σ H s) : H s.heap.objs.size = none := I.hok.fresh (Nat.le_refl _)
theorem Inv.lstM (I : Inv X pins σ H s) (hH : H l = some (.lst xs)) : xs.length ≤ sizeLine ∧ ∃ (its : List Value) (n : Nat), Vals xs its ∧ xs.length = its.length ∧ s.heap.get? l = some { cls := .type "list", data := .seq its.toArray n } := by
  obtain ⟨z, its, n, r, e⟩ := I.hok l _ hH
  exact ⟨z, its, n, r, r.length, e⟩
theorem notLongL {n : Nat} (h : n ≤ sizeLine) : Builtin.List.listTooLong n = false := by
  unfold Builtin.List.listTooLong
  exact decide_eq_false (by omega)
end
section
variable {X : Cx}
def rAppend : V → List V → Hp → VK → Prop := fun x vs H Q => ∃ l xs y, x = .ref l ∧ vs = [y] ∧ H l = some (.lst xs) ∧ xs.length < sizeLine ∧ Q .non (upd H l (.lst (xs ++ [y])))
theorem mt_append : MtM X "list.append" rAppend := by
  intro pins s σ H x vs v us Q I rx rv h
  obtain ⟨l, xs, y, rfl, rfl, hH, hz, q⟩ := h
  cases rx
  obtain ⟨u, rfl, ru⟩ := rv.one
  obtain ⟨z, its, n, r, hl, e⟩ := I.lstM hH
  refine call_meets F.slot_list_append ⟨_, e, rfl⟩ F.entry_list_append (F.args_list_append_2 _ _) (PySem.list_append l its.toArray n u (by rw [List.size_toArray]; omega)) ⟨e, ?_⟩
  refine ⟨.non, _, I.lset (its' := its ++ [u]) hH e (by simp) (r.append (.cons ru .nil)) ?_, rfl, q⟩
  rw [List.length_append, List.length_singleton]
  omega
def rPopAt : V → List V → Hp → VK → Prop := fun x vs H Q => ∃ l xs i k y, x = .ref l ∧ vs = [.int i] ∧ H l = some (.lst xs) ∧ -(2 ^ 63) ≤ i ∧ i < 2 ^ 63 ∧ seqIndex? i xs.length = some k ∧ xs[k]? = some y ∧ Q y (upd H l (.lst (xs.eraseIdx k)))
theorem mt_popAt : MtM X "list.pop" rPopAt := by
  intro pins s σ H x vs v us Q I rx rv h
  obtain ⟨l, xs, i, k, y, rfl, rfl, hH, h1, h2, hk, hy, q⟩ := h
  cases rx
  obtain ⟨u, rfl, ru⟩ := rv.one
  obtain ⟨t, rfl⟩ := ru
  obtain ⟨z, its, n, r, hl, e⟩ := I.lstM hH
  obtain ⟨w, hw, rw'⟩ := r.get hy
  refine call_meets F.slot_list_pop ⟨_, e, rfl⟩ F.entry_list_pop (F.args_list_pop_2 _ _)
    (MeetsSeq.list_pop_at l its.toArray n i t k w (fitsIndex_both h1 h2) (by rw [List.size_toArray, ← hl]; exact hk) (by rw [← Array.getElem?_toList]; exact hw) (by rw [List.size_toArray]; omega)) ⟨e, ?_⟩
  refine ⟨y, _, I.lset (its' := its.eraseIdx k) hH e ?_ (r.eraseIdx k) ?_, rw', q⟩
  · show its.toArray.eraseIdxIfInBounds k = (its.eraseIdx k).toArray
    rw [List.eraseIdxIfInBounds_toArray]
  · have := len_erase xs k
    omega
def rCat : R2 := fun x y H Q => ∃ l b xs zs, x = .ref l ∧ y = .ref b ∧ H l = some (.lst xs) ∧ H b = some (.lst zs) ∧ xs.length + zs.length ≤ sizeLine ∧ ∀ p, H p = none → Q (.ref p) (upd H p (.lst (xs ++ zs)))
theorem op_cat : OpR X (binaryOp .Add) rCat := by
  intro pins s σ H x y v u Q I rx ry h
  obtain ⟨l, b, xs, zs, rfl, rfl, hH, hB, hz, q⟩ := h
  cases rx
  cases ry
  obtain ⟨z, its, n, r, hl, e⟩ := I.lstM hH
  obtain ⟨z2, its2, n2, r2, hl2, e2⟩ := I.lstM hB
  refine PySem.P.add_list e e2 ?_ (by rw [List.size_toArray, List.size_toArray]; omega)
  have ea : its.toArray ++ its2.toArray = (its ++ its2).toArray := by simp
  rw [ea]
  exact ⟨.ref _, _, I.lnew (t' := s.toks) (r.append r2) (by rw [List.length_append]; omega), rfl, q _ I.fresh⟩
def rRep : R2 := fun x y H Q => ∃ l k xs, x = .ref l ∧ y = .int k ∧ H l = some (.lst xs) ∧ -(2 ^ 63) ≤ k ∧ k < 2 ^ 63 ∧ xs.length * k.toNat ≤ sizeLine ∧
  ∀ p, H p = none → Q (.ref p) (upd H p (.lst (List.replicate k.toNat xs).flatten))
theorem len_rep {α : Type} (xs : List α) (k : Nat) : (List.replicate k xs).flatten.length = k * xs.length := by
  induction k with
  | zero => simp
  | succ k ih => rw [List.replicate_succ, List.flatten_cons, List.length_append, ih, Nat.succ_mul, Nat.add_comm]
theorem op_rep : OpR X (binaryOp .Mult) rRep := by
  intro pins s σ H x y v u Q I rx ry h
  obtain ⟨l, k, xs, rfl, rfl, hH, h1, h2, hz, q⟩ := h
  cases rx
  obtain ⟨t, rfl⟩ := ry
  obtain ⟨z, its, n, r, hl, e⟩ := I.lstM hH
  have hlen : its.toArray.size * k.toNat ≤ sizeLine := by rw [List.size_toArray, ← hl]; exact hz
  have hcap : ¬ its.toArray.size * k.toNat > (2 ^ 63 - 1) / 8 := by
    have : (sizeLine : Nat) ≤ (2 ^ 63 - 1) / 8 := by decide
    omega
  have hfit : ¬ (!Builtin.List.listFitsIndex k) = true := by
    rw [fitsIndex_both h1 h2]
    exact Bool.false_ne_true
  have hlong : ¬ Builtin.List.listTooLong (its.toArray.size * k.toNat) = true := by
    rw [notLongL hlen]
    exact Bool.false_ne_true
  have hnew : List.foldl (fun x1 x2 => x1 ++ x2) #[] (List.replicate (if its.toArray.isEmpty = true then 0 else k.toNat) its.toArray) = (List.replicate k.toNat its).flatten.toArray := by
    have f0 : ∀ m : Nat, List.foldl (fun x1 x2 => x1 ++ x2) #[] (List.replicate m its.toArray) = (List.replicate m its).flatten.toArray := fun m => by
      have := foldl_rep its m []
      rw [List.nil_append] at this
      exact this
    rw [f0]
    cases its with
    | nil => simp
    | cons a r' => rw [if_neg (by simp)]
  refine wpAny_binaryOp_repeat_ref (T := "list") (U := "int") (by decide) ⟨_, e, rfl⟩ (fun s' => typeIs_int s' k t) noFill_list_mul F.fills_int_mul F.slot_int_rmul repeat_list F.slot_int_index.lookup
    (call_meets F.slot_int_rmul (typeIs_int s k t) F.entry_int_rmul (F.args_int_rmul_2 _ _) (int___rmul___int_list k t l its.toArray n)
      ⟨e, rfl, ⟨_, e, rfl⟩, call_meets F.slot_list_mul ⟨_, e, rfl⟩ F.entry_list_mul (F.args_list_mul_2 _ _) (AutoListH.list___mul___list_int_3 l its.toArray n k t hfit hcap hlong) ⟨e, ?_⟩⟩)
  rw [hnew]
  exact ⟨.ref _, _, I.lnew (t' := s.toks) (r.rep k.toNat) (by rw [len_rep, Nat.mul_comm]; exact hz), rfl, q _ I.fresh⟩
end
section
variable {prog : Program} {w : World} {A : Around} {E : Value → Shared → Prop} {s : Shared}
end
section
variable {X : Cx}
end
end L2
namespace Att
open PySem PySem.W PySem.Calls PyProof.Rows
theorem ints_of_wellAll {P : Params} {h : Heap} : ∀ (ns : List Int) (vs : List Value), WellAll P h vs (ns.map WData.int) → IntsAre vs ns := by
  intro ns
  induction ns with
  | nil =>
    intro vs w
    rw [List.map_nil] at w
    cases w
    exact .nil
  | cons n ns ih =>
    intro vs w
    rw [List.map_cons] at w
    cases w with
    | cons a b =>
      cases a
      exact .cons _ _ (ih _ b)
theorem script_of {l : OpenLaw} {n : Nat} (hn : l.most = some n) {P : Params} {h : Heap} {args : List WData} {vals : List Value}
    (hpre : l.row.toRowW.claim.pre args = true) (hwl : WellAll P h vals args) :
    ∃ a vs ns, vals = [Value.ref a] ∧ args = [WData.list (ns.map WData.int)] ∧ h.get? a = some { cls := .type "list", data := .seq vs.toArray } ∧ IntsAre vs ns ∧ ns.length ≤ n := by
  have hsh : WShape.hasAll [] args [.list .int] = true := (pre_splitW hpre).1
  have hc : l.pre.holds [] { args := args } = true := (pre_splitW hpre).2
  obtain ⟨d, r, rfl, h1, h2⟩ := hasAllW_cons hsh
  obtain rfl := hasAllW_nil h2
  obtain ⟨xs, rfl, h3⟩ := hasW_list h1
  obtain ⟨ns, rfl⟩ := items_int h3
  have hlen : ns.length ≤ n := by
    unfold OpenLaw.pre at hc
    have h4 : (WTm.not (.lt (.lit (.int (n : Int))) (.len (.arg 0)))).holds [] { args := [.list (ns.map .int)] } = true := by
      have h4 := (holds_andW hc).1
      rw [hn] at h4
      exact h4
    have h5 := condW_of h4 (w_not (w_lt w_lit (w_len_list (w_arg rfl))))
    rw [List.length_map] at h5
    refine Nat.le_of_not_lt fun q => ?_
    have q' : (n : Int) < ((ns.length : Nat) : Int) := by omega
    first
      | (rw [decide_eq_true q'] at h5; exact absurd h5 (by decide))
      | (simp at h5; omega)
  cases hwl with
  | cons w1 w2 =>
    cases w2
    cases w1 with
    | list ho hall => exact ⟨_, _, ns, rfl, rfl, ho, ints_of_wellAll ns _ hall, hlen⟩
theorem post_true (l : OpenLaw) (args : List WData) : l.row.toRowW.claim.post args (.bool true) args = true :=
  postW_of (r := l.row.toRowW) (X := (true == true))
    (show WShape.has [] (.bool true) .bool = true by first | rfl | decide | simp [WShape.has, WShape.arms, WShape.armsAll])
    (show (WTm.eq .res (.lit (.bool true))).value [] { args := args, res := some (.bool true), after := args } = some (.bool (true == true)) from w_eq_bool (w_res rfl) w_lit) rfl
theorem attach_call {l : OpenLaw} {n : Nat} {q : Program} {loose : List Str} {XP : (Str → Option Value) → Heap → Prop} {YP : World → Heap → Prop} {d : DefRec}
    (hn : l.most = some n) (hdf : d.params.defaults = [])
    (call : ∀ (w : World) (s₀ s₁ : Shared) (mg mb : Str → Option Value) (fa : Addr) (o : Obj) (pm cd doc : Value) (a : Addr) (vs : List Value) (ns : List Int),
      Ground q loose [] XP w s₀ mg mb s₁.heap → YP w s₁.heap →
      s₁.heap.get? fa = some o → o.data = .func (docDef d.name d.params d.body d.scope pm cd doc) → s₁.heap.CodeRec cd d.name → mg d.name = some (.ref fa) →
      s₁.heap.get? a = some { cls := .type "list", data := .seq vs.toArray } → IntsAre vs ns → ns.length ≤ n → s₁.gens = #[] →
      codeAny (model l.prog w) callerA (.call (.ref fa) ⟨[.ref a], []⟩) (fun r s' => r = .ok (.ret (.bool true)) ∧ OldK s₁.heap s'.heap ∧ s'.os = s₁.os ∧ AllBare s'.gens) s₁) :
    WalkO q loose XP YP l.row.toRowW d [] (fun f vs => PySem.call f vs) := by
  intro w s₀ s₁ mg mb G Y fa o pm cd doc dV kV ho hd hcd hD hmg hg args vals as hpre hlay hrd hwl hlo
  obtain rfl : dV = .none := Dflts.none hD hdf
  obtain rfl : kV = .none := Dflts.noKw hD
  obtain ⟨a, vs, ns, rfl, rfl, hobj, hints, hlen⟩ := script_of hn hpre hwl
  refine enter_call (codeAny_mono (call w s₀ s₁ mg mb fa o pm cd doc a vs ns G Y ho (fd_plain hd) hcd hmg hobj hints hlen hg) fun r s' hq => ?_)
  obtain ⟨rfl, h2, h3, h4⟩ := hq
  exact ⟨.inl ⟨.bool true, .bool true, [], rfl, fun _ => rfl, .bool true, post_true l _, fun _ => ⟨List.Pairwise.nil, fun _ hm => (nomatch hm)⟩⟩, h2, h3, h4⟩
section
variable {prog : Program} {w : World} {A : Around} {E : Value → Shared → Prop} {s : Shared} {K : Frag}
end
end Att
namespace L2
open PySem PySem.Spec PyProof.Rows
theorem vals_ints : ∀ {vs : List Value} {ns : List Int}, IntsAre vs ns → Vals (ns.map V.int) vs
  | _, _, .nil => .nil
  | _, _, .cons n t h => .cons ⟨t, rfl⟩ (vals_ints h)
def Only (H : Hp) : Prop := ∀ b, H b = none ∨ ∃ o xs, H b = some (.frz o (.lst xs))
theorem law_call {P : Program} {w : World} {K : PySem.W.Frag} {mg mb : Str → Option Value} {CX : CXT} {k : Nat} {fa a : Addr} {fd : FuncData} {x : Str} {sp : Sp} {s₁ : Shared} {vs : List Value} {ns : List Int}
    (KX : K.In s₁.heap) (hns : s₁.heap.Ns mainGlobals mg) (hb : s₁.heap.Ns builtinsNs mb) (hbb : ∀ x : Str, x ≠ "__name__" → mb x = bootBuiltins x) (hlim : s₁.heap.NoLimit) (hg : s₁.gens = #[])
    (ha : s₁.heap.get? a = some { cls := .type "list", data := .seq vs.toArray }) (hi : IntsAre vs ns) (hl : ns.length ≤ sizeLine) (hr : Room k callerA)
    (F : ∀ base : Heap, K.In base → base.Ns mainGlobals mg → FnOk P w K mg base CX k fa fd [x] sp) (hbind : ∀ (s : Shared) (u : Value), BindsTo s fd ⟨[u], []⟩ [(x, u)])
    (hsp : ∀ H : Hp, Only H → SqL K H a (ns.map V.int) → sp [.ref a] H (fun v _ => v = .bl true) fun _ _ _ => False)
    (hCX : ∀ H e s', CX [] H s₁ (fun _ _ _ => False) e s' → False) :
    codeAny (model P w) callerA (.call (.ref fa) ⟨[.ref a], []⟩) (fun r s' => r = .ok (.ret (.bool true)) ∧ OldK s₁.heap s'.heap ∧ s'.os = s₁.os ∧ AllBare s'.gens) s₁ := by
  have rv := vals_ints hi
  have lenV := hi.length
  -- from an abstract heap in which nothing but the script may be tracked
  have core : ∀ H : Hp, Only H → SqL K H a (ns.map V.int) → HOk P w H s₁.heap → (∀ b, H b ≠ none → b = a) → (H a ≠ none → K.lookup a = none) →
      codeAny (model P w) callerA (.call (.ref fa) ⟨[.ref a], []⟩) (fun r s' => r = .ok (.ret (.bool true)) ∧ OldK s₁.heap s'.heap ∧ s'.os = s₁.os ∧ AllBare s'.gens) s₁ := by
    intro H hO hS hok hA hK
    have base_of : ∀ {b : Addr} {o : Obj}, s₁.heap.get? b = some o → H b = none → (hidT s₁.heap H).get? b = some o := fun e n => hidT_get e n
    have noA : ∀ {b : Addr} {o : Obj} {es : Array DictEntry} {ep : Nat}, s₁.heap.get? b = some o → o.data = .dict es ep → H b = none := fun {b o es ep} e d => by
      cases q : H b with
      | none => rfl
      | some u =>
        have e' : b = a := hA b (by rw [q]; simp)
        subst e'
        rw [ha] at e; cases e
        have d' : Data.seq vs.toArray _ = Data.dict es ep := d
        cases d'
    have nsK : ∀ {b : Addr} {m : Str → Option Value}, s₁.heap.Ns b m → (hidT s₁.heap H).Ns b m := fun {b m} ⟨o, es, ep, e, d, r⟩ => ⟨o, es, ep, base_of e (noA e d), d, r⟩
    have hKb : K.In (hidT s₁.heap H) := fun b o e => base_of (KX b o e) (by
      cases q : H b with
      | none => rfl
      | some u =>
        have e' : b = a := hA b (by rw [q]; simp)
        subst e'
        rw [hK (by rw [q]; simp)] at e; cases e)
    have hM : Mod K mg (hidT s₁.heap H) := ⟨hKb, nsK hns, ⟨mb, nsK hb, hbb⟩, let ⟨mc, h1, h2⟩ := hlim; ⟨mc, nsK h1, h2⟩⟩
    have e0 : Env0 P w K mg (hidT s₁.heap H) callerA [] s₁ H := ⟨rfl, hM, fun b o e => of_hidT e, Nat.le_of_eq (hidT_size _ _), trivial, fun b hb => absurd (show b ∈ ([] : List Addr) from hb) (by simp), hok, .of_eq hg⟩
    refine codeAny_mono ((F _ hKb (nsK hns)).run callerA [] s₁ H ⟨[.ref a], []⟩ [.ref a] [.ref a] _ _ hr e0 (hbind s₁ (.ref a)) (.cons rfl .nil) (hsp H hO hS)) fun r s' h => ?_
    cases r with
    | error e => exact (hCX H e s' h).elim
    | ok fl =>
      cases fl with
      | next => exact False.elim h
      | brk => exact False.elim h
      | cont => exact False.elim h
      | ret u =>
        obtain ⟨v, H', os, bare, un, hok', r', q⟩ := h
        have q' : v = .bl true := q
        subst q'
        obtain rfl : u = Value.bool true := r'
        refine ⟨rfl, OldK.of_keep fun b o e => ?_, os, bare⟩
        cases q : H b with
        | none => exact un.keep b o e q (by intro z; exact absurd (show b ∈ ([] : List Addr) from z) (by simp)) (by simp)
        | some u =>
          rcases hO b with z | ⟨ob, xs, z⟩
          · rw [q] at z; cases z
          · have z2 := un.frzs b ob _ z
            obtain ⟨e1, _⟩ := hok b _ z
            obtain ⟨e2, _⟩ := hok' b _ z2
            rw [e] at e1; cases e1
            exact e2
  cases hk : K.lookup a with
  | some o =>
    -- the script is one of the module's own objects
    have e := KX a o hk
    rw [ha] at e
    cases e
    refine core (fun _ => none) (fun _ => .inl rfl) (.inr ⟨_, vs.toArray, _, hk, rfl, rfl, rfl, by rw [List.size_toArray, lenV]; exact hl, by simpa using rv⟩) (fun b u z => by have z' : (none : Option HO) = some u := z; cases z') (fun b z => absurd rfl z) fun z => absurd rfl z
  | none =>
    refine core (fun b => if b = a then some (.frz { cls := .type "list", data := .seq vs.toArray } (.lst (ns.map V.int))) else none) (fun b => ?_) (.inl (.inr ⟨{ cls := .type "list", data := .seq vs.toArray }, if_pos rfl⟩)) (fun b u z => ?_) (fun b z => ?_) fun _ => hk
    · by_cases hb : b = a
      · exact .inr ⟨_, _, if_pos hb⟩
      · exact .inl (if_neg hb)
    · by_cases hb : b = a
      · have z' := (if_pos hb).symm.trans z
        cases z'
        subst hb
        exact ⟨ha, by rw [List.length_map]; exact hl, vs, _, rv, ha⟩
      · have z' := (if_neg hb).symm.trans z
        cases z'
    · by_cases hb : b = a
      · exact hb
      · exact absurd (if_neg hb) z
end L2
namespace L2
open PySem PySem.Spec PyProof.Rows
theorem walk_of {l : PySem.W.OpenLaw} {n k : Nat} {q : Program} {loose : List Str} {XP : (Str → Option Value) → Heap → Prop} {YP : World → Heap → Prop} {d : DefRec} {K : Params → PySem.W.Frag} {CX : World → CXT} {sp : World → Sp} {x : Str}
    (hn : l.most = some n) (hn2 : n ≤ sizeLine) (hdf : d.params.defaults = []) (hr : Room k callerA)
    (hY : ∀ (w : World) (h : Heap), YP w h → (K w.params).In h)
    (F : ∀ (w : World) (mg : Str → Option Value) (fa : Addr) (h : Heap), (K w.params).In h → h.Ns mainGlobals mg → mg d.name = some (.ref fa) →
      ∃ fd : FuncData, (∀ (s : Shared) (u : Value), BindsTo s fd ⟨[u], []⟩ [(x, u)]) ∧
        ∀ base : Heap, (K w.params).In base → base.Ns mainGlobals mg → FnOk l.prog w (K w.params) mg base (CX w) k fa fd [x] (sp w))
    (hsp : ∀ (w : World) (H : Hp) (a : Addr) (ns : List Int), ns.length ≤ n → Only H → SqL (K w.params) H a (ns.map V.int) → sp w [.ref a] H (fun v _ => v = .bl true) fun _ _ _ => False)
    (hCX : ∀ (w : World) (H : Hp) (s : Shared) (e : Value) (s' : Shared), CX w [] H s (fun _ _ _ => False) e s' → False) :
    PySem.W.WalkO q loose XP YP l.row.toRowW d [] (fun f vs => PySem.call f vs) := by
  refine Att.attach_call hn hdf fun w s₀ s₁ mg mb fa o pm cd doc a vs ns G Y ho hd hcd hmg hobj hints hlen hg => ?_
  have KX := hY w _ Y
  obtain ⟨fd, hb, hF⟩ := F w mg fa _ KX G.T.g hmg
  exact law_call KX G.T.g G.T.b G.T.builtins G.T.nolimit hg hobj hints (Nat.le_trans hlen hn2) hr hF hb (fun H hO hS => hsp w H a ns hlen hO hS) fun H e s' => hCX w H s₁ e s'
end L2
namespace L2
open PySem PySem.Spec PyProof.Rows
def inClass (s : Stmt) (j : Nat) : Stmt := match s with
  | .ClassDef _ _ _ body _ _ _ _ _ _ _ => body.getD j (.Pass ⟨0, 0, 0, 0⟩)
  | _ => .Pass ⟨0, 0, 0, 0⟩
def defArgs (s : Stmt) : Arguments := match s with
  | .FunctionDef _ a _ _ _ _ _ _ _ _ => a
  | _ => { posonlyargs := [], args := [], vararg := none, kwonlyargs := [], kw_defaults := [], kwarg := none, defaults := [] }
def defBody (s : Stmt) : List Stmt := match s with
  | .FunctionDef _ _ b _ _ _ _ _ _ _ => b
  | _ => []
def defScope (s : Stmt) : Scope := match s with
  | .FunctionDef _ _ _ _ _ _ sc _ _ _ => sc
  | _ => { kind := .function, names := [], isGenerator := false, isCoroutine := false }
abbrev CX0 : CXT := fun _ _ _ _ _ _ => False
abbrev E0 : XK := fun _ _ _ => False
theorem pass0 {X : Cx} : Passes CX0 X E0 := fun _ _ _ _ _ _ _ h => h.elim
structure Fun (K : PySem.W.Frag) (x qual : Str) (st : Stmt) (f : Addr) (fd : FuncData) : Prop where
  ex : ∃ (oc : Value) (od : Option Addr) (kV doc pm : Value) (an : Option Addr) (cdv ct : Value) (osl : Array (Option Value)),
    fd = PySem.W.fnOf x qual (defArgs st) (defBody st) (defScope st) .none kV doc pm an cdv ct ∧ K.lookup f = some ⟨oc, od, .func fd, osl⟩ ∧ PySem.W.codeIn K cdv qual = true
  kp : PySem.W.keepIn K (.ref f) = true
section
variable {P : Program} {w : World} {K : PySem.W.Frag} {mg : Str → Option Value} {base : Heap}
theorem Fun.ok {x qual : Str} {st : Stmt} {f : Addr} {fd : FuncData} {N ps : List Str} {k : Nat} {sp : Sp} (F : Fun K x qual st f fd) (S : FnScope N ps (defScope st)) (len : ∀ vs H Q E, sp vs H Q E → vs.length = ps.length)
    (hbody : ∀ (cdv : Value) (A : Around) (outer : List Env) (s : Shared) (H : Hp) (vs : List V) (Q : VK) (E : XK), Room k (A.deeper (envOfC qual (defScope st) s.heap.objs.size f cdv)) → sp vs H Q E →
      ∃ t, PSs (cxOf CX0 P w K mg base N qual (defScope st) f cdv A outer s H E).nox (defBody st) t ∧ t { nx := fun _ H' => Q .non H', rt := Q } (start N vs) H) : FnOk P w K mg base CX0 (k + 1) f fd ps sp := by
  obtain ⟨oc, od, kV, doc, pm, an, cdv, ct, osl, rfl, lk, hcd⟩ := F.ex
  refine fn_of lk hcd S len fun A outer s H vs Q E hr hsp => ?_
  obtain ⟨t, h, q⟩ := hbody cdv A outer s H vs Q E hr hsp
  exact ⟨t, h.nox, q⟩
theorem Fun.binds {x qual : Str} {st : Stmt} {f : Addr} {fd : FuncData} {ps : List Str} (F : Fun K x qual st f fd)
    (h : ∀ (kV doc pm : Value) (an : Option Addr) (cdv ct : Value) (us : List Value), us.length = ps.length → bindArgs (PySem.W.fnOf x qual (defArgs st) (defBody st) (defScope st) .none kV doc pm an cdv ct) ⟨us, []⟩ = pure (ps.zip us)) : Binds K fd ps [] := by
  obtain ⟨oc, od, kV, doc, pm, an, cdv, ct, osl, rfl, lk, hcd⟩ := F.ex
  exact .all (h kV doc pm an cdv ct)
theorem fun_mk {x qual : Str} {st : Stmt} {f : Addr} {oc : Value} {od an : Option Addr} {osl : Array (Option Value)} {kV doc pm cdv ct : Value} (l : K.lookup f = some ⟨oc, od, .func (PySem.W.fnOf x qual (defArgs st) (defBody st) (defScope st) .none kV doc pm an cdv ct), osl⟩)
    (c : PySem.W.codeIn K cdv qual = true) (k : PySem.W.keepIn K (.ref f) = true) : Fun K x qual st f (PySem.W.fnOf x qual (defArgs st) (defBody st) (defScope st) .none kV doc pm an cdv ct) := ⟨⟨oc, od, kV, doc, pm, an, cdv, ct, osl, rfl, l, c⟩, k⟩
end
section
variable {X : Cx}
end
theorem iteF {A B : Prop} (h : B) : if false = true then A else B := by
  rw [if_neg Bool.false_ne_true]
  exact h
theorem iteT {A B : Prop} (h : A) : if true = true then A else B := by
  rw [if_pos rfl]
  exact h
theorem ite2 {c A B : Prop} [Decidable c] (h1 : c → A) (h2 : ¬ c → B) : if c then A else B := by
  by_cases h : c
  · rw [if_pos h]
    exact h1 h
  · rw [if_neg h]
    exact h2 h
def Same (H H' : Hp) : Prop := ∀ b o, H b = some o → H' b = some o
theorem Same.refl (H : Hp) : Same H H := fun _ _ h => h
theorem Same.trans {H H1 H2 : Hp} (a : Same H H1) (b : Same H1 H2) : Same H H2 := fun c o h => b c o (a c o h)
theorem Same.free {H H' : Hp} (e : Same H H') {l : Addr} (h : H' l = Option.none) : H l = Option.none := by
  cases q : H l with
  | none => rfl
  | some o =>
    rw [e l o q] at h
    cases h
theorem Same.seq {K : PySem.W.Frag} {H H' : Hp} {a : Addr} {xs : List V} (e : Same H H') (h : SqL K H a xs) : SqL K H' a xs := by
  rcases h with (h | ⟨o, h⟩) | h
  · exact .inl (.inl (e _ _ h))
  · exact .inl (.inr ⟨o, e _ _ h⟩)
  · exact .inr h
end L2
namespace PySem
open Sem (wp)
theorem closureFor_some {scope : Scope} {env : Env} (h : ∀ y ∈ scope.names, y.2 = .free → ∃ c, env.cells.lookup y.1 = some c) :
    ∃ cl, closureFor scope env = pure cl ∧ (∀ x c, cl.lookup x = some c → env.cells.lookup x = some c) ∧
      ∀ y ∈ scope.names, y.2 = .free → ∃ c, cl.lookup y.1 = some c := by
  have key : ∀ (names : List (Str × NameKind)) (acc : List (Str × Addr)), (∀ y ∈ names, y.2 = .free → ∃ c, env.cells.lookup y.1 = some c) →
      (∀ x c, acc.lookup x = some c → env.cells.lookup x = some c) →
      ∃ cl, (forIn names acc fun (x : Str × NameKind) (r : List (Str × Addr)) => (if (x.2 == NameKind.free) = true then do let c ← cellOf env x.1; pure (ForInStep.yield ((x.1, c) :: r)) else pure (ForInStep.yield r) : Sem _)) = pure cl ∧
        (∀ x c, cl.lookup x = some c → env.cells.lookup x = some c) ∧ (∀ y ∈ names, y.2 = .free → ∃ c, cl.lookup y.1 = some c) ∧ ∀ x c, acc.lookup x = some c → ∃ c', cl.lookup x = some c' := by
    intro names
    induction names with
    | nil => intro acc _ ha; exact ⟨acc, rfl, ha, (fun _ hy => nomatch hy), fun x c e => ⟨c, e⟩⟩
    | cons y r ih =>
      intro acc hf ha
      obtain ⟨n, k⟩ := y
      have hr : ∀ y ∈ r, y.2 = .free → ∃ c, env.cells.lookup y.1 = some c := fun y hy => hf y (List.mem_cons_of_mem _ hy)
      by_cases hk : k = .free
      · subst hk
        obtain ⟨c, hc⟩ := hf (n, .free) List.mem_cons_self rfl
        have ha' : ∀ x d, ((n, c) :: acc).lookup x = some d → env.cells.lookup x = some d := fun x d e => by
          rw [List.lookup_cons] at e
          by_cases hx : x = n
          · subst hx; simp at e; rw [← e]; exact hc
          · have : (x == n) = false := by simpa using hx
            rw [this] at e; exact ha x d e
        obtain ⟨cl, e1, e2, e3, e4⟩ := ih ((n, c) :: acc) hr ha'
        refine ⟨cl, ?_, e2, fun y hy hyf => ?_, fun x d e => ?_⟩
        · rw [List.forIn_cons]
          have q : cellOf env n = pure c := by unfold cellOf; rw [hc]
          simp only [beq_self_eq_true, if_true, q]
          exact e1
        · rcases List.mem_cons.mp hy with rfl | hy
          · obtain ⟨c', q⟩ := e4 n c (by rw [List.lookup_cons]; simp)
            exact ⟨c', q⟩
          · exact e3 y hy hyf
        · by_cases hx : x = n
          · subst hx; exact e4 x c (by rw [List.lookup_cons]; simp)
          · have hb : (x == n) = false := by simpa using hx
            exact e4 x d (by rw [List.lookup_cons, hb]; exact e)
      · have hb : (k == NameKind.free) = false := by simpa using hk
        obtain ⟨cl, e1, e2, e3, e4⟩ := ih acc hr ha
        refine ⟨cl, ?_, e2, fun y hy hyf => ?_, e4⟩
        · rw [List.forIn_cons]
          simp only [hb, Bool.false_eq_true, if_false]
          exact e1
        · rcases List.mem_cons.mp hy with rfl | hy
          · exact absurd hyf hk
          · exact e3 y hy hyf
  obtain ⟨cl, e1, e2, e3, _⟩ := key scope.names [] h (fun x c e => by simp at e)
  refine ⟨cl, ?_, e2, e3⟩
  unfold closureFor
  simp only [bind_pure]
  exact e1
theorem compTurn_set (elt target iter : Expr) (ifs : List Expr) (scope : Scope) (pos : Pos) (it acc : Value) (env : Env) :
    compTurn (.SetComp elt [⟨target, iter, ifs, 0⟩] scope pos) 0 it acc env = (do
      standAt iter.pos
      match ← pyNext it with
      | none => pure (.done .next)
      | some v =>
        letOwnedTupleGo target it v
        assign target env v
        let mut ok := true
        for c in ifs do
          if ok then ok ← isTrue c env (eval c env)
        if ok then
          (do let v ← eval elt env; standAt elt.pos; let _ ← call (.builtin "set.add") [acc, v])
        again (.compLoop (.SetComp elt [⟨target, iter, ifs, 0⟩] scope pos) 0 it acc env)) := by rfl
section
variable {prog : Program} {w : World} {A : Around} {E : Value → Shared → Prop} {R : Result → Shared → Prop} {s : Shared}
theorem codeAny_compLoop_listG {elt target iter : Expr} {ifs : List Expr} {scope : Scope} {pos : Pos} {it acc : Value} {env : Env} (I : Nat → Shared → Prop)
    (turn : ∀ n s, I n s → wpAny (model prog w) A (pyNext it) (fun r s₁ => match r with
      | none => R (.ok .next) s₁
      | some v => wpAny (model prog w) A (letOwnedTupleGo target it v) (fun _ s₁' => wpAny (model prog w) A (assign target env v) (fun _ s₂ =>
          wpAny (model prog w) A (forIn ifs true fun c r => if r = true then do let ok ← isTrue c env (eval c env); pure (ForInStep.yield ok) else pure (ForInStep.yield r)) (fun ok s₃ =>
            if ok = true then wpAny (model prog w) A (eval elt env) (fun x s₄ =>
              wpAny (model prog w) A (call (.builtin "list.append") [acc, x]) (fun _ s₅ => ∃ m, m < n ∧ I m s₅) (fun _ _ => False) s₄) (fun _ _ => False) s₃
            else ∃ m, m < n ∧ I m s₃) (fun _ _ => False) s₂) (fun _ _ => False) s₁') (fun _ _ => False) s₁) (fun _ _ => False) s)
    (n : Nat) (h : I n s) :
    codeAny (model prog w) A (.compLoop (.ListComp elt [⟨target, iter, ifs, 0⟩] scope pos) 0 it acc env) R s := by
  refine codeAny_loop rfl I (fun n s hI => ?_) n h
  show wpAny _ A ((compTurn (.ListComp elt [⟨target, iter, ifs, 0⟩] scope pos) 0 it acc env).onRaise (fun x => do noteFrame x env; theTreesLotGoes x)) _ _ s
  refine wpAny_noted ?_
  rw [compTurn_list]
  refine wpAny_bind (wpAny_standAt (wpAny_bind (wpAny_mono (turn n s hI) (fun r s₁ h₁ => ?_) fun _ _ h' => h'.elim)))
  cases r with
  | none => exact wpAny_pure h₁
  | some v =>
    refine wpAny_bind (wpAny_mono h₁ (fun _ s₁' h₁' => ?_) fun _ _ h' => h'.elim)
    refine wpAny_bind (wpAny_mono h₁' (fun _ s₂ h₂ => wpAny_bind (wpAny_mono h₂ (fun ok s₃ h₃ => ?_) fun _ _ h' => h'.elim)) fun _ _ h' => h'.elim)
    cases ok with
    | false => exact wpAny_pure ⟨rfl, h₃⟩
    | true =>
      exact wpAny_bind (wpAny_bind (wpAny_mono h₃ (fun x s₄ h₄ => wpAny_bind (wpAny_mono h₄ (fun _ s₅ h₅ => wpAny_pure (wpAny_pure ⟨rfl, h₅⟩)) fun _ _ h' => h'.elim)) fun _ _ h' => h'.elim))
theorem codeAny_compLoop_setG {elt target iter : Expr} {ifs : List Expr} {scope : Scope} {pos : Pos} {it acc : Value} {env : Env} (I : Nat → Shared → Prop)
    (turn : ∀ n s, I n s → wpAny (model prog w) A (pyNext it) (fun r s₁ => match r with
      | none => R (.ok .next) s₁
      | some v => wpAny (model prog w) A (letOwnedTupleGo target it v) (fun _ s₁' => wpAny (model prog w) A (assign target env v) (fun _ s₂ =>
          wpAny (model prog w) A (forIn ifs true fun c r => if r = true then do let ok ← isTrue c env (eval c env); pure (ForInStep.yield ok) else pure (ForInStep.yield r)) (fun ok s₃ =>
            if ok = true then wpAny (model prog w) A (eval elt env) (fun x s₄ =>
              wpAny (model prog w) A (call (.builtin "set.add") [acc, x]) (fun _ s₅ => ∃ m, m < n ∧ I m s₅) (fun _ _ => False) s₄) (fun _ _ => False) s₃
            else ∃ m, m < n ∧ I m s₃) (fun _ _ => False) s₂) (fun _ _ => False) s₁') (fun _ _ => False) s₁) (fun _ _ => False) s)
    (n : Nat) (h : I n s) :
    codeAny (model prog w) A (.compLoop (.SetComp elt [⟨target, iter, ifs, 0⟩] scope pos) 0 it acc env) R s := by
  refine codeAny_loop rfl I (fun n s hI => ?_) n h
  show wpAny _ A ((compTurn (.SetComp elt [⟨target, iter, ifs, 0⟩] scope pos) 0 it acc env).onRaise (fun x => do noteFrame x env; theTreesLotGoes x)) _ _ s
  refine wpAny_noted ?_
  rw [compTurn_set]
  refine wpAny_bind (wpAny_standAt (wpAny_bind (wpAny_mono (turn n s hI) (fun r s₁ h₁ => ?_) fun _ _ h' => h'.elim)))
  cases r with
  | none => exact wpAny_pure h₁
  | some v =>
    refine wpAny_bind (wpAny_mono h₁ (fun _ s₁' h₁' => ?_) fun _ _ h' => h'.elim)
    refine wpAny_bind (wpAny_mono h₁' (fun _ s₂ h₂ => wpAny_bind (wpAny_mono h₂ (fun ok s₃ h₃ => ?_) fun _ _ h' => h'.elim)) fun _ _ h' => h'.elim)
    cases ok with
    | false => exact wpAny_pure ⟨rfl, h₃⟩
    | true =>
      exact wpAny_bind (wpAny_bind (wpAny_mono h₃ (fun x s₄ h₄ => wpAny_bind (wpAny_standAt (wpAny_bind (wpAny_mono h₄ (fun _ s₅ h₅ => wpAny_pure (wpAny_pure ⟨rfl, h₅⟩)) fun _ _ h' => h'.elim)))) fun _ _ h' => h'.elim))
theorem codeAny_compStart_set {elt target iter ifs rest scope pos it acc env}
    (h0 : codeAny (model prog w) A (.compLoop (.SetComp elt (⟨target, iter, ifs, 0⟩ :: rest) scope pos) 0 it acc env) R s)
    (h : wpAny (model prog w) A (pyIter it) (fun it' s' => codeAny (model prog w) A (.compLoop (.SetComp elt (⟨target, iter, ifs, 0⟩ :: rest) scope pos) 0 it' acc env) R s')
      (notedBy (model prog w) A env fun x s' => R (.error x) s') s) :
    codeAny (model prog w) A (.compStart (.SetComp elt (⟨target, iter, ifs, 0⟩ :: rest) scope pos) 0 it acc env) R s := by
  refine codeAny_of_tree ?_
  show wpAny _ _ ((compStart (.SetComp elt (⟨target, iter, ifs, 0⟩ :: rest) scope pos) 0 it acc env).onRaise (fun x => do noteFrame x env; standAt theWindowsPlace)) _ _ s
  refine wpAny_notedAt ?_
  unfold compStart
  show wpAny _ _ (ask >>= _) _ _ s
  refine wpAny_bind (wpAny_askSetting (wpAny_ite ?_))
  split
  · first
      | exact wpAny_bind (wpAny_pure (wpAny_pure (And.intro rfl h0)))
      | exact wpAny_pure (And.intro rfl h0)
  · first
      | exact wpAny_bind (wpAny_rule (wpAny_bind (wpAny_standAt (wpAny_bind (wpAny_mono h (fun it' s' h' => wpAny_pure (And.intro rfl h')) fun _ _ x => x)))))
      | (refine wpAny_bind (wpAny_rule ?_); show wpAny _ _ (standAt iter.pos >>= _) _ _ s; exact wpAny_bind (wpAny_standAt (wpAny_bind (wpAny_mono h (fun it' s' h' => wpAny_pure (And.intro rfl h')) fun _ _ x => x))))
end
end PySem
namespace L2
open PySem PySem.Spec PyProof.Rows
def slotOf : List Str → St → Str → Option V
  | n :: N, v :: σ, x => if n = x then v else slotOf N σ x
  | _, _, _ => none
def cmpSt (N : List Str) (σ : St) (names : List (Str × NameKind)) : St := names.map fun p => if p.2 = NameKind.free then slotOf N σ p.1 else none
theorem slotOf_get : ∀ {N : List Str} {σ : St} {x : Str} {v : V}, slotOf N σ x = some v → ∃ i : Nat, N[i]? = some x ∧ σ[i]? = some (some v)
  | [], _, _, _, h => by simp [slotOf] at h
  | _ :: _, [], _, _, h => by simp [slotOf] at h
  | n :: N, u :: σ, x, v, h => by
    unfold slotOf at h
    by_cases e : n = x
    · rw [if_pos e] at h; exact ⟨0, by simp [e], by simp [h]⟩
    · rw [if_neg e] at h
      obtain ⟨i, h1, h2⟩ := slotOf_get h
      exact ⟨i + 1, by simpa using h1, by simpa using h2⟩
def Cx.cmp (X : Cx) (scope : Scope) (cl : List (Str × Addr)) (C : Addr) (s₀ : Shared) (H₀ : Hp) (fp : List Addr) : Cx where
  prog := X.prog
  w := X.w
  K := X.K
  mg := X.mg
  base := X.base
  A := X.A
  N := scope.names.map (·.1)
  s₀ := s₀
  H₀ := H₀
  env := compEnvC scope cl C X.env
  outer := X.stack
  stack := X.stack
  ex := fp
  fn := fun _ => false
  calm := X.calm
  pn := []
  xe := fun _ _ => False
def cmpB (sc scope : Scope) : Bool :=
  decide (scope.kind = .function) && scope.names.all (fun y => decide (y.2 ≠ .cell) && (decide (y.2 ≠ .free) || decide (sc.names.lookup y.1 = some .cell) || decide (sc.names.lookup y.1 = some .free))) && decide (scope.names.map (·.1)).Nodup
structure CmpOk (X : Cx) (scope : Scope) : Prop where
  kind : scope.kind = .function
  nocell : ∀ y ∈ scope.names, y.2 ≠ .cell
  free : ∀ y ∈ scope.names, y.2 = .free → X.env.kindOf y.1 = some .cell ∨ X.env.kindOf y.1 = some .free
  nd : (scope.names.map (·.1)).Nodup
theorem CmpOk.of {X : Cx} {scope : Scope} (h : cmpB X.env.scope scope = true) : CmpOk X scope := by
  unfold cmpB at h
  rw [Bool.and_eq_true, Bool.and_eq_true] at h
  obtain ⟨⟨h1, h2⟩, h3⟩ := h
  rw [List.all_eq_true] at h2
  refine ⟨of_decide_eq_true h1, fun y hy => ?_, fun y hy e => ?_, of_decide_eq_true h3⟩
  · have := h2 y hy; rw [Bool.and_eq_true] at this; exact of_decide_eq_true this.1
  · have := h2 y hy; rw [Bool.and_eq_true, Bool.or_eq_true, Bool.or_eq_true] at this
    rcases this.2 with (q | q) | q
    · exact absurd e (of_decide_eq_true q)
    · exact .inl (of_decide_eq_true q)
    · exact .inr (of_decide_eq_true q)
theorem lookup_of_mem {names : List (Str × NameKind)} (nd : (names.map (·.1)).Nodup) {y : Str × NameKind} (hy : y ∈ names) : names.lookup y.1 = some y.2 := by
  induction names with
  | nil => nomatch hy
  | cons z r ih =>
    obtain ⟨n, k⟩ := z
    simp only [List.map_cons, List.nodup_cons] at nd
    rcases List.mem_cons.mp hy with rfl | hy
    · simp [List.lookup_cons]
    · have hne : (y.1 == n) = false := by
        simp only [beq_eq_false_iff_ne, ne_eq]
        rintro e
        exact nd.1 (e ▸ List.mem_map_of_mem (f := (·.1)) hy)
      rw [List.lookup_cons, hne]
      exact ih nd.2 hy
theorem mem_lookup {names : List (Str × NameKind)} {x : Str} {k : NameKind} (h : names.lookup x = some k) : (x, k) ∈ names := by
  induction names with
  | nil => simp at h
  | cons z r ih =>
    obtain ⟨n, j⟩ := z
    rw [List.lookup_cons] at h
    by_cases e : x = n
    · subst e; simp at h; subst h; exact List.mem_cons_self
    · have hb : (x == n) = false := by simpa using e
      rw [hb] at h; exact List.mem_cons_of_mem _ (ih h)
theorem relabel_kind {scope : Scope} {env : Env} {x : Str} {k : NameKind} (h : (relabel scope env).names.lookup x = some k) :
    scope.names.lookup x = some k ∨ (scope.names.lookup x = some .free ∧ k = .cell ∧ env.kindOf x = some .cell) := by
  unfold relabel at h
  simp only at h
  generalize scope.names = names at h ⊢
  induction names with
  | nil => simp at h
  | cons z r ih =>
    obtain ⟨n, j⟩ := z
    rw [List.map_cons, List.lookup_cons] at h
    rw [List.lookup_cons]
    by_cases e : x = n
    · subst e
      by_cases hc : (j == NameKind.free && env.scope.kind == .function && env.kindOf x == some .cell) = true
      · simp only [hc, if_true, beq_self_eq_true] at h ⊢
        simp only [Bool.and_eq_true, beq_iff_eq] at hc
        cases h
        exact .inr ⟨by rw [hc.1.1], rfl, hc.2⟩
      · simp only [hc, Bool.false_eq_true, if_false, beq_self_eq_true] at h ⊢
        exact .inl h
    · have hb : (x == n) = false := by simpa using e
      by_cases hc : (j == NameKind.free && env.scope.kind == .function && env.kindOf n == some .cell) = true
      · simp only [hc, if_true, hb] at h ⊢; exact ih h
      · simp only [hc, Bool.false_eq_true, if_false, hb] at h ⊢; exact ih h
theorem cmp_nd {X : Cx} {scope : Scope} {cl : List (Str × Addr)} {C : Addr} {s₀ : Shared} {H₀ : Hp} {fp : List Addr} (h : (scope.names.map (·.1)).Nodup) : (X.cmp scope cl C s₀ H₀ fp).N.Nodup := h
theorem inv_cmp {X : Cx} {pins : List (Addr × Obj)} {σ : St} {H : Hp} {s3 : Shared} {scope : Scope} {cl : List (Str × Addr)} {fp : List Addr} {h' : Heap} {tk : Nat} (I : Inv X pins σ H s3) (ok : CmpOk X scope)
    (hcl : ∀ x c, cl.lookup x = some c → X.env.cells.lookup x = some c) (hcf : ∀ y ∈ scope.names, y.2 = .free → ∃ c, cl.lookup y.1 = some c)
    (hfp : ∀ b ∈ fp, FpOk X pins H b) (hlt : ∀ b ∈ fp, b < s3.heap.objs.size) (hns : h'.Ns s3.heap.objs.size fun _ => none) (hk : ∀ b o, s3.heap.get? b = some o → h'.get? b = some o) :
    Inv (X.cmp scope cl s3.heap.objs.size s3 H fp) [] (cmpSt X.N σ scope.names) H { s3 with heap := h', toks := tk } := by
  have kinds : ∀ x, ((X.cmp scope cl s3.heap.objs.size s3 H fp).env.kindOf x = some .cell ∨ (X.cmp scope cl s3.heap.objs.size s3 H fp).env.kindOf x = some .free) → scope.names.lookup x = some .free := fun x hx => by
    rcases hx with hx | hx
    · rcases relabel_kind hx with q | q
      · exact absurd rfl (ok.nocell _ (mem_lookup q))
      · exact q.1
    · rcases relabel_kind hx with q | q
      · exact q
      · exact q.1
  refine ⟨⟨I.ok.mod, ok.kind, I.ok.glob, I.ok.blt, Nat.le_refl _, fun x y c h1 h2 => I.ok.inj x y c (hcl _ _ h1) (hcl _ _ h2), fun x hx => ?_, (fun x c z _ => nomatch z), I.ok.hd, I.ok.frames, .inl rfl,
      fun b hb => ⟨Nat.ne_of_lt (hlt b hb), fun x c e => (hfp b hb).2.2.2.2.1 x c (hcl _ _ e)⟩, I.bs, Nat.le_trans I.ok.bsz I.sz, fun b o e hb => ?_, fun b hb z => ?_, I.stack, I.stkFree⟩,
    rfl, I.bare, Un.kept hk, ⟨_, hns, fun i x v h1 h2 h3 => ?_⟩, fun x c e => ?_, I.hok.fresh (Nat.le_refl _), fun x c e => I.freeC x c (hcl _ _ e), fun p hp => absurd (show p ∈ ([] : List (Addr × Obj)) from hp) (by simp), I.hok.kept hk, ?_⟩
  · have q := kinds x hx
    exact hcf _ (mem_lookup q) rfl
  · rcases (hfp b hb).2.2.2.1 with z | z
    · exact I.ok.noex b o e z
    · exact Nat.lt_irrefl _ (Nat.lt_of_lt_of_le (Heap.lt_size e) (Nat.le_trans I.ok.bsz z))
  · rcases List.mem_cons.mp (I.stkSub b z) with q | q
    · exact (hfp b hb).2.1 q
    · exact (hfp b hb).2.2.1 q
  · -- the names
    have e1 : (scope.names.map (·.1))[i]? = some x := h1
    have e2 : (cmpSt X.N σ scope.names)[i]? = some (some v) := h2
    unfold cmpSt at e2
    rw [List.getElem?_map] at e1 e2
    cases q : scope.names[i]? with
    | none => rw [q] at e1; cases e1
    | some y =>
      rw [q] at e1 e2
      simp only [Option.map_some, Option.some.injEq] at e1 e2
      have hy : y ∈ scope.names := List.mem_of_getElem? q
      by_cases hf : y.2 = .free
      · rw [if_pos hf] at e2
        obtain ⟨j, j1, j2⟩ := slotOf_get e2
        obtain ⟨m, hn, hl⟩ := I.loc
        have vis : Vis X.env.scope y.1 := by
          rcases ok.free y hy hf with z | z
          · exact .inr (.inl z)
          · exact .inr (.inr z)
        obtain ⟨u, ru, lk⟩ := hl j y.1 v j1 j2 vis
        refine ⟨u, ru, .inr ?_⟩
        obtain ⟨c, hc⟩ := hcf y hy hf
        have hc' := hcl _ _ hc
        rcases lk with ⟨hkl, _⟩ | ⟨_, c2, hc2, hcell⟩
        · rcases ok.free y hy hf with z | z
          · rw [hkl] at z; cases z
          · rw [hkl] at z; cases z
        · rw [hc'] at hc2
          cases hc2
          subst e1
          refine ⟨?_, c, hc, let ⟨o, ho, hd⟩ := hcell; ⟨o, hk _ o ho, hd⟩⟩
          have h3' : Vis (relabel scope X.env) y.1 := h3
          have lf : scope.names.lookup y.1 = some .free := by rw [lookup_of_mem ok.nd hy, hf]
          rcases h3' with z | z | z
          · rcases relabel_kind z with q | q
            · rw [lf] at q; cases q
            · cases q.2.1
          · exact .inl z
          · exact .inr z
      · rw [if_neg hf] at e2; cases e2
  · obtain ⟨v, hv⟩ := I.cell x c (hcl _ _ e)
    obtain ⟨o, ho, hd⟩ := hv
    exact ⟨v, o, hk _ o ho, hd⟩
  · show (cmpSt X.N σ scope.names).length = (scope.names.map (·.1)).length
    unfold cmpSt
    rw [List.length_map, List.length_map]
def PTs (X : Cx) (ifs : List Expr) (t : TT) : Prop :=
  ∀ (pins : List (Addr × Obj)) (s : Shared) (σ : St) (H : Hp) (Q : Bool → Hp → Prop), Inv X pins σ H s → t σ H Q →
    wpAny (model X.prog X.w) X.A (forIn ifs true fun c r => if r = true then do let ok ← isTrue c X.env (eval c X.env); pure (ForInStep.yield ok) else pure (ForInStep.yield r)) (TP X pins σ Q) X.xe s
def tNoIf : TT := fun _ H Q => Q true H
theorem pts_nil {X : Cx} : PTs X [] tNoIf := fun _ _ _ H _ I h => wpAny_tests_nil ⟨H, I, h⟩
theorem pts_one {X : Cx} {c : Expr} {t : TT} (h : PT X c t) : PTs X [c] t := fun pins s σ H Q I q => wpAny_tests_one (h pins s σ H Q I q)
def tLC (N : List Str) (names : List (Str × NameKind)) (wi : TI) (g : TG) (tc : TT) (te : TE) : TE := fun σ H Q => wi σ H fun J H1 => ∀ D, H1 D = none →
  ∃ W : Nat → Nat → St → Hp → Prop, (∃ m, W 0 m (cmpSt N σ names) (upd H1 D (.lst []))) ∧ ∀ i m σ2 H2, W i m σ2 H2 →
    (J.stop i H2 ∧ Q (.ref D) H2) ∨ (J.go i H2 ∧ ∀ x H3, J.yld i H2 x H3 → g x σ2 H3 fun σ4 H4 => tc σ4 H4 fun b H5 =>
      if b = true then te σ4 H5 fun v H6 => ∃ ys m', H6 D = some (.lst ys) ∧ ys.length < sizeLine ∧ m' < m ∧ W (i + 1) m' σ4 (upd H6 D (.lst (ys ++ [v]))) else ∃ m', m' < m ∧ W (i + 1) m' σ4 H5)
theorem pinsAt_get {X : Cx} {pins : List (Addr × Obj)} {σ : St} {H : Hp} {s : Shared} {fp : List Addr} {h : Heap} (I : Inv X (pins ++ pinsAt fp h) σ H s) {b : Addr} {o : Obj} (hb : b ∈ fp) (e : h.get? b = some o) : s.heap.get? b = some o ∧ H b = none := by
  have q := I.pin (b, o) (List.mem_append_right _ (List.mem_append_right _ (mem_pinsAt hb e)))
  exact ⟨q.1, q.2.1⟩
theorem after_cmp {X : Cx} {pins : List (Addr × Obj)} {σ σc : St} {H H' : Hp} {s3 s' : Shared} {scope : Scope} {cl : List (Str × Addr)} {fp : List Addr} {h' : Heap} {pins' : List (Addr × Obj)} (I : Inv X pins σ H s3)
    (hfp : ∀ b ∈ fp, FpOk X pins H b) (J : Inv (X.cmp scope cl s3.heap.objs.size s3 H fp) pins' σc H' s') (hb : Heap.SameBut s3.heap.objs.size s'.heap h') : Inv X pins σ H' { s' with heap := h' } := by
  have hC : H' s3.heap.objs.size = none := J.free
  have u : Un (frs X.stack) fp H H' s3.heap s'.heap := J.base
  have lt : ∀ b o, s3.heap.get? b = some o → b ≠ s3.heap.objs.size := fun b o e z => by subst z; exact Nat.lt_irrefl _ (Heap.lt_size e)
  have u' : Un (frs X.stack) fp H H' s3.heap h' := ⟨fun b o e n h1 h2 => hb.extBut b o (lt b o e) (u.keep b o e n h1 h2), fun b o e n h1 h2 => (by
      obtain ⟨sl, q⟩ := u.slot b o e n h1 h2; exact ⟨sl, hb.extBut b _ (lt b o e) q⟩), u.free, fun b o e h2 => (by
      obtain ⟨o', q⟩ := u.there b o e h2; exact ⟨o', hb.extBut b _ (lt b o e) q⟩), u.tups, u.frzs, u.tbls⟩
  have hok : HOk X.prog X.w H' h' := fun a o e => (J.hok a o e).stay (fun b v hbv q => hb.extBut b v (fun z => by
      subst z
      rcases hbv with z | z
      · subst z; rw [hC] at e; cases e
      · rw [hC] at z; cases z) q) (fun _ q => q) fun _ _ q => q
  exact I.call' (ch := fp) (J.os.trans rfl) u' hok J.bare fun b hbf => ⟨(hfp b hbf).2.2.2.1, (hfp b hbf).2.1, (hfp b hbf).2.2.2.2.1, (hfp b hbf).2.2.2.2.2⟩
theorem Inv.but {X : Cx} {pins : List (Addr × Obj)} {σ : St} {H : Hp} {s : Shared} {C : Addr} {h' : Heap} (I : Inv X pins σ H s) (f : FpOk X pins H C) (sb : Heap.SameBut C s.heap h') : Inv X pins σ H { s with heap := h' } :=
  I.turned (t' := s.toks) (fun b o hb e => sb.extBut b o hb e) f.1 f.2.1 f.2.2.2.1 f.2.2.2.2.1 f.2.2.2.2.2
theorem ns_lookup_nil {h : Heap} {a : Addr} (x : h.Ns a fun y => ([] : List (Str × Value)).reverse.lookup y) : h.Ns a fun _ => none := by
  have e : (fun y : Str => ([] : List (Str × Value)).reverse.lookup y) = fun _ => none := by funext y; simp
  rw [e] at x; exact x
theorem block_lc {X : Cx} {elt tg iter : Expr} {ifs : List Expr} {scope : Scope} {pos : Pos} {g : TG} {tc : TT} {te : TE} (hc : X.calm = true) (ok : CmpOk X scope)
    (hg : ∀ cl C s₀ H₀ fp, PG (X.cmp scope cl C s₀ H₀ fp) tg g) (ht : ∀ cl C s₀ H₀ fp, PTs (X.cmp scope cl C s₀ H₀ fp) ifs tc) (he : ∀ cl C s₀ H₀ fp, PE (X.cmp scope cl C s₀ H₀ fp) elt te)
    {pins : List (Addr × Obj)} {σ : St} {H1 : Hp} {s2 : Shared} {cl : List (Str × Addr)} {it : Addr} {fp : List Addr} {tn : Nat → Heap → Prop} {J : It} {Q : VK} {E : Value → Shared → Prop} {RR : Value → Addr → Result → Shared → Prop}
    (hcl : ∀ x c, cl.lookup x = some c → X.env.cells.lookup x = some c) (hcf : ∀ y ∈ scope.names, y.2 = .free → ∃ c, cl.lookup y.1 = some c)
    (I : Inv X pins σ H1 s2) (T : Turn X.prog X.w X.K tg J fp it tn) (st : tn 0 s2.heap) (hf : ∀ b ∈ fp, FpOk X pins H1 b)
    (h : ∀ D, H1 D = none → ∃ W : Nat → Nat → St → Hp → Prop, (∃ m, W 0 m (cmpSt X.N σ scope.names) (upd H1 D (.lst []))) ∧ ∀ i m σ2 H2, W i m σ2 H2 →
      (J.stop i H2 ∧ Q (.ref D) H2) ∨ (J.go i H2 ∧ ∀ x H3, J.yld i H2 x H3 → g x σ2 H3 fun σ4 H4 => tc σ4 H4 fun b H5 =>
        if b = true then te σ4 H5 fun v H6 => ∃ ys m', H6 D = some (.lst ys) ∧ ys.length < sizeLine ∧ m' < m ∧ W (i + 1) m' σ4 (upd H6 D (.lst (ys ++ [v]))) else ∃ m', m' < m ∧ W (i + 1) m' σ4 H5))
    (hRR : ∀ D C H' s' m, s'.heap.Ns C m → Inv X pins σ H' s' → FpOk X pins H' C → Q (.ref D) H' → RR (.ref D) C (.ok .next) s') :
    wpAny (model X.prog X.w) X.A (newList []) (fun acc s₃ => wpAny (model X.prog X.w) X.A (newFunctionEnv scope X.env.globals cl [] X.env.qual none .none (some X.env)) (fun cenv s₄ =>
      codeAny (model X.prog X.w) X.A (.compStart (.ListComp elt [⟨tg, iter, ifs, 0⟩] scope pos) 0 (.ref it) acc { cenv with scope := relabel scope X.env }) (RR acc cenv.locals) s₄) E s₃) E s2 := by
  refine wpAny_newObj_type ?_
  have I3 : Inv X pins σ (upd H1 s2.heap.objs.size (.lst [])) { s2 with heap := s2.heap.push { cls := .type "list", data := .seq ([] : List Value).toArray }, toks := s2.toks } := I.lnew (its := []) .nil (Nat.zero_le _)
  have hD : H1 s2.heap.objs.size = none := I.fresh
  obtain ⟨W, ⟨m0, w0⟩, turn⟩ := h _ hD
  generalize hs3 : ({ s2 with heap := s2.heap.push { cls := .type "list", data := .seq ([] : List Value).toArray }, toks := s2.toks } : Shared) = s3 at I3
  have kp3 : ∀ b o, s2.heap.get? b = some o → s3.heap.get? b = some o := fun b o e => by rw [← hs3]; exact Heap.get?_push_of_some _ e
  have fpD : ∀ b ∈ fp, b ≠ s2.heap.objs.size := fun b hb z => by
    obtain ⟨o, e, _⟩ := T.obj _ _ st b hb
    subst z
    exact Nat.lt_irrefl _ (Heap.lt_size e)
  have hf3 : ∀ b ∈ fp, FpOk X pins (upd H1 s2.heap.objs.size (.lst [])) b := fun b hb => ⟨by rw [upd_ne (fpD b hb)]; exact (hf b hb).1, (hf b hb).2⟩
  have st3 : tn 0 s3.heap := T.keep _ _ _ st fun b _ o e => kp3 b o e
  have lt3 : ∀ b ∈ fp, b < s3.heap.objs.size := fun b hb => by
    obtain ⟨o, e, _⟩ := T.obj _ _ st3 b hb
    exact Heap.lt_size e
  generalize hDD : s2.heap.objs.size = D at *
  refine wpAny_newFunctionEnv ok.nocell (by intro y hy; simp at hy) (fun h₁ hns₁ hsb₁ => ?_) ok.kind
  have kp4 : ∀ b o, s3.heap.get? b = some o → h₁.get? b = some o := fun b o e => hsb₁.extBut b o (fun z => by subst z; exact Nat.lt_irrefl _ (Heap.lt_size e)) (Heap.get?_push_of_some _ e)
  have I4 := inv_cmp (tk := s3.toks + ([] : List (Str × Value)).length) I3 ok hcl hcf hf3 lt3 (ns_lookup_nil hns₁) kp4
  generalize hs4 : ({ s3 with heap := h₁, toks := s3.toks + ([] : List (Str × Value)).length } : Shared) = s4 at I4
  have st4 : tn 0 s4.heap := by rw [← hs4]; exact T.keep _ _ _ st3 fun b _ o e => kp4 b o e
  show codeAny _ _ (.compStart (.ListComp elt [⟨tg, iter, ifs, 0⟩] scope pos) 0 (.ref it) (.ref D) (compEnvC scope cl s3.heap.objs.size X.env)) (RR (.ref D) s3.heap.objs.size) s4
  -- the block's own context
  generalize hX : X.cmp scope cl s3.heap.objs.size s3 (upd H1 D (.lst [])) fp = Y at I4
  have eA : Y.A = X.A := by rw [← hX]; rfl
  have eP : Y.prog = X.prog := by rw [← hX]; rfl
  have eW : Y.w = X.w := by rw [← hX]; rfl
  have eK : Y.K = X.K := by rw [← hX]; rfl
  have eC : Y.calm = true := by rw [← hX]; exact hc
  have eE : Y.env = compEnvC scope cl s3.heap.objs.size X.env := by rw [← hX]; rfl
  have eX : Y.xe = fun _ _ => False := by rw [← hX]; rfl
  have stat : ∀ {H' : Hp}, (∀ b ∈ fp, H' b = none) → ∀ b ∈ fp, FpOk Y [] H' b := fun {H'} hn b hb => by
    subst hX
    refine ⟨hn b hb, Nat.ne_of_lt (lt3 b hb), fun z => ?_, .inl hb, fun x c e => (hf3 b hb).2.2.2.2.1 x c (hcl _ _ e), fun p hp => absurd (show p ∈ ([] : List (Addr × Obj)) from hp) (by simp)⟩
    rcases List.mem_cons.mp (I3.stkSub b z) with q | q
    · exact (hf3 b hb).2.1 q
    · exact (hf3 b hb).2.2.1 q
  have loop : codeAny (model X.prog X.w) X.A (.compLoop (.ListComp elt [⟨tg, iter, ifs, 0⟩] scope pos) 0 (.ref it) (.ref D) (compEnvC scope cl s3.heap.objs.size X.env)) (RR (.ref D) s3.heap.objs.size) s4 := by
    refine codeAny_compLoop_listG (fun n s' => ∃ i σ' H', Inv Y [] σ' H' s' ∧ tn i s'.heap ∧ (∀ b ∈ fp, H' b = none) ∧ W i n σ' H') ?_ m0 ⟨0, _, _, I4, st4, fun b hb => (hf3 b hb).1, w0⟩
    rintro n s5 ⟨i, σ5, H5, I5, st5, fr5, w5⟩
    rcases turn i n σ5 H5 w5 with ⟨stop, qn⟩ | ⟨go, step⟩
    · have q := T.done Y eP eW eK eC i [] s5 σ5 H5 (fun _ _ => False) I5 (stat fr5) st5 stop
      rw [eA] at q
      refine thn q fun r s6 ⟨hr, I6⟩ => ?_
      subst hr
      obtain ⟨m6, hn6, _⟩ := I6.loc
      have hn6' : s6.heap.Ns s3.heap.objs.size m6 := by rw [eE] at hn6; exact hn6
      rw [← hX] at I6
      exact hRR D s3.heap.objs.size H5 s6 m6 hn6' (after_cmp I3 hf3 I6 (.refl ..)) (I3.fpOk (Nat.le_refl _) I6.free) qn
    · have q := T.item Y eP eW eK eC i [] s5 σ5 H5 (fun _ _ => False) I5 (stat fr5) st5 go
      rw [eA] at q
      refine thn q fun r s6 ⟨u, hr, h6⟩ => ?_
      subst hr
      refine thn h6 fun _ s7 ⟨x, H7, I7, r7, y7, st7, fr7⟩ => ?_
      have I7' := I7.pinned (stat fr7) (T.obj _ _ st7)
      have gg : PG Y tg g := by rw [← hX]; exact hg _ _ _ _ _
      have tt : PTs Y ifs tc := by rw [← hX]; exact ht _ _ _ _ _
      have ee : PE Y elt te := by rw [← hX]; exact he _ _ _ _ _
      have q1 := gg _ s7 σ5 H7 x u _ I7' r7 (step x H7 y7)
      rw [eA, eP, eW, eE, eX] at q1
      refine thn q1 fun _ s8 ⟨σ8, H8, I8, q8⟩ => ?_
      have q2 := tt _ s8 σ8 H8 _ I8 q8
      rw [eA, eP, eW, eE, eX] at q2
      refine thn q2 fun b s9 ⟨H9, I9, q9⟩ => ?_
      have again : ∀ {H10 : Hp} {s10 : Shared}, Inv Y ([] ++ pinsAt fp s7.heap) σ8 H10 s10 → (∃ m', m' < n ∧ W (i + 1) m' σ8 H10) → ∃ m, m < n ∧ ∃ i σ' H', Inv Y [] σ' H' s10 ∧ tn i s10.heap ∧ (∀ b ∈ fp, H' b = none) ∧ W i m σ' H' := fun {H10 s10} J10 ⟨m', hm, w10⟩ => by
        refine ⟨m', hm, i + 1, σ8, H10, J10.unpinned, T.keep _ _ _ st7 fun b hb o e => (pinsAt_get J10 hb e).1, fun b hb => ?_, w10⟩
        obtain ⟨o, e, _⟩ := T.obj _ _ st7 b hb
        exact (pinsAt_get J10 hb e).2
      cases b with
      | false =>
        rw [if_neg Bool.false_ne_true] at q9 ⊢
        exact again I9 q9
      | true =>
        rw [if_pos rfl] at q9 ⊢
        have q3 := ee _ s9 σ8 H9 _ I9 q9
        rw [eA, eP, eW, eE, eX] at q3
        refine thn q3 fun u9 s10 ⟨v, H10, I10, r10, ys, m', hys, hz, hm, w10⟩ => ?_
        have q4 := mt_append (X := Y) _ s10 σ8 H10 (.ref D) [v] (.ref D) [u9] (fun _ H' => H' = upd H10 D (.lst (ys ++ [v]))) I10 rfl (.cons r10 .nil) ⟨D, ys, v, rfl, rfl, hys, hz, rfl⟩
        rw [eA, eP, eW, eX] at q4
        refine thn q4 fun _ s11 ⟨_, H11, I11, _, e11⟩ => ?_
        subst e11
        exact again I11 ⟨m', hm, w10⟩
  exact codeAny_compStart_list loop (T.self X.A 0 s4 _ _ st4 loop)
theorem pe_lc {X : Cx} {elt tg iter : Expr} {ifs : List Expr} {scope : Scope} {pos : Pos} {wi : TI} {g : TG} {tc : TT} {te : TE} {sc : Scope} (hc : X.calm = true) (hsc : X.env.scope = sc) (hok : cmpB sc scope = true) (hi : PI X tg iter wi)
    (hg : ∀ cl C s₀ H₀ fp, PG (X.cmp scope cl C s₀ H₀ fp) tg g) (ht : ∀ cl C s₀ H₀ fp, PTs (X.cmp scope cl C s₀ H₀ fp) ifs tc) (he : ∀ cl C s₀ H₀ fp, PE (X.cmp scope cl C s₀ H₀ fp) elt te)
    (hs : ∀ x, foldedSetIterable iter X.env x = pure x := by intro _; rfl) : PE X (.ListComp elt [⟨tg, iter, ifs, 0⟩] scope pos) (tLC X.N scope.names wi g tc te) := by
  intro pins s σ H Q I h
  have ok := CmpOk.of (X := X) (hsc ▸ hok)
  obtain ⟨cl, e1, e2, e3⟩ := closureFor_some (scope := scope) (env := X.env) fun y hy hf => I.ok.has y.1 (ok.free y hy hf)
  rw [eval_ListComp]
  refine wpAny_comprehension_free (use := none) rfl hs e1 ok.kind (fun y hy hl => by rw [lookup_of_mem ok.nd hy, hl]) (thn (hi pins s σ H _ I h) fun v s1 h1 => thn h1 fun itv s2 h2 => ?_)
  obtain ⟨it, fp, tn, J, H2, e, I2, T, st2, f2, q⟩ := h2
  subst e
  refine block_lc (E := X.xe) (RR := fun acc C => compPost (model X.prog X.w) X.A X.xe none (EP X pins σ Q) acc C) hc ok hg ht he e2 e3 I2 T st2 f2 q ?_
  intro D C H' s' m hn hI f hQ
  exact ⟨m, hn, fun h' sb => ⟨.ref D, H', hI.but f sb, rfl, hQ⟩⟩
theorem ps_lc {X : Cx} {elt tg iter : Expr} {ifs : List Expr} {scope : Scope} {pos spos py : Pos} {wi : TI} {g : TG} {tc : TT} {te : TE} {i : Nat} {y : Str} (hN : X.N.Nodup) (hy : X.N[i]? = some y) (hyl : X.env.scope.names.lookup y = some .local)
    (hsw : swapsWith (.ListComp elt [⟨tg, iter, ifs, 0⟩] scope pos) (some (.Name y py)) spos.line X.env = pure true)
    {sc : Scope} (hc : X.calm = true) (hsc : X.env.scope = sc) (hok : cmpB sc scope = true) (hi : PI X tg iter wi)
    (hg : ∀ cl C s₀ H₀ fp, PG (X.cmp scope cl C s₀ H₀ fp) tg g) (ht : ∀ cl C s₀ H₀ fp, PTs (X.cmp scope cl C s₀ H₀ fp) ifs tc) (he : ∀ cl C s₀ H₀ fp, PE (X.cmp scope cl C s₀ H₀ fp) elt te)
    (hs : ∀ x, foldedSetIterable iter X.env x = pure x := by intro _; rfl) : PS X (.Assign [.Name y py] (.ListComp elt [⟨tg, iter, ifs, 0⟩] scope pos) spos) (tAsg (tLC X.N scope.names wi g tc te) (gName i)) := by
  intro pins s σ H D I h
  have ok := CmpOk.of (X := X) (hsc ▸ hok)
  obtain ⟨cl, e1, e2, e3⟩ := closureFor_some (scope := scope) (env := X.env) fun y hy hf => I.ok.has y.1 (ok.free y hy hf)
  rw [exec_Assign_Name_used _ _ _ _ hsw]
  refine wpAny_bind (wpAny_standAt (wpAny_bind ?_))
  show wpAny _ X.A (do let _ ← comprehension (.ListComp elt [⟨tg, iter, ifs, 0⟩] scope pos) scope X.env _ (newList []) false (eval iter X.env) (some (assign (.Name y py) X.env))) _ _ s
  have hh : tLC X.N scope.names wi g tc te σ H fun x H1 => D.nx (σ.set i (some x)) H1 := h
  refine wpAny_bind (wpAny_mono (wpAny_comprehension_free (use := some (assign (.Name y py) X.env)) (Q := fun _ s' => SP X pins D .next s') rfl hs e1 ok.kind (fun y hy hl => by rw [lookup_of_mem ok.nd hy, hl])
    (thn (hi pins s σ H _ I hh) fun v s1 h1 => thn h1 fun itv s2 h2 => ?_)) (fun _ s' hq => wpAny_pure (wpAny_pure hq)) fun _ _ e => e)
  obtain ⟨it, fp, tn, J, H2, e, I2, T, st2, f2, q⟩ := h2
  subst e
  refine block_lc (Q := fun x H1 => D.nx (σ.set i (some x)) H1) (E := X.xe) (RR := fun acc C => compPost (model X.prog X.w) X.A X.xe (some (assign (.Name y py) X.env)) (fun _ s' => SP X pins D .next s') acc C) hc ok hg ht he e2 e3 I2 T st2 f2 q ?_
  intro D' C H' s' m hn I' f hQ
  refine wpAny_assign_Name (store_ok2 I' hN hy (.inl hyl) (v := .ref D') rfl (fun s'' I'' hd => ?_) (.inr hyl))
  obtain ⟨a, sb, ha⟩ := hd
  have hne : C ≠ a := by
    rcases ha with rfl | ha
    · exact f.2.1
    · exact fun z => f.2.2.2.2.1 y a ha z.symm
  exact ⟨m, hn.sameBut sb hne, fun h' sb' => ⟨_, H', I''.but f sb', hQ⟩⟩
end L2
namespace L2
open PySem PySem.Spec PyProof.Rows
section
variable {X : Cx}
theorem set_add {pins : List (Addr × Obj)} {s : Shared} {σ : St} {H : Hp} {D : Addr} {S : Int → Bool} {n : Nat} {k : Int} {u : Value} {Q : VK} {E : Value → Shared → Prop} (I : Inv X pins σ H s) (hD : H D = some (.set S n)) (r : RelV (.int k) u) (hb : n + 1 < scanBound)
    (q : Q .non (upd H D (.set (fun k' => S k' || decide (k' = k)) (if S k then n else n + 1)))) : wpAny (model X.prog X.w) X.A (call (.builtin "set.add") [.ref D, u]) (EP X pins σ Q) E s := by
  obtain ⟨t, rfl⟩ := r
  have hS : s.heap.SetOf (intKind X.prog X.w) D S n := I.hok D _ hD
  refine call_set_add (knd := intKind X.prog X.w) (k := k) (by simp [intKind, Value.isInt]) rfl hS hb fun h' sb hS' => ?_
  refine ⟨.non, _, I.write (o := .set (fun k' => S k' || decide (k' = k)) (if S k then n else n + 1)) (t' := s.toks + 1) (x := D) (e := D) (by rw [hD]; exact trivial) (.inl rfl) (fun b u hb e => sb.extBut b u hb e) ?_ hS', rfl, q⟩
  obtain ⟨o, _, _, _, e, _⟩ := hS'
  exact ⟨o, e⟩
theorem call_len_setI : CallR X (.builtin "len") (fun xs H Q => ∃ p S n, xs = [.ref p] ∧ H p = some (.set S n) ∧ Q (.int n) H) := by
  intro pins s σ H xs us Q I r h
  obtain ⟨p, S, n, rfl, hp, q⟩ := h
  obtain ⟨u, rfl, ru⟩ := vals1 r
  cases (show u = Value.ref p from ru)
  obtain ⟨o, es, ep, t, e, hex, hd, _, _, hb, hf, hn⟩ := (show s.heap.SetOf (intKind X.prog X.w) p S n from I.hok p _ hp)
  subst hn
  refine call_len_set e hex hd hf ?_ ⟨.int es.size, H, I.tok _, ⟨_, rfl⟩, q⟩
  have : es.size < 4096 := hb
  omega
theorem vals_bl : ∀ {bs : List Bool} {us : List Value}, Vals (bs.map V.bl) us → us = bs.map Value.bool
  | [], _, .nil => rfl
  | b :: r, _, .cons h t => by rw [List.map_cons, ← vals_bl t, (show _ = Value.bool b from h)]
theorem range_allB (bs : List Bool) : ((List.range bs.length).all fun i => (bs[i]?).getD true) = bs.all id := by
  rw [Bool.eq_iff_iff, List.all_eq_true, List.all_eq_true]
  constructor
  · intro h b hb
    obtain ⟨i, hi, rfl⟩ := List.mem_iff_getElem.mp hb
    have := h i (List.mem_range.mpr hi)
    simpa [hi] using this
  · intro h i hi
    have hi' := List.mem_range.mp hi
    have := h bs[i] (List.getElem_mem hi')
    simpa [hi'] using this
theorem call_allB (hc : X.calm = true) : CallR X (.builtin "all") (fun xs H Q => ∃ (p : Addr) (bs : List Bool), xs = [.ref p] ∧ SqL X.K H p (bs.map V.bl) ∧ Q (.bl (bs.all id)) H) := by
  intro pins s σ H xs us Q I r h
  obtain ⟨l, bs, rfl, hp, q⟩ := h
  obtain ⟨u, rfl, ru⟩ := vals1 r
  cases (show u = Value.ref l from ru)
  obtain ⟨its, rv, pl, hz⟩ := I.list hp
  have ei := vals_bl rv
  subst ei
  have hl := pl.isList
  have hlt : l < s.heap.objs.size := by obtain ⟨_, e, _⟩ := hl; exact Heap.lt_size e
  refine call_all_walk (wpAny_pyIter_list hl ?_)
  refine ⟨s.heap.objs.size, [s.heap.objs.size, l], [s.heap.objs.size], (bs.map Value.bool).toArray.size, _, _, fun i => (bs[i]?).getD true, rfl, Walks.list (A := X.A.in1) (I.ok.hd hc) _ l (Nat.ne_of_lt hlt) (bs.map Value.bool).toArray,
    ⟨⟨_, Heap.get?_push_size _ rfl, rfl, rfl⟩, hl.push _⟩, fun i v s' Q' E' hP hQ => ?_, fun h' tk hk => ?_⟩
  · have hP' : (bs.map Value.bool)[i]? = some v := by simpa using hP
    rw [List.getElem?_map] at hP'
    cases e : bs[i]? with
    | none => rw [e] at hP'; cases hP'
    | some b =>
      rw [e] at hP'
      simp only [Option.map_some, Option.some.injEq] at hP'
      subst hP'
      simp only [e, Option.getD_some] at hQ
      exact wpAny_truthy_bool hQ
  · have e : ((List.range (bs.map Value.bool).toArray.size).all fun i => (bs[i]?).getD true) = bs.all id := by
      rw [List.size_toArray, List.length_map]; exact range_allB bs
    rw [e]
    exact ⟨.bl (bs.all id), H, I.kept (PyProof.Rows.LSm.kept_iter hk), rfl, q⟩
theorem call_isi {T : String} {b : Bool} {t : Value} {x : V} {pins : List (Addr × Obj)} {s : Shared} {σ : St} {H : Hp} {u : Value} {Q : VK} {E : Value → Shared → Prop} (I : Inv X pins σ H s) (rx : RelV x u) (ty : TyOf X.K H x t) (e : PySem.W.kitOne X.K t (.type T) = some b) (q : Q (.bl b) H) :
    wpAny (model X.prog X.w) X.A (call (.builtin "isinstance") [u, .type T]) (EP X pins σ Q) E s :=
  isinst_ok I rx ty e fun tk => ⟨.bl b, H, I.tok tk, rfl, q⟩
theorem call_isiR : CallR X (.builtin "isinstance") (fun xs H Q => ∃ (x : V) (T : String) (t : Value) (b : Bool), xs = [x, .ty T] ∧ TyOf X.K H x t ∧ PySem.W.kitOne X.K t (.type T) = some b ∧ Q (.bl b) H) := by
  intro pins s σ H xs us Q I r h
  obtain ⟨x, T, t, b, rfl, ty, e, q⟩ := h
  obtain ⟨u, w', rfl, ru, rw'⟩ := vals2 r
  cases (show w' = Value.type T from rw')
  exact call_isi I ru ty e q
def rEqL (K : PySem.W.Frag) : R2 := fun x y H Q => ∃ (a b : Addr) (ns ms : List Int), x = .ref a ∧ y = .ref b ∧ SqL K H a (ns.map V.int) ∧ SqL K H b (ms.map V.int) ∧ Q (.bl (decide (ns = ms))) H
theorem op_eqL (hu : X.A.units + 64 < cLine) : OpR X (compareOp .Eq) (rEqL X.K) := by
  intro pins s σ H x y v u Q I rx ry h
  obtain ⟨a, b, ns, ms, rfl, rfl, ha, hb, q⟩ := h
  cases (show v = Value.ref a from rx)
  cases (show u = Value.ref b from ry)
  obtain ⟨its, rv, pl, _⟩ := I.list ha
  obtain ⟨its2, rv2, pl2, _⟩ := I.list hb
  exact PySem.W.eq_intsK pl.isList (L2.intsAre_of rv) pl2.isList (L2.intsAre_of rv2) hu ⟨.bl _, H, I, rfl, q⟩
def rNeL (K : PySem.W.Frag) : R2 := fun x y H Q => ∃ (a b : Addr) (ns ms : List Int), x = .ref a ∧ y = .ref b ∧ SqL K H a (ns.map V.int) ∧ SqL K H b (ms.map V.int) ∧ Q (.bl (!decide (ns = ms))) H
theorem op_neL (hu : X.A.units + 64 < cLine) : OpR X (compareOp .NotEq) (rNeL X.K) := by
  intro pins s σ H x y v u Q I rx ry h
  obtain ⟨a, b, ns, ms, rfl, rfl, ha, hb, q⟩ := h
  cases (show v = Value.ref a from rx)
  cases (show u = Value.ref b from ry)
  obtain ⟨its, rv, pl, _⟩ := I.list ha
  obtain ⟨its2, rv2, pl2, _⟩ := I.list hb
  exact PySem.W.ne_intsK pl.isList (L2.intsAre_of rv) pl2.isList (L2.intsAre_of rv2) hu ⟨.bl _, H, I, rfl, q⟩
end
def tSC (N : List Str) (names : List (Str × NameKind)) (wi : TI) (g : TG) (tc : TT) (te : TE) : TE := fun σ H Q => wi σ H fun J H1 => ∀ D, H1 D = none →
  ∃ W : Nat → Nat → St → Hp → Prop, (∃ m, W 0 m (cmpSt N σ names) (upd H1 D (.set (fun _ => false) 0))) ∧ ∀ i m σ2 H2, W i m σ2 H2 →
    (J.stop i H2 ∧ Q (.ref D) H2) ∨ (J.go i H2 ∧ ∀ x H3, J.yld i H2 x H3 → g x σ2 H3 fun σ4 H4 => tc σ4 H4 fun b H5 =>
      if b = true then te σ4 H5 fun v H6 => ∃ k S n m', v = .int k ∧ H6 D = some (.set S n) ∧ n + 1 < scanBound ∧ m' < m ∧ W (i + 1) m' σ4 (upd H6 D (.set (fun k' => S k' || decide (k' = k)) (if S k then n else n + 1))) else ∃ m', m' < m ∧ W (i + 1) m' σ4 H5)
theorem block_sc {X : Cx} {elt tg iter : Expr} {ifs : List Expr} {scope : Scope} {pos : Pos} {g : TG} {tc : TT} {te : TE} (hc : X.calm = true) (ok : CmpOk X scope)
    (hg : ∀ cl C s₀ H₀ fp, PG (X.cmp scope cl C s₀ H₀ fp) tg g) (ht : ∀ cl C s₀ H₀ fp, PTs (X.cmp scope cl C s₀ H₀ fp) ifs tc) (he : ∀ cl C s₀ H₀ fp, PE (X.cmp scope cl C s₀ H₀ fp) elt te)
    {pins : List (Addr × Obj)} {σ : St} {H1 : Hp} {s2 : Shared} {cl : List (Str × Addr)} {it : Addr} {fp : List Addr} {tn : Nat → Heap → Prop} {J : It} {Q : VK} {E : Value → Shared → Prop} {RR : Value → Addr → Result → Shared → Prop}
    (hcl : ∀ x c, cl.lookup x = some c → X.env.cells.lookup x = some c) (hcf : ∀ y ∈ scope.names, y.2 = .free → ∃ c, cl.lookup y.1 = some c)
    (I : Inv X pins σ H1 s2) (T : Turn X.prog X.w X.K tg J fp it tn) (st : tn 0 s2.heap) (hf : ∀ b ∈ fp, FpOk X pins H1 b)
    (h : ∀ D, H1 D = none → ∃ W : Nat → Nat → St → Hp → Prop, (∃ m, W 0 m (cmpSt X.N σ scope.names) (upd H1 D (.set (fun _ => false) 0))) ∧ ∀ i m σ2 H2, W i m σ2 H2 →
      (J.stop i H2 ∧ Q (.ref D) H2) ∨ (J.go i H2 ∧ ∀ x H3, J.yld i H2 x H3 → g x σ2 H3 fun σ4 H4 => tc σ4 H4 fun b H5 =>
        if b = true then te σ4 H5 fun v H6 => ∃ k S n m', v = .int k ∧ H6 D = some (.set S n) ∧ n + 1 < scanBound ∧ m' < m ∧ W (i + 1) m' σ4 (upd H6 D (.set (fun k' => S k' || decide (k' = k)) (if S k then n else n + 1))) else ∃ m', m' < m ∧ W (i + 1) m' σ4 H5))
    (hRR : ∀ D C H' s' m, s'.heap.Ns C m → Inv X pins σ H' s' → FpOk X pins H' C → Q (.ref D) H' → RR (.ref D) C (.ok .next) s') :
    wpAny (model X.prog X.w) X.A (newSet (.type "set")) (fun acc s₃ => wpAny (model X.prog X.w) X.A (newFunctionEnv scope X.env.globals cl [] X.env.qual none .none (some X.env)) (fun cenv s₄ =>
      codeAny (model X.prog X.w) X.A (.compStart (.SetComp elt [⟨tg, iter, ifs, 0⟩] scope pos) 0 (.ref it) acc { cenv with scope := relabel scope X.env }) (RR acc cenv.locals) s₄) E s₃) E s2 := by
  refine wpAny_newSet_of (knd := intKind X.prog X.w) fun led hS0 => ?_
  have I3 : Inv X pins σ (upd H1 s2.heap.objs.size (.set (fun _ => false) 0)) { s2 with heap := s2.heap.push { cls := .type "set", dict := none, data := .set #[] 0 (.fresh 0 0 led) }, toks := s2.toks } := I.laid (t' := s2.toks) (fun b u e => Heap.get?_push_of_some _ e) (Nat.le_refl _) hS0
  have hD : H1 s2.heap.objs.size = none := I.fresh
  obtain ⟨W, ⟨m0, w0⟩, turn⟩ := h _ hD
  generalize hs3 : ({ s2 with heap := s2.heap.push { cls := .type "set", dict := none, data := .set #[] 0 (.fresh 0 0 led) }, toks := s2.toks } : Shared) = s3 at I3
  have kp3 : ∀ b o, s2.heap.get? b = some o → s3.heap.get? b = some o := fun b o e => by rw [← hs3]; exact Heap.get?_push_of_some _ e
  have fpD : ∀ b ∈ fp, b ≠ s2.heap.objs.size := fun b hb z => by
    obtain ⟨o, e, _⟩ := T.obj _ _ st b hb
    subst z
    exact Nat.lt_irrefl _ (Heap.lt_size e)
  have hf3 : ∀ b ∈ fp, FpOk X pins (upd H1 s2.heap.objs.size (.set (fun _ => false) 0)) b := fun b hb => ⟨by rw [upd_ne (fpD b hb)]; exact (hf b hb).1, (hf b hb).2⟩
  have st3 : tn 0 s3.heap := T.keep _ _ _ st fun b _ o e => kp3 b o e
  have lt3 : ∀ b ∈ fp, b < s3.heap.objs.size := fun b hb => by
    obtain ⟨o, e, _⟩ := T.obj _ _ st3 b hb
    exact Heap.lt_size e
  generalize hDD : s2.heap.objs.size = D at *
  refine wpAny_newFunctionEnv ok.nocell (by intro y hy; simp at hy) (fun h₁ hns₁ hsb₁ => ?_) ok.kind
  have kp4 : ∀ b o, s3.heap.get? b = some o → h₁.get? b = some o := fun b o e => hsb₁.extBut b o (fun z => by subst z; exact Nat.lt_irrefl _ (Heap.lt_size e)) (Heap.get?_push_of_some _ e)
  have I4 := inv_cmp (tk := s3.toks + ([] : List (Str × Value)).length) I3 ok hcl hcf hf3 lt3 (ns_lookup_nil hns₁) kp4
  generalize hs4 : ({ s3 with heap := h₁, toks := s3.toks + ([] : List (Str × Value)).length } : Shared) = s4 at I4
  have st4 : tn 0 s4.heap := by rw [← hs4]; exact T.keep _ _ _ st3 fun b _ o e => kp4 b o e
  show codeAny _ _ (.compStart (.SetComp elt [⟨tg, iter, ifs, 0⟩] scope pos) 0 (.ref it) (.ref D) (compEnvC scope cl s3.heap.objs.size X.env)) (RR (.ref D) s3.heap.objs.size) s4
  -- the block's own context
  generalize hX : X.cmp scope cl s3.heap.objs.size s3 (upd H1 D (.set (fun _ => false) 0)) fp = Y at I4
  have eA : Y.A = X.A := by rw [← hX]; rfl
  have eP : Y.prog = X.prog := by rw [← hX]; rfl
  have eW : Y.w = X.w := by rw [← hX]; rfl
  have eK : Y.K = X.K := by rw [← hX]; rfl
  have eC : Y.calm = true := by rw [← hX]; exact hc
  have eE : Y.env = compEnvC scope cl s3.heap.objs.size X.env := by rw [← hX]; rfl
  have eX : Y.xe = fun _ _ => False := by rw [← hX]; rfl
  have stat : ∀ {H' : Hp}, (∀ b ∈ fp, H' b = none) → ∀ b ∈ fp, FpOk Y [] H' b := fun {H'} hn b hb => by
    subst hX
    refine ⟨hn b hb, Nat.ne_of_lt (lt3 b hb), fun z => ?_, .inl hb, fun x c e => (hf3 b hb).2.2.2.2.1 x c (hcl _ _ e), fun p hp => absurd (show p ∈ ([] : List (Addr × Obj)) from hp) (by simp)⟩
    rcases List.mem_cons.mp (I3.stkSub b z) with q | q
    · exact (hf3 b hb).2.1 q
    · exact (hf3 b hb).2.2.1 q
  have loop : codeAny (model X.prog X.w) X.A (.compLoop (.SetComp elt [⟨tg, iter, ifs, 0⟩] scope pos) 0 (.ref it) (.ref D) (compEnvC scope cl s3.heap.objs.size X.env)) (RR (.ref D) s3.heap.objs.size) s4 := by
    refine codeAny_compLoop_setG (fun n s' => ∃ i σ' H', Inv Y [] σ' H' s' ∧ tn i s'.heap ∧ (∀ b ∈ fp, H' b = none) ∧ W i n σ' H') ?_ m0 ⟨0, _, _, I4, st4, fun b hb => (hf3 b hb).1, w0⟩
    rintro n s5 ⟨i, σ5, H5, I5, st5, fr5, w5⟩
    rcases turn i n σ5 H5 w5 with ⟨stop, qn⟩ | ⟨go, step⟩
    · have q := T.done Y eP eW eK eC i [] s5 σ5 H5 (fun _ _ => False) I5 (stat fr5) st5 stop
      rw [eA] at q
      refine thn q fun r s6 ⟨hr, I6⟩ => ?_
      subst hr
      obtain ⟨m6, hn6, _⟩ := I6.loc
      have hn6' : s6.heap.Ns s3.heap.objs.size m6 := by rw [eE] at hn6; exact hn6
      rw [← hX] at I6
      exact hRR D s3.heap.objs.size H5 s6 m6 hn6' (after_cmp I3 hf3 I6 (.refl ..)) (I3.fpOk (Nat.le_refl _) I6.free) qn
    · have q := T.item Y eP eW eK eC i [] s5 σ5 H5 (fun _ _ => False) I5 (stat fr5) st5 go
      rw [eA] at q
      refine thn q fun r s6 ⟨u, hr, h6⟩ => ?_
      subst hr
      refine thn h6 fun _ s7 ⟨x, H7, I7, r7, y7, st7, fr7⟩ => ?_
      have I7' := I7.pinned (stat fr7) (T.obj _ _ st7)
      have gg : PG Y tg g := by rw [← hX]; exact hg _ _ _ _ _
      have tt : PTs Y ifs tc := by rw [← hX]; exact ht _ _ _ _ _
      have ee : PE Y elt te := by rw [← hX]; exact he _ _ _ _ _
      have q1 := gg _ s7 σ5 H7 x u _ I7' r7 (step x H7 y7)
      rw [eA, eP, eW, eE, eX] at q1
      refine thn q1 fun _ s8 ⟨σ8, H8, I8, q8⟩ => ?_
      have q2 := tt _ s8 σ8 H8 _ I8 q8
      rw [eA, eP, eW, eE, eX] at q2
      refine thn q2 fun b s9 ⟨H9, I9, q9⟩ => ?_
      have again : ∀ {H10 : Hp} {s10 : Shared}, Inv Y ([] ++ pinsAt fp s7.heap) σ8 H10 s10 → (∃ m', m' < n ∧ W (i + 1) m' σ8 H10) → ∃ m, m < n ∧ ∃ i σ' H', Inv Y [] σ' H' s10 ∧ tn i s10.heap ∧ (∀ b ∈ fp, H' b = none) ∧ W i m σ' H' := fun {H10 s10} J10 ⟨m', hm, w10⟩ => by
        refine ⟨m', hm, i + 1, σ8, H10, J10.unpinned, T.keep _ _ _ st7 fun b hb o e => (pinsAt_get J10 hb e).1, fun b hb => ?_, w10⟩
        obtain ⟨o, e, _⟩ := T.obj _ _ st7 b hb
        exact (pinsAt_get J10 hb e).2
      cases b with
      | false =>
        rw [if_neg Bool.false_ne_true] at q9 ⊢
        exact again I9 q9
      | true =>
        rw [if_pos rfl] at q9 ⊢
        have q3 := ee _ s9 σ8 H9 _ I9 q9
        rw [eA, eP, eW, eE, eX] at q3
        refine thn q3 fun u9 s10 ⟨v, H10, I10, r10, k, S, n', m', hv, hys, hz, hm, w10⟩ => ?_
        subst hv
        have q4 := set_add (X := Y) (E := Y.xe) (Q := fun _ H' => H' = upd H10 D (.set (fun k' => S k' || decide (k' = k)) (if S k then n' else n' + 1))) I10 hys r10 hz rfl
        rw [eA, eP, eW, eX] at q4
        refine thn q4 fun _ s11 ⟨_, H11, I11, _, e11⟩ => ?_
        subst e11
        exact again I11 ⟨m', hm, w10⟩
  exact codeAny_compStart_set loop (T.self X.A 0 s4 _ _ st4 loop)
theorem pe_sc {X : Cx} {elt tg iter : Expr} {ifs : List Expr} {scope : Scope} {pos : Pos} {wi : TI} {g : TG} {tc : TT} {te : TE} {sc : Scope} (hc : X.calm = true) (hsc : X.env.scope = sc) (hok : cmpB sc scope = true) (hi : PI X tg iter wi)
    (hg : ∀ cl C s₀ H₀ fp, PG (X.cmp scope cl C s₀ H₀ fp) tg g) (ht : ∀ cl C s₀ H₀ fp, PTs (X.cmp scope cl C s₀ H₀ fp) ifs tc) (he : ∀ cl C s₀ H₀ fp, PE (X.cmp scope cl C s₀ H₀ fp) elt te)
    (hs : ∀ x, foldedSetIterable iter X.env x = pure x := by intro _; rfl) : PE X (.SetComp elt [⟨tg, iter, ifs, 0⟩] scope pos) (tSC X.N scope.names wi g tc te) := by
  intro pins s σ H Q I h
  have ok := CmpOk.of (X := X) (hsc ▸ hok)
  obtain ⟨cl, e1, e2, e3⟩ := closureFor_some (scope := scope) (env := X.env) fun y hy hf => I.ok.has y.1 (ok.free y hy hf)
  show wpAny _ _ (comprehension (.SetComp elt [⟨tg, iter, ifs, 0⟩] scope pos) scope X.env _ (newSet (.type "set")) false (eval iter X.env)) _ _ s
  refine wpAny_comprehension_free (use := none) rfl hs e1 ok.kind (fun y hy hl => by rw [lookup_of_mem ok.nd hy, hl]) (thn (hi pins s σ H _ I h) fun v s1 h1 => thn h1 fun itv s2 h2 => ?_)
  obtain ⟨it, fp, tn, J, H2, e, I2, T, st2, f2, q⟩ := h2
  subst e
  refine block_sc (E := X.xe) (RR := fun acc C => compPost (model X.prog X.w) X.A X.xe none (EP X pins σ Q) acc C) hc ok hg ht he e2 e3 I2 T st2 f2 q ?_
  intro D C H' s' m hn hI f hQ
  exact ⟨m, hn, fun h' sb => ⟨.ref D, H', hI.but f sb, rfl, hQ⟩⟩
end L2
namespace L2
open PySem PySem.Spec PyProof.Rows
theorem same_upd {H : Hp} {D : Addr} {o : HO} (h : H D = none) : Same H (upd H D o) := fun b u e => by rw [upd_ne (ne_of_none e h)]; exact e
theorem Same.tupS {K : PySem.W.Frag} {H H' : Hp} {a : Addr} {xs : List V} (e : Same H H') (h : SqT K H a xs) : SqT K H' a xs := by
  rcases h with (h | ⟨o, h⟩) | h
  · exact .inl (.inl (e _ _ h))
  · exact .inl (.inr ⟨o, e _ _ h⟩)
  · exact .inr h
def ItOf (J : It) (H1 : Hp) (xs : List V) : Prop := ∀ H2, Same H1 H2 → ∀ i, (i < xs.length → J.go i H2 ∧ ∀ x H3, J.yld i H2 x H3 → H3 = H2 ∧ xs[i]? = some x) ∧ (i = xs.length → J.stop i H2)
theorem itOf_list {K : PySem.W.Frag} {H : Hp} {a : Addr} {xs : List V} (h : SqL K H a xs) : ItOf (Itl K a) H xs := fun H2 s i =>
  ⟨fun hi => ⟨⟨xs, xs[i], s.seq h, by simp [hi]⟩, fun x H3 y => ⟨y.1, y.2 xs (s.seq h)⟩⟩, fun e => ⟨xs, s.seq h, by omega⟩⟩
theorem itOf_tup {K : PySem.W.Frag} {H : Hp} {a : Addr} {xs : List V} (h : SqT K H a xs) : ItOf (Itt K a) H xs := fun H2 s i =>
  ⟨fun hi => ⟨⟨xs, xs[i], s.tupS h, by simp [hi]⟩, fun x H3 y => ⟨y.1, y.2 xs (s.tupS h)⟩⟩, fun e => ⟨xs, s.tupS h, by omega⟩⟩
def rngV (lo : Int) (n : Nat) : List V := (List.range n).map fun i => V.int (lo + (i : Nat))
theorem rngV_len (lo : Int) (n : Nat) : (rngV lo n).length = n := by unfold rngV; simp
theorem itOf_rng {H : Hp} (lo : Int) (n : Nat) : ItOf (Itr lo n) H (rngV lo n) := fun H2 s i =>
  ⟨fun hi => ⟨by rw [rngV_len] at hi; exact hi, fun x H3 y => ⟨y.1, by
    rw [rngV_len] at hi
    unfold rngV
    rw [List.getElem?_map, List.getElem?_range hi, y.2]; rfl⟩⟩, fun e => by rw [rngV_len] at e; exact Nat.le_of_eq e.symm⟩
theorem take_snoc {α : Type} {xs : List α} {i : Nat} {x : α} (h : xs[i]? = some x) : xs.take (i + 1) = xs.take i ++ [x] := by
  rw [List.take_add_one, h]; rfl
theorem lc_pure {J : It} {H1 : Hp} {xs : List V} {g : TG} {tc : TT} {te : TE} {σ0 : St} {Q : Addr → Hp → Prop} (hJ : ItOf J H1 xs) (S : St → Prop) (p : V → Bool) (f : V → V) (h0 : S σ0) (hz : xs.length ≤ sizeLine)
    (hs : ∀ (x : V) (σ2 : St) (H2 : Hp) (Qt : St → V → Hp → Prop) (Qf : St → Hp → Prop), x ∈ xs → Same H1 H2 → S σ2 → (p x = true → ∀ σ4, S σ4 → Qt σ4 (f x) H2) → (p x = false → ∀ σ4, S σ4 → Qf σ4 H2) →
      g x σ2 H2 fun σ4 H4 => tc σ4 H4 fun b H5 => if b = true then te σ4 H5 fun v H6 => Qt σ4 v H6 else Qf σ4 H5)
    (hQ : ∀ D, H1 D = none → Q D (upd H1 D (.lst ((xs.filter p).map f)))) :
    ∀ D, H1 D = none → ∃ W : Nat → Nat → St → Hp → Prop, (∃ m, W 0 m σ0 (upd H1 D (.lst []))) ∧ ∀ i m σ2 H2, W i m σ2 H2 →
      (J.stop i H2 ∧ Q D H2) ∨ (J.go i H2 ∧ ∀ x H3, J.yld i H2 x H3 → g x σ2 H3 fun σ4 H4 => tc σ4 H4 fun b H5 =>
        if b = true then te σ4 H5 fun v H6 => ∃ ys m', H6 D = some (.lst ys) ∧ ys.length < sizeLine ∧ m' < m ∧ W (i + 1) m' σ4 (upd H6 D (.lst (ys ++ [v]))) else ∃ m', m' < m ∧ W (i + 1) m' σ4 H5) := by
  intro D hD
  refine ⟨fun i m σ2 H2 => i ≤ xs.length ∧ m = xs.length - i ∧ S σ2 ∧ H2 = upd H1 D (.lst (((xs.take i).filter p).map f)), ⟨xs.length, Nat.zero_le _, by omega, h0, by simp⟩, ?_⟩
  rintro i m σ2 H2 ⟨hi, rfl, hS, rfl⟩
  obtain ⟨j1, j2⟩ := hJ _ (same_upd hD) i
  by_cases hlt : i < xs.length
  · obtain ⟨go, yl⟩ := j1 hlt
    refine .inr ⟨go, fun x H3 y => ?_⟩
    obtain ⟨rfl, hx⟩ := yl x H3 y
    have et := take_snoc hx
    refine hs x σ2 _ _ _ (List.mem_of_getElem? hx) (same_upd hD) hS (fun hp σ4 h4 => ?_) fun hp σ4 h4 => ?_
    · refine ⟨_, xs.length - (i + 1), upd_same, ?_, by omega, hlt, rfl, h4, ?_⟩
      · rw [List.length_map]
        have := List.length_filter_le p (xs.take i)
        rw [List.length_take] at this
        omega
      · rw [upd_upd, et, List.filter_append, List.map_append, List.filter_cons, hp]; rfl
    · refine ⟨xs.length - (i + 1), by omega, hlt, rfl, h4, ?_⟩
      rw [et, List.filter_append, List.filter_cons, hp]
      simp
  · have e : i = xs.length := by omega
    refine .inl ⟨j2 e, ?_⟩
    subst e
    rw [List.take_length]
    exact hQ D hD
def dset (ks : List Int) : (Int → Bool) × Nat := ks.foldl (fun a k => (fun k' => a.1 k' || decide (k' = k), if a.1 k then a.2 else a.2 + 1)) (fun _ => false, 0)
theorem dset_snoc (ks : List Int) (k : Int) : dset (ks ++ [k]) = (fun k' => (dset ks).1 k' || decide (k' = k), if (dset ks).1 k then (dset ks).2 else (dset ks).2 + 1) := by
  unfold dset; rw [List.foldl_append]; rfl
theorem revInd {P : List Int → Prop} (h0 : P []) (hs : ∀ l a, P l → P (l ++ [a])) (l : List Int) : P l := by
  have key : ∀ r : List Int, P r.reverse := fun r => by
    induction r with
    | nil => exact h0
    | cons a r ih => rw [List.reverse_cons]; exact hs _ _ ih
  rw [← List.reverse_reverse l]; exact key _
theorem dset_mem (ks : List Int) (k : Int) : (dset ks).1 k = true ↔ k ∈ ks := by
  revert k
  induction ks using revInd with
  | h0 => intro k; simp [dset]
  | hs l a ih => intro k; rw [dset_snoc]; simp [ih]
theorem dset_le (ks : List Int) : (dset ks).2 ≤ ks.length := by
  induction ks using revInd with
  | h0 => simp [dset]
  | hs l a ih => rw [dset_snoc]; simp only [List.length_append, List.length_singleton]; split <;> omega
theorem nodup_snoc {l : List Int} {a : Int} : (l ++ [a]).Nodup ↔ l.Nodup ∧ a ∉ l := by
  rw [List.nodup_append]
  constructor
  · rintro ⟨h1, _, h3⟩; exact ⟨h1, fun h => h3 a h a (by simp) rfl⟩
  · rintro ⟨h1, h2⟩
    refine ⟨h1, by simp, fun x hx y hy e => ?_⟩
    simp at hy; subst hy; subst e; exact h2 hx
theorem dset_nodup (ks : List Int) : (dset ks).2 = ks.length ↔ ks.Nodup := by
  induction ks using revInd with
  | h0 => simp [dset]
  | hs l a ih =>
    rw [dset_snoc, nodup_snoc, ← ih]
    have hle := dset_le l
    simp only [List.length_append, List.length_singleton]
    by_cases h : (dset l).1 a = true
    · rw [if_pos h]
      constructor
      · intro e; omega
      · rintro ⟨_, h2⟩; exact absurd ((dset_mem l a).mp h) h2
    · rw [if_neg h]
      constructor
      · intro e; exact ⟨by omega, fun h2 => h ((dset_mem l a).mpr h2)⟩
      · rintro ⟨e, _⟩; omega
end L2
namespace L2
open PySem PySem.Spec PyProof.Rows
theorem boot_ty_int : bootBuiltins "int" = some (.type "int") := by decide +kernel
theorem boot_ty_bool : bootBuiltins "bool" = some (.type "bool") := by decide +kernel
theorem boot_ty_list : bootBuiltins "list" = some (.type "list") := by decide +kernel
theorem boot_ty_tuple : bootBuiltins "tuple" = some (.type "tuple") := by decide +kernel
section
variable {X : Cx}
theorem pe_globI {x : Str} {i : Int} {pos : Pos} (hg : Gl X x) (hm : ∃ t, X.mg x = some (.int i t)) (hd : (x == ("__debug__" : Str)) = false := by decide) : PE X (.Name x pos) (tC (.int i)) := by
  obtain ⟨t, hm⟩ := hm
  exact pe_glob hg hm ⟨t, rfl⟩ hd
def rGetL (K : PySem.W.Frag) : V → V → Hp → VK → Prop := fun o i H Q => ∃ (p : Addr) (xs : List V) (j : Nat) (v : V), o = .ref p ∧ i = .int j ∧ SqL K H p xs ∧ xs[j]? = some v ∧ Q v H
theorem get_listG : PGet X (rGetL X.K) := by
  intro pins s σ H o i ov iv Q I ro ri h
  obtain ⟨p, xs, j, v, rfl, rfl, hp, hx, q⟩ := h
  cases (show ov = Value.ref p from ro)
  obtain ⟨t, rfl⟩ := ri
  obtain ⟨its, r, pl, hz⟩ := I.list hp
  obtain ⟨w, ew, rw'⟩ := r.get hx
  have hj : j < xs.length := by
    by_cases h : j < xs.length
    · exact h
    · rw [List.getElem?_eq_none (Nat.le_of_not_lt h)] at hx; cases hx
  have hn := line63
  exact wpAny_getItem_list pl.isList (Int.natCast_nonneg _) (by omega) (by simpa using ew) ⟨v, H, I, rw', q⟩
end
end L2
namespace L2
open PySem
theorem PSs.rd {X : Cx} {st : List Stmt} {t : TS} {D : Ends} {σ : St} {H : Hp} (h : PSs X st t) (q : t D σ H) : ∃ t, PSs X st t ∧ t D σ H := ⟨t, h, q⟩
end L2
namespace L2
open PySem
def tCut (t : TS) : TS := fun D σ H => ∃ M : L2.St → Hp → Prop, t { D with nx := M } σ H ∧ ∀ σ' H', M σ' H' → D.nx σ' H'
theorem ps_cut {X : Cx} {st : Stmt} {t : TS} (h : PS X st t) : PS X st (tCut t) := by
  intro pins s σ H D I q
  obtain ⟨M, q, hM⟩ := q
  refine thn (h pins s σ H _ I q) fun f s' r => ?_
  cases f with
  | next => obtain ⟨σ', H', I', m⟩ := r; exact ⟨σ', H', I', hM _ _ m⟩
  | brk => exact r
  | cont => exact r
  | ret u => exact r
end L2
namespace L2
theorem pj {j : Int} (h : decide ((0 : Int) < j) = true := by decide) : (0 : Int) < j := of_decide_eq_true h
theorem cdiv {x j : Int} (h : decide ((0 : Int) < j ∧ j < 1073741824) = true := by decide) : CDiv x j := by unfold CDiv; exact of_decide_eq_true h
theorem cmulR {x j : Int} (h : decide (-(2 ^ 64) < j ∧ j < 2 ^ 64) = true := by decide) : CMul x j := .inr (of_decide_eq_true h)
theorem cmulL {x j : Int} (h : decide (-(2 ^ 64) < x ∧ x < 2 ^ 64) = true := by decide) : CMul x j := .inl (of_decide_eq_true h)
end L2
namespace L2
open PySem PySem.Spec PyProof.Rows
theorem iteD {c A B : Prop} [Decidable c] (h1 : c → A) (h2 : ¬ c → B) : if decide c = true then A else B := by
  by_cases h : c
  · rw [if_pos (decide_eq_true h)]; exact h1 h
  · rw [if_neg (by rw [decide_eq_false h]; decide)]; exact h2 h
theorem iteND {c A B : Prop} [Decidable c] (h1 : ¬ c → A) (h2 : c → B) : if (!decide c) = true then A else B := by
  by_cases h : c
  · rw [if_neg (by rw [decide_eq_true h]; decide)]; exact h2 h
  · rw [if_pos (by rw [decide_eq_false h]; rfl)]; exact h1 h
theorem iteB {b : Bool} {A B : Prop} (h1 : b = true → A) (h2 : b = false → B) : if b = true then A else B := by
  cases b with
  | true => exact iteT (h1 rfl)
  | false => exact iteF (h2 rfl)
theorem iteNB {b : Bool} {A B : Prop} (h1 : b = false → A) (h2 : b = true → B) : if (!b) = true then A else B := by
  cases b with
  | true => exact iteF (h2 rfl)
  | false => exact iteT (h1 rfl)
theorem get_lt {α : Type} {xs : List α} {i : Nat} {x : α} (h : xs[i]? = some x) : i < xs.length := by
  by_cases q : i < xs.length
  · exact q
  · rw [List.getElem?_eq_none (Nat.le_of_not_lt q)] at h; cases h
theorem get_some {α : Type} {xs : List α} {i : Nat} (h : i < xs.length) : ∃ x, xs[i]? = some x := ⟨xs[i], by simp [h]⟩
theorem lc_by {J : It} {H1 : Hp} {xs ws : List V} {g : TG} {tc : TT} {te : TE} {σ0 : L2.St} {Q : Addr → Hp → Prop} (hJ : ItOf J H1 xs) (S : L2.St → Prop) (h0 : S σ0) (hw : ws.length = xs.length) (hz : xs.length ≤ sizeLine)
    (hs : ∀ (i : Nat) (x w : V) (σ2 : L2.St) (H2 : Hp) (Qt : L2.St → V → Hp → Prop) (Qf : L2.St → Hp → Prop), xs[i]? = some x → ws[i]? = some w → Same H1 H2 → S σ2 → (∀ σ4, S σ4 → Qt σ4 w H2) →
      g x σ2 H2 fun σ4 H4 => tc σ4 H4 fun b H5 => if b = true then te σ4 H5 fun v H6 => Qt σ4 v H6 else Qf σ4 H5)
    (hQ : ∀ D, H1 D = none → Q D (upd H1 D (.lst ws))) :
    ∀ D, H1 D = none → ∃ W : Nat → Nat → L2.St → Hp → Prop, (∃ m, W 0 m σ0 (upd H1 D (.lst []))) ∧ ∀ i m σ2 H2, W i m σ2 H2 →
      (J.stop i H2 ∧ Q D H2) ∨ (J.go i H2 ∧ ∀ x H3, J.yld i H2 x H3 → g x σ2 H3 fun σ4 H4 => tc σ4 H4 fun b H5 =>
        if b = true then te σ4 H5 fun v H6 => ∃ ys m', H6 D = some (.lst ys) ∧ ys.length < sizeLine ∧ m' < m ∧ W (i + 1) m' σ4 (upd H6 D (.lst (ys ++ [v]))) else ∃ m', m' < m ∧ W (i + 1) m' σ4 H5) := by
  intro D hD
  refine ⟨fun i m σ2 H2 => i ≤ xs.length ∧ m = xs.length - i ∧ S σ2 ∧ H2 = upd H1 D (.lst (ws.take i)), ⟨xs.length, Nat.zero_le _, by omega, h0, by simp⟩, ?_⟩
  rintro i m σ2 H2 ⟨hi, rfl, hS, rfl⟩
  obtain ⟨j1, j2⟩ := hJ _ (same_upd hD) i
  by_cases hlt : i < xs.length
  · obtain ⟨go, yl⟩ := j1 hlt
    refine .inr ⟨go, fun x H3 y => ?_⟩
    obtain ⟨rfl, hx⟩ := yl x H3 y
    obtain ⟨w, hw'⟩ := get_some (xs := ws) (i := i) (by omega)
    have et := take_snoc hw'
    refine hs i x w σ2 _ _ _ hx hw' (same_upd hD) hS fun σ4 h4 => ?_
    refine ⟨_, xs.length - (i + 1), upd_same, ?_, by omega, hlt, rfl, h4, ?_⟩
    · rw [List.length_take]; omega
    · rw [upd_upd, et]
  · have e : i = xs.length := by omega
    refine .inl ⟨j2 e, ?_⟩
    rw [e, ← hw, List.take_length]
    exact hQ D hD
theorem sc_by {J : It} {H1 : Hp} {xs : List V} {ks : List Int} {g : TG} {tc : TT} {te : TE} {σ0 : L2.St} {Q : Addr → Hp → Prop} (hJ : ItOf J H1 xs) (S : L2.St → Prop) (h0 : S σ0) (hw : ks.length = xs.length) (hz : xs.length < 4000)
    (hs : ∀ (i : Nat) (x : V) (k : Int) (σ2 : L2.St) (H2 : Hp) (Qt : L2.St → V → Hp → Prop) (Qf : L2.St → Hp → Prop), xs[i]? = some x → ks[i]? = some k → Same H1 H2 → S σ2 → (∀ σ4, S σ4 → Qt σ4 (.int k) H2) →
      g x σ2 H2 fun σ4 H4 => tc σ4 H4 fun b H5 => if b = true then te σ4 H5 fun v H6 => Qt σ4 v H6 else Qf σ4 H5)
    (hQ : ∀ D, H1 D = none → Q D (upd H1 D (.set (dset ks).1 (dset ks).2))) :
    ∀ D, H1 D = none → ∃ W : Nat → Nat → L2.St → Hp → Prop, (∃ m, W 0 m σ0 (upd H1 D (.set (fun _ => false) 0))) ∧ ∀ i m σ2 H2, W i m σ2 H2 →
      (J.stop i H2 ∧ Q D H2) ∨ (J.go i H2 ∧ ∀ x H3, J.yld i H2 x H3 → g x σ2 H3 fun σ4 H4 => tc σ4 H4 fun b H5 =>
        if b = true then te σ4 H5 fun v H6 => ∃ k S n m', v = .int k ∧ H6 D = some (.set S n) ∧ n + 1 < scanBound ∧ m' < m ∧ W (i + 1) m' σ4 (upd H6 D (.set (fun k' => S k' || decide (k' = k)) (if S k then n else n + 1))) else ∃ m', m' < m ∧ W (i + 1) m' σ4 H5) := by
  intro D hD
  refine ⟨fun i m σ2 H2 => i ≤ xs.length ∧ m = xs.length - i ∧ S σ2 ∧ H2 = upd H1 D (.set (dset (ks.take i)).1 (dset (ks.take i)).2), ⟨xs.length, Nat.zero_le _, by omega, h0, by simp [dset]⟩, ?_⟩
  rintro i m σ2 H2 ⟨hi, rfl, hS, rfl⟩
  obtain ⟨j1, j2⟩ := hJ _ (same_upd hD) i
  by_cases hlt : i < xs.length
  · obtain ⟨go, yl⟩ := j1 hlt
    refine .inr ⟨go, fun x H3 y => ?_⟩
    obtain ⟨rfl, hx⟩ := yl x H3 y
    obtain ⟨k, hk⟩ := get_some (xs := ks) (i := i) (by omega)
    have et := take_snoc hk
    refine hs i x k σ2 _ _ _ hx hk (same_upd hD) hS fun σ4 h4 => ?_
    refine ⟨k, _, _, xs.length - (i + 1), rfl, upd_same, ?_, by omega, hlt, rfl, h4, ?_⟩
    · have h1 := dset_le (ks.take i)
      rw [List.length_take] at h1
      show (dset (ks.take i)).2 + 1 < 4096
      omega
    · rw [upd_upd, et, dset_snoc]
  · have e : i = xs.length := by omega
    refine .inl ⟨j2 e, ?_⟩
    rw [e, ← hw, List.take_length]
    exact hQ D hD
def PairAt (K : PySem.W.Frag) (H : Hp) (v : V) (l : Int × Int) : Prop := ∃ q, v = .ref q ∧ SqT K H q [.int l.1, .int l.2]
structure PairsAt (K : PySem.W.Frag) (H : Hp) (vs : List V) (L : List (Int × Int)) : Prop where
  len : vs.length = L.length
  at_ : ∀ (i : Nat) (l : Int × Int), L[i]? = some l → ∃ v, vs[i]? = some v ∧ PairAt K H v l
structure LinesAt (K : PySem.W.Frag) (H : Hp) (p : Addr) (L : List (Int × Int)) : Prop where
  ex : ∃ vs, SqT K H p vs ∧ PairsAt K H vs L
theorem PairAt.same {K : PySem.W.Frag} {H H' : Hp} {v : V} {l : Int × Int} (h : PairAt K H v l) (s : Same H H') : PairAt K H' v l := let ⟨q, e, t⟩ := h; ⟨q, e, s.tupS t⟩
theorem PairsAt.same {K : PySem.W.Frag} {H H' : Hp} {vs : List V} {L : List (Int × Int)} (h : PairsAt K H vs L) (s : Same H H') : PairsAt K H' vs L :=
  ⟨h.len, fun i l e => let ⟨v, e1, e2⟩ := h.at_ i l e; ⟨v, e1, e2.same s⟩⟩
theorem LinesAt.same {K : PySem.W.Frag} {H H' : Hp} {p : Addr} {L : List (Int × Int)} (h : LinesAt K H p L) (s : Same H H') : LinesAt K H' p L := let ⟨vs, e1, e2⟩ := h.ex; ⟨vs, s.tupS e1, e2.same s⟩
theorem PairsAt.snoc {K : PySem.W.Frag} {H : Hp} {vs : List V} {L : List (Int × Int)} {v : V} {l : Int × Int} (h : PairsAt K H vs L) (p : PairAt K H v l) : PairsAt K H (vs ++ [v]) (L ++ [l]) := by
  refine ⟨by rw [List.length_append, List.length_append, h.len]; rfl, fun i m e => ?_⟩
  by_cases hi : i < L.length
  · rw [List.getElem?_append_left hi] at e
    obtain ⟨u, e1, e2⟩ := h.at_ i m e
    exact ⟨u, by rw [List.getElem?_append_left (by rw [h.len]; exact hi)]; exact e1, e2⟩
  · have hlt := get_lt e
    rw [List.length_append, List.length_singleton] at hlt
    have ei : i = L.length := by omega
    subst ei
    rw [List.getElem?_append_right (Nat.le_refl _), Nat.sub_self] at e
    simp at e; subst e
    exact ⟨v, by rw [List.getElem?_append_right (by rw [h.len]; exact Nat.le_refl _), h.len, Nat.sub_self]; rfl, p⟩
theorem PairsAt.get {K : PySem.W.Frag} {H : Hp} {vs : List V} {L : List (Int × Int)} {i : Nat} {v : V} (h : PairsAt K H vs L) (e : vs[i]? = some v) : ∃ l, L[i]? = some l ∧ PairAt K H v l := by
  have hi := get_lt e
  obtain ⟨l, hl⟩ := get_some (xs := L) (i := i) (by rw [← h.len]; exact hi)
  obtain ⟨u, e1, e2⟩ := h.at_ i l hl
  rw [e] at e1; cases e1
  exact ⟨l, hl, e2⟩
end L2
namespace L2
open PySem PySem.Spec PyProof.Rows
theorem pgc (i : Nat) {X : Cx} {scope : Scope} {cl : List (Str × Addr)} {C : Addr} {s₀ : Shared} {H₀ : Hp} {fp : List Addr} {x : Str} {pos : Pos} (hN : (scope.names.map (·.1)).Nodup := by decide +kernel)
    (hi : (scope.names.map (·.1))[i]? = some x := by rfl) (hx : (relabel scope X.env).names.lookup x = some .local := by rfl) : PG (X.cmp scope cl C s₀ H₀ fp) (.Name x pos) (gName i) :=
  pg_name (X := X.cmp scope cl C s₀ H₀ fp) (cmp_nd hN) hi (.inl hx) (.inr hx)
theorem pgc2 (i j : Nat) {X : Cx} {scope : Scope} {cl : List (Str × Addr)} {C : Addr} {s₀ : Shared} {H₀ : Hp} {fp : List Addr} {x y : Str} {px py pos : Pos} {k : Nat} (hN : (scope.names.map (·.1)).Nodup := by decide +kernel)
    (hi : (scope.names.map (·.1))[i]? = some x := by rfl) (hx : (relabel scope X.env).names.lookup x = some .local := by rfl)
    (hj : (scope.names.map (·.1))[j]? = some y := by rfl) (hy : (relabel scope X.env).names.lookup y = some .local := by rfl) (hc : X.calm = true := by rfl) :
    PG (X.cmp scope cl C s₀ H₀ fp) (.Tuple [.Name x px, .Name y py] k pos) (gTup X.K 2 (gCons (gName i) (gCons (gName j) gNil))) :=
  pg_tup (X := X.cmp scope cl C s₀ H₀ fp) (n := 2) hc (pgs_cons (pg_name (cmp_nd hN) hi (.inl hx) (.inr hx)) (pgs_cons (pg_name (cmp_nd hN) hj (.inl hy) (.inr hy)) pgs_nil))
section
variable {X : Cx} {elt tg iter : Expr} {ifs : List Expr} {scope : Scope} {pos : Pos} {wi : TI} {g : TG} {tc : TT} {te : TE}
theorem lcA (sc : Scope) (hi : PI X tg iter wi)
    (hg : ∀ cl C s₀ H₀ fp, PG (X.cmp scope cl C s₀ H₀ fp) tg g) (ht : ∀ cl C s₀ H₀ fp, PTs (X.cmp scope cl C s₀ H₀ fp) ifs tc) (he : ∀ cl C s₀ H₀ fp, PE (X.cmp scope cl C s₀ H₀ fp) elt te)
    (hc : X.calm = true := by rfl) (hsc : X.env.scope = sc := by rfl) (hok : cmpB sc scope = true := by decide +kernel)
    (hs : ∀ x, foldedSetIterable iter X.env x = pure x := by intro _; rfl) : PE X (.ListComp elt [⟨tg, iter, ifs, 0⟩] scope pos) (tLC X.N scope.names wi g tc te) := pe_lc hc hsc hok hi hg ht he hs
theorem scA (sc : Scope) (hi : PI X tg iter wi)
    (hg : ∀ cl C s₀ H₀ fp, PG (X.cmp scope cl C s₀ H₀ fp) tg g) (ht : ∀ cl C s₀ H₀ fp, PTs (X.cmp scope cl C s₀ H₀ fp) ifs tc) (he : ∀ cl C s₀ H₀ fp, PE (X.cmp scope cl C s₀ H₀ fp) elt te)
    (hc : X.calm = true := by rfl) (hsc : X.env.scope = sc := by rfl) (hok : cmpB sc scope = true := by decide +kernel)
    (hs : ∀ x, foldedSetIterable iter X.env x = pure x := by intro _; rfl) : PE X (.SetComp elt [⟨tg, iter, ifs, 0⟩] scope pos) (tSC X.N scope.names wi g tc te) := pe_sc hc hsc hok hi hg ht he hs
theorem lcS (sc : Scope) (i : Nat) {y : Str} {spos py : Pos} (hN : X.N.Nodup) (hi : PI X tg iter wi)
    (hg : ∀ cl C s₀ H₀ fp, PG (X.cmp scope cl C s₀ H₀ fp) tg g) (ht : ∀ cl C s₀ H₀ fp, PTs (X.cmp scope cl C s₀ H₀ fp) ifs tc) (he : ∀ cl C s₀ H₀ fp, PE (X.cmp scope cl C s₀ H₀ fp) elt te)
    (hy : X.N[i]? = some y := by rfl) (hyl : X.env.scope.names.lookup y = some .local := by rfl)
    (hsw : swapsWith (.ListComp elt [⟨tg, iter, ifs, 0⟩] scope pos) (some (.Name y py)) spos.line X.env = pure true := by rfl)
    (hc : X.calm = true := by rfl) (hsc : X.env.scope = sc := by rfl) (hok : cmpB sc scope = true := by decide +kernel)
    (hs : ∀ x, foldedSetIterable iter X.env x = pure x := by intro _; rfl) : PS X (.Assign [.Name y py] (.ListComp elt [⟨tg, iter, ifs, 0⟩] scope pos) spos) (tAsg (tLC X.N scope.names wi g tc te) (gName i)) :=
  ps_lc hN hy hyl hsw hc hsc hok hi hg ht he hs
end
end L2
namespace L2
theorem iteF' {b : Bool} {A B : Prop} (e : b = false) (h : B) : if b = true then A else B := by rw [e]; exact iteF h
end L2
namespace L2
open PySem
section
variable {X : Cx}
end
end L2
namespace L2
open PySem
end L2
namespace L2
open PySem PySem.Spec PyProof.Rows
structure KDict (w : World) (K : PySem.W.Frag) (d : Addr) (kvs : List (Key × Value)) : Prop where
  low : (d == sysModules) = false
  at_ : ∀ (P : Program) (h : Heap), K.In h → h.DictOf (mixKind P w) d kvs
def KTup (K : PySem.W.Frag) (a : Addr) (xs : List V) : Prop := ∃ (o : Obj) (its : Array Value) (n : Nat), K.lookup a = some o ∧ o.cls = .type "tuple" ∧ o.data = .seq its n ∧ its.size ≤ sizeLine ∧ Vals xs its.toList
theorem KTup.sq {K : PySem.W.Frag} {a : Addr} {xs : List V} (h : KTup K a xs) (H : Hp) : SqT K H a xs := .inr h
theorem kdict_mk {w : World} {K : PySem.W.Frag} {d : Addr} {es : List DictEntry} {ep : Nat} {kvs : List (Key × Value)} (l : K.lookup d = some ⟨.type "dict", none, .dict es.toArray ep, #[]⟩) (low : (d == sysModules) = false)
    (hk : ∀ e ∈ es, ∃ k : Key, keyIs k e.key = true ∧ e.hash = keyH w k) (hp : ∀ P : Program, Pairs (mixKind P w) es kvs) (nd : (kvs.map (·.1)).Nodup) : KDict w K d kvs :=
  ⟨low, fun P h X => ⟨_, es.toArray, ep, X _ _ l, ⟨rfl, rfl, rfl⟩, rfl, fun e he => hk e (by simpa using he), by simpa using hp P, nd⟩⟩
section
variable {X : Cx}
theorem op_knotin : OpR X (compareOp .NotIn) (fun x y H Q => ∃ (k : Str) (d : Addr) (kvs : List (Key × Value)), x = .str k ∧ y = .ref d ∧ KDict X.w X.K d kvs ∧ Q (.bl (!(valueAt kvs (Sum.inr k)).isSome)) H) := by
  intro pins s σ H x y v u Q I rx ry h
  obtain ⟨k, d, kvs, rfl, rfl, kd, q⟩ := h
  cases (show u = Value.ref d from ry)
  obtain ⟨t, rfl⟩ := rx
  exact wpAny_notIn_of (knd := mixKind X.prog X.w) (k := Sum.inr k) (mixKind_str _ _ k t) kd.low (kd.at_ X.prog _ I.kIn).mapOf ⟨.bl _, H, I.tok _, rfl, q⟩
theorem ix_kdict : IxR X (fun x y H Q => ∃ (k : Str) (d : Addr) (kvs : List (Key × Value)) (v : V) (u : Value), x = .ref d ∧ y = .str k ∧ KDict X.w X.K d kvs ∧ valueAt kvs (Sum.inr k) = some u ∧ RelV v u ∧ Q v H) := by
  intro value slice pins s σ H x y v u Q I rx ry h hs
  obtain ⟨k, d, kvs, z, uz, rfl, rfl, kd, hv, rz, q⟩ := h
  cases (show v = Value.ref d from rx)
  obtain ⟨t, rfl⟩ := ry
  have dd := kd.at_ X.prog _ I.kIn
  exact subscriptTail_builtinR (x := uz) dd.mapOf.typeIs PySem.F.slot_dict_getitem.lookup
    (wpAny_getItem_of (Q := fun r s' => r = uz ∧ EP X pins σ Q r s') (knd := mixKind X.prog X.w) (k := Sum.inr k) (mixKind_str _ _ k t) dd.mapOf hv ⟨rfl, z, H, I.tok _, rz, q⟩) hs
end
end L2
namespace HT
open PySem PySem.Spec PyProof.Rows
section
variable {prog : Program} {w : World} {A : Around} {E : Value → Shared → Prop} {s : Shared}
end
end HT
namespace L2
open PySem PySem.Spec PyProof.Rows
section
variable {X : Cx}
end
end L2
namespace L2
open PySem
end L2
namespace L2
open PySem PySem.Spec PyProof.Rows
section
variable {X : Cx}
variable {o e : Expr} {es : List Expr} {to : TE} {t : TA} {name : Str} {apos cpos : Pos} {T id : String} {r : V → List V → Hp → VK → Prop}
end
section
variable {X : Cx} {e : Expr} {f : Str} {pos : Pos} {ta : TE}
end
theorem pgc5 (i0 i1 i2 i3 i4 : Nat) {X : Cx} {scope : Scope} {cl : List (Str × Addr)} {C : Addr} {s₀ : Shared} {H₀ : Hp} {fp : List Addr} {x0 x1 x2 x3 x4 : Str} {p0 p1 p2 p3 p4 pos : Pos} {k : Nat} (hN : (scope.names.map (·.1)).Nodup := by decide +kernel)
    (h0 : (scope.names.map (·.1))[i0]? = some x0 := by rfl) (l0 : (relabel scope X.env).names.lookup x0 = some .local := by rfl)
    (h1 : (scope.names.map (·.1))[i1]? = some x1 := by rfl) (l1 : (relabel scope X.env).names.lookup x1 = some .local := by rfl)
    (h2 : (scope.names.map (·.1))[i2]? = some x2 := by rfl) (l2 : (relabel scope X.env).names.lookup x2 = some .local := by rfl)
    (h3 : (scope.names.map (·.1))[i3]? = some x3 := by rfl) (l3 : (relabel scope X.env).names.lookup x3 = some .local := by rfl)
    (h4 : (scope.names.map (·.1))[i4]? = some x4 := by rfl) (l4 : (relabel scope X.env).names.lookup x4 = some .local := by rfl)
    (hc : X.calm = true := by rfl) : PG (X.cmp scope cl C s₀ H₀ fp) (.Tuple [.Name x0 p0, .Name x1 p1, .Name x2 p2, .Name x3 p3, .Name x4 p4] k pos) (gTup X.K 5 (gCons (gName i0) (gCons (gName i1) (gCons (gName i2) (gCons (gName i3) (gCons (gName i4) gNil)))))) :=
  pg_tup (X := X.cmp scope cl C s₀ H₀ fp) (n := 5) hc (pgs_cons (pg_name (cmp_nd hN) h0 (.inl l0) (.inr l0)) (pgs_cons (pg_name (cmp_nd hN) h1 (.inl l1) (.inr l1)) (pgs_cons (pg_name (cmp_nd hN) h2 (.inl l2) (.inr l2)) (pgs_cons (pg_name (cmp_nd hN) h3 (.inl l3) (.inr l3)) (pgs_cons (pg_name (cmp_nd hN) h4 (.inl l4) (.inr l4)) pgs_nil)))))
section
variable {X : Cx}
theorem sl_listK (K : PySem.W.Frag) (h : X.K = K) : SlR X (rSlL K) := by subst h; exact sl_list
end
theorem for_rangeO {lo : Int} {n : Nat} {g : TG} {tb : TS} {D : Ends} {σ : St} {H : Hp} (Pv : Nat → St → Hp → Prop) (h0 : Pv 0 σ H)
    (hs : ∀ (N : St → Hp → Prop) (R : VK) (B : St → Hp → Prop) (i : Nat) (σ : St) (H : Hp), i < n → Pv i σ H → (∀ σ' H', Pv (i + 1) σ' H' → N σ' H') → (∀ v H', D.rt v H' → R v H') → g (.int (lo + i)) σ H fun σ2 H2 => tb ⟨N, R, B, N⟩ σ2 H2) (hd : ∀ σ H, Pv n σ H → D.nx σ H) :
    ∃ W : Nat → Nat → St → Hp → Prop, (∃ m, W 0 m σ H) ∧ ∀ i m σ H, W i m σ H →
      ((Itr lo n).stop i H ∧ D.nx σ H) ∨ ((Itr lo n).go i H ∧ ∃ N : St → Hp → Prop, (∀ σ' H', N σ' H' → ∃ m', m' < m ∧ W (i + 1) m' σ' H') ∧ ∀ x H', (Itr lo n).yld i H x H' → g x σ H' fun σ2 H2 => tb { D with nx := N, ct := N, bk := D.nx } σ2 H2) :=
  for_range Pv h0 (fun i σ H hi p => hs (Pv (i + 1)) D.rt D.nx i σ H hi p (fun _ _ x => x) fun _ _ x => x) hd
theorem for_listO {K : PySem.W.Frag} {a : Addr} {xs : List V} {g : TG} {tb : TS} {D : Ends} {σ : St} {H : Hp} (Pv : Nat → St → Hp → Prop) (h0 : Pv 0 σ H) (hl : ∀ i σ H, i ≤ xs.length → Pv i σ H → SqL K H a xs)
    (hs : ∀ (N : St → Hp → Prop) (R : VK) (B : St → Hp → Prop) (i : Nat) (x : V) (σ : St) (H : Hp), xs[i]? = some x → Pv i σ H → (∀ σ' H', Pv (i + 1) σ' H' → N σ' H') → (∀ v H', D.rt v H' → R v H') → g x σ H fun σ2 H2 => tb ⟨N, R, B, N⟩ σ2 H2) (hd : ∀ σ H, Pv xs.length σ H → D.nx σ H) :
    ∃ W : Nat → Nat → St → Hp → Prop, (∃ m, W 0 m σ H) ∧ ∀ i m σ H, W i m σ H →
      ((Itl K a).stop i H ∧ D.nx σ H) ∨ ((Itl K a).go i H ∧ ∃ N : St → Hp → Prop, (∀ σ' H', N σ' H' → ∃ m', m' < m ∧ W (i + 1) m' σ' H') ∧ ∀ x H', (Itl K a).yld i H x H' → g x σ H' fun σ2 H2 => tb { D with nx := N, ct := N, bk := D.nx } σ2 H2) :=
  for_list Pv h0 hl (fun i x σ H hx p => hs (Pv (i + 1)) D.rt D.nx i x σ H hx p (fun _ _ x => x) fun _ _ x => x) hd
end L2
namespace L2
open PySem PySem.Spec PyProof.Rows
section
variable {X : Cx} {pins : List (Addr × Obj)} {σ : St} {H : Hp} {s : Shared} {h' : Heap}
theorem Inv.turnedL {t' : Nat} (its : List Addr) (I : Inv X pins σ H s) (k : ∀ b o, b ∉ its → s.heap.get? b = some o → h'.get? b = some o) (hf : ∀ b ∈ its, FpOk X pins H b) : Inv X pins σ H { s with heap := h', toks := t' } := by
  have nit : ∀ b u, H b = some u → b ∉ its := fun b u e z => by have := (hf b z).1; rw [this] at e; cases e
  refine I.step (g' := s.gens) (d' := s.drawn) (ch := its) (fun b hb => ?_) (fun b o _ _ hc e _ => k b o hc e) (fun b o _ _ hc e _ => ⟨o.slots, k b o hc e⟩) (fun _ _ _ _ n => n)
    (fun b o hc e => ⟨o, k b o hc e⟩) (fun _ _ e => e) (fun _ _ _ e => e) (fun b ps e => ⟨#[], by rw [e]; simp⟩) (fun m hm => ?_) (fun b u e => ?_) I.bare
  · obtain ⟨_, f1, _, f3, f4, f5⟩ := hf b hb
    exact ⟨f3, f1, f4, f5⟩
  · obtain ⟨o, es, ep, ho, r⟩ := hm
    exact ⟨o, es, ep, k _ o (fun z => (hf _ z).2.1 rfl) ho, r⟩
  · refine (I.hok b u e).stay (fun c v hc q => k c v ?_ q) (fun _ q => q) fun _ _ q => q
    rcases hc with z | z
    · rw [z]; exact nit b u e
    · exact nit c _ z
theorem FpOk.upd {a b : Addr} {o : HO} (f : FpOk X pins H b) (n : b ≠ a) : FpOk X pins (upd H a o) b := by
  obtain ⟨f0, r⟩ := f
  exact ⟨by rw [upd_ne n]; exact f0, r⟩
theorem Inv.pairT {t' : Nat} {x y : V} {u v : Value} (its : List Addr) (I : Inv X pins σ H s) (hf : ∀ b ∈ its, FpOk X pins H b) (hlt : ∀ b ∈ its, b < s.heap.objs.size) (ru : RelV x u) (rv : RelV y v)
    (hp : h'.get? s.heap.objs.size = some { cls := .type "tuple", data := .seq #[u, v] }) (k : ∀ b o, b ∉ its → s.heap.get? b = some o → h'.get? b = some o) :
    Inv X pins σ (upd H s.heap.objs.size (.tup [x, y])) { s with heap := h', toks := t' } := by
  have I1 : Inv X pins σ (upd H s.heap.objs.size (.tup [x, y])) { s with heap := s.heap.push { cls := .type "tuple", data := .seq #[u, v] }, toks := t' } :=
    I.laid (fun b o e => Heap.get?_push_of_some _ e) (Nat.le_refl _) ⟨by show 2 ≤ sizeLine; decide, [u, v], .cons ru (.cons rv .nil), ⟨_, Heap.get?_push_size _ rfl, rfl, _, rfl⟩⟩
  refine Inv.turnedL (s := { s with heap := s.heap.push { cls := .type "tuple", data := .seq #[u, v] }, toks := t' }) its I1 (fun b o hb e => ?_) fun b hb => (hf b hb).upd (Nat.ne_of_lt (hlt b hb))
  rcases Heap.get?_push_cases e with ⟨rfl, rfl⟩ | e
  · exact hp
  · exact k b o hb e
end
def Itz (K : PySem.W.Frag) (a b : Addr) : It :=
  ⟨fun i H => ∃ xs ys x y, SqL K H a xs ∧ SqL K H b ys ∧ xs[i]? = some x ∧ ys[i]? = some y,
   fun i H x H' => ∃ T u v, x = .ref T ∧ H T = none ∧ H' = upd H T (.tup [u, v]) ∧ ∀ xs ys, SqL K H a xs → SqL K H b ys → xs[i]? = some u ∧ ys[i]? = some v,
   fun i H => ∃ xs ys, SqL K H a xs ∧ SqL K H b ys ∧ (xs.length ≤ i ∨ ys.length ≤ i)⟩
def Ite (K : PySem.W.Frag) (a : Addr) : It :=
  ⟨fun i H => ∃ xs x, SqL K H a xs ∧ xs[i]? = some x,
   fun i H x H' => ∃ T v, x = .ref T ∧ H T = none ∧ H' = upd H T (.tup [.int (i : Nat), v]) ∧ ∀ xs, SqL K H a xs → xs[i]? = some v,
   fun i H => ∃ xs, SqL K H a xs ∧ xs.length ≤ i⟩
theorem pins_lt {h : Heap} {b : Addr} {o : Obj} (e : h.get? b = some o) : b < h.objs.size := Heap.lt_size e
theorem turn_zip {P : Program} {w : World} {K : PySem.W.Frag} {es : List Expr} {kk : Nat} {tp : Pos} (z TI TO i1 i2 l1 l2 : Addr) (D : ZipApart z TI TO i1 i2 l1 l2) :
    Turn P w K (.Tuple es kk tp) (Itz K l1 l2) [z, TI, TO, i1, i2] z (fun i h => IsZip h z TI TO .none ∧ IsPair h TI (.ref i1) (.ref i2) ∧ (∃ a b, IsPair h TO a b) ∧ h.IsListIter i1 l1 i ∧ h.IsListIter i2 l2 i) where
  mem := by simp
  obj := fun i h st b hb => by
    obtain ⟨hz, hTI, ⟨p, q, hTO⟩, ⟨o1, e1, c1, d1⟩, ⟨o2, e2, c2, d2⟩⟩ := st
    simp only [List.mem_cons, List.not_mem_nil, or_false] at hb
    rcases hb with rfl | rfl | rfl | rfl | rfl
    · exact ⟨_, hz, fun v z => by cases z⟩
    · exact ⟨_, hTI, fun v z => by cases z⟩
    · exact ⟨_, hTO, fun v z => by cases z⟩
    · exact ⟨_, e1, fun v z => by rw [d1] at z; cases z⟩
    · exact ⟨_, e2, fun v z => by rw [d2] at z; cases z⟩
  keep := fun i h h' st k => by
    obtain ⟨hz, hTI, ⟨p, q, hTO⟩, h1, h2⟩ := st
    exact ⟨k z (by simp) _ hz, k TI (by simp) _ hTI, ⟨p, q, k TO (by simp) _ hTO⟩, h1.at fun o e => k i1 (by simp) o e, h2.at fun o e => k i2 (by simp) o e⟩
  item := by
    intro X hP hw hK hc i pins s σ H E I hf st hg
    subst hP hw hK
    obtain ⟨xs, ys, x, y, hq1, hq2, hx, hy⟩ := hg
    obtain ⟨ws, rw1, p1, z1⟩ := I.list hq1
    obtain ⟨vs, rw2, p2, z2⟩ := I.list hq2
    obtain ⟨u, hu, ru⟩ := rw1.get hx
    obtain ⟨v, hv, rv⟩ := rw2.get hy
    obtain ⟨hz, hTI, ⟨p, q, hTO⟩, h1, h2⟩ := st
    have lz := pins_lt hz
    have lTO := pins_lt hTO
    have l1' : i1 < s.heap.objs.size := by obtain ⟨o, e, _⟩ := h1; exact pins_lt e
    have l2' : i2 < s.heap.objs.size := by obtain ⟨o, e, _⟩ := h2; exact pins_lt e
    refine wpAny_pyNext_zip_item D hz hTI hTO h1 h2 p1.isList p2.isList (x := u) (y := v) (by simpa using hu) (by simpa using hv) fun h' a1 a2 a3 a4 a5 a6 a7 => ⟨_, rfl, wpAny_letOwnedTupleGo_zip a1 fun h2' b1 b2 => ?_⟩
    have I2 : Inv X pins σ (upd H s.heap.objs.size (.tup [x, y])) { s with heap := h2', toks := s.toks } := by
      refine I.pairT [z, TO, i1, i2] (fun b hb => hf b ?_) (fun b hb => ?_) ru rv ?_ fun b o hb e => ?_
      · simp only [List.mem_cons, List.not_mem_nil, or_false] at hb ⊢
        rcases hb with rfl | rfl | rfl | rfl <;> simp
      · simp only [List.mem_cons, List.not_mem_nil, or_false] at hb
        rcases hb with rfl | rfl | rfl | rfl <;> assumption
      · exact b2.extBut _ _ (Nat.ne_of_gt lz) a5
      · simp only [List.mem_cons, List.not_mem_nil, or_false, not_or] at hb
        exact b2.extBut _ _ hb.1 (a7 b o hb.1 hb.2.1 hb.2.2.1 hb.2.2.2 e)
    refine ⟨.ref s.heap.objs.size, _, I2, rfl, ⟨_, x, y, rfl, I.hok.fresh (Nat.le_refl _), rfl, fun xs' ys' g1 g2 => ?_⟩, ⟨b1, ?_, ⟨_, _, b2.extBut _ _ D.TOz a2⟩, a3.extBut b2.extBut D.i1z, a4.extBut b2.extBut D.i2z⟩, fun b hb => ?_⟩
    · rw [I.list_inj g1 hq1, I.list_inj g2 hq2]; exact ⟨hx, hy⟩
    · exact b2.extBut _ _ D.TIz (a7 TI _ D.TIz D.TITO D.TIi1 D.TIi2 hTI)
    · have hlt : b < s.heap.objs.size := by
        simp only [List.mem_cons, List.not_mem_nil, or_false] at hb
        rcases hb with rfl | rfl | rfl | rfl | rfl
        · exact lz
        · exact pins_lt hTI
        · exact lTO
        · exact l1'
        · exact l2'
      rw [upd_ne (Nat.ne_of_lt hlt)]; exact (hf b hb).1
  done := by
    intro X hP hw hK hc i pins s σ H E I hf st hg
    subst hP hw hK
    obtain ⟨xs, ys, hq1, hq2, hx⟩ := hg
    obtain ⟨ws, rw1, p1, z1⟩ := I.list hq1
    obtain ⟨vs, rw2, p2, z2⟩ := I.list hq2
    have e1 := rw1.length
    have e2 := rw2.length
    obtain ⟨hz, hTI, ⟨p, q, hTO⟩, h1, h2⟩ := st
    refine wpAny_pyNext_zip_end (I.ok.hd hc) D hz hTI hTO h1 h2 p1.isList p2.isList ?_ fun h' k => ⟨rfl, I.turnedL (t' := s.toks) [z, TO, i1, i2] (fun b o hb e => ?_) fun b hb => hf b ?_⟩
    · rcases hx with hx | hx
      · exact .inl (by simp; omega)
      · exact .inr (by simp; omega)
    · simp only [List.mem_cons, List.not_mem_nil, or_false, not_or] at hb
      exact k b o hb.1 hb.2.1 hb.2.2.1 hb.2.2.2 e
    · simp only [List.mem_cons, List.not_mem_nil, or_false] at hb ⊢
      rcases hb with rfl | rfl | rfl | rfl <;> simp
  self := fun _ _ _ _ _ st h => wpAny_pyIter_zip st.1 h
theorem turn_enum {P : Program} {w : World} {K : PySem.W.Frag} {es : List Expr} {kk : Nat} {tp : Pos} (e it l : Addr) (hne : e ≠ it) :
    Turn P w K (.Tuple es kk tp) (Ite K l) [e, it] e (fun i h => (∃ old, IsEnum h e it (i : Nat) old) ∧ h.IsListIter it l i) where
  mem := by simp
  obj := fun i h st b hb => by
    obtain ⟨⟨old, he⟩, ⟨o1, e1, c1, d1⟩⟩ := st
    simp only [List.mem_cons, List.not_mem_nil, or_false] at hb
    rcases hb with rfl | rfl
    · exact ⟨_, he, fun v z => by cases z⟩
    · exact ⟨_, e1, fun v z => by rw [d1] at z; cases z⟩
  keep := fun i h h' st k => by
    obtain ⟨⟨old, he⟩, h1⟩ := st
    exact ⟨⟨old, k e (by simp) _ he⟩, h1.at fun o e => k it (by simp) o e⟩
  item := by
    intro X hP hw hK hc i pins s σ H E I hf st hg
    subst hP hw hK
    obtain ⟨xs, x, hq1, hx⟩ := hg
    obtain ⟨ws, rw1, p1, z1⟩ := I.list hq1
    obtain ⟨u, hu, ru⟩ := rw1.get hx
    obtain ⟨⟨old, he⟩, h1⟩ := st
    have lz := pins_lt he
    have l1' : it < s.heap.objs.size := by obtain ⟨o, e, _⟩ := h1; exact pins_lt e
    refine wpAny_pyNext_enum_item he h1 p1.isList (x := u) (by simpa using hu) hne fun h' a1 a3 a5 a6 a7 => ⟨_, rfl, wpAny_letOwnedTupleGo_enum a1 fun h2' b1 b2 => ?_⟩
    have I2 : Inv X pins σ (upd H s.heap.objs.size (.tup [.int (i : Nat), x])) { s with heap := h2', toks := s.toks + 1 } := by
      refine I.pairT (u := .int (i : Nat) s.toks) [e, it] (fun b hb => hf b hb) (fun b hb => ?_) ⟨_, rfl⟩ ru ?_ fun b o hb e => ?_
      · simp only [List.mem_cons, List.not_mem_nil, or_false] at hb
        rcases hb with rfl | rfl <;> assumption
      · exact b2.extBut _ _ (Nat.ne_of_gt lz) a5
      · simp only [List.mem_cons, List.not_mem_nil, or_false, not_or] at hb
        exact b2.extBut _ _ hb.1 (a7 b o hb.1 hb.2 e)
    refine ⟨.ref s.heap.objs.size, _, I2, rfl, ⟨_, x, rfl, I.hok.fresh (Nat.le_refl _), rfl, fun xs' g1 => ?_⟩, ⟨⟨_, b1⟩, a3.extBut b2.extBut hne.symm⟩, fun b hb => ?_⟩
    · rw [I.list_inj g1 hq1]; exact hx
    · have hlt : b < s.heap.objs.size := by
        simp only [List.mem_cons, List.not_mem_nil, or_false] at hb
        rcases hb with rfl | rfl
        · exact lz
        · exact l1'
      rw [upd_ne (Nat.ne_of_lt hlt)]; exact (hf b hb).1
  done := by
    intro X hP hw hK hc i pins s σ H E I hf st hg
    subst hP hw hK
    obtain ⟨xs, hq1, hx⟩ := hg
    obtain ⟨ws, rw1, p1, z1⟩ := I.list hq1
    have e1 := rw1.length
    obtain ⟨⟨old, he⟩, h1⟩ := st
    refine wpAny_pyNext_enum_end (I.ok.hd hc) he h1 p1.isList (by simp; omega) fun h' k => ⟨rfl, I.turnedL (t' := s.toks) [it] (fun b o hb e => ?_) fun b hb => hf b ?_⟩
    · simp only [List.mem_cons, List.not_mem_nil, or_false] at hb
      exact k b o hb e
    · simp only [List.mem_cons, List.not_mem_nil, or_false] at hb ⊢
      exact .inr hb
  self := fun _ _ _ _ _ st h => by obtain ⟨⟨old, he⟩, _⟩ := st; exact wpAny_pyIter_enum he h
section
variable {X : Cx} {es : List Expr} {kk : Nat} {tp : Pos}
def iZip (K : PySem.W.Frag) (ta : TA) : TI := fun σ H R => ta σ H fun vs H1 => ∃ a b xs ys, vs = [.ref a, .ref b] ∧ SqL K H1 a xs ∧ SqL K H1 b ys ∧ R (Itz K a b) H1
def iEnum (K : PySem.W.Frag) (ta : TA) : TI := fun σ H R => ta σ H fun vs H1 => ∃ a xs, vs = [.ref a] ∧ SqL K H1 a xs ∧ R (Ite K a) H1
theorem pi_zip {a b : Expr} {ta : TA} {p pos : Pos} (hg : Gl X "zip") (hm : X.mg "zip" = none) (ha : PA X [a, b] ta) (hs : starEach [a, b] X.env = [(false, eval a X.env), (false, eval b X.env)] := by rfl) (hs2 : starEach [b] X.env = [(false, eval b X.env)] := by rfl) :
    PI X (.Tuple es kk tp) (.Call (.Name "zip" p) [a, b] [] pos) (iZip X.K ta) := by
  intro pins s σ H R I h
  refine Call_ (ld_blt I hg hm boot_zip (PyProof.Rows.callWith_type1 (thn (ha pos pins s σ H _ I h) fun us s1 ⟨vs, H1, I1, r1, q1⟩ => ?_) (by rw [hs, hs2]) (by rw [hs2]; rfl)))
  obtain ⟨l1, l2, xs, ys, e, q1, q2, q⟩ := q1
  subst e
  cases r1 with
  | cons r rr =>
    cases rr with
    | cons r' rr =>
      cases rr
      cases r
      cases r'
      obtain ⟨ws, rw1, p1, z1⟩ := I1.list q1
      obtain ⟨vs, rw2, p2, z2⟩ := I1.list q2
      have lt1 : l1 < s1.heap.objs.size := by obtain ⟨o, e, _⟩ := p1.isList; exact pins_lt e
      have lt2 : l2 < s1.heap.objs.size := by obtain ⟨o, e, _⟩ := p2.isList; exact pins_lt e
      refine call_zip_2 p1.isList p2.isList fun h' a1 a2 a3 a4 a5 a6 a7 => ?_
      refine wpAny_pyIter_zip a1 ⟨_, [s1.heap.objs.size + 4, s1.heap.objs.size + 2, s1.heap.objs.size + 3, s1.heap.objs.size, s1.heap.objs.size + 1], _, _, H1, rfl, I1.kept (t' := s1.toks) a7, turn_zip _ _ _ _ _ _ _ (zipApart_new lt1 lt2), ⟨a1, a2, ⟨_, _, a3⟩, a4, a5⟩, fun b hb => ?_, q⟩
      have hb' : s1.heap.objs.size ≤ b := by
        simp only [List.mem_cons, List.not_mem_nil, or_false] at hb
        rcases hb with rfl | rfl | rfl | rfl | rfl <;> first | exact Nat.le_refl _ | exact Nat.le_add_right _ _
      exact I1.fpOk hb' (I1.hok.fresh hb')
theorem pi_enum {a : Expr} {ta : TA} {p pos : Pos} (hg : Gl X "enumerate") (hm : X.mg "enumerate" = none) (ha : PA X [a] ta) (hs : starEach [a] X.env = [(false, eval a X.env)] := by rfl) :
    PI X (.Tuple es kk tp) (.Call (.Name "enumerate" p) [a] [] pos) (iEnum X.K ta) := by
  intro pins s σ H R I h
  refine Call_ (ld_blt I hg hm boot_enumerate (PyProof.Rows.callWith_type1 (thn (ha pos pins s σ H _ I h) fun us s1 ⟨vs, H1, I1, r1, q1⟩ => ?_) hs rfl))
  obtain ⟨l, xs, e, q1, q⟩ := q1
  subst e
  cases r1 with
  | cons r rr =>
    cases rr
    cases r
    obtain ⟨ws, rw1, p1, z1⟩ := I1.list q1
    refine call_enumerate_list p1.isList fun h' a1 a4 a6 a7 => ?_
    refine wpAny_pyIter_enum a1 ⟨_, [s1.heap.objs.size + 1, s1.heap.objs.size], _, _, H1, rfl, I1.kept (t' := s1.toks) a7, turn_enum _ _ _ (Nat.ne_of_gt (Nat.lt_succ_self _)), ⟨⟨_, a1⟩, a4⟩, fun b hb => ?_, q⟩
    have hb' : s1.heap.objs.size ≤ b := by
      simp only [List.mem_cons, List.not_mem_nil, or_false] at hb
      rcases hb with rfl | rfl <;> first | exact Nat.le_refl _ | exact Nat.le_add_right _ _
    exact I1.fpOk hb' (I1.hok.fresh hb')
end
theorem for_zip {K : PySem.W.Frag} {a b : Addr} {xs ys : List V} {g : TG} {tb : TS} {D : Ends} {σ : St} {H : Hp} (Pv : Nat → St → Hp → Prop) (hxy : ys.length = xs.length) (h0 : Pv 0 σ H) (hl : ∀ i σ H, i ≤ xs.length → Pv i σ H → SqL K H a xs ∧ SqL K H b ys)
    (hs : ∀ i x y T σ H, xs[i]? = some x → ys[i]? = some y → Pv i σ H → H T = none → g (.ref T) σ (upd H T (.tup [x, y])) fun σ2 H2 => tb { D with nx := Pv (i + 1), ct := Pv (i + 1), bk := D.nx } σ2 H2) (hd : ∀ σ H, Pv xs.length σ H → D.nx σ H) :
    ∃ W : Nat → Nat → St → Hp → Prop, (∃ m, W 0 m σ H) ∧ ∀ i m σ H, W i m σ H →
      ((Itz K a b).stop i H ∧ D.nx σ H) ∨ ((Itz K a b).go i H ∧ ∃ N : St → Hp → Prop, (∀ σ' H', N σ' H' → ∃ m', m' < m ∧ W (i + 1) m' σ' H') ∧ ∀ x H', (Itz K a b).yld i H x H' → g x σ H' fun σ2 H2 => tb { D with nx := N, ct := N, bk := D.nx } σ2 H2) := by
  refine ⟨fun i m σ H => m = xs.length - i ∧ i ≤ xs.length ∧ Pv i σ H, ⟨xs.length, by simp, Nat.zero_le _, h0⟩, ?_⟩
  rintro i m σ H ⟨rfl, hi, p⟩
  obtain ⟨q1, q2⟩ := hl i σ H hi p
  by_cases hlt : i < xs.length
  · refine .inr ⟨⟨xs, ys, xs[i], ys[i]'(by omega), q1, q2, by simp [hlt], by simp [show i < ys.length by omega]⟩, Pv (i + 1), fun σ' H' p' => ⟨xs.length - (i + 1), by omega, rfl, hlt, p'⟩, fun x H' y => ?_⟩
    obtain ⟨T, u, v, rfl, hT, rfl, y⟩ := y
    obtain ⟨y1, y2⟩ := y xs ys q1 q2
    exact hs i u v T σ _ y1 y2 p hT
  · have e : i = xs.length := by omega
    subst e
    exact .inl ⟨⟨xs, ys, q1, q2, .inl (Nat.le_refl _)⟩, hd σ H p⟩
theorem for_enum {K : PySem.W.Frag} {a : Addr} {xs : List V} {g : TG} {tb : TS} {D : Ends} {σ : St} {H : Hp} (Pv : Nat → St → Hp → Prop) (h0 : Pv 0 σ H) (hl : ∀ i σ H, i ≤ xs.length → Pv i σ H → SqL K H a xs)
    (hs : ∀ i x T σ H, xs[i]? = some x → Pv i σ H → H T = none → g (.ref T) σ (upd H T (.tup [.int (i : Nat), x])) fun σ2 H2 => tb { D with nx := Pv (i + 1), ct := Pv (i + 1), bk := D.nx } σ2 H2) (hd : ∀ σ H, Pv xs.length σ H → D.nx σ H) :
    ∃ W : Nat → Nat → St → Hp → Prop, (∃ m, W 0 m σ H) ∧ ∀ i m σ H, W i m σ H →
      ((Ite K a).stop i H ∧ D.nx σ H) ∨ ((Ite K a).go i H ∧ ∃ N : St → Hp → Prop, (∀ σ' H', N σ' H' → ∃ m', m' < m ∧ W (i + 1) m' σ' H') ∧ ∀ x H', (Ite K a).yld i H x H' → g x σ H' fun σ2 H2 => tb { D with nx := N, ct := N, bk := D.nx } σ2 H2) := by
  refine ⟨fun i m σ H => m = xs.length - i ∧ i ≤ xs.length ∧ Pv i σ H, ⟨xs.length, by simp, Nat.zero_le _, h0⟩, ?_⟩
  rintro i m σ H ⟨rfl, hi, p⟩
  have q := hl i σ H hi p
  by_cases hlt : i < xs.length
  · refine .inr ⟨⟨xs, xs[i], q, by simp [hlt]⟩, Pv (i + 1), fun σ' H' p' => ⟨xs.length - (i + 1), by omega, rfl, hlt, p'⟩, fun x H' y => ?_⟩
    obtain ⟨T, v, rfl, hT, rfl, y⟩ := y
    exact hs i v T σ _ (y xs q) p hT
  · have e : i = xs.length := by omega
    subst e
    exact .inl ⟨⟨xs, q, Nat.le_refl _⟩, hd σ H p⟩
def ItG (J : It) (H1 : Hp) (n : Nat) (Y : Nat → V → Hp → Prop) : Prop := ∀ H2, Same H1 H2 → ∀ i, (i < n → J.go i H2 ∧ ∀ x H3, J.yld i H2 x H3 → Same H2 H3 ∧ Y i x H3) ∧ (i = n → J.stop i H2)
theorem itG_of {J : It} {H1 : Hp} {xs : List V} (h : ItOf J H1 xs) : ItG J H1 xs.length (fun i x _ => xs[i]? = some x) := fun H2 s i =>
  ⟨fun hi => ⟨((h H2 s i).1 hi).1, fun x H3 y => by obtain ⟨rfl, e⟩ := ((h H2 s i).1 hi).2 x H3 y; exact ⟨fun _ _ q => q, e⟩⟩, (h H2 s i).2⟩
theorem itG_zip {K : PySem.W.Frag} {H : Hp} {a b : Addr} {xs ys : List V} (h1 : SqL K H a xs) (h2 : SqL K H b ys) (hxy : ys.length = xs.length) :
    ItG (Itz K a b) H xs.length (fun i x H' => ∃ T u v, x = .ref T ∧ H' T = some (.tup [u, v]) ∧ xs[i]? = some u ∧ ys[i]? = some v) := fun H2 s i =>
  ⟨fun hi => ⟨⟨xs, ys, xs[i], ys[i]'(by omega), s.seq h1, s.seq h2, by simp [hi], by simp [show i < ys.length by omega]⟩, fun x H3 y => by
    obtain ⟨T, u, v, rfl, hT, rfl, y⟩ := y
    obtain ⟨y1, y2⟩ := y xs ys (s.seq h1) (s.seq h2)
    exact ⟨same_upd hT, T, u, v, rfl, upd_same, y1, y2⟩⟩, fun e => ⟨xs, ys, s.seq h1, s.seq h2, .inl (by omega)⟩⟩
theorem itG_enum {K : PySem.W.Frag} {H : Hp} {a : Addr} {xs : List V} (h1 : SqL K H a xs) :
    ItG (Ite K a) H xs.length (fun i x H' => ∃ T v, x = .ref T ∧ H' T = some (.tup [.int (i : Nat), v]) ∧ xs[i]? = some v) := fun H2 s i =>
  ⟨fun hi => ⟨⟨xs, xs[i], s.seq h1, by simp [hi]⟩, fun x H3 y => by
    obtain ⟨T, v, rfl, hT, rfl, y⟩ := y
    exact ⟨same_upd hT, T, v, rfl, upd_same, y xs (s.seq h1)⟩⟩, fun e => ⟨xs, s.seq h1, by omega⟩⟩
theorem lc_fG {J : It} {H1 : Hp} {n : Nat} {Y : Nat → V → Hp → Prop} {g : TG} {tc : TT} {te : TE} {σ0 : L2.St} {Q : Addr → Hp → Prop} (f : Nat → Option V) (hJ : ItG J H1 n Y) (S : L2.St → Prop) (h0 : S σ0) (hz : n ≤ sizeLine)
    (hs : ∀ (i : Nat) (x : V) (σ2 : L2.St) (H2 : Hp) (Qt : L2.St → V → Hp → Prop) (Qf : L2.St → Hp → Prop), i < n → Y i x H2 → Same H1 H2 → S σ2 → (∀ w σ4 H6, f i = some w → S σ4 → Same H2 H6 → Qt σ4 w H6) → (∀ σ4 H5, f i = none → S σ4 → Same H2 H5 → Qf σ4 H5) →
      g x σ2 H2 fun σ4 H4 => tc σ4 H4 fun b H5 => if b = true then te σ4 H5 fun v H6 => Qt σ4 v H6 else Qf σ4 H5)
    (hQ : ∀ D H2, H1 D = none → Same H1 H2 → H2 D = some (.lst ((List.range n).filterMap f)) → Q D H2) :
    ∀ D, H1 D = none → ∃ W : Nat → Nat → L2.St → Hp → Prop, (∃ m, W 0 m σ0 (upd H1 D (.lst []))) ∧ ∀ i m σ2 H2, W i m σ2 H2 →
      (J.stop i H2 ∧ Q D H2) ∨ (J.go i H2 ∧ ∀ x H3, J.yld i H2 x H3 → g x σ2 H3 fun σ4 H4 => tc σ4 H4 fun b H5 =>
        if b = true then te σ4 H5 fun v H6 => ∃ ys m', H6 D = some (.lst ys) ∧ ys.length < sizeLine ∧ m' < m ∧ W (i + 1) m' σ4 (upd H6 D (.lst (ys ++ [v]))) else ∃ m', m' < m ∧ W (i + 1) m' σ4 H5) := by
  intro D hD
  have fm : ∀ i, (List.range (i + 1)).filterMap f = (List.range i).filterMap f ++ (f i).toList := fun i => by
    rw [List.range_succ, List.filterMap_append]; cases h : f i <;> simp [h]
  have fl : ∀ i, ((List.range i).filterMap f).length ≤ i := fun i => by
    have := List.length_filterMap_le f (List.range i); rw [List.length_range] at this; exact this
  refine ⟨fun i m σ2 H2 => i ≤ n ∧ m = n - i ∧ S σ2 ∧ Same H1 H2 ∧ H2 D = some (.lst ((List.range i).filterMap f)), ⟨n, Nat.zero_le _, by omega, h0, same_upd hD, upd_same⟩, ?_⟩
  rintro i m σ2 H2 ⟨hi, rfl, hS, sm, hys⟩
  obtain ⟨j1, j2⟩ := hJ _ sm i
  by_cases hlt : i < n
  · obtain ⟨go, yl⟩ := j1 hlt
    refine .inr ⟨go, fun x H3 y => ?_⟩
    obtain ⟨s3, hY⟩ := yl x H3 y
    refine hs i x σ2 _ _ _ hlt hY (sm.trans s3) hS (fun w σ4 H6 e h4 s6 => ?_) fun σ4 H5 e h4 s5 => ?_
    · have h6 := s6 _ _ (s3 _ _ hys)
      have l6 := fl i
      refine ⟨_, n - (i + 1), h6, by omega, by omega, hlt, rfl, h4, fun b o e => ?_, ?_⟩
      · rw [upd_ne (ne_of_none e hD)]; exact s6 _ _ (s3 _ _ (sm _ _ e))
      · rw [upd_same, fm, e]; rfl
    · refine ⟨n - (i + 1), by omega, hlt, rfl, h4, (sm.trans s3).trans s5, ?_⟩
      rw [fm, e, Option.toList_none, List.append_nil]; exact s5 _ _ (s3 _ _ hys)
  · have e : i = n := by omega
    refine .inl ⟨j2 e, hQ D H2 hD sm ?_⟩
    rw [← e]; exact hys
theorem lc_growD {J : It} {H1 : Hp} {n : Nat} {Y : Nat → V → Hp → Prop} {g : TG} {tc : TT} {te : TE} {σ0 : L2.St} {Q : Addr → Hp → Prop} (hJ : ItG J H1 n Y) (S : L2.St → Prop) (P : Addr → Nat → List V → Hp → Prop) (h0 : S σ0) (hz : n ≤ sizeLine) (hP0 : ∀ D H2, P D 0 [] H2)
    (hPS : ∀ D i ys H2 H3, P D i ys H2 → Same H2 H3 → P D i ys H3) (hPD : ∀ D i ys zs H2 o, H2 D = some (.lst zs) → P D i ys H2 → P D i ys (upd H2 D o))
    (hs : ∀ (D : Addr) (i : Nat) (x : V) (ys : List V) (σ2 : L2.St) (H2 : Hp) (Qt : L2.St → V → Hp → Prop) (Qf : L2.St → Hp → Prop), i < n → ys.length = i → Y i x H2 → H2 D = some (.lst ys) → Same H1 H2 → S σ2 → P D i ys H2 → (∀ σ4 v H6, S σ4 → Same H2 H6 → P D (i + 1) (ys ++ [v]) H6 → Qt σ4 v H6) →
      g x σ2 H2 fun σ4 H4 => tc σ4 H4 fun b H5 => if b = true then te σ4 H5 fun v H6 => Qt σ4 v H6 else Qf σ4 H5)
    (hQ : ∀ D H2 ys, H1 D = none → Same H1 H2 → H2 D = some (.lst ys) → ys.length = n → P D n ys H2 → Q D H2) :
    ∀ D, H1 D = none → ∃ W : Nat → Nat → L2.St → Hp → Prop, (∃ m, W 0 m σ0 (upd H1 D (.lst []))) ∧ ∀ i m σ2 H2, W i m σ2 H2 →
      (J.stop i H2 ∧ Q D H2) ∨ (J.go i H2 ∧ ∀ x H3, J.yld i H2 x H3 → g x σ2 H3 fun σ4 H4 => tc σ4 H4 fun b H5 =>
        if b = true then te σ4 H5 fun v H6 => ∃ ys m', H6 D = some (.lst ys) ∧ ys.length < sizeLine ∧ m' < m ∧ W (i + 1) m' σ4 (upd H6 D (.lst (ys ++ [v]))) else ∃ m', m' < m ∧ W (i + 1) m' σ4 H5) := by
  intro D hD
  refine ⟨fun i m σ2 H2 => i ≤ n ∧ m = n - i ∧ S σ2 ∧ Same H1 H2 ∧ ∃ ys, H2 D = some (.lst ys) ∧ ys.length = i ∧ P D i ys H2, ⟨n, Nat.zero_le _, by omega, h0, same_upd hD, [], upd_same, rfl, hP0 _ _⟩, ?_⟩
  rintro i m σ2 H2 ⟨hi, rfl, hS, sm, ys, hys, hyl, hP⟩
  obtain ⟨j1, j2⟩ := hJ _ sm i
  by_cases hlt : i < n
  · obtain ⟨go, yl⟩ := j1 hlt
    refine .inr ⟨go, fun x H3 y => ?_⟩
    obtain ⟨s3, hY⟩ := yl x H3 y
    refine hs D i x ys σ2 _ _ _ hlt hyl hY (s3 _ _ hys) (sm.trans s3) hS (hPS _ _ _ _ _ hP s3) fun σ4 v H6 h4 s6 p6 => ?_
    have h6 := s6 _ _ (s3 _ _ hys)
    refine ⟨ys, n - (i + 1), h6, by omega, by omega, hlt, rfl, h4, fun b o e => ?_, ys ++ [v], upd_same, by rw [List.length_append, hyl]; rfl, hPD _ _ _ _ _ _ h6 p6⟩
    rw [upd_ne (ne_of_none e hD)]
    exact s6 _ _ (s3 _ _ (sm _ _ e))
  · have e : i = n := by omega
    exact .inl ⟨j2 e, hQ D H2 ys hD sm hys (hyl.trans e) (e ▸ hP)⟩
theorem itG_range {H : Hp} {lo : Int} {n : Nat} : ItG (Itr lo n) H n (fun i x _ => x = .int (lo + (i : Nat))) := fun H2 s i =>
  ⟨fun hi => ⟨hi, fun x H3 y => by obtain ⟨rfl, e⟩ := y; exact ⟨fun _ _ q => q, e⟩⟩, fun e => by show n ≤ i; omega⟩
end L2
namespace L2
theorem byC {p : Prop} (h : ¬ ¬ p) : p := Classical.byContradiction h
open PySem PySem.Spec PyProof.Rows
inductive tVarI (i : Nat) (σ : St) (H : Hp) (Q : VK) : Prop
  | mk (v : V) (h : σ[i]? = some (some v)) (q : Q v H) : tVarI i σ H Q
inductive rI0I (g : Int → Int → V) (x y : V) (H : Hp) (Q : VK) : Prop
  | mk (i j : Int) (hx : x = .int i) (hy : y = .int j) (q : Q (g i j) H) : rI0I g x y H Q
inductive rII (C : Int → Int → Prop) (g : Int → Int → V) (x y : V) (H : Hp) (Q : VK) : Prop
  | mk (i j : Int) (hx : x = .int i) (hy : y = .int j) (c : C i j) (q : Q (g i j) H) : rII C g x y H Q
inductive rIxLI (K : PySem.W.Frag) (x y : V) (H : Hp) (Q : VK) : Prop
  | mk (p : Addr) (xs : List V) (i : Int) (v : V) (hx : x = .ref p) (hy : y = .int i) (hs : SqL K H p xs) (ha : atI xs i = some v) (q : Q v H) : rIxLI K x y H Q
inductive rIxTI (K : PySem.W.Frag) (x y : V) (H : Hp) (Q : VK) : Prop
  | mk (p : Addr) (xs : List V) (i : Int) (v : V) (hx : x = .ref p) (hy : y = .int i) (hs : SqT K H p xs) (ha : atI xs i = some v) (q : Q v H) : rIxTI K x y H Q
section
variable {X : Cx}
theorem PE.imp {e : Expr} {t t' : TE} (h : PE X e t) (i : ∀ σ H Q, t' σ H Q → t σ H Q) : PE X e t' := fun pins s σ H Q I q => h pins s σ H Q I (i σ H Q q)
theorem OpR.imp {f : Value → Value → Sem Value} {r r' : R2} (h : OpR X f r) (i : ∀ x y H Q, r' x y H Q → r x y H Q) : OpR X f r' := fun pins s σ H x y v u Q I rx ry q => h pins s σ H x y v u Q I rx ry (i x y H Q q)
theorem pvI (i : Nat) {x : Str} {pos : Pos} (hN : X.N[i]? = some x := by rfl) (hv : Vis X.env.scope x := by first | exact Or.inl rfl | exact Or.inr (Or.inl rfl) | exact Or.inr (Or.inr rfl)) (hd : (x == ("__debug__" : Str)) = false := by decide)
    (hcd : (x == ("__classdict__" : Str)) = false := by decide) : PE X (.Name x pos) (tVarI i) := (pe_var hN hv hd hcd).imp fun _ _ _ ⟨v, h, q⟩ => ⟨v, h, q⟩
theorem o0 {f : Value → Value → Sem Value} {g : Int → Int → V} (h : OpR X f (rI0 g)) : OpR X f (rI0I g) := h.imp fun _ _ _ _ ⟨i, j, a, b, q⟩ => ⟨i, j, a, b, q⟩
theorem o1 {f : Value → Value → Sem Value} {C : Int → Int → Prop} {g : Int → Int → V} (h : OpR X f (rI C g)) : OpR X f (rII C g) := h.imp fun _ _ _ _ ⟨i, j, a, b, c, q⟩ => ⟨i, j, a, b, c, q⟩
theorem op_addI : OpR X (binaryOp .Add) (rI0I fun i j => .int (i + j)) := o0 op_add
theorem op_subI : OpR X (binaryOp .Sub) (rI0I fun i j => .int (i - j)) := o0 op_sub
theorem op_mulI : OpR X (binaryOp .Mult) (rII CMul fun i j => .int (i * j)) := o1 op_mul
theorem op_fdivI : OpR X (binaryOp .FloorDiv) (rII CDiv fun i j => .int (i / j)) := o1 op_fdiv
theorem op_modI : OpR X (binaryOp .Mod) (rII (fun _ j => 0 < j) fun i j => .int (i % j)) := o1 op_mod
theorem op_ltI : OpR X (compareOp .Lt) (rI0I fun i j => .bl (decide (i < j))) := o0 op_lt
theorem op_leI : OpR X (compareOp .LtE) (rI0I fun i j => .bl (decide (i ≤ j))) := o0 op_le
theorem op_gtI : OpR X (compareOp .Gt) (rI0I fun i j => .bl (decide (j < i))) := o0 op_gt
theorem IxR.imp {r r' : R2} (h : IxR X r) (i : ∀ x y H Q, r' x y H Q → r x y H Q) : IxR X r' := fun value slice pins s σ H x y v u Q I rx ry q e => h value slice pins s σ H x y v u Q I rx ry (i x y H Q q) e
theorem ix_listI (K : PySem.W.Frag) (h : X.K = K) : IxR X (rIxLI K) := by subst h; exact ix_list.imp fun _ _ _ _ ⟨p, xs, i, v, a, b, c, d, q⟩ => ⟨p, xs, i, v, a, b, c, d, q⟩
theorem ix_tupI (K : PySem.W.Frag) (h : X.K = K) : IxR X (rIxTI K) := by subst h; exact ix_tup.imp fun _ _ _ _ ⟨p, xs, i, v, a, b, c, d, q⟩ => ⟨p, xs, i, v, a, b, c, d, q⟩
end
end L2
namespace L2
open PySem PySem.Spec PyProof.Rows PyProof
section
variable {X : Cx}
end
end L2
namespace Mt
def stp (ls b : List Int) (best place : Nat) : Nat :=
  if (b.getD place 0 + 1) * ls.getD best 0 < (b.getD best 0 + 1) * ls.getD place 0 then place else best
def pickTo (ls b : List Int) (n : Nat) : Nat := (List.range n).foldl (stp ls b) 0
def pick (ls b : List Int) : Nat := pickTo ls b ls.length
def give (ls b : List Int) : List Int := b.set (pick ls b) (b.getD (pick ls b) 0 + 1)
def deal (ls : List Int) : Nat → List Int
  | 0 => List.replicate ls.length 0
  | k + 1 => give ls (deal ls k)
theorem pickTo_succ (ls b : List Int) (n : Nat) : pickTo ls b (n + 1) = stp ls b (pickTo ls b n) n := by
  unfold pickTo; rw [List.range_succ, List.foldl_append]; rfl
theorem pickTo_zero (ls b : List Int) : pickTo ls b 0 = 0 := rfl
theorem pickTo_one (ls b : List Int) : pickTo ls b 1 = 0 := by
  rw [pickTo_succ, pickTo_zero]; unfold stp; split <;> rfl
theorem pickTo_lt (ls b : List Int) : ∀ n, 0 < n → pickTo ls b n < n
  | 0, h => absurd h (Nat.lt_irrefl _)
  | 1, _ => by rw [pickTo_one]; exact Nat.one_pos
  | n + 2, _ => by
    have ih := pickTo_lt ls b (n + 1) (Nat.succ_pos _)
    rw [pickTo_succ]; unfold stp; split <;> omega
theorem pick_lt {ls b : List Int} (h : 0 < ls.length) : pick ls b < ls.length := pickTo_lt ls b _ h
theorem give_length (ls b : List Int) : (give ls b).length = b.length := by unfold give; rw [List.length_set]
theorem deal_length (ls : List Int) : ∀ k, (deal ls k).length = ls.length
  | 0 => List.length_replicate
  | k + 1 => by rw [deal, give_length, deal_length ls k]
theorem sum_replicate0 (n : Nat) : (List.replicate n (0 : Int)).sum = 0 := by
  induction n with
  | zero => rfl
  | succ n ih => rw [List.replicate_succ, List.sum_cons, ih]; rfl
end Mt
namespace Rc
open PySem PySem.Spec PyProof.Rows L2
def InD (ds : List Int) : Prop := ∀ d ∈ ds, 0 ≤ d ∧ d < 997
theorem InD.snoc {ds : List Int} {d : Int} (h : InD ds) (h0 : 0 ≤ d) (h1 : d < 997) : InD (ds ++ [d]) := fun x hx => by
  rcases List.mem_append.mp hx with hx | hx
  · exact h x hx
  · rw [List.mem_singleton.mp hx]; exact ⟨h0, h1⟩
theorem map_snoc (ds : List Int) (d : Int) : ds.map V.int ++ [V.int d] = (ds ++ [d]).map V.int := by rw [List.map_append]; rfl
theorem small_line {n : Nat} (h : n ≤ 100000) : n < sizeLine := Nat.lt_of_le_of_lt h (by decide)
structure DrawSt (H0 H : Hp) (a r sl : Addr) (n : Nat) (ys : List V) (least most : Nat) (σ : L2.St) : Prop where
  ex : ∃ (row : List Int) (seed : Int) (c rest k : Option V), σ = [some (.ref a), some (.int n), some (.ref r), some (.int seed), c, rest, k] ∧ 0 ≤ seed ∧ seed < 2147483629 ∧ H r = some (.lst (row.map V.int)) ∧ least ≤ row.length ∧ row.length ≤ most ∧ InD row
  same : Same H0 H
  slc : H sl = some (.lst ys)
def lineB (l : Int × Int) : Bool := decide (0 ≤ l.1 ∧ l.1 ≤ 5 ∧ 1 ≤ l.2 ∧ l.2 ≤ 20)
def isLinesB (L : List (Int × Int)) : Bool := decide (1 ≤ L.length ∧ L.length ≤ 4) && (decide (L.map (·.1)).Nodup && L.all lineB)
structure GoodL (L : List (Int × Int)) : Prop where
  l1 : 1 ≤ L.length
  l4 : L.length ≤ 4
  nd : (L.map (·.1)).Nodup
  all : ∀ l ∈ L, 0 ≤ l.1 ∧ l.1 ≤ 5 ∧ 1 ≤ l.2 ∧ l.2 ≤ 20
theorem getD_of {b : List Int} {i : Nat} {v : Int} (h : b[i]? = some v) : b.getD i 0 = v := by simp [List.getD, h]
theorem ix_of {b : List Int} {i : Nat} (h : i < b.length) : atI (b.map V.int) (i : Int) = some (V.int (b.getD i 0)) := by
  obtain ⟨v, hv⟩ := get_some h
  rw [getD_of hv]
  exact atI_nat (by rw [List.getElem?_map, hv]; rfl)
theorem _root_.L2.PairsAt.ix {K : PySem.W.Frag} {H : Hp} {us : List V} {L : List (Int × Int)} {i : Nat} (h : PairsAt K H us L) (hi : i < L.length) :
    ∃ q a, atI us (i : Int) = some (.ref q) ∧ SqT K H q [.int a, .int ((L.map (·.2)).getD i 0)] ∧ L[i]? = some (a, (L.map (·.2)).getD i 0) := by
  obtain ⟨l, hl⟩ := get_some (xs := L) hi
  obtain ⟨v, e1, q, rfl, e2⟩ := h.at_ i l hl
  have e : (L.map (·.2)).getD i 0 = l.2 := getD_of (by rw [List.getElem?_map, hl]; rfl)
  rw [e]
  exact ⟨q, l.1, atI_nat e1, e2, hl⟩
def SmallL (L : List (Int × Int)) : Prop := ∀ l ∈ L, -100000 < l.2 ∧ l.2 < 100000
theorem SmallL.get {L : List (Int × Int)} (h : SmallL L) (i : Nat) : -(2 ^ 64) < (L.map (·.2)).getD i 0 ∧ (L.map (·.2)).getD i 0 < 2 ^ 64 := by
  cases e : L[i]? with
  | none => simp [List.getD, e]
  | some l =>
    have e2 : (L.map (·.2)).getD i 0 = l.2 := getD_of (by rw [List.getElem?_map, e]; rfl)
    rw [e2]
    have := h l (List.mem_of_getElem? e)
    omega
theorem GoodL.small {L : List (Int × Int)} (g : GoodL L) : SmallL L := fun l hl => by have := g.all l hl; omega
def bearerOf (L : List (Int × Int)) (n : Nat) : Int := (L.map (·.1)).getD (Mt.pick (L.map (·.2)) (Mt.deal (L.map (·.2)) n)) 0
theorem fst_of {L : List (Int × Int)} {i : Nat} {a b : Int} (h : L[i]? = some (a, b)) : (L.map (·.1)).getD i 0 = a := getD_of (by rw [List.getElem?_map, h]; rfl)
theorem not_mem_erase : ∀ {l : List Int} {k : Nat} {x : Int}, l.Nodup → l[k]? = some x → x ∉ l.eraseIdx k
  | [], _, _, _, h => by simp at h
  | y :: r, 0, x, hn, h => by
    simp at h; subst h
    rw [List.eraseIdx_cons_zero]
    exact (List.nodup_cons.mp hn).1
  | y :: r, k + 1, x, hn, h => by
    rw [List.eraseIdx_cons_succ, List.mem_cons]
    have hn' := List.nodup_cons.mp hn
    have hx : r[k]? = some x := by simpa using h
    rintro (e | e)
    · subst e; exact hn'.1 (List.mem_of_getElem? hx)
    · exact not_mem_erase hn'.2 hx e
theorem map_erase (l : List Int) (k : Nat) : (l.map V.int).eraseIdx k = (l.eraseIdx k).map V.int := by
  induction l generalizing k with
  | nil => simp
  | cons a r ih => cases k with
    | zero => simp
    | succ k => simp [ih]
def othersOf (n o : Nat) : List Int := ((List.range n).map fun i => (0 : Int) + (i : Nat)).filter fun i => !decide (i = (o : Int))
def othersB (n o : Nat) : Bool := decide (othersOf n o).Nodup && (othersOf n o).all (fun x => decide (0 ≤ x ∧ x < (n : Int) ∧ x ≠ (o : Int))) && decide ((othersOf n o).length = n - 1)
theorem othersB_all : (List.range 7).all (fun n => (List.range n).all fun o => othersB n o) = true := by decide +kernel
theorem othersOf_facts (n : Nat) (hn : n < 7) (o : Nat) (ho : o < n) : (othersOf n o).Nodup ∧ (∀ x ∈ othersOf n o, 0 ≤ x ∧ x < (n : Int) ∧ x ≠ (o : Int)) ∧ (othersOf n o).length = n - 1 := by
  have h := List.all_eq_true.mp (List.all_eq_true.mp othersB_all n (List.mem_range.mpr hn)) o (List.mem_range.mpr ho)
  unfold othersB at h
  rw [Bool.and_eq_true, Bool.and_eq_true] at h
  exact ⟨of_decide_eq_true h.1.1, fun x hx => of_decide_eq_true (List.all_eq_true.mp h.1.2 x hx), of_decide_eq_true h.2⟩
theorem PairAt.updL {K : PySem.W.Frag} {H : Hp} {x : Addr} {xs : List V} {o : HO} {v : V} {l : Int × Int} (h : PairAt K H v l) (hx : H x = some (.lst xs)) : PairAt K (upd H x o) v l := by
  obtain ⟨q, rfl, (h | ⟨ob, h⟩) | h⟩ := h
  · exact ⟨q, rfl, .inl (.inl (by rw [upd_ne (ne_of h hx (by intro z; cases z))]; exact h))⟩
  · exact ⟨q, rfl, .inl (.inr ⟨ob, by rw [upd_ne (ne_of h hx (by intro z; cases z))]; exact h⟩)⟩
  · exact ⟨q, rfl, .inr h⟩
theorem PairsAt.updL {K : PySem.W.Frag} {H : Hp} {x : Addr} {xs : List V} {o : HO} {vs : List V} {L : List (Int × Int)} (h : PairsAt K H vs L) (hx : H x = some (.lst xs)) : PairsAt K (upd H x o) vs L :=
  ⟨h.len, fun i l e => let ⟨v, e1, e2⟩ := h.at_ i l e; ⟨v, e1, PairAt.updL e2 hx⟩⟩
structure LineSt (K : PySem.W.Frag) (H0 H : Hp) (h o : Nat) (d oth r : Addr) (many : Nat) (i : Nat) (all : Nat) (σ : L2.St) : Prop where
  ex : ∃ (os : List Int) (L : List (Int × Int)) (us : List V) (k s l : Option V), σ = [some (.int h), some (.int o), some (.ref d), k, some (.ref oth), some (.int many), some (.ref r), s, l] ∧
    H oth = some (.lst (os.map V.int)) ∧ H r = some (.lst us) ∧ PairsAt K H us L ∧ L.length = i ∧ os.length + i = all ∧ os.Nodup ∧ (L.map (·.1)).Nodup ∧ (∀ l ∈ L, l.1 ∉ os) ∧
    (∀ x ∈ os, 0 ≤ x ∧ x < (h : Int) ∧ x ≠ (o : Int)) ∧ (∀ l ∈ L, (0 ≤ l.1 ∧ l.1 < (h : Int) ∧ l.1 ≠ (o : Int)) ∧ 1 ≤ l.2 ∧ l.2 ≤ 20)
  same : Same H0 H
theorem flat_rep (n : Nat) : (List.replicate n [V.int 0]).flatten = (List.replicate n (0 : Int)).map V.int := by
  induction n with
  | zero => rfl
  | succ n ih => rw [List.replicate_succ, List.flatten_cons, ih, List.replicate_succ]; rfl
theorem ixN_nat {n j : Nat} (h : j < n) : ixN n (j : Int) = some j := by
  unfold ixN
  rw [if_pos (Int.natCast_nonneg _), if_pos (by omega)]
  rfl
def RowsAt (H : Hp) (ls : List Int) (qs : List Addr) (n : Nat) : Prop := ∀ k, k ≤ n → ∃ q, qs[k]? = some q ∧ H q = some (.lst ((Mt.deal ls k).map V.int))
structure SplitSt (H0 H : Hp) (p b rw : Addr) (n : Nat) (ls : List Int) (i : Nat) (σ : L2.St) : Prop where
  ex : ∃ (qs : List Addr) (c be at_ he : Option V), σ = [some (.ref p), some (.int n), some (.ref b), some (.ref rw), c, be, at_, he] ∧ H rw = some (.lst (qs.map V.ref)) ∧ qs.length = i + 1 ∧ RowsAt H ls qs i ∧ (∀ q ∈ qs, q ≠ b ∧ q ≠ rw)
  bo : H b = some (.lst ((Mt.deal ls i).map V.int))
  same : Same H0 H
theorem cut_ints (ds : List Int) (i j : Nat) (hj : j ≤ ds.length) (hij : i ≤ j) : cutV (ds.map V.int) (some (i : Int)) (some (j : Int)) = ((ds.drop i).take (j - i)).map V.int := by
  unfold cutV
  rw [HT.sIx_nat, HT.sIx_nat, List.length_map, Nat.min_eq_left hj, Nat.min_eq_left (Nat.le_trans hij hj), List.map_take, List.map_drop]
theorem cut_len (ds : List Int) (i j : Nat) (hj : j ≤ ds.length) : ((ds.drop i).take (j - i)).length = j - i := by
  rw [List.length_take, List.length_drop]; omega
theorem cut_in {ds : List Int} (h : InD ds) (i n : Nat) : InD ((ds.drop i).take n) := fun d hd => h d (List.mem_of_mem_drop (List.mem_of_mem_take hd))
theorem draw_at {ds : List Int} (h : InD ds) {i : Nat} (hi : i < ds.length) : ∃ d : Nat, d < 997 ∧ atI (ds.map V.int) (i : Int) = some (V.int (d : Int)) := by
  obtain ⟨v, hv⟩ := get_some hi
  have := h v (List.mem_of_getElem? hv)
  refine ⟨v.toNat, by omega, ?_⟩
  have e : ((v.toNat : Nat) : Int) = v := by omega
  rw [e]
  exact atI_nat (by rw [List.getElem?_map, hv]; rfl)
theorem nodup_getD {l : List Int} (h : l.Nodup) {i j : Nat} (hi : i < l.length) (hj : j < l.length) (e : l.getD i 0 = l.getD j 0) : i = j := by
  rw [getD_of (List.getElem?_eq_getElem hi), getD_of (List.getElem?_eq_getElem hj)] at e
  exact (List.getElem_inj h).mp e
def measB (kind : Str) (by_ most : Int) : Bool := (if kind = ("share" : Str) then decide (1 ≤ by_ ∧ by_ ≤ 100) else if kind = ("layer" : Str) then decide (0 ≤ by_ ∧ by_ ≤ 200) else false) && decide (0 ≤ most ∧ most ≤ 24)
theorem share_ne : ¬ ("share" : Str) = "layer" := by decide +kernel
def wishZ (kind : Str) (b r : Int) : Int := if kind = ("share" : Str) then r * b / 100 else if r - b > 0 then r - b else 0
theorem dec_strV {x y : Str} : decide (V.str x = V.str y) = decide (x = y) := by
  by_cases h : x = y
  · rw [h, decide_eq_true rfl, decide_eq_true rfl]
  · rw [decide_eq_false h, decide_eq_false (fun z => h (V.str.inj z))]
def takeZ (kind : Str) (b m r : Int) : Int := if wishZ kind b r < m then wishZ kind b r else m
theorem ix3 {x y z : V} {i : Nat} (h : i < 3) : atI [x, y, z] (i : Int) = some (if i = 0 then x else if i = 1 then y else z) := by
  match i, h with
  | 0, _ => rfl
  | 1, _ => rfl
  | 2, _ => rfl
theorem ix2 {x y : V} {i : Nat} (h : i < 2) : atI [x, y] (i : Int) = some (if i = 0 then x else y) := by
  match i, h with
  | 0, _ => rfl
  | 1, _ => rfl
end Rc
namespace Rc
open PySem PySem.Spec PyProof.Rows L2
abbrev Row := Int × Str × Int × Int × List (Int × Int)
def RowAt (K : PySem.W.Frag) (H : Hp) (p : Addr) : Option Row → Prop
  | none => ∃ xs, SqT K H p xs ∧ xs.length ≠ 5 ∧ xs.length ≤ 100
  | some (ho, k, b, m, L) => ∃ lp, SqT K H p [.int ho, .str k, .int b, .int m, .ref lp] ∧ LinesAt K H lp L ∧ L.length ≤ 100
theorem RowAt.same {K : PySem.W.Frag} {H H' : Hp} {p : Addr} (s : Same H H') : ∀ {r : Option Row}, RowAt K H p r → RowAt K H' p r
  | none, ⟨xs, h, h1⟩ => ⟨xs, s.tupS h, h1⟩
  | some (_, _, _, _, _), ⟨lp, h, h1, h2⟩ => ⟨lp, s.tupS h, h1.same s, h2⟩
def othersBL (h ho : Int) (L : List (Int × Int)) : Bool := L.all fun l => decide (l.1 < h) && !decide (l.1 = ho)
def isCoverB (h : Int) : Option Row → Bool
  | none => false
  | some (ho, k, b, m, L) => decide (0 ≤ ho ∧ ho < h) && (measB k b m && (isLinesB L && othersBL h ho L))
theorem isCoverB_some {h ho : Int} {k : Str} {b m : Int} {L : List (Int × Int)} : isCoverB h (some (ho, k, b, m, L)) = (decide (0 ≤ ho ∧ ho < h) && (measB k b m && (isLinesB L && othersBL h ho L))) := rfl
theorem isCoverB_iff {h ho : Int} {k : Str} {b m : Int} {L : List (Int × Int)} (h6 : h ≤ 6) : isCoverB h (some (ho, k, b, m, L)) = true ↔
    (0 ≤ ho ∧ ho < h) ∧ measB k b m = true ∧ (1 ≤ L.length ∧ L.length ≤ 4) ∧ (L.map (·.1)).Nodup ∧ ∀ l ∈ L, (0 ≤ l.1 ∧ l.1 < h ∧ l.1 ≠ ho) ∧ 1 ≤ l.2 ∧ l.2 ≤ 20 := by
  unfold isCoverB isLinesB othersBL
  simp only [Bool.and_eq_true, decide_eq_true_eq, List.all_eq_true, lineB, Bool.not_eq_true', decide_eq_false_iff_not]
  constructor
  · rintro ⟨a1, a2, ⟨a3, a4, a5⟩, a6⟩
    exact ⟨a1, a2, a3, a4, fun l hl => ⟨⟨(a5 l hl).1, (a6 l hl).1, (a6 l hl).2⟩, (a5 l hl).2.2.1, (a5 l hl).2.2.2⟩⟩
  · rintro ⟨a1, a2, a3, a4, a5⟩
    refine ⟨a1, a2, ⟨a3, a4, fun l hl => ?_⟩, fun l hl => ⟨(a5 l hl).1.2.1, (a5 l hl).1.2.2⟩⟩
    have := a5 l hl
    omega
theorem dec_intV {x y : Int} : decide (V.int x = V.int y) = decide (x = y) := by
  by_cases h : x = y
  · rw [h, decide_eq_true rfl, decide_eq_true rfl]
  · rw [decide_eq_false h, decide_eq_false (fun z => h (V.int.inj z))]
end Rc
namespace Rc
open PySem PySem.Spec PyProof.Rows L2
theorem measB_cases {k : Str} {b m : Int} (h : measB k b m = true) : ((k = "share" ∧ 1 ≤ b ∧ b ≤ 100) ∨ (k = "layer" ∧ 0 ≤ b ∧ b ≤ 200)) ∧ 0 ≤ m ∧ m ≤ 24 := by
  unfold measB at h
  rw [Bool.and_eq_true] at h
  refine ⟨?_, of_decide_eq_true h.2⟩
  by_cases e1 : k = ("share" : Str)
  · rw [if_pos e1] at h; exact .inl ⟨e1, of_decide_eq_true h.1⟩
  · rw [if_neg e1] at h
    by_cases e2 : k = ("layer" : Str)
    · rw [if_pos e2] at h; exact .inr ⟨e2, of_decide_eq_true h.1⟩
    · rw [if_neg e2] at h; cases h.1
end Rc
namespace Rc
open PySem PySem.Spec PyProof.Rows L2
def bearersL (L : List (Int × Int)) (n : Nat) : List Int := (List.range n).map (bearerOf L)
theorem bearersL_succ (L : List (Int × Int)) (n : Nat) : bearersL L (n + 1) = bearersL L n ++ [bearerOf L n] := by
  unfold bearersL; rw [List.range_succ, List.map_append]; rfl
theorem bearersL_len (L : List (Int × Int)) (n : Nat) : (bearersL L n).length = n := by unfold bearersL; rw [List.length_map, List.length_range]
theorem count_deal {L : List (Int × Int)} (h1 : 1 ≤ L.length) (nd : (L.map (·.1)).Nodup) : ∀ (n i : Nat), i < L.length → (((bearersL L n).count ((L.map (·.1)).getD i 0) : Nat) : Int) = (Mt.deal (L.map (·.2)) n).getD i 0
  | 0, i, hi => by simp [bearersL, Mt.deal, List.getD, hi]
  | n + 1, i, hi => by
    have ih := count_deal h1 nd n i hi
    have hpk : Mt.pick (L.map (·.2)) (Mt.deal (L.map (·.2)) n) < L.length := by
      have := Mt.pick_lt (ls := L.map (·.2)) (b := Mt.deal (L.map (·.2)) n) (by rw [List.length_map]; exact h1)
      rw [List.length_map] at this; exact this
    have hdl : (Mt.deal (L.map (·.2)) n).length = L.length := by rw [Mt.deal_length, List.length_map]
    rw [bearersL_succ, List.count_append, Mt.deal, Mt.give]
    unfold bearerOf
    generalize Mt.pick (L.map (·.2)) (Mt.deal (L.map (·.2)) n) = k at *
    by_cases e : k = i
    · subst e
      rw [List.count_singleton_self, getD_of (List.getElem?_set_self (by omega))]
      push_cast; omega
    · have hne : ¬ (L.map (·.1)).getD k 0 = (L.map (·.1)).getD i 0 := fun z => e (nodup_getD nd (by rw [List.length_map]; exact hpk) (by rw [List.length_map]; exact hi) z)
      rw [List.count_singleton, if_neg (by simpa using hne)]
      have e2 : ∀ v : Int, ((Mt.deal (L.map (·.2)) n).set k v).getD i 0 = (Mt.deal (L.map (·.2)) n).getD i 0 := fun v => by
        simp only [List.getD_eq_getElem?_getD, List.getElem?_set_ne e]
      rw [e2, Nat.add_zero]; exact ih
theorem len1 {p : List Value → Prop} : ∀ {us : List Value}, us.length = 1 → (∀ a0, p [a0]) → p us
  | [a0], _, h => h a0
theorem len2 {p : List Value → Prop} : ∀ {us : List Value}, us.length = 2 → (∀ a0 a1, p [a0, a1]) → p us
  | [a0, a1], _, h => h a0 a1
theorem len3 {p : List Value → Prop} : ∀ {us : List Value}, us.length = 3 → (∀ a0 a1 a2, p [a0, a1, a2]) → p us
  | [a0, a1, a2], _, h => h a0 a1 a2
theorem len4 {p : List Value → Prop} : ∀ {us : List Value}, us.length = 4 → (∀ a0 a1 a2 a3, p [a0, a1, a2, a3]) → p us
  | [a0, a1, a2, a3], _, h => h a0 a1 a2 a3
end Rc
namespace Rc
open PySem PySem.Spec PyProof.Rows L2
structure FL (K : PySem.W.Frag) (x q : Str) (st : Stmt) (f : Addr) : Prop where
  ex : ∃ (od an : Option Addr) (sl : Array (Option Value)) (oc kV dc pm cd ct : Value), K.lookup f = some ⟨oc, od, .func (PySem.W.fnOf x q (defArgs st) (defBody st) (defScope st) .none kV dc pm an cd ct), sl⟩ ∧ PySem.W.codeIn K cd q = true ∧ PySem.W.keepIn K (.ref f) = true
theorem fl_mk {K : PySem.W.Frag} {x q : Str} {st : Stmt} {f : Addr} {od an : Option Addr} {sl : Array (Option Value)} {oc kV dc pm cd ct : Value} (l : K.lookup f = some ⟨oc, od, .func (PySem.W.fnOf x q (defArgs st) (defBody st) (defScope st) .none kV dc pm an cd ct), sl⟩) (c : PySem.W.codeIn K cd q = true) (k : PySem.W.keepIn K (.ref f) = true) : FL K x q st f :=
  ⟨od, an, sl, oc, kV, dc, pm, cd, ct, l, c, k⟩
theorem FL.fn {K : PySem.W.Frag} {x q : Str} {st : Stmt} {f : Addr} (l : FL K x q st f) (ps : List Str)
    (h : ∀ (kV doc pm : Value) (an : Option Addr) (cdv ct : Value) (us : List Value), us.length = ps.length → bindArgs (PySem.W.fnOf x q (defArgs st) (defBody st) (defScope st) .none kV doc pm an cdv ct) ⟨us, []⟩ = pure (ps.zip us)) :
    ∃ fd, Fun K x q st f fd ∧ PySem.W.keepIn K (.ref f) = true ∧ Binds K fd ps [] := by
  obtain ⟨od, an, sl, oc, kV, dc, pm, cd, ct, l1, c, k⟩ := l.ex
  exact ⟨_, fun_mk l1 c k, k, (fun_mk l1 c k).binds h⟩
section
variable {K : PySem.W.Frag} {x q : Str} {st : Stmt} {f : Addr}
theorem FL.fn1 (l : FL K x q st f) (ps : List Str) (h : ∀ (kV doc pm : Value) (an : Option Addr) (cdv ct u0 : Value), bindArgs (PySem.W.fnOf x q (defArgs st) (defBody st) (defScope st) .none kV doc pm an cdv ct) ⟨[u0], []⟩ = pure (ps.zip [u0])) (hp : ps.length = 1 := by rfl) : ∃ fd, Fun K x q st f fd ∧ PySem.W.keepIn K (.ref f) = true ∧ Binds K fd ps [] :=
  l.fn ps fun kV doc pm an cdv ct us hl => len1 (p := fun us => bindArgs (PySem.W.fnOf x q (defArgs st) (defBody st) (defScope st) .none kV doc pm an cdv ct) ⟨us, []⟩ = pure (ps.zip us)) (hl.trans hp) fun u0 => h kV doc pm an cdv ct u0
theorem FL.fn2 (l : FL K x q st f) (ps : List Str) (h : ∀ (kV doc pm : Value) (an : Option Addr) (cdv ct u0 u1 : Value), bindArgs (PySem.W.fnOf x q (defArgs st) (defBody st) (defScope st) .none kV doc pm an cdv ct) ⟨[u0, u1], []⟩ = pure (ps.zip [u0, u1])) (hp : ps.length = 2 := by rfl) : ∃ fd, Fun K x q st f fd ∧ PySem.W.keepIn K (.ref f) = true ∧ Binds K fd ps [] :=
  l.fn ps fun kV doc pm an cdv ct us hl => len2 (p := fun us => bindArgs (PySem.W.fnOf x q (defArgs st) (defBody st) (defScope st) .none kV doc pm an cdv ct) ⟨us, []⟩ = pure (ps.zip us)) (hl.trans hp) fun u0 u1 => h kV doc pm an cdv ct u0 u1
theorem FL.fn3 (l : FL K x q st f) (ps : List Str) (h : ∀ (kV doc pm : Value) (an : Option Addr) (cdv ct u0 u1 u2 : Value), bindArgs (PySem.W.fnOf x q (defArgs st) (defBody st) (defScope st) .none kV doc pm an cdv ct) ⟨[u0, u1, u2], []⟩ = pure (ps.zip [u0, u1, u2])) (hp : ps.length = 3 := by rfl) : ∃ fd, Fun K x q st f fd ∧ PySem.W.keepIn K (.ref f) = true ∧ Binds K fd ps [] :=
  l.fn ps fun kV doc pm an cdv ct us hl => len3 (p := fun us => bindArgs (PySem.W.fnOf x q (defArgs st) (defBody st) (defScope st) .none kV doc pm an cdv ct) ⟨us, []⟩ = pure (ps.zip us)) (hl.trans hp) fun u0 u1 u2 => h kV doc pm an cdv ct u0 u1 u2
theorem FL.fn4 (l : FL K x q st f) (ps : List Str) (h : ∀ (kV doc pm : Value) (an : Option Addr) (cdv ct u0 u1 u2 u3 : Value), bindArgs (PySem.W.fnOf x q (defArgs st) (defBody st) (defScope st) .none kV doc pm an cdv ct) ⟨[u0, u1, u2, u3], []⟩ = pure (ps.zip [u0, u1, u2, u3])) (hp : ps.length = 4 := by rfl) : ∃ fd, Fun K x q st f fd ∧ PySem.W.keepIn K (.ref f) = true ∧ Binds K fd ps [] :=
  l.fn ps fun kV doc pm an cdv ct us hl => len4 (p := fun us => bindArgs (PySem.W.fnOf x q (defArgs st) (defBody st) (defScope st) .none kV doc pm an cdv ct) ⟨us, []⟩ = pure (ps.zip us)) (hl.trans hp) fun u0 u1 u2 u3 => h kV doc pm an cdv ct u0 u1 u2 u3
end
end Rc
namespace Rc
open PySem PySem.Spec PyProof.Rows L2
def CovAt (K : PySem.W.Frag) (H : Hp) (v : V) (c : Row) : Prop := ∃ p, v = .ref p ∧ RowAt K H p (some c)
structure CovsAt (K : PySem.W.Frag) (H : Hp) (vs : List V) (cs : List Row) : Prop where
  len : vs.length = cs.length
  at_ : ∀ (i : Nat) (c : Row), cs[i]? = some c → ∃ v, vs[i]? = some v ∧ CovAt K H v c
section
variable {K : PySem.W.Frag} {H H' : Hp} {v : V} {vs : List V} {c : Row} {cs : List Row} {x : Addr} {xs : List V} {o : HO}
theorem CovAt.same (h : CovAt K H v c) (s : Same H H') : CovAt K H' v c := let ⟨p, e, r⟩ := h; ⟨p, e, RowAt.same s r⟩
theorem CovsAt.same (h : CovsAt K H vs cs) (s : Same H H') : CovsAt K H' vs cs := ⟨h.len, fun i c e => let ⟨v, e1, e2⟩ := h.at_ i c e; ⟨v, e1, e2.same s⟩⟩
theorem SqT.but {p : Addr} {ys : List V} {o' : HO} (h : SqT K H p ys) (hx : H x = some o') (hn : ∀ zs, o' ≠ .tup zs) (hf : ∀ ob u, o' ≠ .frz ob u) (s : ∀ b o, b ≠ x → H b = some o → H' b = some o) : SqT K H' p ys := by
  rcases h with (h | ⟨ob, h⟩) | h
  · exact .inl (.inl (s p _ (fun z => by rw [z, hx] at h; cases h; exact hn _ rfl) h))
  · exact .inl (.inr ⟨ob, s p _ (fun z => by rw [z, hx] at h; cases h; exact hf _ _ rfl) h⟩)
  · exact .inr h
theorem LinesAt.but {p : Addr} {L : List (Int × Int)} {o' : HO} (h : LinesAt K H p L) (hx : H x = some o') (hn : ∀ zs, o' ≠ .tup zs) (hf : ∀ ob u, o' ≠ .frz ob u) (s : ∀ b o, b ≠ x → H b = some o → H' b = some o) : LinesAt K H' p L := by
  obtain ⟨us, h1, h2⟩ := h.ex
  exact ⟨us, SqT.but h1 hx hn hf s, h2.len, fun i l e => let ⟨v, e1, q, e2, e3⟩ := h2.at_ i l e; ⟨v, e1, q, e2, SqT.but e3 hx hn hf s⟩⟩
theorem CovAt.but {o' : HO} (h : CovAt K H v c) (hx : H x = some o') (hn : ∀ zs, o' ≠ .tup zs) (hf : ∀ ob u, o' ≠ .frz ob u) (s : ∀ b o, b ≠ x → H b = some o → H' b = some o) : CovAt K H' v c := by
  obtain ⟨p, e, lp, h1, h2, h3⟩ := h
  exact ⟨p, e, lp, SqT.but h1 hx hn hf s, LinesAt.but h2 hx hn hf s, h3⟩
theorem CovsAt.but {o' : HO} (h : CovsAt K H vs cs) (hx : H x = some o') (hn : ∀ zs, o' ≠ .tup zs) (hf : ∀ ob u, o' ≠ .frz ob u) (s : ∀ b o, b ≠ x → H b = some o → H' b = some o) : CovsAt K H' vs cs :=
  ⟨h.len, fun i c e => let ⟨v, e1, e2⟩ := h.at_ i c e; ⟨v, e1, CovAt.but e2 hx hn hf s⟩⟩
theorem CovsAt.updL (h : CovsAt K H vs cs) (hx : H x = some (.lst xs)) : CovsAt K (upd H x o) vs cs :=
  CovsAt.but h hx (fun _ z => by cases z) (fun _ _ z => by cases z) fun b o n e => by rw [upd_ne n]; exact e
theorem CovsAt.get {i : Nat} (h : CovsAt K H vs cs) (e : vs[i]? = some v) : ∃ c, cs[i]? = some c ∧ CovAt K H v c := by
  have hi := get_lt e
  obtain ⟨c, hc⟩ := get_some (xs := cs) (i := i) (by rw [← h.len]; exact hi)
  obtain ⟨u, e1, e2⟩ := h.at_ i c hc
  rw [e] at e1; cases e1
  exact ⟨c, hc, e2⟩
theorem CovsAt.nil : CovsAt K H [] [] := ⟨rfl, fun i c e => by simp at e⟩
theorem CovsAt.snoc (h : CovsAt K H vs cs) (p : CovAt K H v c) : CovsAt K H (vs ++ [v]) (cs ++ [c]) := by
  refine ⟨by rw [List.length_append, List.length_append, h.len]; rfl, fun i m e => ?_⟩
  by_cases hi : i < cs.length
  · rw [List.getElem?_append_left hi] at e
    obtain ⟨u, e1, e2⟩ := h.at_ i m e
    exact ⟨u, by rw [List.getElem?_append_left (by rw [h.len]; exact hi)]; exact e1, e2⟩
  · have hlt := get_lt e
    rw [List.length_append, List.length_singleton] at hlt
    have ei : i = cs.length := by omega
    subst ei
    rw [List.getElem?_append_right (Nat.le_refl _), Nat.sub_self] at e
    simp at e; subst e
    exact ⟨v, by rw [List.getElem?_append_right (by rw [h.len]; exact Nat.le_refl _), h.len, Nat.sub_self]; rfl, p⟩
end
structure GoodC (h : Int) (c : Row) : Prop where
  ho : 0 ≤ c.1 ∧ c.1 < h
  ms : measB c.2.1 c.2.2.1 c.2.2.2.1 = true
  gl : GoodL c.2.2.2.2
  ot : ∀ l ∈ c.2.2.2.2, l.1 < h ∧ l.1 ≠ c.1
theorem goodC_iff {h : Int} {c : Row} (h6 : h ≤ 6) : isCoverB h (some c) = true ↔ GoodC h c := by
  obtain ⟨ho, k, b, m, L⟩ := c
  rw [isCoverB_iff h6]
  constructor
  · rintro ⟨a1, a2, a3, a4, a5⟩
    exact ⟨a1, a2, ⟨a3.1, a3.2, a4, fun l hl => by have := a5 l hl; omega⟩, fun l hl => (a5 l hl).1.2⟩
  · rintro ⟨a1, a2, a3, a4⟩
    exact ⟨a1, a2, ⟨a3.l1, a3.l4⟩, a3.nd, fun l hl => ⟨⟨(a3.all l hl).1, a4 l hl⟩, (a3.all l hl).2.2⟩⟩
theorem GoodC.most {h : Int} {c : Row} (g : GoodC h c) : 0 ≤ c.2.2.2.1 ∧ c.2.2.2.1 ≤ 24 := (measB_cases g.ms).2
structure GoodT (h : Nat) (cs : List Row) (ls : List Int) : Prop where
  h1 : 1 ≤ h
  h6 : h ≤ 6
  c10 : cs.length ≤ 10
  cov : ∀ c ∈ cs, GoodC h c
  ll : ls.length = h
  lb : ∀ x ∈ ls, 0 ≤ x ∧ x ≤ 9999
theorem hn1 : ¬ (("house_count" : Str) = "cover_rows") := by decide +kernel
theorem hn2 : ¬ (("house_count" : Str) = "befallen") := by decide +kernel
theorem hn3 : ¬ (("house_count" : Str) = "crown_bearers") := by decide +kernel
theorem hn4 : ¬ (("cover_rows" : Str) = "befallen") := by decide +kernel
theorem hn5 : ¬ (("cover_rows" : Str) = "crown_bearers") := by decide +kernel
theorem hn6 : ¬ (("befallen" : Str) = "crown_bearers") := by decide +kernel
def tabF (h : Int) (a b c : Addr) : List (Str × V) := putF "crown_bearers" (.ref c) (putF "befallen" (.ref b) (putF "cover_rows" (.ref a) (putF "house_count" (.int h) [])))
section
variable {h : Int} {a b c : Addr}
theorem tabF_houses : (tabF h a b c).lookup ("house_count" : Str) = some (.int h) := by
  unfold tabF; rw [lookup_putF, if_neg hn3, lookup_putF, if_neg hn2, lookup_putF, if_neg hn1, lookup_putF, if_pos rfl]
theorem tabF_covers : (tabF h a b c).lookup ("cover_rows" : Str) = some (.ref a) := by
  unfold tabF; rw [lookup_putF, if_neg hn5, lookup_putF, if_neg hn4, lookup_putF, if_pos rfl]
theorem tabF_losses : (tabF h a b c).lookup ("befallen" : Str) = some (.ref b) := by
  unfold tabF; rw [lookup_putF, if_neg hn6, lookup_putF, if_pos rfl]
theorem tabF_bearers : (tabF h a b c).lookup ("crown_bearers" : Str) = some (.ref c) := by
  unfold tabF; rw [lookup_putF, if_pos rfl]
theorem tabF_no {m : Str} (h1 : ¬ m = "crown_bearers") (h2 : ¬ m = "befallen") (h3 : ¬ m = "cover_rows") (h4 : ¬ m = "house_count") : (tabF h a b c).lookup m = none := by
  unfold tabF; rw [lookup_putF, if_neg h1, lookup_putF, if_neg h2, lookup_putF, if_neg h3, lookup_putF, if_neg h4]; rfl
end
structure TabAt (C : Addr) (K : PySem.W.Frag) (H : Hp) (t : Addr) (h : Nat) (cs : List Row) (ls : List Int) : Prop where
  ex : ∃ (dx a b c : Addr) (us : List V) (qs : List Addr), H t = some (.ins C dx (tabF h a b c)) ∧ H a = some (.lst us) ∧ CovsAt K H us cs ∧ H b = some (.lst (ls.map V.int)) ∧ H c = some (.lst (qs.map V.ref)) ∧ qs.length = cs.length ∧
    ∀ (i : Nat) (cv : Row) (q : Addr), cs[i]? = some cv → qs[i]? = some q → H q = some (.lst ((bearersL cv.2.2.2.2 cv.2.2.2.1.toNat).map V.int))
  good : GoodT h cs ls
theorem TabAt.same {C : Addr} {K : PySem.W.Frag} {H H' : Hp} {t : Addr} {h : Nat} {cs : List Row} {ls : List Int} (x : TabAt C K H t h cs ls) (s : Same H H') : TabAt C K H' t h cs ls := by
  obtain ⟨dx, a, b, c, us, qs, h1, h2, h3, h4, h5, h6, h7⟩ := x.ex
  exact ⟨⟨dx, a, b, c, us, qs, s _ _ h1, s _ _ h2, h3.same s, s _ _ h4, s _ _ h5, h6, fun i cv q e1 e2 => s _ _ (h7 i cv q e1 e2)⟩, x.good⟩
def plusF (row : List Int) (f : Nat → Int) : List Int := row.mapIdx fun j x => x + f j
theorem plusF_len (row : List Int) (f : Nat → Int) : (plusF row f).length = row.length := by unfold plusF; rw [List.length_mapIdx]
theorem plusF_get (row : List Int) (f : Nat → Int) (j : Nat) (hj : j < row.length) : (plusF row f).getD j 0 = row.getD j 0 + f j := by
  unfold plusF; simp [List.getD, hj]
theorem plusF_zero (row : List Int) : plusF row (fun _ => 0) = row := by
  unfold plusF
  refine List.ext_getElem (by rw [List.length_mapIdx]) fun i h1 h2 => ?_
  rw [List.getElem_mapIdx]; exact Int.add_zero _
theorem plusF_congr {row : List Int} {f g : Nat → Int} (h : ∀ j, j < row.length → f j = g j) : plusF row f = plusF row g := by
  unfold plusF
  refine List.ext_getElem (by rw [List.length_mapIdx, List.length_mapIdx]) fun i h1 h2 => ?_
  rw [List.length_mapIdx] at h1
  rw [List.getElem_mapIdx, List.getElem_mapIdx, h i h1]
theorem plusF_getE (row : List Int) (f : Nat → Int) (i : Nat) : (plusF row f)[i]? = row[i]?.map (· + f i) := by unfold plusF; rw [List.getElem?_mapIdx]
theorem plusF_set (row : List Int) (f : Nat → Int) (j : Nat) (d : Int) (hj : j < row.length) : (plusF row f).set j ((plusF row f).getD j 0 + d) = plusF row (fun k => f k + if k = j then d else 0) := by
  rw [plusF_get _ _ _ hj]
  refine List.ext_getElem? fun i => ?_
  rw [plusF_getE, List.getElem?_set, plusF_getE, plusF_len]
  by_cases e : j = i
  · subst e
    rw [if_pos rfl, if_pos hj, getD_of (List.getElem?_eq_getElem hj), List.getElem?_eq_getElem hj]
    simp only [Option.map_some, if_true]
    congr 1; omega
  · rw [if_neg e]
    have e2 : (if i = j then d else 0) = 0 := if_neg (fun z => e z.symm)
    simp only [e2, Int.add_zero]
def cnt (L : List (Int × Int)) (n : Nat) (j : Nat) : Int := ((bearersL L n).count (j : Int) : Nat)
def crOf : Option Row → Int → Nat → Int
  | none, _, _ => 0
  | some c, b, j => cnt c.2.2.2.2 b.toNat j
def crs (cs : List Row) (acc : List Int) : Nat → Nat → Int
  | 0, _ => 0
  | i + 1, j => crs cs acc i j + crOf cs[i]? (acc.getD i 0) j
def burdL (cs : List Row) (ls acc : List Int) : List Int := plusF ls (crs cs acc cs.length)
theorem burdL_len (cs : List Row) (ls acc : List Int) : (burdL cs ls acc).length = ls.length := plusF_len _ _
theorem bearersL_take (L : List (Int × Int)) {n m : Nat} (h : n ≤ m) : (bearersL L m).take n = bearersL L n := by
  unfold bearersL; rw [← List.map_take, List.take_range, Nat.min_eq_left h]
theorem bearerOf_mem {L : List (Int × Int)} (h1 : 1 ≤ L.length) (n : Nat) : ∃ l ∈ L, bearerOf L n = l.1 := by
  have hpk : Mt.pick (L.map (·.2)) (Mt.deal (L.map (·.2)) n) < L.length := by
    have := Mt.pick_lt (ls := L.map (·.2)) (b := Mt.deal (L.map (·.2)) n) (by rw [List.length_map]; exact h1)
    rw [List.length_map] at this; exact this
  obtain ⟨l, hl⟩ := get_some hpk
  refine ⟨l, List.mem_of_getElem? hl, ?_⟩
  unfold bearerOf
  exact getD_of (by rw [List.getElem?_map, hl]; rfl)
theorem bearersL_mem {L : List (Int × Int)} (h1 : 1 ≤ L.length) {n : Nat} {x : Int} (h : x ∈ bearersL L n) : ∃ l ∈ L, x = l.1 := by
  unfold bearersL at h
  obtain ⟨k, _, rfl⟩ := List.mem_map.mp h
  exact bearerOf_mem h1 k
def sgs (L : List (Int × Int)) (m : List Int) : Nat → Nat → Int
  | 0, _ => 0
  | k + 1, j => sgs L m k j + if (L.map (·.1)).getD k 0 = (j : Int) then m.getD k 0 else 0
theorem sgs_none {L : List (Int × Int)} {m : List Int} {j : Nat} : ∀ k, (∀ i, i < k → (L.map (·.1)).getD i 0 ≠ (j : Int)) → sgs L m k j = 0
  | 0, _ => rfl
  | k + 1, h => by rw [sgs, sgs_none k fun i hi => h i (by omega), if_neg (h k (by omega))]; rfl
theorem sgs_one {L : List (Int × Int)} {m : List Int} {j i : Nat} (hi : (L.map (·.1)).getD i 0 = (j : Int)) : ∀ k, (∀ i', i' < k → i' ≠ i → (L.map (·.1)).getD i' 0 ≠ (j : Int)) → i < k → sgs L m k j = m.getD i 0
  | 0, _, h => absurd h (Nat.not_lt_zero _)
  | k + 1, h, hk => by
    rw [sgs]
    by_cases e : k = i
    · subst e
      rw [sgs_none k fun i' hi' => h i' (by omega) (by omega), if_pos hi]; omega
    · rw [sgs_one hi k (fun i' h1 h2 => h i' (by omega) h2) (by omega), if_neg (h k (by omega) e)]; omega
theorem sgs_deal {L : List (Int × Int)} (h1 : 1 ≤ L.length) (nd : (L.map (·.1)).Nodup) (n j : Nat) : sgs L (Mt.deal (L.map (·.2)) n) L.length j = cnt L n j := by
  by_cases h : ∃ i, i < L.length ∧ (L.map (·.1)).getD i 0 = (j : Int)
  · obtain ⟨i, hi, e⟩ := h
    rw [sgs_one e L.length (fun i' hi' hne z => hne (nodup_getD nd (by rw [List.length_map]; exact hi') (by rw [List.length_map]; exact hi) (z.trans e.symm))) hi]
    unfold cnt
    rw [← count_deal h1 nd n i hi, e]
  · have h' : ∀ i, i < L.length → (L.map (·.1)).getD i 0 ≠ (j : Int) := fun i hi z => h ⟨i, hi, z⟩
    rw [sgs_none L.length h']
    unfold cnt
    have : (j : Int) ∉ bearersL L n := fun z => by
      obtain ⟨l, hl, e⟩ := bearersL_mem h1 z
      obtain ⟨i, hi, rfl⟩ := List.mem_iff_getElem.mp hl
      exact h' i hi (by rw [getD_of (show (L.map (·.1))[i]? = some L[i].1 by rw [List.getElem?_map, List.getElem?_eq_getElem hi]; rfl)]; exact e.symm)
    rw [List.count_eq_zero.mpr this]; rfl
structure AccOk (cs : List Row) (acc : List Int) : Prop where
  len : acc.length = cs.length
  bd : ∀ (i : Nat) (c : Row) (b : Int), cs[i]? = some c → acc[i]? = some b → 0 ≤ b ∧ b ≤ c.2.2.2.1
structure SplitsAt (H : Hp) (cs : List Row) (ss : List Addr) : Prop where
  len : ss.length = cs.length
  at_ : ∀ (i : Nat) (c : Row) (s : Addr), cs[i]? = some c → ss[i]? = some s → ∃ qs : List Addr, H s = some (.lst (qs.map V.ref)) ∧ RowsAt H (c.2.2.2.2.map (·.2)) qs c.2.2.2.1.toNat
theorem SplitsAt.same {H H' : Hp} {cs : List Row} {ss : List Addr} (h : SplitsAt H cs ss) (s : Same H H') : SplitsAt H' cs ss :=
  ⟨h.len, fun i c x e1 e2 => let ⟨qs, a, b⟩ := h.at_ i c x e1 e2; ⟨qs, s _ _ a, fun k hk => let ⟨q, z1, z2⟩ := b k hk; ⟨q, z1, s _ _ z2⟩⟩⟩
theorem ints_refs {H : Hp} {D q : Addr} {ns : List Int} {ss : List Addr} (hD : H D = some (.lst (ss.map V.ref))) (hq : H q = some (.lst (ns.map V.int))) (h1 : 1 ≤ ns.length) : q ≠ D := fun z => by
  rw [z, hD] at hq
  cases ns with
  | nil => simp at h1
  | cons n r =>
    cases ss with
    | nil => simp at hq
    | cons a t => simp at hq
theorem cut_to (ds : List V) {n : Nat} (h : n ≤ ds.length) : cutV ds none (some (n : Int)) = ds.take n := by
  unfold cutV
  rw [HT.sIx_none, HT.sIx_nat, List.drop_zero, Nat.sub_zero, Nat.min_eq_left h]
theorem filterMap_const {α β : Type} (l : List α) (v : β) : l.filterMap (fun _ => some v) = List.replicate l.length v := by
  induction l with
  | nil => rfl
  | cons a r ih => simp [List.filterMap_cons, ih, List.replicate_succ]
theorem CovsAt.pick {K : PySem.W.Frag} {H : Hp} {us : List V} {cs : List Row} (h : CovsAt K H us cs) (f : Nat → Nat) : ∀ n, (∀ i, i < n → f i < cs.length) → CovsAt K H ((List.range n).filterMap fun i => us[f i]?) ((List.range n).filterMap fun i => cs[f i]?)
  | 0, _ => CovsAt.nil
  | n + 1, hn => by
    obtain ⟨c, hc⟩ := get_some (hn n (Nat.lt_succ_self _))
    obtain ⟨v, hv, hcv⟩ := h.at_ _ _ hc
    have ih := CovsAt.pick h f n fun i hi => hn i (by omega)
    have e1 : (List.range (n + 1)).filterMap (fun i => us[f i]?) = (List.range n).filterMap (fun i => us[f i]?) ++ [v] := by rw [List.range_succ, List.filterMap_append]; simp [hv]
    have e2 : (List.range (n + 1)).filterMap (fun i => cs[f i]?) = (List.range n).filterMap (fun i => cs[f i]?) ++ [c] := by rw [List.range_succ, List.filterMap_append]; simp [hc]
    rw [e1, e2]
    exact ih.snoc hcv
theorem mem_pick {cs : List Row} {f : Nat → Nat} {n : Nat} {c : Row} (h : c ∈ (List.range n).filterMap fun i => cs[f i]?) : c ∈ cs := by
  obtain ⟨i, _, e⟩ := List.mem_filterMap.mp h
  exact List.mem_of_getElem? e
theorem make_same {H H' : Hp} {x dx : Addr} {o1 o2 : HO} (hx : H x = none) (hdx : H dx = none) (s : ∀ b o, b ≠ x → (upd (upd H dx o2) x o1) b = some o → H' b = some o) : Same H H' := fun b o e =>
  s b o (ne_of_none e hx) (by rw [upd_ne (ne_of_none e hx), upd_ne (ne_of_none e hdx)]; exact e)
theorem make_pre {H : Hp} {x dx : Addr} {o1 o2 : HO} (hx : H x = none) (hdx : H dx = none) : Same H (upd (upd H dx o2) x o1) := fun b o e => by
  rw [upd_ne (ne_of_none e hx), upd_ne (ne_of_none e hdx)]; exact e
section
variable {F : Addr → Prop} {C : Addr} {K : PySem.W.Frag} {H H' : Hp} {t : Addr} {h : Nat} {cs : List Row} {ls : List Int}
end
end Rc
namespace Rc
open PySem PySem.Spec PyProof.Rows L2
theorem takeZ_bd {k : Str} {b m r : Int} (h : measB k b m = true) (h0 : 0 ≤ r) : 0 ≤ takeZ k b m r ∧ takeZ k b m r ≤ r ∧ takeZ k b m r ≤ m := by
  obtain ⟨hk, m0, m24⟩ := measB_cases h
  have hw : 0 ≤ wishZ k b r ∧ wishZ k b r ≤ r := by
    unfold wishZ
    rcases hk with ⟨rfl, b1, b2⟩ | ⟨rfl, b1, b2⟩
    · rw [if_pos rfl]
      have h1 : 0 ≤ r * b := Int.mul_nonneg h0 (by omega)
      have h2 : r * b ≤ r * 100 := Int.mul_le_mul_of_nonneg_left b2 h0
      omega
    · rw [if_neg (fun z => share_ne z.symm)]
      split <;> omega
  unfold takeZ
  split <;> omega
def passL (cs : List Row) (l0 : List Int) : Nat → List Int × List Int
  | 0 => (l0, [])
  | i + 1 => match cs[i]? with
    | none => passL cs l0 i
    | some c => ((passL cs l0 i).1.set c.1.toNat ((passL cs l0 i).1.getD c.1.toNat 0 - takeZ c.2.1 c.2.2.1 c.2.2.2.1 ((passL cs l0 i).1.getD c.1.toNat 0)), (passL cs l0 i).2 ++ [takeZ c.2.1 c.2.2.1 c.2.2.2.1 ((passL cs l0 i).1.getD c.1.toNat 0)])
theorem passL_succ {cs : List Row} {l0 : List Int} {i : Nat} {c : Row} (h : cs[i]? = some c) : passL cs l0 (i + 1) = ((passL cs l0 i).1.set c.1.toNat ((passL cs l0 i).1.getD c.1.toNat 0 - takeZ c.2.1 c.2.2.1 c.2.2.2.1 ((passL cs l0 i).1.getD c.1.toNat 0)), (passL cs l0 i).2 ++ [takeZ c.2.1 c.2.2.1 c.2.2.2.1 ((passL cs l0 i).1.getD c.1.toNat 0)]) := by
  rw [passL, h]
theorem passL_len1 (cs : List Row) (l0 : List Int) : ∀ i, (passL cs l0 i).1.length = l0.length
  | 0 => rfl
  | i + 1 => by
    cases h : cs[i]? with
    | none => rw [passL, h]; exact passL_len1 cs l0 i
    | some c => rw [passL_succ h, List.length_set]; exact passL_len1 cs l0 i
theorem passL_len2 (cs : List Row) (l0 : List Int) : ∀ i, i ≤ cs.length → (passL cs l0 i).2.length = i
  | 0, _ => rfl
  | i + 1, hi => by
    obtain ⟨c, h⟩ := get_some (xs := cs) hi
    rw [passL_succ h, List.length_append, passL_len2 cs l0 i (by omega)]; rfl
theorem getD_mem {l : List Int} {j : Nat} (h : j < l.length) : l.getD j 0 ∈ l := by
  rw [getD_of (List.getElem?_eq_getElem h)]; exact List.getElem_mem h
theorem getD_bd {l : List Int} {B : Int} (h : ∀ x ∈ l, 0 ≤ x ∧ x ≤ B) (hB : 0 ≤ B) (j : Nat) : 0 ≤ l.getD j 0 ∧ l.getD j 0 ≤ B := by
  by_cases hj : j < l.length
  · exact h _ (getD_mem hj)
  · rw [List.getD_eq_getElem?_getD, List.getElem?_eq_none (by omega)]; exact ⟨Int.le_refl _, hB⟩
theorem passL_bd {cs : List Row} {l0 : List Int} {B h : Int} (hb : ∀ x ∈ l0, 0 ≤ x ∧ x ≤ B) (hB : 0 ≤ B) (hg : ∀ c ∈ cs, GoodC h c) : ∀ i, ∀ x ∈ (passL cs l0 i).1, 0 ≤ x ∧ x ≤ B
  | 0 => hb
  | i + 1 => by
    have ih := passL_bd hb hB hg i
    cases e : cs[i]? with
    | none => rw [passL, e]; exact ih
    | some c =>
      have gc := hg c (List.mem_of_getElem? e)
      rw [passL_succ e]
      intro x hx
      have g1 := getD_bd ih hB c.1.toNat
      rcases List.mem_or_eq_of_mem_set hx with hx | rfl
      · exact ih x hx
      · have := takeZ_bd gc.ms g1.1
        omega
theorem passL_get {cs : List Row} {l0 : List Int} {B h : Int} (hb : ∀ x ∈ l0, 0 ≤ x ∧ x ≤ B) (hB : 0 ≤ B) (hg : ∀ c ∈ cs, GoodC h c) : ∀ i, i ≤ cs.length → ∀ (j : Nat) (c : Row) (b : Int), cs[j]? = some c → (passL cs l0 i).2[j]? = some b → 0 ≤ b ∧ b ≤ c.2.2.2.1
  | 0, _, j, c, b, _, e => by simp [passL] at e
  | i + 1, hi, j, c, b, e1, e2 => by
    obtain ⟨c', h'⟩ := get_some (xs := cs) hi
    have ih := passL_get hb hB hg i (by omega) j c b e1
    have hl := passL_len2 cs l0 i (by omega)
    rw [passL_succ h'] at e2
    by_cases hj : j < i
    · rw [List.getElem?_append_left (by omega)] at e2; exact ih e2
    · have hlt := get_lt e2
      rw [List.length_append, hl, List.length_singleton] at hlt
      have ej : j = i := by omega
      subst ej
      rw [List.getElem?_append_right (by omega), hl, Nat.sub_self] at e2
      simp at e2; subst e2
      rw [h'] at e1; cases e1
      have g1 := getD_bd (passL_bd hb hB hg j) hB c.1.toNat
      have := takeZ_bd (hg c (List.mem_of_getElem? h')).ms g1.1
      exact ⟨this.1, this.2.2⟩
theorem cnt_bd (L : List (Int × Int)) (n j : Nat) : 0 ≤ cnt L n j ∧ cnt L n j ≤ n := by
  unfold cnt
  have := List.count_le_length (a := (j : Int)) (l := bearersL L n)
  rw [bearersL_len] at this
  omega
theorem crs_bd {cs : List Row} {acc : List Int} {h : Int} (hg : ∀ c ∈ cs, GoodC h c) (hA : AccOk cs acc) (j : Nat) : ∀ i, 0 ≤ crs cs acc i j ∧ crs cs acc i j ≤ 24 * i
  | 0 => by simp [crs]
  | i + 1 => by
    have ih := crs_bd hg hA j i
    rw [crs]
    cases e : cs[i]? with
    | none => rw [crOf]; omega
    | some c =>
      have hi := get_lt e
      obtain ⟨b, hb⟩ := get_some (xs := acc) (i := i) (by rw [hA.len]; exact hi)
      have hbd := hA.bd i c b e hb
      have gm := (hg c (List.mem_of_getElem? e)).most
      rw [getD_of hb, crOf]
      have := cnt_bd c.2.2.2.2 b.toNat j
      omega
theorem burd_bd {h : Nat} {cs : List Row} {ls acc : List Int} (g : GoodT h cs ls) (hA : AccOk cs acc) : ∀ x ∈ burdL cs ls acc, 0 ≤ x ∧ x ≤ 10239 := fun x hx => by
  obtain ⟨j, hj⟩ := List.mem_iff_getElem?.mp hx
  unfold burdL at hj
  rw [plusF_getE] at hj
  obtain ⟨y, hy, rfl⟩ := Option.map_eq_some_iff.mp hj
  have h1 := g.lb y (List.mem_of_getElem? hy)
  have h2 := crs_bd g.cov hA j cs.length
  have h3 := g.c10
  omega
def askL (cs : List Row) (ls acc : List Int) : List Int := (passL cs (burdL cs ls acc) cs.length).2
theorem askL_ok {h : Nat} {cs : List Row} {ls acc : List Int} (g : GoodT h cs ls) (hA : AccOk cs acc) : AccOk cs (askL cs ls acc) :=
  ⟨passL_len2 _ _ _ (Nat.le_refl _), passL_get (burd_bd g hA) (by decide) g.cov _ (Nat.le_refl _)⟩
end Rc
namespace Rc
open PySem PySem.Spec PyProof.Rows L2
inductive LeL : List Int → List Int → Prop
  | nil : LeL [] []
  | cons {x y : Int} {a b : List Int} : x ≤ y → LeL a b → LeL (x :: a) (y :: b)
theorem LeL.get {a b : List Int} (h : LeL a b) : ∀ i, a.getD i 0 ≤ b.getD i 0 := by
  induction h with
  | nil => intro i; exact Int.le_refl _
  | cons h1 _ ih =>
    intro i
    cases i with
    | zero => exact h1
    | succ i => simpa using ih i
theorem LeL.of : ∀ {a b : List Int}, a.length = b.length → (∀ i, i < a.length → a.getD i 0 ≤ b.getD i 0) → LeL a b
  | [], [], _, _ => .nil
  | [], _ :: _, h, _ => by simp at h
  | _ :: _, [], h, _ => by simp at h
  | x :: a, y :: b, h, hl => .cons (by simpa using hl 0 (by simp)) (LeL.of (by simpa using h) fun i hi => by simpa using hl (i + 1) (by simpa using hi))
theorem LeL.set {a b : List Int} {x y : Int} (h : LeL a b) (hx : x ≤ y) : ∀ j, LeL (a.set j x) (b.set j y) := by
  induction h with
  | nil => intro j; exact .nil
  | cons h1 h2 ih =>
    intro j
    cases j with
    | zero => exact .cons hx h2
    | succ j => exact .cons h1 (ih j)
theorem LeL.snoc {a b : List Int} {x y : Int} (h : LeL a b) (hx : x ≤ y) : LeL (a ++ [x]) (b ++ [y]) := by
  induction h with
  | nil => exact .cons hx .nil
  | cons h1 _ ih => exact .cons h1 ih
theorem LeL.sum {a b : List Int} (h : LeL a b) : a.sum ≤ b.sum := by
  induction h with
  | nil => exact Int.le_refl _
  | cons h1 _ ih => rw [List.sum_cons, List.sum_cons]; omega
theorem LeL.sum_lt {a b : List Int} (h : LeL a b) : a ≠ b → a.sum < b.sum := by
  induction h with
  | nil => intro h; exact absurd rfl h
  | @cons x y a b h1 h2 ih =>
    intro hne
    rw [List.sum_cons, List.sum_cons]
    by_cases e : a = b
    · subst e
      have : x ≠ y := fun z => hne (by rw [z])
      omega
    · have := ih e; omega
theorem wishZ_lip {k : Str} {b m r r' : Int} (h : measB k b m = true) (h0 : 0 ≤ r) (hr : r ≤ r') : wishZ k b r ≤ wishZ k b r' ∧ r - wishZ k b r ≤ r' - wishZ k b r' := by
  obtain ⟨hk, m0, m24⟩ := measB_cases h
  unfold wishZ
  rcases hk with ⟨rfl, b1, b2⟩ | ⟨rfl, b1, b2⟩
  · rw [if_pos rfl, if_pos rfl]
    have h1 : r * b ≤ r' * b := Int.mul_le_mul_of_nonneg_right hr (by omega)
    have h2 : (r' - r) * b ≤ (r' - r) * 100 := Int.mul_le_mul_of_nonneg_left b2 (by omega)
    rw [Int.sub_mul] at h2
    omega
  · have e : ¬ ("layer" : Str) = "share" := fun z => share_ne z.symm
    simp only [if_neg e]
    split <;> split <;> omega
theorem takeZ_lip {k : Str} {b m r r' : Int} (h : measB k b m = true) (h0 : 0 ≤ r) (hr : r ≤ r') : takeZ k b m r ≤ takeZ k b m r' ∧ r - takeZ k b m r ≤ r' - takeZ k b m r' := by
  have := wishZ_lip h h0 hr
  unfold takeZ
  split <;> split <;> omega
theorem cnt_mono (L : List (Int × Int)) {n n' : Nat} (h : n ≤ n') (j : Nat) : cnt L n j ≤ cnt L n' j := by
  unfold cnt
  rw [← bearersL_take L h]
  have := (List.take_sublist n (bearersL L n')).count_le (j : Int)
  omega
theorem crs_mono {cs : List Row} {acc acc' : List Int} (h : LeL acc acc') (j : Nat) : ∀ i, crs cs acc i j ≤ crs cs acc' i j
  | 0 => Int.le_refl _
  | i + 1 => by
    have ih := crs_mono h (cs := cs) j i
    rw [crs, crs]
    have hg := h.get i
    cases e : cs[i]? with
    | none => rw [crOf, crOf]; omega
    | some c =>
      rw [crOf, crOf]
      have := cnt_mono c.2.2.2.2 (n := (acc.getD i 0).toNat) (n' := (acc'.getD i 0).toNat) (by omega) j
      omega
theorem plusF_mono {ls : List Int} {f g : Nat → Int} (h : ∀ j, f j ≤ g j) : LeL (plusF ls f) (plusF ls g) :=
  LeL.of (by rw [plusF_len, plusF_len]) fun i hi => by
    rw [plusF_len] at hi
    rw [plusF_get _ _ _ hi, plusF_get _ _ _ hi]; have := h i; omega
theorem burd_mono {cs : List Row} {ls acc acc' : List Int} (h : LeL acc acc') : LeL (burdL cs ls acc) (burdL cs ls acc') := plusF_mono fun j => crs_mono h j _
theorem passL_mono {cs : List Row} {l l' : List Int} {B h : Int} (hb : ∀ x ∈ l, 0 ≤ x ∧ x ≤ B) (hB : 0 ≤ B) (hg : ∀ c ∈ cs, GoodC h c) (hl : LeL l l') : ∀ i, LeL (passL cs l i).1 (passL cs l' i).1 ∧ LeL (passL cs l i).2 (passL cs l' i).2
  | 0 => ⟨hl, .nil⟩
  | i + 1 => by
    obtain ⟨i1, i2⟩ := passL_mono hb hB hg hl i
    cases e : cs[i]? with
    | none => rw [passL, e, passL, e]; exact ⟨i1, i2⟩
    | some c =>
      have gc := hg c (List.mem_of_getElem? e)
      have g1 := getD_bd (passL_bd hb hB hg i) hB c.1.toNat
      have := takeZ_lip gc.ms g1.1 (i1.get c.1.toNat)
      rw [passL_succ e, passL_succ e]
      exact ⟨i1.set this.2 _, i2.snoc this.1⟩
theorem askL_mono {h : Nat} {cs : List Row} {ls acc acc' : List Int} (g : GoodT h cs ls) (hA : AccOk cs acc) (hl : LeL acc acc') : LeL (askL cs ls acc) (askL cs ls acc') :=
  (passL_mono (burd_bd g hA) (by decide) g.cov (burd_mono hl) _).2
def iterL (cs : List Row) (ls acc : List Int) : Nat → List Int
  | 0 => acc
  | n + 1 => askL cs ls (iterL cs ls acc n)
section
variable {h : Nat} {cs : List Row} {ls acc : List Int}
theorem iter_ok (g : GoodT h cs ls) (hA : AccOk cs acc) : ∀ n, AccOk cs (iterL cs ls acc n)
  | 0 => hA
  | n + 1 => askL_ok g (iter_ok g hA n)
theorem iter_fix {n : Nat} (e : iterL cs ls acc (n + 1) = iterL cs ls acc n) : ∀ k, iterL cs ls acc (n + k) = iterL cs ls acc n
  | 0 => rfl
  | k + 1 => by rw [show n + (k + 1) = (n + k) + 1 from rfl, iterL, iter_fix e k]; exact e
theorem iter_up (g : GoodT h cs ls) (hA : AccOk cs acc) (hu : LeL acc (askL cs ls acc)) : ∀ n, LeL (iterL cs ls acc n) (iterL cs ls acc (n + 1))
  | 0 => hu
  | n + 1 => askL_mono g (iter_ok g hA n) (iter_up g hA hu n)
theorem iter_down (g : GoodT h cs ls) (hA : AccOk cs acc) (hu : LeL (askL cs ls acc) acc) : ∀ n, LeL (iterL cs ls acc (n + 1)) (iterL cs ls acc n)
  | 0 => hu
  | n + 1 => askL_mono g (iter_ok g hA (n + 1)) (iter_down g hA hu n)
def mostsL (cs : List Row) : List Int := cs.map fun c => c.2.2.2.1
theorem AccOk.le (hA : AccOk cs acc) : LeL acc (mostsL cs) := LeL.of (by unfold mostsL; rw [List.length_map]; exact hA.len) fun i hi => by
  have hi' : i < cs.length := by rw [← hA.len]; exact hi
  have e1 := List.getElem?_eq_getElem hi
  have e2 := List.getElem?_eq_getElem hi'
  unfold mostsL
  rw [getD_of e1, getD_of (show (cs.map fun c => c.2.2.2.1)[i]? = some cs[i].2.2.2.1 by rw [List.getElem?_map, e2]; rfl)]
  exact (hA.bd i _ _ e2 e1).2
theorem AccOk.zero (hA : AccOk cs acc) : LeL (List.replicate cs.length 0) acc := LeL.of (by rw [List.length_replicate]; exact hA.len.symm) fun i hi => by
  rw [List.length_replicate] at hi
  have e1 := List.getElem?_eq_getElem (l := acc) (i := i) (by rw [hA.len]; exact hi)
  rw [getD_of e1, getD_of (show (List.replicate cs.length (0 : Int))[i]? = some 0 by simp [hi])]
  exact (hA.bd i _ _ (List.getElem?_eq_getElem hi) e1).1
theorem sum_le24 : ∀ {l : List Int}, (∀ x ∈ l, x ≤ 24) → l.sum ≤ 24 * (l.length : Int)
  | [], _ => by simp
  | x :: r, h => by
    have ih := sum_le24 (l := r) fun y hy => h y (List.mem_cons_of_mem _ hy)
    have := h x List.mem_cons_self
    rw [List.sum_cons, List.length_cons]; omega
theorem AccOk.sums (g : GoodT h cs ls) (hA : AccOk cs acc) : 0 ≤ acc.sum ∧ acc.sum ≤ 240 := by
  have h1 := hA.le.sum
  have h2 := hA.zero.sum
  rw [Mt.sum_replicate0] at h2
  have h3 : (mostsL cs).sum ≤ 24 * ((mostsL cs).length : Int) := sum_le24 fun x hx => by
    unfold mostsL at hx
    obtain ⟨c, hc, rfl⟩ := List.mem_map.mp hx
    exact (g.cov c hc).most.2
  have h4 : (mostsL cs).length = cs.length := List.length_map _
  have h5 := g.c10
  rw [h4] at h3
  omega
def comeL (cs : List Row) (ls acc : List Int) : List Int := iterL cs ls acc 241
def Moves (cs : List Row) (ls acc : List Int) : Prop := LeL acc (askL cs ls acc) ∨ LeL (askL cs ls acc) acc
theorem iter_stop (g : GoodT h cs ls) (hA : AccOk cs acc) (hm : Moves cs ls acc) {n : Nat} (hne : iterL cs ls acc (n + 1) ≠ iterL cs ls acc n) : n < 240 := by
  have back : ∀ n, iterL cs ls acc (n + 2) ≠ iterL cs ls acc (n + 1) → iterL cs ls acc (n + 1) ≠ iterL cs ls acc n := fun n hn z => hn (iter_fix z 2 |>.trans (iter_fix z 1).symm)
  rcases hm with hu | hd
  · have key : ∀ n, iterL cs ls acc (n + 1) ≠ iterL cs ls acc n → (n : Int) + 1 ≤ (iterL cs ls acc (n + 1)).sum := fun n => by
      induction n with
      | zero =>
        intro hn
        have := (iter_up g hA hu 0).sum_lt (Ne.symm hn)
        have := (AccOk.sums g (iter_ok g hA 0)).1
        omega
      | succ n ih =>
        intro hn
        have h1 := ih (back n hn)
        have := (iter_up g hA hu (n + 1)).sum_lt (Ne.symm hn)
        push_cast; omega
    have h1 := key n hne
    have h2 := (AccOk.sums g (iter_ok g hA (n + 1))).2
    omega
  · have key : ∀ n, iterL cs ls acc (n + 1) ≠ iterL cs ls acc n → (iterL cs ls acc (n + 1)).sum ≤ 240 - ((n : Int) + 1) := fun n => by
      induction n with
      | zero =>
        intro hn
        have := (iter_down g hA hd 0).sum_lt hn
        have := (AccOk.sums g (iter_ok g hA 0)).2
        simp at *; omega
      | succ n ih =>
        intro hn
        have h1 := ih (back n hn)
        have := (iter_down g hA hd (n + 1)).sum_lt hn
        push_cast; omega
    have h1 := key n hne
    have h2 := (AccOk.sums g (iter_ok g hA (n + 1))).1
    omega
theorem come_fix (g : GoodT h cs ls) (hA : AccOk cs acc) (hm : Moves cs ls acc) : askL cs ls (comeL cs ls acc) = comeL cs ls acc := by
  by_cases e : iterL cs ls acc (241 + 1) = iterL cs ls acc 241
  · exact e
  · have := iter_stop g hA hm e; omega
theorem come_of (g : GoodT h cs ls) (hA : AccOk cs acc) (hm : Moves cs ls acc) {n : Nat} (e : iterL cs ls acc (n + 1) = iterL cs ls acc n) : iterL cs ls acc n = comeL cs ls acc := by
  by_cases hn : n ≤ 241
  · have := iter_fix e (241 - n)
    rw [show n + (241 - n) = 241 by omega] at this
    exact this.symm
  · have := iter_fix (n := 241) (come_fix g hA hm) (n - 241)
    rw [show 241 + (n - 241) = n by omega] at this
    exact this
theorem acc_zero (g : GoodT h cs ls) : AccOk cs (List.replicate cs.length 0) := ⟨List.length_replicate, fun i c b e1 e2 => by
  rw [List.getElem?_replicate] at e2
  split at e2
  · cases e2; exact ⟨Int.le_refl _, (g.cov c (List.mem_of_getElem? e1)).most.1⟩
  · cases e2⟩
theorem moves_zero (g : GoodT h cs ls) : Moves cs ls (List.replicate cs.length 0) := .inl (askL_ok g (acc_zero g)).zero
end
end Rc
namespace Rc
open PySem PySem.Spec PyProof.Rows L2
section
variable {h : Nat} {cs : List Row} {ls acc : List Int} {f : Int → Int → Int}
end
end Rc
namespace Rc
open PySem PySem.Spec PyProof.Rows L2
section
variable {h : Nat} {cs : List Row} {ls acc : List Int}
theorem come_ok (g : GoodT h cs ls) (hA : AccOk cs acc) : AccOk cs (comeL cs ls acc) := iter_ok g hA 241
end
end Rc
namespace Rc
open PySem PySem.Spec PyProof.Rows L2
section
variable {h : Nat} {cs : List Row} {ls acc : List Int}
def leastL (cs : List Row) (ls : List Int) : List Int := comeL cs ls (List.replicate cs.length 0)
theorem least_ok (g : GoodT h cs ls) : AccOk cs (leastL cs ls) := come_ok g (acc_zero g)
def moreL (ls : List Int) (j : Nat) (k : Int) : List Int := ls.set j (ls.getD j 0 + k)
theorem moreL_len (ls : List Int) (j : Nat) (k : Int) : (moreL ls j k).length = ls.length := List.length_set
theorem more_good (g : GoodT h cs ls) {j : Nat} {k : Int} (h0 : 0 ≤ ls.getD j 0 + k) (h9 : ls.getD j 0 + k ≤ 9999) : GoodT h cs (moreL ls j k) :=
  ⟨g.h1, g.h6, g.c10, g.cov, by rw [moreL_len]; exact g.ll, fun x hx => by
    unfold moreL at hx
    rcases List.mem_or_eq_of_mem_set hx with hx | rfl
    · exact g.lb x hx
    · exact ⟨h0, h9⟩⟩
end
end Rc
namespace Rc
open PySem PySem.Spec PyProof.Rows L2
section
variable {C : Addr} {K : PySem.W.Frag} {H H' : Hp} {dh r lo sp x : Addr} {ds : List Int} {us : List V} {cs : List Row} {ls : List Int} {ss : List Addr} {h : Nat}
end
theorem upd_same_of {H H1 : Hp} {r : Addr} {o : HO} (s : Same H H1) (hr : H r = none) : Same H (upd H1 r o) := fun b o e => by rw [upd_ne (ne_of_none e hr)]; exact s b o e
end Rc
namespace Rc
open PySem PySem.Spec PyProof.Rows L2
section
variable {h : Nat} {cs : List Row} {ls a b c : List Int}
end
end Rc
namespace Rc
open PySem PySem.Spec PyProof.Rows L2
section
variable {h : Nat} {cs : List Row} {ls acc : List Int}
end
end Rc
namespace Rc
open PySem PySem.Spec PyProof.Rows L2
section
variable {CT CR : Addr} {K : PySem.W.Frag} {H H' : Hp} {x s t : Addr} {h : Nat} {cs : List Row} {ls acc : List Int}
end
section
variable {K : PySem.W.Frag} {H H' : Hp} {vs : List V} {L : List (Int × Int)}
end
section
variable {F G : Addr → Prop} {C : Addr} {K : PySem.W.Frag} {H H' : Hp} {t s : Addr} {h : Nat} {cs : List Row} {ls acc : List Int}
end
end Rc
namespace Rc
open PySem PySem.Spec PyProof.Rows L2
section
variable {F : Addr → Prop} {C : Addr} {K : PySem.W.Frag} {H H' : Hp} {t : Addr} {h : Nat} {cs : List Row} {ls : List Int}
end
section
variable {n hop : Nat} {kind : Str} {b : Int} {ms ws : Nat → Int} {cs : List Row} {acc : List Int}
end
end Rc
namespace Rc
open PySem PySem.Spec PyProof.Rows L2
section
variable {h : Nat} {cs : List Row} {ls a b : List Int}
end
end Rc
namespace L2
open PySem PySem.Spec PyProof.Rows
section
variable {P : Program} {w : World} {H H' : Hp} {h h' : Heap} {a : Addr} {o : HO}
theorem ObjOk.some (x : ObjOk P w H h a o) : ∃ ob, h.get? a = some ob := by
  induction o with
  | lst xs => obtain ⟨z, its, n, r, e⟩ := x; exact ⟨_, e⟩
  | tup xs => obtain ⟨z, its, r, ob, e, c⟩ := x; exact ⟨_, e⟩
  | dK kvs => obtain ⟨z, y, vs, r, ob, es, ep, e, c⟩ := x; exact ⟨_, e⟩
  | dT kvs => obtain ⟨z, y, xs, r, ob, es, ep, e, c⟩ := x; exact ⟨_, e⟩
  | set S n => obtain ⟨ob, es, ep, t, e, c⟩ := x; exact ⟨_, e⟩
  | ins C dx fs => obtain ⟨d, z, ne, e, mA, ⟨od, es, ep, e2, c⟩, r⟩ := x; exact ⟨_, e⟩
  | own y => exact x
  | xd fs => obtain ⟨mA, ⟨od, es, ep, e, c⟩, r⟩ := x; exact ⟨_, e⟩
  | rng lo hi => obtain ⟨t, u, v, e⟩ := x; exact ⟨_, e⟩
  | frz ob u ih => obtain ⟨e, q⟩ := x; exact ⟨_, e⟩
  | tbl ps => exact ⟨_, x⟩
  | met f y => exact ⟨_, x⟩
  | ext φ => obtain ⟨p, e, st⟩ := x; exact e
theorem HOk.keptT (x : HOk P w H h) (k : ∀ b u, H b ≠ none → h.get? b = some u → h'.get? b = some u) : HOk P w H h' := fun a o e =>
  (x a o e).stay (fun b u hb => k b u (by rcases hb with rfl | hb <;> simp [*])) (fun _ q => q) (fun _ _ q => q)
theorem HOk.none (x : HOk P w H h) (e : h.get? a = none) : H a = none := by
  cases q : H a with
  | none => rfl
  | some o => obtain ⟨ob, z⟩ := (x a o q).some; rw [e] at z; cases z
end
theorem Un.fly {fs : List Addr} {H₀ H : Hp} {h₀ h1 h2 : Heap} (u : Un fs [] H₀ H h₀ h1) (k : ∀ b o o', h₀.get? b = some o' → h1.get? b = some o → b ∉ fs → h2.get? b = some o)
    (sl : ∀ b o, h1.get? b = some o → b ∈ fs → ∃ sl, h2.get? b = some { o with slots := sl }) : Un fs [] H₀ H h₀ h2 where
  keep := fun b o q n hb hx => k b o o q (u.keep b o q n hb hx) hb
  slot := fun b o q n hb hx => by
    obtain ⟨s1, e1⟩ := u.slot b o q n hb hx
    obtain ⟨s2, e2⟩ := sl b _ e1 hb
    exact ⟨s2, e2⟩
  free := u.free
  there := fun b o q hx => by
    obtain ⟨o', e1⟩ := u.there b o q hx
    by_cases hb : b ∈ fs
    · obtain ⟨s2, e2⟩ := sl b _ e1 hb; exact ⟨_, e2⟩
    · exact ⟨_, k b o' o q e1 hb⟩
  tups := u.tups
  frzs := u.frzs
  tbls := u.tbls
def CXW (P : Program) (w : World) : CXT := fun outer H s E e s' => ∃ (a C t : Addr) (H' : Hp) (B : Heap), e = .ref a ∧ s'.os = s.os ∧ AllBare s'.gens ∧ Un (frs outer) [] H H' s.heap s'.heap ∧ HOk P w H' s'.heap ∧ H' a = none ∧ s.heap.get? a = none ∧
  Heap.FlyingW B outer a (.ref C) (.ref t) s'.heap ∧ (∀ b o, s'.heap.get? b = some o → b ∉ frs outer → ((∃ o', s.heap.get? b = some o') ∨ H' b ≠ none) → B.get? b = some o) ∧ E (.ref C) none H'
structure Cx.Flies (X : Cx) (E : XK) : Prop where
  ex : X.ex = []
  stk : X.stack = X.env :: X.outer
  fr : X.env.frame = some X.env.locals
  xe : ∀ e s', wpAny (model X.prog X.w) X.A (leaving X.env e) (fun _ s'' => CXW X.prog X.w X.outer X.H₀ X.s₀ E e s'') (fun _ _ => False) s' → X.xe e s'
section
variable {X : Cx} {pins : List (Addr × Obj)} {σ : St} {H : Hp} {s s' : Shared} {E E1 : XK} {a C : Addr} {args : List Value}
theorem Inv.notLoc (I : Inv X pins σ H s) (F : X.Flies E) {b : Addr} {o : Obj} (e : X.s₀.heap.get? b = some o) (n : b ∉ frs X.outer) : b ∉ frs X.stack := by
  rw [F.stk]
  intro z
  have : b ∈ X.env.locals :: frs X.outer := by
    have q : frs (X.env :: X.outer) = X.env.locals :: frs X.outer := by unfold frs; rw [List.filterMap_cons, F.fr]
    rw [q] at z; exact z
  rcases List.mem_cons.mp this with rfl | z
  · have := Heap.lt_size e
    exact absurd I.ok.above (Nat.not_le_of_lt this)
  · exact n z
theorem Inv.baseN (I : Inv X pins σ H s) (F : X.Flies E) : Un (frs X.outer) [] X.H₀ H X.s₀.heap s.heap := by
  have := I.base
  rw [F.ex] at this
  exact this
theorem Inv.slots (I : Inv X pins σ H s) {h2 : Heap} (k : s.heap.UpToSlots h2) : ∀ b o, s.heap.get? b = some o → b ∈ frs X.outer → ∃ sl, h2.get? b = some { o with slots := sl } := fun b o e hb => by
  obtain ⟨_, o', e', nf⟩ := I.funs.mem hb
  rw [e] at e'
  cases e'
  exact k b o e nf
theorem Inv.madeX (I : Inv X pins σ H s) (F : X.Flies E) {h' : Heap} (m : Heap.MadeExcOf s.heap h' a (.ref C) args) (q : E (.ref C) none H) : X.xe (.ref a) { s with heap := h' } := by
  refine F.xe _ _ (wpAny_leaves_madeW (h := s.heap) (base := PySem.W.hideAll s.heap (frs X.stack)) (by rw [I.ok.frames, F.stk]) F.fr (fun b o e => PySem.W.of_hideAll _ e) ?_ m fun h2 t fl tp nt up => ?_)
  · have := PySem.W.funFrames_hide I.stack (as := frs X.stack) fun env he b hb => List.mem_filterMap.mpr ⟨env, he, hb⟩
    rw [F.stk] at this ⊢
    exact this
  have inB : ∀ b o, s.heap.get? b = some o → b ∉ frs X.stack → (PySem.W.hideAll s.heap (frs X.stack)).get? b = some o := fun b o e n => PySem.W.hideAll_get _ e n
  have trk : ∀ b, H b ≠ none → b ∉ frs X.stack := fun b hb z => hb (I.stkFree b z)
  have up' : s.heap.UpToSlots h2 := (Heap.UpToSlots.of_keeps m.keeps).trans up
  refine ⟨a, C, t, H, _, rfl, I.os, I.bare, ?_, ?_, I.hok.none m.new, ?_, fl, ?_, q⟩
  · exact (I.baseN F).fly (fun b o o' e0 e1 n => fl.1 b o (inB b o e1 (I.notLoc F e0 n))) (I.slots up')
  · exact I.hok.keptT fun b u hb e => fl.1 b u (inB b u e (trk b hb))
  · cases e : X.s₀.heap.get? a with
    | none => rfl
    | some o => obtain ⟨o', e'⟩ := (I.baseN F).there a o e (by simp); rw [m.new] at e'; cases e'
  · intro b o e n hb
    have : ∃ o', s.heap.get? b = some o' ∧ b ∉ frs X.stack := by
      rcases hb with ⟨o0, e0⟩ | hb
      · obtain ⟨o', e'⟩ := (I.baseN F).there b o0 e0 (by simp)
        exact ⟨o', e', I.notLoc F e0 n⟩
      · obtain ⟨u, hu⟩ := Option.ne_none_iff_exists'.mp hb
        obtain ⟨o', e'⟩ := (I.hok b u hu).some
        exact ⟨o', e', trk b hb⟩
    obtain ⟨o', e', nn⟩ := this
    have z := fl.1 b o' (inB b o' e' nn)
    have z : h2.get? b = some o' := z
    have e : h2.get? b = some o := e
    rw [e] at z
    cases z
    exact inB b o e' nn
theorem Inv.arrive (I : Inv X pins σ H s) {e : Value} (h : CXW X.prog X.w X.stack H s E1 e s') : ∃ (a C t : Addr) (H' : Hp) (B : Heap), e = .ref a ∧ Inv X pins σ H' s' ∧ H' a = none ∧ s.heap.get? a = none ∧
    Heap.FlyingW B X.stack a (.ref C) (.ref t) s'.heap ∧ (∀ b o, s'.heap.get? b = some o → b ∉ frs X.stack → ((∃ o', s.heap.get? b = some o') ∨ H' b ≠ none) → B.get? b = some o) ∧ E1 (.ref C) none H' ∧ Un (frs X.stack) [] H H' s.heap s'.heap := by
  obtain ⟨a, C, t, H', B, rfl, os, bare, un, hok, free, fresh, fl, all, q⟩ := h
  exact ⟨a, C, t, H', B, rfl, I.call' os un hok bare (fun b z => absurd z (by simp)), free, fresh, fl, all, q, un⟩
theorem passW (F : X.Flies E) (hE : ∀ C H', E1 (.ref C) none H' → E (.ref C) none H') : Passes (CXW X.prog X.w) X E1 := fun pins σ H s e s' I h => by
  obtain ⟨a, C, t, H', B, rfl, I', free, fresh, fl, all, q, un⟩ := I.arrive h
  refine F.xe _ _ (wpAny_leaves_onW (by rw [I.ok.frames, F.stk]) F.fr (by rw [← F.stk]; exact fl) fun h2 fl2 up => ?_)
  have inB : ∀ b o o', X.s₀.heap.get? b = some o' → s'.heap.get? b = some o → b ∉ frs X.outer → B.get? b = some o := fun b o o' e0 e n => by
    obtain ⟨o1, e1⟩ := (I.baseN F).there b o' e0 (by simp)
    exact all b o e (I.notLoc F e0 n) (.inl ⟨_, e1⟩)
  have trk : ∀ b, H' b ≠ none → b ∉ frs X.stack := fun b hb z => hb (I'.stkFree b z)
  refine ⟨a, C, t, H', B, rfl, I'.os, I'.bare, ?_, ?_, free, ?_, fl2, ?_, hE _ _ q⟩
  · exact (I'.baseN F).fly (fun b o o' e0 e1 n => fl2.1 b o (inB b o o' e0 e1 n)) (I'.slots up)
  · exact I'.hok.keptT fun b u hb e => fl2.1 b u (all b u e (trk b hb) (.inr hb))
  · cases e : X.s₀.heap.get? a with
    | none => rfl
    | some o => obtain ⟨o', e'⟩ := (I.baseN F).there a o e (by simp); rw [fresh] at e'; cases e'
  · intro b o e n hb
    have e : h2.get? b = some o := e
    have : ∃ o', B.get? b = some o' := by
      rcases hb with ⟨o0, e0⟩ | hb
      · obtain ⟨o', e'⟩ := (I'.baseN F).there b o0 e0 (by simp)
        exact ⟨o', inB b o' o0 e0 e' n⟩
      · obtain ⟨u, hu⟩ := Option.ne_none_iff_exists'.mp hb
        obtain ⟨o', e'⟩ := (I'.hok b u hu).some
        exact ⟨o', all b o' e' (trk b hb) (.inr hb)⟩
    obtain ⟨o', e'⟩ := this
    have z := fl2.1 b o' e'
    rw [e] at z
    cases z
    exact e'
end
end L2
namespace L2
open PySem PySem.Spec PyProof.Rows
theorem own_obj {K : PySem.W.Frag} {h : Heap} {C : Addr} {bmB : List Value} {newId : String} (X : K.In h) (q : PySem.W.excIn K C bmB newId = true) :
    ∃ (tl : List Value) (N : Addr) (nm qn : Str) (bs : List Value) (hdct : Bool) (sn : List Str) (sub : List Value) (ab : Bool) (col : Option Bool) (dd : Option Addr) (k0 k1 k2 k3 k5 : Option Value) (mN : Str → Option Value),
      h.get? C = some (excClassObj nm qn C N bs tl hdct sn sub ab col dd k0 k1 k2 k3 k5 newId) ∧ h.Ns N mN ∧ mN "__init__" = none ∧ OwnTail h bmB tl := by
  unfold PySem.W.excIn at q
  split at q
  · rename_i dd cd sl lk
    split at q
    · rename_i C' tl k0 k1 k2 k3 n k5 em es
      simp only [Bool.and_eq_true, beq_iff_eq, Bool.not_eq_true'] at q
      obtain ⟨⟨⟨⟨⟨q1, q2⟩, q3⟩, q4⟩, q5⟩, q6⟩ := q
      subst q1 q2
      have g := X _ _ lk
      obtain ⟨c1, c2, c3, c4, c5, c6, c7, c8, c9, c10, c11⟩ := cd
      obtain ⟨sl⟩ := sl
      dsimp only at em es q3 q5 q6
      subst em es q3
      exact ⟨tl, c4, c1, c5, c2, c6, c7, c8, c9, c10, dd, k0, k1, k2, k3, k5, _, g, .of_isNs (PySem.W.isNs_of_in X q5), PySem.W.nsMap_none_of_in X q5 q6, PySem.W.tail_of_in X q4⟩
    · cases q
  · cases q
section
variable {X : Cx} {E : XK} {x : Str} {C : Addr} {e : Expr} {es : List Expr} {t : TA} {np cpos pos : Pos} {B newId initId : String} {bmB : List Value}
def tRaise (C : Addr) (E : XK) (t : TA) : TS := fun _ σ H => t σ H fun vs H1 => vs.length ≤ sizeLine ∧ E (.ref C) none H1
theorem ps_raise (F : X.Flies E) (hc : X.calm = true) (hg : Gl X x) (hm : X.mg x = some (.ref C)) (q : PySem.W.excIn X.K C bmB newId = true) (FB : ExcBaseFacts B newId initId bmB) (ha : PA X (e :: es) t)
    (hdb : (x == ("__debug__" : Str)) = false := by decide) (he : starEach (e :: es) X.env = (false, eval e X.env) :: starEach es X.env := by rfl) (hpl : (backTo cpos (starEach es X.env)).any (·.1) = false := by rfl) :
    PS X (.Raise (some (.Call (.Name x np) (e :: es) [] cpos)) none pos) (tRaise C E t) := by
  intro pins s σ H D I h
  obtain ⟨tl, N, nm, qn, bs, hdct, sn, sub, ab, col, dd, k0, k1, k2, k3, k5, mN, hC, hN, hni, T⟩ := own_obj I.ok.mod.kin q
  refine wpAny_Raise_call_subT (C := C) (nm := nm) (q := qn) (N := N) (bs := bs) (bm := tl) (hdct := hdct) (sn := sn) (sub := sub) (ab := ab) (col := col) (dd := dd) (k0 := k0) (k1 := k1) (k2 := k2) (k3 := k3) (k5 := k5)
    FB (mN := mN) (T.hasType FB.hasBase) (I.ok.hd hc) (by rw [he]; show (false || (backTo cpos (starEach es X.env)).any (·.1)) = false; rw [hpl]; rfl) hni (ld_glob I hg hm ⟨rfl, ?_⟩ hdb)
  have h1 := ha cpos pins s σ H _ I h
  rw [he] at h1 ⊢
  exact Calls.evalArgs_plain (wpAny_mono h1 (fun us s2 ⟨vs, H2, I2, r, hl, q2⟩ => ⟨rfl, by rw [← r.length]; exact hl, I2.bk _ _ hC, hN.keeps I2.bk, T.keeps I2.bk, fun h' a m => I2.madeX F m q2⟩) fun _ _ y => y)
end
section
variable {P : Program} {w : World} {K : PySem.W.Frag} {mg : Str → Option Value} {base : Heap} {k : Nat} {f : Addr} {fd : FuncData} {ps : List Str} {sp : Sp}
theorem FnOk.downW {sp' : Sp} (F : FnOk P w K mg base (CXW P w) k f fd ps sp) (h : ∀ vs H Q E, sp' vs H Q E → sp vs H Q E0) : FnOk P w K mg base CX0 k f fd ps sp' :=
  ⟨fun vs H Q E z => F.len vs H Q E0 (h vs H Q E z), fun A outer s H args us vs Q E hr e0 hb r hs => codeAny_mono (F.run A outer s H args us vs Q E0 hr e0 hb r (h _ _ _ _ hs)) fun r s' z => by
    cases r with
    | error e => obtain ⟨a, C, t, H', B, _, _, _, _, _, _, _, _, _, q⟩ := z; exact q.elim
    | ok fl => cases fl <;> exact z⟩
theorem Fun.okW {x qual : Str} {st : Stmt} {N : List Str} (F : Fun K x qual st f fd) (S : FnScope N ps (defScope st)) (len : ∀ vs H Q E, sp vs H Q E → vs.length = ps.length)
    (hbody : ∀ (cdv : Value) (A : Around) (outer : List Env) (s : Shared) (H : Hp) (vs : List V) (Q : VK) (E : XK), Room k (A.deeper (envOfC qual (defScope st) s.heap.objs.size f cdv)) → sp vs H Q E →
      ∃ t, PSs (cxOf (CXW P w) P w K mg base N qual (defScope st) f cdv A outer s H E) (defBody st) t ∧ t { nx := fun _ H' => Q .non H', rt := Q } (start N vs) H) : FnOk P w K mg base (CXW P w) (k + 1) f fd ps sp := by
  obtain ⟨oc, od, kV, doc, pm, an, cdv, ct, osl, rfl, lk, hcd⟩ := F.ex
  exact fn_of lk hcd S len fun A outer s H vs Q E hr hsp => hbody cdv A outer s H vs Q E hr hsp
theorem flies {N : List Str} {qual : Str} {scope : Scope} {cd : Value} {A : Around} {outer : List Env} {s : Shared} {H : Hp} {E : XK} : (cxOf (CXW P w) P w K mg base N qual scope f cd A outer s H E).Flies E :=
  ⟨rfl, rfl, rfl, fun e s' h => wpAny_mono h (fun _ _ z => z) fun _ _ z => z.elim⟩
end
section
variable {X : Cx} {v₁ v₂ : Expr} {rest : List Expr} {pos : Pos}
end
structure RoomH (k : Nat) (A : Around) : Prop where
  dp : A.depth + 3 * k + 5 < recursionLimit
  un : A.units + 16 * k + 200 < cLine
theorem Room.h {k : Nat} {A : Around} (r : Room k A) (v : Option Value) : RoomH k (A.mark v) := ⟨r.dp, r.un⟩
theorem RoomH.n {k : Nat} {A : Around} (r : RoomH k A) : Room k { A with handled := none } := ⟨rfl, r.dp, r.un⟩
theorem RoomH.deeper {k : Nat} {A : Around} (r : RoomH (k + 1) A) (env : Env) : RoomH k (A.deeper env) :=
  ⟨by have := r.dp; show A.depth + 1 + 3 * k + 5 < _; omega, by have := r.un; show A.units + 3 + 16 * k + 200 < _; omega⟩
structure FnOkH (P : Program) (w : World) (K : PySem.W.Frag) (mg : Str → Option Value) (base : Heap) (k : Nat) (f : Addr) (fd : FuncData) (ps : List Str) (sp : Sp) : Prop where
  len : ∀ vs H Q E, sp vs H Q E → vs.length = ps.length
  run : ∀ (A : Around) (outer : List Env) (s : Shared) (H : Hp) (args : Args) (us : List Value) (vs : List V) (Q : VK) (E : XK), RoomH k A → Env0 P w K mg base A outer s H → BindsTo s fd args (ps.zip us) → Vals vs us → sp vs H Q E →
    codeAny (model P w) A (.call (.ref f) args) (CR CX0 outer P w H s Q E) s
def cxH (P : Program) (w : World) (K : PySem.W.Frag) (mg : Str → Option Value) (base : Heap) (N : List Str) (qual : Str) (scope : Scope) (f : Addr) (cd : Value) (A : Around) (outer : List Env) (s : Shared) (H : Hp) : Cx :=
  { cxOf CX0 P w K mg base N qual scope f cd A outer s H E0 with calm := false, xe := fun _ _ => False }
theorem inv_startH {P : Program} {w : World} {K : PySem.W.Frag} {mg : Str → Option Value} {base : Heap} {N ps : List Str} {qual : Str} {scope : Scope} {f : Addr} {cd : Value} {A : Around} {outer : List Env} {s s1 : Shared} {H : Hp} {us : List Value} {vs : List V}
    (S : FnScope N ps scope) (e0 : Env0 P w K mg base A outer s H) (hl : vs.length = ps.length) (r : Vals vs us)
    (x : InCallC s s.heap.objs.size (bindL (envOfC qual scope s.heap.objs.size f cd).kindOf (ps.zip us) fun _ => none) (cellsFrom (s.heap.objs.size + 1) scope.names []) (bindC (envOfC qual scope s.heap.objs.size f cd).kindOf (ps.zip us) fun _ => none) s1) :
    Inv (cxH P w K mg base N qual scope f cd A outer s H) [] (start N vs) H s1 := by
  have e1 : Env0 P w K mg base { A with handled := none } outer s H := ⟨e0.frames, e0.mod, e0.bs, e0.bsz, e0.funs, e0.frf, e0.hok, e0.bare⟩
  have I := inv_start (CX := CX0) (E := E0) S rfl e1 hl r x
  have ok := I.ok
  exact ⟨⟨ok.mod, ok.kind, ok.glob, ok.blt, ok.above, ok.inj, ok.has, ok.cab, (fun z => by cases z), Around.frames_deeper e0.frames, ok.stk, ok.exf, ok.bs, ok.bsz, ok.noex, ok.exfs, ok.funs, ok.frf⟩, I.os, I.bare, I.base, I.loc, I.cell, I.free, I.freeC, I.pin, I.hok, I.len⟩
section
variable {P : Program} {w : World} {K : PySem.W.Frag} {mg : Str → Option Value} {base : Heap} {k : Nat} {f : Addr} {fd : FuncData} {ps : List Str} {sp : Sp}
theorem Fun.okH {x qual : Str} {st : Stmt} {N : List Str} (F : Fun K x qual st f fd) (S : FnScope N ps (defScope st)) (len : ∀ vs H Q E, sp vs H Q E → vs.length = ps.length)
    (hbody : ∀ (cdv : Value) (A : Around) (outer : List Env) (s : Shared) (H : Hp) (vs : List V) (Q : VK) (E : XK), RoomH k (A.deeper (envOfC qual (defScope st) s.heap.objs.size f cdv)) → sp vs H Q E →
      ∃ t, PSs (cxH P w K mg base N qual (defScope st) f cdv A outer s H) (defBody st) t ∧ t { nx := fun _ H' => Q .non H', rt := Q } (start N vs) H) : FnOkH P w K mg base (k + 1) f fd ps sp := by
  obtain ⟨oc, od, kV, doc, pm, an, cdv, ct, osl, rfl, lk, hcd⟩ := F.ex
  refine ⟨len, fun A outer s H args us vs Q E hr e0 hb r hsp => ?_⟩
  have hl := len _ _ _ _ hsp
  have KX : K.In s.heap := e0.mod.kin.keeps fun b o e => (e0.bs b o e).1
  have lim : s.heap.NoLimit := e0.mod.nolimit.keeps fun b o e => (e0.bs b o e).1
  have hkind : ∀ y ∈ ps.zip us, (defScope st).names.lookup y.1 = some .local ∨ ((defScope st).names.lookup y.1 = some .cell ∧ ((cellsFrom (s.heap.objs.size + 1) (defScope st).names []).lookup y.1).isSome = true) := fun ⟨n, v⟩ hy => by
    rcases S.par n (List.of_mem_zip hy).1 with q | q
    · exact .inl q
    · exact .inr ⟨q, PySem.W.cellsFrom_some _ _ _ (.inl q)⟩
  refine codeAny_call_function hr.n.depth (KX _ _ lk) rfl S.co S.gen rfl (PySem.W.codeRec_of KX hcd) (hb _ _ _ _ ?_)
  refine wpAny_newFunctionEnv_cells S.kind hkind fun env he s1 x => ?_
  subst he
  refine ⟨lim.keeps x.toInCall.keep, codeAny_func ?_⟩
  obtain ⟨t, ht, hq⟩ := hbody cdv A outer s H vs Q E (hr.deeper _) hsp
  have I := inv_startH (cd := cdv) (f := f) S e0 hl r x
  refine wpAny_mono (ht [] s1 (start N vs) H _ I hq) (fun fl s' hs => ?_) fun e s' hs => False.elim hs
  have fin : ∀ {σ' : St} {H' : Hp} {v : V} {u : Value}, Inv (cxH P w K mg base N qual (defScope st) f cdv A outer s H) [] σ' H' s' → RelV v u → Q v H' → CE outer P w H s Q u s' :=
    fun {σ' H' v u} J rv q => ⟨v, H', J.os, J.bare, J.base, J.hok, rv, q⟩
  cases fl with
  | ret u =>
    obtain ⟨v, σ', H', J, rv, q⟩ := hs
    exact fin J rv q
  | next =>
    obtain ⟨σ', H', J, q⟩ := hs
    exact fin (v := V.non) (u := Value.none) J rfl q
  | brk =>
    obtain ⟨_, _, _, q⟩ := hs
    exact False.elim q
  | cont =>
    obtain ⟨_, _, _, q⟩ := hs
    exact False.elim q
end
section
variable {X : Cx} {k : Nat} {f : Addr} {fd : FuncData} {ps : List Str} {sp : Sp} {x : Str} {p pos : Pos} {e : Expr} {es : List Expr} {t : TA}
theorem pe_callH (F : FnOkH X.prog X.w X.K X.mg X.base k f fd ps sp) (hr : RoomH k X.A) (hg : Gl X x) (hm : X.mg x = some (.ref f)) (hk : PySem.W.keepIn X.K (.ref f) = true) (hb : Binds X.K fd ps [])
    (ha : PA X (e :: es) t) (hdb : (x == ("__debug__" : Str)) = false := by decide) (he : starEach (e :: es) X.env = (false, eval e X.env) :: starEach es X.env := by rfl) (hpl : (backTo pos (starEach es X.env)).any (·.1) = false := by rfl) :
    PE X (.Call (.Name x p) (e :: es) [] pos) (tCall sp [] E0 t) := by
  intro pins s σ H Q I h
  refine wpAny_Call_Name_kw (ld_glob I hg hm ?_ hdb)
  refine PySem.W.callWith_K (h₀ := X.base) I.ok.mod.kin hk (thn (ha pos pins s σ H _ I h) fun us s1 ⟨vs, H1, I1, r, q⟩ => ⟨I1.kIn, ?_⟩) he hpl
  have r2 : Vals (vs ++ []) (us ++ []) := r.append .nil
  have hl : (us ++ []).length = ps.length := by rw [← r2.length]; exact F.len _ _ _ _ q
  refine wpAny_call (codeAny_mono (F.run X.A X.stack s1 H1 ⟨us, []⟩ (us ++ []) (vs ++ []) Q E0 hr I1.env0 (hb s1 us I1.kIn hl) r2 q) fun r s' hq => ?_)
  cases r with
  | error e => exact False.elim hq
  | ok fl =>
    cases fl with
    | ret u => exact I1.after hq
    | next => exact False.elim hq
    | brk => exact False.elim hq
    | cont => exact False.elim hq
end
end L2
namespace L2
open PySem PySem.Spec PyProof.Rows
def ExcO (a C : Addr) : HO := .ext fun h => ∃ o, h.get? a = some o ∧ o.cls = .ref C
theorem Un.track {fs : List Addr} {H1 H' : Hp} {h0 h2 : Heap} {a : Addr} {o : HO} (u : Un fs [] H1 H' h0 h2) (f : h0.get? a = none) (n : H' a = none) : Un fs [] H1 (upd H' a o) h0 h2 where
  keep := u.keep
  slot := u.slot
  free := fun b ob q m hx => by
    rw [upd_ne (fun z => by rw [z, f] at q; cases q)]
    exact u.free b ob q m hx
  there := u.there
  tups := fun b xs q => by
    have := u.tups b xs q
    rw [upd_ne (fun z => by rw [z, n] at this; cases this)]
    exact this
  frzs := fun b ob xs q => by
    have := u.frzs b ob xs q
    rw [upd_ne (fun z => by rw [z, n] at this; cases this)]
    exact this
  tbls := fun b ps q => by
    obtain ⟨m, e⟩ := u.tbls b ps q
    exact ⟨m, by rw [upd_ne (fun z => by rw [z, n] at e; cases e)]; exact e⟩
theorem HOk.track {P : Program} {w : World} {H' : Hp} {h2 : Heap} {a : Addr} {o : HO} (x : HOk P w H' h2) (n : H' a = Option.none) (ok : ObjOk P w (upd H' a o) h2 a o) : HOk P w (upd H' a o) h2 := fun b u e => by
  by_cases hb : b = a
  · subst hb
    rw [upd_same] at e
    cases e
    exact ok
  · rw [upd_ne hb] at e
    refine (x b u e).stay (fun _ _ _ q => q) (fun c q => ?_) fun c xs q => ?_
    · rw [upd_ne (fun z => by rw [z, n] at q; cases q)]; exact q
    · rw [upd_ne (fun z => by rw [z, n] at q; cases q)]; exact q
def Cx.tr (X : Cx) (pins : List (Addr × Obj)) (Ex : St → XK) : Cx :=
  { X with pn := X.pn ++ pins, xe := fun e s' => ∃ pl σ1 H1 s1, Inv X (pins ++ pl) σ1 H1 s1 ∧ CXW X.prog X.w X.stack H1 s1 (Ex σ1) e s' }
def Cx.hdl (X : Cx) (v : Value) : Cx := { X with A := X.A.mark (some v), calm := false, xe := fun _ _ => False }
section
variable {X : Cx} {pins pl : List (Addr × Obj)} {σ : St} {H H' : Hp} {s s' : Shared} {Ex : St → XK} {v : Value}
theorem Inv.tr (I : Inv X pins σ H s) : Inv (X.tr pins Ex) [] σ H s :=
  ⟨⟨I.ok.mod, I.ok.kind, I.ok.glob, I.ok.blt, I.ok.above, I.ok.inj, I.ok.has, I.ok.cab, I.ok.hd, I.ok.frames, I.ok.stk, I.ok.exf, I.ok.bs, I.ok.bsz, I.ok.noex, I.ok.exfs, I.ok.funs, I.ok.frf⟩, I.os, I.bare, I.base, I.loc, I.cell, I.free, I.freeC,
    fun p hp => I.pin p (by rw [List.append_nil] at hp; exact hp), I.hok, I.len⟩
theorem Inv.untr (I : Inv (X.tr pins Ex) pl σ H s) : Inv X (pins ++ pl) σ H s :=
  ⟨⟨I.ok.mod, I.ok.kind, I.ok.glob, I.ok.blt, I.ok.above, I.ok.inj, I.ok.has, I.ok.cab, I.ok.hd, I.ok.frames, I.ok.stk, I.ok.exf, I.ok.bs, I.ok.bsz, I.ok.noex, I.ok.exfs, I.ok.funs, I.ok.frf⟩, I.os, I.bare, I.base, I.loc, I.cell, I.free, I.freeC,
    fun p hp => I.pin p (by show p ∈ (X.pn ++ pins) ++ pl; rw [List.append_assoc]; exact hp), I.hok, I.len⟩
theorem Inv.untr0 (I : Inv (X.tr pins Ex) [] σ H s) : Inv X pins σ H s := I.untr.unpinned
theorem Inv.hdl (I : Inv X pins σ H s) : Inv (X.hdl v) pins σ H s :=
  ⟨⟨I.ok.mod, I.ok.kind, I.ok.glob, I.ok.blt, I.ok.above, I.ok.inj, I.ok.has, I.ok.cab, (fun z => by cases z), I.ok.frames, I.ok.stk, I.ok.exf, I.ok.bs, I.ok.bsz, I.ok.noex, I.ok.exfs, I.ok.funs, I.ok.frf⟩, I.os, I.bare, I.base, I.loc, I.cell, I.free, I.freeC, I.pin, I.hok, I.len⟩
theorem Inv.unhdl (hd : X.calm = true → X.A.handled = none) (I : Inv (X.hdl v) pins σ H s) : Inv X pins σ H s :=
  ⟨⟨I.ok.mod, I.ok.kind, I.ok.glob, I.ok.blt, I.ok.above, I.ok.inj, I.ok.has, I.ok.cab, hd, I.ok.frames, I.ok.stk, I.ok.exf, I.ok.bs, I.ok.bsz, I.ok.noex, I.ok.exfs, I.ok.funs, I.ok.frf⟩, I.os, I.bare, I.base, I.loc, I.cell, I.free, I.freeC, I.pin, I.hok, I.len⟩
theorem Inv.goes {i : Nat} {n : Str} (I : Inv X pins σ H s) (hN : X.N.Nodup) (hi : X.N[i]? = some n) (hl : X.env.kindOf n = some .local) {m : Str → Option Value} {u : Option Value} {h' : Heap} {tk : Nat} (hm : s.heap.Ns X.env.locals m)
    (hq : ∀ (i : Nat) (x : Str) (v : V), X.N[i]? = some x → σ[i]? = some (some v) → Vis X.env.scope x → ∃ u, RelV v u ∧ Look X.env s.heap m x u)
    (hn' : h'.Ns X.env.locals (fun x => if x = n then u else m x)) (hs : Heap.SameBut X.env.locals s.heap h') : Inv X pins (σ.set i none) H { s with heap := h', toks := tk } := by
  have ne : ∀ b o, X.s₀.heap.get? b = some o → b ≠ X.env.locals := fun b o e => Nat.ne_of_lt (Nat.lt_of_lt_of_le (Heap.lt_size e) I.ok.above)
  have cne := I.cne
  have hiσ : i < σ.length := by rw [I.len]; exact (List.getElem?_eq_some_iff.mp hi).1
  refine ⟨I.ok, I.os, I.bare, ⟨fun b o e n hb hx => (hs.2 b (ne b o e)).trans (I.base.keep b o e n hb hx), fun b o e n hb hx => ?_, I.base.free, fun b o e hx => ?_, I.base.tups, I.base.frzs, I.base.tbls⟩, ⟨_, hn', fun j y v' e1 e2 e3 => ?_⟩, fun y c e => ?_, I.free, I.freeC, fun p hp => ?_, ?_, ?_⟩
  · obtain ⟨sl, e1⟩ := I.base.slot b o e n hb hx
    exact ⟨sl, (hs.2 b (ne b o e)).trans e1⟩
  · obtain ⟨o', e1⟩ := I.base.there b o e hx
    exact ⟨o', (hs.2 b (ne b o e)).trans e1⟩
  · by_cases hj : j = i
    · subst hj
      rw [List.getElem?_set_self hiσ] at e2
      cases e2
    · rw [List.getElem?_set_ne (Ne.symm hj)] at e2
      obtain ⟨u', r', q⟩ := hq j y v' e1 e2 e3
      refine ⟨u', r', ?_⟩
      rcases q with ⟨k, e⟩ | ⟨k, c, e, z⟩
      · refine .inl ⟨k, ?_⟩
        have : y ≠ n := fun e => hj (nodup_ix hN e1 (e ▸ hi))
        simp [this, e]
      · exact .inr ⟨k, c, e, z.sameBut hs (cne y c e)⟩
  · obtain ⟨w', z⟩ := I.cell y c e
    exact ⟨w', z.sameBut hs (cne y c e)⟩
  · obtain ⟨e, n, ne, nf, d⟩ := I.pin p hp
    exact ⟨(hs.2 p.1 ne).trans e, n, ne, nf, d⟩
  · exact I.hok.keptT fun b u hb e => (hs.2 b (fun z => hb (by rw [z]; exact I.free))).trans e
  · rw [List.length_set]; exact I.len
end
section
variable {X : Cx} {k : Nat} {f : Addr} {fd : FuncData} {ps : List Str} {sp : Sp} {x n : Str} {p np hpos pos : Pos} {e : Expr} {es : List Expr} {t : TA} {pins : List (Addr × Obj)} {Ex : St → XK}
def tCallX (sp : Sp) (Ex : St → XK) (t : TA) : TE := fun σ H Q => t σ H fun vs H1 => sp vs H1 Q (Ex σ)
theorem pe_callX (F : FnOk X.prog X.w X.K X.mg X.base (CXW X.prog X.w) k f fd ps sp) (hr : Room k X.A) (hg : Gl X x) (hm : X.mg x = some (.ref f)) (hk : PySem.W.keepIn X.K (.ref f) = true) (hb : Binds X.K fd ps [])
    (ha : PA (X.tr pins Ex) (e :: es) t) (hdb : (x == ("__debug__" : Str)) = false := by decide) (he : starEach (e :: es) X.env = (false, eval e X.env) :: starEach es X.env := by rfl) (hpl : (backTo pos (starEach es X.env)).any (·.1) = false := by rfl) :
    PE (X.tr pins Ex) (.Call (.Name x p) (e :: es) [] pos) (tCallX sp Ex t) := by
  intro pl s σ H Q I h
  refine wpAny_Call_Name_kw (ld_glob I hg hm ?_ hdb)
  refine PySem.W.callWith_K (h₀ := X.base) I.ok.mod.kin hk (thn (ha pos pl s σ H _ I h) fun us s1 ⟨vs, H1, I1, r, q⟩ => ⟨I1.kIn, ?_⟩) he hpl
  have hl : (us ++ []).length = ps.length := by rw [List.append_nil, ← r.length]; exact F.len _ _ _ _ q
  have hb' := hb s1 us I1.kIn hl
  rw [List.append_nil] at hb'
  refine wpAny_call (codeAny_mono (F.run X.A X.stack s1 H1 ⟨us, []⟩ us vs Q (Ex σ) hr I1.env0 hb' r q) fun r s' hq => ?_)
  cases r with
  | error e => exact ⟨pl, σ, H1, s1, I1.untr, hq⟩
  | ok fl =>
    cases fl with
    | ret u => exact I1.after hq
    | next => exact False.elim hq
    | brk => exact False.elim hq
    | cont => exact False.elim hq
def tTry (K : PySem.W.Frag) (CD : Addr) (i : Nat) (tb : (St → XK) → TS) (th : TS) : TS := fun D σ H =>
  tb (fun σ1 C _ H1 => ∃ c, C = .ref c ∧ PySem.W.exmOne K (.ref c) (.ref CD) = some true ∧ ∀ a, H1 a = none →
    th { nx := fun σ' H' => D.nx (σ'.set i none) H', rt := D.rt, bk := fun σ' H' => D.bk (σ'.set i none) H', ct := fun σ' H' => D.ct (σ'.set i none) H' } (σ1.set i (some (.ref a))) (upd H1 a (ExcO a c))) D σ H
theorem ps_try {body : List Stmt} {tb : (St → XK) → TS} {i : Nat} {CD : Addr} {b₀ : Stmt} {suite : List Stmt} {th : TS} (hst : X.stack = X.env :: X.outer) (hfr : X.env.frame = some X.env.locals) (hN : X.N.Nodup) (hi : X.N[i]? = some n)
    (hl : X.env.kindOf n = some .local) (hg : Gl X x) (hm : X.mg x = some (.ref CD)) (hb : ∀ pins Ex, PSs (X.tr pins Ex) body (tb Ex)) (hh : ∀ v, PSs (X.hdl v) (b₀ :: suite) th) (hdb : (x == ("__debug__" : Str)) = false := by decide) :
    PS X (.Try body [.ExceptHandler (some (.Name x np)) (some n) (b₀ :: suite) hpos] [] [] pos) (tTry X.K CD i tb th) := by
  intro pins s σ H D I h
  refine wpAny_Try_except (wpAny_mono (hb pins _ [] s σ H D I.tr h) (fun f s1 hs => ?_) fun e s1 he => ?_)
  · cases f with
    | next => obtain ⟨σ', H', J, q⟩ := hs; exact wpAny_execs_nil ⟨σ', H', J.untr0, q⟩
    | brk => obtain ⟨σ', H', J, q⟩ := hs; exact ⟨σ', H', J.untr0, q⟩
    | cont => obtain ⟨σ', H', J, q⟩ := hs; exact ⟨σ', H', J.untr0, q⟩
    | ret u => obtain ⟨v, σ', H', J, r, q⟩ := hs; exact ⟨v, σ', H', J.untr0, r, q⟩
  obtain ⟨pl, σ1, H1, s0, I1, hx⟩ := he
  have I1 := I1.unpinned
  obtain ⟨a, C, t, H', B, rfl, I', free, fresh, fl, all, ⟨c, ec, em, q⟩, un⟩ := I1.arrive hx
  cases ec
  have hfrm : X.A.frames = some (X.env :: X.outer) := by rw [I.ok.frames, hst]
  have trk : ∀ b, H' b ≠ none → b ∉ frs X.stack := fun b hb z => hb (I'.stkFree b z)
  have slot : ∀ {h2 : Heap}, s1.heap.UpToSlots h2 → ∀ b o, s1.heap.get? b = some o → b ∈ frs X.stack → ∃ sl, h2.get? b = some { o with slots := sl } := fun {h2} k b o e hb => by
    obtain ⟨_, o', e', nf⟩ := I'.stack.mem hb
    rw [e] at e'
    cases e'
    exact k b o e nf
  have go : ∀ {h2 : Heap}, B.StaysIn h2 → s1.heap.UpToSlots h2 → Un (frs X.stack) [] H1 H' s0.heap h2 ∧ HOk X.prog X.w H' h2 := fun {h2} st up =>
    ⟨un.fly (fun b o o' e0 e1 nb => st b o (all b o e1 nb (.inl ⟨o', e0⟩))) (slot up), I'.hok.keptT fun b u hb e => st b u (all b u e (trk b hb) (.inr hb))⟩
  have os : s1.os = s0.os := I'.os.trans I1.os.symm
  rw [hst] at fl
  refine wpAny_looks_onW hfrm hfr fl fun h4 held4 sm4 => ?_
  refine wpAny_landsW held4 fun h5 fl5 sm5 => ?_
  have up5 : s1.heap.UpToSlots h5 := sm4.trans sm5
  have I5 : Inv X pins σ1 H' { s1 with heap := h5 } := I1.call' (s' := { s1 with heap := h5 }) os (go fl5.1 up5).1 (go fl5.1 up5).2 I'.bare (fun b z => absurd z (by simp))
  have J5 : Inv (X.hdl (.ref a)) pins σ1 H' { s1 with heap := h5 } := I5.hdl
  refine wpAny_handleBy_cons (codeAny_handlers_test ?_) (by intro z; cases z)
  refine ld_glob J5 hg hm ?_ hdb
  obtain ⟨ob, hob, hoc⟩ := fl5.there
  refine (PySem.W.exm_one (M := model X.prog X.w) J5.kIn (cls := .ref C) (by rw [← hoc]; exact (PySem.W.Looks.ld hob).andThen .now) em).here ?_
  refine codeAny_handlers_suite_as ?_
  refine lands_againW fl5 fun h6 fl6 sm6 => ?_
  have up6 := up5.trans sm6
  have fre6 : (upd H' a (ExcO a C)) a = some (ExcO a C) := upd_same
  obtain ⟨ob6, hob6, hoc6⟩ := fl6.there
  have oke : ObjOk X.prog X.w (upd H' a (ExcO a C)) h6 a (ExcO a C) := ⟨⟨ob6, hob6, hoc6⟩, ⟨ob6, hob6⟩, fun g1 g2 ⟨o, e, ce⟩ k => ⟨o, k o e, ce⟩⟩
  have I6 : Inv X pins σ1 (upd H' a (ExcO a C)) { s1 with heap := h6 } :=
    I1.call' (s' := { s1 with heap := h6 }) os ((go fl6.1 up6).1.track fresh free) ((go fl6.1 up6).2.track free oke) I'.bare (fun b z => absurd z (by simp))
  refine store_ok (X := X.hdl (.ref a)) I6.hdl hN hi (.inl hl) (v := .ref a) rfl (fun s7 J7 => ?_) (.inr hl)
  refine wpAny_mono (hh (.ref a) pins s7 _ _ _ J7 (q a free)) (fun f s8 hs => ?_) fun _ _ z => False.elim z
  have back : ∀ {σ' : St} {H2 : Hp}, Inv (X.hdl (.ref a)) pins σ' H2 s8 → ∀ {R : Shared → Prop}, (∀ s9, Inv X pins (σ'.set i none) H2 s9 → R s9) →
      wpAny (model X.prog X.w) X.A (do bindName X.env n .none; unbindBehindTheSuite X.env n hpos) (fun _ s9 => R s9) X.xe s8 := fun {σ' H2} J {R} hR => by
    have J := J.unhdl I.ok.hd
    obtain ⟨m, hm', hq'⟩ := id J.loc
    exact wpAny_nameGoes_keeps hl hm' (by rw [J.ok.kind]; rfl) fun h9 u hn9 hs9 => hR _ (J.goes hN hi hl hm' hq' hn9 hs9)
  cases f with
  | next => obtain ⟨σ', H2, J, q⟩ := hs; exact back J fun s9 K9 => ⟨_, H2, K9, q⟩
  | brk => obtain ⟨σ', H2, J, q⟩ := hs; exact back J fun s9 K9 => ⟨_, H2, K9, q⟩
  | cont => obtain ⟨σ', H2, J, q⟩ := hs; exact back J fun s9 K9 => ⟨_, H2, K9, q⟩
  | ret u => obtain ⟨v, σ', H2, J, r, q⟩ := hs; exact back J fun s9 K9 => ⟨v, _, H2, K9, r, q⟩
end
end L2
namespace L2
open PySem PySem.Spec PyProof.Rows PySem.W Builtin Builtin.ObjectAttr Builtin.Getset_descriptor
structure ErrCls (K : PySem.W.Frag) (C : Addr) : Prop where
  ga : PySem.W.findIn K (.ref C) "__getattribute__" = some (some (.builtin "BaseException.__getattribute__"))
  gn : PySem.W.findIn K (.ref C) "__getattr__" = some none
  cl : PySem.W.findIn K (.ref C) "__class__" = some (some (.builtin "object.__class__"))
  gt : PySem.W.specialIn K (.builtin "object.__class__") "__get__" = some (some (.builtin "getset_descriptor.__get__"))
  tk : PySem.W.takesIn K (.builtin "object.__class__") = some true
  ob : PySem.W.mroIn K C (.type "object") = some true
  be : PySem.W.mroIn K C (.type "BaseException") = some true
  cs : (PySem.W.clsIn K C).isSome = true
section
variable {prog : Program} {w : World} {A : Around} {E : Value → Shared → Prop} {K : PySem.W.Frag} {C a : Addr} {o : Obj} {hh : Heap} {g : Array GenState} {d : Drawn} {t : Nat} {os : OsState}
theorem err_type {M : Model} (hx : hh.get? a = some o) (hc : o.cls = .ref C) : PySem.W.Looks M hh (typeOf (.ref a)) (.ref C) := hc ▸ (PySem.W.Looks.ld hx).andThen .now
theorem err_get {tp : Value} {R : Result → Shared → Prop} (X : K.In hh) (e : ErrCls K C) (hx : hh.get? a = some o) (hc : o.cls = .ref C) (h : R (.ok (.ret (.ref C))) ⟨hh, g, d, t, os⟩) :
    codeAny (model prog w) A (.call (.builtin "getset_descriptor.__get__") ⟨[.builtin "object.__class__", .ref a, tp], []⟩) R ⟨hh, g, d, t, os⟩ := by
  have L0 := err_type (M := model prog w) hx hc
  have L1 := PySem.W.looks_mroIn (M := model prog w) X e.ob
  refine codeAny_call_builtin PySem.W.KF.slot_gs.plain PySem.W.KF.entry_gs (PySem.W.KF.slot_gs.check _ _ _ _ _ _ _ _ PySem.W.KF.type_class (PySem.W.KF.args_gs _ _ _) ?_)
  unfold Builtin.«getset_descriptor.__get__» descrGet
  rw [PySem.W.dga_obj]
  refine wpAny_bind (wpAny_pure ?_)
  unfold descrGetter descrCheckInstance descrNameAndClass isInstance
  simp only [PySem.W.KF.owner_class]
  repeat lk
  refine ⟨Code.quiet_builtin _ (by decide +kernel), codeAny_builtin PySem.W.KF.entry_class ?_⟩
  unfold Builtin.«object.__class__» shownTypeOf
  repeat lk
  exact h
theorem err_find {M : Model} (X : K.In hh) (e : ErrCls K C) : PySem.W.Looks M hh (find (.ref a) (.ref C) "__class__") (.bind (.builtin "getset_descriptor.__get__") (.builtin "object.__class__")) := by
  have L1 := PySem.W.looks_findIn (M := M) X e.cl
  have L2 : PySem.W.Looks M hh (getOf (some (.builtin "object.__class__"))) (some (.builtin "getset_descriptor.__get__")) := PySem.W.looks_specialIn X e.gt
  have L3 := PySem.W.looks_takesIn (M := M) X e.tk
  refine L1.andThen (L2.andThen ?_)
  exact (show PySem.W.Looks M hh (dataDescriptor? (some (.builtin "object.__class__")) (some (.builtin "getset_descriptor.__get__"))) (some (.builtin "getset_descriptor.__get__", .builtin "object.__class__")) from L3.andThen .now).andThen (PySem.W.Looks.tag .now)
theorem err_entry {tk : Tok} {Q : Fin → Shared → Prop} (X : K.In hh) (e : ErrCls K C) (hx : hh.get? a = some o) (hc : o.cls = .ref C) (h : Q (.done (.ret (.ref C))) ⟨hh, g, d, t, os⟩) :
    wpAny (model prog w) A (Builtin.«object.__getattribute__» ⟨[.ref a, .str "__class__" tk], []⟩) Q E ⟨hh, g, d, t, os⟩ := by
  have L0 := err_type (M := model prog w) hx hc
  have L1 := err_find (M := model prog w) (a := a) X e
  unfold Builtin.«object.__getattribute__»
  refine wpAny_bind (wpAny_pure ?_)
  refine wpAny_bind ?_
  unfold attrName
  lk; lk; lk
  refine wpAny_bind (L0.at (wpAny_bind (L1.at ?_)))
  show wpAny _ _ (holding [.builtin "object.__class__"] (call (.builtin "getset_descriptor.__get__") [.builtin "object.__class__", .ref a, .ref C]) >>= ret) _ _ _
  exact wpAny_bind (wpAny_holding (wpAny_call (err_get X e hx hc (wpAny_pure h))))
theorem err_check {nameV : Value} {M : Model} {Q : Unit → Shared → Prop} (X : K.In hh) (e : ErrCls K C) (hx : hh.get? a = some o) (hc : o.cls = .ref C) (hq : Q () ⟨hh, g, d, t, os⟩) :
    wpAny M A (checkBuiltinCall "BaseException.__getattribute__" ⟨[.ref a, nameV], []⟩) Q E ⟨hh, g, d, t, os⟩ := by
  have hk : builtinKind "BaseException.__getattribute__" = some .slot := by decide +kernel
  have hsplit : splitId "BaseException.__getattribute__" = some ("BaseException", "__getattribute__") := by decide +kernel
  have L0 := err_type (M := M) hx hc
  have L1 := PySem.W.looks_mroIn (M := M) X e.be
  have ha := F.args_bexc_ga (.ref a) nameV
  simp only [checkBuiltinCall, hk, hsplit]
  refine wpAny_bind ?_
  · unfold isInstance
    repeat (first | lk | wp_step)
    exact hq
theorem err_class {Q : Option Value → Shared → Prop} (X : K.In hh) (e : ErrCls K C) (hx : hh.get? a = some o) (hc : o.cls = .ref C) (h : Q (some (.ref C)) ⟨hh, g, d, t + 1, os⟩) :
    wpAny (model prog w) A (getAttr? (.ref a) "__class__") Q E ⟨hh, g, d, t, os⟩ := by
  have L0 := err_type (M := model prog w) hx hc
  have L1 := PySem.W.looks_findIn (M := model prog w) X e.ga
  have L2 := PySem.W.looks_findIn (M := model prog w) X e.gn
  have f3 := F.excAttr_ValueError.ga.bind (.ref a)
  unfold getAttr? getAttrBy? getAttrBy
  refine wpAny_bind (wpAny_mkText (wpAny_bind (wpAny_attempt (wpAny_holding (wpAny_bind (L0.at (wpAny_bind (L1.at ?_))))))))
  show wpAny _ _ (getAttrByItsOwn _ _ _ _ _ _) _ _ _
  unfold getAttrByItsOwn hookBefore callGetattribute boundAndCalled
  refine wpAny_bind (L2.at (wpAny_bind (wpAny_attempt (wpAny_holding ?_))))
  rw [if_neg (by decide)]
  refine wpAny_bind (wpAny_of_eq f3 ?_)
  refine wpAny_call (codeAny_call_builtin F.excAttr_ValueError.ga.plain F.entry_bexc_ga (err_check X e hx hc (err_entry X e hx hc ?_)))
  exact wpAny_pure (wpAny_pure h)
theorem err_cls (X : K.In hh) (e : ErrCls K C) : ∃ c' d' cd sl', hh.get? C = some ⟨c', d', .cls cd, sl'⟩ := by
  obtain ⟨cd, q⟩ := Option.isSome_iff_exists.mp e.cs
  unfold PySem.W.clsIn at q
  split at q
  · rename_i c' d' cd' sl' ho
    exact ⟨c', d', cd', sl', X _ _ ho⟩
  · cases q
theorem kitx_err (e : ErrCls K C) : PySem.W.KitX K (.ref a) (.ref C) (fun h => ∃ o, h.get? a = some o ∧ o.cls = .ref C) where
  ty := fun _ _ _ ⟨_, hx, hc⟩ => err_type hx hc
  it := fun _ _ X _ => by
    obtain ⟨c', d', cd, sl', ho⟩ := err_cls X e
    intro A' Q' E' s' k q
    unfold isType loadHead
    exact wpAny_bind (wpAny_loadPart (k _ _ ho) (wpAny_pure q))
  ne := fun h tp dd its n sl X htp => by
    obtain ⟨c', d', cd, sl', ho⟩ := err_cls X e
    refine Bool.eq_false_iff.mpr fun q => ?_
    have e : C = tp := Value.ref.inj (beq_iff_eq.mp q)
    subst e
    have z := ho.symm.trans htp
    cases z
  ca := fun {_ _ _ _ _ s} X p k => by
    obtain ⟨hh, g, d, t, os⟩ := s
    obtain ⟨o, hx, hc⟩ := p
    exact err_class X e hx hc k
end
section
variable {X : Cx}
theorem call_isiE : CallR X (.builtin "isinstance") (fun xs H Q => ∃ (a C : Addr) (c : V) (cv : Value) (b : Bool), xs = [.ref a, c] ∧ H a = some (ExcO a C) ∧ ErrCls X.K C ∧ (∀ u, RelV c u → u = cv) ∧ PySem.W.kitOne X.K (.ref C) cv = some b ∧ Q (.bl b) H) := by
  intro pins s σ H xs us Q I r h
  obtain ⟨a, C, c, cv, b, rfl, ha, ec, rc, e, q⟩ := h
  obtain ⟨u, w', rfl, ru, rw'⟩ := vals2 r
  cases (show u = Value.ref a from ru)
  cases rc _ rw'
  obtain ⟨⟨o, hx, hc⟩, _, _⟩ := (show ObjOk X.prog X.w H s.heap a (ExcO a C) from I.hok a _ ha)
  exact PySem.W.kia_one (kitx_err ec) I.kIn ⟨o, hx, hc⟩ e (fun z => nomatch z) fun tk => ⟨.bl b, H, I.tok tk, rfl, q⟩
end
end L2
namespace L2
open PySem PySem.Spec PyProof.Rows PySem.Calls PyProof.V PySem.SeqAt
mutual
inductive DV (K : PySem.W.Frag) (H : Hp) : V → PyData → Prop
  | non : DV K H .non .none
  | bl (b : Bool) : DV K H (.bl b) (.bool b)
  | int (i : Int) : DV K H (.int i) (.int i)
  | str (x : Str) : DV K H (.str x) (.str x)
  | lst {a : Addr} {xs : List V} {ds : List PyData} : SqL K H a xs → DVs K H xs ds → DV K H (.ref a) (.list ds)
  | tup {a : Addr} {xs : List V} {ds : List PyData} : SqT K H a xs → DVs K H xs ds → DV K H (.ref a) (.tuple ds)
inductive DVs (K : PySem.W.Frag) (H : Hp) : List V → List PyData → Prop
  | nil : DVs K H [] []
  | cons {x : V} {xs : List V} {d : PyData} {ds : List PyData} : DV K H x d → DVs K H xs ds → DVs K H (x :: xs) (d :: ds)
end
section
variable {X : Cx} {pins : List (Addr × Obj)} {σ : St} {H : Hp} {s : Shared}
mutual
theorem DV.reads (I : Inv X pins σ H s) : ∀ {v : V} {d : PyData} {u : Value}, DV X.K H v d → RelV v u → ∃ as, Reads s.heap u d as
  | _, _, _, .non, r => by cases (show _ = Value.none from r); exact ⟨_, .none⟩
  | _, _, _, .bl b, r => by cases (show _ = Value.bool b from r); exact ⟨_, .bool b⟩
  | _, _, _, .int i, r => by obtain ⟨t, q⟩ := (show ∃ t, _ = Value.int i t from r); cases q; exact ⟨_, .int i t⟩
  | _, _, _, .str x, r => by obtain ⟨t, q⟩ := (show ∃ t, _ = Value.str x t from r); cases q; exact ⟨_, .str x t⟩
  | _, _, _, .lst (a := a) h hs, r => by
    cases (show _ = Value.ref a from r)
    obtain ⟨its, rv, pl, _⟩ := I.list h
    obtain ⟨as, q⟩ := DVs.reads I hs rv
    obtain ⟨o, ho, hc, n, hd⟩ := pl.isList
    exact ⟨_, .list ho hc hd (by simpa using q)⟩
  | _, _, _, .tup (a := a) h hs, r => by
    cases (show _ = Value.ref a from r)
    obtain ⟨its, rv, pl, _⟩ := I.tuple h
    obtain ⟨as, q⟩ := DVs.reads I hs rv
    obtain ⟨o, ho, hc, n, hd⟩ := pl
    exact ⟨_, .tuple ho hc hd (by simpa using q)⟩
theorem DVs.reads (I : Inv X pins σ H s) : ∀ {vs : List V} {ds : List PyData} {us : List Value}, DVs X.K H vs ds → Vals vs us → ∃ as, ReadsAll s.heap us ds as
  | _, _, _, .nil, r => by cases r; exact ⟨_, .nil⟩
  | _, _, _, .cons h hs, r => by
    cases r with
    | cons r1 r2 =>
      obtain ⟨as, q⟩ := DV.reads I h r1
      obtain ⟨bs, q2⟩ := DVs.reads I hs r2
      exact ⟨_, .cons q q2⟩
end
def rEqD (K : PySem.W.Frag) : R2 := fun x y H Q => ∃ d1 d2, DV K H x d1 ∧ DV K H y d2 ∧ shaped d1 = true ∧ shaped d2 = true ∧ noMix d1 d2 = true ∧ Q (.bl (PySem.Spec.same d1 d2)) H
theorem op_eqD (hu : X.A.units + 64 < cLine) : OpR X (compareOp .Eq) (rEqD X.K) := by
  intro pins s σ H x y v u Q I rx ry h
  obtain ⟨d1, d2, h1, h2, s1, s2, m, q⟩ := h
  obtain ⟨as, r1⟩ := h1.reads I rx
  obtain ⟨bs, r2⟩ := h2.reads I ry
  exact eq_dataH_same r1 r2 s1 s2 hu m ⟨.bl _, H, I, rfl, q⟩
end
theorem DVs.bools {K : PySem.W.Frag} {H : Hp} : ∀ bs : List Bool, DVs K H (bs.map V.bl) (bs.map PyData.bool)
  | [] => .nil
  | b :: bs => .cons (.bl b) (DVs.bools bs)
theorem lay_bools : ∀ bs : List Bool, PyData.canLayAll0 (bs.map PyData.bool) = true
  | [] => by simp [PyData.canLayAll0]
  | _ :: r => by simp [PyData.canLayAll0, PyData.canLay0, lay_bools r]
theorem depth_bools : ∀ bs : List Bool, PyData.depthAll (bs.map PyData.bool) ≤ 1
  | [] => by simp [PyData.depthAll]
  | _ :: r => by
    have := depth_bools r
    simp only [List.map_cons, PyData.depthAll, PyData.depth]
    omega
theorem shaped_bools (bs : List Bool) : shaped (.list (bs.map PyData.bool)) = true := by
  have h1 := depth_bools bs
  show (PyData.canLay0 (.list (bs.map PyData.bool)) && decide (PyData.depth (.list (bs.map PyData.bool)) ≤ 64)) = true
  rw [Bool.and_eq_true]
  exact ⟨by simp only [PyData.canLay0]; exact lay_bools bs, decide_eq_true (by simp only [PyData.depth]; omega)⟩
theorem noMix_bools : ∀ bs cs : List Bool, noMixAll (bs.map PyData.bool) (cs.map PyData.bool) = true
  | [], [] => by simp [noMixAll]
  | [], _ :: _ => by simp [noMixAll]
  | _ :: _, [] => by simp [noMixAll]
  | _ :: r, _ :: q => by simp [noMixAll, noMix, noMix_bools r q]
theorem same_bools : ∀ bs cs : List Bool, PySem.Spec.sameAll (bs.map PyData.bool) (cs.map PyData.bool) = decide (bs = cs)
  | [], [] => by simp [PySem.Spec.sameAll]
  | [], _ :: _ => by simp [PySem.Spec.sameAll]
  | _ :: _, [] => by simp [PySem.Spec.sameAll]
  | n :: r, k :: q => by
    simp only [List.map_cons, PySem.Spec.sameAll, PySem.Spec.same, same_bools r q]
    by_cases h : n = k <;> simp [h]
theorem eqD_bools {K : PySem.W.Frag} {H : Hp} {Q : VK} {a b : Addr} {bs cs : List Bool} (ha : SqL K H a (bs.map V.bl)) (hb : SqL K H b (cs.map V.bl)) (q : Q (.bl (decide (bs = cs))) H) : rEqD K (.ref a) (.ref b) H Q :=
  ⟨_, _, .lst ha (.bools bs), .lst hb (.bools cs), shaped_bools bs, shaped_bools cs, by simp only [noMix]; exact noMix_bools bs cs, by simp only [PySem.Spec.same]; rw [same_bools]; exact q⟩
section
variable {X : Cx}
def PJ (X : Cx) (vs : List Expr) (t : St → Hp → Str → VK → Prop) : Prop :=
  ∀ (pins : List (Addr × Obj)) (s : Shared) (σ : St) (H : Hp) (out : Str) (Q : VK), Inv X pins σ H s → t σ H out Q → wpAny (model X.prog X.w) X.A (joinParts out (evalEach vs X.env)) (EP X pins σ Q) X.xe s
theorem pj_nil : PJ X [] (fun _ H out Q => out.length ≤ sizeLine ∧ Q (.str out) H) := fun _ _ _ H _ _ I ⟨z, q⟩ => joinParts_nil ⟨.str _, H, I.tok _, ⟨_, rfl⟩, q⟩ z
theorem pj_str {x : Str} {j} {pos : Pos} {vs : List Expr} {t : St → Hp → Str → VK → Prop} (h : PJ X vs t) : PJ X (.Constant (.str x) j pos :: vs) (fun σ H out Q => (out ++ x).length ≤ sizeLine ∧ t σ H (out ++ x) Q) :=
  fun pins s σ H out Q I ⟨z, q⟩ => joinParts_cons (Calls.Constant_str ⟨z, h pins _ σ H _ Q (I.tok _) q⟩)
theorem pj_int {e : Expr} {te : TE} {pos : Pos} {vs : List Expr} {t : St → Hp → Str → VK → Prop} (he : PE X e te) (h : PJ X vs t) :
    PJ X (.FormattedValue e (-1) none pos :: vs) (fun σ H out Q => te σ H fun v H1 => ∃ i : Int, v = .int i ∧ i.natAbs.log2 < 1920 ∧ (out ++ (toString i : String)).length ≤ sizeLine ∧ t σ H1 (out ++ (toString i : String)) Q) :=
  fun pins s σ H out Q I q => joinParts_cons (FormattedValue_plain (thn (he pins s σ H _ I q) fun u s1 ⟨v, H1, I1, r, i, ev, z, z2, q2⟩ => by
    subst ev
    obtain ⟨tk, rfl⟩ := (show ∃ t, u = Value.int i t from r)
    exact formatField_int_small z ⟨z2, h pins _ σ H1 _ Q (I1.tok _) q2⟩))
theorem pe_fs {v₁ v₂ : Expr} {vs : List Expr} {pos : Pos} {t : St → Hp → Str → VK → Prop} (h : PJ X (v₁ :: v₂ :: vs) t) : PE X (.JoinedStr (v₁ :: v₂ :: vs) pos) (fun σ H Q => t σ H Str.empty Q) :=
  fun pins s σ H Q I q => JoinedStr_many (h pins s σ H _ Q I q)
end
end L2
namespace L2
open PySem PySem.Spec PyProof.Rows
theorem RoomH.mono {j k : Nat} {A : Around} (r : RoomH k A) (h : j ≤ k) : RoomH j A := ⟨by have := r.dp; omega, by have := r.un; omega⟩
theorem FnOkH.mono {P : Program} {w : World} {K : PySem.W.Frag} {mg : Str → Option Value} {base : Heap} {j k : Nat} {f : Addr} {fd : FuncData} {ps : List Str} {sp : Sp} (F : FnOkH P w K mg base j f fd ps sp) (h : j ≤ k) :
    FnOkH P w K mg base k f fd ps sp := ⟨F.len, fun A outer s H args us vs Q E hr => F.run A outer s H args us vs Q E (hr.mono h)⟩
theorem boot_ty_ValueError : bootBuiltins "ValueError" = some (.type "ValueError") := by decide +kernel
theorem FnOk.dn {P : Program} {w : World} {K : PySem.W.Frag} {mg : Str → Option Value} {base : Heap} {k : Nat} {f : Addr} {fd : FuncData} {ps : List Str} {sp : Sp} (F : FnOk P w K mg base (CXW P w) k f fd ps sp) : FnOk P w K mg base CX0 k f fd ps (fun vs H Q _ => sp vs H Q E0) := F.downW fun _ _ _ _ h => h
end L2
namespace L2
open PySem PySem.Spec PyProof.Rows
section
variable {X : Cx} {k : Nat} {f C : Addr} {fd : FuncData} {ps : List Str} {sp : Sp} {x m : Str} {p pos apos : Pos} {e o : Expr} {es : List Expr} {t : TA} {ta : TE} {pins : List (Addr × Obj)} {Ex : St → XK}
end
theorem str_app_len (a b : Str) : (a ++ b).length = a.length + b.length := by
  show (a.cps ++ b.cps).size = a.cps.size + b.cps.size
  exact Array.size_append
theorem fs_log {i : Int} (h : i.natAbs < 2 ^ 100) : i.natAbs.log2 < 1920 := by
  by_cases h0 : i.natAbs = 0
  · rw [h0]; decide
  · have := (Nat.log2_lt h0).mpr h; omega
theorem fs_len {i : Int} {out : Str} {n : Nat} (h : i.natAbs < 2 ^ 100) (hn : out.length ≤ n) (hz : n + 101 ≤ 4000) : (out ++ (toString i : String)).length ≤ sizeLine ∧ (out ++ (toString i : String)).length ≤ n + 101 := by
  have h1 : (Str.ofString (toString i)).length ≤ 101 := by
    have := PySem.int_text_length_le (a := i) (k := 100) (by decide) (by
      by_cases h0 : i.natAbs = 0
      · rw [h0]; decide
      · exact (Nat.log2_lt h0).mpr h)
    rw [PySem.ofString_length]
    exact this
  rw [str_app_len]
  have h2 : (4000 : Nat) ≤ sizeLine := by decide
  omega
end L2
namespace L2
open PySem PySem.Spec PyProof.Rows
section
variable {X : Cx}
end
end L2
namespace Rc
open PySem PySem.Spec PyProof.Rows L2 PySem.Calls PyProof.V PySem.SeqAt
theorem u64 {k : Nat} {A : Around} (r : Room k A) : A.units + 64 < cLine := by have := r.un; omega
def namesL : List Str := ["BadHouses", "BadLines", "BadCover", "BadCrowns", "BadLosses", "BadAccount", "Unbacked", "Short", "Disagrees", "NoHouse", "NoCover", "NoHappening", "NoLoss", "BadDay", "BadTerms", "Endless", "Same", "Full", "BadDeed", "Nothing", "BadText"]
def seenL (w : Str) : List Bool := true :: namesL.map fun n => decide (n = w)
end Rc
namespace HT
open PySem PySem.Calls PyProof.Rows PyProof.V PySem.Spec PySem.W
abbrev IsZipO (h : Heap) (z TI TO a : Addr) (f : Bool) : Prop :=
  h.get? z = some { cls := .type "zip", dict := none, data := .fields #[rawInt a, .bool f, .bool false, .ref TI, .ref TO], slots := #[] }
section
variable {prog : Program} {w : World} {A : Around} {E : Value → Shared → Prop} {s : Shared}
theorem zip_out_false {z TI TO a : Addr} {f : Bool} {oa : Obj} {Q : Bool → Shared → Prop} (hz : IsZipO s.heap z TI TO a f) (ha : s.heap.get? a = some oa)
    (hQ : ∀ h', IsZipO h' z TI TO a true → Heap.SameBut z s.heap h' → Q false { s with heap := h' }) : wpAny (model prog w) A (Builtin.SmallTypes.ownedTupleIsFree (.ref z)) Q E s := by
  unfold Builtin.SmallTypes.ownedTupleIsFree
  refine wpAny_bind (wpAny_field hz rfl (x := rawInt a) rfl ?_)
  show wpAny _ _ (loadIfAlive ((a : Int).toNat) >>= _) _ _ _
  rw [Int.toNat_natCast]
  refine wpAny_bind (kdx_alive ha ?_)
  simp only [Option.isNone_some, Bool.false_eq_true, if_false]
  refine wpAny_bind (wpAny_field hz rfl (x := .bool f) rfl ?_)
  cases f with
  | true =>
    rw [if_neg (show ¬ ((Value.bool true != Value.bool true) = true) from Bool.false_ne_true)]
    exact wpAny_pure (hQ _ hz (Heap.SameBut.refl _ _))
  | false =>
    rw [if_pos (show (Value.bool false != Value.bool true) = true from rfl)]
    refine wpAny_bind (wpAny_setField_rec hz (by simp) fun h₃ he₃ hs₃ => ?_)
    exact wpAny_pure (hQ h₃ he₃ hs₃)
theorem zip_next_out {z TI TO i1 i2 l1 l2 a : Addr} {f : Bool} {oa : Obj} {k1 k2 : Nat} {xs ys : Array Value} {x y : Value} {Q : Value → Shared → Prop} (D : ZipApart z TI TO i1 i2 l1 l2)
    (hz : IsZipO s.heap z TI TO a f) (ha : s.heap.get? a = some oa) (hTI : IsPair s.heap TI (.ref i1) (.ref i2))
    (h1 : s.heap.IsListIter i1 l1 k1) (h2 : s.heap.IsListIter i2 l2 k2) (hl1 : s.heap.IsList l1 xs) (hl2 : s.heap.IsList l2 ys) (hx : xs[k1]? = some x) (hy : ys[k2]? = some y)
    (hQ : ∀ h', IsZipO h' z TI TO a true → h'.IsListIter i1 l1 (k1 + 1) → h'.IsListIter i2 l2 (k2 + 1) → IsPair h' s.heap.objs.size x y → h'.objs.size = s.heap.objs.size + 1 →
      (∀ c o, c ≠ z → c ≠ i1 → c ≠ i2 → s.heap.get? c = some o → h'.get? c = some o) → Q (.ref s.heap.objs.size) { s with heap := h' }) :
    wpAny (model prog w) A (Builtin.«zip.__next__» ⟨[.ref z], []⟩) (fun fin s' => ∃ v, fin = .done (.ret v) ∧ Q v s') E s := by
  show wpAny _ _ (field (.ref z) 2 >>= _) _ _ _
  refine wpAny_bind (wpAny_field hz rfl (x := .bool false) rfl ?_)
  show wpAny _ _ (field (.ref z) 3 >>= _) _ _ _
  refine wpAny_bind (wpAny_field hz rfl (x := .ref TI) rfl ?_)
  refine wpAny_bind (wpAny_seqItems hTI rfl ?_)
  show wpAny _ _ (Builtin.SmallTypes.ownedTupleIsFree (.ref z) >>= _) _ _ _
  refine wpAny_bind (zip_out_false hz ha fun h₁ hz₁ hs₁ => ?_)
  simp only [Bool.false_eq_true, if_false]
  refine wpAny_bind ?_
  rw [← Array.forIn_toList]
  simp only [List.forIn_cons, List.forIn_nil]
  refine wpAny_bind (wpAny_bind (wpAny_holding ?_))
  show wpAny _ _ (Builtin.SmallTypes.nextOf (.ref i1) >>= _) _ _ _
  refine wpAny_bind (wpAny_nextOf_list_item (h1.extBut hs₁.extBut D.i1z) (hl1.extBut hs₁.extBut D.l1z) hx fun h₂ h1₂ hs₂ => wpAny_pure ?_)
  refine wpAny_pure ?_
  refine wpAny_bind (wpAny_bind (wpAny_holding ?_))
  show wpAny _ _ (Builtin.SmallTypes.nextOf (.ref i2) >>= _) _ _ _
  refine wpAny_bind (wpAny_nextOf_list_item ((h2.extBut hs₁.extBut D.i2z).extBut hs₂.extBut D.i12.symm) ((hl2.extBut hs₁.extBut D.l2z).extBut hs₂.extBut D.l2i1) hy fun h₄ h2₄ hs₄ => wpAny_pure ?_)
  refine wpAny_pure (wpAny_pure ?_)
  refine wpAny_bind (wpAny_newTuple ?_ (hsz := by show 2 ≤ sizeLine; decide))
  have hsz : h₄.objs.size = s.heap.objs.size := by rw [hs₄.1, hs₂.1, hs₁.1]
  have hz₄ : IsZipO h₄ z TI TO a true := hs₄.extBut _ _ D.i2z.symm (hs₂.extBut _ _ D.i1z.symm hz₁)
  have h1₄ : h₄.IsListIter i1 l1 (k1 + 1) := h1₂.extBut hs₄.extBut D.i12
  have hk₄ : ∀ c o, c ≠ z → c ≠ i1 → c ≠ i2 → s.heap.get? c = some o → h₄.get? c = some o := fun c o c1 c3 c4 e => hs₄.extBut _ _ c4 (hs₂.extBut _ _ c3 (hs₁.extBut _ _ c1 e))
  refine wpAny_pure ⟨_, rfl, ?_⟩
  show Q (.ref h₄.objs.size) _
  have up : ∀ c o, h₄.get? c = some o → (h₄.push { cls := .type "tuple", data := .seq #[x, y] }).get? c = some o := fun c o e => Heap.get?_push_of_some _ e
  have q := hQ (h₄.push { cls := .type "tuple", data := .seq #[x, y] }) (up _ _ hz₄) (h1₄.at fun o e => up _ o e) (h2₄.at fun o e => up _ o e) (by rw [← hsz]; exact Heap.get?_push_size _ rfl) (by rw [Heap.size_push, hsz]) fun c o c1 c2 c3 e => up c o (hk₄ c o c1 c2 c3 e)
  rw [hsz]
  exact q
theorem zip_end_out {z TI TO i1 i2 l1 l2 a : Addr} {f : Bool} {oa : Obj} {k1 : Nat} {xs : Array Value} {Q : Fin → Shared → Prop} (hh : A.handled = none) (D : ZipApart z TI TO i1 i2 l1 l2)
    (hz : IsZipO s.heap z TI TO a f) (ha : s.heap.get? a = some oa) (hTI : IsPair s.heap TI (.ref i1) (.ref i2))
    (h1 : s.heap.IsListIter i1 l1 k1) (hl1 : s.heap.IsList l1 xs) (hx : xs[k1]? = none)
    (hE : ∀ h' e, (∀ c o, c ≠ z → c ≠ i1 → s.heap.get? c = some o → h'.get? c = some o) → (∃ o, h'.get? e = some o ∧ o.cls = .type "StopIteration") → E (.ref e) { s with heap := h' }) :
    wpAny (model prog w) A (Builtin.«zip.__next__» ⟨[.ref z], []⟩) Q E s := by
  show wpAny _ _ (field (.ref z) 2 >>= _) _ _ _
  refine wpAny_bind (wpAny_field hz rfl (x := .bool false) rfl ?_)
  show wpAny _ _ (field (.ref z) 3 >>= _) _ _ _
  refine wpAny_bind (wpAny_field hz rfl (x := .ref TI) rfl ?_)
  refine wpAny_bind (wpAny_seqItems hTI rfl ?_)
  show wpAny _ _ (Builtin.SmallTypes.ownedTupleIsFree (.ref z) >>= _) _ _ _
  refine wpAny_bind (zip_out_false hz ha fun h₁ hz₁ hs₁ => ?_)
  simp only [Bool.false_eq_true, if_false]
  refine wpAny_bind ?_
  rw [← Array.forIn_toList]
  simp only [List.forIn_cons, List.forIn_nil]
  refine wpAny_bind (wpAny_bind (wpAny_holding ?_))
  show wpAny _ _ (Builtin.SmallTypes.nextOf (.ref i1) >>= _) _ _ _
  refine wpAny_bind (wpAny_nextOf_list_end hh (h1.extBut hs₁.extBut D.i1z) (hl1.extBut hs₁.extBut D.l1z) hx fun h₂ e hs₂ he => ?_)
  exact hE h₂ e (fun c o c1 c3 e => hs₂ _ _ c3 (hs₁.extBut _ _ c1 e)) he
theorem pyNext_out {z TI TO i1 i2 l1 l2 a : Addr} {f : Bool} {oa : Obj} {k1 k2 : Nat} {xs ys : Array Value} {x y : Value} {Q : Option Value → Shared → Prop} (D : ZipApart z TI TO i1 i2 l1 l2)
    (hz : IsZipO s.heap z TI TO a f) (ha : s.heap.get? a = some oa) (hTI : IsPair s.heap TI (.ref i1) (.ref i2))
    (h1 : s.heap.IsListIter i1 l1 k1) (h2 : s.heap.IsListIter i2 l2 k2) (hl1 : s.heap.IsList l1 xs) (hl2 : s.heap.IsList l2 ys) (hx : xs[k1]? = some x) (hy : ys[k2]? = some y)
    (hQ : ∀ h', IsZipO h' z TI TO a true → h'.IsListIter i1 l1 (k1 + 1) → h'.IsListIter i2 l2 (k2 + 1) → IsPair h' s.heap.objs.size x y → h'.objs.size = s.heap.objs.size + 1 →
      (∀ c o, c ≠ z → c ≠ i1 → c ≠ i2 → s.heap.get? c = some o → h'.get? c = some o) → Q (some (.ref s.heap.objs.size)) { s with heap := h' }) :
    wpAny (model prog w) A (pyNext (.ref z)) Q E s := by
  have hT : s.TypeIs (.ref z) "zip" := ⟨_, hz, rfl⟩
  unfold pyNext
  exact wpAny_bind (wpAny_attempt (wpAny_callSpecial?_slot (name := Str.ofString "__next__") hT F.slot_zip_next
    (wpAny_call_entry F.slot_zip_next hT F.entry_zip_next
      (zip_next_out D hz ha hTI h1 h2 hl1 hl2 hx hy fun h' a1 a2 a3 a4 a5 a6 => wpAny_pure (hQ h' a1 a2 a3 a4 a5 a6)) (F.args_zip_next_1 _))))
theorem pyNext_outEnd {z TI TO i1 i2 l1 l2 a : Addr} {f : Bool} {oa : Obj} {k1 : Nat} {xs : Array Value} {Q : Option Value → Shared → Prop} (hh : A.handled = none) (D : ZipApart z TI TO i1 i2 l1 l2)
    (hz : IsZipO s.heap z TI TO a f) (ha : s.heap.get? a = some oa) (hTI : IsPair s.heap TI (.ref i1) (.ref i2))
    (h1 : s.heap.IsListIter i1 l1 k1) (hl1 : s.heap.IsList l1 xs) (hx : xs[k1]? = none)
    (hQ : ∀ h', (∀ c o, c ≠ z → c ≠ i1 → s.heap.get? c = some o → h'.get? c = some o) → Q none { s with heap := h' }) : wpAny (model prog w) A (pyNext (.ref z)) Q E s := by
  have hT : s.TypeIs (.ref z) "zip" := ⟨_, hz, rfl⟩
  unfold pyNext
  refine wpAny_bind (wpAny_attempt (wpAny_callSpecial?_slot (name := Str.ofString "__next__") hT F.slot_zip_next
    (wpAny_call_entry F.slot_zip_next hT F.entry_zip_next (zip_end_out hh D hz ha hTI h1 hl1 hx fun h' e hk he => ?_) (F.args_zip_next_1 _))))
  obtain ⟨o, ho, hc⟩ := he
  refine wpAny_bind (wpAny_isInstance (T := "StopIteration") (b := true) ⟨o, ho, hc⟩ isSubtype_stop ?_)
  exact wpAny_pure (hQ _ hk)
def ZSt (h : Heap) (z TI TO S : Addr) (i : Nat) : Prop :=
  (i = 0 ∧ IsZip h z TI TO .none ∧ ∃ a b, IsPair h TO a b) ∨ ∃ a f oa, IsZipO h z TI TO a f ∧ h.get? a = some oa ∧ S < a
structure ZG (xs ys : Array Value) (lo : Addr) (h : Heap) (as : List Addr) : Prop where
  rise : as.Pairwise (· < ·)
  above : ∀ a ∈ as, lo < a
  pairs : ∀ (j : Nat) (a : Addr), as[j]? = some a → ∃ x y, xs[j]? = some x ∧ ys[j]? = some y ∧ IsPair h a x y
theorem ZG.there {xs ys : Array Value} {lo : Addr} {h : Heap} {as : List Addr} (g : ZG xs ys lo h as) {a : Addr} (ha : a ∈ as) : a < h.objs.size := by
  obtain ⟨j, hj⟩ := List.mem_iff_getElem?.mp ha
  obtain ⟨_, _, _, _, e⟩ := g.pairs j a hj
  exact Heap.lt_size e
end
section
variable {prog : Program} {w : World} {A : Around} {s : Shared} {R : Result → Shared → Prop}
theorem zl_loop {S z TI TO i1 i2 l1 l2 : Addr} {xs ys : Array Value} (hh : A.handled = none) (D : ZipApart z TI TO i1 i2 l1 l2) (bz : z < S) (bTI : TI < S) (bTO : TO < S) (b1 : i1 < S) (b2 : i2 < S) (bl1 : l1 < S) (bl2 : l2 < S) (hn : xs.size ≤ sizeLine) (hxy : ys.size = xs.size) (res : Value) {h₁ : Heap}
    (hR : ∀ h' tk acc c as, (∀ b o, b ≠ S → b ≠ z → b ≠ TO → b ≠ i1 → b ≠ i2 → h₁.get? b = some o → h'.get? b = some o) → h'.get? S = some { cls := .type "list", dict := none, data := .seq acc c, slots := #[] } → as.length = xs.size → ZG xs ys S h' as →
      acc.toList = as.map Value.ref → R (.ok (.ret res)) { s with heap := h', toks := tk }) :
    ∀ (k i : Nat) (h : Heap) (tk c : Nat) (acc : Array Value) (as : List Addr), xs.size - i = k → i ≤ xs.size → ZSt h z TI TO S i → IsPair h TI (.ref i1) (.ref i2) → h.IsListIter i1 l1 i → h.IsListIter i2 l2 i → h.IsList l1 xs → h.IsList l2 ys →
      (∀ b o, b ≠ S → b ≠ z → b ≠ TO → b ≠ i1 → b ≠ i2 → h₁.get? b = some o → h.get? b = some o) →
      h.get? S = some { cls := .type "list", dict := none, data := .seq acc c, slots := #[] } → acc.toList = as.map Value.ref → as.length = i → ZG xs ys S h as →
      codeAny (model prog w) A (.builtin "list.extend.loop" ⟨[.ref S, .ref z, res], []⟩) R { s with heap := h, toks := tk } := by
  intro k
  induction k with
  | zero =>
    intro i h tk c acc as hk hi hst hTI hi1 hi2 hl1 hl2 hkeep hS hacc hal hG
    have hin : i = xs.size := by omega
    refine codeAny_builtin PySem.F.entry_extend_loop ?_
    rw [Around.under_plainId PySem.F.plain_extend_loop _]
    show wpAny _ A.in1 (pyNext (.ref z) >>= _) _ _ _
    have fin : ∀ h', (∀ c o, c ≠ z → c ≠ TO → c ≠ i1 → c ≠ i2 → h.get? c = some o → h'.get? c = some o) → R (.ok (.ret res)) { s with heap := h', toks := tk } := fun h' he => by
      refine hR h' tk acc c as (fun b o h1 h2 h3 h4 h5 e => he b o h2 h3 h4 h5 (hkeep b o h1 h2 h3 h4 h5 e)) (he S _ (Nat.ne_of_gt bz) (Nat.ne_of_gt bTO) (Nat.ne_of_gt b1) (Nat.ne_of_gt b2) hS) (by omega) ⟨hG.rise, hG.above, fun j a hj => ?_⟩ hacc
      obtain ⟨x, y, e1, e2, e3⟩ := hG.pairs j a hj
      have hb := hG.above a (List.mem_of_getElem? hj)
      exact ⟨x, y, e1, e2, he a _ (Nat.ne_of_gt (Nat.lt_trans bz hb)) (Nat.ne_of_gt (Nat.lt_trans bTO hb)) (Nat.ne_of_gt (Nat.lt_trans b1 hb)) (Nat.ne_of_gt (Nat.lt_trans b2 hb)) e3⟩
    rcases hst with ⟨rfl, hz, p, q, hTO⟩ | ⟨a, f, oa, hz, ha, haS⟩
    · refine wpAny_bind (wpAny_pyNext_zip_end (s := { s with heap := h, toks := tk }) (A := A.in1) hh D hz hTI hTO hi1 hi2 hl1 hl2 (.inl (by rw [Array.getElem?_eq_none]; omega)) fun h' he => ?_)
      exact wpAny_pure (fin h' he)
    · refine wpAny_bind (pyNext_outEnd (s := { s with heap := h, toks := tk }) (A := A.in1) hh D hz ha hTI hi1 hl1 (by rw [Array.getElem?_eq_none]; omega) fun h' he => ?_)
      exact wpAny_pure (fin h' fun c o c1 _ c3 _ e => he c o c1 c3 e)
  | succ k ih =>
    intro i h tk c acc as hk hi hst hTI hi1 hi2 hl1 hl2 hkeep hS hacc hal hG
    have hlt : i < xs.size := by omega
    have hx : xs[i]? = some xs[i] := Array.getElem?_eq_getElem hlt
    have hy : ys[i]? = some (ys[i]'(by omega)) := Array.getElem?_eq_getElem (by omega)
    have hsz : acc.size = i := by rw [← Array.length_toList, hacc, List.length_map, hal]
    have hSl : S < h.objs.size := Heap.lt_size hS
    refine codeAny_builtin PySem.F.entry_extend_loop ?_
    rw [Around.under_plainId PySem.F.plain_extend_loop _]
    show wpAny _ A.in1 (pyNext (.ref z) >>= _) _ _ _
    have fin : ∀ h', (∀ g, (∀ b o, b ≠ S → h'.get? b = some o → g.get? b = some o) → ZSt g z TI TO S (i + 1)) → h'.IsListIter i1 l1 (i + 1) → h'.IsListIter i2 l2 (i + 1) → IsPair h' h.objs.size xs[i] (ys[i]'(by omega)) → h'.objs.size = h.objs.size + 1 →
        (∀ c o, c ≠ z → c ≠ TO → c ≠ i1 → c ≠ i2 → h.get? c = some o → h'.get? c = some o) →
        wpAny (model prog w) A.in1 (updateSeq S (·.push (Value.ref h.objs.size)) >>= fun _ => (again (.builtin "list.extend.loop" ⟨[.ref S, .ref z, res], []⟩) : Sem Fin)) (fun fin s' => match fin with | .done f => R (.ok f) s' | .again c' => c'.quiet = true ∧ codeAny (model prog w) A c' R s') (fun e s' => R (.error e) s') { s with heap := h', toks := tk } := fun h' hst' a1 a2 a3 a4 hkp => by
      have hS' := hkp S _ (Nat.ne_of_gt bz) (Nat.ne_of_gt bTO) (Nat.ne_of_gt b1) (Nat.ne_of_gt b2) hS
      have up : ∀ b o, b ≠ S → h'.get? b = some o → (h'.update S (Obj.mapSeq (·.push (Value.ref h.objs.size)))).get? b = some o := fun b o hb e => (Heap.get?_update_other _ _ (Ne.symm hb)).trans e
      have D1 := D.l1z
      refine wpAny_bind ?_
      refine wpAny_updateSeq hS' rfl (wpAny_pure ⟨plainId_quiet PySem.F.plain_extend_loop _, ih (i + 1) _ tk _ (acc.push (Value.ref h.objs.size)) (as ++ [h.objs.size]) (by omega) hlt (hst' _ up) (up _ _ (Nat.ne_of_lt bTI) (hkp _ _ D.TIz D.TITO D.TIi1 D.TIi2 hTI)) (a1.at fun o e => up _ o (Nat.ne_of_lt b1) e) (a2.at fun o e => up _ o (Nat.ne_of_lt b2) e) ?_ ?_
        (fun b o c1 c2 c3 c4 c5 e => up b o c1 (hkp b o c2 c3 c4 c5 (hkeep b o c1 c2 c3 c4 c5 e))) (Heap.get?_update_self _ hS' rfl) (by rw [Array.toList_push, hacc, List.map_append]; rfl) (by rw [List.length_append, hal]; rfl) ⟨?_, ?_, ?_⟩⟩) (by rw [hsz]; omega) (by show (acc.push (Value.ref h.objs.size)).size ≤ sizeLine + 1; rw [Array.size_push, hsz]; omega)
      · obtain ⟨o, e, x⟩ := hl1
        exact ⟨o, up _ _ (Nat.ne_of_lt bl1) (hkp _ _ D.l1z D.l1TO D.l1i1 D.l1i2 e), x⟩
      · obtain ⟨o, e, x⟩ := hl2
        exact ⟨o, up _ _ (Nat.ne_of_lt bl2) (hkp _ _ D.l2z D.l2TO D.l2i1 D.l2i2 e), x⟩
      · refine List.pairwise_append.mpr ⟨hG.rise, List.pairwise_singleton _ _, fun a ha b hb => ?_⟩
        rw [List.mem_singleton.mp hb]
        exact hG.there ha
      · intro a ha
        rcases List.mem_append.mp ha with ha | ha
        · exact hG.above a ha
        · rw [List.mem_singleton.mp ha]; exact hSl
      · intro j b hj
        rcases Nat.lt_trichotomy j as.length with h1 | h1 | h1
        · rw [List.getElem?_append_left h1] at hj
          obtain ⟨x, y, e1, e2, e3⟩ := hG.pairs j b hj
          have hb := hG.above b (List.mem_of_getElem? hj)
          exact ⟨x, y, e1, e2, up b _ (Nat.ne_of_gt hb) (hkp b _ (Nat.ne_of_gt (Nat.lt_trans bz hb)) (Nat.ne_of_gt (Nat.lt_trans bTO hb)) (Nat.ne_of_gt (Nat.lt_trans b1 hb)) (Nat.ne_of_gt (Nat.lt_trans b2 hb)) e3)⟩
        · subst h1
          have hb : h.objs.size = b := by simpa using hj
          subst hb
          exact ⟨_, _, by rw [hal]; exact hx, by rw [hal]; exact hy, up _ _ (Nat.ne_of_gt hSl) a3⟩
        · have hnone : (as ++ [h.objs.size])[j]? = none := List.getElem?_eq_none (by rw [List.length_append, List.length_singleton]; omega)
          rw [hnone] at hj; cases hj
    rcases hst with ⟨rfl, hz, p, q, hTO⟩ | ⟨a, f, oa, hz, ha, haS⟩
    · refine wpAny_bind (wpAny_pyNext_zip_item (s := { s with heap := h, toks := tk }) D hz hTI hTO hi1 hi2 hl1 hl2 hx hy fun h' a1 a2 a3 a4 a5 a6 a7 => ?_)
      exact fin h' (fun g hg => .inr ⟨h.objs.size, false, _, hg _ _ (Nat.ne_of_lt bz) a1, hg _ _ (Nat.ne_of_gt hSl) a5, hSl⟩) a3 a4 a5 a6 a7
    · refine wpAny_bind (pyNext_out (s := { s with heap := h, toks := tk }) D hz ha hTI hi1 hi2 hl1 hl2 hx hy fun h' a1 a3 a4 a5 a6 a7 => ?_)
      exact fin h' (fun g hg => .inr ⟨a, true, oa, hg _ _ (Nat.ne_of_lt bz) a1, hg _ _ (Nat.ne_of_gt haS) (a7 a oa (Nat.ne_of_gt (Nat.lt_trans bz haS)) (Nat.ne_of_gt (Nat.lt_trans b1 haS)) (Nat.ne_of_gt (Nat.lt_trans b2 haS)) ha), haS⟩) a3 a4 a5 a6 fun c o c1 _ c3 c4 e => a7 c o c1 c3 c4 e
end
theorem zl_len : typeLookup (.type "zip") "__len__" = pure none := by rw [typeLookup_type, builtinLookup_eq_fast]; kernel_rfl
theorem zl_lenHint : typeLookup (.type "zip") "__length_hint__" = pure none := by rw [typeLookup_type, builtinLookup_eq_fast]; kernel_rfl
structure ZNew (h : Heap) (z TI TO i1 i2 l1 l2 : Addr) (xs ys : Array Value) : Prop where
  apart : ZipApart z TI TO i1 i2 l1 l2
  hz : IsZip h z TI TO .none
  hTI : IsPair h TI (.ref i1) (.ref i2)
  hTO : IsPair h TO .none .none
  h1 : h.IsListIter i1 l1 0
  h2 : h.IsListIter i2 l2 0
  hl1 : h.IsList l1 xs
  hl2 : h.IsList l2 ys
section
variable {h h' : Heap} {z TI TO i1 i2 l1 l2 : Addr} {xs ys : Array Value}
theorem ZNew.keep (n : ZNew h z TI TO i1 i2 l1 l2 xs ys) {S : Addr} (bz : z < S) (bTI : TI < S) (bTO : TO < S) (b1 : i1 < S) (b2 : i2 < S) (bl1 : l1 < S) (bl2 : l2 < S) (k : ∀ b o, b ≠ S → h.get? b = some o → h'.get? b = some o) : ZNew h' z TI TO i1 i2 l1 l2 xs ys :=
  ⟨n.apart, k _ _ (Nat.ne_of_lt bz) n.hz, k _ _ (Nat.ne_of_lt bTI) n.hTI, k _ _ (Nat.ne_of_lt bTO) n.hTO, n.h1.at fun o e => k _ o (Nat.ne_of_lt b1) e, n.h2.at fun o e => k _ o (Nat.ne_of_lt b2) e,
    let ⟨o, e, x⟩ := n.hl1; ⟨o, k _ _ (Nat.ne_of_lt bl1) e, x⟩, let ⟨o, e, x⟩ := n.hl2; ⟨o, k _ _ (Nat.ne_of_lt bl2) e, x⟩⟩
end
section
variable {prog : Program} {w : World} {A : Around} {E : Value → Shared → Prop} {s : Shared} {z TI TO i1 i2 l1 l2 : Addr} {xs ys : Array Value}
theorem zl_hint (hT : s.TypeIs (.ref z) "zip") {Q : Bool → Shared → Prop} (h : Q true s) : wpAny (model prog w) A (Builtin.List.listLengthHint (.ref z)) Q E s := by
  unfold Builtin.List.listLengthHint
  refine wpAny_bind (wpAny_specialOf hT zl_len ?_)
  refine wpAny_ite_split (fun hab => absurd hab (by decide)) (fun _ => ?_)
  refine wpAny_ite_split (fun hab => absurd hab (by decide)) (fun _ => ?_)
  refine wpAny_bind (wpAny_specialOf hT zl_lenHint ?_)
  exact wpAny_pure h
theorem zl_extend {R : Result → Shared → Prop} (hh : A.handled = none) (n : ZNew s.heap z TI TO i1 i2 l1 l2 xs ys) (S : Addr) (bz : z < S) (bTI : TI < S) (bTO : TO < S) (b1 : i1 < S) (b2 : i2 < S) (bl1 : l1 < S) (bl2 : l2 < S) (hn : xs.size ≤ sizeLine) (hxy : ys.size = xs.size) (res : Value) (c₀ : Nat) (hS : s.heap.get? S = some { cls := .type "list", data := .seq #[] c₀ })
    (hR : ∀ h' tk acc c as, (∀ b o, b ≠ S → b ≠ z → b ≠ TO → b ≠ i1 → b ≠ i2 → s.heap.get? b = some o → h'.get? b = some o) → h'.get? S = some { cls := .type "list", dict := none, data := .seq acc c, slots := #[] } → as.length = xs.size → ZG xs ys S h' as →
      acc.toList = as.map Value.ref → R (.ok (.ret res)) { s with heap := h', toks := tk }) :
    wpAny (model prog w) A.in1 (Builtin.List.listExtendWith (.ref S) (.ref z) res)
      (fun fin s' => match fin with | .done f => R (.ok f) s' | .again c' => c'.quiet = true ∧ codeAny (model prog w) A c' R s') (fun e s' => R (.error e) s') s := by
  have hT : s.TypeIs (.ref z) "zip" := ⟨_, n.hz, rfl⟩
  unfold Builtin.List.listExtendWith
  refine wpAny_bind (wpAny_typeOf (T := "zip") hT ?_)
  have h1 : Builtin.List.listSameRef (.ref S) (.ref z) = false := by simp [Builtin.List.listSameRef, Nat.ne_of_gt bz]
  have h2 : (Value.type "zip" == Value.type "list") = false := by decide
  have h3 : (Value.type "zip" == Value.type "tuple") = false := by decide
  simp only [h1, h2, h3, Bool.or_false, Bool.false_eq_true, if_false]
  refine wpAny_bind (wpAny_pyIter_zip n.hz ?_)
  refine wpAny_bind (wpAny_holding (zl_hint hT ?_))
  refine wpAny_ite_split (fun _ => ?_) (fun hab => absurd (by simp) hab)
  refine wpAny_bind (wpAny_rule ?_)
  refine wpAny_bind ?_
  show wpAny _ _ (updateSeq S (·.push .none) >>= fun _ => updateSeq S (·.pop)) _ _ _
  refine wpAny_bind (wpAny_updateSeq hS rfl ?_)
  have hS₂ := Heap.get?_update_self (Obj.mapSeq (·.push Value.none)) hS rfl
  refine wpAny_updateSeq (hz := by seq_fits) hS₂ rfl ?_
  have hS₃ := Heap.get?_update_self (Obj.mapSeq (·.pop)) hS₂ rfl
  have up : ∀ b o, b ≠ S → s.heap.get? b = some o → ((s.heap.update S (Obj.mapSeq (·.push Value.none))).update S (Obj.mapSeq (·.pop))).get? b = some o := fun b o hb e => (Heap.get?_update_other _ _ (Ne.symm hb)).trans ((Heap.get?_update_other _ _ (Ne.symm hb)).trans e)
  have n3 := n.keep bz bTI bTO b1 b2 bl1 bl2 up
  refine wpAny_pure ⟨plainId_quiet PySem.F.plain_extend_loop _, ?_⟩
  exact zl_loop (s := s) (h₁ := s.heap) hh n.apart bz bTI bTO b1 b2 bl1 bl2 hn hxy res hR xs.size 0 _ _ _ #[] [] (Nat.sub_zero _) (Nat.zero_le _) (.inl ⟨rfl, n3.hz, _, _, n3.hTO⟩) n3.hTI n3.h1 n3.h2 n3.hl1 n3.hl2 (fun b o c1 _ _ _ _ e => up b o c1 e) hS₃ rfl rfl ⟨List.Pairwise.nil, (fun _ ha => nomatch ha), (fun j a hj => by simp at hj)⟩
theorem zl_init {R : Result → Shared → Prop} (hh : A.handled = none) (n : ZNew s.heap z TI TO i1 i2 l1 l2 xs ys) (S : Addr) (bz : z < S) (bTI : TI < S) (bTO : TO < S) (b1 : i1 < S) (b2 : i2 < S) (bl1 : l1 < S) (bl2 : l2 < S) (hn : xs.size ≤ sizeLine) (hxy : ys.size = xs.size) (hS : s.heap.get? S = some { cls := .type "list", data := .seq #[] })
    (hR : ∀ h' tk acc c as, (∀ b o, b ≠ S → b ≠ z → b ≠ TO → b ≠ i1 → b ≠ i2 → s.heap.get? b = some o → h'.get? b = some o) → h'.get? S = some { cls := .type "list", dict := none, data := .seq acc c, slots := #[] } → as.length = xs.size → ZG xs ys S h' as →
      acc.toList = as.map Value.ref → R (.ok (.ret .none)) { s with heap := h', toks := tk }) :
    wpAny (model prog w) A.in1 (Builtin.«list.__init__» ⟨[.ref S, .ref z], []⟩)
      (fun fin s' => match fin with | .done f => R (.ok f) s' | .again c' => c'.quiet = true ∧ codeAny (model prog w) A c' R s') (fun e s' => R (.error e) s') s := by
  show wpAny _ _ (do let old ← Builtin.List.listItems (.ref S); Builtin.List.listUpdate (.ref S) (fun _ => #[]); letGo old.toList.reverse; Builtin.List.listExtendWith (.ref S) (.ref z) .none) _ _ s
  refine wpAny_bind ?_
  unfold Builtin.List.listItems
  refine wpAny_bind (wpAny_seqItems hS rfl (wpAny_pure ?_))
  show wpAny _ _ (updateSeq S (fun _ => #[]) >>= fun _ => letGo (#[] : Array Value).toList.reverse >>= fun _ => Builtin.List.listExtendWith (.ref S) (.ref z) .none) _ _ s
  refine wpAny_bind (wpAny_updateSeq hS rfl ?_)
  have hS₂ := Heap.get?_update_self (Obj.mapSeq (fun _ => (#[] : Array Value))) hS rfl
  have oth : ∀ b o, b ≠ S → s.heap.get? b = some o → (s.heap.update S (Obj.mapSeq (fun _ => (#[] : Array Value)))).get? b = some o :=
    fun b o hb e => (Heap.get?_update_other _ _ (Ne.symm hb)).trans e
  refine wpAny_bind (wpAny_letGo ?_)
  refine zl_extend hh (n.keep bz bTI bTO b1 b2 bl1 bl2 oth) S bz bTI bTO b1 b2 bl1 bl2 hn hxy .none _ hS₂ fun h' tk acc c as hk hS' hl hG hacc => ?_
  exact hR h' tk acc c as (fun b o c1 c2 c3 c4 c5 e => hk b o c1 c2 c3 c4 c5 (oth b o c1 e)) hS' hl hG hacc
theorem zl_call {Q : Value → Shared → Prop} (hh : A.handled = none) (n : ZNew s.heap z TI TO i1 i2 l1 l2 xs ys) (hn : xs.size ≤ sizeLine) (hxy : ys.size = xs.size)
    (hQ : ∀ h' tk acc c as, (∀ b o, b ≠ z → b ≠ TO → b ≠ i1 → b ≠ i2 → s.heap.get? b = some o → h'.get? b = some o) → h'.get? s.heap.objs.size = some { cls := .type "list", dict := none, data := .seq acc c, slots := #[] } → as.length = xs.size → ZG xs ys s.heap.objs.size h' as →
      acc.toList = as.map Value.ref → Q (.ref s.heap.objs.size) { s with heap := h', toks := tk }) :
    wpAny (model prog w) A (call (.type "list") [.ref z]) Q E s := by
  refine callType_codes (Q₁ := fun obj s₁ => obj = .ref s.heap.objs.size ∧ s₁ = { s with heap := s.heap.push { cls := .type "list", data := .seq #[] } }) PySem.F.called_list (PySem.F.typeCall_list_1 _) PySem.F.entry_list_init
    (code_list_new _ ⟨rfl, rfl⟩) fun obj s₁ h₁ => ?_
  obtain ⟨rfl, rfl⟩ := h₁
  have hS : (s.heap.push { cls := .type "list", data := .seq #[] }).get? s.heap.objs.size = some { cls := .type "list", data := .seq #[] } := Heap.get?_push_size _ rfl
  have lt : ∀ {b o}, s.heap.get? b = some o → b < s.heap.objs.size := fun e => Heap.lt_size e
  have bz := lt n.hz
  have bTI := lt n.hTI
  have bTO := lt n.hTO
  have b1 : i1 < s.heap.objs.size := let ⟨_, e, _⟩ := n.h1; lt e
  have b2 : i2 < s.heap.objs.size := let ⟨_, e, _⟩ := n.h2; lt e
  have bl1 : l1 < s.heap.objs.size := let ⟨_, e, _⟩ := n.hl1; lt e
  have bl2 : l2 < s.heap.objs.size := let ⟨_, e, _⟩ := n.hl2; lt e
  refine ⟨⟨_, hS, rfl⟩, PySem.F.args_list_init_2 _ _, zl_init (A := A.in1) hh (n.keep bz bTI bTO b1 b2 bl1 bl2 fun b o _ e => Heap.get?_push_of_some _ e) _ bz bTI bTO b1 b2 bl1 bl2 hn hxy hS fun h' tk acc c as hk hS' hl hG hacc => ?_⟩
  exact ⟨rfl, hQ h' tk acc c as (fun b o c2 c3 c4 c5 e => hk b o (Nat.ne_of_lt (Heap.lt_size e)) c2 c3 c4 c5 (Heap.get?_push_of_some _ e)) hS' hl hG hacc⟩
end
end HT
namespace L2
open PySem PySem.Spec PyProof.Rows HT
section
variable {X : Cx} {pins : List (Addr × Obj)} {σ : St} {H H' : Hp} {s : Shared} {h' : Heap}
theorem Inv.many {t' : Nat} (I : Inv X pins σ H s) (k : ∀ b u, s.heap.get? b = some u → h'.get? b = some u) (old : ∀ b, b < s.heap.objs.size → H' b = H b)
    (new : ∀ b o, s.heap.objs.size ≤ b → H' b = some o → ((∃ xs, o = .tup xs) ∨ ∃ xs, o = .lst xs) ∧ ObjOk X.prog X.w H' h' b o) : Inv X pins σ H' { s with heap := h', toks := t' } := by
  have up : ∀ b o, H b = some o → H' b = some o := fun b o e => by rw [old b (I.hok.lt e)]; exact e
  refine I.un ⟨fun b ob q _ _ _ => k b ob q, fun b ob q _ _ _ => ⟨ob.slots, k b ob q⟩, fun b ob q n _ => by rw [old b (Heap.lt_size q)]; exact n, fun b ob q _ => ⟨ob, k b ob q⟩, fun b xs q => up b _ q, fun b o u q => up b _ q, fun b ps q => ⟨#[], by rw [up b _ q]; simp⟩⟩ fun b o e => ?_
  rcases Nat.lt_or_ge b s.heap.objs.size with hb | hb
  · rw [old b hb] at e
    exact (I.hok b o e).stay (fun c v _ q => k c v q) (fun c q => up c _ q) fun c xs q => up c _ q
  · exact (new b o hb e).2
def pairH (H : Hp) (S : Addr) (as : List Addr) (xs ys : List V) : Hp := fun b =>
  if b = S then some (.lst (as.map V.ref)) else match as.findIdx? (· == b) with
    | some j => match xs[j]?, ys[j]? with | some x, some y => some (.tup [x, y]) | _, _ => none
    | none => H b
theorem pairH_S {S : Addr} {as : List Addr} {xs ys : List V} : pairH H S as xs ys S = some (.lst (as.map V.ref)) := if_pos rfl
theorem findIdx_of {as : List Addr} (nd : as.Nodup) {j : Nat} {a : Addr} (h : as[j]? = some a) : as.findIdx? (· == a) = some j := by
  have hj := get_lt h
  rw [List.findIdx?_eq_some_iff_getElem]
  refine ⟨hj, ?_, fun i hi => ?_⟩
  · rw [List.getElem?_eq_getElem hj] at h; cases h; simp
  · rw [List.getElem?_eq_getElem hj] at h; cases h
    intro z
    have e : as[i]'(by omega) = as[j] := by simpa using z
    have := (List.getElem_inj nd).mp e
    omega
theorem findIdx_no {as : List Addr} {b : Addr} (h : b ∉ as) : as.findIdx? (· == b) = none := by
  rw [List.findIdx?_eq_none_iff]
  intro x hx
  simp only [beq_eq_false_iff_ne, ne_eq]
  exact fun z => h (z ▸ hx)
def tLZ (K : PySem.W.Frag) (ta : TA) : TE := fun σ H Q => ta σ H fun vs H1 => ∃ a b xs ys, vs = [.ref a, .ref b] ∧ SqL K H1 a xs ∧ SqL K H1 b ys ∧ ys.length = xs.length ∧
  ∀ (l : Addr) (ts : List Addr) (H2 : Hp), H1 l = none → Same H1 H2 → H2 l = some (.lst (ts.map V.ref)) → ts.length = xs.length → (∀ (j : Nat) (t : Addr), ts[j]? = some t → ∃ x y, xs[j]? = some x ∧ ys[j]? = some y ∧ H2 t = some (.tup [x, y])) → Q (.ref l) H2
theorem pe_lz {a b : Expr} {ta : TA} {p1 p2 pos1 pos2 : Pos} (hc : X.calm = true) (hg1 : Gl X "list") (hm1 : X.mg "list" = none) (hg : Gl X "zip") (hm : X.mg "zip" = none) (ha : PA X [a, b] ta)
    (hs : starEach [a, b] X.env = [(false, eval a X.env), (false, eval b X.env)] := by rfl) (hs2 : starEach [b] X.env = [(false, eval b X.env)] := by rfl)
    (hs3 : starEach [.Call (.Name "zip" p2) [a, b] [] pos2] X.env = [(false, eval (.Call (.Name "zip" p2) [a, b] [] pos2) X.env)] := by rfl) :
    PE X (.Call (.Name "list" p1) [.Call (.Name "zip" p2) [a, b] [] pos2] [] pos1) (tLZ X.K ta) := by
  intro pins s σ H Q I h
  refine wpAny_Call_Name_kw (ld_blt I hg1 hm1 boot_ty_list (PyProof.Rows.callWith_type1 ?_ (by rw [hs3]; rfl) rfl))
  rw [hs3]
  show wpAny _ _ (spliced ((false, _) :: backTo pos1 [])) _ _ s
  refine Calls.spliced_cons (Call_ (ld_blt I hg hm boot_zip (PyProof.Rows.callWith_type1 (thn (ha pos2 pins s σ H _ I h) fun us s1 ⟨vs, H1, I1, r1, q1⟩ => ?_) (by rw [hs, hs2]) (by rw [hs2]; rfl))))
  obtain ⟨l1, l2, xs, ys, e, q1, q2, hxy, q⟩ := q1
  subst e
  cases r1 with
  | cons r rr =>
    cases rr with
    | cons r' rr =>
      cases rr
      cases r
      cases r'
      obtain ⟨ws, rw1, p1, z1⟩ := I1.list q1
      obtain ⟨vs, rw2, p2, z2⟩ := I1.list q2
      have lt1 : l1 < s1.heap.objs.size := by obtain ⟨o, e, _⟩ := p1.isList; exact pins_lt e
      have lt2 : l2 < s1.heap.objs.size := by obtain ⟨o, e, _⟩ := p2.isList; exact pins_lt e
      refine call_zip_2 p1.isList p2.isList fun h' a1 a2 a3 a4 a5 a6 a7 => ?_
      refine Calls.spliced_nil ?_
      have e1 := rw1.length
      have e2 := rw2.length
      have n : ZNew h' (s1.heap.objs.size + 4) (s1.heap.objs.size + 2) (s1.heap.objs.size + 3) s1.heap.objs.size (s1.heap.objs.size + 1) l1 l2 ws.toArray vs.toArray :=
        ⟨zipApart_new lt1 lt2, a1, a2, a3, a4, a5, let ⟨o, e, x⟩ := p1.isList; ⟨o, a7 _ _ e, x⟩, let ⟨o, e, x⟩ := p2.isList; ⟨o, a7 _ _ e, x⟩⟩
      refine zl_call (s := { s1 with heap := h' }) (I1.ok.hd hc) n (by simp only [List.size_toArray]; omega) (by simp only [List.size_toArray]; omega) fun h2 tk acc c as hk hS hal hG hacc => ?_
      dsimp only at hk hS hG
      have hlt : s1.heap.objs.size < h'.objs.size := by omega
      generalize hSS : h'.objs.size = S at *
      have nd : as.Nodup := List.Pairwise.imp (fun h => Nat.ne_of_lt h) hG.rise
      have nin : ∀ b, b < s1.heap.objs.size → b ≠ S ∧ b ∉ as := fun b hb => ⟨Nat.ne_of_lt (Nat.lt_trans hb hlt), fun z => absurd (Nat.lt_trans hb (Nat.lt_trans hlt (hG.above b z))) (Nat.lt_irrefl _)⟩
      have old : ∀ b, b < s1.heap.objs.size → pairH H1 S as xs ys b = H1 b := fun b hb => by
        unfold pairH
        rw [if_neg (nin b hb).1, findIdx_no (nin b hb).2]
      have at_ : ∀ (j : Nat) (t : Addr), as[j]? = some t → ∃ x y, xs[j]? = some x ∧ ys[j]? = some y ∧ pairH H1 S as xs ys t = some (.tup [x, y]) := fun j t ht => by
        have hj := get_lt ht
        obtain ⟨x, hx⟩ := get_some (xs := xs) (i := j) (by simp only [List.size_toArray] at hal; omega)
        obtain ⟨y, hy⟩ := get_some (xs := ys) (i := j) (by simp only [List.size_toArray] at hal; omega)
        refine ⟨x, y, hx, hy, ?_⟩
        unfold pairH
        rw [if_neg (Nat.ne_of_gt (hG.above t (List.mem_of_getElem? ht))), findIdx_of nd ht]
        dsimp only
        rw [hx, hy]
      have vr : ∀ l : List Addr, Vals (l.map V.ref) (l.map Value.ref) := fun l => by
        induction l with
        | nil => exact .nil
        | cons a l ih => exact .cons rfl ih
      have I2 : Inv X pins σ (pairH H1 S as xs ys) { s1 with heap := h2, toks := tk } := by
        refine I1.many (fun b u e => ?_) old fun b o hb e => ?_
        · have hb := Heap.lt_size e
          exact hk b u (Nat.ne_of_lt (Nat.lt_of_lt_of_le hb (Nat.le_add_right _ _))) (Nat.ne_of_lt (Nat.lt_of_lt_of_le hb (Nat.le_add_right _ _))) (Nat.ne_of_lt hb) (Nat.ne_of_lt (Nat.lt_of_lt_of_le hb (Nat.le_add_right _ _))) (a7 b u e)
        · by_cases hbS : b = S
          · subst hbS
            rw [pairH_S] at e
            cases e
            exact ⟨.inr ⟨_, rfl⟩, by rw [List.length_map]; simp only [List.size_toArray] at hal; omega, acc.toList, c, by rw [hacc]; exact vr as, by rw [Array.toArray_toList]; exact hS⟩
          · by_cases hba : b ∈ as
            · obtain ⟨j, hj⟩ := List.mem_iff_getElem?.mp hba
              obtain ⟨x, y, hx, hy, e'⟩ := at_ j b hj
              rw [e'] at e
              cases e
              obtain ⟨u, v, hu, hv, hp⟩ := hG.pairs j b hj
              obtain ⟨u', hu', ru⟩ := rw1.get hx
              obtain ⟨v', hv', rv⟩ := rw2.get hy
              have eu : u' = u := by simpa [hu'] using hu
              have ev : v' = v := by simpa [hv'] using hv
              subst eu ev
              exact ⟨.inl ⟨_, rfl⟩, by show 2 ≤ sizeLine; decide, [u', v'], .cons ru (.cons rv .nil), ⟨_, hp, rfl, _, rfl⟩⟩
            · unfold pairH at e
              rw [if_neg hbS, findIdx_no hba, I1.hok.fresh hb] at e
              cases e
      refine ⟨.ref S, _, I2, rfl, q S as _ (I1.hok.fresh (Nat.le_of_lt hlt)) (fun b o e => ?_) pairH_S (by simp only [List.size_toArray] at hal; omega) at_⟩
      rw [old b (I1.hok.lt e)]; exact e
end
end L2
namespace L2
open PySem PySem.Spec PyProof.Rows
theorem pgcNT (i0 i1 i2 : Nat) {X : Cx} {scope : Scope} {cl : List (Str × Addr)} {C : Addr} {s₀ : Shared} {H₀ : Hp} {fp : List Addr} {x0 x1 x2 : Str} {p0 p1 p2 pos pos' : Pos} {k k' : Nat} (hN : (scope.names.map (·.1)).Nodup := by decide +kernel)
    (h0 : (scope.names.map (·.1))[i0]? = some x0 := by rfl) (l0 : (relabel scope X.env).names.lookup x0 = some .local := by rfl)
    (h1 : (scope.names.map (·.1))[i1]? = some x1 := by rfl) (l1 : (relabel scope X.env).names.lookup x1 = some .local := by rfl)
    (h2 : (scope.names.map (·.1))[i2]? = some x2 := by rfl) (l2 : (relabel scope X.env).names.lookup x2 = some .local := by rfl)
    (hc : X.calm = true := by rfl) : PG (X.cmp scope cl C s₀ H₀ fp) (.Tuple [.Name x0 p0, .Tuple [.Name x1 p1, .Name x2 p2] k' pos'] k pos) (gTup X.K 2 (gCons (gName i0) (gCons (gTup X.K 2 (gCons (gName i1) (gCons (gName i2) gNil))) gNil))) :=
  pg_tup (X := X.cmp scope cl C s₀ H₀ fp) (n := 2) hc (pgs_cons (pg_name (cmp_nd hN) h0 (.inl l0) (.inr l0)) (pgs_cons (pg_tup (X := X.cmp scope cl C s₀ H₀ fp) (n := 2) hc (pgs_cons (pg_name (cmp_nd hN) h1 (.inl l1) (.inr l1)) (pgs_cons (pg_name (cmp_nd hN) h2 (.inl l2) (.inr l2)) pgs_nil))) pgs_nil))
end L2
namespace Rc
open PySem PySem.Spec PyProof.Rows L2
def diffL (a b : List Int) : List Int := (List.range a.length).filterMap fun i => if a.getD i 0 = b.getD i 0 then none else some (i : Int)
theorem diff_fm (a b : List Int) : (List.range a.length).filterMap (fun i => if a.getD i 0 = b.getD i 0 then none else some (V.int (i : Int))) = (diffL a b).map V.int := by
  unfold diffL
  rw [List.map_filterMap]
  congr 1
  funext i
  split <;> rfl
def hangL (cs : List Row) (ls : List Int) (j : Nat) : List Int := diffL (leastL cs ls) (leastL cs (ls.set j 0))
theorem more_nought {ls : List Int} {j : Nat} : moreL ls j (-(ls.getD j 0)) = ls.set j 0 := by
  unfold moreL
  rw [Int.add_right_neg]
theorem diff_len (a b : List Int) : (diffL a b).length ≤ a.length := by
  unfold diffL
  have := List.length_filterMap_le (fun i => if a.getD i 0 = b.getD i 0 then none else some (i : Int)) (List.range a.length)
  rw [List.length_range] at this
  exact this
theorem set_good {h : Nat} {cs : List Row} {ls : List Int} (g : GoodT h cs ls) (j : Nat) (hj : j < ls.length) : GoodT h cs (ls.set j 0) := by
  rw [← more_nought]
  exact more_good g (by omega) (by omega)
end Rc
namespace Rc
open PySem PySem.Spec PyProof.Rows L2
theorem set_zero_get {ls : List Int} {j k : Nat} (hk : k < ls.length) : (ls.set j 0).getD k 0 = ls.getD k 0 * (if decide (¬ k = j) = true then (1 : Int) else 0) := by
  rw [List.getD_eq_getElem?_getD, List.getElem?_set]
  by_cases e : j = k
  · subst e
    rw [if_pos rfl, if_pos hk, if_neg (by simp)]; simp
  · rw [if_neg e, if_pos (by simp; exact fun z => e z.symm), Int.mul_one, ← List.getD_eq_getElem?_getD]
end Rc
theorem PySem.W.Fast.tw8436918764502947656 : True := trivial
theorem PySem.W.Fast.tw5903328914075442851 : True := trivial
theorem PySem.W.Fast.tw12802954559448277997 : True := trivial
theorem PySem.W.Fast.tw11631558106396346534 : True := trivial
theorem PySem.W.Fast.tw6236911014666643913 : True := trivial
theorem PySem.W.Fast.tw10271324748386432166 : True := trivial
theorem PySem.W.Fast.tw18053376000713142571 : True := trivial
theorem PySem.W.Fast.tw5269509065746021585 : True := trivial
theorem PySem.W.Fast.tw11693721840568893378 : True := trivial
theorem PySem.W.Fast.tw17441779720534302073 : True := trivial
theorem PySem.W.Fast.tw313348640874093250 : True := trivial
theorem PySem.W.Fast.tw15729349496576873708 : True := trivial
theorem PySem.W.Fast.tw11425026491459511665 : True := trivial
theorem PySem.W.Fast.tw7624318400721645959 : True := trivial
theorem PySem.W.Fast.tw1177666087407351161 : True := trivial
theorem PySem.W.Fast.tw832234831579643347 : True := trivial
theorem PySem.W.Fast.tw12298237185674250558 : True := trivial
theorem PySem.W.Fast.tw14640667859987931763 : True := trivial
theorem PySem.W.Fast.tw6261665627824578861 : True := trivial
theorem PySem.W.Fast.tw4786893907378398321 : True := trivial
theorem PySem.W.Fast.tw6767041874929126025 : True := trivial
theorem PySem.W.Fast.tw15320799155107648660 : True := trivial
theorem PySem.W.Fast.tw15166414521041103798 : True := trivial
theorem PySem.W.Fast.tw2500281130867040344 : True := trivial
theorem PySem.W.Fast.tw13465643703938159845 : True := trivial
theorem PySem.W.Fast.tw7591578525104988620 : True := trivial
theorem PySem.W.Fast.tw15882450000420125440 : True := trivial
theorem PySem.W.Fast.tw10351414441189062965 : True := trivial
theorem PySem.W.Fast.tw17656407218971536516 : True := trivial
theorem PySem.W.Fast.tw7257289298742358524 : True := trivial
theorem PySem.W.Fast.tw285524199345085558 : True := trivial
theorem PySem.W.Fast.tw1023323368399174760 : True := trivial
theorem PySem.W.Fast.tw18040722645197217032 : True := trivial
theorem PySem.W.Fast.tw2756440070670481599 : True := trivial
theorem PySem.W.Fast.tw1262045632827087449 : True := trivial
theorem PySem.W.Fast.tw1776714910328608388 : True := trivial
theorem PySem.W.Fast.tw17750751346424070382 : True := trivial
theorem PySem.W.Fast.tw17291768611182220120 : True := trivial
theorem PySem.W.Fast.tw11349413791330356321 : True := trivial
theorem PySem.W.Fast.tw4237200847064757737 : True := trivial
theorem PySem.W.Fast.tw3695080169044932190 : True := trivial
theorem PySem.W.Fast.tw1157219650966399951 : True := trivial
theorem PySem.W.Fast.tw8391847803420278298 : True := trivial
theorem PySem.W.Fast.tw1149391982220723170 : True := trivial
theorem PySem.W.Fast.tw76417194352787835 : True := trivial
theorem PySem.W.Fast.tw10796915511531535970 : True := trivial
theorem PySem.W.Fast.tw16831723878597578002 : True := trivial
theorem PySem.W.Fast.tw8293165816917091112 : True := trivial
theorem PySem.W.Fast.tw16766764702790575310 : True := trivial
theorem PySem.W.Fast.tw17540678946036310396 : True := trivial
theorem PySem.W.Fast.tw17552005690147268812 : True := trivial
theorem PySem.W.Fast.tw4537395421521367706 : True := trivial
theorem PySem.W.Fast.tw14805850355250078623 : True := trivial
theorem PySem.W.Fast.tw7901023298981754528 : True := trivial
theorem PySem.W.Fast.tw8448431423242334726 : True := trivial
theorem PySem.W.Fast.tw5287042451183544767 : True := trivial
theorem PySem.W.Fast.tw6874552929774439601 : True := trivial
theorem PySem.W.Fast.tw2870831506335613305 : True := trivial
theorem PySem.W.Fast.tw13177846188976116591 : True := trivial
theorem PySem.W.Fast.tw16946420584042639156 : True := trivial
theorem PySem.W.Fast.tw3572480034590230298 : True := trivial
theorem PySem.W.Fast.tw9023663495477348340 : True := trivial
theorem PySem.W.Fast.tw7214290928685326464 : True := trivial
theorem PySem.W.Fast.tw15788793253287085415 : True := trivial
theorem PySem.W.Fast.tw3811960290964177522 : True := trivial
theorem PySem.W.Fast.tw10842546920770613989 : True := trivial
theorem PySem.W.Fast.tw13498906004131708214 : True := trivial
theorem PySem.W.Fast.tw11794109693099542921 : True := trivial
theorem PySem.W.Fast.tw16700114343232936174 : True := trivial
theorem PySem.W.Fast.tw14693412895820855839 : True := trivial
theorem PySem.W.Fast.tw11410723824078275767 : True := trivial
theorem PySem.W.Fast.tw7442491056879226995 : True := trivial
theorem PySem.W.Fast.tw3107391597891267056 : True := trivial
theorem PySem.W.Fast.tw7642816962081850925 : True := trivial
theorem PySem.W.Fast.tw15448671358141622053 : True := trivial
theorem PySem.W.Fast.tw247432264404860573 : True := trivial
theorem PySem.W.Fast.tw12974068662157189452 : True := trivial
theorem PySem.W.Fast.tw9914119907900694733 : True := trivial
theorem PySem.W.Fast.tw6873977412588636525 : True := trivial
theorem PySem.W.Fast.tw15255065862010947632 : True := trivial
theorem PySem.W.Fast.tw11293334534669820799 : True := trivial
theorem PySem.W.Fast.tw10375716040844271326 : True := trivial
theorem PySem.W.Fast.tw14354151982845797081 : True := trivial
theorem PySem.W.Fast.tw11080057225784925949 : True := trivial
theorem PySem.W.Fast.tw10666980547606631242 : True := trivial
theorem PySem.W.Fast.tw1768691079904209712 : True := trivial
theorem PySem.W.Fast.tw10593120914873669053 : True := trivial
theorem PySem.W.Fast.tw15070731937617514528 : True := trivial
theorem PySem.W.Fast.tw9884960011916986455 : True := trivial
theorem PySem.W.Fast.tw16821414614426509044 : True := trivial
theorem PySem.W.Fast.tw731623666869056359 : True := trivial
theorem PySem.W.Fast.tw4637392767161133192 : True := trivial
theorem PySem.W.Fast.tw17173207476364695799 : True := trivial
theorem PySem.W.Fast.tw8690067864427216697 : True := trivial
theorem PySem.W.Fast.tw7039361846625404902 : True := trivial
theorem PySem.W.Fast.tw3591751707221527115 : True := trivial
theorem PySem.W.Fast.tw10803542845914788116 : True := trivial
theorem PySem.W.Fast.tw11798931641160063549 : True := trivial
theorem PySem.W.Fast.tw3199345279396757684 : True := trivial
theorem PySem.W.Fast.tw14343341012750853560 : True := trivial
theorem PySem.W.Fast.tw10444925249551473123 : True := trivial
theorem PySem.W.Fast.tw2680524357244943234 : True := trivial
theorem PySem.W.Fast.tw5351028924960469021 : True := trivial
theorem PySem.W.Fast.tw3402147302069132117 : True := trivial
theorem PySem.W.Fast.tw13712268882564187338 : True := trivial
theorem PySem.W.Fast.tw7744722606317772473 : True := trivial
theorem PySem.W.Fast.tw13093838088788165750 : True := trivial
theorem PySem.W.Fast.tw13383343800188547853 : True := trivial
theorem PySem.W.Fast.tw6985677189914385337 : True := trivial
theorem PySem.W.Fast.tw15494765735642927331 : True := trivial
theorem PySem.W.Fast.tw14000301831408116195 : True := trivial
theorem PySem.W.Fast.tw8056079936809842471 : True := trivial
theorem PySem.W.Fast.tw4970069574364879891 : True := trivial
theorem PySem.W.Fast.tw9452684624384109222 : True := trivial
theorem PySem.W.Fast.tw2964919780714579494 : True := trivial
theorem PySem.W.Fast.tw3505275827997506403 : True := trivial
theorem PySem.W.Fast.tw3372304810950731175 : True := trivial
theorem PySem.W.Fast.tw2673381341574723917 : True := trivial
theorem PySem.W.Fast.tw8653482637142490369 : True := trivial
theorem PySem.W.Fast.tw1093808420893921481 : True := trivial
theorem PySem.W.Fast.tw12928038611859064921 : True := trivial
theorem PySem.W.Fast.tw4383457066389346331 : True := trivial
theorem PySem.W.Fast.tw17911240963762997709 : True := trivial
theorem PySem.W.Fast.tw2205291914079298640 : True := trivial
theorem PySem.W.Fast.tw1562787448462557639 : True := trivial
theorem PySem.W.Fast.tw17379338572156245423 : True := trivial
theorem PySem.W.Fast.tw1022034524672274568 : True := trivial
theorem PySem.W.Fast.tw11763522763338111781 : True := trivial
theorem PySem.W.Fast.tw8267611681445199266 : True := trivial
theorem PySem.W.Fast.tw8585704638821026338 : True := trivial
theorem PySem.W.Fast.tw17919669752889370388 : True := trivial
theorem PySem.W.Fast.tw11634010612631732111 : True := trivial
theorem PySem.W.Fast.tw1379528698310295086 : True := trivial
theorem PySem.W.Fast.tw2686161340253925328 : True := trivial
theorem PySem.W.Fast.tw10250582485137250012 : True := trivial
theorem PySem.W.Fast.tw12600536596404383911 : True := trivial
theorem PySem.W.Fast.tw17676522020509161964 : True := trivial
theorem PySem.W.Fast.tw5921022824077284434 : True := trivial
theorem PySem.W.Fast.tw1519461202501411032 : True := trivial
theorem PySem.W.Fast.tw6061487141344022144 : True := trivial
theorem PySem.W.Fast.tw10766635942844537956 : True := trivial
theorem PySem.W.Fast.tw14323253519578289483 : True := trivial
theorem PySem.W.Fast.tw1543608742397395982 : True := trivial
theorem PySem.W.Fast.tw13208052791827768772 : True := trivial
theorem PySem.W.Fast.tw13187265509939268629 : True := trivial
theorem PySem.W.Fast.tw1634326613002933014 : True := trivial
theorem PySem.W.Fast.tw14113661478858004108 : True := trivial
theorem PySem.W.Fast.tw16827666053888663663 : True := trivial
theorem PySem.W.Fast.tw12408984721908251089 : True := trivial
theorem PySem.W.Fast.tw2233266446080897689 : True := trivial
theorem PySem.W.Fast.tw13470838398506940528 : True := trivial
theorem PySem.W.Fast.tw903875550000023281 : True := trivial
theorem PySem.W.Fast.tw17900265301649279504 : True := trivial
theorem PySem.W.Fast.tw1996360750935943449 : True := trivial
theorem PySem.W.Fast.tw8835853409769875267 : True := trivial
theorem PySem.W.Fast.tw6540445540183342029 : True := trivial
theorem PySem.W.Fast.tw6650099205085922067 : True := trivial
theorem PySem.W.Fast.tw1742224531677907795 : True := trivial
theorem PySem.W.Fast.tw18201700891946143072 : True := trivial
theorem PySem.W.Fast.tw7135666267736295126 : True := trivial
theorem PySem.W.Fast.tw6235916056729433154 : True := trivial
theorem PySem.W.Fast.tw18000661191019122806 : True := trivial
theorem PySem.W.Fast.tw13105880619486213529 : True := trivial
theorem PySem.W.Fast.tw6569132988512817874 : True := trivial
theorem PySem.W.Fast.tw11374196228426687805 : True := trivial
theorem PySem.W.Fast.tw12142390045153792524 : True := trivial
theorem PySem.W.Fast.tw1067988377688388072 : True := trivial
theorem PySem.W.Fast.tw9965245540288929091 : True := trivial
theorem PySem.W.Fast.tw11287328685695908368 : True := trivial
theorem PySem.W.Fast.tw3067122286298611365 : True := trivial
theorem PySem.W.Fast.tw17790858443862365421 : True := trivial
theorem PySem.W.Fast.tw15787959116433324649 : True := trivial
theorem PySem.W.Fast.tw13968437651624006182 : True := trivial
theorem PySem.W.Fast.tw13050210252164281193 : True := trivial
theorem PySem.W.Fast.tw10595492818524627902 : True := trivial
theorem PySem.W.Fast.tw2847829860412742877 : True := trivial
theorem PySem.W.Fast.tw3799788943058981921 : True := trivial
theorem PySem.W.Fast.tw3484746385367288876 : True := trivial
theorem PySem.W.Fast.tw9082930874916945085 : True := trivial
theorem PySem.W.Fast.tw11023772748196732955 : True := trivial
theorem PySem.W.Fast.tw16444177750792195706 : True := trivial
theorem PySem.W.Fast.tw1448586105409540493 : True := trivial
theorem PySem.W.Fast.tw13224723477210727739 : True := trivial
theorem PySem.W.Fast.tw14218032980976913101 : True := trivial
theorem PySem.W.Fast.tw13207560071270600326 : True := trivial
theorem PySem.W.Fast.tw9819379194536899017 : True := trivial
theorem PySem.W.Fast.tw12060339378155035412 : True := trivial
theorem PySem.W.Fast.tw17446685312971612114 : True := trivial
theorem PySem.W.Fast.tw7583857932846815950 : True := trivial
theorem PySem.W.Fast.tw2209051690367514447 : True := trivial
theorem PySem.W.Fast.tw5830771288527131465 : True := trivial
theorem PySem.W.Fast.tw11022713887803970978 : True := trivial
theorem PySem.W.Fast.tw6151299852254794331 : True := trivial
theorem PySem.W.Fast.tw3284819931746669578 : True := trivial
theorem PySem.W.Fast.tw15950390344737758216 : True := trivial
theorem PySem.W.Fast.tw14353058918024685116 : True := trivial
theorem PySem.W.Fast.tw18168278403343440611 : True := trivial
theorem PySem.W.Fast.tw8081568914460139747 : True := trivial
theorem PySem.W.Fast.tw6609829297149560124 : True := trivial
theorem PySem.W.Fast.tw17641535928579850504 : True := trivial
theorem PySem.W.Fast.tw9602547557263440278 : True := trivial
theorem PySem.W.Fast.tw89974119838465078 : True := trivial
theorem PySem.W.Fast.tw816690117988218026 : True := trivial
theorem PySem.W.Fast.tw7669707628926493325 : True := trivial
theorem PySem.W.Fast.tw6930397356594147035 : True := trivial
theorem PySem.W.Fast.tw6418248861608461612 : True := trivial
theorem PySem.W.Fast.tw4823918480930116036 : True := trivial
theorem PySem.W.Fast.tw3658281529663378820 : True := trivial
theorem PySem.W.Fast.tw3369264249293187370 : True := trivial
theorem PySem.W.Fast.tw2882350902834956140 : True := trivial
theorem PySem.W.Fast.tw2191849210232258210 : True := trivial
theorem PySem.W.Fast.tw2126605186909541761 : True := trivial
theorem PySem.W.Fast.tw17864677920063228275 : True := trivial
theorem PySem.W.Fast.tw17607182303195540594 : True := trivial
theorem PySem.W.Fast.tw15506532969154536591 : True := trivial
theorem PySem.W.Fast.tw1450337233668334698 : True := trivial
theorem PySem.W.Fast.tw11383770862825620461 : True := trivial
theorem PySem.W.Fast.tw11210975655205669276 : True := trivial
theorem PySem.W.Fast.tw10866773216933957709 : True := trivial
theorem PySem.W.Fast.tw7398197254370760731 : True := trivial
theorem PySem.W.Fast.tw3497923812305394237 : True := trivial
theorem PySem.W.Fast.tw16912540706498931075 : True := trivial
theorem PySem.W.Fast.tw5640717676933708641 : True := trivial
theorem PySem.W.Fast.tw4077801532561216333 : True := trivial
theorem PySem.W.Fast.tw6597514087524632904 : True := trivial
theorem PySem.W.Fast.tw571604298058518298 : True := trivial
theorem PySem.W.Fast.tw2616477288311750847 : True := trivial
theorem PySem.W.Fast.tw17621708043513892139 : True := trivial
theorem PySem.W.Fast.tw6921566358773911259 : True := trivial
theorem PySem.W.Fast.tw5418376780081563703 : True := trivial
theorem PySem.W.Fast.tw2065471429293751503 : True := trivial
theorem PySem.W.Fast.tw8104681935521292406 : True := trivial
theorem PySem.W.Fast.tw16770453572876005994 : True := trivial
theorem PySem.W.Fast.tw13540522159052759913 : True := trivial
theorem PySem.W.Fast.tw11472378832760717547 : True := trivial
theorem PySem.W.Fast.tw18097699915273818461 : True := trivial
theorem PySem.W.Fast.tw1178765493424034075 : True := trivial
theorem PySem.W.Fast.tw6923995614481833918 : True := trivial
theorem PySem.W.Fast.tw3674809647839811255 : True := trivial
theorem PySem.W.Fast.tw17101857924256529291 : True := trivial
theorem PySem.W.Fast.tw12076184400494908344 : True := trivial
theorem PySem.W.Fast.tw16649573482756340775 : True := trivial
theorem PySem.W.Fast.tw14509957078384623430 : True := trivial
theorem PySem.W.Fast.tw12446813323406089281 : True := trivial
theorem PySem.W.Fast.tw8822275556461195517 : True := trivial
theorem PySem.W.Fast.tw3963446152520477922 : True := trivial
theorem PySem.W.Fast.tw7613833081498249414 : True := trivial
theorem PySem.W.Fast.tw14022672096072336576 : True := trivial
theorem PySem.W.Fast.tw13782932151170004333 : True := trivial
theorem PySem.W.Fast.tw982490027909670133 : True := trivial
theorem PySem.W.Fast.tw3439403259508339751 : True := trivial
theorem PySem.W.Fast.tw16274578390450961529 : True := trivial
theorem PySem.W.Fast.tw18111444197165710339 : True := trivial
theorem PySem.W.Fast.tw15660432703252073703 : True := trivial
theorem PySem.W.Fast.tw16322387936401613434 : True := trivial
theorem PySem.W.Fast.tw12745420504451557956 : True := trivial
theorem PySem.W.Fast.tw4070446942689724346 : True := trivial
theorem PySem.W.Fast.tw14442325496179842698 : True := trivial
theorem PySem.W.Fast.tw10493844973440341324 : True := trivial
theorem PySem.W.Fast.tw17594919383972636989 : True := trivial
theorem PySem.W.Fast.tw1538203284499904821 : True := trivial
theorem PySem.W.Fast.tw10324293286312368562 : True := trivial
theorem PySem.W.Fast.tw9442117245277211924 : True := trivial
theorem PySem.W.Fast.tw9562836086558901347 : True := trivial
theorem PySem.W.Fast.tw7504695724622108511 : True := trivial
theorem PySem.W.Fast.tw67358137550033666 : True := trivial
theorem PySem.W.Fast.tw13962914701071608044 : True := trivial
theorem PySem.W.Fast.tw5787713439598637963 : True := trivial
theorem PySem.W.Fast.tw7601255351546701350 : True := trivial
theorem PySem.W.Fast.tw8824969748163484088 : True := trivial
theorem PySem.W.Fast.tw3137641494515618111 : True := trivial
theorem PySem.W.Fast.tw11712278847823438451 : True := trivial
theorem PySem.W.Fast.tw7087157413296188228 : True := trivial
theorem PySem.W.Fast.tw5659387461210826732 : True := trivial
theorem PySem.W.Fast.tw14887965884949056893 : True := trivial
theorem PySem.W.Fast.tw10753916717700151444 : True := trivial
theorem PySem.W.Fast.tw7460803689065721373 : True := trivial
theorem PySem.W.Fast.tw8173279399866698356 : True := trivial
theorem PySem.W.Fast.tw16859076748560754111 : True := trivial
theorem PySem.W.Fast.tw6133973812214031157 : True := trivial
theorem PySem.W.Fast.tw7335785205677556088 : True := trivial
theorem PySem.W.Fast.tw15149564805400597857 : True := trivial
theorem PySem.W.Fast.tw11849113382117422831 : True := trivial
theorem PySem.W.Fast.tw4081395107291985053 : True := trivial
theorem PySem.W.Fast.tw1753447534412380372 : True := trivial
theorem PySem.W.Fast.tw9277055943157665460 : True := trivial
theorem PySem.W.Fast.tw5385541496053410550 : True := trivial
theorem PySem.W.Fast.tw4326519865365657202 : True := trivial
theorem PySem.W.Fast.tw8275857639293349988 : True := trivial
theorem PySem.W.Fast.tw4933407496552337719 : True := trivial
theorem PySem.W.Fast.tw15698766887458322566 : True := trivial
theorem PySem.W.Fast.tw14271556637195096289 : True := trivial
theorem PySem.W.Fast.tw10775792832752632781 : True := trivial
theorem PySem.W.Fast.tw505882563528550566 : True := trivial
theorem PySem.W.Fast.tw16379942131338126760 : True := trivial
theorem PySem.W.Fast.tw16134394813490182469 : True := trivial
theorem PySem.W.Fast.tw15849548478327844923 : True := trivial
theorem PySem.W.Fast.tw7804070215926501860 : True := trivial
theorem PySem.W.Fast.tw12507708229422369100 : True := trivial
theorem PySem.W.Fast.tw9713002896868211936 : True := trivial
theorem PySem.W.Fast.tw7651826108828930453 : True := trivial
theorem PySem.W.Fast.tw6856508381627994043 : True := trivial
theorem PySem.W.Fast.tw8418664636741213492 : True := trivial
theorem PySem.W.Fast.tw3460946218105316396 : True := trivial
theorem PySem.W.Fast.tw16113927773589320031 : True := trivial
theorem PySem.W.Fast.tw13414410703061531320 : True := trivial
theorem PySem.W.Fast.tw1010889310005228343 : True := trivial
theorem PySem.W.Fast.tw15652852456997092148 : True := trivial
theorem PySem.W.Fast.tw12609002731198676426 : True := trivial
theorem PySem.W.Fast.tw4183179192974387446 : True := trivial
theorem PySem.W.Fast.tw14730944450050043337 : True := trivial
theorem PySem.W.Fast.tw13904126347726115801 : True := trivial
theorem PySem.W.Fast.tw9768472106132985437 : True := trivial
theorem PySem.W.Fast.tw18329801984050050926 : True := trivial
theorem PySem.W.Fast.tw12884568294073127335 : True := trivial
theorem PySem.W.Fast.tw10705843023941492227 : True := trivial
theorem PySem.W.Fast.tw16884184507399974888 : True := trivial
theorem PySem.W.Fast.tw16139131089980387827 : True := trivial
theorem PySem.W.Fast.tw1261999178488184793 : True := trivial
theorem PySem.W.Fast.tw6970237640364126596 : True := trivial
theorem PySem.W.Fast.tw3367423816926317546 : True := trivial
theorem PySem.W.Fast.tw16985096385953280538 : True := trivial
theorem PySem.W.Fast.tw12162370192598010952 : True := trivial
theorem PySem.W.Fast.tw595299987787838166 : True := trivial
theorem PySem.W.Fast.tw7842363308956240979 : True := trivial
theorem PySem.W.Fast.tw15688091943047799321 : True := trivial
theorem PySem.W.Fast.tw793138906413253584 : True := trivial
theorem PySem.W.Fast.tw14361248408128048150 : True := trivial
theorem PySem.W.Fast.tw8503517108609885081 : True := trivial
theorem PySem.W.Fast.tw13468395897065611281 : True := trivial
theorem PySem.W.Fast.tw17260981507129623717 : True := trivial
theorem PySem.W.Fast.tw400459941877382084 : True := trivial
theorem PySem.W.Fast.tw1898534683835806110 : True := trivial
theorem PySem.W.Fast.tw18210157330071749923 : True := trivial
theorem PySem.W.Fast.tw10725743967989569961 : True := trivial
theorem PySem.W.Fast.tw14781175171638635757 : True := trivial
theorem PySem.W.Fast.tw14545267117579845979 : True := trivial
theorem PySem.W.Fast.tw11257778995448957069 : True := trivial
theorem PySem.W.Fast.tw9575233810503220259 : True := trivial
theorem PySem.W.Fast.tw6780623753803862102 : True := trivial
theorem PySem.W.Fast.tw15073964426540869244 : True := trivial
theorem PySem.W.Fast.tw6947117738118166229 : True := trivial
theorem PySem.W.Fast.tw8313759495753346019 : True := trivial
theorem PySem.W.Fast.tw3099972410200444926 : True := trivial
theorem PySem.W.Fast.tw17656246222407639938 : True := trivial
theorem PySem.W.Fast.tw11411431174024365647 : True := trivial
theorem PySem.W.Fast.tw12781115563371835954 : True := trivial
theorem PySem.W.Fast.tw5012551827493856869 : True := trivial
theorem PySem.W.Fast.tw14943573191701666313 : True := trivial
theorem PySem.W.Fast.tw5627963121070248078 : True := trivial
theorem PySem.W.Fast.tw5776666557031653713 : True := trivial
theorem PySem.W.Fast.tw14795505561432651526 : True := trivial
theorem PySem.W.Fast.tw9708517829876243469 : True := trivial
theorem PySem.W.Fast.tw16108126446379972806 : True := trivial
theorem PySem.W.Fast.tw8973075903391129228 : True := trivial
theorem PySem.W.Fast.tw5423343829989864444 : True := trivial
theorem PySem.W.Fast.tw498233983312103181 : True := trivial
theorem PySem.W.Fast.tw14539361689306213959 : True := trivial
theorem PySem.W.Fast.tw8640475456070414077 : True := trivial
theorem PySem.W.Fast.tw3933096626688586398 : True := trivial
theorem PySem.W.Fast.tw3644461361380826811 : True := trivial
theorem PySem.W.Fast.tw4819644155193849592 : True := trivial
theorem PySem.W.Fast.tw9631130511631302844 : True := trivial
theorem PySem.W.Fast.tw9104242800092814540 : True := trivial
theorem PySem.W.Fast.tw8610361415638312120 : True := trivial
theorem PySem.W.Fast.tw7854620791672791995 : True := trivial
theorem PySem.W.Fast.tw7628043132592909900 : True := trivial
theorem PySem.W.Fast.tw6893985770110269557 : True := trivial
theorem PySem.W.Fast.tw3647283241993609091 : True := trivial
theorem PySem.W.Fast.tw3471732640749837696 : True := trivial
theorem PySem.W.Fast.tw2040988612429903848 : True := trivial
theorem PySem.W.Fast.tw16622374024126603109 : True := trivial
theorem PySem.W.Fast.tw16264569875928117310 : True := trivial
theorem PySem.W.Fast.tw15910117693740609365 : True := trivial
theorem PySem.W.Fast.tw15371174615085447418 : True := trivial
theorem PySem.W.Fast.tw15210888930027512077 : True := trivial
theorem PySem.W.Fast.tw14573681518131305236 : True := trivial
theorem PySem.W.Fast.tw13140907468470566515 : True := trivial
theorem PySem.W.Fast.tw12505176090461594019 : True := trivial
theorem PySem.W.Fast.tw12458750516262946427 : True := trivial
theorem PySem.W.Fast.tw1194312235004075237 : True := trivial
theorem PySem.W.Fast.tw10634878969060302939 : True := trivial
theorem PySem.W.Fast.tw6740937019642061701 : True := trivial
theorem PySem.W.Fast.tw6475053451125201464 : True := trivial
theorem PySem.W.Fast.tw4599673008985947238 : True := trivial
theorem PySem.W.Fast.tw3639996036876046675 : True := trivial
theorem PySem.W.Fast.tw5699942852377331019 : True := trivial
theorem PySem.W.Fast.tw12592917114645404039 : True := trivial
theorem PySem.W.Fast.tw13411182105448051207 : True := trivial
theorem PySem.W.Fast.tw10354920665373654694 : True := trivial
theorem PySem.W.Fast.tw1294080715162876753 : True := trivial
theorem PySem.W.Fast.tw11383963008665986780 : True := trivial
theorem PySem.W.Fast.tw12809478485165950064 : True := trivial
theorem PySem.W.Fast.tw5093992218312534394 : True := trivial
theorem PySem.W.Fast.tw8676429897638623542 : True := trivial
theorem PySem.W.Fast.tw3387493563082453250 : True := trivial
theorem PySem.W.Fast.tw15601313089046852571 : True := trivial
theorem PySem.W.Fast.tw2822680818294108241 : True := trivial
theorem PySem.W.Fast.tw12738405939193205792 : True := trivial
theorem PySem.W.Fast.tw9687230112218755429 : True := trivial
theorem PySem.W.Fast.tw8948655431659208129 : True := trivial
theorem PySem.W.Fast.tw8200745752497859569 : True := trivial
theorem PySem.W.Fast.tw8088807581783639073 : True := trivial
theorem PySem.W.Fast.tw7728688468180218818 : True := trivial
theorem PySem.W.Fast.tw7583583522498455944 : True := trivial
theorem PySem.W.Fast.tw4468777693510021646 : True := trivial
theorem PySem.W.Fast.tw4418800481839024564 : True := trivial
theorem PySem.W.Fast.tw2099064786778593409 : True := trivial
theorem PySem.W.Fast.tw2043148115244719352 : True := trivial
theorem PySem.W.Fast.tw18407180823594122546 : True := trivial
theorem PySem.W.Fast.tw18333056220370605056 : True := trivial
theorem PySem.W.Fast.tw18091948918057847722 : True := trivial
theorem PySem.W.Fast.tw15784038558347838267 : True := trivial
theorem PySem.W.Fast.tw15747273398238726812 : True := trivial
theorem PySem.W.Fast.tw14019448542458521585 : True := trivial
theorem PySem.W.Fast.tw13804049565352902218 : True := trivial
theorem PySem.W.Fast.tw12770230805450192978 : True := trivial
theorem PySem.W.Fast.tw12662711382720227819 : True := trivial
theorem PySem.W.Fast.tw11707445428034798822 : True := trivial
theorem PySem.W.Fast.tw11445962041563833560 : True := trivial
theorem PySem.W.Fast.tw11414179331145134547 : True := trivial
theorem PySem.W.Fast.tw10382642579317711115 : True := trivial
theorem PySem.W.Fast.tw9049653365146914263 : True := trivial
theorem PySem.W.Fast.tw6513702916200141095 : True := trivial
theorem PySem.W.Fast.tw6314139145819390730 : True := trivial
theorem PySem.W.Fast.tw6181850201368728719 : True := trivial
theorem PySem.W.Fast.tw5495704990470274098 : True := trivial
theorem PySem.W.Fast.tw4802046409460213330 : True := trivial
theorem PySem.W.Fast.tw4600262887464567474 : True := trivial
theorem PySem.W.Fast.tw3084764165993604187 : True := trivial
theorem PySem.W.Fast.tw2756830871372235109 : True := trivial
theorem PySem.W.Fast.tw2364189414790603819 : True := trivial
theorem PySem.W.Fast.tw2163410634123841736 : True := trivial
theorem PySem.W.Fast.tw1896511283592852539 : True := trivial
theorem PySem.W.Fast.tw17655854470531899401 : True := trivial
theorem PySem.W.Fast.tw173992745456734532 : True := trivial
theorem PySem.W.Fast.tw17379804595744703666 : True := trivial
theorem PySem.W.Fast.tw16911615264339249657 : True := trivial
theorem PySem.W.Fast.tw14963551201437473619 : True := trivial
theorem PySem.W.Fast.tw12400026402420594572 : True := trivial
theorem PySem.W.Fast.tw12398946680297946345 : True := trivial
theorem PySem.W.Fast.tw11371352340094022393 : True := trivial
theorem PySem.W.Fast.tw11306032167950075804 : True := trivial
theorem PySem.W.Fast.tw11157525025557764134 : True := trivial
theorem PySem.W.Fast.tw10735634883047254941 : True := trivial
theorem PySem.W.Fast.tw11150980993826654366 : True := trivial
theorem PySem.W.Fast.tw10549902073609308103 : True := trivial
theorem PySem.W.Fast.tw12841624217068381318 : True := trivial
theorem PySem.W.Fast.tw9653115554042658261 : True := trivial
theorem PySem.W.Fast.tw9154417378632583207 : True := trivial
theorem PySem.W.Fast.tw7982482928641473499 : True := trivial
theorem PySem.W.Fast.tw7433506024816118501 : True := trivial
theorem PySem.W.Fast.tw579197971795224610 : True := trivial
theorem PySem.W.Fast.tw4827617656689693874 : True := trivial
theorem PySem.W.Fast.tw4066480538414815108 : True := trivial
theorem PySem.W.Fast.tw4061959128481222703 : True := trivial
theorem PySem.W.Fast.tw3742614648064564179 : True := trivial
theorem PySem.W.Fast.tw3740473175046953632 : True := trivial
theorem PySem.W.Fast.tw3411134704748925533 : True := trivial
theorem PySem.W.Fast.tw2882355081849486869 : True := trivial
theorem PySem.W.Fast.tw2533763044022423216 : True := trivial
theorem PySem.W.Fast.tw1835635822498847807 : True := trivial
theorem PySem.W.Fast.tw15480458626462681421 : True := trivial
theorem PySem.W.Fast.tw15181135123182886435 : True := trivial
theorem PySem.W.Fast.tw13500673960897422208 : True := trivial
theorem PySem.W.Fast.tw12629077066853071614 : True := trivial
theorem PySem.W.Fast.tw1237401350851051595 : True := trivial
theorem PySem.W.Fast.tw1230011960832928026 : True := trivial
theorem PySem.W.Fast.tw1126236132530956103 : True := trivial
theorem PySem.W.Fast.tw9659567031953543253 : True := trivial
theorem PySem.W.Fast.tw8516869071514642734 : True := trivial
theorem PySem.W.Fast.tw6937486410959347011 : True := trivial
theorem PySem.W.Fast.tw681195183460093912 : True := trivial
theorem PySem.W.Fast.tw6724359282742036566 : True := trivial
theorem PySem.W.Fast.tw6690668556761388216 : True := trivial
theorem PySem.W.Fast.tw5778484203917537384 : True := trivial
theorem PySem.W.Fast.tw3998968212521467753 : True := trivial
theorem PySem.W.Fast.tw3682940503940512271 : True := trivial
theorem PySem.W.Fast.tw2596960127744861030 : True := trivial
theorem PySem.W.Fast.tw2220914453717877518 : True := trivial
theorem PySem.W.Fast.tw2187299363423337352 : True := trivial
theorem PySem.W.Fast.tw2080707578543642556 : True := trivial
theorem PySem.W.Fast.tw16797456213647586727 : True := trivial
theorem PySem.W.Fast.tw1636990551567859892 : True := trivial
theorem PySem.W.Fast.tw15717779817734556281 : True := trivial
theorem PySem.W.Fast.tw14263415703556478183 : True := trivial
theorem PySem.W.Fast.tw13083091958380455268 : True := trivial
theorem PySem.W.Fast.tw13035582235079561893 : True := trivial
theorem PySem.W.Fast.tw11990950565680640282 : True := trivial
theorem PySem.W.Fast.tw11466031560154205575 : True := trivial
theorem PySem.W.Fast.tw10351468742198243278 : True := trivial
theorem PySem.W.Fast.tw10309022821143591457 : True := trivial
theorem PySem.W.Fast.tw9969294933009321915 : True := trivial
theorem PySem.W.Fast.tw9509421602302972386 : True := trivial
theorem PySem.W.Fast.tw9351939877201271143 : True := trivial
theorem PySem.W.Fast.tw9309889028028766819 : True := trivial
theorem PySem.W.Fast.tw9262573389649920305 : True := trivial
theorem PySem.W.Fast.tw8882606961234599558 : True := trivial
theorem PySem.W.Fast.tw8789190953424325142 : True := trivial
theorem PySem.W.Fast.tw8722343476507332235 : True := trivial
theorem PySem.W.Fast.tw8567112974943770615 : True := trivial
theorem PySem.W.Fast.tw852070938040139533 : True := trivial
theorem PySem.W.Fast.tw8476325162203695044 : True := trivial
theorem PySem.W.Fast.tw8442667763936695756 : True := trivial
theorem PySem.W.Fast.tw8310121123328901299 : True := trivial
theorem PySem.W.Fast.tw7896873390490965035 : True := trivial
theorem PySem.W.Fast.tw7785279340772367256 : True := trivial
theorem PySem.W.Fast.tw776464600393272341 : True := trivial
theorem PySem.W.Fast.tw7690869230461897224 : True := trivial
theorem PySem.W.Fast.tw7529168109231883572 : True := trivial
theorem PySem.W.Fast.tw7463799100066086110 : True := trivial
theorem PySem.W.Fast.tw7429408645675143513 : True := trivial
theorem PySem.W.Fast.tw7236674073238582542 : True := trivial
theorem PySem.W.Fast.tw7045741513971824163 : True := trivial
theorem PySem.W.Fast.tw70456314143954136 : True := trivial
theorem PySem.W.Fast.tw698999054946324479 : True := trivial
theorem PySem.W.Fast.tw6977402760624514623 : True := trivial
theorem PySem.W.Fast.tw6871053667300252477 : True := trivial
theorem PySem.W.Fast.tw6698968372297547600 : True := trivial
theorem PySem.W.Fast.tw6655555912778981395 : True := trivial
theorem PySem.W.Fast.tw6131732343511865110 : True := trivial
theorem PySem.W.Fast.tw6038530641245930292 : True := trivial
theorem PySem.W.Fast.tw602100119270277462 : True := trivial
theorem PySem.W.Fast.tw6000055954643718545 : True := trivial
theorem PySem.W.Fast.tw5892980565556492070 : True := trivial
theorem PySem.W.Fast.tw5195754608117669865 : True := trivial
theorem PySem.W.Fast.tw5047434770526805546 : True := trivial
theorem PySem.W.Fast.tw4968207218274816542 : True := trivial
theorem PySem.W.Fast.tw488930988970606102 : True := trivial
theorem PySem.W.Fast.tw4860852245097969298 : True := trivial
theorem PySem.W.Fast.tw4825879346714158019 : True := trivial
theorem PySem.W.Fast.tw4695469655188249454 : True := trivial
theorem PySem.W.Fast.tw4395580110088477050 : True := trivial
theorem PySem.W.Fast.tw4394152719889139910 : True := trivial
theorem PySem.W.Fast.tw3920304389655441915 : True := trivial
theorem PySem.W.Fast.tw3819006807616981915 : True := trivial
theorem PySem.W.Fast.tw3586704466939530018 : True := trivial
theorem PySem.W.Fast.tw3448492145623543730 : True := trivial
theorem PySem.W.Fast.tw2950960750894511155 : True := trivial
theorem PySem.W.Fast.tw2651110056734448496 : True := trivial
theorem PySem.W.Fast.tw2395263333571070574 : True := trivial
theorem PySem.W.Fast.tw2393275094521633204 : True := trivial
theorem PySem.W.Fast.tw2378401873284594928 : True := trivial
theorem PySem.W.Fast.tw2376067509144178974 : True := trivial
theorem PySem.W.Fast.tw2222729671628927515 : True := trivial
theorem PySem.W.Fast.tw2186542463536079221 : True := trivial
theorem PySem.W.Fast.tw2149779905332707118 : True := trivial
theorem PySem.W.Fast.tw2088036350467345702 : True := trivial
theorem PySem.W.Fast.tw2069429711155526455 : True := trivial
theorem PySem.W.Fast.tw18411362767041029556 : True := trivial
theorem PySem.W.Fast.tw18220147563687022471 : True := trivial
theorem PySem.W.Fast.tw1817571449590888087 : True := trivial
theorem PySem.W.Fast.tw18118203604410391055 : True := trivial
theorem PySem.W.Fast.tw18113794150380560051 : True := trivial
theorem PySem.W.Fast.tw18062922008957137555 : True := trivial
theorem PySem.W.Fast.tw17941952908777839687 : True := trivial
theorem PySem.W.Fast.tw17850818473591397132 : True := trivial
theorem PySem.W.Fast.tw17425736703660407509 : True := trivial
theorem PySem.W.Fast.tw17422195266178311454 : True := trivial
theorem PySem.W.Fast.tw17401977930374468919 : True := trivial
theorem PySem.W.Fast.tw17091979958488203213 : True := trivial
theorem PySem.W.Fast.tw16894916866867779604 : True := trivial
theorem PySem.W.Fast.tw16834570027869685462 : True := trivial
theorem PySem.W.Fast.tw16803347100102737665 : True := trivial
theorem PySem.W.Fast.tw16788623652432955690 : True := trivial
theorem PySem.W.Fast.tw16702728408210025922 : True := trivial
theorem PySem.W.Fast.tw16112583735778548916 : True := trivial
theorem PySem.W.Fast.tw16064662357578359621 : True := trivial
theorem PySem.W.Fast.tw16010159725676716466 : True := trivial
theorem PySem.W.Fast.tw15999807507674764909 : True := trivial
theorem PySem.W.Fast.tw15697760068574286406 : True := trivial
theorem PySem.W.Fast.tw15572740967746441138 : True := trivial
theorem PySem.W.Fast.tw15455413781227557559 : True := trivial
theorem PySem.W.Fast.tw15059648458665954119 : True := trivial
theorem PySem.W.Fast.tw15000924327628085454 : True := trivial
theorem PySem.W.Fast.tw14980478857288624187 : True := trivial
theorem PySem.W.Fast.tw14731036165439922895 : True := trivial
theorem PySem.W.Fast.tw1472359342446274718 : True := trivial
theorem PySem.W.Fast.tw14621565511190893387 : True := trivial
theorem PySem.W.Fast.tw14449966568807316892 : True := trivial
theorem PySem.W.Fast.tw14433410247114133825 : True := trivial
theorem PySem.W.Fast.tw14427403245757095504 : True := trivial
theorem PySem.W.Fast.tw14199853355961119046 : True := trivial
theorem PySem.W.Fast.tw14155585863271362576 : True := trivial
theorem PySem.W.Fast.tw14007155329851048325 : True := trivial
theorem PySem.W.Fast.tw13965943818490105093 : True := trivial
theorem PySem.W.Fast.tw13922966606004100794 : True := trivial
theorem PySem.W.Fast.tw13881627752523327219 : True := trivial
theorem PySem.W.Fast.tw13647141067541800129 : True := trivial
theorem PySem.W.Fast.tw13520801672811233490 : True := trivial
theorem PySem.W.Fast.tw12847151419102082658 : True := trivial
theorem PySem.W.Fast.tw12716284408341058097 : True := trivial
theorem PySem.W.Fast.tw12611174494462801447 : True := trivial
theorem PySem.W.Fast.tw12477547526158732315 : True := trivial
theorem PySem.W.Fast.tw12294009445418642966 : True := trivial
theorem PySem.W.Fast.tw12275505859723796688 : True := trivial
theorem PySem.W.Fast.tw1222506805075157182 : True := trivial
theorem PySem.W.Fast.tw12099074754177698701 : True := trivial
theorem PySem.W.Fast.tw11889277095752661299 : True := trivial
theorem PySem.W.Fast.tw11609158715876707711 : True := trivial
theorem PySem.W.Fast.tw11604022001026451094 : True := trivial
theorem PySem.W.Fast.tw11575869238876048260 : True := trivial
theorem PySem.W.Fast.tw11505937824703360945 : True := trivial
theorem PySem.W.Fast.tw11409788909777690429 : True := trivial
theorem PySem.W.Fast.tw10785112386217463976 : True := trivial
theorem PySem.W.Fast.tw10717663704068837656 : True := trivial
theorem PySem.W.Fast.tw10523508634337262546 : True := trivial
theorem PySem.W.Fast.tw10501056908693579905 : True := trivial
theorem PySem.W.Fast.tw10493369662884964213 : True := trivial
theorem PySem.W.Fast.tw10396665146567690001 : True := trivial
theorem PySem.W.Fast.tw10372030394722746335 : True := trivial
theorem PySem.W.Fast.tw10363912945377154585 : True := trivial
theorem PySem.W.Fast.tw10357275540469053945 : True := trivial
theorem PySem.W.Fast.tw10272868255001223914 : True := trivial
namespace Rc
open PySem PySem.Spec PyProof.Rows L2
def top (i : Nat) : Stmt := PySem.Challenge.pw_ringcede_k38_what_hangs_on_a_house.main.body.getD i (.Pass ⟨0, 0, 0, 0⟩)
abbrev s_is_lines : Stmt := top 29
abbrev s_next_place : Stmt := top 30
abbrev s_bearers : Stmt := top 31
abbrev s_is_measure : Stmt := top 35
abbrev s_are_others : Stmt := top 36
abbrev s_is_cover : Stmt := top 37
abbrev s_wish : Stmt := top 38
abbrev s_take : Stmt := top 39
abbrev s_require_houses : Stmt := top 43
abbrev s_require_house : Stmt := top 44
abbrev s_require_covers : Stmt := top 45
abbrev s_require_losses : Stmt := top 46
abbrev s_Table___init__ : Stmt := inClass (top 47) 0
abbrev s_Table_houses : Stmt := inClass (top 47) 1
abbrev s_Table_covers : Stmt := inClass (top 47) 2
abbrev s_Table_losses : Stmt := inClass (top 47) 3
abbrev s_Table_mosts : Stmt := inClass (top 47) 4
abbrev s_Table_more : Stmt := inClass (top 47) 5
abbrev s_nought : Stmt := top 48
abbrev s_require_account : Stmt := top 49
abbrev s_burdens : Stmt := top 50
abbrev s_asked : Stmt := top 51
abbrev s_settle : Stmt := top 53
abbrev s_least : Stmt := top 55
abbrev s_hangs : Stmt := top 57
abbrev s__law_draws : Stmt := top 59
abbrev s__law_whole : Stmt := top 60
abbrev s__law_wholes : Stmt := top 61
abbrev s__law_list : Stmt := top 62
abbrev s__law_due : Stmt := top 63
abbrev s__law_seen : Stmt := top 64
abbrev s__law_lines : Stmt := top 65
abbrev s__law_cover : Stmt := top 66
abbrev s__law_rows : Stmt := top 67
abbrev s__law_losses : Stmt := top 68
abbrev s__law_made : Stmt := top 69
abbrev s__law_split : Stmt := top 70
abbrev s__law_splits : Stmt := top 71
abbrev s__law_loads : Stmt := top 72
abbrev s__law_take : Stmt := top 73
abbrev s__law_passed : Stmt := top 74
abbrev s__law_come : Stmt := top 75
abbrev s__law_least : Stmt := top 76
abbrev s_law : Stmt := top 77
def fl_Table : List Str := ["house_count", "cover_rows", "befallen", "crown_bearers"]
set_option genInjectivity false in
set_option genSizeOfSpec false in
set_option genSizeOf false in
structure Adr where
  a_is_lines : Addr
  f_is_lines : FuncData
  a_next_place : Addr
  f_next_place : FuncData
  a_bearers : Addr
  f_bearers : FuncData
  a_is_measure : Addr
  f_is_measure : FuncData
  a_are_others : Addr
  f_are_others : FuncData
  a_is_cover : Addr
  f_is_cover : FuncData
  a_wish : Addr
  f_wish : FuncData
  a_take : Addr
  f_take : FuncData
  a_require_houses : Addr
  f_require_houses : FuncData
  a_require_house : Addr
  f_require_house : FuncData
  a_require_covers : Addr
  f_require_covers : FuncData
  a_require_losses : Addr
  f_require_losses : FuncData
  a_Table___init__ : Addr
  f_Table___init__ : FuncData
  a_Table_houses : Addr
  f_Table_houses : FuncData
  a_Table_covers : Addr
  f_Table_covers : FuncData
  a_Table_losses : Addr
  f_Table_losses : FuncData
  a_Table_mosts : Addr
  f_Table_mosts : FuncData
  a_Table_more : Addr
  f_Table_more : FuncData
  a_nought : Addr
  f_nought : FuncData
  a_require_account : Addr
  f_require_account : FuncData
  a_burdens : Addr
  f_burdens : FuncData
  a_asked : Addr
  f_asked : FuncData
  a_settle : Addr
  f_settle : FuncData
  a_least : Addr
  f_least : FuncData
  a_hangs : Addr
  f_hangs : FuncData
  a__law_draws : Addr
  f__law_draws : FuncData
  a__law_whole : Addr
  f__law_whole : FuncData
  a__law_wholes : Addr
  f__law_wholes : FuncData
  a__law_list : Addr
  f__law_list : FuncData
  a__law_due : Addr
  f__law_due : FuncData
  a__law_seen : Addr
  f__law_seen : FuncData
  a__law_lines : Addr
  f__law_lines : FuncData
  a__law_cover : Addr
  f__law_cover : FuncData
  a__law_rows : Addr
  f__law_rows : FuncData
  a__law_losses : Addr
  f__law_losses : FuncData
  a__law_made : Addr
  f__law_made : FuncData
  a__law_split : Addr
  f__law_split : FuncData
  a__law_splits : Addr
  f__law_splits : FuncData
  a__law_loads : Addr
  f__law_loads : FuncData
  a__law_take : Addr
  f__law_take : FuncData
  a__law_passed : Addr
  f__law_passed : FuncData
  a__law_come : Addr
  f__law_come : FuncData
  a__law_least : Addr
  f__law_least : FuncData
  a_law : Addr
  f_law : FuncData
  c_Table : Addr
  c_BadAccount : Addr
  c_BadCover : Addr
  c_BadCrowns : Addr
  c_BadDay : Addr
  c_BadDeed : Addr
  c_BadHouses : Addr
  c_BadLines : Addr
  c_BadLosses : Addr
  c_BadTerms : Addr
  c_BadText : Addr
  c_Disagrees : Addr
  c_Endless : Addr
  c_Full : Addr
  c_NoCover : Addr
  c_NoHappening : Addr
  c_NoHouse : Addr
  c_NoLoss : Addr
  c_Nothing : Addr
  c_RingError : Addr
  c_Same : Addr
  c_Short : Addr
  c_Unbacked : Addr
  o_BY_BOUNDS : Addr
  u_BY_BOUNDS_0 : Addr
  u_BY_BOUNDS_1 : Addr
structure Txt (w : World) (K : PySem.W.Frag) (mg : Str → Option Value) (A : Adr) : Prop where
  F_is_lines : Fun K "is_lines" "is_lines" s_is_lines A.a_is_lines A.f_is_lines
  m_is_lines : mg "is_lines" = some (.ref A.a_is_lines)
  k_is_lines : PySem.W.keepIn K (.ref A.a_is_lines) = true
  d_is_lines : Binds K A.f_is_lines ["lines"] []
  F_next_place : Fun K "next_place" "next_place" s_next_place A.a_next_place A.f_next_place
  m_next_place : mg "next_place" = some (.ref A.a_next_place)
  k_next_place : PySem.W.keepIn K (.ref A.a_next_place) = true
  d_next_place : Binds K A.f_next_place ["lines", "borne"] []
  F_bearers : Fun K "bearers" "bearers" s_bearers A.a_bearers A.f_bearers
  m_bearers : mg "bearers" = some (.ref A.a_bearers)
  k_bearers : PySem.W.keepIn K (.ref A.a_bearers) = true
  d_bearers : Binds K A.f_bearers ["lines", "crowns"] []
  F_is_measure : Fun K "is_measure" "is_measure" s_is_measure A.a_is_measure A.f_is_measure
  m_is_measure : mg "is_measure" = some (.ref A.a_is_measure)
  k_is_measure : PySem.W.keepIn K (.ref A.a_is_measure) = true
  d_is_measure : Binds K A.f_is_measure ["kind", "by", "most"] []
  F_are_others : Fun K "are_others" "are_others" s_are_others A.a_are_others A.f_are_others
  m_are_others : mg "are_others" = some (.ref A.a_are_others)
  k_are_others : PySem.W.keepIn K (.ref A.a_are_others) = true
  d_are_others : Binds K A.f_are_others ["houses", "house", "lines"] []
  F_is_cover : Fun K "is_cover" "is_cover" s_is_cover A.a_is_cover A.f_is_cover
  m_is_cover : mg "is_cover" = some (.ref A.a_is_cover)
  k_is_cover : PySem.W.keepIn K (.ref A.a_is_cover) = true
  d_is_cover : Binds K A.f_is_cover ["houses", "cover"] []
  F_wish : Fun K "wish" "wish" s_wish A.a_wish A.f_wish
  m_wish : mg "wish" = some (.ref A.a_wish)
  k_wish : PySem.W.keepIn K (.ref A.a_wish) = true
  d_wish : Binds K A.f_wish ["kind", "by", "reach"] []
  F_take : Fun K "take" "take" s_take A.a_take A.f_take
  m_take : mg "take" = some (.ref A.a_take)
  k_take : PySem.W.keepIn K (.ref A.a_take) = true
  d_take : Binds K A.f_take ["kind", "by", "most", "reach"] []
  F_require_houses : Fun K "require_houses" "require_houses" s_require_houses A.a_require_houses A.f_require_houses
  m_require_houses : mg "require_houses" = some (.ref A.a_require_houses)
  k_require_houses : PySem.W.keepIn K (.ref A.a_require_houses) = true
  d_require_houses : Binds K A.f_require_houses ["houses"] []
  F_require_house : Fun K "require_house" "require_house" s_require_house A.a_require_house A.f_require_house
  m_require_house : mg "require_house" = some (.ref A.a_require_house)
  k_require_house : PySem.W.keepIn K (.ref A.a_require_house) = true
  d_require_house : Binds K A.f_require_house ["houses", "house"] []
  F_require_covers : Fun K "require_covers" "require_covers" s_require_covers A.a_require_covers A.f_require_covers
  m_require_covers : mg "require_covers" = some (.ref A.a_require_covers)
  k_require_covers : PySem.W.keepIn K (.ref A.a_require_covers) = true
  d_require_covers : Binds K A.f_require_covers ["houses", "covers"] []
  F_require_losses : Fun K "require_losses" "require_losses" s_require_losses A.a_require_losses A.f_require_losses
  m_require_losses : mg "require_losses" = some (.ref A.a_require_losses)
  k_require_losses : PySem.W.keepIn K (.ref A.a_require_losses) = true
  d_require_losses : Binds K A.f_require_losses ["houses", "losses"] []
  F_Table___init__ : Fun K "__init__" "Table.__init__" s_Table___init__ A.a_Table___init__ A.f_Table___init__
  k_Table___init__ : PySem.W.keepIn K (.ref A.a_Table___init__) = true
  d_Table___init__ : Binds K A.f_Table___init__ ["self", "houses", "covers", "losses"] []
  F_Table_houses : Fun K "houses" "Table.houses" s_Table_houses A.a_Table_houses A.f_Table_houses
  me_Table_houses : Meth K A.c_Table "houses" A.a_Table_houses
  k_Table_houses : PySem.W.keepIn K (.ref A.a_Table_houses) = true
  d_Table_houses : Binds K A.f_Table_houses ["self"] []
  F_Table_covers : Fun K "covers" "Table.covers" s_Table_covers A.a_Table_covers A.f_Table_covers
  me_Table_covers : Meth K A.c_Table "covers" A.a_Table_covers
  k_Table_covers : PySem.W.keepIn K (.ref A.a_Table_covers) = true
  d_Table_covers : Binds K A.f_Table_covers ["self"] []
  F_Table_losses : Fun K "losses" "Table.losses" s_Table_losses A.a_Table_losses A.f_Table_losses
  me_Table_losses : Meth K A.c_Table "losses" A.a_Table_losses
  k_Table_losses : PySem.W.keepIn K (.ref A.a_Table_losses) = true
  d_Table_losses : Binds K A.f_Table_losses ["self"] []
  F_Table_mosts : Fun K "mosts" "Table.mosts" s_Table_mosts A.a_Table_mosts A.f_Table_mosts
  me_Table_mosts : Meth K A.c_Table "mosts" A.a_Table_mosts
  k_Table_mosts : PySem.W.keepIn K (.ref A.a_Table_mosts) = true
  d_Table_mosts : Binds K A.f_Table_mosts ["self"] []
  F_Table_more : Fun K "more" "Table.more" s_Table_more A.a_Table_more A.f_Table_more
  me_Table_more : Meth K A.c_Table "more" A.a_Table_more
  k_Table_more : PySem.W.keepIn K (.ref A.a_Table_more) = true
  d_Table_more : Binds K A.f_Table_more ["self", "house", "crowns"] []
  F_nought : Fun K "nought" "nought" s_nought A.a_nought A.f_nought
  m_nought : mg "nought" = some (.ref A.a_nought)
  k_nought : PySem.W.keepIn K (.ref A.a_nought) = true
  d_nought : Binds K A.f_nought ["table"] []
  F_require_account : Fun K "require_account" "require_account" s_require_account A.a_require_account A.f_require_account
  m_require_account : mg "require_account" = some (.ref A.a_require_account)
  k_require_account : PySem.W.keepIn K (.ref A.a_require_account) = true
  d_require_account : Binds K A.f_require_account ["table", "account"] []
  F_burdens : Fun K "burdens" "burdens" s_burdens A.a_burdens A.f_burdens
  m_burdens : mg "burdens" = some (.ref A.a_burdens)
  k_burdens : PySem.W.keepIn K (.ref A.a_burdens) = true
  d_burdens : Binds K A.f_burdens ["table", "account"] []
  F_asked : Fun K "asked" "asked" s_asked A.a_asked A.f_asked
  m_asked : mg "asked" = some (.ref A.a_asked)
  k_asked : PySem.W.keepIn K (.ref A.a_asked) = true
  d_asked : Binds K A.f_asked ["table", "account"] []
  F_settle : Fun K "settle" "settle" s_settle A.a_settle A.f_settle
  m_settle : mg "settle" = some (.ref A.a_settle)
  k_settle : PySem.W.keepIn K (.ref A.a_settle) = true
  d_settle : Binds K A.f_settle ["table", "account"] []
  F_least : Fun K "least" "least" s_least A.a_least A.f_least
  m_least : mg "least" = some (.ref A.a_least)
  k_least : PySem.W.keepIn K (.ref A.a_least) = true
  d_least : Binds K A.f_least ["table"] []
  F_hangs : Fun K "hangs" "hangs" s_hangs A.a_hangs A.f_hangs
  m_hangs : mg "hangs" = some (.ref A.a_hangs)
  k_hangs : PySem.W.keepIn K (.ref A.a_hangs) = true
  d_hangs : Binds K A.f_hangs ["table", "house"] []
  F__law_draws : Fun K "_law_draws" "_law_draws" s__law_draws A.a__law_draws A.f__law_draws
  m__law_draws : mg "_law_draws" = some (.ref A.a__law_draws)
  k__law_draws : PySem.W.keepIn K (.ref A.a__law_draws) = true
  d__law_draws : Binds K A.f__law_draws ["_law_script", "_law_many"] []
  F__law_whole : Fun K "_law_whole" "_law_whole" s__law_whole A.a__law_whole A.f__law_whole
  m__law_whole : mg "_law_whole" = some (.ref A.a__law_whole)
  k__law_whole : PySem.W.keepIn K (.ref A.a__law_whole) = true
  d__law_whole : Binds K A.f__law_whole ["_law_found"] []
  F__law_wholes : Fun K "_law_wholes" "_law_wholes" s__law_wholes A.a__law_wholes A.f__law_wholes
  m__law_wholes : mg "_law_wholes" = some (.ref A.a__law_wholes)
  k__law_wholes : PySem.W.keepIn K (.ref A.a__law_wholes) = true
  d__law_wholes : Binds K A.f__law_wholes ["_law_found", "_law_many"] []
  F__law_list : Fun K "_law_list" "_law_list" s__law_list A.a__law_list A.f__law_list
  m__law_list : mg "_law_list" = some (.ref A.a__law_list)
  k__law_list : PySem.W.keepIn K (.ref A.a__law_list) = true
  d__law_list : Binds K A.f__law_list ["_law_found", "_law_due_here"] []
  F__law_due : Fun K "_law_due" "_law_due" s__law_due A.a__law_due A.f__law_due
  m__law_due : mg "_law_due" = some (.ref A.a__law_due)
  k__law_due : PySem.W.keepIn K (.ref A.a__law_due) = true
  d__law_due : Binds K A.f__law_due ["_law_want"] []
  F__law_seen : Fun K "_law_seen" "_law_seen" s__law_seen A.a__law_seen A.f__law_seen
  m__law_seen : mg "_law_seen" = some (.ref A.a__law_seen)
  k__law_seen : PySem.W.keepIn K (.ref A.a__law_seen) = true
  d__law_seen : Binds K A.f__law_seen ["_law_e"] []
  F__law_lines : Fun K "_law_lines" "_law_lines" s__law_lines A.a__law_lines A.f__law_lines
  m__law_lines : mg "_law_lines" = some (.ref A.a__law_lines)
  k__law_lines : PySem.W.keepIn K (.ref A.a__law_lines) = true
  d__law_lines : Binds K A.f__law_lines ["_law_houses", "_law_house", "_law_draws_here"] []
  F__law_cover : Fun K "_law_cover" "_law_cover" s__law_cover A.a__law_cover A.f__law_cover
  m__law_cover : mg "_law_cover" = some (.ref A.a__law_cover)
  k__law_cover : PySem.W.keepIn K (.ref A.a__law_cover) = true
  d__law_cover : Binds K A.f__law_cover ["_law_houses", "_law_draws_here"] []
  F__law_rows : Fun K "_law_rows" "_law_rows" s__law_rows A.a__law_rows A.f__law_rows
  m__law_rows : mg "_law_rows" = some (.ref A.a__law_rows)
  k__law_rows : PySem.W.keepIn K (.ref A.a__law_rows) = true
  d__law_rows : Binds K A.f__law_rows ["_law_houses", "_law_draws_here"] []
  F__law_losses : Fun K "_law_losses" "_law_losses" s__law_losses A.a__law_losses A.f__law_losses
  m__law_losses : mg "_law_losses" = some (.ref A.a__law_losses)
  k__law_losses : PySem.W.keepIn K (.ref A.a__law_losses) = true
  d__law_losses : Binds K A.f__law_losses ["_law_houses", "_law_draws_here"] []
  F__law_made : Fun K "_law_made" "_law_made" s__law_made A.a__law_made A.f__law_made
  m__law_made : mg "_law_made" = some (.ref A.a__law_made)
  k__law_made : PySem.W.keepIn K (.ref A.a__law_made) = true
  d__law_made : Binds K A.f__law_made ["_law_draws_here"] []
  F__law_split : Fun K "_law_split" "_law_split" s__law_split A.a__law_split A.f__law_split
  m__law_split : mg "_law_split" = some (.ref A.a__law_split)
  k__law_split : PySem.W.keepIn K (.ref A.a__law_split) = true
  d__law_split : Binds K A.f__law_split ["_law_lines_here", "_law_most"] []
  F__law_splits : Fun K "_law_splits" "_law_splits" s__law_splits A.a__law_splits A.f__law_splits
  m__law_splits : mg "_law_splits" = some (.ref A.a__law_splits)
  k__law_splits : PySem.W.keepIn K (.ref A.a__law_splits) = true
  d__law_splits : Binds K A.f__law_splits ["_law_covers"] []
  F__law_loads : Fun K "_law_loads" "_law_loads" s__law_loads A.a__law_loads A.f__law_loads
  m__law_loads : mg "_law_loads" = some (.ref A.a__law_loads)
  k__law_loads : PySem.W.keepIn K (.ref A.a__law_loads) = true
  d__law_loads : Binds K A.f__law_loads ["_law_covers", "_law_losses_here", "_law_splits_here", "_law_account"] []
  F__law_take : Fun K "_law_take" "_law_take" s__law_take A.a__law_take A.f__law_take
  m__law_take : mg "_law_take" = some (.ref A.a__law_take)
  k__law_take : PySem.W.keepIn K (.ref A.a__law_take) = true
  d__law_take : Binds K A.f__law_take ["_law_kind", "_law_by", "_law_most", "_law_reach"] []
  F__law_passed : Fun K "_law_passed" "_law_passed" s__law_passed A.a__law_passed A.f__law_passed
  m__law_passed : mg "_law_passed" = some (.ref A.a__law_passed)
  k__law_passed : PySem.W.keepIn K (.ref A.a__law_passed) = true
  d__law_passed : Binds K A.f__law_passed ["_law_covers", "_law_losses_here", "_law_splits_here", "_law_account"] []
  F__law_come : Fun K "_law_come" "_law_come" s__law_come A.a__law_come A.f__law_come
  m__law_come : mg "_law_come" = some (.ref A.a__law_come)
  k__law_come : PySem.W.keepIn K (.ref A.a__law_come) = true
  d__law_come : Binds K A.f__law_come ["_law_covers", "_law_losses_here", "_law_splits_here", "_law_account"] []
  F__law_least : Fun K "_law_least" "_law_least" s__law_least A.a__law_least A.f__law_least
  m__law_least : mg "_law_least" = some (.ref A.a__law_least)
  k__law_least : PySem.W.keepIn K (.ref A.a__law_least) = true
  d__law_least : Binds K A.f__law_least ["_law_covers", "_law_losses_here", "_law_splits_here"] []
  F_law : Fun K "law" "law" s_law A.a_law A.f_law
  m_law : mg "law" = some (.ref A.a_law)
  k_law : PySem.W.keepIn K (.ref A.a_law) = true
  d_law : Binds K A.f_law ["_law_script"] []
  cl_Table : Cls K A.c_Table
  mc_Table : mg "Table" = some (.ref A.c_Table)
  mk_Table : Mk K A.c_Table A.a_Table___init__
  na_Table_house_count : NoAttr K A.c_Table "house_count"
  na_Table_cover_rows : NoAttr K A.c_Table "cover_rows"
  na_Table_befallen : NoAttr K A.c_Table "befallen"
  na_Table_crown_bearers : NoAttr K A.c_Table "crown_bearers"
  mc_BadAccount : mg "BadAccount" = some (.ref A.c_BadAccount)
  mc_BadCover : mg "BadCover" = some (.ref A.c_BadCover)
  mc_BadCrowns : mg "BadCrowns" = some (.ref A.c_BadCrowns)
  mc_BadDay : mg "BadDay" = some (.ref A.c_BadDay)
  mc_BadDeed : mg "BadDeed" = some (.ref A.c_BadDeed)
  mc_BadHouses : mg "BadHouses" = some (.ref A.c_BadHouses)
  mc_BadLines : mg "BadLines" = some (.ref A.c_BadLines)
  mc_BadLosses : mg "BadLosses" = some (.ref A.c_BadLosses)
  mc_BadTerms : mg "BadTerms" = some (.ref A.c_BadTerms)
  mc_BadText : mg "BadText" = some (.ref A.c_BadText)
  mc_Disagrees : mg "Disagrees" = some (.ref A.c_Disagrees)
  mc_Endless : mg "Endless" = some (.ref A.c_Endless)
  mc_Full : mg "Full" = some (.ref A.c_Full)
  mc_NoCover : mg "NoCover" = some (.ref A.c_NoCover)
  mc_NoHappening : mg "NoHappening" = some (.ref A.c_NoHappening)
  mc_NoHouse : mg "NoHouse" = some (.ref A.c_NoHouse)
  mc_NoLoss : mg "NoLoss" = some (.ref A.c_NoLoss)
  mc_Nothing : mg "Nothing" = some (.ref A.c_Nothing)
  mc_RingError : mg "RingError" = some (.ref A.c_RingError)
  mc_Same : mg "Same" = some (.ref A.c_Same)
  mc_Short : mg "Short" = some (.ref A.c_Short)
  mc_Unbacked : mg "Unbacked" = some (.ref A.c_Unbacked)
  x_BadLosses : PySem.W.excIn K A.c_BadLosses [.type "ValueError", .type "Exception", .type "BaseException", .type "object"] "ValueError.__new__" = true
  ec_BadLosses : ErrCls K A.c_BadLosses
  em_BadLosses : PySem.W.exmOne K (.ref A.c_BadLosses) (.ref A.c_RingError) = some true
  kv_BadLosses : PySem.W.kitOne K (.ref A.c_BadLosses) (.type "ValueError") = some true
  ki_BadLosses_BadAccount : PySem.W.kitOne K (.ref A.c_BadLosses) (.ref A.c_BadAccount) = some false
  ki_BadLosses_BadCover : PySem.W.kitOne K (.ref A.c_BadLosses) (.ref A.c_BadCover) = some false
  ki_BadLosses_BadCrowns : PySem.W.kitOne K (.ref A.c_BadLosses) (.ref A.c_BadCrowns) = some false
  ki_BadLosses_BadDay : PySem.W.kitOne K (.ref A.c_BadLosses) (.ref A.c_BadDay) = some false
  ki_BadLosses_BadDeed : PySem.W.kitOne K (.ref A.c_BadLosses) (.ref A.c_BadDeed) = some false
  ki_BadLosses_BadHouses : PySem.W.kitOne K (.ref A.c_BadLosses) (.ref A.c_BadHouses) = some false
  ki_BadLosses_BadLines : PySem.W.kitOne K (.ref A.c_BadLosses) (.ref A.c_BadLines) = some false
  ki_BadLosses_BadLosses : PySem.W.kitOne K (.ref A.c_BadLosses) (.ref A.c_BadLosses) = some true
  ki_BadLosses_BadTerms : PySem.W.kitOne K (.ref A.c_BadLosses) (.ref A.c_BadTerms) = some false
  ki_BadLosses_BadText : PySem.W.kitOne K (.ref A.c_BadLosses) (.ref A.c_BadText) = some false
  ki_BadLosses_Disagrees : PySem.W.kitOne K (.ref A.c_BadLosses) (.ref A.c_Disagrees) = some false
  ki_BadLosses_Endless : PySem.W.kitOne K (.ref A.c_BadLosses) (.ref A.c_Endless) = some false
  ki_BadLosses_Full : PySem.W.kitOne K (.ref A.c_BadLosses) (.ref A.c_Full) = some false
  ki_BadLosses_NoCover : PySem.W.kitOne K (.ref A.c_BadLosses) (.ref A.c_NoCover) = some false
  ki_BadLosses_NoHappening : PySem.W.kitOne K (.ref A.c_BadLosses) (.ref A.c_NoHappening) = some false
  ki_BadLosses_NoHouse : PySem.W.kitOne K (.ref A.c_BadLosses) (.ref A.c_NoHouse) = some false
  ki_BadLosses_NoLoss : PySem.W.kitOne K (.ref A.c_BadLosses) (.ref A.c_NoLoss) = some false
  ki_BadLosses_Nothing : PySem.W.kitOne K (.ref A.c_BadLosses) (.ref A.c_Nothing) = some false
  ki_BadLosses_Same : PySem.W.kitOne K (.ref A.c_BadLosses) (.ref A.c_Same) = some false
  ki_BadLosses_Short : PySem.W.kitOne K (.ref A.c_BadLosses) (.ref A.c_Short) = some false
  ki_BadLosses_Unbacked : PySem.W.kitOne K (.ref A.c_BadLosses) (.ref A.c_Unbacked) = some false
  x_NoHouse : PySem.W.excIn K A.c_NoHouse [.type "ValueError", .type "Exception", .type "BaseException", .type "object"] "ValueError.__new__" = true
  ec_NoHouse : ErrCls K A.c_NoHouse
  em_NoHouse : PySem.W.exmOne K (.ref A.c_NoHouse) (.ref A.c_RingError) = some true
  kv_NoHouse : PySem.W.kitOne K (.ref A.c_NoHouse) (.type "ValueError") = some true
  ki_NoHouse_BadAccount : PySem.W.kitOne K (.ref A.c_NoHouse) (.ref A.c_BadAccount) = some false
  ki_NoHouse_BadCover : PySem.W.kitOne K (.ref A.c_NoHouse) (.ref A.c_BadCover) = some false
  ki_NoHouse_BadCrowns : PySem.W.kitOne K (.ref A.c_NoHouse) (.ref A.c_BadCrowns) = some false
  ki_NoHouse_BadDay : PySem.W.kitOne K (.ref A.c_NoHouse) (.ref A.c_BadDay) = some false
  ki_NoHouse_BadDeed : PySem.W.kitOne K (.ref A.c_NoHouse) (.ref A.c_BadDeed) = some false
  ki_NoHouse_BadHouses : PySem.W.kitOne K (.ref A.c_NoHouse) (.ref A.c_BadHouses) = some false
  ki_NoHouse_BadLines : PySem.W.kitOne K (.ref A.c_NoHouse) (.ref A.c_BadLines) = some false
  ki_NoHouse_BadLosses : PySem.W.kitOne K (.ref A.c_NoHouse) (.ref A.c_BadLosses) = some false
  ki_NoHouse_BadTerms : PySem.W.kitOne K (.ref A.c_NoHouse) (.ref A.c_BadTerms) = some false
  ki_NoHouse_BadText : PySem.W.kitOne K (.ref A.c_NoHouse) (.ref A.c_BadText) = some false
  ki_NoHouse_Disagrees : PySem.W.kitOne K (.ref A.c_NoHouse) (.ref A.c_Disagrees) = some false
  ki_NoHouse_Endless : PySem.W.kitOne K (.ref A.c_NoHouse) (.ref A.c_Endless) = some false
  ki_NoHouse_Full : PySem.W.kitOne K (.ref A.c_NoHouse) (.ref A.c_Full) = some false
  ki_NoHouse_NoCover : PySem.W.kitOne K (.ref A.c_NoHouse) (.ref A.c_NoCover) = some false
  ki_NoHouse_NoHappening : PySem.W.kitOne K (.ref A.c_NoHouse) (.ref A.c_NoHappening) = some false
  ki_NoHouse_NoHouse : PySem.W.kitOne K (.ref A.c_NoHouse) (.ref A.c_NoHouse) = some true
  ki_NoHouse_NoLoss : PySem.W.kitOne K (.ref A.c_NoHouse) (.ref A.c_NoLoss) = some false
  ki_NoHouse_Nothing : PySem.W.kitOne K (.ref A.c_NoHouse) (.ref A.c_Nothing) = some false
  ki_NoHouse_Same : PySem.W.kitOne K (.ref A.c_NoHouse) (.ref A.c_Same) = some false
  ki_NoHouse_Short : PySem.W.kitOne K (.ref A.c_NoHouse) (.ref A.c_Short) = some false
  ki_NoHouse_Unbacked : PySem.W.kitOne K (.ref A.c_NoHouse) (.ref A.c_Unbacked) = some false
  c_LAST_HOUSE : ∃ t, mg "LAST_HOUSE" = some (.int 5 t)
  c_LEAST_LINE : ∃ t, mg "LEAST_LINE" = some (.int 1 t)
  c_MOST_BILL : ∃ t, mg "MOST_BILL" = some (.int 24 t)
  c_MOST_COVERS : ∃ t, mg "MOST_COVERS" = some (.int 10 t)
  c_MOST_LINE : ∃ t, mg "MOST_LINE" = some (.int 20 t)
  c_MOST_LOSS : ∃ t, mg "MOST_LOSS" = some (.int 9999 t)
  c_MOST_PAIRS : ∃ t, mg "MOST_PAIRS" = some (.int 4 t)
  c_MOST_REACH : ∃ t, mg "MOST_REACH" = some (.int 99999 t)
  b_ValueError : mg "ValueError" = none
  b_all : mg "all" = none
  b_bool : mg "bool" = none
  b_enumerate : mg "enumerate" = none
  b_int : mg "int" = none
  b_isinstance : mg "isinstance" = none
  b_len : mg "len" = none
  b_list : mg "list" = none
  b_max : mg "max" = none
  b_min : mg "min" = none
  b_range : mg "range" = none
  b_tuple : mg "tuple" = none
  b_zip : mg "zip" = none
  g_BY_BOUNDS : mg "BY_BOUNDS" = some (.ref A.o_BY_BOUNDS)
  t_BY_BOUNDS : KDict w K A.o_BY_BOUNDS [(Sum.inr "share", .ref A.u_BY_BOUNDS_0), (Sum.inr "layer", .ref A.u_BY_BOUNDS_1)]
  s_BY_BOUNDS_0 : KTup K A.u_BY_BOUNDS_0 [.int 1, .int 100]
  s_BY_BOUNDS_1 : KTup K A.u_BY_BOUNDS_1 [.int 0, .int 200]
structure ErrIs (K : PySem.W.Frag) (A : Adr) (C : Addr) (x : Str) : Prop where
  ec : ErrCls K C
  kv : PySem.W.kitOne K (.ref C) (.type "ValueError") = some true
  k_BadHouses : PySem.W.kitOne K (.ref C) (.ref A.c_BadHouses) = some (decide (("BadHouses" : Str) = x))
  k_BadLines : PySem.W.kitOne K (.ref C) (.ref A.c_BadLines) = some (decide (("BadLines" : Str) = x))
  k_BadCover : PySem.W.kitOne K (.ref C) (.ref A.c_BadCover) = some (decide (("BadCover" : Str) = x))
  k_BadCrowns : PySem.W.kitOne K (.ref C) (.ref A.c_BadCrowns) = some (decide (("BadCrowns" : Str) = x))
  k_BadLosses : PySem.W.kitOne K (.ref C) (.ref A.c_BadLosses) = some (decide (("BadLosses" : Str) = x))
  k_BadAccount : PySem.W.kitOne K (.ref C) (.ref A.c_BadAccount) = some (decide (("BadAccount" : Str) = x))
  k_Unbacked : PySem.W.kitOne K (.ref C) (.ref A.c_Unbacked) = some (decide (("Unbacked" : Str) = x))
  k_Short : PySem.W.kitOne K (.ref C) (.ref A.c_Short) = some (decide (("Short" : Str) = x))
  k_Disagrees : PySem.W.kitOne K (.ref C) (.ref A.c_Disagrees) = some (decide (("Disagrees" : Str) = x))
  k_NoHouse : PySem.W.kitOne K (.ref C) (.ref A.c_NoHouse) = some (decide (("NoHouse" : Str) = x))
  k_NoCover : PySem.W.kitOne K (.ref C) (.ref A.c_NoCover) = some (decide (("NoCover" : Str) = x))
  k_NoHappening : PySem.W.kitOne K (.ref C) (.ref A.c_NoHappening) = some (decide (("NoHappening" : Str) = x))
  k_NoLoss : PySem.W.kitOne K (.ref C) (.ref A.c_NoLoss) = some (decide (("NoLoss" : Str) = x))
  k_BadDay : PySem.W.kitOne K (.ref C) (.ref A.c_BadDay) = some (decide (("BadDay" : Str) = x))
  k_BadTerms : PySem.W.kitOne K (.ref C) (.ref A.c_BadTerms) = some (decide (("BadTerms" : Str) = x))
  k_Endless : PySem.W.kitOne K (.ref C) (.ref A.c_Endless) = some (decide (("Endless" : Str) = x))
  k_Same : PySem.W.kitOne K (.ref C) (.ref A.c_Same) = some (decide (("Same" : Str) = x))
  k_Full : PySem.W.kitOne K (.ref C) (.ref A.c_Full) = some (decide (("Full" : Str) = x))
  k_BadDeed : PySem.W.kitOne K (.ref C) (.ref A.c_BadDeed) = some (decide (("BadDeed" : Str) = x))
  k_Nothing : PySem.W.kitOne K (.ref C) (.ref A.c_Nothing) = some (decide (("Nothing" : Str) = x))
  k_BadText : PySem.W.kitOne K (.ref C) (.ref A.c_BadText) = some (decide (("BadText" : Str) = x))
theorem eis_BadLosses {w : World} {K : PySem.W.Frag} {mg : Str → Option Value} {A : Adr} (T : Txt w K mg A) : ErrIs K A A.c_BadLosses "BadLosses" := ⟨T.ec_BadLosses, T.kv_BadLosses, T.ki_BadLosses_BadHouses.trans (congrArg some (by decide +kernel)), T.ki_BadLosses_BadLines.trans (congrArg some (by decide +kernel)), T.ki_BadLosses_BadCover.trans (congrArg some (by decide +kernel)), T.ki_BadLosses_BadCrowns.trans (congrArg some (by decide +kernel)), T.ki_BadLosses_BadLosses.trans (congrArg some (by decide +kernel)), T.ki_BadLosses_BadAccount.trans (congrArg some (by decide +kernel)), T.ki_BadLosses_Unbacked.trans (congrArg some (by decide +kernel)), T.ki_BadLosses_Short.trans (congrArg some (by decide +kernel)), T.ki_BadLosses_Disagrees.trans (congrArg some (by decide +kernel)), T.ki_BadLosses_NoHouse.trans (congrArg some (by decide +kernel)), T.ki_BadLosses_NoCover.trans (congrArg some (by decide +kernel)), T.ki_BadLosses_NoHappening.trans (congrArg some (by decide +kernel)), T.ki_BadLosses_NoLoss.trans (congrArg some (by decide +kernel)), T.ki_BadLosses_BadDay.trans (congrArg some (by decide +kernel)), T.ki_BadLosses_BadTerms.trans (congrArg some (by decide +kernel)), T.ki_BadLosses_Endless.trans (congrArg some (by decide +kernel)), T.ki_BadLosses_Same.trans (congrArg some (by decide +kernel)), T.ki_BadLosses_Full.trans (congrArg some (by decide +kernel)), T.ki_BadLosses_BadDeed.trans (congrArg some (by decide +kernel)), T.ki_BadLosses_Nothing.trans (congrArg some (by decide +kernel)), T.ki_BadLosses_BadText.trans (congrArg some (by decide +kernel))⟩
theorem eis_NoHouse {w : World} {K : PySem.W.Frag} {mg : Str → Option Value} {A : Adr} (T : Txt w K mg A) : ErrIs K A A.c_NoHouse "NoHouse" := ⟨T.ec_NoHouse, T.kv_NoHouse, T.ki_NoHouse_BadHouses.trans (congrArg some (by decide +kernel)), T.ki_NoHouse_BadLines.trans (congrArg some (by decide +kernel)), T.ki_NoHouse_BadCover.trans (congrArg some (by decide +kernel)), T.ki_NoHouse_BadCrowns.trans (congrArg some (by decide +kernel)), T.ki_NoHouse_BadLosses.trans (congrArg some (by decide +kernel)), T.ki_NoHouse_BadAccount.trans (congrArg some (by decide +kernel)), T.ki_NoHouse_Unbacked.trans (congrArg some (by decide +kernel)), T.ki_NoHouse_Short.trans (congrArg some (by decide +kernel)), T.ki_NoHouse_Disagrees.trans (congrArg some (by decide +kernel)), T.ki_NoHouse_NoHouse.trans (congrArg some (by decide +kernel)), T.ki_NoHouse_NoCover.trans (congrArg some (by decide +kernel)), T.ki_NoHouse_NoHappening.trans (congrArg some (by decide +kernel)), T.ki_NoHouse_NoLoss.trans (congrArg some (by decide +kernel)), T.ki_NoHouse_BadDay.trans (congrArg some (by decide +kernel)), T.ki_NoHouse_BadTerms.trans (congrArg some (by decide +kernel)), T.ki_NoHouse_Endless.trans (congrArg some (by decide +kernel)), T.ki_NoHouse_Same.trans (congrArg some (by decide +kernel)), T.ki_NoHouse_Full.trans (congrArg some (by decide +kernel)), T.ki_NoHouse_BadDeed.trans (congrArg some (by decide +kernel)), T.ki_NoHouse_Nothing.trans (congrArg some (by decide +kernel)), T.ki_NoHouse_BadText.trans (congrArg some (by decide +kernel))⟩
section
variable {P : Program} {w : World} {K : PySem.W.Frag} {mg : Str → Option Value} {base : Heap} {A : Adr}
def sp_is_lines (K : PySem.W.Frag) : Sp := fun vs H Q _ => ∃ (p : Addr) (L : List (Int × Int)), vs = [.ref p] ∧ LinesAt K H p L ∧ L.length ≤ 1000 ∧ ∀ H', Same H H' → Q (.bl (isLinesB L)) H'
theorem sc_is_lines : FnScope ["lines"] ["lines"] (defScope s_is_lines) := ⟨rfl, rfl, rfl, by decide +kernel, rfl, by decide +kernel, by decide +kernel⟩
set_option maxHeartbeats 4000000 in
theorem ok_is_lines (T : Txt w K mg A) : FnOk P w K mg base CX0 1 A.a_is_lines A.f_is_lines ["lines"] (sp_is_lines K) := by
  have nd := sc_is_lines.nd
  refine T.F_is_lines.ok sc_is_lines (fun vs H Q E h => ?_) (fun cdv Ar outer s H vs Q E hr h => ?_)
  · obtain ⟨p, L, rfl, _⟩ := h; rfl
  · skip
    obtain ⟨p, L, rfl, ⟨us, hp, hu⟩, hl, kk⟩ := h
    have hlen := hu.len
    have hz : us.length ≤ sizeLine := Nat.le_of_lt (small_line (by omega))
    have out : ∀ H', isLinesB L = false → Same H H' → Q (.bl false) H' := fun H' e s => by rw [← e]; exact kk H' s
    refine PSs.rd (pss_cons (ps_if (pt_not (pt_chain op_leI op_leI pe_int (pe_callB call_len_seq rfl T.b_len PySem.boot_len (pa_cons (pvI 0) pa_nil)) (pe_globI rfl T.c_MOST_PAIRS)))
      (pss_one (ps_ret pe_bl))
      pss_nil)
    (pss_cons (ps_if (pt_cmpR op_ltI (pe_callB call_len_setI rfl T.b_len PySem.boot_len (pa_cons (scA (defScope s_is_lines) (pi_tup (pvI 0)) (fun _ _ _ _ _ => pgc2 1 2) (fun _ _ _ _ _ => pts_nil) (fun _ _ _ _ _ => (pvI 1))) pa_nil)) (pe_callB call_len_seq rfl T.b_len PySem.boot_len (pa_cons (pvI 0) pa_nil)) (nomark _))
      (pss_one (ps_ret pe_bl))
      pss_nil)
    (pss_one (ps_ret (pe_callB (call_allB rfl) rfl T.b_all boot_all (pa_cons (lcA (defScope s_is_lines) (pi_tup (pvI 0)) (fun _ _ _ _ _ => pgc2 1 2) (fun _ _ _ _ _ => pts_nil) (fun _ _ _ _ _ => (pe_and (pe_chain op_leI op_leI pe_int (pvI 1) (pe_globI rfl T.c_LAST_HOUSE)) (pe_one (pe_chain op_leI op_leI (pe_globI rfl T.c_LEAST_LINE) (pvI 2) (pe_globI rfl T.c_MOST_LINE)))))) pa_nil)))))) ?_
    try dsimp only [L2.cxOf, L2.Cx.nox]
    refine ⟨_, rfl, p, us, rfl, .inr hp, _, _, rfl, rfl, _, rfl, iteD (fun h1 => ?_) (fun h1 => ?_)⟩
    case refine_2 =>
      refine ⟨_, rfl, iteT (out H ?_ (Same.refl H))⟩
      unfold isLinesB
      rw [decide_eq_false (by omega)]; rfl
    refine ⟨_, _, rfl, rfl, _, rfl, iteND (fun h4 => ?_) (fun h4 => ?_)⟩
    · refine out H ?_ (Same.refl H)
      unfold isLinesB
      rw [decide_eq_false (by omega)]; rfl
    refine ⟨_, rfl, p, rfl, ⟨us, hp⟩, ?_⟩
    refine sc_by (ks := L.map (·.1)) (itOf_tup hp) (fun σ => ∃ x y z, σ = [x, y, z]) ?_ (by rw [List.length_map]; exact hlen.symm) (by omega) ?_ ?_
    · exact ⟨_, _, _, rfl⟩
    · intro i x k σ2 H2 Qt Qf hx hk sm zz1 q
      refine byC fun hG => ?_
      obtain ⟨a, b, c, rfl⟩ := zz1
      obtain ⟨l, hl1, q1, rfl, hq⟩ := hu.get hx
      refine hG ?_
      rw [List.getElem?_map, hl1] at hk
      cases hk
      exact ⟨q1, _, rfl, sm.tupS hq, rfl, _, _, rfl, _, _, rfl, rfl, _, rfl, q _ ⟨_, _, _, rfl⟩⟩
    intro D hD
    have sD : Same H (upd H D (.set (dset (L.map (·.1))).1 (dset (L.map (·.1))).2)) := same_upd hD
    refine ⟨D, _, _, rfl, upd_same, _, rfl, p, us, rfl, .inr (sD.tupS hp), _, _, rfl, rfl, _, rfl, iteD (fun h5 => ?_) (fun h5 => ?_)⟩
    · refine out _ ?_ sD
      have hn : ¬ (L.map (·.1)).Nodup := fun hn => by
        have := (dset_nodup _).mpr hn
        rw [List.length_map] at this
        omega
      unfold isLinesB
      rw [decide_eq_false hn, Bool.false_and, Bool.and_false]
    have hn : (L.map (·.1)).Nodup := (dset_nodup _).mp (by
      have := dset_le (L.map (·.1))
      rw [List.length_map] at this ⊢
      omega)
    refine ⟨_, rfl, p, rfl, ⟨us, sD.tupS hp⟩, ?_⟩
    refine lc_by (ws := L.map fun l => V.bl (lineB l)) (itOf_tup (sD.tupS hp)) (fun σ => ∃ a b c d e f, σ = [a, b, c, d, e, f]) ?_ (by rw [List.length_map]; exact hlen.symm) hz ?_ ?_
    · exact ⟨_, _, _, _, _, _, rfl⟩
    · intro i x w σ2 H2 Qt Qf hx hk sm zz2 q
      refine byC fun hG => ?_
      obtain ⟨a, b, c, d, e, f, rfl⟩ := zz2
      obtain ⟨l, hl1, q1, rfl, hq⟩ := hu.get hx
      refine hG ?_
      rw [List.getElem?_map, hl1] at hk
      cases hk
      refine ⟨q1, _, rfl, (sD.trans sm).tupS hq, rfl, _, _, rfl, _, _, rfl, rfl, ?_⟩
      have q2 : ∀ (k : Bool) (σ4 : L2.St), k = lineB l → (∃ a b c d e f, σ4 = [a, b, c, d, e, f]) → Qt σ4 (V.bl k) H2 := fun k σ4 e h => by rw [e]; exact q σ4 h
      refine ⟨_, rfl, _, _, rfl, rfl, _, rfl, iteD (fun g1 => ?_) (fun g1 => ?_)⟩
      case refine_2 =>
        refine ⟨_, rfl, iteF ?_⟩
        have e : lineB l = false := decide_eq_false (fun z => g1 z.1)
        exact q2 _ _ e.symm ⟨_, _, _, _, _, _, rfl⟩
      refine ⟨_, _, rfl, rfl, _, rfl, iteD (fun g2 => ?_) (fun g2 => ?_)⟩
      case refine_2 =>
        have e : lineB l = false := decide_eq_false (fun z => g2 z.2.1)
        exact q2 _ _ e.symm ⟨_, _, _, _, _, _, rfl⟩
      refine ⟨_, rfl, _, _, rfl, rfl, _, rfl, iteD (fun g3 => ?_) (fun g3 => ?_)⟩
      case refine_2 =>
        have e : lineB l = false := decide_eq_false (fun z => g3 z.2.2.1)
        exact q2 _ _ e.symm ⟨_, _, _, _, _, _, rfl⟩
      refine ⟨_, _, rfl, rfl, ?_⟩
      have e : lineB l = decide (l.2 ≤ 20) := by
        unfold lineB
        by_cases g4 : l.2 ≤ 20
        · rw [decide_eq_true g4, decide_eq_true ⟨g1, g2, g3, g4⟩]
        · rw [decide_eq_false g4, decide_eq_false (fun z => g4 z.2.2.2)]
      exact q2 _ _ e.symm ⟨_, _, _, _, _, _, rfl⟩
    intro D2 hD2
    refine ⟨D2, L.map lineB, rfl, SqL.of ?_, ?_⟩
    · rw [upd_same, List.map_map]; rfl
    have e : isLinesB L = (L.map lineB).all id := by
      unfold isLinesB
      rw [decide_eq_true hn, Bool.true_and, decide_eq_true (show 1 ≤ L.length ∧ L.length ≤ 4 by omega), Bool.true_and, List.all_map]
      rfl
    rw [← e]
    exact kk _ (sD.trans (same_upd hD2))
def sp_next_place (K : PySem.W.Frag) : Sp := fun vs H Q _ => ∃ (p q : Addr) (L : List (Int × Int)) (b : List Int), vs = [.ref p, .ref q] ∧ LinesAt K H p L ∧ SqL K H q (b.map V.int) ∧ b.length = L.length ∧ 1 ≤ L.length ∧ L.length ≤ 1000 ∧ SmallL L ∧
  Q (.int (Mt.pick (L.map (·.2)) b : Nat)) H
theorem sc_next_place : FnScope ["lines", "borne", "best", "place"] ["lines", "borne"] (defScope s_next_place) := ⟨rfl, rfl, rfl, by decide +kernel, rfl, by decide +kernel, by decide +kernel⟩
set_option maxHeartbeats 4000000 in
theorem ok_next_place (T : Txt w K mg A) : FnOk P w K mg base CX0 1 A.a_next_place A.f_next_place ["lines", "borne"] (sp_next_place K) := by
  have nd := sc_next_place.nd
  refine T.F_next_place.ok sc_next_place (fun vs H Q E h => ?_) (fun cdv Ar outer s H vs Q E hr h => ?_)
  · obtain ⟨p, q, L, b, rfl, _⟩ := h; rfl
  · skip
    obtain ⟨p, q, L, b, rfl, ⟨us, hp, hu⟩, hq, hb, h1, hl, sm, kk⟩ := h
    have hlen := hu.len
    refine PSs.rd (pss_cons (ps_set (i := 2) nd rfl (Or.inl rfl) pe_int)
    (pss_cons (ps_for PassesOwn.never rfl (pi_range2 rfl T.b_range (pa_cons pe_int (pa_cons (pe_callB call_len_seq rfl T.b_len PySem.boot_len (pa_cons (pvI 0) pa_nil)) pa_nil))) (pg_name (i := 3) nd rfl (Or.inl rfl))
      (pss_one (ps_if (pt_cmpR op_ltI (pe_op op_mulI (pe_op op_addI (pe_ix (ix_listI K rfl) (pvI 1) (pvI 3) (fun _ _ => rfl)) pe_int) (pe_ix (ix_tupI K rfl) (pe_ix (ix_tupI K rfl) (pvI 0) (pvI 2) (fun _ _ => rfl)) pe_int (fun _ _ => rfl))) (pe_op op_mulI (pe_op op_addI (pe_ix (ix_listI K rfl) (pvI 1) (pvI 2) (fun _ _ => rfl)) pe_int) (pe_ix (ix_tupI K rfl) (pe_ix (ix_tupI K rfl) (pvI 0) (pvI 3) (fun _ _ => rfl)) pe_int (fun _ _ => rfl))) (nomark _))
         (pss_one (ps_set (i := 2) nd rfl (Or.inl rfl) (pvI 3)))
         pss_nil)))
    (pss_one (ps_ret (pvI 2))))) ?_
    try dsimp only [L2.cxOf, L2.Cx.nox]
    refine ⟨_, rfl, p, us, rfl, .inr hp, 1, _, rfl, ⟨by decide, by decide, by omega, by omega⟩, ?_⟩
    have en : (((us.length : Nat) : Int) - 1).toNat = L.length - 1 := by omega
    rw [en]
    refine for_range (lo := 1) (n := L.length - 1) (fun i σ H' => H' = H ∧ ∃ k, σ = [some (.ref p), some (.ref q), some (.int (Mt.pickTo (L.map (·.2)) b (i + 1) : Nat)), k]) ⟨rfl, none, by rw [Mt.pickTo_one]; rfl⟩ ?_ ?_
    · intro i σ H' hi zz1
      refine byC fun hG => ?_
      obtain ⟨rfl, k, rfl⟩ := zz1
      have hbest : Mt.pickTo (L.map (·.2)) b (i + 1) < L.length := Nat.lt_of_lt_of_le (Mt.pickTo_lt _ _ _ (Nat.succ_pos _)) (by omega)
      have epl : (1 : Int) + (i : Nat) = ((i + 1 : Nat) : Int) := by omega
      refine hG ?_
      rw [epl]
      have estp := Mt.pickTo_succ (L.map (·.2)) b (i + 1)
      generalize Mt.pickTo (L.map (·.2)) b (i + 1) = best at hbest estp ⊢
      refine byC fun hG => ?_
      obtain ⟨q1, a1, i1, t1, _⟩ := hu.ix hbest
      obtain ⟨q2, a2, i2, t2, _⟩ := hu.ix (i := i + 1) (by omega)
      refine hG ?_
      refine ⟨_, rfl, _, rfl, q, _, _, _, rfl, rfl, hq, ix_of (by omega), _, _, rfl, rfl, _, rfl, _, rfl, p, _, _, _, rfl, rfl, hp, i1, q1, _, 1, _, rfl, rfl, t1, rfl, _, _, rfl, rfl, .inr (sm.get _), ?_⟩
      refine ⟨_, rfl, _, rfl, q, _, _, _, rfl, rfl, hq, ix_of (by omega), _, _, rfl, rfl, _, rfl, _, rfl, p, _, _, _, rfl, rfl, hp, i2, q2, _, 1, _, rfl, rfl, t2, rfl, _, _, rfl, rfl, .inr (sm.get _), ?_⟩
      refine ⟨_, _, rfl, rfl, _, rfl, iteD (fun hc => ?_) (fun hc => ?_)⟩
      · refine ⟨_, rfl, rfl, some (.int ((i + 1 : Nat) : Int)), ?_⟩
        rw [estp]; unfold Mt.stp; rw [if_pos hc]; rfl
      · refine ⟨rfl, some (.int ((i + 1 : Nat) : Int)), ?_⟩
        rw [estp]; unfold Mt.stp; rw [if_neg hc]; rfl
    · intro σ H' zz2
      refine byC fun hG => ?_
      obtain ⟨rfl, k, rfl⟩ := zz2
      refine hG ?_
      refine ⟨_, rfl, ?_⟩
      have e : L.length - 1 + 1 = (L.map (·.2)).length := by rw [List.length_map]; omega
      rw [e]
      exact kk
def sp_bearers (K : PySem.W.Frag) : Sp := fun vs H Q _ => ∃ (p : Addr) (n : Nat) (L : List (Int × Int)), vs = [.ref p, .int n] ∧ LinesAt K H p L ∧ 1 ≤ L.length ∧ L.length ≤ 1000 ∧ SmallL L ∧ n ≤ 1000 ∧
  ∀ (r : Addr) (H' : Hp), H r = none → Same H H' → H' r = some (.lst ((bearersL L n).map V.int)) → Q (.ref r) H'
theorem sc_bearers : FnScope ["lines", "crowns", "borne", "told", "crown", "place"] ["lines", "crowns"] (defScope s_bearers) := ⟨rfl, rfl, rfl, by decide +kernel, rfl, by decide +kernel, by decide +kernel⟩
set_option maxHeartbeats 4000000 in
theorem ok_bearers (T : Txt w K mg A) : FnOk P w K mg base CX0 2 A.a_bearers A.f_bearers ["lines", "crowns"] (sp_bearers K) := by
  have nd := sc_bearers.nd
  have G_next_place := ok_next_place (P := P) (w := w) (base := base) T
  refine T.F_bearers.ok sc_bearers (fun vs H Q E h => ?_) (fun cdv Ar outer s H vs Q E hr h => ?_)
  · obtain ⟨p, n, L, rfl, _⟩ := h; rfl
  · skip
    obtain ⟨p, n, L, rfl, hp, h1, hl, sm, hn, kk⟩ := h
    obtain ⟨us, hp1, hu⟩ := hp.ex
    have hlen := hu.len
    refine PSs.rd (pss_cons (lcS (defScope s_bearers) 2 nd (pi_tup (pvI 0)) (fun _ _ _ _ _ => pgc 1) (fun _ _ _ _ _ => pts_nil) (fun _ _ _ _ _ => pe_int))
    (pss_cons (ps_set (i := 3) nd rfl (Or.inl rfl) (pe_lst pa_nil))
    (pss_cons (ps_for PassesOwn.never rfl (pi_range1 rfl T.b_range (pa_cons (pvI 1) pa_nil)) (pg_name (i := 4) nd rfl (Or.inl rfl))
      (pss_cons (ps_set (i := 5) nd rfl (Or.inl rfl) (pe_call (G_next_place.mono (by decide)) hr rfl T.m_next_place T.k_next_place T.d_next_place .nil pass0 (pa_cons (pvI 0) (pa_cons (pvI 2) pa_nil))))
       (pss_cons (ps_augS (pvI 2) (pvI 5) get_listG pe_int ip_add set_list)
       (pss_one (ps_expr (pe_bm PySem.F.plainAttrs_list PySem.F.slot_list_append PySem.F.type_list_append mt_append (pvI 3) (pa_cons (pe_ix (ix_tupI K rfl) (pe_ix (ix_tupI K rfl) (pvI 0) (pvI 5) (fun _ _ => rfl)) pe_int (fun _ _ => rfl)) pa_nil)))))))
    (pss_one (ps_ret (pvI 3)))))) ?_
    try dsimp only [L2.cxOf, L2.Cx.nox]
    refine ⟨_, rfl, p, rfl, ⟨us, hp1⟩, ?_⟩
    refine lc_by (ws := (List.replicate L.length (0 : Int)).map V.int) (itOf_tup hp1) (fun σ => ∃ x y, σ = [x, y]) ?_ (by rw [List.length_map, List.length_replicate]; exact hlen.symm) (Nat.le_of_lt (small_line (by omega))) ?_ ?_
    · exact ⟨_, _, rfl⟩
    · intro i x w σ2 H2 Qt Qf hx hk s2 zz1 q
      refine byC fun hG => ?_
      obtain ⟨a, b, rfl⟩ := zz1
      refine hG ?_
      rw [List.getElem?_map, List.getElem?_replicate] at hk
      split at hk
      · cases hk
        exact q _ ⟨_, _, rfl⟩
      · cases hk
    intro r hr0
    have sr : Same H (upd H r (.lst ((List.replicate L.length (0 : Int)).map V.int))) := same_upd hr0
    refine ⟨by show 0 ≤ sizeLine; decide, fun t ht => ?_⟩
    have ht0 : H t = none := sr.free ht
    have ntr : r ≠ t := fun z => by rw [← z, upd_same] at ht; cases ht
    refine ⟨_, rfl, n, rfl, by omega, by omega, ?_⟩
    have en : ((n : Nat) : Int).toNat = n := by omega
    rw [en]
    refine for_range (n := n) (fun j σ H' => (∃ k l, σ = [some (.ref p), some (.int n), some (.ref r), some (.ref t), k, l]) ∧ Same H H' ∧ H' r = some (.lst ((Mt.deal (L.map (·.2)) j).map V.int)) ∧ H' t = some (.lst ((bearersL L j).map V.int))) ⟨⟨none, none, rfl⟩, sr.trans (same_upd ht), ?_, upd_same⟩ ?_ ?_
    · rw [upd_ne ntr, upd_same, Mt.deal, List.length_map]
    · intro j σ H' hj zz2
      refine byC fun hG => ?_
      obtain ⟨⟨k, l, rfl⟩, s2, hr', ht'⟩ := zz2
      have hb : (Mt.deal (L.map (·.2)) j).length = L.length := by rw [Mt.deal_length, List.length_map]
      have hpk : Mt.pick (L.map (·.2)) (Mt.deal (L.map (·.2)) j) < (Mt.deal (L.map (·.2)) j).length := by
        rw [Mt.deal_length]; exact Mt.pick_lt (by rw [List.length_map]; omega)
      refine hG ?_
      refine ⟨_, rfl, _, rfl, p, r, L, _, rfl, hp.same s2, SqL.of hr', hb, h1, hl, sm, ?_⟩
      refine byC fun hG => ?_
      obtain ⟨v, hv⟩ := get_some hpk
      refine hG ?_
      refine ⟨_, rfl, _, rfl, r, _, _, _, rfl, rfl, SqL.of hr', (by rw [List.getElem?_map, hv]; rfl), _, _, rfl, rfl, ?_⟩
      refine ⟨r, _, _, Mt.pick (L.map (·.2)) (Mt.deal (L.map (·.2)) j), rfl, rfl, hr', ?_, ?_⟩
      · unfold ixN
        rw [if_pos (Int.natCast_nonneg _), if_pos (by rw [List.length_map]; omega)]
        rfl
      have s3 : Same H (upd H' r (.lst (((Mt.deal (L.map (·.2)) j).map V.int).set (Mt.pick (L.map (·.2)) (Mt.deal (L.map (·.2)) j)) (.int (v + 1))))) := fun b o e => by
        rw [upd_ne (ne_of_none e hr0)]; exact s2 b o e
      have ht3 := upd_ne (H := H') (o := .lst (((Mt.deal (L.map (·.2)) j).map V.int).set (Mt.pick (L.map (·.2)) (Mt.deal (L.map (·.2)) j)) (.int (v + 1)))) ntr.symm
      have hp3 := hp.same s3
      refine byC fun hG => ?_
      obtain ⟨us3, hp4, hu3⟩ := hp3.ex
      obtain ⟨q1, a1, i1, t1, e2⟩ := hu3.ix (i := Mt.pick (L.map (·.2)) (Mt.deal (L.map (·.2)) j)) (by omega)
      refine hG ?_
      refine ⟨_, rfl, .inl ⟨rfl, _, SqL.of (ht3.trans ht')⟩, _, rfl, _, rfl, p, _, _, _, rfl, rfl, hp4, i1, q1, _, 0, _, rfl, rfl, t1, rfl, t, _, _, rfl, rfl, ht3.trans ht', ?_, ⟨_, _, rfl⟩, fun b o e => ?_, ?_, ?_⟩
      · exact small_line (by rw [List.length_map, bearersL_len]; omega)
      · rw [upd_ne (ne_of_none e ht0)]; exact s3 b o e
      · rw [upd_ne ntr, upd_same, Mt.deal, Mt.give, getD_of hv, List.map_set]
      · rw [upd_same, bearersL_succ, map_snoc]
        unfold bearerOf
        rw [fst_of e2]
    · intro σ H' zz3
      refine byC fun hG => ?_
      obtain ⟨⟨k, l, rfl⟩, s2, hr', ht'⟩ := zz3
      refine hG ?_
      exact ⟨_, rfl, kk t H' ht0 s2 ht'⟩
def sp_is_measure (K : PySem.W.Frag) : Sp := fun vs H Q _ => ∃ (k : Str) (b m : Int), vs = [.str k, .int b, .int m] ∧ Q (.bl (measB k b m)) H
theorem sc_is_measure : FnScope ["kind", "by", "most", "low", "high"] ["kind", "by", "most"] (defScope s_is_measure) := ⟨rfl, rfl, rfl, by decide +kernel, rfl, by decide +kernel, by decide +kernel⟩
set_option maxHeartbeats 4000000 in
theorem ok_is_measure (T : Txt w K mg A) : FnOk P w K mg base CX0 1 A.a_is_measure A.f_is_measure ["kind", "by", "most"] (sp_is_measure K) := by
  have nd := sc_is_measure.nd
  refine T.F_is_measure.ok sc_is_measure (fun vs H Q E h => ?_) (fun cdv Ar outer s H vs Q E hr h => ?_)
  · obtain ⟨k, b, m, rfl, _⟩ := h; rfl
  · skip
    obtain ⟨k, b, m, rfl, kk⟩ := h
    refine PSs.rd (pss_cons (ps_if (pt_cmpR op_knotin (pvI 0) (pe_glob (v := .ref A.o_BY_BOUNDS) rfl T.g_BY_BOUNDS rfl) (by with_unfolding_all rfl))
      (pss_one (ps_ret pe_bl))
      pss_nil)
    (pss_cons (ps_asg (pe_ix ix_kdict (pe_glob (v := .ref A.o_BY_BOUNDS) rfl T.g_BY_BOUNDS rfl) (pvI 0) (fun _ _ => rfl)) (pg_tup (n := 2) rfl (pgs_cons (pg_name (i := 3) nd rfl (Or.inl rfl)) (pgs_cons (pg_name (i := 4) nd rfl (Or.inl rfl)) pgs_nil))))
    (pss_one (ps_ret (pe_and (pe_chain op_leI op_leI (pvI 3) (pvI 1) (pvI 4)) (pe_one (pe_chain op_leI op_leI pe_int (pvI 2) (pe_globI rfl T.c_MOST_BILL)))))))) ?_
    try dsimp only [L2.cxOf, L2.Cx.nox]
    refine ⟨_, rfl, k, A.o_BY_BOUNDS, _, rfl, rfl, T.t_BY_BOUNDS, _, rfl, ?_⟩
    by_cases e1 : k = ("share" : Str)
    · subst e1
      refine iteF' (by rfl) ?_
      refine ⟨_, rfl, ("share" : Str), A.o_BY_BOUNDS, _, .ref A.u_BY_BOUNDS_0, _, rfl, rfl, T.t_BY_BOUNDS, rfl, rfl, A.u_BY_BOUNDS_0, _, rfl, T.s_BY_BOUNDS_0.sq _, rfl, _, _, rfl, _, _, rfl, rfl, ?_⟩
      have kk' : Q (.bl (decide (1 ≤ b ∧ b ≤ 100) && decide (0 ≤ m ∧ m ≤ 24))) H := by
        have e : measB "share" b m = (decide (1 ≤ b ∧ b ≤ 100) && decide (0 ≤ m ∧ m ≤ 24)) := by unfold measB; rw [if_pos rfl]
        rw [← e]; exact kk
      refine ⟨_, rfl, _, rfl, _, _, rfl, rfl, _, rfl, iteD (fun g1 => ?_) (fun g1 => ?_)⟩
      case refine_2 =>
        rw [decide_eq_false (fun z => g1 z.1)] at kk'
        exact ⟨_, rfl, iteF kk'⟩
      refine ⟨_, rfl, _, _, rfl, rfl, _, rfl, iteD (fun g2 => ?_) (fun g2 => ?_)⟩
      case refine_2 =>
        rw [decide_eq_false (fun z => g2 z.2)] at kk'
        exact kk'
      rw [decide_eq_true ⟨g1, g2⟩, Bool.true_and] at kk'
      refine ⟨_, rfl, _, _, rfl, rfl, _, rfl, iteD (fun g3 => ?_) (fun g3 => ?_)⟩
      case refine_2 =>
        rw [decide_eq_false (fun z => g3 z.1)] at kk'
        exact kk'
      have e : decide (0 ≤ m ∧ m ≤ 24) = decide (m ≤ 24) := by by_cases g4 : m ≤ 24 <;> simp [g3, g4]
      rw [e] at kk'
      exact ⟨_, _, rfl, rfl, kk'⟩
    by_cases e2 : k = ("layer" : Str)
    · subst e2
      refine iteF' (by rfl) ?_
      refine ⟨_, rfl, ("layer" : Str), A.o_BY_BOUNDS, _, .ref A.u_BY_BOUNDS_1, _, rfl, rfl, T.t_BY_BOUNDS, rfl, rfl, A.u_BY_BOUNDS_1, _, rfl, T.s_BY_BOUNDS_1.sq _, rfl, _, _, rfl, _, _, rfl, rfl, ?_⟩
      have kk' : Q (.bl (decide (0 ≤ b ∧ b ≤ 200) && decide (0 ≤ m ∧ m ≤ 24))) H := by
        have e : measB "layer" b m = (decide (0 ≤ b ∧ b ≤ 200) && decide (0 ≤ m ∧ m ≤ 24)) := by unfold measB; rw [if_neg e1, if_pos rfl]
        rw [← e]; exact kk
      refine ⟨_, rfl, _, rfl, _, _, rfl, rfl, _, rfl, iteD (fun g1 => ?_) (fun g1 => ?_)⟩
      case refine_2 =>
        rw [decide_eq_false (fun z => g1 z.1)] at kk'
        exact ⟨_, rfl, iteF kk'⟩
      refine ⟨_, rfl, _, _, rfl, rfl, _, rfl, iteD (fun g2 => ?_) (fun g2 => ?_)⟩
      case refine_2 =>
        rw [decide_eq_false (fun z => g2 z.2)] at kk'
        exact kk'
      rw [decide_eq_true ⟨g1, g2⟩, Bool.true_and] at kk'
      refine ⟨_, rfl, _, _, rfl, rfl, _, rfl, iteD (fun g3 => ?_) (fun g3 => ?_)⟩
      case refine_2 =>
        rw [decide_eq_false (fun z => g3 z.1)] at kk'
        exact kk'
      have e : decide (0 ≤ m ∧ m ≤ 24) = decide (m ≤ 24) := by by_cases g4 : m ≤ 24 <;> simp [g3, g4]
      rw [e] at kk'
      exact ⟨_, _, rfl, rfl, kk'⟩
    have e3 : (valueAt ([(Sum.inr "share", Value.ref A.u_BY_BOUNDS_0), (Sum.inr "layer", Value.ref A.u_BY_BOUNDS_1)] : List (Key × Value)) (Sum.inr k : Key)) = none := by
      unfold valueAt
      rw [List.find?_cons_of_neg (by intro z; exact e1 (Sum.inr.inj (of_decide_eq_true z)).symm), List.find?_cons_of_neg (by intro z; exact e2 (Sum.inr.inj (of_decide_eq_true z)).symm)]
      rfl
    rw [e3]
    have e4 : measB k b m = false := by unfold measB; rw [if_neg e1, if_neg e2, Bool.false_and]
    rw [e4] at kk
    exact kk
def sp_are_others (K : PySem.W.Frag) : Sp := fun vs H Q _ => ∃ (h ho : Int) (p : Addr) (L : List (Int × Int)), vs = [.int h, .int ho, .ref p] ∧ LinesAt K H p L ∧ L.length ≤ 1000 ∧ ∀ H', Same H H' → Q (.bl (othersBL h ho L)) H'
theorem sc_are_others : FnScope ["houses", "house", "lines"] ["houses", "house", "lines"] (defScope s_are_others) := ⟨rfl, rfl, rfl, by decide +kernel, rfl, by decide +kernel, by decide +kernel⟩
set_option maxHeartbeats 4000000 in
theorem ok_are_others (T : Txt w K mg A) : FnOk P w K mg base CX0 1 A.a_are_others A.f_are_others ["houses", "house", "lines"] (sp_are_others K) := by
  have nd := sc_are_others.nd
  refine T.F_are_others.ok sc_are_others (fun vs H Q E h => ?_) (fun cdv Ar outer s H vs Q E hr h => ?_)
  · obtain ⟨h, ho, p, L, rfl, _⟩ := h; rfl
  · skip
    obtain ⟨h, ho, p, L, rfl, ⟨us, hp, hu⟩, hl, kk⟩ := h
    have hlen := hu.len
    refine PSs.rd (pss_one (ps_ret (pe_callB (call_allB rfl) rfl T.b_all boot_all (pa_cons (lcA (defScope s_are_others) (pi_tup (pvI 2)) (fun _ _ _ _ _ => pgc2 1 2) (fun _ _ _ _ _ => pts_nil) (fun _ _ _ _ _ => (pe_and (pe_cmpR op_ltI (pvI 1) (pvI 4) (nomark _)) (pe_one (pe_cmpR op_ne (pvI 1) (pvI 3) (nomark _)))))) pa_nil)))) ?_
    try dsimp only [L2.cxOf, L2.Cx.nox]
    refine ⟨_, rfl, p, rfl, ⟨us, hp⟩, ?_⟩
    refine lc_by (ws := L.map fun l => V.bl (decide (l.1 < h) && !decide (l.1 = ho))) (itOf_tup hp) (fun σ => ∃ x y z, σ = [x, y, z, some (.int ho), some (.int h)]) ?_ (by rw [List.length_map]; exact hlen.symm) (Nat.le_of_lt (small_line (by omega))) ?_ ?_
    · exact ⟨_, _, _, rfl⟩
    · intro i x w σ2 H2 Qt Qf hx hk sm zz1 q
      refine byC fun hG => ?_
      obtain ⟨a, b, c, rfl⟩ := zz1
      obtain ⟨l, hl1, q1, rfl, hq⟩ := hu.get hx
      refine hG ?_
      rw [List.getElem?_map, hl1] at hk
      cases hk
      have q2 : ∀ (e : Bool) (σ4 : L2.St), e = (decide (l.1 < h) && !decide (l.1 = ho)) → (∃ x y z, σ4 = [x, y, z, some (.int ho), some (.int h)]) → Qt σ4 (V.bl e) H2 := fun e σ4 h1 h2 => by rw [h1]; exact q σ4 h2
      refine ⟨q1, _, rfl, sm.tupS hq, rfl, _, _, rfl, _, _, rfl, rfl, ?_⟩
      refine ⟨_, rfl, _, rfl, _, _, rfl, rfl, _, rfl, iteD (fun g1 => ?_) (fun g1 => ?_)⟩
      · refine ⟨_, rfl, _, rfl, rfl, ?_⟩
        exact q2 _ _ (by rw [dec_intV, decide_eq_true g1, Bool.true_and]) ⟨_, _, _, rfl⟩
      · exact q2 _ _ (by rw [decide_eq_false g1, Bool.false_and]) ⟨_, _, _, rfl⟩
    intro D hD
    refine ⟨D, L.map fun l => (decide (l.1 < h) && !decide (l.1 = ho)), rfl, SqL.of ?_, ?_⟩
    · rw [upd_same, List.map_map]; rfl
    have e : othersBL h ho L = (L.map fun l => (decide (l.1 < h) && !decide (l.1 = ho))).all id := by
      unfold othersBL; rw [List.all_map]; rfl
    rw [← e]
    exact kk _ (same_upd hD)
def sp_is_cover (K : PySem.W.Frag) : Sp := fun vs H Q _ => ∃ (h : Int) (p : Addr) (r : Option Row), vs = [.int h, .ref p] ∧ RowAt K H p r ∧ ∀ H', Same H H' → Q (.bl (isCoverB h r)) H'
theorem sc_is_cover : FnScope ["houses", "cover", "house", "kind", "by", "most", "lines"] ["houses", "cover"] (defScope s_is_cover) := ⟨rfl, rfl, rfl, by decide +kernel, rfl, by decide +kernel, by decide +kernel⟩
set_option maxHeartbeats 4000000 in
theorem ok_is_cover (T : Txt w K mg A) : FnOk P w K mg base CX0 2 A.a_is_cover A.f_is_cover ["houses", "cover"] (sp_is_cover K) := by
  have nd := sc_is_cover.nd
  have G_are_others := ok_are_others (P := P) (w := w) (base := base) T
  have G_is_lines := ok_is_lines (P := P) (w := w) (base := base) T
  have G_is_measure := ok_is_measure (P := P) (w := w) (base := base) T
  refine T.F_is_cover.ok sc_is_cover (fun vs H Q E h => ?_) (fun cdv Ar outer s H vs Q E hr h => ?_)
  · obtain ⟨h, p, r, rfl, _⟩ := h; rfl
  · skip
    obtain ⟨h, p, r, rfl, hr', kk⟩ := h
    refine PSs.rd (pss_cons (ps_if (pt_cmpR op_ne (pe_callB call_len_seq rfl T.b_len PySem.boot_len (pa_cons (pvI 1) pa_nil)) pe_int (nomark _))
      (pss_one (ps_ret pe_bl))
      pss_nil)
    (pss_cons (ps_asg (pvI 1) (pg_tup (n := 5) rfl (pgs_cons (pg_name (i := 2) nd rfl (Or.inl rfl)) (pgs_cons (pg_name (i := 3) nd rfl (Or.inl rfl)) (pgs_cons (pg_name (i := 4) nd rfl (Or.inl rfl)) (pgs_cons (pg_name (i := 5) nd rfl (Or.inl rfl)) (pgs_cons (pg_name (i := 6) nd rfl (Or.inl rfl)) pgs_nil)))))))
    (pss_cons (ps_if (pt_not (pt_chain op_leI op_ltI pe_int (pvI 2) (pvI 0)))
      (pss_one (ps_ret pe_bl))
      pss_nil)
    (pss_one (ps_ret (pe_and (pe_call (G_is_measure.mono (by decide)) hr rfl T.m_is_measure T.k_is_measure T.d_is_measure .nil pass0 (pa_cons (pvI 3) (pa_cons (pvI 4) (pa_cons (pvI 5) pa_nil)))) (pe_and (pe_call (G_is_lines.mono (by decide)) hr rfl T.m_is_lines T.k_is_lines T.d_is_lines .nil pass0 (pa_cons (pvI 6) pa_nil)) (pe_one (pe_call (G_are_others.mono (by decide)) hr rfl T.m_are_others T.k_are_others T.d_are_others .nil pass0 (pa_cons (pvI 0) (pa_cons (pvI 2) (pa_cons (pvI 6) pa_nil)))))))))))) ?_
    try dsimp only [L2.cxOf, L2.Cx.nox]
    cases r with
    | none =>
      refine byC fun hG => ?_
      obtain ⟨xs, hx, h5, _⟩ := hr'
      refine hG ?_
      refine ⟨_, rfl, p, xs, rfl, .inr hx, rfl, _, rfl, ?_⟩
      rw [dec_intV]
      exact iteND (fun _ => kk H (Same.refl _)) (fun e => absurd (by omega) h5)
    | some r =>
      refine byC fun hG => ?_
      obtain ⟨ho, k, b, m, L⟩ := r
      obtain ⟨lp, hp, hL, hl⟩ := hr'
      refine hG ?_
      refine ⟨_, rfl, p, _, rfl, .inr hp, rfl, _, rfl, iteF' (by rfl) ?_⟩
      refine ⟨_, rfl, p, _, rfl, hp, rfl, _, _, rfl, _, _, rfl, _, _, rfl, _, _, rfl, _, _, rfl, rfl, ?_⟩
      have out : ∀ H', Same H H' → isCoverB h (some (ho, k, b, m, L)) = false → Q (.bl false) H' := fun H' s e => by rw [← e]; exact kk H' s
      refine ⟨_, rfl, _, _, rfl, rfl, _, rfl, iteD (fun g1 => ?_) (fun g1 => ?_)⟩
      case refine_2 => exact ⟨_, rfl, out H (Same.refl _) (by rw [isCoverB_some, decide_eq_false (fun z => g1 z.1), Bool.false_and])⟩
      refine ⟨_, rfl, _, _, rfl, rfl, _, rfl, iteND (fun g2 => ?_) (fun g2 => ?_)⟩
      · exact out H (Same.refl _) (by rw [isCoverB_some, decide_eq_false (fun z => g2 z.2), Bool.false_and])
      have e0 : isCoverB h (some (ho, k, b, m, L)) = (measB k b m && (isLinesB L && othersBL h ho L)) := by
        rw [isCoverB_some, decide_eq_true ⟨g1, g2⟩, Bool.true_and]
      rw [e0] at kk
      refine ⟨_, rfl, _, rfl, _, rfl, k, b, m, rfl, _, rfl, iteB (fun e1 => ?_) (fun e1 => ?_)⟩
      case refine_2 => rw [e1, Bool.false_and] at kk; exact kk H (Same.refl _)
      rw [e1, Bool.true_and] at kk
      refine ⟨_, rfl, lp, L, rfl, hL, by omega, fun H1 s1 => ⟨_, rfl, iteB (fun e2 => ?_) (fun e2 => ?_)⟩⟩
      case refine_2 => rw [e2, Bool.false_and] at kk; exact kk H1 s1
      rw [e2, Bool.true_and] at kk
      exact ⟨_, rfl, _, rfl, _, rfl, h, ho, lp, L, rfl, hL.same s1, by omega, fun H2 s2 => kk H2 (s1.trans s2)⟩
def sp_wish (K : PySem.W.Frag) : Sp := fun vs H Q _ => ∃ (k : Str) (b r : Int), vs = [.str k, .int b, .int r] ∧ (-(2 ^ 64) < r ∧ r < 2 ^ 64) ∧ Q (.int (wishZ k b r)) H
theorem sc_wish : FnScope ["kind", "by", "reach"] ["kind", "by", "reach"] (defScope s_wish) := ⟨rfl, rfl, rfl, by decide +kernel, rfl, by decide +kernel, by decide +kernel⟩
set_option maxHeartbeats 4000000 in
theorem ok_wish (T : Txt w K mg A) : FnOk P w K mg base CX0 1 A.a_wish A.f_wish ["kind", "by", "reach"] (sp_wish K) := by
  have nd := sc_wish.nd
  refine T.F_wish.ok sc_wish (fun vs H Q E h => ?_) (fun cdv Ar outer s H vs Q E hr h => ?_)
  · obtain ⟨k, b, r, rfl, _⟩ := h; rfl
  · skip
    obtain ⟨k, b, r, rfl, hr1, kk⟩ := h
    refine PSs.rd (pss_cons (ps_if (pt_cmpR op_eq (pvI 0) pe_str (nomark _))
      (pss_one (ps_ret (pe_op op_fdivI (pe_op op_mulI (pvI 2) (pvI 1)) pe_int)))
      pss_nil)
    (pss_one (ps_ret (pe_callB (call_max2 rfl) rfl T.b_max boot_max (pa_cons pe_int (pa_cons (pe_op op_subI (pvI 2) (pvI 1)) pa_nil)))))) ?_
    try dsimp only [L2.cxOf, L2.Cx.nox]
    refine ⟨_, rfl, rfl, _, rfl, ?_⟩
    rw [dec_strV]
    unfold wishZ at kk
    refine iteD (fun e => ?_) (fun e => ?_)
    · rw [if_pos e] at kk
      exact ⟨_, rfl, _, rfl, _, _, rfl, rfl, .inl hr1, _, _, rfl, rfl, cdiv, kk⟩
    · rw [if_neg e] at kk
      exact ⟨_, rfl, _, rfl, _, _, rfl, rfl, 0, _, rfl, kk⟩
def sp_take (K : PySem.W.Frag) : Sp := fun vs H Q _ => ∃ (k : Str) (b m r : Int), vs = [.str k, .int b, .int m, .int r] ∧ measB k b m = true ∧ 0 ≤ r ∧ r ≤ 99999 ∧ Q (.int (takeZ k b m r)) H
theorem sc_take : FnScope ["kind", "by", "most", "reach"] ["kind", "by", "most", "reach"] (defScope s_take) := ⟨rfl, rfl, rfl, by decide +kernel, rfl, by decide +kernel, by decide +kernel⟩
set_option maxHeartbeats 4000000 in
theorem ok_take (T : Txt w K mg A) : FnOk P w K mg base CX0 2 A.a_take A.f_take ["kind", "by", "most", "reach"] (sp_take K) := by
  have nd := sc_take.nd
  have G_is_measure := ok_is_measure (P := P) (w := w) (base := base) T
  have G_wish := ok_wish (P := P) (w := w) (base := base) T
  refine T.F_take.ok sc_take (fun vs H Q E h => ?_) (fun cdv Ar outer s H vs Q E hr h => ?_)
  · obtain ⟨k, b, m, r, rfl, _⟩ := h; rfl
  · skip
    obtain ⟨k, b, m, r, rfl, hm, h0, h9, kk⟩ := h
    refine PSs.rd (pss_cons (ps_if (pt_not (pt_truth (pe_call (G_is_measure.mono (by decide)) hr rfl T.m_is_measure T.k_is_measure T.d_is_measure .nil pass0 (pa_cons (pvI 0) (pa_cons (pvI 1) (pa_cons (pvI 2) pa_nil)))) (fun _ => rfl)))
      (pss_one ps_never)
      pss_nil)
    (pss_cons (ps_if (pt_not (pt_chain op_leI op_leI pe_int (pvI 3) (pe_globI rfl T.c_MOST_REACH)))
      (pss_one ps_never)
      pss_nil)
    (pss_one (ps_ret (pe_callB (call_min2 rfl) rfl T.b_min boot_min (pa_cons (pvI 2) (pa_cons (pe_call (G_wish.mono (by decide)) hr rfl T.m_wish T.k_wish T.d_wish .nil pass0 (pa_cons (pvI 0) (pa_cons (pvI 1) (pa_cons (pvI 3) pa_nil)))) pa_nil))))))) ?_
    try dsimp only [L2.cxOf, L2.Cx.nox]
    refine ⟨_, rfl, _, rfl, _, rfl, k, b, m, rfl, _, rfl, ?_⟩
    rw [hm]
    refine iteF ?_
    refine ⟨_, rfl, _, _, rfl, rfl, _, rfl, iteD (fun _ => ?_) (fun h => absurd h0 h)⟩
    refine ⟨_, _, rfl, rfl, _, rfl, iteND (fun h => absurd h9 h) (fun _ => ?_)⟩
    exact ⟨_, rfl, _, rfl, _, rfl, _, rfl, k, b, r, rfl, ⟨by omega, by omega⟩, m, _, rfl, kk⟩
def sp_require_houses (K : PySem.W.Frag) : Sp := fun vs H Q _ => ∃ h : Nat, vs = [.int h] ∧ 1 ≤ h ∧ h ≤ 6 ∧ Q .non H
theorem sc_require_houses : FnScope ["houses"] ["houses"] (defScope s_require_houses) := ⟨rfl, rfl, rfl, by decide +kernel, rfl, by decide +kernel, by decide +kernel⟩
set_option maxHeartbeats 4000000 in
theorem ok_require_houses (T : Txt w K mg A) : FnOk P w K mg base CX0 1 A.a_require_houses A.f_require_houses ["houses"] (sp_require_houses K) := by
  have nd := sc_require_houses.nd
  refine T.F_require_houses.ok sc_require_houses (fun vs H Q E h => ?_) (fun cdv Ar outer s H vs Q E hr h => ?_)
  · obtain ⟨h, rfl, _⟩ := h; rfl
  · skip
    obtain ⟨h, rfl, h1, h6, kk⟩ := h
    refine PSs.rd (pss_one (ps_if (pt_not (pt_chain op_leI op_leI pe_int (pvI 0) (pe_op op_addI (pe_globI rfl T.c_LAST_HOUSE) pe_int)))
      (pss_one ps_never)
      pss_nil)) ?_
    try dsimp only [L2.cxOf, L2.Cx.nox]
    refine ⟨_, rfl, _, _, rfl, rfl, _, rfl, iteD (fun _ => ?_) (fun h => absurd (by omega) h)⟩
    exact ⟨_, _, rfl, rfl, _, _, rfl, rfl, _, rfl, iteND (fun h => absurd (by omega) h) (fun _ => kk)⟩
def sp_require_house (K : PySem.W.Frag) (A : Adr) : Sp := fun vs H Q E => ∃ (h j : Int), vs = [.int h, .int j] ∧ h.natAbs < 2 ^ 100 ∧ j.natAbs < 2 ^ 100 ∧ (0 ≤ j → j < h → Q .non H) ∧ (¬ (0 ≤ j ∧ j < h) → E (.ref A.c_NoHouse) none H)
theorem sc_require_house : FnScope ["houses", "house"] ["houses", "house"] (defScope s_require_house) := ⟨rfl, rfl, rfl, by decide +kernel, rfl, by decide +kernel, by decide +kernel⟩
set_option maxHeartbeats 4000000 in
theorem ok_require_house (T : Txt w K mg A) : FnOk P w K mg base (CXW P w) 1 A.a_require_house A.f_require_house ["houses", "house"] (sp_require_house K A) := by
  have nd := sc_require_house.nd
  refine T.F_require_house.okW sc_require_house (fun vs H Q E h => ?_) (fun cdv Ar outer s H vs Q E hr h => ?_)
  · obtain ⟨h, j, rfl, _⟩ := h; rfl
  · skip
    obtain ⟨h, j, rfl, hh, hj, kk, ee⟩ := h
    have a0 : (Str.empty ++ ("there is no house " : Str)).length ≤ 18 := by decide +kernel
    have a1 := fs_len (i := j) hj a0 (by decide)
    have a2 : ((Str.empty ++ ("there is no house " : Str)) ++ (toString j : String) ++ (" among " : Str)).length ≤ 126 := by
      rw [str_app_len]
      have : (" among " : Str).length = 7 := by decide +kernel
      have := a1.2
      omega
    have a3 := fs_len (i := h) hh a2 (by decide)
    have z1 : (18 : Nat) ≤ sizeLine := by decide
    have z2 : (126 : Nat) ≤ sizeLine := by decide
    refine PSs.rd (pss_one (ps_if (pt_not (pt_chain op_leI op_ltI pe_int (pvI 1) (pvI 0)))
      (pss_one (ps_raise flies rfl rfl T.mc_NoHouse T.x_NoHouse PySem.F.excBase_ValueError (pa_cons (pe_fs (pj_str (pj_int (pvI 1) (pj_str (pj_int (pvI 0) pj_nil))))) pa_nil)))
      pss_nil)) ?_
    refine ⟨_, rfl, _, _, rfl, rfl, _, rfl, iteD (fun h0 => ?_) (fun h0 => ?_)⟩
    · refine ⟨_, rfl, _, _, rfl, rfl, _, rfl, iteND (fun h1 => ?_) (fun h1 => kk h0 h1)⟩
      exact ⟨Nat.le_trans a0 z1, _, rfl, j, rfl, fs_log hj, a1.1, Nat.le_trans a2 z2, _, rfl, h, rfl, fs_log hh, a3.1, a3.1, by show 1 ≤ sizeLine; decide, ee fun z => h1 z.2⟩
    · refine ⟨_, rfl, iteT ?_⟩
      exact ⟨Nat.le_trans a0 z1, _, rfl, j, rfl, fs_log hj, a1.1, Nat.le_trans a2 z2, _, rfl, h, rfl, fs_log hh, a3.1, a3.1, by show 1 ≤ sizeLine; decide, ee fun z => h0 z.1⟩
def sp_require_covers (K : PySem.W.Frag) : Sp := fun vs H Q _ => ∃ (h : Nat) (cv : Addr) (us : List V) (cs : List Row), vs = [.int h, .ref cv] ∧ h ≤ 6 ∧ SqL K H cv us ∧ CovsAt K H us cs ∧ cs.length ≤ 10 ∧ (∀ c ∈ cs, GoodC h c) ∧ ∀ H', Same H H' → Q .non H'
theorem sc_require_covers : FnScope ["houses", "covers", "number", "cover"] ["houses", "covers"] (defScope s_require_covers) := ⟨rfl, rfl, rfl, by decide +kernel, rfl, by decide +kernel, by decide +kernel⟩
set_option maxHeartbeats 4000000 in
theorem ok_require_covers (T : Txt w K mg A) : FnOk P w K mg base CX0 3 A.a_require_covers A.f_require_covers ["houses", "covers"] (sp_require_covers K) := by
  have nd := sc_require_covers.nd
  have G_is_cover := ok_is_cover (P := P) (w := w) (base := base) T
  refine T.F_require_covers.ok sc_require_covers (fun vs H Q E h => ?_) (fun cdv Ar outer s H vs Q E hr h => ?_)
  · obtain ⟨h, cv, us, cs, rfl, _⟩ := h; rfl
  · skip
    obtain ⟨h, cv, us, cs, rfl, h6, hcv, hcs, h10, hg, kk⟩ := h
    have hlen := hcs.len
    refine PSs.rd (pss_cons (ps_if (pt_cmpR op_gtI (pe_callB call_len_seq rfl T.b_len PySem.boot_len (pa_cons (pvI 1) pa_nil)) (pe_globI rfl T.c_MOST_COVERS) (nomark _))
      (pss_one ps_never)
      pss_nil)
    (pss_one (ps_for PassesOwn.never rfl (pi_enum rfl T.b_enumerate (pa_cons (pvI 1) pa_nil)) (pg_tup (n := 2) rfl (pgs_cons (pg_name (i := 2) nd rfl (Or.inl rfl)) (pgs_cons (pg_name (i := 3) nd rfl (Or.inl rfl)) pgs_nil)))
      (pss_one (ps_if (pt_not (pt_truth (pe_call (G_is_cover.mono (by decide)) hr rfl T.m_is_cover T.k_is_cover T.d_is_cover .nil pass0 (pa_cons (pvI 0) (pa_cons (pvI 3) pa_nil))) (fun _ => rfl)))
         (pss_one ps_never)
         pss_nil))))) ?_
    try dsimp only [L2.cxOf, L2.Cx.nox]
    refine ⟨_, rfl, cv, us, rfl, .inl hcv, _, _, rfl, rfl, _, rfl, iteD (fun h => absurd h (by omega)) (fun _ => ?_)⟩
    refine ⟨_, rfl, cv, us, rfl, hcv, for_enum (xs := us) (fun i σ H' => Same H H' ∧ ∃ n c, σ = [some (.int h), some (.ref cv), n, c]) ⟨Same.refl H, none, none, rfl⟩ (fun i σ H' _ p => p.1.seq hcv) ?_ ?_⟩
    · intro i x T σ H' hx zz1 hT
      refine byC fun hG => ?_
      obtain ⟨s1, n, c, rfl⟩ := zz1
      obtain ⟨cc, hc, p, rfl, hrow⟩ := (hcs.same (s1.trans (same_upd (o := .tup [.int (i : Nat), x]) hT))).get hx
      refine hG ?_
      refine ⟨T, _, rfl, SqT.of upd_same, rfl, _, _, rfl, _, _, rfl, rfl, ?_⟩
      refine ⟨_, rfl, _, rfl, h, p, some cc, rfl, hrow, fun H2 s2 => ⟨_, rfl, ?_⟩⟩
      rw [(goodC_iff (by omega)).mpr (hg cc (List.mem_of_getElem? hc))]
      exact iteF ⟨(s1.trans (same_upd hT)).trans s2, _, _, rfl⟩
    · intro σ H' zz2
      refine byC fun hG => ?_
      obtain ⟨s1, n, c, rfl⟩ := zz2
      refine hG ?_
      exact kk H' s1
def sp_require_losses (K : PySem.W.Frag) (A : Adr) : Sp := fun vs H Q E => ∃ (h : Nat) (lo : Addr) (ls : List Int), vs = [.int h, .ref lo] ∧ h ≤ 6 ∧ SqL K H lo (ls.map V.int) ∧ ls.length ≤ 1000 ∧ ((ls.length = h ∧ ∀ x ∈ ls, 0 ≤ x ∧ x ≤ 9999) → ∀ H', Same H H' → Q .non H') ∧ (¬ (ls.length = h ∧ ∀ x ∈ ls, 0 ≤ x ∧ x ≤ 9999) → ∀ H', Same H H' → E (.ref A.c_BadLosses) none H')
theorem sc_require_losses : FnScope ["houses", "losses"] ["houses", "losses"] (defScope s_require_losses) := ⟨rfl, rfl, rfl, by decide +kernel, rfl, by decide +kernel, by decide +kernel⟩
set_option maxHeartbeats 4000000 in
theorem ok_require_losses (T : Txt w K mg A) : FnOk P w K mg base (CXW P w) 1 A.a_require_losses A.f_require_losses ["houses", "losses"] (sp_require_losses K A) := by
  have nd := sc_require_losses.nd
  refine T.F_require_losses.okW sc_require_losses (fun vs H Q E h => ?_) (fun cdv Ar outer s H vs Q E hr h => ?_)
  · obtain ⟨h, lo, ls, rfl, _⟩ := h; rfl
  · skip
    obtain ⟨h, lo, ls, rfl, h6, hlo, hl, kk, ee⟩ := h
    refine PSs.rd (pss_cons (ps_if (pt_cmpR op_ne (pe_callB call_len_seq rfl T.b_len PySem.boot_len (pa_cons (pvI 1) pa_nil)) (pvI 0) (nomark _))
      (pss_one (ps_raise flies rfl rfl T.mc_BadLosses T.x_BadLosses PySem.F.excBase_ValueError (pa_cons pe_str pa_nil)))
      pss_nil)
    (pss_one (ps_if (pt_not (pt_truth (pe_callB (call_allB rfl) rfl T.b_all boot_all (pa_cons (lcA (defScope s_require_losses) (pi_list (pvI 1)) (fun _ _ _ _ _ => pgc 1) (fun _ _ _ _ _ => pts_nil) (fun _ _ _ _ _ => (pe_chain op_leI op_leI pe_int (pvI 1) (pe_globI rfl T.c_MOST_LOSS)))) pa_nil)) (fun _ => rfl)))
      (pss_one (ps_raise flies rfl rfl T.mc_BadLosses T.x_BadLosses PySem.F.excBase_ValueError (pa_cons (pe_fs (pj_str (pj_int (pe_globI rfl T.c_MOST_LOSS) (pj_str pj_nil)))) pa_nil)))
      pss_nil))) ?_
    refine ⟨_, rfl, lo, _, rfl, .inl hlo, _, rfl, rfl, _, rfl, iteND (fun hne => ?_) (fun heq => ?_)⟩
    · exact ⟨by show 1 ≤ sizeLine; decide, ee (fun z => hne (by rw [List.length_map, z.1])) H (Same.refl _)⟩
    have hlh : ls.length = h := by have := V.int.inj heq; rw [List.length_map] at this; omega
    refine ⟨_, rfl, lo, rfl, ⟨_, hlo⟩, ?_⟩
    refine lc_by (ws := (ls.map fun x => decide (0 ≤ x ∧ x ≤ 9999)).map V.bl) (itOf_list hlo) (fun σ => ∃ x y z, σ = [x, y, z]) ⟨_, _, _, rfl⟩ (by rw [List.length_map, List.length_map, List.length_map]) (Nat.le_of_lt (small_line (by rw [List.length_map]; omega))) ?_ ?_
    · intro i x w σ2 H2 Qt Qf hx hk s2 zz1 q
      refine byC fun hG => ?_
      obtain ⟨a, b, c, rfl⟩ := zz1
      refine hG ?_
      rw [List.getElem?_map] at hx
      refine byC fun hG => ?_
      obtain ⟨z, hz, rfl⟩ := Option.map_eq_some_iff.mp hx
      have hw : w = V.bl (decide (0 ≤ z ∧ z ≤ 9999)) := by
        rw [List.map_map, List.getElem?_map, hz] at hk
        cases hk; rfl
      refine hG ?_
      refine ⟨_, rfl, _, _, rfl, rfl, _, rfl, iteD (fun h0 => ?_) (fun h0 => ?_)⟩
      · refine ⟨_, _, rfl, rfl, ?_⟩
        try dsimp only
        have e : decide (z ≤ 9999) = decide (0 ≤ z ∧ z ≤ 9999) := by
          have h0' : (0 : Int) ≤ z := h0
          simp [h0']
        rw [e, ← hw]
        exact q _ ⟨_, _, _, rfl⟩
      · have e : false = decide (0 ≤ z ∧ z ≤ 9999) := by
          have h0' : ¬ (0 : Int) ≤ z := h0
          simp [h0']
        try dsimp only
        rw [e, ← hw]
        exact q _ ⟨_, _, _, rfl⟩
    intro D hD
    refine ⟨D, ls.map fun x => decide (0 ≤ x ∧ x ≤ 9999), rfl, SqL.of upd_same, _, rfl, iteNB (fun hf => ?_) (fun ht => ?_)⟩
    · refine ⟨by decide +kernel, 9999, rfl, by decide +kernel, by decide +kernel, by decide +kernel, by decide +kernel, by show 1 ≤ sizeLine; decide, ee (fun z => ?_) _ (same_upd hD)⟩
      have hT : ((ls.map fun x => decide (0 ≤ x ∧ x ≤ 9999)).all id) = true := by
        rw [List.all_map]; exact List.all_eq_true.mpr (fun x hx => decide_eq_true (z.2 x hx))
      rw [hT] at hf
      cases hf
    · refine kk ⟨hlh, fun x hx => ?_⟩ _ (same_upd hD)
      rw [List.all_map] at ht
      exact of_decide_eq_true (List.all_eq_true.mp ht x hx)
def sp_Table___init__ (K : PySem.W.Frag) (A : Adr) : Sp := fun vs H Q E => ∃ (t dx cv lo : Addr) (h : Nat) (us : List V) (cs : List Row) (ls : List Int), vs = [.ref t, .int h, .ref cv, .ref lo] ∧ H t = some (.ins A.c_Table dx []) ∧ SqL K H cv us ∧ CovsAt K H us cs ∧ SqL K H lo (ls.map V.int) ∧ (1 ≤ h ∧ h ≤ 6 ∧ cs.length ≤ 10 ∧ (∀ c ∈ cs, GoodC h c) ∧ ls.length ≤ 1000) ∧
  ((ls.length = h ∧ ∀ x ∈ ls, 0 ≤ x ∧ x ≤ 9999) → ∀ H', (∀ b o, b ≠ t → H b = some o → H' b = some o) → TabAt A.c_Table K H' t h cs ls → Q .non H') ∧ (¬ (ls.length = h ∧ ∀ x ∈ ls, 0 ≤ x ∧ x ≤ 9999) → ∀ H', (∀ b o, b ≠ t → H b = some o → H' b = some o) → E (.ref A.c_BadLosses) none H')
theorem sc_Table___init__ : FnScope ["self", "houses", "covers", "losses"] ["self", "houses", "covers", "losses"] (defScope s_Table___init__) := ⟨rfl, rfl, rfl, by decide +kernel, rfl, by decide +kernel, by decide +kernel⟩
set_option maxHeartbeats 4000000 in
theorem ok_Table___init__ (T : Txt w K mg A) : FnOk P w K mg base (CXW P w) 4 A.a_Table___init__ A.f_Table___init__ ["self", "houses", "covers", "losses"] (sp_Table___init__ K A) := by
  have nd := sc_Table___init__.nd
  have G_bearers := ok_bearers (P := P) (w := w) (base := base) T
  have G_require_covers := ok_require_covers (P := P) (w := w) (base := base) T
  have G_require_houses := ok_require_houses (P := P) (w := w) (base := base) T
  have G_require_losses := ok_require_losses (P := P) (w := w) (base := base) T
  refine T.F_Table___init__.okW sc_Table___init__ (fun vs H Q E h => ?_) (fun cdv Ar outer s H vs Q E hr h => ?_)
  · obtain ⟨t, dx, cv, lo, h, us, cs, ls, rfl, _⟩ := h; rfl
  · skip
    obtain ⟨t, dx, cv, lo, h, us, cs, ls, rfl, ht, hcv, hcs, hlo, ⟨gh1, gh6, g10, gcov, gl⟩, kk', ee⟩ := h
    have hlen := hcs.len
    refine PSs.rd (pss_cons (ps_expr (pe_call (G_require_houses.mono (by decide)) hr rfl T.m_require_houses T.k_require_houses T.d_require_houses .nil pass0 (pa_cons (pvI 1) pa_nil)))
    (pss_cons (ps_expr (pe_call (G_require_covers.mono (by decide)) hr rfl T.m_require_covers T.k_require_covers T.d_require_covers .nil pass0 (pa_cons (pvI 1) (pa_cons (pvI 2) pa_nil))))
    (pss_cons (ps_expr (pe_call (G_require_losses.mono (by decide)) hr rfl T.m_require_losses T.k_require_losses T.d_require_losses .nil (passW flies (fun _ _ h => h)) (pa_cons (pvI 1) (pa_cons (pvI 3) pa_nil))))
    (pss_cons (ps_fld (pvI 0) (pvI 1) rfl)
    (pss_cons (ps_fld (pvI 0) (pe_callTy call_list_of rfl T.b_list boot_ty_list (pa_cons (pvI 2) pa_nil)) rfl)
    (pss_cons (ps_fld (pvI 0) (pe_callTy call_list_of rfl T.b_list boot_ty_list (pa_cons (pvI 3) pa_nil)) rfl)
    (pss_one (ps_fld (pvI 0) (lcA (defScope s_Table___init__) (pi_list (pvI 2)) (fun _ _ _ _ _ => pgc5 1 2 3 4 5) (fun _ _ _ _ _ => pts_nil) (fun _ _ _ _ _ => (pe_call (G_bearers.mono (by decide)) hr rfl T.m_bearers T.k_bearers T.d_bearers .nil pass0 (pa_cons (pvI 5) (pa_cons (pvI 4) pa_nil))))) rfl)))))))) ?_
    refine ⟨_, rfl, h, rfl, gh1, gh6, ?_⟩
    refine ⟨_, rfl, _, rfl, h, cv, us, cs, rfl, gh6, hcv, hcs, g10, gcov, fun H1 s1 => ?_⟩
    refine ⟨_, rfl, _, rfl, h, lo, ls, rfl, gh6, s1.seq hlo, gl, fun hgd H2 s2 => ?_, fun hbd H2 s2 => ee hbd H2 fun b o _ e => (s1.trans s2) b o e⟩
    have g : GoodT h cs ls := ⟨gh1, gh6, g10, gcov, hgd.1, hgd.2⟩
    have kk := kk' hgd
    have s12 := s1.trans s2
    have ht2 := s12 _ _ ht
    -- self.house_count = houses
    refine ⟨_, rfl, _, rfl, t, _, dx, _, rfl, ht2, T.cl_Table, T.na_Table_house_count, by show 0 < 1000; decide, ?_⟩
    -- lists that are no instance stay beside t
    have seqB : ∀ {a : Addr} {xs : List V} {H' : Hp}, SqL K H2 a xs → (∀ b o, b ≠ t → H2 b = some o → H' b = some o) → SqL K H' a xs := fun {a xs H'} hh ss => by
      rcases hh with (hh | ⟨ob, hh⟩) | hh
      · exact .inl (.inl (ss a _ (fun z => by rw [z, ht2] at hh; cases hh) hh))
      · exact .inl (.inr ⟨ob, ss a _ (fun z => by rw [z, ht2] at hh; cases hh) hh⟩)
      · exact .inr hh
    have covB : ∀ {H' : Hp}, (∀ b o, b ≠ t → H2 b = some o → H' b = some o) → CovsAt K H' us cs := fun {H'} ss => CovsAt.but (hcs.same s12) ht2 (fun _ z => by cases z) (fun _ _ z => by cases z) ss
    generalize eH3 : upd H2 t (.ins A.c_Table dx (putF "house_count" (.int h) [])) = H3
    have b3 : ∀ b o, b ≠ t → H2 b = some o → H3 b = some o := fun b o n e => by rw [← eH3, upd_ne n]; exact e
    have ht3 : H3 t = some (.ins A.c_Table dx (putF "house_count" (.int h) [])) := by rw [← eH3, upd_same]
    -- self.cover_rows = list(covers)
    refine ⟨_, rfl, cv, us, rfl, .inl (seqB (s12.seq hcv) b3), fun a ha => ?_⟩
    refine ⟨_, rfl, t, _, dx, _, rfl, (same_upd ha) _ _ ht3, T.cl_Table, T.na_Table_cover_rows, by show 1 < 1000; decide, ?_⟩
    have nat : a ≠ t := fun z => by rw [z, ht3] at ha; cases ha
    generalize eH4 : upd (upd H3 a (.lst us)) t _ = H4
    have b4 : ∀ b o, b ≠ t → H2 b = some o → H4 b = some o := fun b o n e => by rw [← eH4, upd_ne n]; exact (same_upd ha) _ _ (b3 b o n e)
    have ha4 : H4 a = some (.lst us) := by rw [← eH4, upd_ne nat, upd_same]
    have ht4 : H4 t = some (.ins A.c_Table dx (putF "cover_rows" (.ref a) (putF "house_count" (.int h) []))) := by rw [← eH4, upd_same]
    -- self.befallen = list(losses)
    refine ⟨_, rfl, lo, _, rfl, .inl (seqB (s12.seq hlo) b4), fun b hb => ?_⟩
    refine ⟨_, rfl, t, _, dx, _, rfl, (same_upd hb) _ _ ht4, T.cl_Table, T.na_Table_befallen, by show 2 < 1000; decide, ?_⟩
    have nbt : b ≠ t := fun z => by rw [z, ht4] at hb; cases hb
    have nba : a ≠ b := fun z => by rw [← z, ha4] at hb; cases hb
    generalize eH5 : upd (upd H4 b (.lst (ls.map V.int))) t _ = H5
    have b5 : ∀ b o, b ≠ t → H2 b = some o → H5 b = some o := fun b o n e => by rw [← eH5, upd_ne n]; exact (same_upd hb) _ _ (b4 b o n e)
    have ha5 : H5 a = some (.lst us) := by rw [← eH5, upd_ne nat, upd_ne nba]; exact ha4
    have hb5 : H5 b = some (.lst (ls.map V.int)) := by rw [← eH5, upd_ne nbt, upd_same]
    have ht5 : H5 t = some (.ins A.c_Table dx (putF "befallen" (.ref b) (putF "cover_rows" (.ref a) (putF "house_count" (.int h) [])))) := by rw [← eH5, upd_same]
    -- self.crown_bearers = [..]
    have hcv5 := seqB (s12.seq hcv) b5
    have hcs5 : CovsAt K H5 us cs := covB b5
    refine ⟨_, rfl, cv, rfl, ⟨us, hcv5⟩, ?_⟩
    refine lc_growD (itG_of (itOf_list hcv5)) (fun σ => ∃ x0 x1 x2 x3 x4 x5 x6, σ = [x0, x1, x2, x3, x4, x5, x6])
      (fun D i ys H' => ∃ qs : List Addr, ys = qs.map V.ref ∧ qs.length = i ∧ (∀ q ∈ qs, q ≠ D) ∧ ∀ (k : Nat) (cc : Row) (q : Addr), cs[k]? = some cc → qs[k]? = some q → H' q = some (.lst ((bearersL cc.2.2.2.2 cc.2.2.2.1.toNat).map V.int)))
      ⟨_, _, _, _, _, _, _, rfl⟩ (Nat.le_of_lt (small_line (by omega))) ?_ ?_ ?_ ?_ ?_
    · exact fun D H' => ⟨[], rfl, rfl, fun q hq => by simp at hq, fun k cc q _ e => by simp at e⟩
    · intro D i ys H' H6 zz1 s6
      refine byC fun hG => ?_
      obtain ⟨qs, e1, e2, e3, e4⟩ := zz1
      refine hG ?_
      exact ⟨qs, e1, e2, e3, fun k cc q z1 z2 => s6 _ _ (e4 k cc q z1 z2)⟩
    · intro D i ys zs H' o hD zz2
      refine byC fun hG => ?_
      obtain ⟨qs, e1, e2, e3, e4⟩ := zz2
      refine hG ?_
      exact ⟨qs, e1, e2, e3, fun k cc q z1 z2 => by rw [upd_ne (e3 q (List.mem_of_getElem? z2))]; exact e4 k cc q z1 z2⟩
    · intro D i x ys σ2 H' Qt Qf hi hyl hx hD s6 zz3 zz4 q
      refine byC fun hG => ?_
      obtain ⟨x0, x1, x2, x3, x4, x5, x6, rfl⟩ := zz3
      obtain ⟨qs, rfl, e2, e3, e4⟩ := zz4
      obtain ⟨cc, hc, p, rfl, lp, hrow, hL, hLl⟩ := (hcs5.same s6).get hx
      have gc := g.cov cc (List.mem_of_getElem? hc)
      have gm := gc.most
      have gl4 := gc.gl.l4
      refine hG ?_
      refine ⟨p, _, rfl, hrow, rfl, _, _, rfl, _, _, rfl, _, _, rfl, _, _, rfl, _, _, rfl, rfl, ?_⟩
      have em : cc.2.2.2.1 = ((cc.2.2.2.1.toNat : Nat) : Int) := by omega
      refine ⟨_, rfl, _, rfl, lp, cc.2.2.2.1.toNat, cc.2.2.2.2, by show [V.ref lp, V.int _] = _; rw [← em], hL, gc.gl.l1, by omega, gc.gl.small, by omega, fun r H6 hr6 s7 e6 => ?_⟩
      refine q _ _ _ ⟨_, _, _, _, _, _, _, rfl⟩ s7 ⟨qs ++ [r], by rw [List.map_append]; rfl, by rw [List.length_append, e2]; rfl, ?_, ?_⟩
      · intro q' hq'
        rcases List.mem_append.mp hq' with hq' | hq'
        · exact e3 q' hq'
        · rw [List.mem_singleton.mp hq']; exact fun z => by rw [z, hD] at hr6; cases hr6
      · intro k c' q' z1 z2
        by_cases hk : k < qs.length
        · rw [List.getElem?_append_left hk] at z2; exact s7 _ _ (e4 k c' q' z1 z2)
        · have hlt := get_lt z2
          rw [List.length_append, List.length_singleton] at hlt
          have ek : k = i := by omega
          subst ek
          rw [List.getElem?_append_right (by omega), e2, Nat.sub_self] at z2
          simp at z2; subst z2
          rw [hc] at z1; cases z1
          exact e6
    · intro D H6 ys hD s6 hD6 hyl zz5
      refine byC fun hG => ?_
      obtain ⟨qs, rfl, e2, e3, e4⟩ := zz5
      have nDt : D ≠ t := fun z => by rw [z, ht5] at hD; cases hD
      refine hG ?_
      refine ⟨_, rfl, t, _, dx, _, rfl, s6 _ _ ht5, T.cl_Table, T.na_Table_crown_bearers, by show 3 < 1000; decide, ?_⟩
      refine kk _ (fun z o n e => by rw [upd_ne n]; exact s6 _ _ (b5 z o n (s12 _ _ e))) ⟨⟨dx, a, b, D, us, qs, upd_same, ?_, ?_, ?_, ?_, by omega, fun k cc q z1 z2 => ?_⟩, g⟩
      · rw [upd_ne nat]; exact s6 _ _ ha5
      · exact CovsAt.but (hcs5.same s6) (s6 _ _ ht5) (fun _ z => by cases z) (fun _ _ z => by cases z) fun z o n e => by rw [upd_ne n]; exact e
      · rw [upd_ne nbt]; exact s6 _ _ hb5
      · rw [upd_ne nDt]; exact hD6
      · have := e4 k cc q z1 z2
        rw [upd_ne (ne_of this (s6 _ _ ht5) (by intro z; cases z))]; exact this
def sp_Table_houses (K : PySem.W.Frag) (A : Adr) : Sp := fun vs H Q _ => ∃ (t : Addr) (h : Nat) (cs : List Row) (ls : List Int), vs = [.ref t] ∧ TabAt A.c_Table K H t h cs ls ∧ Q (.int h) H
theorem sc_Table_houses : FnScope ["self"] ["self"] (defScope s_Table_houses) := ⟨rfl, rfl, rfl, by decide +kernel, rfl, by decide +kernel, by decide +kernel⟩
set_option maxHeartbeats 4000000 in
theorem ok_Table_houses (T : Txt w K mg A) : FnOk P w K mg base CX0 1 A.a_Table_houses A.f_Table_houses ["self"] (sp_Table_houses K A) := by
  have nd := sc_Table_houses.nd
  refine T.F_Table_houses.ok sc_Table_houses (fun vs H Q E h => ?_) (fun cdv Ar outer s H vs Q E hr h => ?_)
  · obtain ⟨t, h, cs, ls, rfl, _⟩ := h; rfl
  · skip
    obtain ⟨t, h, cs, ls, rfl, hT, kk⟩ := h
    obtain ⟨dx, a, b, c, us, qs, ht, ha, hcs, hb, hc, hq, hqs⟩ := hT.ex
    refine PSs.rd (pss_one (ps_ret (pe_fld (pvI 0) rfl))) ?_
    try dsimp only [L2.cxOf, L2.Cx.nox]
    exact ⟨_, rfl, t, _, dx, _, _, rfl, ht, T.cl_Table, T.na_Table_house_count, tabF_houses, kk⟩
def sp_Table_covers (K : PySem.W.Frag) (A : Adr) : Sp := fun vs H Q _ => ∃ (t : Addr) (h : Nat) (cs : List Row) (ls : List Int), vs = [.ref t] ∧ TabAt A.c_Table K H t h cs ls ∧ ∀ r us H', H r = none → Same H H' → H' r = some (.lst us) → CovsAt K H' us cs → Q (.ref r) H'
theorem sc_Table_covers : FnScope ["self"] ["self"] (defScope s_Table_covers) := ⟨rfl, rfl, rfl, by decide +kernel, rfl, by decide +kernel, by decide +kernel⟩
set_option maxHeartbeats 4000000 in
theorem ok_Table_covers (T : Txt w K mg A) : FnOk P w K mg base CX0 1 A.a_Table_covers A.f_Table_covers ["self"] (sp_Table_covers K A) := by
  have nd := sc_Table_covers.nd
  refine T.F_Table_covers.ok sc_Table_covers (fun vs H Q E h => ?_) (fun cdv Ar outer s H vs Q E hr h => ?_)
  · obtain ⟨t, h, cs, ls, rfl, _⟩ := h; rfl
  · skip
    obtain ⟨t, h, cs, ls, rfl, hT, kk⟩ := h
    obtain ⟨dx, a, b, c, us, qs, ht, ha, hcs, hb, hc, hq, hqs⟩ := hT.ex
    refine PSs.rd (pss_one (ps_ret (pe_callTy call_list_of rfl T.b_list boot_ty_list (pa_cons (pe_fld (pvI 0) rfl) pa_nil)))) ?_
    try dsimp only [L2.cxOf, L2.Cx.nox]
    refine ⟨_, rfl, t, _, dx, _, _, rfl, ht, T.cl_Table, T.na_Table_cover_rows, tabF_covers, a, _, rfl, .inl (SqL.of ha), fun r hr => ?_⟩
    exact kk r us _ hr (same_upd hr) upd_same (hcs.same (same_upd hr))
def sp_Table_losses (K : PySem.W.Frag) (A : Adr) : Sp := fun vs H Q _ => ∃ (t : Addr) (h : Nat) (cs : List Row) (ls : List Int), vs = [.ref t] ∧ TabAt A.c_Table K H t h cs ls ∧ ∀ r H', H r = none → Same H H' → H' r = some (.lst (ls.map V.int)) → Q (.ref r) H'
theorem sc_Table_losses : FnScope ["self"] ["self"] (defScope s_Table_losses) := ⟨rfl, rfl, rfl, by decide +kernel, rfl, by decide +kernel, by decide +kernel⟩
set_option maxHeartbeats 4000000 in
theorem ok_Table_losses (T : Txt w K mg A) : FnOk P w K mg base CX0 1 A.a_Table_losses A.f_Table_losses ["self"] (sp_Table_losses K A) := by
  have nd := sc_Table_losses.nd
  refine T.F_Table_losses.ok sc_Table_losses (fun vs H Q E h => ?_) (fun cdv Ar outer s H vs Q E hr h => ?_)
  · obtain ⟨t, h, cs, ls, rfl, _⟩ := h; rfl
  · skip
    obtain ⟨t, h, cs, ls, rfl, hT, kk⟩ := h
    obtain ⟨dx, a, b, c, us, qs, ht, ha, hcs, hb, hc, hq, hqs⟩ := hT.ex
    refine PSs.rd (pss_one (ps_ret (pe_callTy call_list_of rfl T.b_list boot_ty_list (pa_cons (pe_fld (pvI 0) rfl) pa_nil)))) ?_
    try dsimp only [L2.cxOf, L2.Cx.nox]
    refine ⟨_, rfl, t, _, dx, _, _, rfl, ht, T.cl_Table, T.na_Table_befallen, tabF_losses, b, _, rfl, .inl (SqL.of hb), fun r hr => ?_⟩
    exact kk r _ hr (same_upd hr) upd_same
def sp_Table_mosts (K : PySem.W.Frag) (A : Adr) : Sp := fun vs H Q _ => ∃ (t : Addr) (h : Nat) (cs : List Row) (ls : List Int), vs = [.ref t] ∧ TabAt A.c_Table K H t h cs ls ∧ ∀ r H', H r = none → Same H H' → H' r = some (.lst ((cs.map fun c => c.2.2.2.1).map V.int)) → Q (.ref r) H'
theorem sc_Table_mosts : FnScope ["self"] ["self"] (defScope s_Table_mosts) := ⟨rfl, rfl, rfl, by decide +kernel, rfl, by decide +kernel, by decide +kernel⟩
set_option maxHeartbeats 4000000 in
theorem ok_Table_mosts (T : Txt w K mg A) : FnOk P w K mg base CX0 1 A.a_Table_mosts A.f_Table_mosts ["self"] (sp_Table_mosts K A) := by
  have nd := sc_Table_mosts.nd
  refine T.F_Table_mosts.ok sc_Table_mosts (fun vs H Q E h => ?_) (fun cdv Ar outer s H vs Q E hr h => ?_)
  · obtain ⟨t, h, cs, ls, rfl, _⟩ := h; rfl
  · skip
    obtain ⟨t, h, cs, ls, rfl, hT, kk⟩ := h
    obtain ⟨dx, a, b, c, us, qs, ht, ha, hcs, hb, hc, hq, hqs⟩ := hT.ex
    have hlen := hcs.len
    have g10 := hT.good.c10
    refine PSs.rd (pss_one (ps_ret (lcA (defScope s_Table_mosts) (pi_list (pe_fld (pvI 0) rfl)) (fun _ _ _ _ _ => pgc5 1 2 3 4 5) (fun _ _ _ _ _ => pts_nil) (fun _ _ _ _ _ => (pvI 4))))) ?_
    try dsimp only [L2.cxOf, L2.Cx.nox]
    refine ⟨_, rfl, t, _, dx, _, _, rfl, ht, T.cl_Table, T.na_Table_cover_rows, tabF_covers, a, rfl, ⟨us, SqL.of ha⟩, ?_⟩
    refine lc_by (ws := (cs.map fun c => c.2.2.2.1).map V.int) (itOf_list (SqL.of ha)) (fun σ => ∃ x0 x1 x2 x3 x4 x5, σ = [x0, x1, x2, x3, x4, x5]) ⟨_, _, _, _, _, _, rfl⟩ (by rw [List.length_map, List.length_map]; exact hlen.symm) (Nat.le_of_lt (small_line (by omega))) ?_ ?_
    · intro i x w σ2 H2 Qt Qf hx hk s2 zz1 q
      refine byC fun hG => ?_
      obtain ⟨x0, x1, x2, x3, x4, x5, rfl⟩ := zz1
      obtain ⟨cc, hc', p, rfl, lp, hrow, hL, hLl⟩ := (hcs.same s2).get hx
      refine hG ?_
      rw [List.map_map, List.getElem?_map, hc'] at hk
      cases hk
      exact ⟨p, _, rfl, hrow, rfl, _, _, rfl, _, _, rfl, _, _, rfl, _, _, rfl, _, _, rfl, rfl, _, rfl, q _ ⟨_, _, _, _, _, _, rfl⟩⟩
    intro r hr
    exact kk r _ hr (same_upd hr) upd_same
def sp_Table_more (K : PySem.W.Frag) (A : Adr) : Sp := fun vs H Q E => ∃ (t : Addr) (h : Nat) (cs : List Row) (ls : List Int) (j k : Int), vs = [.ref t, .int j, .int k] ∧ TabAt A.c_Table K H t h cs ls ∧ j.natAbs < 2 ^ 100 ∧
  (¬ (0 ≤ j ∧ j < h) → ∀ H', Same H H' → E (.ref A.c_NoHouse) none H') ∧ (0 ≤ j → j < h → ¬ (0 ≤ ls.getD j.toNat 0 + k ∧ ls.getD j.toNat 0 + k ≤ 9999) → ∀ H', Same H H' → E (.ref A.c_BadLosses) none H') ∧
  (0 ≤ j → j < h → 0 ≤ ls.getD j.toNat 0 + k ∧ ls.getD j.toNat 0 + k ≤ 9999 → ∀ r H', H r = none → Same H H' → TabAt A.c_Table K H' r h cs (moreL ls j.toNat k) → Q (.ref r) H')
theorem sc_Table_more : FnScope ["self", "house", "crowns", "losses"] ["self", "house", "crowns"] (defScope s_Table_more) := ⟨rfl, rfl, rfl, by decide +kernel, rfl, by decide +kernel, by decide +kernel⟩
set_option maxHeartbeats 4000000 in
theorem ok_Table_more (T : Txt w K mg A) : FnOk P w K mg base (CXW P w) 6 A.a_Table_more A.f_Table_more ["self", "house", "crowns"] (sp_Table_more K A) := by
  have nd := sc_Table_more.nd
  have G_Table___init__ := ok_Table___init__ (P := P) (w := w) (base := base) T
  have G_Table_losses := ok_Table_losses (P := P) (w := w) (base := base) T
  have G_require_house := ok_require_house (P := P) (w := w) (base := base) T
  refine T.F_Table_more.okW sc_Table_more (fun vs H Q E h => ?_) (fun cdv Ar outer s H vs Q E hr h => ?_)
  · obtain ⟨t, h, cs, ls, j, k, rfl, _⟩ := h; rfl
  · skip
    obtain ⟨t, h, cs, ls, j0, k, rfl, hT, hj2, e1, e2, kk⟩ := h
    have g := hT.good
    have gll := g.ll
    have g6 := g.h6
    obtain ⟨dx, a, b, c, us, qs, ht, ha, hcs, hb, hc, hq, hqs⟩ := hT.ex
    refine PSs.rd (pss_cons (ps_expr (pe_call (G_require_house.mono (by decide)) hr rfl T.m_require_house T.k_require_house T.d_require_house .nil (passW flies (fun _ _ h => h)) (pa_cons (pe_fld (pvI 0) rfl) (pa_cons (pvI 1) pa_nil))))
    (pss_cons (ps_set (i := 3) nd rfl (Or.inl rfl) (pe_meth0 (pvI 0) T.cl_Table T.me_Table_losses (G_Table_losses.mono (by decide)) hr T.d_Table_losses .nil pass0))
    (pss_cons (ps_augS (pvI 3) (pvI 1) get_listG (pvI 2) ip_add set_list)
    (pss_one (ps_ret (pe_make T.mk_Table (G_Table___init__.mono (by decide)) hr rfl T.mc_Table T.d_Table___init__ .nil (passW flies (fun _ _ h => h)) (pa_cons (pe_fld (pvI 0) rfl) (pa_cons (pe_fld (pvI 0) rfl) (pa_cons (pvI 3) pa_nil))))))))) ?_
    refine ⟨_, rfl, t, _, dx, _, _, rfl, ht, T.cl_Table, T.na_Table_house_count, tabF_houses, _, rfl, h, j0, rfl, Nat.lt_of_le_of_lt (show ((h : Nat) : Int).natAbs ≤ 6 by omega) (by decide), hj2, fun h0 h1 => ?_, fun hn => e1 hn H (Same.refl _)⟩
    refine byC fun hG => ?_
    obtain ⟨j, rfl⟩ : ∃ j : Nat, j0 = (j : Int) := ⟨j0.toNat, by omega⟩
    have hj : j < h := by omega
    refine hG ?_
    rw [Int.toNat_natCast] at e2 kk
    refine ⟨_, rfl, t, dx, _, rfl, ht, tabF_no (by decide +kernel) (by decide +kernel) (by decide +kernel) (by decide +kernel), t, h, cs, ls, rfl, hT, fun r H1 hr s1 hr1 => ?_⟩
    have hjl : j < ls.length := by omega
    refine ⟨_, rfl, _, rfl, r, _, j, .int (ls.getD j 0), rfl, rfl, SqL.of hr1, ?_, _, rfl, _, _, rfl, rfl, ?_⟩
    · rw [List.getElem?_map, List.getElem?_eq_getElem hjl, Option.map_some, getD_of (List.getElem?_eq_getElem hjl)]
    refine ⟨r, _, _, j, rfl, rfl, hr1, ixN_nat (by rw [List.length_map]; exact hjl), ?_⟩
    have em : (ls.map V.int).set j (.int (ls.getD j 0 + k)) = (moreL ls j k).map V.int := by unfold moreL; rw [List.map_set]
    rw [em]
    have s2 : Same H (upd H1 r (.lst ((moreL ls j k).map V.int))) := upd_same_of s1 hr
    refine ⟨_, rfl, t, _, dx, _, _, rfl, s2 _ _ ht, T.cl_Table, T.na_Table_house_count, tabF_houses, _, rfl, t, _, dx, _, _, rfl, s2 _ _ ht, T.cl_Table, T.na_Table_cover_rows, tabF_covers, _, rfl, fun x dx' hx hdx ndx => ?_⟩
    have m3 := make_pre (o1 := .ins A.c_Table dx' []) (o2 := .own x) hx hdx
    have s3 := s2.trans m3
    refine ⟨x, dx', a, r, h, us, cs, moreL ls j k, rfl, upd_same, SqL.of (s3 _ _ ha), hcs.same s3, SqL.of (m3 _ _ upd_same), ⟨g.h1, g.h6, g.c10, g.cov, by rw [moreL_len]; omega⟩, fun hgd H4 s4' hT4 => ⟨rfl, ?_⟩, fun hbd H4 s4' => ?_⟩
    · have hm : ls.getD j 0 + k ∈ moreL ls j k := by unfold moreL; exact List.mem_iff_getElem?.mpr ⟨j, by rw [List.getElem?_set, if_pos rfl, if_pos hjl]⟩
      exact kk h0 h1 (hgd.2 _ hm) x H4 (s2.free hx) (s2.trans (make_same hx hdx s4')) hT4
    · refine e2 h0 h1 (fun z => hbd ⟨by rw [moreL_len]; exact gll, fun y hy => ?_⟩) H4 (s2.trans (make_same hx hdx s4'))
      unfold moreL at hy
      rcases List.mem_or_eq_of_mem_set hy with hy | rfl
      · exact g.lb y hy
      · exact z
def sp_nought (K : PySem.W.Frag) (A : Adr) : Sp := fun vs H Q _ => ∃ (t : Addr) (h : Nat) (cs : List Row) (ls : List Int), vs = [.ref t] ∧ TabAt A.c_Table K H t h cs ls ∧ ∀ r H', H r = none → Same H H' → H' r = some (.lst ((List.replicate cs.length (0 : Int)).map V.int)) → Q (.ref r) H'
theorem sc_nought : FnScope ["table"] ["table"] (defScope s_nought) := ⟨rfl, rfl, rfl, by decide +kernel, rfl, by decide +kernel, by decide +kernel⟩
set_option maxHeartbeats 4000000 in
theorem ok_nought (T : Txt w K mg A) : FnOk P w K mg base CX0 2 A.a_nought A.f_nought ["table"] (sp_nought K A) := by
  have nd := sc_nought.nd
  have G_Table_mosts := ok_Table_mosts (P := P) (w := w) (base := base) T
  refine T.F_nought.ok sc_nought (fun vs H Q E h => ?_) (fun cdv Ar outer s H vs Q E hr h => ?_)
  · obtain ⟨t, h, cs, ls, rfl, _⟩ := h; rfl
  · skip
    obtain ⟨t, h, cs, ls, rfl, hT, kk⟩ := h
    obtain ⟨dx, a, b, c, us, qs, ht, _⟩ := hT.ex
    have g10 := hT.good.c10
    refine PSs.rd (pss_one (ps_ret (lcA (defScope s_nought) (pi_list (pe_meth0 (pvI 0) T.cl_Table T.me_Table_mosts (G_Table_mosts.mono (by decide)) hr T.d_Table_mosts .nil pass0)) (fun _ _ _ _ _ => pgc 1) (fun _ _ _ _ _ => pts_nil) (fun _ _ _ _ _ => pe_int)))) ?_
    try dsimp only [L2.cxOf, L2.Cx.nox]
    refine ⟨_, rfl, t, dx, _, rfl, ht, tabF_no (by decide +kernel) (by decide +kernel) (by decide +kernel) (by decide +kernel), t, h, cs, ls, rfl, hT, fun r H1 hr s1 hr1 => ?_⟩
    refine ⟨r, rfl, ⟨_, SqL.of hr1⟩, ?_⟩
    refine lc_by (ws := (List.replicate cs.length (0 : Int)).map V.int) (itOf_list (SqL.of hr1)) (fun σ => ∃ x y, σ = [x, y]) ⟨_, _, rfl⟩ (by rw [List.length_map, List.length_replicate, List.length_map, List.length_map]) (Nat.le_of_lt (small_line (by rw [List.length_map, List.length_map]; omega))) ?_ ?_
    · intro i x w σ2 H2 Qt Qf hx hk s2 zz1 q
      refine byC fun hG => ?_
      obtain ⟨x0, y0, rfl⟩ := zz1
      refine hG ?_
      rw [List.getElem?_map, List.getElem?_replicate] at hk
      split at hk
      · cases hk
        exact q _ ⟨_, _, rfl⟩
      · cases hk
    intro r2 hr2
    exact kk r2 _ (s1.free hr2) (s1.trans (same_upd hr2)) upd_same
def sp_require_account (K : PySem.W.Frag) (A : Adr) : Sp := fun vs H Q _ => ∃ (t ac : Addr) (h : Nat) (cs : List Row) (ls acc : List Int), vs = [.ref t, .ref ac] ∧ TabAt A.c_Table K H t h cs ls ∧ SqL K H ac (acc.map V.int) ∧ AccOk cs acc ∧ ∀ H', Same H H' → Q .non H'
theorem sc_require_account : FnScope ["table", "account", "mosts"] ["table", "account"] (defScope s_require_account) := ⟨rfl, rfl, rfl, by decide +kernel, rfl, by decide +kernel, by decide +kernel⟩
set_option maxHeartbeats 4000000 in
theorem ok_require_account (T : Txt w K mg A) : FnOk P w K mg base CX0 2 A.a_require_account A.f_require_account ["table", "account"] (sp_require_account K A) := by
  have nd := sc_require_account.nd
  have G_Table_mosts := ok_Table_mosts (P := P) (w := w) (base := base) T
  refine T.F_require_account.ok sc_require_account (fun vs H Q E h => ?_) (fun cdv Ar outer s H vs Q E hr h => ?_)
  · obtain ⟨t, ac, h, cs, ls, acc, rfl, _⟩ := h; rfl
  · skip
    obtain ⟨t, ac, h, cs, ls, acc, rfl, hT, hac, hA, kk⟩ := h
    obtain ⟨dx, a, b, c, us, qs, ht, ha, hcs, hb, hc, hq, hqs⟩ := hT.ex
    have g10 := hT.good.c10
    have hal := hA.len
    refine PSs.rd (pss_cons (ps_set (i := 2) nd rfl (Or.inl rfl) (pe_meth0 (pvI 0) T.cl_Table T.me_Table_mosts (G_Table_mosts.mono (by decide)) hr T.d_Table_mosts .nil pass0))
    (pss_cons (ps_if (pt_cmpR op_ne (pe_callB call_len_seq rfl T.b_len PySem.boot_len (pa_cons (pvI 1) pa_nil)) (pe_callB call_len_seq rfl T.b_len PySem.boot_len (pa_cons (pvI 2) pa_nil)) (nomark _))
      (pss_one ps_never)
      pss_nil)
    (pss_one (ps_if (pt_not (pt_truth (pe_callB (call_allB rfl) rfl T.b_all boot_all (pa_cons (lcA (defScope s_require_account) (pi_zip rfl T.b_zip (pa_cons (pvI 1) (pa_cons (pvI 2) pa_nil))) (fun _ _ _ _ _ => pgc2 1 2) (fun _ _ _ _ _ => pts_nil) (fun _ _ _ _ _ => (pe_chain op_leI op_leI pe_int (pvI 1) (pvI 2)))) pa_nil)) (fun _ => rfl)))
      (pss_one ps_never)
      pss_nil)))) ?_
    try dsimp only [L2.cxOf, L2.Cx.nox]
    refine ⟨_, rfl, t, dx, _, rfl, ht, tabF_no (by decide +kernel) (by decide +kernel) (by decide +kernel) (by decide +kernel), t, h, cs, ls, rfl, hT, fun r H1 hr s1 hr1 => ?_⟩
    refine ⟨_, rfl, ac, _, rfl, .inl (s1.seq hac), _, rfl, r, _, rfl, .inl (SqL.of hr1), rfl, _, rfl, iteF' ?_ ?_⟩
    · rw [List.length_map, List.length_map, List.length_map, hal, decide_eq_true rfl]; rfl
    refine ⟨_, rfl, _, rfl, ac, r, _, _, rfl, s1.seq hac, SqL.of hr1, ?_⟩
    refine lc_fG (fun _ => some (V.bl true)) (itG_zip (s1.seq hac) (SqL.of hr1) (by rw [List.length_map, List.length_map, List.length_map, hal])) (fun σ => ∃ x y z, σ = [x, y, z]) ⟨_, _, _, rfl⟩ (Nat.le_of_lt (small_line (by rw [List.length_map]; omega))) ?_ ?_
    · intro i x σ2 H2 Qt Qf hi zz1 s2 zz2 qt qf
      refine byC fun hG => ?_
      obtain ⟨W, u, v, rfl, hW, hu, hv⟩ := zz1
      obtain ⟨x, y, z, rfl⟩ := zz2
      refine hG ?_
      rw [List.getElem?_map] at hu
      refine byC fun hG => ?_
      obtain ⟨bi, hbi, rfl⟩ := Option.map_eq_some_iff.mp hu
      refine hG ?_
      rw [List.map_map, List.getElem?_map] at hv
      refine byC fun hG => ?_
      obtain ⟨cc, hcc, rfl⟩ := Option.map_eq_some_iff.mp hv
      have hbd := hA.bd i cc bi hcc hbi
      refine hG ?_
      refine ⟨W, _, rfl, SqT.of hW, rfl, _, _, rfl, _, _, rfl, rfl, ?_⟩
      refine ⟨_, rfl, _, _, rfl, rfl, _, rfl, iteD (fun _ => ?_) (fun h => absurd hbd.1 h)⟩
      refine ⟨_, rfl, _, _, rfl, rfl, ?_⟩
      try dsimp only
      rw [decide_eq_true hbd.2]
      exact qt _ _ _ rfl ⟨_, _, _, rfl⟩ (Same.refl _)
    intro D H2 hD s2 hD2
    rw [filterMap_const, List.length_range] at hD2
    refine ⟨D, List.replicate (acc.map V.int).length true, rfl, SqL.of (by rw [List.map_replicate]; exact hD2), _, rfl, ?_⟩
    have e : (List.replicate (acc.map V.int).length true).all id = true := by simp
    rw [e]
    exact iteF (kk _ (s1.trans s2))
def sp_burdens (K : PySem.W.Frag) (A : Adr) : Sp := fun vs H Q _ => ∃ (t ac : Addr) (h : Nat) (cs : List Row) (ls acc : List Int), vs = [.ref t, .ref ac] ∧ TabAt A.c_Table K H t h cs ls ∧ SqL K H ac (acc.map V.int) ∧ AccOk cs acc ∧
  ∀ r H', H r = none → Same H H' → H' r = some (.lst ((burdL cs ls acc).map V.int)) → Q (.ref r) H'
theorem sc_burdens : FnScope ["table", "account", "told", "houses", "bill", "house"] ["table", "account"] (defScope s_burdens) := ⟨rfl, rfl, rfl, by decide +kernel, rfl, by decide +kernel, by decide +kernel⟩
set_option maxHeartbeats 4000000 in
theorem ok_burdens (T : Txt w K mg A) : FnOk P w K mg base CX0 3 A.a_burdens A.f_burdens ["table", "account"] (sp_burdens K A) := by
  have nd := sc_burdens.nd
  have G_Table_losses := ok_Table_losses (P := P) (w := w) (base := base) T
  have G_require_account := ok_require_account (P := P) (w := w) (base := base) T
  refine T.F_burdens.ok sc_burdens (fun vs H Q E h => ?_) (fun cdv Ar outer s H vs Q E hr h => ?_)
  · obtain ⟨t, ac, h, cs, ls, acc, rfl, _⟩ := h; rfl
  · skip
    obtain ⟨t, ac, h, cs, ls, acc, rfl, hT, hac, hA, kk⟩ := h
    have g := hT.good
    have g10 := g.c10
    have hal := hA.len
    refine PSs.rd (pss_cons (ps_expr (pe_call (G_require_account.mono (by decide)) hr rfl T.m_require_account T.k_require_account T.d_require_account .nil pass0 (pa_cons (pvI 0) (pa_cons (pvI 1) pa_nil))))
    (pss_cons (ps_set (i := 2) nd rfl (Or.inl rfl) (pe_meth0 (pvI 0) T.cl_Table T.me_Table_losses (G_Table_losses.mono (by decide)) hr T.d_Table_losses .nil pass0))
    (pss_cons (ps_for PassesOwn.never rfl (pi_zip rfl T.b_zip (pa_cons (pe_fld (pvI 0) rfl) (pa_cons (pvI 1) pa_nil))) (pg_tup (n := 2) rfl (pgs_cons (pg_name (i := 3) nd rfl (Or.inl rfl)) (pgs_cons (pg_name (i := 4) nd rfl (Or.inl rfl)) pgs_nil)))
      (pss_one (ps_for PassesOwn.never rfl (pi_list (pe_slice sl_list (pvI 3) po_none (po_some (pvI 4)))) (pg_name (i := 5) nd rfl (Or.inl rfl))
         (pss_one (ps_augS (pvI 2) (pvI 5) get_listG pe_int ip_add set_list)))))
    (pss_one (ps_ret (pvI 2)))))) ?_
    try dsimp only [L2.cxOf, L2.Cx.nox]
    refine ⟨_, rfl, _, rfl, t, ac, h, cs, ls, acc, rfl, hT, hac, hA, fun H1 s1 => ?_⟩
    refine byC fun hG => ?_
    obtain ⟨dx, a, b, c, us, qs, ht, ha, hcs, hb, hc, hq, hqs⟩ := (hT.same s1).ex
    refine hG ?_
    refine ⟨_, rfl, t, dx, _, rfl, ht, tabF_no (by decide +kernel) (by decide +kernel) (by decide +kernel) (by decide +kernel), t, h, cs, ls, rfl, hT.same s1, fun r H2 hr s2 hr2 => ?_⟩
    refine ⟨_, rfl, t, _, dx, _, _, rfl, s2 _ _ ht, T.cl_Table, T.na_Table_crown_bearers, tabF_bearers, _, rfl, c, ac, _, _, rfl, SqL.of (s2 _ _ hc), (s1.trans s2).seq hac, ?_⟩
    refine for_zip (xs := qs.map V.ref) (ys := acc.map V.int) (fun i σ H' => Same H1 H' ∧ H' r = some (.lst ((plusF ls (crs cs acc i)).map V.int)) ∧ ∃ x y z, σ = [some (.ref t), some (.ref ac), some (.ref r), x, y, z])
      (by rw [List.length_map, List.length_map, hal, hq]) ⟨s2, ?_, _, _, _, rfl⟩ (fun i σ H' _ p => ⟨SqL.of (p.1 _ _ hc), (s1.trans p.1).seq hac⟩) ?_ ?_
    · have e : crs cs acc 0 = fun _ => 0 := rfl
      rw [e, plusF_zero]; exact hr2
    · intro i x y W σ H' hx hy zz1 hW
      refine byC fun hG => ?_
      obtain ⟨sm, hr', x0, y0, z0, rfl⟩ := zz1
      refine hG ?_
      rw [List.getElem?_map] at hx hy
      refine byC fun hG => ?_
      obtain ⟨q, hqi, rfl⟩ := Option.map_eq_some_iff.mp hx
      obtain ⟨bi, hbi, rfl⟩ := Option.map_eq_some_iff.mp hy
      obtain ⟨cc, hcc⟩ := get_some (xs := cs) (i := i) (by rw [← hq]; exact get_lt hqi)
      have gc := g.cov cc (List.mem_of_getElem? hcc)
      have hbd := hA.bd i cc bi hcc hbi
      have gm := gc.most
      obtain ⟨n, rfl⟩ : ∃ n : Nat, bi = (n : Int) := ⟨bi.toNat, by omega⟩
      have sW : Same H' (upd H' W (.tup [.ref q, .int n])) := same_upd hW
      have hq' := sW _ _ (sm _ _ (hqs i cc q hcc hqi))
      refine hG ?_
      refine ⟨W, _, rfl, SqT.of upd_same, rfl, _, _, rfl, _, _, rfl, rfl, ?_⟩
      refine ⟨_, rfl, _, rfl, _, rfl, q, _, rfl, SqL.of hq', fun sl hsl => ?_⟩
      have ec : cutV ((bearersL cc.2.2.2.2 cc.2.2.2.1.toNat).map V.int) none (some (n : Int)) = (bearersL cc.2.2.2.2 n).map V.int := by
        rw [cut_to _ (by rw [List.length_map, bearersL_len]; omega), ← List.map_take, bearersL_take _ (by omega)]
      rw [ec]
      have sS := same_upd (o := .lst ((bearersL cc.2.2.2.2 n).map V.int)) hsl
      have s3 : Same H1 (upd (upd H' W (.tup [.ref q, .int n])) sl (.lst ((bearersL cc.2.2.2.2 n).map V.int))) := sm.trans (sW.trans sS)
      have hrs : r ≠ sl := fun z => by have := sW _ _ hr'; rw [z, hsl] at this; cases this
      refine ⟨sl, rfl, ⟨_, SqL.of upd_same⟩, ?_⟩
      refine for_list (xs := (bearersL cc.2.2.2.2 n).map V.int) (fun k σ H'' => Same H1 H'' ∧ H'' sl = some (.lst ((bearersL cc.2.2.2.2 n).map V.int)) ∧ H'' r = some (.lst ((plusF ls (fun j => crs cs acc i j + (((bearersL cc.2.2.2.2 n).take k).count (j : Int) : Nat))).map V.int)) ∧ ∃ x y z, σ = [some (.ref t), some (.ref ac), some (.ref r), x, y, z])
        ⟨s3, upd_same, ?_, _, _, _, rfl⟩ (fun k σ H'' _ p => SqL.of p.2.1) ?_ ?_
      · rw [(sS _ _ (sW _ _ hr'))]
        congr 3
        exact plusF_congr fun j _ => by simp
      · intro k x σ H'' hx zz2
        refine byC fun hG => ?_
        obtain ⟨s4, hsl4, hr4, x1, y1, z1, rfl⟩ := zz2
        refine hG ?_
        rw [List.getElem?_map] at hx
        refine byC fun hG => ?_
        obtain ⟨z, hz, rfl⟩ := Option.map_eq_some_iff.mp hx
        obtain ⟨l, hl, rfl⟩ := bearersL_mem gc.gl.l1 (List.mem_of_getElem? hz)
        have hl0 := (gc.gl.all l hl).1
        have hl1 := (gc.ot l hl).1
        have hll := g.ll
        obtain ⟨j, hj⟩ : ∃ j : Nat, l.1 = (j : Int) := ⟨l.1.toNat, by omega⟩
        refine hG ?_
        rw [hj] at hz ⊢
        have hjl : j < ls.length := by omega
        refine ⟨_, rfl, _, rfl, r, _, j, .int ((plusF ls (fun j => crs cs acc i j + (((bearersL cc.2.2.2.2 n).take k).count (j : Int) : Nat))).getD j 0), rfl, rfl, SqL.of hr4, ?_, _, _, rfl, rfl, ?_⟩
        · rw [List.getElem?_map, List.getElem?_eq_getElem (by rw [plusF_len]; exact hjl), Option.map_some, getD_of (List.getElem?_eq_getElem (by rw [plusF_len]; exact hjl))]
        refine ⟨r, _, _, j, rfl, rfl, hr4, ixN_nat (by rw [List.length_map, plusF_len]; exact hjl), fun b o e => ?_, ?_, ?_, _, _, _, rfl⟩
        · rw [upd_ne (ne_of_none e hr)]; exact s4 b o e
        · rw [upd_ne hrs.symm]; exact hsl4
        · rw [upd_same, ← List.map_set, plusF_set _ _ _ _ hjl]
          congr 3
          refine plusF_congr fun j' _ => ?_
          rw [take_snoc hz, List.count_append, List.count_singleton]
          by_cases e : j' = j
          · subst e; simp; omega
          · rw [if_neg e, if_neg (by simpa using fun z : (j : Int) = (j' : Int) => e (by omega))]; simp
      · intro σ H'' zz3
        refine byC fun hG => ?_
        obtain ⟨s4, hsl4, hr4, x1, y1, z1, rfl⟩ := zz3
        refine hG ?_
        refine ⟨s4, ?_, _, _, _, rfl⟩
        rw [hr4]
        congr 3
        refine plusF_congr fun j _ => ?_
        rw [List.length_map, List.take_length, crs, hcc, getD_of hbi]
        rfl
    · intro σ H' zz4
      refine byC fun hG => ?_
      obtain ⟨sm, hr', x0, y0, z0, rfl⟩ := zz4
      refine hG ?_
      rw [List.length_map, hq] at hr'
      exact ⟨_, rfl, kk r H' (s1.free hr) (s1.trans sm) hr'⟩
def sp_asked (K : PySem.W.Frag) (A : Adr) : Sp := fun vs H Q _ => ∃ (t ac : Addr) (h : Nat) (cs : List Row) (ls acc : List Int), vs = [.ref t, .ref ac] ∧ TabAt A.c_Table K H t h cs ls ∧ SqL K H ac (acc.map V.int) ∧ AccOk cs acc ∧
  ∀ r H', H r = none → Same H H' → H' r = some (.lst ((askL cs ls acc).map V.int)) → Q (.ref r) H'
theorem sc_asked : FnScope ["table", "account", "left", "told", "house", "kind", "by", "most", "lines", "bill"] ["table", "account"] (defScope s_asked) := ⟨rfl, rfl, rfl, by decide +kernel, rfl, by decide +kernel, by decide +kernel⟩
set_option maxHeartbeats 4000000 in
theorem ok_asked (T : Txt w K mg A) : FnOk P w K mg base CX0 4 A.a_asked A.f_asked ["table", "account"] (sp_asked K A) := by
  have nd := sc_asked.nd
  have G_Table_covers := ok_Table_covers (P := P) (w := w) (base := base) T
  have G_burdens := ok_burdens (P := P) (w := w) (base := base) T
  have G_take := ok_take (P := P) (w := w) (base := base) T
  refine T.F_asked.ok sc_asked (fun vs H Q E h => ?_) (fun cdv Ar outer s H vs Q E hr h => ?_)
  · obtain ⟨t, ac, h, cs, ls, acc, rfl, _⟩ := h; rfl
  · skip
    obtain ⟨t, ac, h, cs, ls, acc, rfl, hT, hac, hA, kk⟩ := h
    have g := hT.good
    have g10 := g.c10
    have hbd := burd_bd g hA
    refine PSs.rd (pss_cons (ps_set (i := 2) nd rfl (Or.inl rfl) (pe_call (G_burdens.mono (by decide)) hr rfl T.m_burdens T.k_burdens T.d_burdens .nil pass0 (pa_cons (pvI 0) (pa_cons (pvI 1) pa_nil))))
    (pss_cons (ps_set (i := 3) nd rfl (Or.inl rfl) (pe_lst pa_nil))
    (pss_cons (ps_for PassesOwn.never rfl (pi_list (pe_meth0 (pvI 0) T.cl_Table T.me_Table_covers (G_Table_covers.mono (by decide)) hr T.d_Table_covers .nil pass0)) (pg_tup (n := 5) rfl (pgs_cons (pg_name (i := 4) nd rfl (Or.inl rfl)) (pgs_cons (pg_name (i := 5) nd rfl (Or.inl rfl)) (pgs_cons (pg_name (i := 6) nd rfl (Or.inl rfl)) (pgs_cons (pg_name (i := 7) nd rfl (Or.inl rfl)) (pgs_cons (pg_name (i := 8) nd rfl (Or.inl rfl)) pgs_nil))))))
      (pss_cons (ps_set (i := 9) nd rfl (Or.inl rfl) (pe_call (G_take.mono (by decide)) hr rfl T.m_take T.k_take T.d_take .nil pass0 (pa_cons (pvI 5) (pa_cons (pvI 6) (pa_cons (pvI 7) (pa_cons (pe_ix (ix_listI K rfl) (pvI 2) (pvI 4) (fun _ _ => rfl)) pa_nil))))))
       (pss_cons (ps_augS (pvI 2) (pvI 4) get_listG (pvI 9) ip_sub set_list)
       (pss_one (ps_expr (pe_bm PySem.F.plainAttrs_list PySem.F.slot_list_append PySem.F.type_list_append mt_append (pvI 3) (pa_cons (pvI 9) pa_nil)))))))
    (pss_one (ps_ret (pvI 3)))))) ?_
    try dsimp only [L2.cxOf, L2.Cx.nox]
    refine ⟨_, rfl, _, rfl, t, ac, h, cs, ls, acc, rfl, hT, hac, hA, fun lf H1 hlf s1 hlf1 => ?_⟩
    refine ⟨Nat.zero_le _, fun r hr => ?_⟩
    have hr0 := s1.free hr
    have sr := same_upd (o := .lst []) hr
    have hT2 := hT.same (s1.trans sr)
    refine byC fun hG => ?_
    obtain ⟨dx, a, b, c, us0, qs, ht, _⟩ := hT2.ex
    refine hG ?_
    refine ⟨_, rfl, t, dx, _, rfl, ht, tabF_no (by decide +kernel) (by decide +kernel) (by decide +kernel) (by decide +kernel), t, h, cs, ls, rfl, hT2, fun cv us H2 hcv s2 hcv2 hcs => ?_⟩
    have hlen := hcs.len
    have nlr : lf ≠ r := fun z => by rw [← z, hlf1] at hr; cases hr
    have ncl : cv ≠ lf := fun z => by have := sr _ _ hlf1; rw [← z, hcv] at this; cases this
    have ncr : cv ≠ r := fun z => by rw [z, upd_same] at hcv; cases hcv
    refine ⟨cv, rfl, ⟨us, SqL.of hcv2⟩, ?_⟩
    refine for_listO (xs := us) (fun i σ H' => Same H H' ∧ H' cv = some (.lst us) ∧ CovsAt K H' us cs ∧ H' lf = some (.lst ((passL cs (burdL cs ls acc) i).1.map V.int)) ∧ H' r = some (.lst ((passL cs (burdL cs ls acc) i).2.map V.int)) ∧ ∃ x1 x2 x3 x4 x5 x6, σ = [some (.ref t), some (.ref ac), some (.ref lf), some (.ref r), x1, x2, x3, x4, x5, x6])
      ⟨(s1.trans sr).trans s2, hcv2, hcs, s2 _ _ (sr _ _ hlf1), s2 _ _ upd_same, _, _, _, _, _, _, rfl⟩ (fun i σ H' _ p => SqL.of p.2.1) ?_ ?_
    · intro N R B i x σ H' hx zz1 hN _
      refine byC fun hG => ?_
      obtain ⟨s3, hcv3, hcs3, hlf3, hr3, x1, x2, x3, x4, x5, x6, rfl⟩ := zz1
      obtain ⟨cc, hc, p, rfl, lp, hrow, hL, hLl⟩ := hcs3.get hx
      have gc := g.cov cc (List.mem_of_getElem? hc)
      have ghl := g.ll
      have hj : cc.1 = ((cc.1.toNat : Nat) : Int) := by have := gc.ho; omega
      have hjl : cc.1.toNat < (passL cs (burdL cs ls acc) i).1.length := by rw [passL_len1, burdL_len]; have := gc.ho; omega
      have hbd' := getD_bd (passL_bd hbd (by decide) g.cov i) (by decide) cc.1.toNat
      have hl2 := passL_len2 cs (burdL cs ls acc) i (by have := get_lt hc; omega)
      have hsu := passL_succ (l0 := burdL cs ls acc) hc
      refine hG ?_
      rw [hsu] at hN
      generalize passL cs (burdL cs ls acc) i = P at hlf3 hr3 hjl hbd' hl2 hN
      refine ⟨p, _, rfl, hrow, rfl, _, _, rfl, _, _, rfl, _, _, rfl, _, _, rfl, _, _, rfl, rfl, ?_⟩
      refine ⟨_, rfl, _, rfl, _, rfl, _, rfl, _, rfl, lf, _, _, .int (P.1.getD cc.1.toNat 0), rfl, rfl, SqL.of hlf3, (by rw [hj]; exact ix_of hjl), _, _, _, _, rfl, gc.ms, hbd'.1, by omega, ?_⟩
      refine ⟨_, rfl, _, rfl, lf, _, cc.1.toNat, .int (P.1.getD cc.1.toNat 0), rfl, by rw [← hj], SqL.of hlf3, ?_, _, rfl, _, _, rfl, rfl, ?_⟩
      · rw [List.getElem?_map, List.getElem?_eq_getElem hjl, Option.map_some, getD_of (List.getElem?_eq_getElem hjl)]
      refine ⟨lf, _, _, cc.1.toNat, rfl, rfl, hlf3, (by rw [hj]; exact ixN_nat (by rw [List.length_map]; exact hjl)), ?_⟩
      refine ⟨_, rfl, .inl ⟨rfl, _, SqL.of (by rw [upd_ne nlr.symm]; exact hr3)⟩, _, rfl, r, _, _, rfl, rfl, (by rw [upd_ne nlr.symm]; exact hr3), small_line (by rw [List.length_map]; have := get_lt hc; omega), ?_⟩
      refine hN _ _ ⟨fun b o e => ?_, ?_, ?_, ?_, ?_, _, _, _, _, _, _, rfl⟩
      · rw [upd_ne (ne_of_none e hr0), upd_ne (ne_of_none e hlf)]; exact s3 b o e
      · rw [upd_ne ncr, upd_ne ncl]; exact hcv3
      · exact CovsAt.updL (CovsAt.updL hcs3 hlf3) (by rw [upd_ne nlr.symm]; exact hr3)
      · rw [upd_ne nlr, upd_same, ← List.map_set]
      · rw [upd_same, map_snoc]
    · intro σ H' zz2
      refine byC fun hG => ?_
      obtain ⟨s3, hcv3, hcs3, hlf3, hr3, x1, x2, x3, x4, x5, x6, rfl⟩ := zz2
      refine hG ?_
      rw [hlen] at hr3
      exact ⟨_, rfl, kk r H' hr0 s3 hr3⟩
def sp_settle (K : PySem.W.Frag) (A : Adr) : Sp := fun vs H Q _ => ∃ (t ac : Addr) (h : Nat) (cs : List Row) (ls acc : List Int), vs = [.ref t, .ref ac] ∧ TabAt A.c_Table K H t h cs ls ∧ SqL K H ac (acc.map V.int) ∧ AccOk cs acc ∧ Moves cs ls acc ∧
  ∀ r H', H r = none → Same H H' → H' r = some (.lst ((comeL cs ls acc).map V.int)) → Q (.ref r) H'
theorem sc_settle : FnScope ["table", "account", "bills", "wanted"] ["table", "account"] (defScope s_settle) := ⟨rfl, rfl, rfl, by decide +kernel, rfl, by decide +kernel, by decide +kernel⟩
set_option maxHeartbeats 4000000 in
theorem ok_settle (T : Txt w K mg A) : FnOk P w K mg base CX0 5 A.a_settle A.f_settle ["table", "account"] (sp_settle K A) := by
  have nd := sc_settle.nd
  have G_asked := ok_asked (P := P) (w := w) (base := base) T
  refine T.F_settle.ok sc_settle (fun vs H Q E h => ?_) (fun cdv Ar outer s H vs Q E hr h => ?_)
  · obtain ⟨t, ac, h, cs, ls, acc, rfl, _⟩ := h; rfl
  · skip
    obtain ⟨t, ac, h, cs, ls, acc, rfl, hT, hac, hA, hM, kk⟩ := h
    have g := hT.good
    refine PSs.rd (pss_cons (ps_set (i := 2) nd rfl (Or.inl rfl) (pvI 1))
    (pss_cons (ps_set (i := 3) nd rfl (Or.inl rfl) (pe_call (G_asked.mono (by decide)) hr rfl T.m_asked T.k_asked T.d_asked .nil pass0 (pa_cons (pvI 0) (pa_cons (pvI 2) pa_nil))))
    (pss_cons (ps_while PassesOwn.never (pt_cmpR (op_neL hr.units) (pvI 3) (pvI 2) (nomark _))
      (pss_cons (ps_set (i := 2) nd rfl (Or.inl rfl) (pvI 3))
       (pss_one (ps_set (i := 3) nd rfl (Or.inl rfl) (pe_call (G_asked.mono (by decide)) hr rfl T.m_asked T.k_asked T.d_asked .nil pass0 (pa_cons (pvI 0) (pa_cons (pvI 2) pa_nil)))))))
    (pss_one (ps_ret (pvI 3)))))) ?_
    try dsimp only [L2.cxOf, L2.Cx.nox]
    refine ⟨_, rfl, _, rfl, _, rfl, t, ac, h, cs, ls, acc, rfl, hT, hac, hA, fun w1 H1 hw1 s1 hw11 => ?_⟩
    refine ⟨fun m σ H' => ∃ (n : Nat) (b w2 : Addr), m = 241 - n ∧ σ = [some (.ref t), some (.ref ac), some (.ref b), some (.ref w2)] ∧ Same H H' ∧ SqL K H' b ((iterL cs ls acc n).map V.int) ∧ H w2 = none ∧ H' w2 = some (.lst ((iterL cs ls acc (n + 1)).map V.int)), ⟨_, 0, ac, w1, rfl, rfl, s1, s1.seq hac, hw1, hw11⟩, ?_⟩
    intro m σ H2 zz1
    refine byC fun hG => ?_
    obtain ⟨n, b, w2, rfl, rfl, s2, hb, hw2, hw22⟩ := zz1
    refine hG ?_
    refine ⟨_, rfl, _, rfl, w2, b, _, _, rfl, rfl, SqL.of hw22, hb, _, rfl, iteND (fun hne => ?_) (fun heq => ?_)⟩
    · have hn := iter_stop g hA hM hne
      refine ⟨fun σ H' => ∃ (b w2 : Addr), σ = [some (.ref t), some (.ref ac), some (.ref b), some (.ref w2)] ∧ Same H H' ∧ SqL K H' b ((iterL cs ls acc (n + 1)).map V.int) ∧ H w2 = none ∧ H' w2 = some (.lst ((iterL cs ls acc (n + 1 + 1)).map V.int)), ?_, ?_⟩
      · intro σ' H' zz2
        refine byC fun hG => ?_
        obtain ⟨b', w3, rfl, s3, hb3, hw3, hw33⟩ := zz2
        refine hG ?_
        exact ⟨241 - (n + 1), by omega, n + 1, b', w3, rfl, rfl, s3, hb3, hw3, hw33⟩
      · refine ⟨_, rfl, _, rfl, _, rfl, t, w2, h, cs, ls, _, rfl, hT.same s2, SqL.of hw22, iter_ok g hA (n + 1), fun w3 H3 hw3 s3 hw33 => ?_⟩
        exact ⟨w2, w3, rfl, s2.trans s3, SqL.of (s3 _ _ hw22), s2.free hw3, hw33⟩
    · refine ⟨_, rfl, kk w2 H2 hw2 s2 ?_⟩
      rw [hw22, heq, come_of g hA hM heq]
def sp_least (K : PySem.W.Frag) (A : Adr) : Sp := fun vs H Q _ => ∃ (t : Addr) (h : Nat) (cs : List Row) (ls : List Int), vs = [.ref t] ∧ TabAt A.c_Table K H t h cs ls ∧ ∀ r H', H r = none → Same H H' → H' r = some (.lst ((comeL cs ls (List.replicate cs.length 0)).map V.int)) → Q (.ref r) H'
theorem sc_least : FnScope ["table"] ["table"] (defScope s_least) := ⟨rfl, rfl, rfl, by decide +kernel, rfl, by decide +kernel, by decide +kernel⟩
set_option maxHeartbeats 4000000 in
theorem ok_least (T : Txt w K mg A) : FnOk P w K mg base CX0 6 A.a_least A.f_least ["table"] (sp_least K A) := by
  have nd := sc_least.nd
  have G_nought := ok_nought (P := P) (w := w) (base := base) T
  have G_settle := ok_settle (P := P) (w := w) (base := base) T
  refine T.F_least.ok sc_least (fun vs H Q E h => ?_) (fun cdv Ar outer s H vs Q E hr h => ?_)
  · obtain ⟨t, h, cs, ls, rfl, _⟩ := h; rfl
  · skip
    obtain ⟨t, h, cs, ls, rfl, hT, kk⟩ := h
    refine PSs.rd (pss_one (ps_ret (pe_call (G_settle.mono (by decide)) hr rfl T.m_settle T.k_settle T.d_settle .nil pass0 (pa_cons (pvI 0) (pa_cons (pe_call (G_nought.mono (by decide)) hr rfl T.m_nought T.k_nought T.d_nought .nil pass0 (pa_cons (pvI 0) pa_nil)) pa_nil))))) ?_
    try dsimp only [L2.cxOf, L2.Cx.nox]
    refine ⟨_, rfl, _, rfl, t, h, cs, ls, rfl, hT, fun r H1 hr s1 hr1 => ?_⟩
    exact ⟨t, r, h, cs, ls, _, rfl, hT.same s1, SqL.of hr1, acc_zero hT.good, moves_zero hT.good, fun r2 H2 hr2 s2 e2 => kk r2 H2 (s1.free hr2) (s1.trans s2) e2⟩
def sp_hangs (K : PySem.W.Frag) (A : Adr) : Sp := fun vs H Q E => ∃ (t : Addr) (h : Nat) (cs : List Row) (ls : List Int) (j : Int), vs = [.ref t, .int j] ∧ TabAt A.c_Table K H t h cs ls ∧ j.natAbs < 2 ^ 100 ∧
  (0 ≤ j → j < h → ∀ r H', H r = none → Same H H' → H' r = some (.lst ((hangL cs ls j.toNat).map V.int)) → Q (.ref r) H') ∧ (¬ (0 ≤ j ∧ j < h) → ∀ H', Same H H' → E (.ref A.c_NoHouse) none H')
theorem sc_hangs : FnScope ["table", "house", "spared", "pairs"] ["table", "house"] (defScope s_hangs) := ⟨rfl, rfl, rfl, by decide +kernel, rfl, by decide +kernel, by decide +kernel⟩
set_option maxHeartbeats 4000000 in
theorem ok_hangs (T : Txt w K mg A) : FnOk P w K mg base (CXW P w) 7 A.a_hangs A.f_hangs ["table", "house"] (sp_hangs K A) := by
  have nd := sc_hangs.nd
  have G_Table_houses := ok_Table_houses (P := P) (w := w) (base := base) T
  have G_Table_losses := ok_Table_losses (P := P) (w := w) (base := base) T
  have G_Table_more := ok_Table_more (P := P) (w := w) (base := base) T
  have G_least := ok_least (P := P) (w := w) (base := base) T
  have G_require_house := ok_require_house (P := P) (w := w) (base := base) T
  refine T.F_hangs.okW sc_hangs (fun vs H Q E h => ?_) (fun cdv Ar outer s H vs Q E hr h => ?_)
  · obtain ⟨t, h, cs, ls, j, rfl, _⟩ := h; rfl
  · skip
    obtain ⟨t, h, cs, ls, j0, rfl, hT, hj2, kk', ee⟩ := h
    have g := hT.good
    have gll := g.ll
    have h6 := g.h6
    have g10 := g.c10
    obtain ⟨dx, a, b, c, us, qs, ht, _⟩ := hT.ex
    refine PSs.rd (pss_cons (ps_expr (pe_call (G_require_house.mono (by decide)) hr rfl T.m_require_house T.k_require_house T.d_require_house .nil (passW flies (fun _ _ h => h)) (pa_cons (pe_meth0 (pvI 0) T.cl_Table T.me_Table_houses (G_Table_houses.mono (by decide)) hr T.d_Table_houses .nil pass0) (pa_cons (pvI 1) pa_nil))))
    (pss_cons (ps_set (i := 2) nd rfl (Or.inl rfl) (pe_meth (pvI 0) T.cl_Table T.me_Table_more (G_Table_more.mono (by decide)) hr T.d_Table_more .nil (passW flies (fun _ _ h => h)) (pa_cons (pvI 1) (pa_cons (pe_un un_neg (pe_ix (ix_listI K rfl) (pe_meth0 (pvI 0) T.cl_Table T.me_Table_losses (G_Table_losses.mono (by decide)) hr T.d_Table_losses .nil pass0) (pvI 1) (fun _ _ => rfl))) pa_nil))))
    (pss_cons (ps_set (i := 3) nd rfl (Or.inl rfl) (pe_lz rfl rfl T.b_list rfl T.b_zip (pa_cons (pe_call (G_least.mono (by decide)) hr rfl T.m_least T.k_least T.d_least .nil pass0 (pa_cons (pvI 0) pa_nil)) (pa_cons (pe_call (G_least.mono (by decide)) hr rfl T.m_least T.k_least T.d_least .nil pass0 (pa_cons (pvI 2) pa_nil)) pa_nil))))
    (pss_one (ps_ret (lcA (defScope s_hangs) (pi_enum rfl T.b_enumerate (pa_cons (pvI 3) pa_nil)) (fun _ _ _ _ _ => pgcNT 1 2 3) (fun _ _ _ _ _ => (pts_one (pt_cmpR op_ne (pvI 2) (pvI 3) (nomark _)))) (fun _ _ _ _ _ => (pvI 1)))))))) ?_
    rw [show ∀ v0 v1 : V, L2.start ["table", "house", "spared", "pairs"] [v0, v1] = [some v0, some v1, none, none] from fun _ _ => rfl]
    refine ⟨_, rfl, t, dx, _, rfl, ht, tabF_no (by decide +kernel) (by decide +kernel) (by decide +kernel) (by decide +kernel), t, h, cs, ls, rfl, hT, _, rfl, (h : Int), j0, rfl, by omega, hj2, fun h0 h1 => ?_, fun hn => ee hn H (Same.refl _)⟩
    have kk := kk' h0 h1
    refine byC fun hG => ?_
    obtain ⟨j, rfl⟩ : ∃ j : Nat, j0 = (j : Int) := ⟨j0.toNat, by omega⟩
    refine hG ?_
    rw [Int.toNat_natCast] at kk
    have hjl : j < ls.length := by omega
    have hlb := g.lb _ (getD_mem hjl)
    refine ⟨_, rfl, t, dx, _, rfl, ht, tabF_no (by decide +kernel) (by decide +kernel) (by decide +kernel) (by decide +kernel), _, rfl, _, rfl, t, dx, _, rfl, ht, tabF_no (by decide +kernel) (by decide +kernel) (by decide +kernel) (by decide +kernel), t, h, cs, ls, rfl, hT, fun lo H1 hlo s1 hlo1 => ?_⟩
    refine ⟨_, rfl, lo, _, _, _, rfl, rfl, SqL.of hlo1, ix_of hjl, _, rfl, t, h, cs, ls, (j : Int), -(ls.getD j 0), rfl, hT.same s1, hj2, fun z => absurd ⟨h0, h1⟩ z, fun _ _ z => ?_, fun _ _ _ sp H2 hsp s2 hT2 => ?_⟩
    · rw [Int.toNat_natCast] at z
      exact absurd ⟨by omega, by omega⟩ z
    rw [Int.toNat_natCast, more_nought] at hT2
    have g2 := hT2.good
    try dsimp only [List.set_cons_zero, List.set_cons_succ]
    have s02 := s1.trans s2
    refine ⟨_, rfl, t, h, cs, ls, rfl, hT.same s02, fun l1 H3 hl1 s3 hl13 => ?_⟩
    refine ⟨_, rfl, sp, h, cs, _, rfl, hT2.same s3, fun l2 H4 hl2 s4 hl24 => ?_⟩
    replace hl13 : H3 l1 = some (.lst ((leastL cs ls).map V.int)) := hl13
    replace hl24 : H4 l2 = some (.lst ((leastL cs (ls.set j 0)).map V.int)) := hl24
    have len1 := (least_ok g).len
    have len2 := (least_ok g2).len
    refine ⟨l1, l2, _, _, rfl, SqL.of (s4 _ _ hl13), SqL.of hl24, by rw [List.length_map, List.length_map, len1, len2], fun pl ts H5 hpl s5 hpl5 htl hts => ?_⟩
    rw [List.length_map] at htl
    try dsimp only [List.set_cons_zero, List.set_cons_succ]
    refine ⟨_, rfl, pl, _, rfl, SqL.of hpl5, ?_⟩
    have e5 : hangL cs ls j = diffL (leastL cs ls) (leastL cs (ls.set j 0)) := rfl
    rw [e5] at kk
    generalize leastL cs ls = la at *
    generalize leastL cs (ls.set j 0) = lb at *
    refine lc_fG (fun i => if la.getD i 0 = lb.getD i 0 then none else some (V.int (i : Int))) (itG_enum (SqL.of hpl5)) (fun σ => ∃ x0 x1 x2 x3, σ = [x0, x1, x2, x3]) ⟨_, _, _, _, rfl⟩ (Nat.le_of_lt (small_line (by rw [List.length_map]; omega))) ?_ ?_
    · intro i x σ2 H6 Qt Qf hi hY s6 zz1 qt qf
      refine byC fun hG => ?_
      obtain ⟨x0, x1, x2, x3, rfl⟩ := zz1
      refine hG ?_
      rw [List.length_map] at hi
      refine byC fun hG => ?_
      obtain ⟨W, u, rfl, hW, hu⟩ := hY
      refine hG ?_
      rw [List.getElem?_map] at hu
      refine byC fun hG => ?_
      obtain ⟨tp, htp, rfl⟩ := Option.map_eq_some_iff.mp hu
      obtain ⟨u, v, hu, hv, hp⟩ := hts i tp htp
      refine hG ?_
      rw [List.getElem?_map] at hu hv
      refine byC fun hG => ?_
      obtain ⟨ai, hai, rfl⟩ := Option.map_eq_some_iff.mp hu
      obtain ⟨bi, hbi, rfl⟩ := Option.map_eq_some_iff.mp hv
      have ea : la.getD i 0 = ai := getD_of hai
      have eb : lb.getD i 0 = bi := getD_of hbi
      refine hG ?_
      refine ⟨W, _, rfl, SqT.of hW, rfl, _, _, rfl, _, _, rfl, tp, _, rfl, SqT.of (s6 _ _ hp), rfl, _, _, rfl, _, _, rfl, rfl, rfl, ?_⟩
      try dsimp only [List.set_cons_zero, List.set_cons_succ]
      refine ⟨_, rfl, _, rfl, rfl, _, rfl, iteND (fun hne => ?_) (fun heq => ?_)⟩
      · have hne' : ¬ la.getD i 0 = lb.getD i 0 := fun z => hne (by rw [← ea, ← eb, z])
        exact ⟨_, rfl, qt _ _ _ (by rw [if_neg hne']) ⟨_, _, _, _, rfl⟩ (Same.refl _)⟩
      · have he : la.getD i 0 = lb.getD i 0 := by rw [ea, eb]; exact V.int.inj heq
        exact qf _ _ (by rw [if_pos he]) ⟨_, _, _, _, rfl⟩ (Same.refl _)
    intro D H6 hD s6 hD6
    have en : (ts.map V.ref).length = la.length := by rw [List.length_map, htl]
    rw [en, diff_fm] at hD6
    have s05 := s02.trans ((s3.trans s4).trans s5)
    exact kk D H6 (s05.free hD) (s05.trans s6) hD6
def sp__law_draws (K : PySem.W.Frag) : Sp := fun vs H Q _ => ∃ (a : Addr) (ns : List Int) (n : Nat), vs = [.ref a, .int n] ∧ SqL K H a (ns.map V.int) ∧ ns.length ≤ 63 ∧ n ≤ 1000 ∧
  ∀ (p : Addr) (ds : List Int) (H' : Hp), H p = none → Same H H' → H' p = some (.lst (ds.map V.int)) → ds.length = n → InD ds → Q (.ref p) H'
theorem sc__law_draws : FnScope ["_law_script", "_law_many", "_law_row", "_law_seed", "_law_cell", "_law_rest", "_law_k"] ["_law_script", "_law_many"] (defScope s__law_draws) := ⟨rfl, rfl, rfl, by decide +kernel, rfl, by decide +kernel, by decide +kernel⟩
set_option maxHeartbeats 4000000 in
theorem ok__law_draws (T : Txt w K mg A) : FnOk P w K mg base CX0 1 A.a__law_draws A.f__law_draws ["_law_script", "_law_many"] (sp__law_draws K) := by
  have nd := sc__law_draws.nd
  refine T.F__law_draws.ok sc__law_draws (fun vs H Q E h => ?_) (fun cdv Ar outer s H vs Q E hr h => ?_)
  · obtain ⟨a, ns, n, rfl, _⟩ := h; rfl
  · skip
    obtain ⟨a, ns, n, rfl, hS, hl, hn, kk⟩ := h
    refine PSs.rd (pss_cons (ps_set (i := 2) nd rfl (Or.inl rfl) (pe_lst pa_nil))
    (pss_cons (ps_set (i := 3) nd rfl (Or.inl rfl) pe_int)
    (pss_cons (ps_for PassesOwn.never rfl (pi_list (pe_slice sl_list (pvI 0) po_none (po_some pe_int))) (pg_name (i := 4) nd rfl (Or.inl rfl))
      (pss_cons (ps_set (i := 3) nd rfl (Or.inl rfl) (pe_op op_modI (pe_op op_addI (pe_op op_addI (pe_op op_mulI (pvI 3) pe_int) (pe_op op_modI (pvI 4) pe_int)) pe_int) pe_int))
       (pss_cons (ps_set (i := 5) nd rfl (Or.inl rfl) (pe_op op_subI (pvI 4) (pe_op op_pow pe_int pe_int)))
       (pss_cons (ps_cut (ps_if (pt_cmpR op_ltI (pvI 5) pe_int (nomark _))
         (pss_one (ps_expr (pe_bm PySem.F.plainAttrs_list PySem.F.slot_list_append PySem.F.type_list_append mt_append (pvI 2) (pa_cons (pe_op op_modI (pvI 4) pe_int) pa_nil))))
         pss_nil))
       (pss_one (ps_for PassesOwn.never rfl (pi_range1 rfl T.b_range (pa_cons pe_int pa_nil)) (pg_name (i := 6) nd rfl (Or.inl rfl))
         (pss_one (ps_if (pt_cmpR op_gtI (pvI 5) pe_int (nomark _))
            (pss_cons (ps_expr (pe_bm PySem.F.plainAttrs_list PySem.F.slot_list_append PySem.F.type_list_append mt_append (pvI 2) (pa_cons (pe_op op_modI (pvI 5) pe_int) pa_nil)))
             (pss_one (ps_set (i := 5) nd rfl (Or.inl rfl) (pe_op op_fdivI (pvI 5) pe_int))))
            pss_nil))))))))
    (pss_cons (ps_for PassesOwn.never rfl (pi_range1 rfl T.b_range (pa_cons (pvI 1) pa_nil)) (pg_name (i := 6) nd rfl (Or.inl rfl))
      (pss_cons (ps_set (i := 3) nd rfl (Or.inl rfl) (pe_op op_modI (pe_op op_addI (pe_op op_addI (pe_op op_addI (pe_op op_mulI (pvI 3) (pvI 3)) (pe_op op_mulI pe_int (pvI 3))) (pe_op op_mulI pe_int (pvI 6))) pe_int) pe_int))
       (pss_one (ps_expr (pe_bm PySem.F.plainAttrs_list PySem.F.slot_list_append PySem.F.type_list_append mt_append (pvI 2) (pa_cons (pe_op op_modI (pe_op op_fdivI (pvI 3) pe_int) pe_int) pa_nil))))))
    (pss_one (ps_ret (pe_slice sl_list (pvI 2) po_none (po_some (pvI 1))))))))) ?_
    try dsimp only [L2.cxOf, L2.Cx.nox]
    refine ⟨Nat.zero_le _, fun r hr0 => ?_⟩
    refine ⟨_, rfl, _, rfl, a, _, rfl, (same_upd hr0).seq hS, fun sl hsl => ?_⟩
    have hrs : r ≠ sl := ne_of_none upd_same hsl
    refine ⟨sl, rfl, ⟨_, SqL.of upd_same⟩, ?_⟩
    have hlen : (cutV (ns.map V.int) none (some 63)).length ≤ 63 := by
      have := cutV_length (ns.map V.int) none (some 63)
      rw [List.length_map] at this; omega
    have hint : ∀ x ∈ cutV (ns.map V.int) none (some 63), ∃ i, x = V.int i := fun x hx => by
      have h1 : x ∈ ns.map V.int := List.mem_of_mem_drop (List.mem_of_mem_take hx)
      refine byC fun hG => ?_
      obtain ⟨i, _, e⟩ := List.mem_map.mp h1
      refine hG ?_
      exact ⟨i, e.symm⟩
    generalize cutV (ns.map V.int) none (some 63) = ys at hlen hint ⊢
    refine for_list (xs := ys) (fun i σ H' => DrawSt H H' a r sl n ys 0 (61 * i) σ) ?_ (fun i σ H' _ h => SqL.of h.slc) ?_ ?_
    · exact ⟨⟨[], 29, none, none, none, rfl, by decide, by decide, by rw [upd_ne hrs, upd_same]; rfl, Nat.zero_le _, Nat.zero_le _, fun _ h => nomatch h⟩, (same_upd hr0).trans (same_upd hsl), upd_same⟩
    · intro i x σ H' hx h
      refine byC fun hG => ?_
      obtain ⟨⟨row, seed, c, rest, k, rfl, s0, s1, hr', _, hrl, hd⟩, sm, hsl'⟩ := h
      obtain ⟨ce, rfl⟩ := hint x (List.mem_of_getElem? hx)
      have hi : i < 63 := by
        have : i < ys.length := by
          by_cases h : i < ys.length
          · exact h
          · rw [List.getElem?_eq_none (Nat.le_of_not_lt h)] at hx; cases hx
        omega
      refine hG ?_
      refine ⟨_, rfl, _, _, rfl, rfl, cmulR, _, rfl, _, _, rfl, rfl, pj, _, _, rfl, rfl, _, _, rfl, rfl, _, _, rfl, rfl, pj, ?_⟩
      refine ⟨_, rfl, _, _, rfl, rfl, ⟨by decide, by decide, by decide⟩, _, _, rfl, rfl, ?_⟩
      have s0' := Int.emod_nonneg (seed * 40009 + ce % 1000033 + 13) (by decide : (2147483629 : Int) ≠ 0)
      have s1' := Int.emod_lt_of_pos (seed * 40009 + ce % 1000033 + 13) (by decide : (0 : Int) < 2147483629)
      refine ⟨fun σ H'' => DrawSt H H'' a r sl n ys 0 (61 * i + 1) σ ∧ ∃ z, σ[5]? = some (some (V.int z)), ?_, ?_⟩
      · refine ⟨_, rfl, _, _, rfl, rfl, _, rfl, ite2 (fun _ => ?_) (fun _ => ?_)⟩
        · refine ⟨_, rfl, .inl ⟨rfl, _, SqL.of hr'⟩, _, rfl, _, _, rfl, rfl, pj, r, _, _, rfl, rfl, hr', small_line (by rw [List.length_map]; omega), ?_⟩
          rw [map_snoc]
          refine ⟨⟨⟨_, _, _, _, _, rfl, s0', s1', upd_same, Nat.zero_le _, ?_, hd.snoc (Int.emod_nonneg _ (by decide)) (Int.emod_lt_of_pos _ (by decide))⟩, ?_, by rw [upd_ne hrs.symm]; exact hsl'⟩, _, rfl⟩
          · rw [List.length_append, List.length_singleton]; omega
          · exact fun b o e => by rw [upd_ne (ne_of_none e hr0)]; exact sm b o e
        · exact ⟨⟨⟨row, _, _, _, _, rfl, s0', s1', hr', Nat.zero_le _, by omega, hd⟩, sm, hsl'⟩, _, rfl⟩
      · intro σ H'' zz1
        refine byC fun hG => ?_
        obtain ⟨h, z, hz⟩ := zz1
        refine hG ?_
        refine ⟨60, rfl, by decide, by decide, ?_⟩
        refine for_range (n := 60) (fun j σ H'' => DrawSt H H'' a r sl n ys 0 (61 * i + 1 + j) σ ∧ ∃ z, σ[5]? = some (some (V.int z))) ⟨h, z, hz⟩ ?_ ?_
        · intro j σ H'' hj zz2
          refine byC fun hG => ?_
          obtain ⟨⟨⟨row, seed, c, rest, k, rfl, s0, s1, hr', _, hrl, hd⟩, sm, hsl'⟩, z, hz⟩ := zz2
          refine hG ?_
          cases hz
          refine ⟨_, rfl, _, _, rfl, rfl, _, rfl, ite2 (fun hp => ?_) (fun _ => ?_)⟩
          · refine ⟨_, rfl, .inl ⟨rfl, _, SqL.of hr'⟩, _, rfl, _, _, rfl, rfl, pj, r, _, _, rfl, rfl, hr', small_line (by rw [List.length_map]; omega), ?_⟩
            rw [map_snoc]
            refine ⟨_, rfl, _, _, rfl, rfl, cdiv, ?_⟩
            refine ⟨⟨⟨_, seed, _, _, _, rfl, s0, s1, upd_same, Nat.zero_le _, ?_, hd.snoc (Int.emod_nonneg _ (by decide)) (Int.emod_lt_of_pos _ (by decide))⟩, ?_, by rw [upd_ne hrs.symm]; exact hsl'⟩, _, rfl⟩
            · rw [List.length_append, List.length_singleton]; omega
            · exact fun b o e => by rw [upd_ne (ne_of_none e hr0)]; exact sm b o e
          · exact ⟨⟨⟨row, seed, _, _, _, rfl, s0, s1, hr', Nat.zero_le _, by omega, hd⟩, sm, hsl'⟩, z, rfl⟩
        · intro σ H'' zz3
          refine byC fun hG => ?_
          obtain ⟨⟨⟨row, seed, c, rest, k, rfl, s0, s1, hr', _, hrl, hd⟩, sm, hsl'⟩, _⟩ := zz3
          refine hG ?_
          exact ⟨⟨row, seed, _, _, _, rfl, s0, s1, hr', Nat.zero_le _, by omega, hd⟩, sm, hsl'⟩
    · intro σ H' zz4
      refine byC fun hG => ?_
      obtain ⟨⟨row, seed, c, rest, k, rfl, s0, s1, hr', _, hrl, hd⟩, sm, hsl'⟩ := zz4
      refine hG ?_
      refine ⟨_, rfl, _, rfl, by omega, by omega, ?_⟩
      have en : ((n : Nat) : Int).toNat = n := by omega
      rw [en]
      refine for_range (n := n) (fun j σ H'' => DrawSt H H'' a r sl n ys j (61 * 63 + j) σ) ⟨⟨row, seed, _, _, _, rfl, s0, s1, hr', Nat.zero_le _, by omega, hd⟩, sm, hsl'⟩ ?_ ?_
      · intro j σ H'' hj zz5
        refine byC fun hG => ?_
        obtain ⟨⟨row, seed, c, rest, k, rfl, s0, s1, hr', hlo, hrl, hd⟩, sm, hsl'⟩ := zz5
        refine hG ?_
        refine ⟨_, rfl, _, rfl, _, _, rfl, rfl, .inl ⟨by omega, by omega⟩, _, rfl, _, _, rfl, rfl, cmulL, _, _, rfl, rfl, _, rfl, _, _, rfl, rfl, cmulL, _, _, rfl, rfl, _, _, rfl, rfl, _, _, rfl, rfl, pj, ?_⟩
        have s0' := Int.emod_nonneg (seed * seed + 69621 * seed + 7 * (0 + (j : Nat)) + 5) (by decide : (2147483629 : Int) ≠ 0)
        have s1' := Int.emod_lt_of_pos (seed * seed + 69621 * seed + 7 * (0 + (j : Nat)) + 5) (by decide : (0 : Int) < 2147483629)
        refine ⟨_, rfl, .inl ⟨rfl, _, SqL.of hr'⟩, _, rfl, _, _, rfl, rfl, cdiv, _, _, rfl, rfl, pj, r, _, _, rfl, rfl, hr', small_line (by rw [List.length_map]; omega), ?_⟩
        rw [map_snoc]
        refine ⟨⟨_, _, _, _, _, rfl, s0', s1', upd_same, ?_, ?_, hd.snoc (Int.emod_nonneg _ (by decide)) (Int.emod_lt_of_pos _ (by decide))⟩, ?_, by rw [upd_ne hrs.symm]; exact hsl'⟩
        · rw [List.length_append, List.length_singleton]; omega
        · rw [List.length_append, List.length_singleton]; omega
        · exact fun b o e => by rw [upd_ne (ne_of_none e hr0)]; exact sm b o e
      · intro σ H'' zz6
        refine byC fun hG => ?_
        obtain ⟨⟨row, seed, c, rest, k, rfl, s0, s1, hr', hlo, hrl, hd⟩, sm, hsl'⟩ := zz6
        refine hG ?_
        refine ⟨_, rfl, _, rfl, _, rfl, r, _, rfl, SqL.of hr', fun p hp => ?_⟩
        have ec : cutV (row.map V.int) none (some (n : Int)) = (row.take n).map V.int := by
          unfold cutV
          rw [HT.sIx_none, HT.sIx_nat, List.drop_zero, List.length_map, Nat.sub_zero, Nat.min_eq_left hlo, List.map_take]
        rw [ec]
        refine kk p (row.take n) _ (sm.free hp) (sm.trans (same_upd hp)) upd_same ?_ fun d hd' => hd d (List.mem_of_mem_take hd')
        rw [List.length_take]; omega
def sp__law_whole (K : PySem.W.Frag) : Sp := fun vs H Q _ => ∃ i : Int, vs = [.int i] ∧ Q (.bl true) H
theorem sc__law_whole : FnScope ["_law_found"] ["_law_found"] (defScope s__law_whole) := ⟨rfl, rfl, rfl, by decide +kernel, rfl, by decide +kernel, by decide +kernel⟩
set_option maxHeartbeats 4000000 in
theorem ok__law_whole (T : Txt w K mg A) : FnOk P w K mg base CX0 1 A.a__law_whole A.f__law_whole ["_law_found"] (sp__law_whole K) := by
  have nd := sc__law_whole.nd
  refine T.F__law_whole.ok sc__law_whole (fun vs H Q E h => ?_) (fun cdv Ar outer s H vs Q E hr h => ?_)
  · obtain ⟨i, rfl, _⟩ := h; rfl
  · skip
    obtain ⟨i, rfl, kk⟩ := h
    refine PSs.rd (pss_one (ps_ret (pe_and (pe_callB call_isiR rfl T.b_isinstance boot_isinstance (pa_cons (pvI 0) (pa_cons (pe_bltn (v := .ty "int") rfl T.b_int boot_ty_int rfl) pa_nil))) (pe_one (pe_not (pe_callB call_isiR rfl T.b_isinstance boot_isinstance (pa_cons (pvI 0) (pa_cons (pe_bltn (v := .ty "bool") rfl T.b_bool boot_ty_bool rfl) pa_nil)))))))) ?_
    try dsimp only [L2.cxOf, L2.Cx.nox]
    refine ⟨_, rfl, _, _, _, _, rfl, .int i, rfl, _, rfl, iteT ?_⟩
    exact ⟨_, rfl, _, _, _, _, rfl, .int i, rfl, _, rfl, kk⟩
def sp__law_wholes (K : PySem.W.Frag) : Sp := fun vs H Q _ => ∃ (p : Addr) (m : Int) (ns : List Int), vs = [.ref p, .int m] ∧ H p = some (.lst (ns.map V.int)) ∧ Q (.bl (decide ((ns.length : Int) = m))) H
theorem sc__law_wholes : FnScope ["_law_found", "_law_many", "_law_one"] ["_law_found", "_law_many"] (defScope s__law_wholes) := ⟨rfl, rfl, rfl, by decide +kernel, rfl, by decide +kernel, by decide +kernel⟩
set_option maxHeartbeats 4000000 in
theorem ok__law_wholes (T : Txt w K mg A) : FnOk P w K mg base CX0 2 A.a__law_wholes A.f__law_wholes ["_law_found", "_law_many"] (sp__law_wholes K) := by
  have nd := sc__law_wholes.nd
  have G__law_whole := ok__law_whole (P := P) (w := w) (base := base) T
  refine T.F__law_wholes.ok sc__law_wholes (fun vs H Q E h => ?_) (fun cdv Ar outer s H vs Q E hr h => ?_)
  · obtain ⟨p, m, ns, rfl, _⟩ := h; rfl
  · skip
    obtain ⟨p, m, ns, rfl, hp, kk⟩ := h
    refine PSs.rd (pss_cons (ps_if (PW.pt (pw_or (pt_not (pt_truth (pe_callB call_isiR rfl T.b_isinstance boot_isinstance (pa_cons (pvI 0) (pa_cons (pe_bltn (v := .ty "list") rfl T.b_list boot_ty_list rfl) pa_nil))) (fun _ => rfl))) (pw_or1 (pt_cmpR op_ne (pe_callB call_len_seq rfl T.b_len PySem.boot_len (pa_cons (pvI 0) pa_nil)) (pvI 1) (nomark _)))))
      (pss_one (ps_ret pe_bl))
      pss_nil)
    (pss_cons (ps_for PassesOwn.never rfl (pi_list (pvI 0)) (pg_name (i := 2) nd rfl (Or.inl rfl))
      (pss_one (ps_if (pt_not (pt_truth (pe_call (G__law_whole.mono (by decide)) hr rfl T.m__law_whole T.k__law_whole T.d__law_whole .nil pass0 (pa_cons (pvI 2) pa_nil)) (fun _ => rfl)))
         (pss_one (ps_ret pe_bl))
         pss_nil)))
    (pss_one (ps_ret pe_bl)))) ?_
    try dsimp only [L2.cxOf, L2.Cx.nox]
    refine ⟨_, rfl, _, _, _, _, rfl, .lst hp, rfl, _, rfl, iteF ?_⟩
    refine ⟨_, rfl, p, _, rfl, .inl (SqL.of hp), _, rfl, rfl, _, rfl, ?_⟩
    rw [List.length_map]
    have ed : decide (V.int ((ns.length : Nat) : Int) = V.int m) = decide (((ns.length : Nat) : Int) = m) := by
      by_cases h : ((ns.length : Nat) : Int) = m
      · rw [h, decide_eq_true rfl, decide_eq_true rfl]
      · rw [decide_eq_false h, decide_eq_false (fun z => h (V.int.inj z))]
    rw [ed]
    refine iteND (fun h => ?_) (fun h => ?_)
    · rw [decide_eq_false h] at kk; exact kk
    rw [decide_eq_true h] at kk
    refine ⟨_, rfl, p, rfl, ⟨_, SqL.of hp⟩, for_list (xs := ns.map V.int) (fun i σ H' => H' = H ∧ ∃ k, σ = [some (.ref p), some (.int m), k]) ⟨rfl, none, rfl⟩ (fun i σ H' _ h => by rw [h.1]; exact SqL.of hp) ?_ ?_⟩
    · intro i x σ H' hx zz1
      refine byC fun hG => ?_
      obtain ⟨rfl, k, rfl⟩ := zz1
      obtain ⟨z, _, rfl⟩ := List.mem_map.mp (List.mem_of_getElem? hx)
      refine hG ?_
      exact ⟨_, rfl, z, rfl, _, rfl, iteF ⟨rfl, _, rfl⟩⟩
    · intro σ H' zz2
      refine byC fun hG => ?_
      obtain ⟨rfl, k, rfl⟩ := zz2
      refine hG ?_
      exact kk
def sp__law_list (K : PySem.W.Frag) : Sp := fun vs H Q _ => ∃ (p q : Addr) (ns ms : List Int), vs = [.ref p, .ref q] ∧ H p = some (.lst (ns.map V.int)) ∧ SqL K H q (ms.map V.int) ∧ Q (.bl (decide (ns = ms))) H
theorem sc__law_list : FnScope ["_law_found", "_law_due_here"] ["_law_found", "_law_due_here"] (defScope s__law_list) := ⟨rfl, rfl, rfl, by decide +kernel, rfl, by decide +kernel, by decide +kernel⟩
set_option maxHeartbeats 4000000 in
theorem ok__law_list (T : Txt w K mg A) : FnOk P w K mg base CX0 3 A.a__law_list A.f__law_list ["_law_found", "_law_due_here"] (sp__law_list K) := by
  have nd := sc__law_list.nd
  have G__law_wholes := ok__law_wholes (P := P) (w := w) (base := base) T
  refine T.F__law_list.ok sc__law_list (fun vs H Q E h => ?_) (fun cdv Ar outer s H vs Q E hr h => ?_)
  · obtain ⟨p, q, ns, ms, rfl, _⟩ := h; rfl
  · skip
    obtain ⟨p, q, ns, ms, rfl, hp, hq, kk⟩ := h
    refine PSs.rd (pss_one (ps_ret (pe_and (pe_call (G__law_wholes.mono (by decide)) hr rfl T.m__law_wholes T.k__law_wholes T.d__law_wholes .nil pass0 (pa_cons (pvI 0) (pa_cons (pe_callB call_len_seq rfl T.b_len PySem.boot_len (pa_cons (pvI 1) pa_nil)) pa_nil))) (pe_one (pe_cmpR (op_eqL hr.units) (pvI 0) (pvI 1) (nomark _)))))) ?_
    try dsimp only [L2.cxOf, L2.Cx.nox]
    refine ⟨_, rfl, _, rfl, q, _, rfl, .inl hq, p, _, ns, rfl, hp, _, rfl, iteD (fun h => ?_) (fun h => ?_)⟩
    · exact ⟨_, rfl, _, rfl, p, q, ns, ms, rfl, rfl, SqL.of hp, hq, kk⟩
    · have e : ¬ ns = ms := fun z => h (by rw [z, List.length_map])
      rw [decide_eq_false e] at kk; exact kk
def sp__law_due (K : PySem.W.Frag) : Sp := fun vs H Q _ => ∃ w : Str, vs = [.str w] ∧ ∀ (r : Addr) (H' : Hp), H r = none → Same H H' → H' r = some (.lst ((seenL w).map V.bl)) → Q (.ref r) H'
theorem sc__law_due : FnScope ["_law_want", "_law_names"] ["_law_want"] (defScope s__law_due) := ⟨rfl, rfl, rfl, by decide +kernel, rfl, by decide +kernel, by decide +kernel⟩
set_option maxHeartbeats 4000000 in
theorem ok__law_due (T : Txt w K mg A) : FnOk P w K mg base CX0 1 A.a__law_due A.f__law_due ["_law_want"] (sp__law_due K) := by
  have nd := sc__law_due.nd
  refine T.F__law_due.ok sc__law_due (fun vs H Q E h => ?_) (fun cdv Ar outer s H vs Q E hr h => ?_)
  · obtain ⟨w, rfl, _⟩ := h; rfl
  · skip
    obtain ⟨w, rfl, kk⟩ := h
    refine PSs.rd (pss_cons (ps_set (i := 1) nd rfl (Or.inl rfl) (pe_lst (pa_cons pe_str (pa_cons pe_str (pa_cons pe_str (pa_cons pe_str (pa_cons pe_str (pa_cons pe_str (pa_cons pe_str (pa_cons pe_str pa_nil))))))))))
    (pss_cons (ps_set (i := 1) nd rfl (Or.inl rfl) (pe_op op_cat (pvI 1) (pe_lst (pa_cons pe_str (pa_cons pe_str (pa_cons pe_str (pa_cons pe_str (pa_cons pe_str (pa_cons pe_str (pa_cons pe_str (pa_cons pe_str pa_nil)))))))))))
    (pss_cons (ps_set (i := 1) nd rfl (Or.inl rfl) (pe_op op_cat (pvI 1) (pe_lst (pa_cons pe_str (pa_cons pe_str (pa_cons pe_str (pa_cons pe_str (pa_cons pe_str pa_nil))))))))
    (pss_one (ps_ret (pe_op op_cat (pe_lst (pa_cons pe_bl pa_nil)) (lcA (defScope s__law_due) (pi_list (pvI 1)) (fun _ _ _ _ _ => pgc 1) (fun _ _ _ _ _ => pts_nil) (fun _ _ _ _ _ => (pe_cmpR op_eq (pvI 1) (pvI 2) (nomark _)))))))))) ?_
    try dsimp only [L2.cxOf, L2.Cx.nox]
    refine ⟨by show 8 ≤ sizeLine; decide, fun a0 ha0 => ?_⟩
    have s0 := same_upd (o := .lst ((namesL.take 8).map V.str)) ha0
    refine ⟨_, rfl, by show 8 ≤ sizeLine; decide, fun b1 hb1 => ?_⟩
    have t1 := same_upd (o := .lst (((namesL.drop 8).take 8).map V.str)) hb1
    refine ⟨a0, b1, (namesL.take 8).map V.str, ((namesL.drop 8).take 8).map V.str, rfl, rfl, t1 _ _ upd_same, upd_same, by show 16 ≤ sizeLine; decide, fun a1 ha1 => ?_⟩
    have s1 := s0.trans (t1.trans (same_upd (o := .lst ((namesL.take 16).map V.str)) ha1))
    refine ⟨_, rfl, by show 5 ≤ sizeLine; decide, fun b2 hb2 => ?_⟩
    have t2 := same_upd (o := .lst ((namesL.drop 16).map V.str)) hb2
    refine ⟨a1, b2, (namesL.take 16).map V.str, (namesL.drop 16).map V.str, rfl, rfl, t2 _ _ upd_same, upd_same, by show 21 ≤ sizeLine; decide, fun a2 ha2 => ?_⟩
    have s2 := s1.trans (t2.trans (same_upd (o := .lst (namesL.map V.str)) ha2))
    refine ⟨by show 1 ≤ sizeLine; decide, fun z hz => ?_⟩
    have s3 := same_upd (o := .lst [V.bl true]) hz
    have h2 : (upd (upd (upd (upd (upd (upd H a0 (.lst ((namesL.take 8).map V.str))) b1 (.lst (((namesL.drop 8).take 8).map V.str))) a1 (.lst ((namesL.take 16).map V.str))) b2 (.lst ((namesL.drop 16).map V.str))) a2 (.lst (namesL.map V.str))) z (.lst [V.bl true])) a2 = some (.lst (namesL.map V.str)) := s3 _ _ upd_same
    refine ⟨_, rfl, a2, rfl, ⟨_, SqL.of h2⟩, ?_⟩
    refine lc_by (ws := (namesL.map fun n => decide (n = w)).map V.bl) (itOf_list (SqL.of h2)) (fun σ => ∃ x y, σ = [x, y, some (.str w)]) ⟨_, _, rfl⟩ (by rw [List.length_map, List.length_map, List.length_map]) (by show 21 ≤ sizeLine; decide) ?_ ?_
    · intro i x v σ2 H4 Qt Qf hx hk s4 zz1 q
      refine byC fun hG => ?_
      obtain ⟨x0, y0, rfl⟩ := zz1
      refine hG ?_
      rw [List.getElem?_map] at hx
      refine byC fun hG => ?_
      obtain ⟨n, hn, rfl⟩ := Option.map_eq_some_iff.mp hx
      refine hG ?_
      rw [List.map_map, List.getElem?_map, hn] at hk
      cases hk
      refine ⟨_, rfl, _, rfl, rfl, ?_⟩
      show Qt _ (V.bl (decide (V.str n = V.str w))) _
      rw [dec_strV]
      exact q _ ⟨_, _, rfl⟩
    intro D hD
    have s5 := same_upd (o := .lst ((namesL.map fun n => decide (n = w)).map V.bl)) hD
    refine ⟨z, D, [V.bl true], (namesL.map fun n => decide (n = w)).map V.bl, rfl, rfl, s5 _ _ upd_same, upd_same, by rw [List.length_map, List.length_map]; show 22 ≤ sizeLine; decide, fun r hr => ?_⟩
    exact kk r _ (s2.free (s3.free (s5.free hr))) (s2.trans (s3.trans (s5.trans (same_upd hr)))) upd_same
def sp__law_seen (K : PySem.W.Frag) (A : Adr) : Sp := fun vs H Q _ => ∃ (e C : Addr) (x : Str), vs = [.ref e] ∧ H e = some (ExcO e C) ∧ ErrIs K A C x ∧ ∀ (r : Addr) (H' : Hp), H r = none → Same H H' → H' r = some (.lst ((seenL x).map V.bl)) → Q (.ref r) H'
theorem sc__law_seen : FnScope ["_law_e", "_law_one"] ["_law_e"] (defScope s__law_seen) := ⟨rfl, rfl, rfl, by decide +kernel, rfl, by decide +kernel, by decide +kernel⟩
set_option maxHeartbeats 4000000 in
theorem ok__law_seen (T : Txt w K mg A) : FnOkH P w K mg base 1 A.a__law_seen A.f__law_seen ["_law_e"] (sp__law_seen K A) := by
  have nd := sc__law_seen.nd
  refine T.F__law_seen.okH sc__law_seen (fun vs H Q E h => ?_) (fun cdv Ar outer s H vs Q E hr h => ?_)
  · obtain ⟨e, C, x, rfl, _⟩ := h; rfl
  · skip
    obtain ⟨e, C, x, rfl, he, hE, kk⟩ := h
    obtain ⟨bBadHouses, eBadHouses, kBadHouses⟩ : ∃ b, b = decide (("BadHouses" : Str) = x) ∧ PySem.W.kitOne K (.ref C) (.ref A.c_BadHouses) = some b := ⟨_, rfl, hE.k_BadHouses⟩
    obtain ⟨bBadLines, eBadLines, kBadLines⟩ : ∃ b, b = decide (("BadLines" : Str) = x) ∧ PySem.W.kitOne K (.ref C) (.ref A.c_BadLines) = some b := ⟨_, rfl, hE.k_BadLines⟩
    obtain ⟨bBadCover, eBadCover, kBadCover⟩ : ∃ b, b = decide (("BadCover" : Str) = x) ∧ PySem.W.kitOne K (.ref C) (.ref A.c_BadCover) = some b := ⟨_, rfl, hE.k_BadCover⟩
    obtain ⟨bBadCrowns, eBadCrowns, kBadCrowns⟩ : ∃ b, b = decide (("BadCrowns" : Str) = x) ∧ PySem.W.kitOne K (.ref C) (.ref A.c_BadCrowns) = some b := ⟨_, rfl, hE.k_BadCrowns⟩
    obtain ⟨bBadLosses, eBadLosses, kBadLosses⟩ : ∃ b, b = decide (("BadLosses" : Str) = x) ∧ PySem.W.kitOne K (.ref C) (.ref A.c_BadLosses) = some b := ⟨_, rfl, hE.k_BadLosses⟩
    obtain ⟨bBadAccount, eBadAccount, kBadAccount⟩ : ∃ b, b = decide (("BadAccount" : Str) = x) ∧ PySem.W.kitOne K (.ref C) (.ref A.c_BadAccount) = some b := ⟨_, rfl, hE.k_BadAccount⟩
    obtain ⟨bUnbacked, eUnbacked, kUnbacked⟩ : ∃ b, b = decide (("Unbacked" : Str) = x) ∧ PySem.W.kitOne K (.ref C) (.ref A.c_Unbacked) = some b := ⟨_, rfl, hE.k_Unbacked⟩
    obtain ⟨bShort, eShort, kShort⟩ : ∃ b, b = decide (("Short" : Str) = x) ∧ PySem.W.kitOne K (.ref C) (.ref A.c_Short) = some b := ⟨_, rfl, hE.k_Short⟩
    obtain ⟨bDisagrees, eDisagrees, kDisagrees⟩ : ∃ b, b = decide (("Disagrees" : Str) = x) ∧ PySem.W.kitOne K (.ref C) (.ref A.c_Disagrees) = some b := ⟨_, rfl, hE.k_Disagrees⟩
    obtain ⟨bNoHouse, eNoHouse, kNoHouse⟩ : ∃ b, b = decide (("NoHouse" : Str) = x) ∧ PySem.W.kitOne K (.ref C) (.ref A.c_NoHouse) = some b := ⟨_, rfl, hE.k_NoHouse⟩
    obtain ⟨bNoCover, eNoCover, kNoCover⟩ : ∃ b, b = decide (("NoCover" : Str) = x) ∧ PySem.W.kitOne K (.ref C) (.ref A.c_NoCover) = some b := ⟨_, rfl, hE.k_NoCover⟩
    obtain ⟨bNoHappening, eNoHappening, kNoHappening⟩ : ∃ b, b = decide (("NoHappening" : Str) = x) ∧ PySem.W.kitOne K (.ref C) (.ref A.c_NoHappening) = some b := ⟨_, rfl, hE.k_NoHappening⟩
    obtain ⟨bNoLoss, eNoLoss, kNoLoss⟩ : ∃ b, b = decide (("NoLoss" : Str) = x) ∧ PySem.W.kitOne K (.ref C) (.ref A.c_NoLoss) = some b := ⟨_, rfl, hE.k_NoLoss⟩
    obtain ⟨bBadDay, eBadDay, kBadDay⟩ : ∃ b, b = decide (("BadDay" : Str) = x) ∧ PySem.W.kitOne K (.ref C) (.ref A.c_BadDay) = some b := ⟨_, rfl, hE.k_BadDay⟩
    obtain ⟨bBadTerms, eBadTerms, kBadTerms⟩ : ∃ b, b = decide (("BadTerms" : Str) = x) ∧ PySem.W.kitOne K (.ref C) (.ref A.c_BadTerms) = some b := ⟨_, rfl, hE.k_BadTerms⟩
    obtain ⟨bEndless, eEndless, kEndless⟩ : ∃ b, b = decide (("Endless" : Str) = x) ∧ PySem.W.kitOne K (.ref C) (.ref A.c_Endless) = some b := ⟨_, rfl, hE.k_Endless⟩
    obtain ⟨bSame, eSame, kSame⟩ : ∃ b, b = decide (("Same" : Str) = x) ∧ PySem.W.kitOne K (.ref C) (.ref A.c_Same) = some b := ⟨_, rfl, hE.k_Same⟩
    obtain ⟨bFull, eFull, kFull⟩ : ∃ b, b = decide (("Full" : Str) = x) ∧ PySem.W.kitOne K (.ref C) (.ref A.c_Full) = some b := ⟨_, rfl, hE.k_Full⟩
    obtain ⟨bBadDeed, eBadDeed, kBadDeed⟩ : ∃ b, b = decide (("BadDeed" : Str) = x) ∧ PySem.W.kitOne K (.ref C) (.ref A.c_BadDeed) = some b := ⟨_, rfl, hE.k_BadDeed⟩
    obtain ⟨bNothing, eNothing, kNothing⟩ : ∃ b, b = decide (("Nothing" : Str) = x) ∧ PySem.W.kitOne K (.ref C) (.ref A.c_Nothing) = some b := ⟨_, rfl, hE.k_Nothing⟩
    obtain ⟨bBadText, eBadText, kBadText⟩ : ∃ b, b = decide (("BadText" : Str) = x) ∧ PySem.W.kitOne K (.ref C) (.ref A.c_BadText) = some b := ⟨_, rfl, hE.k_BadText⟩
    have hseen : (seenL x).map V.bl = [.bl true, .bl bBadHouses, .bl bBadLines, .bl bBadCover, .bl bBadCrowns, .bl bBadLosses, .bl bBadAccount, .bl bUnbacked, .bl bShort, .bl bDisagrees, .bl bNoHouse, .bl bNoCover, .bl bNoHappening, .bl bNoLoss, .bl bBadDay, .bl bBadTerms, .bl bEndless, .bl bSame, .bl bFull, .bl bBadDeed, .bl bNothing, .bl bBadText] := by
      subst eBadHouses eBadLines eBadCover eBadCrowns eBadLosses eBadAccount eUnbacked eShort eDisagrees eNoHouse eNoCover eNoHappening eNoLoss eBadDay eBadTerms eEndless eSame eFull eBadDeed eNothing eBadText
      rfl
    refine PSs.rd (pss_cons (ps_set (i := 1) nd rfl (Or.inl rfl) (pe_lst (pa_cons (pe_callB call_isiE rfl T.b_isinstance boot_isinstance (pa_cons (pvI 0) (pa_cons (pe_bltn (v := .ty "ValueError") rfl T.b_ValueError boot_ty_ValueError rfl) pa_nil))) (pa_cons (pe_callB call_isiE rfl T.b_isinstance boot_isinstance (pa_cons (pvI 0) (pa_cons (pe_glob (v := .ref A.c_BadHouses) rfl T.mc_BadHouses rfl) pa_nil))) (pa_cons (pe_callB call_isiE rfl T.b_isinstance boot_isinstance (pa_cons (pvI 0) (pa_cons (pe_glob (v := .ref A.c_BadLines) rfl T.mc_BadLines rfl) pa_nil))) (pa_cons (pe_callB call_isiE rfl T.b_isinstance boot_isinstance (pa_cons (pvI 0) (pa_cons (pe_glob (v := .ref A.c_BadCover) rfl T.mc_BadCover rfl) pa_nil))) pa_nil))))))
    (pss_cons (ps_set (i := 1) nd rfl (Or.inl rfl) (pe_op op_cat (pvI 1) (pe_lst (pa_cons (pe_callB call_isiE rfl T.b_isinstance boot_isinstance (pa_cons (pvI 0) (pa_cons (pe_glob (v := .ref A.c_BadCrowns) rfl T.mc_BadCrowns rfl) pa_nil))) (pa_cons (pe_callB call_isiE rfl T.b_isinstance boot_isinstance (pa_cons (pvI 0) (pa_cons (pe_glob (v := .ref A.c_BadLosses) rfl T.mc_BadLosses rfl) pa_nil))) (pa_cons (pe_callB call_isiE rfl T.b_isinstance boot_isinstance (pa_cons (pvI 0) (pa_cons (pe_glob (v := .ref A.c_BadAccount) rfl T.mc_BadAccount rfl) pa_nil))) pa_nil))))))
    (pss_cons (ps_set (i := 1) nd rfl (Or.inl rfl) (pe_op op_cat (pvI 1) (pe_lst (pa_cons (pe_callB call_isiE rfl T.b_isinstance boot_isinstance (pa_cons (pvI 0) (pa_cons (pe_glob (v := .ref A.c_Unbacked) rfl T.mc_Unbacked rfl) pa_nil))) (pa_cons (pe_callB call_isiE rfl T.b_isinstance boot_isinstance (pa_cons (pvI 0) (pa_cons (pe_glob (v := .ref A.c_Short) rfl T.mc_Short rfl) pa_nil))) (pa_cons (pe_callB call_isiE rfl T.b_isinstance boot_isinstance (pa_cons (pvI 0) (pa_cons (pe_glob (v := .ref A.c_Disagrees) rfl T.mc_Disagrees rfl) pa_nil))) (pa_cons (pe_callB call_isiE rfl T.b_isinstance boot_isinstance (pa_cons (pvI 0) (pa_cons (pe_glob (v := .ref A.c_NoHouse) rfl T.mc_NoHouse rfl) pa_nil))) pa_nil)))))))
    (pss_cons (ps_set (i := 1) nd rfl (Or.inl rfl) (pe_op op_cat (pvI 1) (pe_lst (pa_cons (pe_callB call_isiE rfl T.b_isinstance boot_isinstance (pa_cons (pvI 0) (pa_cons (pe_glob (v := .ref A.c_NoCover) rfl T.mc_NoCover rfl) pa_nil))) (pa_cons (pe_callB call_isiE rfl T.b_isinstance boot_isinstance (pa_cons (pvI 0) (pa_cons (pe_glob (v := .ref A.c_NoHappening) rfl T.mc_NoHappening rfl) pa_nil))) (pa_cons (pe_callB call_isiE rfl T.b_isinstance boot_isinstance (pa_cons (pvI 0) (pa_cons (pe_glob (v := .ref A.c_NoLoss) rfl T.mc_NoLoss rfl) pa_nil))) (pa_cons (pe_callB call_isiE rfl T.b_isinstance boot_isinstance (pa_cons (pvI 0) (pa_cons (pe_glob (v := .ref A.c_BadDay) rfl T.mc_BadDay rfl) pa_nil))) pa_nil)))))))
    (pss_cons (ps_set (i := 1) nd rfl (Or.inl rfl) (pe_op op_cat (pvI 1) (pe_lst (pa_cons (pe_callB call_isiE rfl T.b_isinstance boot_isinstance (pa_cons (pvI 0) (pa_cons (pe_glob (v := .ref A.c_BadTerms) rfl T.mc_BadTerms rfl) pa_nil))) (pa_cons (pe_callB call_isiE rfl T.b_isinstance boot_isinstance (pa_cons (pvI 0) (pa_cons (pe_glob (v := .ref A.c_Endless) rfl T.mc_Endless rfl) pa_nil))) (pa_cons (pe_callB call_isiE rfl T.b_isinstance boot_isinstance (pa_cons (pvI 0) (pa_cons (pe_glob (v := .ref A.c_Same) rfl T.mc_Same rfl) pa_nil))) (pa_cons (pe_callB call_isiE rfl T.b_isinstance boot_isinstance (pa_cons (pvI 0) (pa_cons (pe_glob (v := .ref A.c_Full) rfl T.mc_Full rfl) pa_nil))) pa_nil)))))))
    (pss_one (ps_ret (pe_op op_cat (pvI 1) (pe_lst (pa_cons (pe_callB call_isiE rfl T.b_isinstance boot_isinstance (pa_cons (pvI 0) (pa_cons (pe_glob (v := .ref A.c_BadDeed) rfl T.mc_BadDeed rfl) pa_nil))) (pa_cons (pe_callB call_isiE rfl T.b_isinstance boot_isinstance (pa_cons (pvI 0) (pa_cons (pe_glob (v := .ref A.c_Nothing) rfl T.mc_Nothing rfl) pa_nil))) (pa_cons (pe_callB call_isiE rfl T.b_isinstance boot_isinstance (pa_cons (pvI 0) (pa_cons (pe_glob (v := .ref A.c_BadText) rfl T.mc_BadText rfl) pa_nil))) pa_nil)))))))))))) ?_
    rw [hseen] at kk
    refine ⟨_, rfl, e, _, _, _, _, rfl, he, hE.ec, (fun _ h => h), hE.kv, _, rfl, e, _, _, _, _, rfl, he, hE.ec, (fun _ h => h), kBadHouses, _, rfl, e, _, _, _, _, rfl, he, hE.ec, (fun _ h => h), kBadLines, _, rfl, e, _, _, _, _, rfl, he, hE.ec, (fun _ h => h), kBadCover, by show 4 ≤ sizeLine; decide, fun l0 hl0 => ?_⟩
    have s0 := same_upd (o := .lst [.bl true, .bl bBadHouses, .bl bBadLines, .bl bBadCover]) hl0
    have he0 := s0 _ _ he
    refine ⟨_, rfl, _, rfl, e, _, _, _, _, rfl, he0, hE.ec, (fun _ h => h), kBadCrowns, _, rfl, e, _, _, _, _, rfl, he0, hE.ec, (fun _ h => h), kBadLosses, _, rfl, e, _, _, _, _, rfl, he0, hE.ec, (fun _ h => h), kBadAccount, by show 3 ≤ sizeLine; decide, fun b1 hb1 => ?_⟩
    have t1 := same_upd (o := .lst [.bl bBadCrowns, .bl bBadLosses, .bl bBadAccount]) hb1
    refine ⟨l0, b1, [.bl true, .bl bBadHouses, .bl bBadLines, .bl bBadCover], [.bl bBadCrowns, .bl bBadLosses, .bl bBadAccount], rfl, rfl, t1 _ _ upd_same, upd_same, by show 7 ≤ sizeLine; decide, fun l1 hl1 => ?_⟩
    have s1 := s0.trans (t1.trans (same_upd (o := .lst [.bl true, .bl bBadHouses, .bl bBadLines, .bl bBadCover, .bl bBadCrowns, .bl bBadLosses, .bl bBadAccount]) hl1))
    have he1 := s1 _ _ he
    refine ⟨_, rfl, _, rfl, e, _, _, _, _, rfl, he1, hE.ec, (fun _ h => h), kUnbacked, _, rfl, e, _, _, _, _, rfl, he1, hE.ec, (fun _ h => h), kShort, _, rfl, e, _, _, _, _, rfl, he1, hE.ec, (fun _ h => h), kDisagrees, _, rfl, e, _, _, _, _, rfl, he1, hE.ec, (fun _ h => h), kNoHouse, by show 4 ≤ sizeLine; decide, fun b2 hb2 => ?_⟩
    have t2 := same_upd (o := .lst [.bl bUnbacked, .bl bShort, .bl bDisagrees, .bl bNoHouse]) hb2
    refine ⟨l1, b2, [.bl true, .bl bBadHouses, .bl bBadLines, .bl bBadCover, .bl bBadCrowns, .bl bBadLosses, .bl bBadAccount], [.bl bUnbacked, .bl bShort, .bl bDisagrees, .bl bNoHouse], rfl, rfl, t2 _ _ upd_same, upd_same, by show 11 ≤ sizeLine; decide, fun l2 hl2 => ?_⟩
    have s2 := s1.trans (t2.trans (same_upd (o := .lst [.bl true, .bl bBadHouses, .bl bBadLines, .bl bBadCover, .bl bBadCrowns, .bl bBadLosses, .bl bBadAccount, .bl bUnbacked, .bl bShort, .bl bDisagrees, .bl bNoHouse]) hl2))
    have he2 := s2 _ _ he
    refine ⟨_, rfl, _, rfl, e, _, _, _, _, rfl, he2, hE.ec, (fun _ h => h), kNoCover, _, rfl, e, _, _, _, _, rfl, he2, hE.ec, (fun _ h => h), kNoHappening, _, rfl, e, _, _, _, _, rfl, he2, hE.ec, (fun _ h => h), kNoLoss, _, rfl, e, _, _, _, _, rfl, he2, hE.ec, (fun _ h => h), kBadDay, by show 4 ≤ sizeLine; decide, fun b3 hb3 => ?_⟩
    have t3 := same_upd (o := .lst [.bl bNoCover, .bl bNoHappening, .bl bNoLoss, .bl bBadDay]) hb3
    refine ⟨l2, b3, [.bl true, .bl bBadHouses, .bl bBadLines, .bl bBadCover, .bl bBadCrowns, .bl bBadLosses, .bl bBadAccount, .bl bUnbacked, .bl bShort, .bl bDisagrees, .bl bNoHouse], [.bl bNoCover, .bl bNoHappening, .bl bNoLoss, .bl bBadDay], rfl, rfl, t3 _ _ upd_same, upd_same, by show 15 ≤ sizeLine; decide, fun l3 hl3 => ?_⟩
    have s3 := s2.trans (t3.trans (same_upd (o := .lst [.bl true, .bl bBadHouses, .bl bBadLines, .bl bBadCover, .bl bBadCrowns, .bl bBadLosses, .bl bBadAccount, .bl bUnbacked, .bl bShort, .bl bDisagrees, .bl bNoHouse, .bl bNoCover, .bl bNoHappening, .bl bNoLoss, .bl bBadDay]) hl3))
    have he3 := s3 _ _ he
    refine ⟨_, rfl, _, rfl, e, _, _, _, _, rfl, he3, hE.ec, (fun _ h => h), kBadTerms, _, rfl, e, _, _, _, _, rfl, he3, hE.ec, (fun _ h => h), kEndless, _, rfl, e, _, _, _, _, rfl, he3, hE.ec, (fun _ h => h), kSame, _, rfl, e, _, _, _, _, rfl, he3, hE.ec, (fun _ h => h), kFull, by show 4 ≤ sizeLine; decide, fun b4 hb4 => ?_⟩
    have t4 := same_upd (o := .lst [.bl bBadTerms, .bl bEndless, .bl bSame, .bl bFull]) hb4
    refine ⟨l3, b4, [.bl true, .bl bBadHouses, .bl bBadLines, .bl bBadCover, .bl bBadCrowns, .bl bBadLosses, .bl bBadAccount, .bl bUnbacked, .bl bShort, .bl bDisagrees, .bl bNoHouse, .bl bNoCover, .bl bNoHappening, .bl bNoLoss, .bl bBadDay], [.bl bBadTerms, .bl bEndless, .bl bSame, .bl bFull], rfl, rfl, t4 _ _ upd_same, upd_same, by show 19 ≤ sizeLine; decide, fun l4 hl4 => ?_⟩
    have s4 := s3.trans (t4.trans (same_upd (o := .lst [.bl true, .bl bBadHouses, .bl bBadLines, .bl bBadCover, .bl bBadCrowns, .bl bBadLosses, .bl bBadAccount, .bl bUnbacked, .bl bShort, .bl bDisagrees, .bl bNoHouse, .bl bNoCover, .bl bNoHappening, .bl bNoLoss, .bl bBadDay, .bl bBadTerms, .bl bEndless, .bl bSame, .bl bFull]) hl4))
    have he4 := s4 _ _ he
    refine ⟨_, rfl, _, rfl, e, _, _, _, _, rfl, he4, hE.ec, (fun _ h => h), kBadDeed, _, rfl, e, _, _, _, _, rfl, he4, hE.ec, (fun _ h => h), kNothing, _, rfl, e, _, _, _, _, rfl, he4, hE.ec, (fun _ h => h), kBadText, by show 3 ≤ sizeLine; decide, fun b5 hb5 => ?_⟩
    have t5 := same_upd (o := .lst [.bl bBadDeed, .bl bNothing, .bl bBadText]) hb5
    refine ⟨l4, b5, [.bl true, .bl bBadHouses, .bl bBadLines, .bl bBadCover, .bl bBadCrowns, .bl bBadLosses, .bl bBadAccount, .bl bUnbacked, .bl bShort, .bl bDisagrees, .bl bNoHouse, .bl bNoCover, .bl bNoHappening, .bl bNoLoss, .bl bBadDay, .bl bBadTerms, .bl bEndless, .bl bSame, .bl bFull], [.bl bBadDeed, .bl bNothing, .bl bBadText], rfl, rfl, t5 _ _ upd_same, upd_same, by show 22 ≤ sizeLine; decide, fun l5 hl5 => ?_⟩
    have s5 := s4.trans (t5.trans (same_upd (o := .lst [.bl true, .bl bBadHouses, .bl bBadLines, .bl bBadCover, .bl bBadCrowns, .bl bBadLosses, .bl bBadAccount, .bl bUnbacked, .bl bShort, .bl bDisagrees, .bl bNoHouse, .bl bNoCover, .bl bNoHappening, .bl bNoLoss, .bl bBadDay, .bl bBadTerms, .bl bEndless, .bl bSame, .bl bFull, .bl bBadDeed, .bl bNothing, .bl bBadText]) hl5))
    exact kk l5 _ (s4.free (t5.free hl5)) s5 upd_same
def sp__law_lines (K : PySem.W.Frag) : Sp := fun vs H Q _ => ∃ (h o : Nat) (d : Addr) (ds : List Int), vs = [.int h, .int o, .ref d] ∧ 2 ≤ h ∧ h ≤ 6 ∧ o < h ∧ SqL K H d (ds.map V.int) ∧ ds.length = 5 ∧ InD ds ∧
  ∀ (p : Addr) (L : List (Int × Int)) (H' : Hp), Same H H' → LinesAt K H' p L → GoodL L → (∀ l ∈ L, l.1 < (h : Int) ∧ l.1 ≠ (o : Int)) → L.length < h → Q (.ref p) H'
theorem sc__law_lines : FnScope ["_law_houses", "_law_house", "_law_draws_here", "_law_k", "_law_others", "_law_many", "_law_row", "_law_signer", "_law_line"] ["_law_houses", "_law_house", "_law_draws_here"] (defScope s__law_lines) := ⟨rfl, rfl, rfl, by decide +kernel, rfl, by decide +kernel, by decide +kernel⟩
set_option maxHeartbeats 4000000 in
theorem ok__law_lines (T : Txt w K mg A) : FnOk P w K mg base CX0 1 A.a__law_lines A.f__law_lines ["_law_houses", "_law_house", "_law_draws_here"] (sp__law_lines K) := by
  have nd := sc__law_lines.nd
  refine T.F__law_lines.ok sc__law_lines (fun vs H Q E h => ?_) (fun cdv Ar outer s H vs Q E hr h => ?_)
  · obtain ⟨h, o, d, ds, rfl, _⟩ := h; rfl
  · skip
    obtain ⟨h, o, d, ds, rfl, h2, h6, ho, hd, hd5, hD, kk⟩ := h
    obtain ⟨f1, f2, f3⟩ := othersOf_facts h (by omega) o ho
    refine PSs.rd (pss_cons (lcS (defScope s__law_lines) 4 nd (pi_range1 rfl T.b_range (pa_cons (pvI 0) pa_nil)) (fun _ _ _ _ _ => pgc 1) (fun _ _ _ _ _ => (pts_one (pt_cmpR op_ne (pvI 1) (pvI 2) (nomark _)))) (fun _ _ _ _ _ => (pvI 1)))
    (pss_cons (ps_set (i := 5) nd rfl (Or.inl rfl) (pe_op op_addI pe_int (pe_op op_modI (pe_ix (ix_listI K rfl) (pvI 2) pe_int (fun _ _ => rfl)) (pe_callB (call_min2 rfl) rfl T.b_min boot_min (pa_cons pe_int (pa_cons (pe_callB call_len_seq rfl T.b_len PySem.boot_len (pa_cons (pvI 4) pa_nil)) pa_nil))))))
    (pss_cons (ps_set (i := 6) nd rfl (Or.inl rfl) (pe_lst pa_nil))
    (pss_cons (ps_for PassesOwn.never rfl (pi_range1 rfl T.b_range (pa_cons (pvI 5) pa_nil)) (pg_name (i := 3) nd rfl (Or.inl rfl))
      (pss_cons (ps_set (i := 7) nd rfl (Or.inl rfl) (pe_bm PySem.F.plainAttrs_list PySem.F.slot_list_pop PySem.F.type_list_pop mt_popAt (pvI 4) (pa_cons (pe_op op_modI (pe_ix (ix_listI K rfl) (pvI 2) (pe_op op_addI pe_int (pvI 3)) (fun _ _ => rfl)) (pe_callB call_len_seq rfl T.b_len PySem.boot_len (pa_cons (pvI 4) pa_nil))) pa_nil)))
       (pss_cons (ps_set (i := 8) nd rfl (Or.inl rfl) (pe_op op_addI pe_int (pe_op op_modI (pe_op op_fdivI (pe_ix (ix_listI K rfl) (pvI 2) (pe_op op_addI pe_int (pvI 3)) (fun _ _ => rfl)) pe_int) pe_int)))
       (pss_cons (ps_cut (ps_if (pt_cmpR op_eq (pe_op op_modI (pe_op op_fdivI (pe_ix (ix_listI K rfl) (pvI 2) pe_int (fun _ _ => rfl)) pe_int) pe_int) pe_int (nomark _))
         (pss_one (ps_set (i := 8) nd rfl (Or.inl rfl) (pe_op op_addI pe_int (pe_op op_modI (pe_op op_fdivI (pe_ix (ix_listI K rfl) (pvI 2) (pe_op op_addI pe_int (pvI 3)) (fun _ _ => rfl)) pe_int) pe_int))))
         pss_nil))
       (pss_one (ps_expr (pe_bm PySem.F.plainAttrs_list PySem.F.slot_list_append PySem.F.type_list_append mt_append (pvI 6) (pa_cons (pe_tup (pa_cons (pvI 7) (pa_cons (pvI 8) pa_nil))) pa_nil))))))))
    (pss_one (ps_ret (pe_callTy call_tuple_of rfl T.b_tuple boot_ty_tuple (pa_cons (pvI 6) pa_nil)))))))) ?_
    try dsimp only [L2.cxOf, L2.Cx.nox]
    refine ⟨_, rfl, h, rfl, by omega, by omega, ?_⟩
    have en : ((h : Nat) : Int).toNat = h := by omega
    rw [en]
    refine lc_pure (itOf_rng 0 h) (fun σ => ∃ x y, σ = [x, y, some (.int o)]) (fun x => match x with | .int i => !decide (i = (o : Int)) | _ => true) id ?_ (Nat.le_of_lt (small_line (by rw [rngV_len]; omega))) ?_ ?_
    · exact ⟨_, _, rfl⟩
    · intro x σ2 H2 Qt Qf hx sm zz1 qt qf
      refine byC fun hG => ?_
      obtain ⟨a, b, rfl⟩ := zz1
      obtain ⟨i, _, rfl⟩ := List.mem_map.mp hx
      refine hG ?_
      refine ⟨_, rfl, _, rfl, rfl, _, rfl, ?_⟩
      have ed : decide (V.int (0 + (i : Nat)) = V.int (o : Int)) = decide ((0 : Int) + (i : Nat) = (o : Int)) := by
        by_cases e : (0 : Int) + (i : Nat) = (o : Int)
        · rw [e, decide_eq_true rfl, decide_eq_true rfl]
        · rw [decide_eq_false e, decide_eq_false (fun z => e (V.int.inj z))]
      rw [ed]
      refine iteND (fun e => ?_) (fun e => ?_)
      · exact ⟨_, rfl, qt (by show (!decide ((0 : Int) + (i : Nat) = (o : Int))) = true; rw [decide_eq_false e]; rfl) _ ⟨_, _, rfl⟩⟩
      · exact qf (by show (!decide ((0 : Int) + (i : Nat) = (o : Int))) = false; rw [decide_eq_true e]; rfl) _ ⟨_, _, rfl⟩
    intro oth hoth0
    have eo : ((rngV 0 h).filter (fun x => match x with | .int i => !decide (i = (o : Int)) | _ => true)).map id = (othersOf h o).map V.int := by
      unfold rngV othersOf
      rw [List.map_id, List.filter_map, List.filter_map, List.map_map]
      rfl
    rw [eo]
    have s1 : Same H (upd H oth (.lst ((othersOf h o).map V.int))) := same_upd hoth0
    -- many
    refine byC fun hG => ?_
    obtain ⟨d0, hd0⟩ := get_some (xs := ds) (i := 0) (by omega)
    have D0 := hD d0 (List.mem_of_getElem? hd0)
    refine hG ?_
    refine ⟨_, rfl, d, _, 0, _, rfl, rfl, s1.seq hd, atI_nat (j := 0) (by rw [List.getElem?_map, hd0]; rfl), _, rfl, oth, _, rfl, .inl (SqL.of upd_same), 4, _, rfl, _, _, rfl, rfl, ?_, _, _, rfl, rfl, ?_⟩
    · rw [List.length_map, f3]; split <;> omega
    rw [List.length_map, f3]
    have hm : ∃ many : Nat, (1 : Int) + d0 % (if (((h - 1 : Nat)) : Int) < 4 then (((h - 1 : Nat)) : Int) else 4) = (many : Int) ∧ 1 ≤ many ∧ many ≤ 4 ∧ many ≤ h - 1 := by
      refine ⟨(1 + d0 % (if (((h - 1 : Nat)) : Int) < 4 then (((h - 1 : Nat)) : Int) else 4)).toNat, ?_⟩
      split
      · have a1 := Int.emod_nonneg d0 (show (((h - 1 : Nat)) : Int) ≠ 0 by omega)
        have a2 := Int.emod_lt_of_pos d0 (show 0 < (((h - 1 : Nat)) : Int) by omega)
        omega
      · have a1 := Int.emod_nonneg d0 (show (4 : Int) ≠ 0 by omega)
        have a2 := Int.emod_lt_of_pos d0 (show 0 < (4 : Int) by omega)
        omega
    refine byC fun hG => ?_
    obtain ⟨many, em, m1, m4, mh⟩ := hm
    refine hG ?_
    -- row = []
    refine ⟨Nat.zero_le _, fun r hr0 => ?_⟩
    have hor : oth ≠ r := ne_of_none upd_same hr0
    refine ⟨_, rfl, many, ?_, by omega, by omega, ?_⟩
    · show [V.int _] = [V.int _]
      rw [← em]
    have en2 : ((many : Nat) : Int).toNat = many := by omega
    rw [en2]
    refine for_range (n := many) (fun i σ H' => LineSt K H H' h o d oth r many i (h - 1) σ) ?_ ?_ ?_
    · refine ⟨⟨othersOf h o, [], [], none, none, none, ?_, by rw [upd_ne hor]; exact upd_same, upd_same, ⟨rfl, fun i l e => by simp at e⟩, rfl, by rw [f3]; omega, f1, by simp, fun l hl => (nomatch hl), f2, fun l hl => (nomatch hl)⟩, s1.trans (same_upd hr0)⟩
      show [_, _, _, _, _, some (V.int _), _, _, _] = _
      rw [em]
    · intro i σ H' hi zz2
      refine byC fun hG => ?_
      obtain ⟨⟨os, L, us, k, sg, ln, rfl, hoth, hr', hP, hLl, hol, hnd, hLn, hdis, hos, hL⟩, sm⟩ := zz2
      have neor : oth ≠ r := hor
      obtain ⟨dk, hdk⟩ := get_some (xs := ds) (i := 1 + i) (by omega)
      have Dk := hD dk (List.mem_of_getElem? hdk)
      have hpos : 0 < os.length := by omega
      have b1 := Int.emod_nonneg dk (show ((os.length : Nat) : Int) ≠ 0 by omega)
      have b2 := Int.emod_lt_of_pos dk (show 0 < ((os.length : Nat) : Int) by omega)
      have hix : atI (ds.map V.int) ((1 : Int) + (0 + (i : Nat))) = some (V.int dk) := by
        have e : (1 : Int) + (0 + (i : Nat)) = ((1 + i : Nat) : Int) := by omega
        rw [e]; exact atI_nat (by rw [List.getElem?_map, hdk]; rfl)
      obtain ⟨sv, hsv⟩ := get_some (xs := os) (i := (dk % (os.length : Nat)).toNat) (by omega)
      have hsq : seqIndex? (dk % (os.length : Nat)) (os.map V.int).length = some (dk % (os.length : Nat)).toNat := by
        rw [List.length_map]; exact seqIndex_of b1 b2
      have hsm := List.mem_of_getElem? hsv
      refine hG ?_
      -- signer
      refine ⟨_, rfl, .inl ⟨rfl, _, SqL.of hoth⟩, _, rfl, _, rfl, _, _, rfl, rfl, d, _, _, _, rfl, rfl, sm.seq hd, hix, _, rfl, oth, _, rfl, .inl (SqL.of hoth), _, _, rfl, rfl, ?_, oth, _, _, (dk % (os.length : Nat)).toNat, V.int sv, rfl, rfl, hoth, ?_, ?_, ?_, ?_, ?_⟩
      · rw [List.length_map]; omega
      · rw [List.length_map]; omega
      · rw [List.length_map]; omega
      · rw [List.length_map] at hsq ⊢; exact hsq
      · rw [List.getElem?_map, hsv]; rfl
      rw [map_erase]
      have neq : ∀ b o', H b = some o' → b ≠ oth ∧ b ≠ r := fun b o' e => ⟨ne_of_none e hoth0, fun z => by subst z; rw [s1 _ _ e] at hr0; cases hr0⟩
      generalize eH : upd H' oth (.lst ((os.eraseIdx (dk % (os.length : Nat)).toNat).map V.int)) = H2
      have hoth2 : H2 oth = some (.lst ((os.eraseIdx (dk % (os.length : Nat)).toNat).map V.int)) := by rw [← eH]; exact upd_same
      have hr2 : H2 r = some (.lst us) := by rw [← eH, upd_ne hor.symm]; exact hr'
      have hP2 : PairsAt K H2 us L := by rw [← eH]; exact PairsAt.updL hP hoth
      have sm2 : Same H H2 := fun b o' e => by rw [← eH, upd_ne (neq b o' e).1]; exact sm b o' e
      -- line
      refine ⟨_, rfl, _, rfl, _, _, rfl, rfl, d, _, _, _, rfl, rfl, sm2.seq hd, hix, _, _, rfl, rfl, cdiv, _, _, rfl, rfl, pj, _, _, rfl, rfl, ?_⟩
      refine ⟨fun σ H3 => H3 = H2 ∧ ∃ ln : Int, 1 ≤ ln ∧ ln ≤ 20 ∧ σ = [some (.int h), some (.int o), some (.ref d), some (.int (0 + (i : Nat))), some (.ref oth), some (.int many), some (.ref r), some (.int sv), some (.int ln)], ?_, ?_⟩
      · refine ⟨_, rfl, d, _, 0, _, rfl, rfl, sm2.seq hd, atI_nat (j := 0) (by rw [List.getElem?_map, hd0]; rfl), _, _, rfl, rfl, cdiv, _, _, rfl, rfl, pj, rfl, _, rfl, iteD (fun _ => ?_) (fun _ => ?_)⟩
        · refine ⟨_, rfl, _, rfl, _, _, rfl, rfl, d, _, _, _, rfl, rfl, sm2.seq hd, hix, _, _, rfl, rfl, cdiv, _, _, rfl, rfl, pj, _, _, rfl, rfl, rfl, _, ?_, ?_, rfl⟩
          · have := Int.emod_nonneg (dk / 7) (show (3 : Int) ≠ 0 by decide); omega
          · have := Int.emod_lt_of_pos (dk / 7) (show (0 : Int) < 3 by decide); omega
        · refine ⟨rfl, _, ?_, ?_, rfl⟩
          · have := Int.emod_nonneg (dk / 7) (show (20 : Int) ≠ 0 by decide); omega
          · have := Int.emod_lt_of_pos (dk / 7) (show (0 : Int) < 20 by decide); omega
      intro σ H3 zz3
      refine byC fun hG => ?_
      obtain ⟨e3, ln2, n1, n20, rfl⟩ := zz3
      obtain rfl := e3.symm
      refine hG ?_
      -- row.append((signer, line))
      refine ⟨_, rfl, .inl ⟨rfl, _, SqL.of hr2⟩, _, rfl, _, rfl, by show 2 ≤ sizeLine; decide, fun t ht => ?_⟩
      have ntr : r ≠ t := ne_of_none hr2 ht
      have nto : oth ≠ t := ne_of_none hoth2 ht
      refine ⟨r, us, _, rfl, rfl, by rw [upd_ne ntr]; exact hr2, small_line (by have := hP.len; omega), ?_⟩
      have hP3 : PairsAt K (upd H2 t (.tup [.int sv, .int ln2])) us L := hP2.same (same_upd ht)
      have hr3 : (upd H2 t (.tup [.int sv, .int ln2])) r = some (.lst us) := by rw [upd_ne ntr]; exact hr2
      have hpt : PairAt K (upd H2 t (.tup [.int sv, .int ln2])) (.ref t) (sv, ln2) := ⟨t, rfl, SqT.of upd_same⟩
      refine ⟨⟨os.eraseIdx (dk % (os.length : Nat)).toNat, L ++ [(sv, ln2)], us ++ [.ref t], _, _, _, rfl, by rw [upd_ne hor, upd_ne nto]; exact hoth2, upd_same, PairsAt.updL (hP3.snoc hpt) hr3, by rw [List.length_append, hLl]; rfl, ?_, ?_, ?_, ?_, ?_, ?_⟩, ?_⟩
      · rw [List.length_eraseIdx_of_lt (by omega)]; omega
      · exact hnd.sublist (List.eraseIdx_sublist _ _)
      · rw [List.map_append]
        refine List.nodup_append.mpr ⟨hLn, by simp, fun a ha b hb e => ?_⟩
        simp at hb
        subst hb; subst e
        refine byC fun hG => ?_
        obtain ⟨l, hl, el⟩ := List.mem_map.mp ha
        refine hG ?_
        exact hdis l hl (el ▸ hsm)
      · intro l hl
        rcases List.mem_append.mp hl with hl | hl
        · exact fun z => hdis l hl ((List.eraseIdx_sublist _ _).subset z)
        · rw [List.mem_singleton.mp hl]; exact not_mem_erase hnd hsv
      · exact fun x hx => hos x ((List.eraseIdx_sublist _ _).subset hx)
      · intro l hl
        rcases List.mem_append.mp hl with hl | hl
        · exact hL l hl
        · rw [List.mem_singleton.mp hl]; exact ⟨hos sv hsm, n1, n20⟩
      · exact fun b o' e => by rw [upd_ne (neq b o' e).2, upd_ne (ne_of_none (sm2 b o' e) ht)]; exact sm2 b o' e
    · intro σ H' zz4
      refine byC fun hG => ?_
      obtain ⟨⟨os, L, us, k, sg, ln, rfl, hoth, hr', hP, hLl, hol, hnd, hLn, hdis, hos, hL⟩, sm⟩ := zz4
      refine hG ?_
      refine ⟨_, rfl, r, us, rfl, .inl ⟨SqL.of hr', fun t ht => ?_⟩⟩
      refine kk t L _ (sm.trans (same_upd ht)) ⟨us, SqT.of upd_same, hP.same (same_upd ht)⟩ ⟨by omega, by omega, hLn, fun l hl => ?_⟩ (fun l hl => ⟨(hL l hl).1.2.1, (hL l hl).1.2.2⟩) (by omega)
      have := hL l hl
      omega
def sp__law_cover (K : PySem.W.Frag) : Sp := fun vs H Q _ => ∃ (h : Nat) (d : Addr) (ds : List Int), vs = [.int h, .ref d] ∧ 2 ≤ h ∧ h ≤ 6 ∧ SqL K H d (ds.map V.int) ∧ ds.length = 9 ∧ InD ds ∧
  ∀ (p lp : Addr) (ho : Nat) (k : Str) (b m : Int) (L : List (Int × Int)) (H' : Hp), Same H H' → SqT K H' p [.int ho, .str k, .int b, .int m, .ref lp] → LinesAt K H' lp L → GoodL L → ho < h → (∀ l ∈ L, l.1 < (h : Int) ∧ l.1 ≠ (ho : Int)) → L.length < h → measB k b m = true → Q (.ref p) H'
theorem sc__law_cover : FnScope ["_law_houses", "_law_draws_here", "_law_house", "_law_kind", "_law_by", "_law_most"] ["_law_houses", "_law_draws_here"] (defScope s__law_cover) := ⟨rfl, rfl, rfl, by decide +kernel, rfl, by decide +kernel, by decide +kernel⟩
set_option maxHeartbeats 4000000 in
theorem ok__law_cover (T : Txt w K mg A) : FnOk P w K mg base CX0 2 A.a__law_cover A.f__law_cover ["_law_houses", "_law_draws_here"] (sp__law_cover K) := by
  have nd := sc__law_cover.nd
  have G__law_lines := ok__law_lines (P := P) (w := w) (base := base) T
  refine T.F__law_cover.ok sc__law_cover (fun vs H Q E h => ?_) (fun cdv Ar outer s H vs Q E hr h => ?_)
  · obtain ⟨h, d, ds, rfl, _⟩ := h; rfl
  · skip
    obtain ⟨h, d, ds, rfl, h2, h6, hd, hd9, hD, kk⟩ := h
    obtain ⟨d0, D0, i0⟩ := draw_at hD (i := 0) (by omega)
    obtain ⟨d1, D1, i1⟩ := draw_at hD (i := 1) (by omega)
    obtain ⟨d2, D2, i2⟩ := draw_at hD (i := 2) (by omega)
    obtain ⟨d3, D3, i3⟩ := draw_at hD (i := 3) (by omega)
    have hh : 0 < h := by omega
    have b0 := Nat.mod_lt d0 hh
    refine PSs.rd (pss_cons (ps_set (i := 2) nd rfl (Or.inl rfl) (pe_op op_modI (pe_ix (ix_listI K rfl) (pvI 1) pe_int (fun _ _ => rfl)) (pvI 0)))
    (pss_cons (ps_set (i := 3) nd rfl (Or.inl rfl) (pe_ix (ix_listI K rfl) (pe_lst (pa_cons pe_str (pa_cons pe_str pa_nil))) (pe_op op_modI (pe_ix (ix_listI K rfl) (pvI 1) pe_int (fun _ _ => rfl)) pe_int) (fun _ _ => rfl)))
    (pss_cons (ps_set (i := 4) nd rfl (Or.inl rfl) (pe_op op_modI (pe_ix (ix_listI K rfl) (pvI 1) pe_int (fun _ _ => rfl)) pe_int))
    (pss_cons (ps_cut (ps_if (pt_cmpR op_eq (pe_op op_modI (pe_op op_fdivI (pe_ix (ix_listI K rfl) (pvI 1) pe_int (fun _ _ => rfl)) pe_int) pe_int) pe_int (nomark _))
      (pss_one (ps_set (i := 4) nd rfl (Or.inl rfl) (pe_op op_modI (pe_ix (ix_listI K rfl) (pvI 1) pe_int (fun _ _ => rfl)) pe_int)))
      pss_nil))
    (pss_cons (ps_cut (ps_if (pt_cmpR op_eq (pvI 3) pe_str (nomark _))
      (pss_one (ps_set (i := 4) nd rfl (Or.inl rfl) (pe_ix (ix_listI K rfl) (pe_lst (pa_cons (pe_op op_addI pe_int (pe_op op_modI (pe_ix (ix_listI K rfl) (pvI 1) pe_int (fun _ _ => rfl)) pe_int)) (pa_cons pe_int (pa_cons (pe_op op_addI pe_int (pe_op op_modI (pe_ix (ix_listI K rfl) (pvI 1) pe_int (fun _ _ => rfl)) pe_int)) pa_nil)))) (pe_op op_modI (pe_op op_fdivI (pe_ix (ix_listI K rfl) (pvI 1) pe_int (fun _ _ => rfl)) pe_int) pe_int) (fun _ _ => rfl))))
      pss_nil))
    (pss_cons (ps_set (i := 5) nd rfl (Or.inl rfl) (pe_op op_modI (pe_ix (ix_listI K rfl) (pvI 1) pe_int (fun _ _ => rfl)) pe_int))
    (pss_one (ps_ret (pe_tup (pa_cons (pvI 2) (pa_cons (pvI 3) (pa_cons (pvI 4) (pa_cons (pvI 5) (pa_cons (pe_call (G__law_lines.mono (by decide)) hr rfl T.m__law_lines T.k__law_lines T.d__law_lines .nil pass0 (pa_cons (pvI 0) (pa_cons (pvI 2) (pa_cons (pe_slice sl_list (pvI 1) (po_some pe_int) (po_some pe_int)) pa_nil)))) pa_nil)))))))))))))) ?_
    try dsimp only [L2.cxOf, L2.Cx.nox]
    refine ⟨_, rfl, d, _, 0, _, rfl, rfl, hd, i0, _, rfl, _, _, rfl, rfl, by show (0 : Int) < _; omega, ?_⟩
    refine ⟨by show 2 ≤ sizeLine; decide, fun z hz => ?_⟩
    have sz : ∀ o, Same H (upd H z o) := fun o => same_upd hz
    refine ⟨_, rfl, d, _, 1, _, rfl, rfl, (sz _).seq hd, i1, _, _, rfl, rfl, pj, z, _, ((d1 % 2 : Nat) : Int), _, rfl, by show V.int _ = V.int _; rw [Int.natCast_emod]; rfl, SqL.of upd_same, ix2 (Nat.mod_lt _ (by decide)), ?_⟩
    generalize eH1 : upd H z (.lst [V.str "share", V.str "layer"]) = H1
    have s1 : Same H H1 := by rw [← eH1]; exact sz _
    have hk : ∃ k : Str, (if d1 % 2 = 0 then V.str "share" else V.str "layer") = V.str k ∧ (k = "share" ∨ k = "layer") := by
      by_cases e : d1 % 2 = 0
      · exact ⟨"share", by rw [if_pos e], .inl rfl⟩
      · exact ⟨"layer", by rw [if_neg e], .inr rfl⟩
    refine byC fun hG => ?_
    obtain ⟨k, ek, hk⟩ := hk
    refine hG ?_
    rw [ek]
    refine ⟨_, rfl, d, _, 2, _, rfl, rfl, s1.seq hd, i2, _, _, rfl, rfl, pj, ?_⟩
    refine ⟨fun σ H' => H' = H1 ∧ ∃ b : Int, σ = [some (.int h), some (.ref d), some (.int ((d0 % h : Nat) : Int)), some (.str k), some (.int b), none] ∧ 0 ≤ b ∧ b ≤ 200, ?_, ?_⟩
    · refine ⟨_, rfl, d, _, 1, _, rfl, rfl, s1.seq hd, i1, _, _, rfl, rfl, cdiv, _, _, rfl, rfl, pj, rfl, _, rfl, iteD (fun _ => ?_) (fun _ => ?_)⟩
      · exact ⟨_, rfl, d, _, 2, _, rfl, rfl, s1.seq hd, i2, _, _, rfl, rfl, pj, rfl, _, by rw [Int.natCast_emod]; rfl, by omega, by omega⟩
      · exact ⟨rfl, _, by rw [Int.natCast_emod]; rfl, by omega, by omega⟩
    intro σ H' zz1
    refine byC fun hG => ?_
    obtain ⟨e1, b, rfl, hb0, hb2⟩ := zz1
    obtain rfl := e1.symm
    refine hG ?_
    refine ⟨fun σ H' => Same H H' ∧ ∃ b : Int, σ = [some (.int h), some (.ref d), some (.int ((d0 % h : Nat) : Int)), some (.str k), some (.int b), none] ∧ (k = "share" → 1 ≤ b ∧ b ≤ 100) ∧ (k = "layer" → 0 ≤ b ∧ b ≤ 200), ?_, ?_⟩
    · refine ⟨_, rfl, rfl, _, rfl, ?_⟩
      rw [dec_strV]
      refine iteD (fun e => ?_) (fun e => ?_)
      · refine ⟨_, rfl, d, _, 2, _, rfl, rfl, s1.seq hd, i2, _, _, rfl, rfl, pj, _, _, rfl, rfl, _, rfl, d, _, 2, _, rfl, rfl, s1.seq hd, i2, _, _, rfl, rfl, pj, _, _, rfl, rfl, by show 3 ≤ sizeLine; decide, fun y hy => ?_⟩
        have s2 := s1.trans (same_upd (o := .lst [V.int (1 + (d2 : Int) % 100), V.int 100, V.int (50 + (d2 : Int) % 50)]) hy)
        refine ⟨_, rfl, d, _, 1, _, rfl, rfl, s2.seq hd, i1, _, _, rfl, rfl, cdiv, _, _, rfl, rfl, pj, y, _, ((d1 / 2 % 3 : Nat) : Int), _, rfl, by show V.int _ = V.int _; rw [Int.natCast_emod, Int.natCast_ediv]; rfl, SqL.of upd_same, ix3 (Nat.mod_lt _ (by decide)), s2, ?_⟩
        have hs : ¬ k = "layer" := fun z => share_ne (e.symm.trans z)
        by_cases f0 : d1 / 2 % 3 = 0
        · rw [if_pos f0]; exact ⟨_, rfl, fun _ => by omega, fun z => absurd z hs⟩
        · rw [if_neg f0]
          by_cases f1 : d1 / 2 % 3 = 1
          · rw [if_pos f1]; exact ⟨_, rfl, fun _ => by omega, fun z => absurd z hs⟩
          · rw [if_neg f1]; exact ⟨_, rfl, fun _ => by omega, fun z => absurd z hs⟩
      · exact ⟨s1, _, rfl, fun z => absurd z e, fun _ => ⟨hb0, hb2⟩⟩
    intro σ H2 zz2
    refine byC fun hG => ?_
    obtain ⟨s2, b, rfl, hs, hl⟩ := zz2
    refine hG ?_
    refine ⟨_, rfl, d, _, 3, _, rfl, rfl, s2.seq hd, i3, _, _, rfl, rfl, pj, ?_⟩
    refine ⟨_, rfl, _, rfl, _, rfl, _, rfl, _, rfl, _, rfl, _, rfl, 4, rfl, 9, rfl, d, _, rfl, s2.seq hd, fun sl hsl => ?_⟩
    have ecut : cutV (ds.map V.int) (some 4) (some 9) = ((ds.drop 4).take (9 - 4)).map V.int := cut_ints ds 4 9 (by omega) (by omega)
    rw [ecut]
    refine ⟨h, d0 % h, sl, (ds.drop 4).take (9 - 4), rfl, h2, h6, b0, SqL.of upd_same, by rw [cut_len _ _ _ (by omega)], cut_in hD _ _, fun lp L H3 s3 hlp g hL hLl => ?_⟩
    refine ⟨by show 5 ≤ sizeLine; decide, fun p hp => ?_⟩
    refine kk p lp (d0 % h) k b ((d3 % 25 : Nat) : Int) L _ (s2.trans ((same_upd hsl).trans (s3.trans (same_upd hp)))) ?_ (hlp.same (same_upd hp)) g b0 hL hLl ?_
    · have e3 : ((d3 % 25 : Nat) : Int) = (d3 : Int) % 25 := by omega
      rw [e3]
      exact SqT.of upd_same
    · unfold measB
      rcases hk with rfl | rfl
      · rw [if_pos rfl, decide_eq_true (hs rfl), Bool.true_and]; exact decide_eq_true (by omega)
      · rw [if_neg (fun z => share_ne z.symm), if_pos rfl, decide_eq_true (hl rfl), Bool.true_and]; exact decide_eq_true (by omega)
def sp__law_rows (K : PySem.W.Frag) : Sp := fun vs H Q _ => ∃ (h : Nat) (d : Addr) (ds : List Int), vs = [.int h, .ref d] ∧ 1 ≤ h ∧ h ≤ 6 ∧ SqL K H d (ds.map V.int) ∧ ds.length = 91 ∧ InD ds ∧
  ∀ (r : Addr) (us : List V) (cs : List Row) (H' : Hp), H r = none → Same H H' → H' r = some (.lst us) → CovsAt K H' us cs → cs.length ≤ 10 → (∀ c ∈ cs, GoodC h c) → Q (.ref r) H'
theorem sc__law_rows : FnScope ["_law_houses", "_law_draws_here", "_law_many", "_law_rows_here"] ["_law_houses", "_law_draws_here"] (defScope s__law_rows) := ⟨rfl, rfl, rfl, by decide +kernel, rfl, by decide +kernel, by decide +kernel⟩
set_option maxHeartbeats 4000000 in
theorem ok__law_rows (T : Txt w K mg A) : FnOk P w K mg base CX0 3 A.a__law_rows A.f__law_rows ["_law_houses", "_law_draws_here"] (sp__law_rows K) := by
  have nd := sc__law_rows.nd
  have G__law_cover := ok__law_cover (P := P) (w := w) (base := base) T
  refine T.F__law_rows.ok sc__law_rows (fun vs H Q E h => ?_) (fun cdv Ar outer s H vs Q E hr h => ?_)
  · obtain ⟨h, d, ds, rfl, _⟩ := h; rfl
  · skip
    obtain ⟨h, d, ds, rfl, h1, h6, hd, hdl, hD, kk⟩ := h
    obtain ⟨d0, D0, i0⟩ := draw_at hD (i := 0) (by omega)
    refine PSs.rd (pss_cons (ps_if (pt_cmpR op_eq (pvI 0) pe_int (nomark _))
      (pss_one (ps_ret (pe_lst pa_nil)))
      pss_nil)
    (pss_cons (ps_set (i := 2) nd rfl (Or.inl rfl) (pe_op op_modI (pe_ix (ix_listI K rfl) (pvI 1) pe_int (fun _ _ => rfl)) pe_int))
    (pss_cons (ps_set (i := 3) nd rfl (Or.inr rfl) (lcA (defScope s__law_rows) (pi_range1 rfl T.b_range (pa_cons (pvI 2) pa_nil)) (fun _ _ _ _ _ => pgc 1) (fun _ _ _ _ _ => pts_nil) (fun _ _ _ _ _ => (pe_call (G__law_cover.mono (by decide)) hr rfl T.m__law_cover T.k__law_cover T.d__law_cover .nil pass0 (pa_cons (pvI 4) (pa_cons (pe_slice (sl_listK K rfl) (pvI 3) (po_some (pe_op op_addI pe_int (pe_op op_mulI pe_int (pvI 1)))) (po_some (pe_op op_addI pe_int (pe_op op_mulI pe_int (pvI 1))))) pa_nil))))))
    (pss_cons (ps_cut (ps_if (pt_cmpR op_eq (pe_op op_modI (pe_op op_fdivI (pe_ix (ix_listI K rfl) (pvI 1) pe_int (fun _ _ => rfl)) pe_int) pe_int) pe_int (nomark _))
      (pss_one (ps_set (i := 3) nd rfl (Or.inr rfl) (lcA (defScope s__law_rows) (pi_range1 rfl T.b_range (pa_cons (pvI 2) pa_nil)) (fun _ _ _ _ _ => pgc 1) (fun _ _ _ _ _ => pts_nil) (fun _ _ _ _ _ => (pe_ix (ix_listI K rfl) (pvI 2) (pe_op op_fdivI (pvI 1) pe_int) (fun _ _ => rfl))))))
      pss_nil))
    (pss_one (ps_ret (pvI 3))))))) ?_
    try dsimp only [L2.cxOf, L2.Cx.nox]
    refine ⟨_, rfl, rfl, _, rfl, ?_⟩
    rw [dec_intV]
    refine iteD (fun _ => ?_) (fun hn1 => ?_)
    · refine ⟨Nat.zero_le _, fun l hl => ?_⟩
      exact kk l [] [] _ hl (same_upd hl) upd_same CovsAt.nil (Nat.zero_le _) fun c hc => by simp at hc
    refine ⟨_, rfl, d, _, 0, _, rfl, rfl, hd, i0, _, _, rfl, rfl, pj, ?_⟩
    have ec : (d0 : Int) % 11 = ((d0 % 11 : Nat) : Int) := by omega
    have hn : d0 % 11 ≤ 10 := by omega
    try dsimp only
    rw [ec]
    generalize d0 % 11 = n at ec hn
    refine ⟨_, rfl, n, rfl, by omega, by omega, ?_⟩
    have en : ((n : Nat) : Int).toNat = n := by omega
    rw [en]
    refine lc_growD (itG_range (H := H) (lo := 0) (n := n)) (fun σ => ∃ x0 x1 x2, σ = [x0, x1, x2, some (.ref d), some (.int h)])
      (fun D i ys H' => ∃ cs : List Row, cs.length = i ∧ CovsAt K H' ys cs ∧ ∀ c ∈ cs, GoodC h c) ⟨_, _, _, rfl⟩ (Nat.le_of_lt (small_line (by omega))) ?_ ?_ ?_ ?_ ?_
    · exact fun D H' => ⟨[], rfl, CovsAt.nil, fun c hc => by simp at hc⟩
    · intro D i ys H2 H3 zz1 s3
      refine byC fun hG => ?_
      obtain ⟨cs, e1, e2, e3⟩ := zz1
      refine hG ?_
      exact ⟨cs, e1, e2.same s3, e3⟩
    · intro D i ys zs H2 o hD2 zz2
      refine byC fun hG => ?_
      obtain ⟨cs, e1, e2, e3⟩ := zz2
      refine hG ?_
      exact ⟨cs, e1, e2.updL hD2, e3⟩
    · intro D i x ys σ2 H2 Qt Qf hi hyl zz3 hD2 s2 zz4 zz5 q
      refine byC fun hG => ?_
      subst zz3
      obtain ⟨x0, x1, x2, rfl⟩ := zz4
      obtain ⟨cs, e1, e2, e3⟩ := zz5
      refine hG ?_
      refine ⟨_, rfl, _, rfl, _, rfl, _, _, rfl, rfl, .inl ⟨by decide, by decide⟩, _, _, rfl, rfl, _, rfl, _, rfl, _, _, rfl, rfl, .inl ⟨by decide, by decide⟩, _, _, rfl, rfl, _, rfl, d, _, rfl, s2.seq hd, fun sl hsl => ?_⟩
      have ec2 : cutV (ds.map V.int) (some (1 + 9 * (0 + (i : Nat) : Int))) (some (10 + 9 * (0 + (i : Nat) : Int))) = ((ds.drop (1 + 9 * i)).take ((10 + 9 * i) - (1 + 9 * i))).map V.int := by
        have a1 : (1 + 9 * (0 + (i : Nat) : Int)) = ((1 + 9 * i : Nat) : Int) := by omega
        have a2 : (10 + 9 * (0 + (i : Nat) : Int)) = ((10 + 9 * i : Nat) : Int) := by omega
        rw [a1, a2]; exact cut_ints ds _ _ (by omega) (by omega)
      rw [ec2]
      refine ⟨h, sl, _, rfl, by omega, h6, SqL.of upd_same, by rw [cut_len _ _ _ (by omega)]; omega, cut_in hD _ _, fun p lp ho k b m L H3 s3 hrow hL gL hho hot hLl hms => ?_⟩
      have gl4 := gL.l4
      refine q _ _ _ ⟨_, _, _, rfl⟩ ((same_upd hsl).trans s3) ⟨cs ++ [((ho : Int), k, b, m, L)], by rw [List.length_append, e1]; rfl, (e2.same ((same_upd hsl).trans s3)).snoc ⟨p, rfl, lp, hrow, hL, by omega⟩, fun c hc => ?_⟩
      rcases List.mem_append.mp hc with hc | hc
      · exact e3 c hc
      · rw [List.mem_singleton.mp hc]
        exact ⟨⟨Int.natCast_nonneg _, by show (ho : Int) < h; omega⟩, hms, gL, hot⟩
    · intro r H2 us hr s2 hr2 hul zz6
      refine byC fun hG => ?_
      obtain ⟨cs, e1, e2, e3⟩ := zz6
      have hds2 := s2.seq hd
      refine hG ?_
      refine ⟨fun σ H' => ∃ r us cs, σ = [some (.int h), some (.ref d), some (.int n), some (.ref r)] ∧ H r = none ∧ Same H H' ∧ H' r = some (.lst us) ∧ CovsAt K H' us cs ∧ cs.length ≤ 10 ∧ ∀ c ∈ cs, GoodC h c, ?_, ?_⟩
      · refine ⟨_, rfl, d, _, 0, _, rfl, rfl, hds2, i0, _, _, rfl, rfl, cdiv, _, _, rfl, rfl, pj, rfl, _, rfl, iteD (fun _ => ?_) (fun _ => ?_)⟩
        · refine ⟨_, rfl, n, rfl, by omega, by omega, ?_⟩
          rw [en]
          refine lc_fG (fun i => us[i / 2]?) (itG_range (H := H2) (lo := 0) (n := n)) (fun σ => ∃ x0 x1, σ = [x0, x1, some (.ref r)]) ⟨_, _, rfl⟩ (Nat.le_of_lt (small_line (by omega))) ?_ ?_
          · intro i x σ2 H3 Qt Qf hi zz7 s3 zz8 qt qf
            refine byC fun hG => ?_
            subst zz7
            obtain ⟨x0, x1, rfl⟩ := zz8
            obtain ⟨v, hv⟩ := get_some (xs := us) (i := i / 2) (by omega)
            have ei : (0 + (i : Nat) : Int) / 2 = ((i / 2 : Nat) : Int) := by omega
            refine hG ?_
            refine ⟨_, rfl, _, rfl, _, _, rfl, rfl, cdiv, r, _, _, v, rfl, rfl, SqL.of (s3 _ _ hr2), ?_, qt v _ _ hv ⟨_, _, rfl⟩ (Same.refl _)⟩
            show atI us ((0 + (i : Nat) : Int) / 2) = _
            rw [ei]; exact atI_nat hv
          · rintro D H3 hD3 s3 hD4
            refine ⟨D, _, _, rfl, s2.free hD3, s2.trans s3, hD4, (e2.same s3).pick (fun i => i / 2) n fun i hi => by omega, ?_, fun c hc => e3 c (mem_pick hc)⟩
            have := List.length_filterMap_le (fun i => cs[i / 2]?) (List.range n)
            rw [List.length_range] at this
            omega
        · exact ⟨r, us, cs, rfl, hr, s2, hr2, e2, by omega, e3⟩
      · intro σ H3 zz9
        refine byC fun hG => ?_
        obtain ⟨r, us, cs, rfl, hr, s3, hr3, e2, e4, e3⟩ := zz9
        refine hG ?_
        exact ⟨_, rfl, kk r us cs H3 hr s3 hr3 e2 e4 e3⟩
def sp__law_losses (K : PySem.W.Frag) : Sp := fun vs H Q _ => ∃ (h : Nat) (d : Addr) (ds : List Int), vs = [.int h, .ref d] ∧ h ≤ 6 ∧ SqL K H d (ds.map V.int) ∧ ds.length = 7 ∧ InD ds ∧
  ∀ (r : Addr) (ls : List Int) (H' : Hp), H r = none → Same H H' → H' r = some (.lst (ls.map V.int)) → ls.length = h → (∀ x ∈ ls, 0 ≤ x ∧ x ≤ 9999) → Q (.ref r) H'
theorem sc__law_losses : FnScope ["_law_houses", "_law_draws_here", "_law_row", "_law_k", "_law_d"] ["_law_houses", "_law_draws_here"] (defScope s__law_losses) := ⟨rfl, rfl, rfl, by decide +kernel, rfl, by decide +kernel, by decide +kernel⟩
set_option maxHeartbeats 4000000 in
theorem ok__law_losses (T : Txt w K mg A) : FnOk P w K mg base CX0 1 A.a__law_losses A.f__law_losses ["_law_houses", "_law_draws_here"] (sp__law_losses K) := by
  have nd := sc__law_losses.nd
  refine T.F__law_losses.ok sc__law_losses (fun vs H Q E h => ?_) (fun cdv Ar outer s H vs Q E hr h => ?_)
  · obtain ⟨h, d, ds, rfl, _⟩ := h; rfl
  · skip
    obtain ⟨h, d, ds, rfl, h6, hd, hdl, hD, kk⟩ := h
    obtain ⟨d0, D0, i0⟩ := draw_at hD (i := 0) (by omega)
    refine PSs.rd (pss_cons (ps_set (i := 2) nd rfl (Or.inl rfl) (pe_lst pa_nil))
    (pss_cons (ps_for PassesOwn.never rfl (pi_range1 rfl T.b_range (pa_cons (pvI 0) pa_nil)) (pg_name (i := 3) nd rfl (Or.inl rfl))
      (pss_cons (ps_set (i := 4) nd rfl (Or.inl rfl) (pe_ix (ix_listI K rfl) (pvI 1) (pe_op op_addI pe_int (pvI 3)) (fun _ _ => rfl)))
       (pss_one (ps_expr (pe_bm PySem.F.plainAttrs_list PySem.F.slot_list_append PySem.F.type_list_append mt_append (pvI 2) (pa_cons (pe_ix (ix_listI K rfl) (pe_lst (pa_cons pe_int (pa_cons (pe_op op_modI (pvI 4) pe_int) (pa_cons (pe_op op_modI (pvI 4) pe_int) (pa_cons (pe_op op_modI (pvI 4) pe_int) (pa_cons (pe_op op_modI (pe_op op_mulI (pvI 4) pe_int) pe_int) pa_nil)))))) (pe_op op_modI (pe_op op_addI (pe_ix (ix_listI K rfl) (pvI 1) pe_int (fun _ _ => rfl)) (pe_op op_fdivI (pvI 4) pe_int)) pe_int) (fun _ _ => rfl)) pa_nil))))))
    (pss_one (ps_ret (pvI 2))))) ?_
    try dsimp only [L2.cxOf, L2.Cx.nox]
    refine ⟨Nat.zero_le _, fun r hr => ?_⟩
    refine ⟨_, rfl, h, rfl, by omega, by omega, ?_⟩
    have en : ((h : Nat) : Int).toNat = h := by omega
    rw [en]
    refine for_range (n := h) (fun i σ H' => ∃ (ls : List Int) (x y : Option V), σ = [some (.int h), some (.ref d), some (.ref r), x, y] ∧ Same H H' ∧ H' r = some (.lst (ls.map V.int)) ∧ ls.length = i ∧ ∀ x ∈ ls, 0 ≤ x ∧ x ≤ 9999) ⟨[], none, none, rfl, same_upd hr, upd_same, rfl, fun x hx => by simp at hx⟩ ?_ ?_
    · intro i σ H' hi zz1
      refine byC fun hG => ?_
      obtain ⟨ls, x, y, rfl, s1, hr1, hl, hb⟩ := zz1
      obtain ⟨dk, Dk, ik⟩ := draw_at hD (i := 1 + i) (by omega)
      have e1 : (1 : Int) + (0 + (i : Nat)) = ((1 + i : Nat) : Int) := by omega
      refine hG ?_
      refine ⟨_, rfl, _, rfl, _, _, rfl, rfl, d, _, _, _, rfl, rfl, s1.seq hd, (by show atI _ ((1 : Int) + (0 + (i : Nat))) = _; rw [e1]; exact ik), ?_⟩
      refine ⟨_, rfl, .inl ⟨rfl, _, SqL.of hr1⟩, ?_⟩
      refine ⟨_, rfl, _, _, rfl, rfl, pj, _, rfl, _, _, rfl, rfl, pj, _, rfl, _, _, rfl, rfl, pj, _, rfl, _, _, rfl, rfl, cmulR, _, _, rfl, rfl, pj, by show 5 ≤ sizeLine; decide, fun z hz => ?_⟩
      have sz := same_upd (o := .lst ([0, (dk : Int) % 12, (dk : Int) % 90, (dk : Int) % 300, (dk : Int) * 9 % 10000].map V.int)) hz
      have e5 : ((d0 : Int) + (dk : Int) / 300) % 5 = (((d0 + dk / 300) % 5 : Nat) : Int) := by omega
      have hlt : (d0 + dk / 300) % 5 < 5 := by omega
      generalize (d0 + dk / 300) % 5 = m at e5 hlt
      have hv : ∃ v : Int, atI ([0, (dk : Int) % 12, (dk : Int) % 90, (dk : Int) % 300, (dk : Int) * 9 % 10000].map V.int) (m : Int) = some (V.int v) ∧ 0 ≤ v ∧ v ≤ 9999 := by
        match m, hlt with
        | 0, _ => exact ⟨_, rfl, by omega, by omega⟩
        | 1, _ => exact ⟨_, rfl, by omega, by omega⟩
        | 2, _ => exact ⟨_, rfl, by omega, by omega⟩
        | 3, _ => exact ⟨_, rfl, by omega, by omega⟩
        | 4, _ => exact ⟨_, rfl, by omega, by omega⟩
      refine byC fun hG => ?_
      obtain ⟨v, hv, v0, v9⟩ := hv
      refine hG ?_
      refine ⟨_, rfl, d, _, 0, _, rfl, rfl, sz.seq (s1.seq hd), i0, _, rfl, _, _, rfl, rfl, cdiv, _, _, rfl, rfl, _, _, rfl, rfl, pj, z, _, _, _, rfl, rfl, SqL.of upd_same, (by show atI _ (((d0 : Int) + (dk : Int) / 300) % 5) = _; rw [e5]; exact hv), ?_⟩
      have nrz : r ≠ z := fun q => by rw [← q, hr1] at hz; cases hz
      refine ⟨r, _, _, rfl, rfl, sz _ _ hr1, small_line (by rw [List.length_map]; omega), ls ++ [v], _, _, rfl, fun b o e => ?_, by rw [upd_same, map_snoc], by rw [List.length_append, hl]; rfl, fun x hx => ?_⟩
      · rw [upd_ne (ne_of_none e hr)]; exact sz _ _ (s1 b o e)
      · rcases List.mem_append.mp hx with hx | hx
        · exact hb x hx
        · rw [List.mem_singleton.mp hx]; exact ⟨v0, v9⟩
    · intro σ H' zz2
      refine byC fun hG => ?_
      obtain ⟨ls, x, y, rfl, s1, hr1, hl, hb⟩ := zz2
      refine hG ?_
      exact ⟨_, rfl, kk r ls H' hr s1 hr1 hl hb⟩
def sp__law_made (K : PySem.W.Frag) : Sp := fun vs H Q _ => ∃ (d : Addr) (ds : List Int), vs = [.ref d] ∧ SqL K H d (ds.map V.int) ∧ 99 ≤ ds.length ∧ InD ds ∧
  ∀ (p r lo : Addr) (h : Nat) (us : List V) (cs : List Row) (ls : List Int) (H' : Hp), Same H H' → SqT K H' p [.int h, .ref r, .ref lo] → H r = none → H lo = none → r ≠ lo → H' r = some (.lst us) → CovsAt K H' us cs → H' lo = some (.lst (ls.map V.int)) → GoodT h cs ls → Q (.ref p) H'
theorem sc__law_made : FnScope ["_law_draws_here", "_law_houses"] ["_law_draws_here"] (defScope s__law_made) := ⟨rfl, rfl, rfl, by decide +kernel, rfl, by decide +kernel, by decide +kernel⟩
set_option maxHeartbeats 4000000 in
theorem ok__law_made (T : Txt w K mg A) : FnOk P w K mg base CX0 4 A.a__law_made A.f__law_made ["_law_draws_here"] (sp__law_made K) := by
  have nd := sc__law_made.nd
  have G__law_losses := ok__law_losses (P := P) (w := w) (base := base) T
  have G__law_rows := ok__law_rows (P := P) (w := w) (base := base) T
  refine T.F__law_made.ok sc__law_made (fun vs H Q E h => ?_) (fun cdv Ar outer s H vs Q E hr h => ?_)
  · obtain ⟨d, ds, rfl, _⟩ := h; rfl
  · skip
    obtain ⟨d, ds, rfl, hd, hdl, hD, kk⟩ := h
    obtain ⟨d0, D0, i0⟩ := draw_at hD (i := 0) (by omega)
    refine PSs.rd (pss_cons (ps_set (i := 1) nd rfl (Or.inl rfl) (pe_op op_addI pe_int (pe_op op_modI (pe_op op_addI (pe_ix (ix_listI K rfl) (pvI 0) pe_int (fun _ _ => rfl)) pe_int) pe_int)))
    (pss_one (ps_ret (pe_tup (pa_cons (pvI 1) (pa_cons (pe_call (G__law_rows.mono (by decide)) hr rfl T.m__law_rows T.k__law_rows T.d__law_rows .nil pass0 (pa_cons (pvI 1) (pa_cons (pe_slice sl_list (pvI 0) (po_some pe_int) (po_some pe_int)) pa_nil))) (pa_cons (pe_call (G__law_losses.mono (by decide)) hr rfl T.m__law_losses T.k__law_losses T.d__law_losses .nil pass0 (pa_cons (pvI 1) (pa_cons (pe_slice sl_list (pvI 0) (po_some pe_int) (po_some pe_int)) pa_nil))) pa_nil))))))) ?_
    try dsimp only [L2.cxOf, L2.Cx.nox]
    refine ⟨_, rfl, d, _, 0, _, rfl, rfl, hd, i0, _, _, rfl, rfl, _, _, rfl, rfl, pj, _, _, rfl, rfl, ?_⟩
    try dsimp only
    have e1 : (1 : Int) + ((d0 : Int) + 3) % 6 = ((1 + (d0 + 3) % 6 : Nat) : Int) := by omega
    rw [e1]
    have hh1 : 1 ≤ 1 + (d0 + 3) % 6 := by omega
    have hh6 : 1 + (d0 + 3) % 6 ≤ 6 := by omega
    generalize 1 + (d0 + 3) % 6 = h at hh1 hh6
    refine ⟨_, rfl, _, rfl, _, rfl, 8, rfl, 99, rfl, d, _, rfl, hd, fun sl hsl => ?_⟩
    have ec : cutV (ds.map V.int) (some 8) (some 99) = ((ds.drop 8).take (99 - 8)).map V.int := cut_ints ds 8 99 (by omega) (by omega)
    rw [ec]
    refine ⟨h, sl, _, rfl, hh1, hh6, SqL.of upd_same, by rw [cut_len _ _ _ (by omega)], cut_in hD _ _, fun r us cs H1 hr s1 hr1 hcs hcl hcg => ?_⟩
    have s1' := (same_upd hsl).trans s1
    refine ⟨_, rfl, _, rfl, 1, rfl, 8, rfl, d, _, rfl, s1'.seq hd, fun sl2 hsl2 => ?_⟩
    have ec2 : cutV (ds.map V.int) (some 1) (some 8) = ((ds.drop 1).take (8 - 1)).map V.int := cut_ints ds 1 8 (by omega) (by omega)
    rw [ec2]
    refine ⟨h, sl2, _, rfl, hh6, SqL.of upd_same, by rw [cut_len _ _ _ (by omega)], cut_in hD _ _, fun lo ls H2 hlo s2 hlo2 hll hlb => ?_⟩
    have s2' := (same_upd hsl2).trans s2
    have hr2 := s2' _ _ hr1
    have hlo0 : H lo = none := s1'.free ((same_upd hsl2).free hlo)
    have nrl : r ≠ lo := fun z => by have := (same_upd hsl2 (o := .lst (((ds.drop 1).take (8 - 1)).map V.int))) _ _ hr1; rw [z, hlo] at this; cases this
    refine ⟨by show 3 ≤ sizeLine; decide, fun p hp => ?_⟩
    exact kk p r lo h us cs ls _ ((s1'.trans s2').trans (same_upd hp)) (SqT.of upd_same) (same_upd hsl |>.free hr) hlo0 nrl (same_upd hp _ _ hr2) ((hcs.same s2').same (same_upd hp)) (same_upd hp _ _ hlo2) ⟨hh1, hh6, hcl, hcg, hll, hlb⟩
def sp__law_split (K : PySem.W.Frag) : Sp := fun vs H Q _ => ∃ (p : Addr) (n : Nat) (L : List (Int × Int)), vs = [.ref p, .int n] ∧ LinesAt K H p L ∧ 1 ≤ L.length ∧ L.length ≤ 1000 ∧ SmallL L ∧ n ≤ 1000 ∧
  ∀ (r : Addr) (qs : List Addr) (H' : Hp), H r = none → Same H H' → H' r = some (.lst (qs.map V.ref)) → qs.length = n + 1 → RowsAt H' (L.map (·.2)) qs n → Q (.ref r) H'
theorem sc__law_split : FnScope ["_law_lines_here", "_law_most", "_law_borne", "_law_rows_here", "_law_crown", "_law_best", "_law_at", "_law_here"] ["_law_lines_here", "_law_most"] (defScope s__law_split) := ⟨rfl, rfl, rfl, by decide +kernel, rfl, by decide +kernel, by decide +kernel⟩
set_option maxHeartbeats 4000000 in
theorem ok__law_split (T : Txt w K mg A) : FnOk P w K mg base CX0 1 A.a__law_split A.f__law_split ["_law_lines_here", "_law_most"] (sp__law_split K) := by
  have nd := sc__law_split.nd
  refine T.F__law_split.ok sc__law_split (fun vs H Q E h => ?_) (fun cdv Ar outer s H vs Q E hr h => ?_)
  · obtain ⟨p, n, L, rfl, _⟩ := h; rfl
  · skip
    obtain ⟨p, n, L, rfl, hp, h1, hl, sml, hn, kk⟩ := h
    obtain ⟨us, hp1, hu⟩ := hp.ex
    have hlen := hu.len
    refine PSs.rd (pss_cons (ps_set (i := 2) nd rfl (Or.inl rfl) (pe_op op_rep (pe_lst (pa_cons pe_int pa_nil)) (pe_callB call_len_seq rfl T.b_len PySem.boot_len (pa_cons (pvI 0) pa_nil))))
    (pss_cons (ps_set (i := 3) nd rfl (Or.inl rfl) (pe_lst (pa_cons (pe_callTy call_list_of rfl T.b_list boot_ty_list (pa_cons (pvI 2) pa_nil)) pa_nil)))
    (pss_cons (ps_for PassesOwn.never rfl (pi_range1 rfl T.b_range (pa_cons (pvI 1) pa_nil)) (pg_name (i := 4) nd rfl (Or.inl rfl))
      (pss_cons (ps_set (i := 5) nd rfl (Or.inl rfl) pe_int)
       (pss_cons (ps_for PassesOwn.never rfl (pi_range1 rfl T.b_range (pa_cons (pe_callB call_len_seq rfl T.b_len PySem.boot_len (pa_cons (pvI 0) pa_nil)) pa_nil)) (pg_name (i := 6) nd rfl (Or.inl rfl))
         (pss_cons (ps_set (i := 7) nd rfl (Or.inl rfl) (pe_op op_mulI (pe_op op_addI (pe_ix (ix_listI K rfl) (pvI 2) (pvI 6) (fun _ _ => rfl)) pe_int) (pe_ix (ix_tupI K rfl) (pe_ix (ix_tupI K rfl) (pvI 0) (pvI 5) (fun _ _ => rfl)) pe_int (fun _ _ => rfl))))
          (pss_one (ps_if (pt_cmpR op_ltI (pvI 7) (pe_op op_mulI (pe_op op_addI (pe_ix (ix_listI K rfl) (pvI 2) (pvI 5) (fun _ _ => rfl)) pe_int) (pe_ix (ix_tupI K rfl) (pe_ix (ix_tupI K rfl) (pvI 0) (pvI 6) (fun _ _ => rfl)) pe_int (fun _ _ => rfl))) (nomark _))
            (pss_one (ps_set (i := 5) nd rfl (Or.inl rfl) (pvI 6)))
            pss_nil))))
       (pss_cons (ps_asg (pe_op op_addI (pe_ix (ix_listI K rfl) (pvI 2) (pvI 5) (fun _ _ => rfl)) pe_int) (pg_sub (pvI 2) (pvI 5) set_list))
       (pss_one (ps_expr (pe_bm PySem.F.plainAttrs_list PySem.F.slot_list_append PySem.F.type_list_append mt_append (pvI 3) (pa_cons (pe_callTy call_list_of rfl T.b_list boot_ty_list (pa_cons (pvI 2) pa_nil)) pa_nil))))))))
    (pss_one (ps_ret (pvI 3)))))) ?_
    try dsimp only [L2.cxOf, L2.Cx.nox]
    refine ⟨by show 1 ≤ sizeLine; decide, fun z hz => ?_⟩
    have sz : Same H (upd H z (.lst [V.int 0])) := same_upd hz
    refine ⟨_, rfl, p, us, rfl, .inr (sz.tupS hp1), z, _, _, rfl, rfl, upd_same, by omega, by omega, ?_, fun b hb => ?_⟩
    · have : 1 * ((us.length : Nat) : Int).toNat ≤ 1000 := by omega
      exact Nat.le_of_lt (small_line (by show 1 * ((us.length : Nat) : Int).toNat ≤ 100000; omega))
    have enl : ((us.length : Nat) : Int).toNat = L.length := by omega
    rw [enl, flat_rep]
    have sb := same_upd (o := .lst ((List.replicate L.length (0 : Int)).map V.int)) hb
    refine ⟨_, rfl, b, _, rfl, .inl (SqL.of upd_same), fun c0 hc0 => ?_⟩
    have sc := same_upd (o := .lst ((List.replicate L.length (0 : Int)).map V.int)) hc0
    refine ⟨by show 1 ≤ sizeLine; decide, fun rw hrw => ?_⟩
    have nbc : b ≠ c0 := ne_of_none upd_same hc0
    have nbr : b ≠ rw := ne_of_none (sc _ _ upd_same) hrw
    have ncr : c0 ≠ rw := ne_of_none upd_same hrw
    have hb0 : H b = none := sz.free hb
    have hrw0 : H rw = none := sz.free (sb.free (sc.free hrw))
    have hls : (L.map (·.2)).length = L.length := List.length_map _
    refine ⟨_, rfl, n, rfl, by omega, by omega, ?_⟩
    have en : ((n : Nat) : Int).toNat = n := by omega
    rw [en]
    refine for_range (n := n) (fun i σ H' => SplitSt H H' p b rw n (L.map (·.2)) i σ) ?_ ?_ ?_
    · refine ⟨⟨[c0], none, none, none, none, rfl, upd_same, rfl, fun k hk => ⟨c0, ?_, ?_⟩, fun q hq => ?_⟩, ?_, sz.trans (sb.trans (sc.trans (same_upd hrw)))⟩
      · have : k = 0 := by omega
        subst this; rfl
      · have : k = 0 := by omega
        subst this
        rw [upd_ne ncr, upd_same, Mt.deal, hls]
      · rw [List.mem_singleton.mp hq]; exact ⟨nbc.symm, ncr⟩
      · rw [upd_ne nbr, upd_ne nbc, upd_same, Mt.deal, hls]
    · intro i σ H' hi zz1
      refine byC fun hG => ?_
      obtain ⟨⟨qs, c, be, at_, he, rfl, hrw', hql, hrows, hqn⟩, hbo, sm⟩ := zz1
      have hbl : (Mt.deal (L.map (·.2)) i).length = L.length := by rw [Mt.deal_length, hls]
      have hu' := hu.same sm
      have hp' := sm.tupS hp1
      refine hG ?_
      refine ⟨_, rfl, p, us, rfl, .inr hp', _, rfl, by omega, by omega, ?_⟩
      rw [enl]
      refine for_range (n := L.length) (fun j σ H2 => H2 = H' ∧ ∃ at_ he, σ = [some (.ref p), some (.int n), some (.ref b), some (.ref rw), some (.int (0 + (i : Nat))), some (.int (Mt.pickTo (L.map (·.2)) (Mt.deal (L.map (·.2)) i) j : Nat)), at_, he]) ⟨rfl, _, _, rfl⟩ ?_ ?_
      · intro j σ H2 hj zz2
        refine byC fun hG => ?_
        obtain ⟨rfl, at_, he, rfl⟩ := zz2
        have hbest : Mt.pickTo (L.map (·.2)) (Mt.deal (L.map (·.2)) i) j < L.length := by
          rcases Nat.eq_zero_or_pos j with e | e
          · subst e; exact h1
          · exact Nat.lt_trans (Mt.pickTo_lt _ _ _ e) hj
        have epl : (0 : Int) + (j : Nat) = ((j : Nat) : Int) := by omega
        refine hG ?_
        rw [epl]
        have estp := Mt.pickTo_succ (L.map (·.2)) (Mt.deal (L.map (·.2)) i) j
        generalize Mt.pickTo (L.map (·.2)) (Mt.deal (L.map (·.2)) i) j = best at hbest estp ⊢
        refine byC fun hG => ?_
        obtain ⟨q1, a1, i1, t1, _⟩ := hu'.ix hbest
        obtain ⟨q2, a2, i2, t2, _⟩ := hu'.ix (i := j) hj
        refine hG ?_
        refine ⟨_, rfl, _, rfl, b, _, _, _, rfl, rfl, SqL.of hbo, ix_of (by omega), _, _, rfl, rfl, _, rfl, _, rfl, p, _, _, _, rfl, rfl, hp', i1, q1, _, 1, _, rfl, rfl, t1, rfl, _, _, rfl, rfl, .inr (sml.get _), ?_⟩
        refine ⟨_, rfl, _, rfl, _, rfl, b, _, _, _, rfl, rfl, SqL.of hbo, ix_of (by omega), _, _, rfl, rfl, _, rfl, _, rfl, p, _, _, _, rfl, rfl, hp', i2, q2, _, 1, _, rfl, rfl, t2, rfl, _, _, rfl, rfl, .inr (sml.get _), ?_⟩
        refine ⟨_, _, rfl, rfl, _, rfl, iteD (fun hc => ?_) (fun hc => ?_)⟩
        · have e2 : Mt.pickTo (L.map (·.2)) (Mt.deal (L.map (·.2)) i) (j + 1) = j := by rw [estp]; unfold Mt.stp; rw [if_pos hc]
          rw [e2]
          exact ⟨_, rfl, rfl, _, _, rfl⟩
        · have e2 : Mt.pickTo (L.map (·.2)) (Mt.deal (L.map (·.2)) i) (j + 1) = best := by rw [estp]; unfold Mt.stp; rw [if_neg hc]
          rw [e2]
          exact ⟨rfl, _, _, rfl⟩
      · intro σ H2 zz3
        refine byC fun hG => ?_
        obtain ⟨rfl, at_, he, rfl⟩ := zz3
        have epk : Mt.pickTo (L.map (·.2)) (Mt.deal (L.map (·.2)) i) L.length = Mt.pick (L.map (·.2)) (Mt.deal (L.map (·.2)) i) := by unfold Mt.pick; rw [hls]
        refine hG ?_
        rw [epk]
        have hpk : Mt.pick (L.map (·.2)) (Mt.deal (L.map (·.2)) i) < (Mt.deal (L.map (·.2)) i).length := by
          rw [Mt.deal_length]; exact Mt.pick_lt (by rw [hls]; omega)
        refine ⟨_, rfl, _, rfl, b, _, _, _, rfl, rfl, SqL.of hbo, ix_of hpk, _, _, rfl, rfl, _, rfl, _, rfl, b, _, _, Mt.pick (L.map (·.2)) (Mt.deal (L.map (·.2)) i), rfl, rfl, hbo, ixN_nat (by rw [List.length_map]; exact hpk), ?_⟩
        have eset : ((Mt.deal (L.map (·.2)) i).map V.int).set (Mt.pick (L.map (·.2)) (Mt.deal (L.map (·.2)) i)) (V.int ((Mt.deal (L.map (·.2)) i).getD (Mt.pick (L.map (·.2)) (Mt.deal (L.map (·.2)) i)) 0 + 1)) = (Mt.deal (L.map (·.2)) (i + 1)).map V.int := by
          rw [Mt.deal, Mt.give, List.map_set]
        rw [eset]
        generalize eH : upd H2 b (.lst ((Mt.deal (L.map (·.2)) (i + 1)).map V.int)) = H3
        have hb3 : H3 b = some (.lst ((Mt.deal (L.map (·.2)) (i + 1)).map V.int)) := by rw [← eH]; exact upd_same
        have hr3 : H3 rw = some (.lst (qs.map V.ref)) := by rw [← eH, upd_ne nbr.symm]; exact hrw'
        refine ⟨_, rfl, .inl ⟨rfl, _, SqL.of hr3⟩, _, rfl, b, _, rfl, .inl (SqL.of hb3), fun c1 hc1 => ?_⟩
        have nb1 : b ≠ c1 := ne_of_none hb3 hc1
        have nr1 : rw ≠ c1 := ne_of_none hr3 hc1
        refine ⟨rw, _, _, rfl, rfl, by rw [upd_ne nr1]; exact hr3, small_line (by rw [List.length_map]; omega), ?_⟩
        refine ⟨⟨qs ++ [c1], _, _, _, _, rfl, by rw [upd_same, List.map_append]; rfl, by rw [List.length_append, hql]; rfl, fun k hk => ?_, fun q hq => ?_⟩, by rw [upd_ne nbr, upd_ne nb1]; exact hb3, fun x o e => ?_⟩
        · by_cases ek : k ≤ i
          · obtain ⟨q, hq, hq2⟩ := hrows k ek
            have nq := hqn q (List.mem_of_getElem? hq)
            refine ⟨q, by rw [List.getElem?_append_left (get_lt hq)]; exact hq, ?_⟩
            have hq3 : H3 q = some (.lst ((Mt.deal (L.map (·.2)) k).map V.int)) := by rw [← eH, upd_ne nq.1]; exact hq2
            rw [upd_ne nq.2, upd_ne (ne_of_none hq3 hc1)]
            exact hq3
          · have ek' : k = i + 1 := by omega
            subst ek'
            refine ⟨c1, by rw [List.getElem?_append_right (by omega), hql, Nat.sub_self]; rfl, ?_⟩
            rw [upd_ne nr1.symm, upd_same]
        · rcases List.mem_append.mp hq with hq | hq
          · exact hqn q hq
          · rw [List.mem_singleton.mp hq]; exact ⟨nb1.symm, nr1.symm⟩
        · have e1 : x ≠ b := ne_of_none e hb0
          have e2 : x ≠ rw := ne_of_none e hrw0
          have e3 : H3 x = some o := by rw [← eH, upd_ne e1]; exact sm x o e
          rw [upd_ne e2, upd_ne (ne_of_none e3 hc1)]
          exact e3
    · intro σ H' zz4
      refine byC fun hG => ?_
      obtain ⟨⟨qs, c, be, at_, he, rfl, hrw', hql, hrows, hqn⟩, hbo, sm⟩ := zz4
      refine hG ?_
      exact ⟨_, rfl, kk rw qs H' hrw0 sm hrw' hql hrows⟩
def sp__law_splits (K : PySem.W.Frag) : Sp := fun vs H Q _ => ∃ (cv : Addr) (us : List V) (cs : List Row) (h : Nat), vs = [.ref cv] ∧ SqL K H cv us ∧ CovsAt K H us cs ∧ cs.length ≤ 10 ∧ (∀ c ∈ cs, GoodC h c) ∧
  ∀ (r : Addr) (ss : List Addr) (H' : Hp), H r = none → Same H H' → H' r = some (.lst (ss.map V.ref)) → SplitsAt H' cs ss → Q (.ref r) H'
theorem sc__law_splits : FnScope ["_law_covers"] ["_law_covers"] (defScope s__law_splits) := ⟨rfl, rfl, rfl, by decide +kernel, rfl, by decide +kernel, by decide +kernel⟩
set_option maxHeartbeats 4000000 in
theorem ok__law_splits (T : Txt w K mg A) : FnOk P w K mg base CX0 2 A.a__law_splits A.f__law_splits ["_law_covers"] (sp__law_splits K) := by
  have nd := sc__law_splits.nd
  have G__law_split := ok__law_split (P := P) (w := w) (base := base) T
  refine T.F__law_splits.ok sc__law_splits (fun vs H Q E h => ?_) (fun cdv Ar outer s H vs Q E hr h => ?_)
  · obtain ⟨cv, us, cs, h, rfl, _⟩ := h; rfl
  · skip
    obtain ⟨cv, us, cs, h, rfl, hcv, hcs, h10, hg, kk⟩ := h
    have hlen := hcs.len
    refine PSs.rd (pss_one (ps_ret (lcA (defScope s__law_splits) (pi_list (pvI 0)) (fun _ _ _ _ _ => pgc 1) (fun _ _ _ _ _ => pts_nil) (fun _ _ _ _ _ => (pe_call (G__law_split.mono (by decide)) hr rfl T.m__law_split T.k__law_split T.d__law_split .nil pass0 (pa_cons (pe_ix (ix_tupI K rfl) (pvI 1) pe_int (fun _ _ => rfl)) (pa_cons (pe_ix (ix_tupI K rfl) (pvI 1) pe_int (fun _ _ => rfl)) pa_nil))))))) ?_
    try dsimp only [L2.cxOf, L2.Cx.nox]
    refine ⟨_, rfl, cv, rfl, ⟨us, hcv⟩, ?_⟩
    refine lc_growD (itG_of (itOf_list hcv)) (fun σ => ∃ x0 x1 x2, σ = [x0, x1, x2])
      (fun D i ys H' => ∃ ss : List Addr, ys = ss.map V.ref ∧ ss.length = i ∧ ∀ (k : Nat) (c : Row) (s : Addr), cs[k]? = some c → ss[k]? = some s → s ≠ D ∧ ∃ qs : List Addr, H' s = some (.lst (qs.map V.ref)) ∧ ∀ j, j ≤ c.2.2.2.1.toNat → ∃ q, qs[j]? = some q ∧ q ≠ D ∧ H' q = some (.lst ((Mt.deal (c.2.2.2.2.map (·.2)) j).map V.int)))
      ⟨_, _, _, rfl⟩ (Nat.le_of_lt (small_line (by omega))) ?_ ?_ ?_ ?_ ?_
    · exact fun D H' => ⟨[], rfl, rfl, fun k c s _ e => by simp at e⟩
    · intro D i ys H2 H3 zz1 s3
      refine byC fun hG => ?_
      obtain ⟨ss, e1, e2, e3⟩ := zz1
      refine hG ?_
      refine ⟨ss, e1, e2, fun k c s z1 z2 => ?_⟩
      refine byC fun hG => ?_
      obtain ⟨n1, qs, a, b⟩ := e3 k c s z1 z2
      refine hG ?_
      exact ⟨n1, qs, s3 _ _ a, fun j hj => let ⟨q, y1, y2, y3⟩ := b j hj; ⟨q, y1, y2, s3 _ _ y3⟩⟩
    · intro D i ys zs H2 o hD2 zz2
      refine byC fun hG => ?_
      obtain ⟨ss, e1, e2, e3⟩ := zz2
      refine hG ?_
      refine ⟨ss, e1, e2, fun k c s z1 z2 => ?_⟩
      refine byC fun hG => ?_
      obtain ⟨n1, qs, a, b⟩ := e3 k c s z1 z2
      refine hG ?_
      exact ⟨n1, qs, by rw [upd_ne n1]; exact a, fun j hj => let ⟨q, y1, y2, y3⟩ := b j hj; ⟨q, y1, y2, by rw [upd_ne y2]; exact y3⟩⟩
    · intro D i x ys σ2 H2 Qt Qf hi hyl hx hD2 s2 zz3 zz4 q
      refine byC fun hG => ?_
      obtain ⟨x0, x1, x2, rfl⟩ := zz3
      obtain ⟨ss, rfl, e2, e3⟩ := zz4
      obtain ⟨cc, hc, p, rfl, lp, hrow, hL, hLl⟩ := (hcs.same s2).get hx
      have gc := hg cc (List.mem_of_getElem? hc)
      have gm := gc.most
      have gl4 := gc.gl.l4
      have em : cc.2.2.2.1 = ((cc.2.2.2.1.toNat : Nat) : Int) := by omega
      refine hG ?_
      refine ⟨_, rfl, p, _, 4, _, rfl, rfl, hrow, rfl, _, rfl, p, _, 3, _, rfl, rfl, hrow, rfl, ?_⟩
      refine ⟨lp, cc.2.2.2.1.toNat, cc.2.2.2.2, by show [V.ref lp, V.int _] = _; rw [← em], hL, gc.gl.l1, by omega, gc.gl.small, by omega, fun r qs H3 hr s3 hr3 hql hrows => ?_⟩
      have hD3 := s3 _ _ hD2
      refine q _ _ _ ⟨_, _, _, rfl⟩ s3 ⟨ss ++ [r], by rw [List.map_append]; rfl, by rw [List.length_append, e2]; rfl, fun k c s z1 z2 => ?_⟩
      by_cases hk : k < ss.length
      · rw [List.getElem?_append_left hk] at z2
        refine byC fun hG => ?_
        obtain ⟨n1, qs', a, b⟩ := e3 k c s z1 z2
        refine hG ?_
        exact ⟨n1, qs', s3 _ _ a, fun j hj => let ⟨q, y1, y2, y3⟩ := b j hj; ⟨q, y1, y2, s3 _ _ y3⟩⟩
      · have hlt := get_lt z2
        rw [List.length_append, List.length_singleton] at hlt
        have ek : k = i := by omega
        subst ek
        rw [List.getElem?_append_right (by omega), e2, Nat.sub_self] at z2
        simp at z2; subst z2
        rw [hc] at z1; cases z1
        refine ⟨(fun z => by rw [z, hD2] at hr; cases hr), qs, hr3, fun j hj => ?_⟩
        refine byC fun hG => ?_
        obtain ⟨q, y1, y2⟩ := hrows j hj
        refine hG ?_
        exact ⟨q, y1, ints_refs hD3 y2 (by rw [Mt.deal_length, List.length_map]; exact gc.gl.l1), y2⟩
    · intro D H2 ys hD s2 hD2 hyl zz5
      refine byC fun hG => ?_
      obtain ⟨ss, rfl, e2, e3⟩ := zz5
      refine hG ?_
      refine kk D ss H2 hD s2 hD2 ⟨by omega, fun i c s z1 z2 => ?_⟩
      refine byC fun hG => ?_
      obtain ⟨n1, qs, a, b⟩ := e3 i c s z1 z2
      refine hG ?_
      exact ⟨qs, a, fun j hj => let ⟨q, y1, y2, y3⟩ := b j hj; ⟨q, y1, y3⟩⟩
def sp__law_loads (K : PySem.W.Frag) : Sp := fun vs H Q _ => ∃ (cv lo sp ac : Addr) (us : List V) (cs : List Row) (ls : List Int) (ss : List Addr) (acc : List Int) (h : Nat), vs = [.ref cv, .ref lo, .ref sp, .ref ac] ∧ SqL K H cv us ∧ CovsAt K H us cs ∧ SqL K H lo (ls.map V.int) ∧ SqL K H sp (ss.map V.ref) ∧ SplitsAt H cs ss ∧ SqL K H ac (acc.map V.int) ∧ AccOk cs acc ∧ GoodT h cs ls ∧
  ∀ r H', H r = none → Same H H' → H' r = some (.lst ((burdL cs ls acc).map V.int)) → Q (.ref r) H'
theorem sc__law_loads : FnScope ["_law_covers", "_law_losses_here", "_law_splits_here", "_law_account", "_law_row", "_law_at", "_law_lines_here", "_law_mine", "_law_k", "_law_signer"] ["_law_covers", "_law_losses_here", "_law_splits_here", "_law_account"] (defScope s__law_loads) := ⟨rfl, rfl, rfl, by decide +kernel, rfl, by decide +kernel, by decide +kernel⟩
set_option maxHeartbeats 4000000 in
theorem ok__law_loads (T : Txt w K mg A) : FnOk P w K mg base CX0 1 A.a__law_loads A.f__law_loads ["_law_covers", "_law_losses_here", "_law_splits_here", "_law_account"] (sp__law_loads K) := by
  have nd := sc__law_loads.nd
  refine T.F__law_loads.ok sc__law_loads (fun vs H Q E h => ?_) (fun cdv Ar outer s H vs Q E hr h => ?_)
  · obtain ⟨cv, lo, sp, ac, us, cs, ls, ss, acc, h, rfl, _⟩ := h; rfl
  · skip
    obtain ⟨cv, lo, sp, ac, us, cs, ls, ss, acc, h, rfl, hcv, hcs, hlo, hsp, hss, hac, hA, g, kk⟩ := h
    have hlen := hcs.len
    have g10 := g.c10
    have hal := hA.len
    refine PSs.rd (pss_cons (ps_set (i := 4) nd rfl (Or.inl rfl) (pe_callTy call_list_of rfl T.b_list boot_ty_list (pa_cons (pvI 1) pa_nil)))
    (pss_cons (ps_for PassesOwn.never rfl (pi_range1 rfl T.b_range (pa_cons (pe_callB call_len_seq rfl T.b_len PySem.boot_len (pa_cons (pvI 0) pa_nil)) pa_nil)) (pg_name (i := 5) nd rfl (Or.inl rfl))
      (pss_cons (ps_set (i := 6) nd rfl (Or.inl rfl) (pe_ix (ix_tupI K rfl) (pe_ix (ix_listI K rfl) (pvI 0) (pvI 5) (fun _ _ => rfl)) pe_int (fun _ _ => rfl)))
       (pss_cons (ps_set (i := 7) nd rfl (Or.inl rfl) (pe_ix (ix_listI K rfl) (pe_ix (ix_listI K rfl) (pvI 2) (pvI 5) (fun _ _ => rfl)) (pe_ix (ix_listI K rfl) (pvI 3) (pvI 5) (fun _ _ => rfl)) (fun _ _ => rfl)))
       (pss_one (ps_for PassesOwn.never rfl (pi_range1 rfl T.b_range (pa_cons (pe_callB call_len_seq rfl T.b_len PySem.boot_len (pa_cons (pvI 6) pa_nil)) pa_nil)) (pg_name (i := 8) nd rfl (Or.inl rfl))
         (pss_cons (ps_set (i := 9) nd rfl (Or.inl rfl) (pe_ix (ix_tupI K rfl) (pe_ix (ix_tupI K rfl) (pvI 6) (pvI 8) (fun _ _ => rfl)) pe_int (fun _ _ => rfl)))
          (pss_one (ps_asg (pe_op op_addI (pe_ix (ix_listI K rfl) (pvI 4) (pvI 9) (fun _ _ => rfl)) (pe_ix (ix_listI K rfl) (pvI 7) (pvI 8) (fun _ _ => rfl))) (pg_sub (pvI 4) (pvI 9) set_list)))))))))
    (pss_one (ps_ret (pvI 4))))) ?_
    try dsimp only [L2.cxOf, L2.Cx.nox]
    refine ⟨_, rfl, lo, _, rfl, .inl hlo, fun r hr => ?_⟩
    refine ⟨_, rfl, cv, us, rfl, .inl ((same_upd hr).seq hcv), _, rfl, by omega, by omega, ?_⟩
    have en : ((us.length : Nat) : Int).toNat = cs.length := by omega
    rw [en]
    refine for_rangeO (n := cs.length) (fun i σ H' => Same H H' ∧ H' r = some (.lst ((plusF ls (crs cs acc i)).map V.int)) ∧ ∃ x1 x2 x3 x4 x5, σ = [some (.ref cv), some (.ref lo), some (.ref sp), some (.ref ac), some (.ref r), x1, x2, x3, x4, x5]) ⟨same_upd hr, ?_, _, _, _, _, _, rfl⟩ ?_ ?_
    · have e : crs cs acc 0 = fun _ => 0 := rfl
      rw [e, plusF_zero]; exact upd_same
    · intro N R B i σ H' hi zz1 hN _
      refine byC fun hG => ?_
      obtain ⟨sm, hr', x1, x2, x3, x4, x5, rfl⟩ := zz1
      have ei : (0 + (i : Nat) : Int) = ((i : Nat) : Int) := by omega
      refine hG ?_
      rw [ei]
      refine byC fun hG => ?_
      obtain ⟨cc, hc⟩ := get_some (xs := cs) hi
      obtain ⟨v, hv, p, rfl, lp, hrow, hL, hLl⟩ := (hcs.same sm).at_ i cc hc
      have gc := g.cov cc (List.mem_of_getElem? hc)
      have gm := gc.most
      have gl1 := gc.gl.l1
      have gl4 := gc.gl.l4
      obtain ⟨s, hs⟩ := get_some (xs := ss) (i := i) (by rw [hss.len]; exact hi)
      obtain ⟨qs, hsq0, hrows⟩ := hss.at_ i cc s hc hs
      have hsq := sm _ _ hsq0
      obtain ⟨bi, hbi⟩ := get_some (xs := acc) (i := i) (by omega)
      have hbd := hA.bd i cc bi hc hbi
      obtain ⟨n, rfl⟩ : ∃ n : Nat, bi = (n : Int) := ⟨bi.toNat, by omega⟩
      obtain ⟨q, hqn, hq0⟩ := hrows n (by have := hbd.2; omega)
      have hq := sm _ _ hq0
      refine hG ?_
      refine ⟨_, rfl, _, rfl, cv, _, _, _, rfl, rfl, sm.seq hcv, atI_nat hv, p, _, 4, _, rfl, rfl, hrow, rfl, ?_⟩
      refine ⟨_, rfl, _, rfl, sp, _, _, _, rfl, rfl, sm.seq hsp, atI_nat (by rw [List.getElem?_map, hs]; rfl), _, rfl, _, rfl, ac, _, _, _, rfl, rfl, sm.seq hac, atI_nat (by rw [List.getElem?_map, hbi]; rfl), s, _, _, _, rfl, rfl, SqL.of hsq, atI_nat (by rw [List.getElem?_map, hqn]; rfl), ?_⟩
      refine byC fun hG => ?_
      obtain ⟨vs, hL1, hL2⟩ := hL.ex
      have hLlen : vs.length = cc.2.2.2.2.length := hL2.len
      refine hG ?_
      refine ⟨_, rfl, lp, _, rfl, .inr hL1, _, rfl, by omega, by omega, ?_⟩
      have en2 : ((vs.length : Nat) : Int).toNat = cc.2.2.2.2.length := by omega
      rw [en2]
      refine for_rangeO (n := cc.2.2.2.2.length) (fun k σ H'' => Same H H'' ∧ H'' q = some (.lst ((Mt.deal (cc.2.2.2.2.map (·.2)) n).map V.int)) ∧ LinesAt K H'' lp cc.2.2.2.2 ∧ H'' r = some (.lst ((plusF ls (fun j => crs cs acc i j + sgs cc.2.2.2.2 (Mt.deal (cc.2.2.2.2.map (·.2)) n) k j)).map V.int)) ∧
        ∃ x1 x2, σ = [some (.ref cv), some (.ref lo), some (.ref sp), some (.ref ac), some (.ref r), some (.int i), some (.ref lp), some (.ref q), x1, x2]) ⟨sm, hq, hL, ?_, _, _, rfl⟩ ?_ ?_
      · rw [hr']; congr 3; exact plusF_congr fun j _ => by simp [sgs]
      · intro N2 R2 B2 k σ H'' hk zz2 hN2 _
        refine byC fun hG => ?_
        obtain ⟨s4, hq4, hL4, hr4, x1, x2, rfl⟩ := zz2
        have ek : (0 + (k : Nat) : Int) = ((k : Nat) : Int) := by omega
        refine hG ?_
        rw [ek]
        refine byC fun hG => ?_
        obtain ⟨vs4, hL5, hL6⟩ := hL4.ex
        obtain ⟨q1, a1, i1, t1, e2⟩ := hL6.ix hk
        refine hG ?_
        refine ⟨_, rfl, _, rfl, lp, _, _, _, rfl, rfl, hL5, i1, q1, _, 0, _, rfl, rfl, t1, rfl, ?_⟩
        have hl := List.mem_of_getElem? e2
        have hl0 := (gc.gl.all _ hl).1
        have hl1 := (gc.ot _ hl).1
        have hll := g.ll
        refine byC fun hG => ?_
        obtain ⟨j, hj⟩ : ∃ j : Nat, a1 = (j : Int) := ⟨a1.toNat, by have : (0 : Int) ≤ a1 := hl0; omega⟩
        refine hG ?_
        subst hj
        have hjl : j < ls.length := by have : ((j : Nat) : Int) < h := hl1; omega
        have hdl : k < (Mt.deal (cc.2.2.2.2.map (·.2)) n).length := by rw [Mt.deal_length, List.length_map]; exact hk
        have nqr : q ≠ r := ne_of_none hq0 hr
        refine ⟨_, rfl, _, rfl, r, _, _, .int ((plusF ls (fun j => crs cs acc i j + sgs cc.2.2.2.2 (Mt.deal (cc.2.2.2.2.map (·.2)) n) k j)).getD j 0), rfl, rfl, SqL.of hr4, ix_of (by rw [plusF_len]; exact hjl), _, rfl, _, rfl, q, _, _, _, rfl, rfl, SqL.of hq4, ix_of hdl, _, _, rfl, rfl, ?_⟩
        refine ⟨_, rfl, _, rfl, r, _, _, j, rfl, rfl, hr4, ixN_nat (by rw [List.length_map, plusF_len]; exact hjl), hN2 _ _ ⟨fun b o e => ?_, ?_, ?_, ?_, _, _, rfl⟩⟩
        · rw [upd_ne (ne_of_none e hr)]; exact s4 b o e
        · rw [upd_ne nqr]; exact hq4
        · exact LinesAt.but hL4 hr4 (fun _ z => by cases z) (fun _ _ z => by cases z) fun b o nb e => by rw [upd_ne nb]; exact e
        · rw [upd_same, ← List.map_set, plusF_set _ _ _ _ hjl]
          congr 3
          refine plusF_congr fun j' _ => ?_
          rw [sgs, fst_of e2]
          by_cases e : j' = j
          · subst e; rw [if_pos rfl, if_pos rfl]; omega
          · rw [if_neg e, if_neg (fun z : (j : Int) = (j' : Int) => e (by omega))]; omega
      · intro σ H'' zz3
        refine byC fun hG => ?_
        obtain ⟨s4, hq4, hL4, hr4, x1, x2, rfl⟩ := zz3
        refine hG ?_
        refine hN _ _ ⟨s4, ?_, _, _, _, _, _, rfl⟩
        rw [hr4]
        congr 3
        refine plusF_congr fun j _ => ?_
        rw [sgs_deal gl1 gc.gl.nd, crs, hc, getD_of hbi]
        rfl
    · intro σ H' zz4
      refine byC fun hG => ?_
      obtain ⟨sm, hr', x1, x2, x3, x4, x5, rfl⟩ := zz4
      refine hG ?_
      exact ⟨_, rfl, kk r H' hr sm hr'⟩
def sp__law_take (K : PySem.W.Frag) : Sp := fun vs H Q _ => ∃ (k : Str) (b m r : Int), vs = [.str k, .int b, .int m, .int r] ∧ measB k b m = true ∧ 0 ≤ r ∧ r ≤ 99999 ∧ Q (.int (takeZ k b m r)) H
theorem sc__law_take : FnScope ["_law_kind", "_law_by", "_law_most", "_law_reach"] ["_law_kind", "_law_by", "_law_most", "_law_reach"] (defScope s__law_take) := ⟨rfl, rfl, rfl, by decide +kernel, rfl, by decide +kernel, by decide +kernel⟩
set_option maxHeartbeats 4000000 in
theorem ok__law_take (T : Txt w K mg A) : FnOk P w K mg base CX0 1 A.a__law_take A.f__law_take ["_law_kind", "_law_by", "_law_most", "_law_reach"] (sp__law_take K) := by
  have nd := sc__law_take.nd
  refine T.F__law_take.ok sc__law_take (fun vs H Q E h => ?_) (fun cdv Ar outer s H vs Q E hr h => ?_)
  · obtain ⟨k, b, m, r, rfl, _⟩ := h; rfl
  · skip
    obtain ⟨k, b, m, r, rfl, hm, h0, h9, kk⟩ := h
    obtain ⟨hk, m0, m24⟩ := measB_cases hm
    refine PSs.rd (pss_cons (ps_if (pt_cmpR op_eq (pvI 0) pe_str (nomark _))
      (pss_one (ps_ret (pe_callB (call_min2 rfl) rfl T.b_min boot_min (pa_cons (pvI 2) (pa_cons (pe_op op_fdivI (pe_op op_mulI (pvI 3) (pvI 1)) pe_int) pa_nil)))))
      pss_nil)
    (pss_cons (ps_if (pt_cmpR op_leI (pvI 3) (pvI 1) (nomark _))
      (pss_one (ps_ret pe_int))
      pss_nil)
    (pss_one (ps_ret (pe_callB (call_min2 rfl) rfl T.b_min boot_min (pa_cons (pvI 2) (pa_cons (pe_op op_subI (pvI 3) (pvI 1)) pa_nil))))))) ?_
    try dsimp only [L2.cxOf, L2.Cx.nox]
    refine ⟨_, rfl, rfl, _, rfl, ?_⟩
    rw [dec_strV]
    refine iteD (fun e => ?_) (fun e => ?_)
    · refine ⟨_, rfl, _, rfl, _, rfl, _, _, rfl, rfl, .inl ⟨by omega, by omega⟩, _, _, rfl, rfl, cdiv, m, _, rfl, ?_⟩
      unfold takeZ wishZ at kk
      rw [if_pos e] at kk
      exact kk
    · have hb : 0 ≤ b := by rcases hk with ⟨z, _, _⟩ | ⟨_, z, _⟩ <;> first | exact absurd z e | exact z
      refine ⟨_, rfl, _, rfl, _, _, rfl, rfl, _, rfl, iteD (fun e2 => ?_) (fun e2 => ?_)⟩
      · have hw : wishZ k b r = 0 := by unfold wishZ; rw [if_neg e, if_neg (by omega)]
        have : takeZ k b m r = 0 := by unfold takeZ; rw [hw]; split <;> omega
        rw [this] at kk
        exact kk
      · refine ⟨_, rfl, _, rfl, _, rfl, _, _, rfl, rfl, m, _, rfl, ?_⟩
        have hw : wishZ k b r = r - b := by unfold wishZ; rw [if_neg e, if_pos (by omega)]
        have : takeZ k b m r = if r - b < m then r - b else m := by unfold takeZ; rw [hw]
        rw [this] at kk
        exact kk
def sp__law_passed (K : PySem.W.Frag) : Sp := fun vs H Q _ => ∃ (cv lo sp ac : Addr) (us : List V) (cs : List Row) (ls : List Int) (ss : List Addr) (acc : List Int) (h : Nat), vs = [.ref cv, .ref lo, .ref sp, .ref ac] ∧ SqL K H cv us ∧ CovsAt K H us cs ∧ SqL K H lo (ls.map V.int) ∧ SqL K H sp (ss.map V.ref) ∧ SplitsAt H cs ss ∧ SqL K H ac (acc.map V.int) ∧ AccOk cs acc ∧ GoodT h cs ls ∧
  ∀ p r lf H', H r = none → H lf = none → r ≠ lf → Same H H' → SqT K H' p [.ref r, .ref lf] → H' r = some (.lst ((askL cs ls acc).map V.int)) → H' lf = some (.lst ((passL cs (burdL cs ls acc) cs.length).1.map V.int)) → Q (.ref p) H'
theorem sc__law_passed : FnScope ["_law_covers", "_law_losses_here", "_law_splits_here", "_law_account", "_law_left", "_law_asks", "_law_house", "_law_kind", "_law_by", "_law_most", "_law_lines_here", "_law_crowns"] ["_law_covers", "_law_losses_here", "_law_splits_here", "_law_account"] (defScope s__law_passed) := ⟨rfl, rfl, rfl, by decide +kernel, rfl, by decide +kernel, by decide +kernel⟩
set_option maxHeartbeats 4000000 in
theorem ok__law_passed (T : Txt w K mg A) : FnOk P w K mg base CX0 2 A.a__law_passed A.f__law_passed ["_law_covers", "_law_losses_here", "_law_splits_here", "_law_account"] (sp__law_passed K) := by
  have nd := sc__law_passed.nd
  have G__law_loads := ok__law_loads (P := P) (w := w) (base := base) T
  have G__law_take := ok__law_take (P := P) (w := w) (base := base) T
  refine T.F__law_passed.ok sc__law_passed (fun vs H Q E h => ?_) (fun cdv Ar outer s H vs Q E hr h => ?_)
  · obtain ⟨cv, lo, sp, ac, us, cs, ls, ss, acc, h, rfl, _⟩ := h; rfl
  · skip
    obtain ⟨cv, lo, sp, ac, us, cs, ls, ss, acc, h, rfl, hcv, hcs, hlo, hsp, hss, hac, hA, g, kk⟩ := h
    have g10 := g.c10
    have hbd := burd_bd g hA
    have hlen := hcs.len
    refine PSs.rd (pss_cons (ps_set (i := 4) nd rfl (Or.inl rfl) (pe_call (G__law_loads.mono (by decide)) hr rfl T.m__law_loads T.k__law_loads T.d__law_loads .nil pass0 (pa_cons (pvI 0) (pa_cons (pvI 1) (pa_cons (pvI 2) (pa_cons (pvI 3) pa_nil))))))
    (pss_cons (ps_set (i := 5) nd rfl (Or.inl rfl) (pe_lst pa_nil))
    (pss_cons (ps_for PassesOwn.never rfl (pi_list (pvI 0)) (pg_tup (n := 5) rfl (pgs_cons (pg_name (i := 6) nd rfl (Or.inl rfl)) (pgs_cons (pg_name (i := 7) nd rfl (Or.inl rfl)) (pgs_cons (pg_name (i := 8) nd rfl (Or.inl rfl)) (pgs_cons (pg_name (i := 9) nd rfl (Or.inl rfl)) (pgs_cons (pg_name (i := 10) nd rfl (Or.inl rfl)) pgs_nil))))))
      (pss_cons (ps_set (i := 11) nd rfl (Or.inl rfl) (pe_call (G__law_take.mono (by decide)) hr rfl T.m__law_take T.k__law_take T.d__law_take .nil pass0 (pa_cons (pvI 7) (pa_cons (pvI 8) (pa_cons (pvI 9) (pa_cons (pe_ix (ix_listI K rfl) (pvI 4) (pvI 6) (fun _ _ => rfl)) pa_nil))))))
       (pss_cons (ps_asg (pe_op op_subI (pe_ix (ix_listI K rfl) (pvI 4) (pvI 6) (fun _ _ => rfl)) (pvI 11)) (pg_sub (pvI 4) (pvI 6) set_list))
       (pss_one (ps_expr (pe_bm PySem.F.plainAttrs_list PySem.F.slot_list_append PySem.F.type_list_append mt_append (pvI 5) (pa_cons (pvI 11) pa_nil)))))))
    (pss_one (ps_ret (pe_tup (pa_cons (pvI 5) (pa_cons (pvI 4) pa_nil)))))))) ?_
    try dsimp only [L2.cxOf, L2.Cx.nox]
    refine ⟨_, rfl, _, rfl, _, rfl, _, rfl, cv, lo, sp, ac, us, cs, ls, ss, acc, h, rfl, hcv, hcs, hlo, hsp, hss, hac, hA, g, fun lf H1 hlf s1 hlf1 => ?_⟩
    refine ⟨Nat.zero_le _, fun r hr => ?_⟩
    have hr0 := s1.free hr
    have sr := same_upd (o := .lst []) hr
    have nlr : lf ≠ r := fun z => by rw [← z, hlf1] at hr; cases hr
    have s2 := s1.trans sr
    refine ⟨_, rfl, cv, rfl, ⟨us, s2.seq hcv⟩, ?_⟩
    refine for_listO (xs := us) (fun i σ H' => Same H H' ∧ H' lf = some (.lst ((passL cs (burdL cs ls acc) i).1.map V.int)) ∧ H' r = some (.lst ((passL cs (burdL cs ls acc) i).2.map V.int)) ∧ ∃ x1 x2 x3 x4 x5 x6, σ = [some (.ref cv), some (.ref lo), some (.ref sp), some (.ref ac), some (.ref lf), some (.ref r), x1, x2, x3, x4, x5, x6])
      ⟨s2, sr _ _ hlf1, upd_same, _, _, _, _, _, _, rfl⟩ (fun i σ H' _ p => p.1.seq hcv) ?_ ?_
    · intro N R B i x σ H' hx zz1 hN _
      refine byC fun hG => ?_
      obtain ⟨s3, hlf3, hr3, x1, x2, x3, x4, x5, x6, rfl⟩ := zz1
      obtain ⟨cc, hc, p, rfl, lp, hrow, hL, hLl⟩ := (hcs.same s3).get hx
      have gc := g.cov cc (List.mem_of_getElem? hc)
      have ghl := g.ll
      have hj : cc.1 = ((cc.1.toNat : Nat) : Int) := by have := gc.ho; omega
      have hjl : cc.1.toNat < (passL cs (burdL cs ls acc) i).1.length := by rw [passL_len1, burdL_len]; have := gc.ho; omega
      have hbd' := getD_bd (passL_bd hbd (by decide) g.cov i) (by decide) cc.1.toNat
      have hl2 := passL_len2 cs (burdL cs ls acc) i (by have := get_lt hc; omega)
      have hsu := passL_succ (l0 := burdL cs ls acc) hc
      refine hG ?_
      rw [hsu] at hN
      generalize passL cs (burdL cs ls acc) i = P at hlf3 hr3 hjl hbd' hl2 hN
      have hix : atI (P.1.map V.int) cc.1 = some (.int (P.1.getD cc.1.toNat 0)) := by rw [hj]; exact ix_of hjl
      refine ⟨p, _, rfl, hrow, rfl, _, _, rfl, _, _, rfl, _, _, rfl, _, _, rfl, _, _, rfl, rfl, ?_⟩
      refine ⟨_, rfl, _, rfl, _, rfl, _, rfl, _, rfl, lf, _, _, .int (P.1.getD cc.1.toNat 0), rfl, rfl, SqL.of hlf3, hix, _, _, _, _, rfl, gc.ms, hbd'.1, by omega, ?_⟩
      refine ⟨_, rfl, _, rfl, lf, _, _, .int (P.1.getD cc.1.toNat 0), rfl, rfl, SqL.of hlf3, hix, _, rfl, _, _, rfl, rfl, ?_⟩
      refine ⟨_, rfl, _, rfl, lf, _, _, cc.1.toNat, rfl, rfl, hlf3, (by rw [hj]; exact ixN_nat (by rw [List.length_map]; exact hjl)), ?_⟩
      refine ⟨_, rfl, .inl ⟨rfl, _, SqL.of (by rw [upd_ne nlr.symm]; exact hr3)⟩, _, rfl, r, _, _, rfl, rfl, (by rw [upd_ne nlr.symm]; exact hr3), small_line (by rw [List.length_map]; have := get_lt hc; omega), ?_⟩
      refine hN _ _ ⟨fun b o e => ?_, ?_, ?_, _, _, _, _, _, _, rfl⟩
      · rw [upd_ne (ne_of_none e hr0), upd_ne (ne_of_none e hlf)]; exact s3 b o e
      · rw [upd_ne nlr, upd_same, ← List.map_set]
      · rw [upd_same, map_snoc]
    · intro σ H' zz2
      refine byC fun hG => ?_
      obtain ⟨s3, hlf3, hr3, x1, x2, x3, x4, x5, x6, rfl⟩ := zz2
      refine hG ?_
      rw [hlen] at hr3 hlf3
      refine ⟨_, rfl, _, rfl, by show 2 ≤ sizeLine; decide, fun p hp => ?_⟩
      have sp' := same_upd (o := .tup [.ref r, .ref lf]) hp
      exact kk p r lf _ hr0 hlf nlr.symm (s3.trans sp') (SqT.of upd_same) (sp' _ _ hr3) (sp' _ _ hlf3)
def sp__law_come (K : PySem.W.Frag) : Sp := fun vs H Q _ => ∃ (cv lo sp ac : Addr) (us : List V) (cs : List Row) (ls : List Int) (ss : List Addr) (acc : List Int) (h : Nat), vs = [.ref cv, .ref lo, .ref sp, .ref ac] ∧ SqL K H cv us ∧ CovsAt K H us cs ∧ SqL K H lo (ls.map V.int) ∧ SqL K H sp (ss.map V.ref) ∧ SplitsAt H cs ss ∧ SqL K H ac (acc.map V.int) ∧ AccOk cs acc ∧ GoodT h cs ls ∧
  ∀ r H', H r = none → Same H H' → H' r = some (.lst ((comeL cs ls acc).map V.int)) → Q (.ref r) H'
theorem sc__law_come : FnScope ["_law_covers", "_law_losses_here", "_law_splits_here", "_law_account", "_law_here", "_law_asks", "_law_k"] ["_law_covers", "_law_losses_here", "_law_splits_here", "_law_account"] (defScope s__law_come) := ⟨rfl, rfl, rfl, by decide +kernel, rfl, by decide +kernel, by decide +kernel⟩
set_option maxHeartbeats 4000000 in
theorem ok__law_come (T : Txt w K mg A) : FnOk P w K mg base CX0 3 A.a__law_come A.f__law_come ["_law_covers", "_law_losses_here", "_law_splits_here", "_law_account"] (sp__law_come K) := by
  have nd := sc__law_come.nd
  have G__law_passed := ok__law_passed (P := P) (w := w) (base := base) T
  refine T.F__law_come.ok sc__law_come (fun vs H Q E h => ?_) (fun cdv Ar outer s H vs Q E hr h => ?_)
  · obtain ⟨cv, lo, sp, ac, us, cs, ls, ss, acc, h, rfl, _⟩ := h; rfl
  · skip
    obtain ⟨cv, lo, sp, ac, us, cs, ls, ss, acc, h, rfl, hcv, hcs, hlo, hsp, hss, hac, hA, g, kk⟩ := h
    refine PSs.rd (pss_cons (ps_set (i := 4) nd rfl (Or.inl rfl) (pe_callTy call_list_of rfl T.b_list boot_ty_list (pa_cons (pvI 3) pa_nil)))
    (pss_cons (ps_set (i := 5) nd rfl (Or.inl rfl) (pe_ix (ix_tupI K rfl) (pe_call (G__law_passed.mono (by decide)) hr rfl T.m__law_passed T.k__law_passed T.d__law_passed .nil pass0 (pa_cons (pvI 0) (pa_cons (pvI 1) (pa_cons (pvI 2) (pa_cons (pvI 4) pa_nil))))) pe_int (fun _ _ => rfl)))
    (pss_cons (ps_for PassesOwn.never rfl (pi_range1 rfl T.b_range (pa_cons pe_int pa_nil)) (pg_name (i := 6) nd rfl (Or.inl rfl))
      (pss_one (ps_if (pt_cmpR (op_neL hr.units) (pvI 5) (pvI 4) (nomark _))
         (pss_cons (ps_set (i := 4) nd rfl (Or.inl rfl) (pvI 5))
          (pss_one (ps_set (i := 5) nd rfl (Or.inl rfl) (pe_ix (ix_tupI K rfl) (pe_call (G__law_passed.mono (by decide)) hr rfl T.m__law_passed T.k__law_passed T.d__law_passed .nil pass0 (pa_cons (pvI 0) (pa_cons (pvI 1) (pa_cons (pvI 2) (pa_cons (pvI 4) pa_nil))))) pe_int (fun _ _ => rfl)))))
         pss_nil)))
    (pss_one (ps_ret (pvI 4)))))) ?_
    try dsimp only [L2.cxOf, L2.Cx.nox]
    refine ⟨_, rfl, ac, _, rfl, .inl hac, fun he hhe => ?_⟩
    have se := same_upd (o := .lst (acc.map V.int)) hhe
    refine ⟨_, rfl, _, rfl, _, rfl, _, rfl, cv, lo, sp, he, us, cs, ls, ss, acc, h, rfl, se.seq hcv, hcs.same se, se.seq hlo, se.seq hsp, hss.same se, SqL.of upd_same, hA, g, fun p r lf H2 hr hlf nrl s2 hp hr2 hlf2 => ?_⟩
    refine ⟨p, _, 0, _, rfl, rfl, hp, rfl, ?_⟩
    refine ⟨241, rfl, by decide, by decide, ?_⟩
    refine for_range (n := 241) (fun k σ H' => ∃ (b w2 : Addr) (x : Option V), σ = [some (.ref cv), some (.ref lo), some (.ref sp), some (.ref ac), some (.ref b), some (.ref w2), x] ∧ Same H H' ∧ H b = none ∧ H' b = some (.lst ((iterL cs ls acc k).map V.int)) ∧ H w2 = none ∧ H' w2 = some (.lst ((iterL cs ls acc (k + 1)).map V.int))) ⟨he, r, none, rfl, se.trans s2, hhe, s2 _ _ upd_same, se.free hr, hr2⟩ ?_ ?_
    · intro k σ H' hk zz1
      refine byC fun hG => ?_
      obtain ⟨b, w2, x, rfl, s3, hb, hb3, hw, hw3⟩ := zz1
      refine hG ?_
      refine ⟨_, rfl, _, rfl, w2, b, _, _, rfl, rfl, SqL.of hw3, SqL.of hb3, _, rfl, iteND (fun hne => ?_) (fun heq => ?_)⟩
      · refine ⟨_, rfl, _, rfl, _, rfl, _, rfl, _, rfl, cv, lo, sp, w2, us, cs, ls, ss, _, h, rfl, s3.seq hcv, hcs.same s3, s3.seq hlo, s3.seq hsp, hss.same s3, SqL.of hw3, iter_ok g hA (k + 1), g, fun p' r' lf' H4 hr' hlf' nrl' s4 hp' hr4 hlf4 => ?_⟩
        refine ⟨p', _, 0, _, rfl, rfl, hp', rfl, ?_⟩
        exact ⟨w2, r', _, rfl, s3.trans s4, hw, s4 _ _ hw3, s3.free hr', hr4⟩
      · refine ⟨b, w2, _, rfl, s3, hb, ?_, hw, ?_⟩
        · rw [hb3, heq]
        · rw [hw3]
          have e2 := iter_fix heq 2
          have e1 := iter_fix heq 1
          rw [show k + 1 + 1 = k + 2 from rfl, e2, e1]
    · intro σ H' zz2
      refine byC fun hG => ?_
      obtain ⟨b, w2, x, rfl, s3, hb, hb3, hw, hw3⟩ := zz2
      refine hG ?_
      exact ⟨_, rfl, kk b H' hb s3 hb3⟩
def sp__law_least (K : PySem.W.Frag) : Sp := fun vs H Q _ => ∃ (cv lo sp : Addr) (us : List V) (cs : List Row) (ls : List Int) (ss : List Addr) (h : Nat), vs = [.ref cv, .ref lo, .ref sp] ∧ SqL K H cv us ∧ CovsAt K H us cs ∧ SqL K H lo (ls.map V.int) ∧ SqL K H sp (ss.map V.ref) ∧ SplitsAt H cs ss ∧ GoodT h cs ls ∧
  ∀ r H', H r = none → Same H H' → H' r = some (.lst ((comeL cs ls (List.replicate cs.length 0)).map V.int)) → Q (.ref r) H'
theorem sc__law_least : FnScope ["_law_covers", "_law_losses_here", "_law_splits_here"] ["_law_covers", "_law_losses_here", "_law_splits_here"] (defScope s__law_least) := ⟨rfl, rfl, rfl, by decide +kernel, rfl, by decide +kernel, by decide +kernel⟩
set_option maxHeartbeats 4000000 in
theorem ok__law_least (T : Txt w K mg A) : FnOk P w K mg base CX0 4 A.a__law_least A.f__law_least ["_law_covers", "_law_losses_here", "_law_splits_here"] (sp__law_least K) := by
  have nd := sc__law_least.nd
  have G__law_come := ok__law_come (P := P) (w := w) (base := base) T
  refine T.F__law_least.ok sc__law_least (fun vs H Q E h => ?_) (fun cdv Ar outer s H vs Q E hr h => ?_)
  · obtain ⟨cv, lo, sp, us, cs, ls, ss, h, rfl, _⟩ := h; rfl
  · skip
    obtain ⟨cv, lo, sp, us, cs, ls, ss, h, rfl, hcv, hcs, hlo, hsp, hss, g, kk⟩ := h
    have hlen := hcs.len
    have g10 := g.c10
    refine PSs.rd (pss_one (ps_ret (pe_call (G__law_come.mono (by decide)) hr rfl T.m__law_come T.k__law_come T.d__law_come .nil pass0 (pa_cons (pvI 0) (pa_cons (pvI 1) (pa_cons (pvI 2) (pa_cons (pe_op op_rep (pe_lst (pa_cons pe_int pa_nil)) (pe_callB call_len_seq rfl T.b_len PySem.boot_len (pa_cons (pvI 0) pa_nil))) pa_nil))))))) ?_
    try dsimp only [L2.cxOf, L2.Cx.nox]
    refine ⟨_, rfl, _, rfl, _, rfl, by show 1 ≤ sizeLine; decide, fun z hz => ?_⟩
    have sz := same_upd (o := .lst [V.int 0]) hz
    refine ⟨_, rfl, cv, us, rfl, .inl (sz.seq hcv), z, _, _, rfl, rfl, upd_same, by omega, by omega, ?_, fun b hb => ?_⟩
    · exact Nat.le_of_lt (small_line (by show 1 * ((us.length : Nat) : Int).toNat ≤ 100000; omega))
    have enl : ((us.length : Nat) : Int).toNat = cs.length := by omega
    rw [enl, flat_rep]
    have sb := sz.trans (same_upd (o := .lst ((List.replicate cs.length (0 : Int)).map V.int)) hb)
    exact ⟨cv, lo, sp, b, us, cs, ls, ss, _, h, rfl, sb.seq hcv, hcs.same sb, sb.seq hlo, sb.seq hsp, hss.same sb, SqL.of upd_same, acc_zero g, g, fun r H' hr s e => kk r H' (sb.free hr) (sb.trans s) e⟩
def sp_law (K : PySem.W.Frag) : Sp := fun vs H Q _ => ∃ (a : Addr) (ns : List Int), vs = [.ref a] ∧ SqL K H a (ns.map V.int) ∧ ns.length ≤ 63 ∧ ∀ H', Q (.bl true) H'
theorem sc_law : FnScope ["_law_script", "_law_draws_here", "_law_houses", "_law_covers", "_law_losses_here", "_law_splits_here", "_law_there", "_law_table", "_law_house", "_law_less", "_law_gone", "_law_due_here", "_law_found", "_law_bad", "_law_e"] ["_law_script"] (defScope s_law) := ⟨rfl, rfl, rfl, by decide +kernel, rfl, by decide +kernel, by decide +kernel⟩
set_option maxHeartbeats 0 in
theorem ok_law (T : Txt w K mg A) : FnOk P w K mg base CX0 8 A.a_law A.f_law ["_law_script"] (sp_law K) := by
  have nd := sc_law.nd
  have G_Table___init__ := ok_Table___init__ (P := P) (w := w) (base := base) T
  have G_Table_losses := ok_Table_losses (P := P) (w := w) (base := base) T
  have G__law_draws := ok__law_draws (P := P) (w := w) (base := base) T
  have G__law_due := ok__law_due (P := P) (w := w) (base := base) T
  have G__law_least := ok__law_least (P := P) (w := w) (base := base) T
  have G__law_list := ok__law_list (P := P) (w := w) (base := base) T
  have G__law_made := ok__law_made (P := P) (w := w) (base := base) T
  have G__law_seen := ok__law_seen (P := P) (w := w) (base := base) T
  have G__law_splits := ok__law_splits (P := P) (w := w) (base := base) T
  have G_hangs := ok_hangs (P := P) (w := w) (base := base) T
  refine T.F_law.ok sc_law (fun vs H Q E h => ?_) (fun cdv Ar outer s H vs Q E hr h => ?_)
  · obtain ⟨a, ns, rfl, _⟩ := h; rfl
  · skip
    obtain ⟨a, ns, rfl, hS, hl, kk⟩ := h
    refine PSs.rd (pss_cons (ps_set (i := 1) nd rfl (Or.inl rfl) (pe_call (G__law_draws.mono (by decide)) hr rfl T.m__law_draws T.k__law_draws T.d__law_draws .nil pass0 (pa_cons (pvI 0) (pa_cons pe_int pa_nil))))
    (pss_cons (ps_asg (pe_call (G__law_made.mono (by decide)) hr rfl T.m__law_made T.k__law_made T.d__law_made .nil pass0 (pa_cons (pvI 1) pa_nil)) (pg_tup (n := 3) rfl (pgs_cons (pg_name (i := 2) nd rfl (Or.inl rfl)) (pgs_cons (pg_name (i := 3) nd rfl (Or.inl rfl)) (pgs_cons (pg_name (i := 4) nd rfl (Or.inr rfl)) pgs_nil)))))
    (pss_cons (ps_set (i := 5) nd rfl (Or.inl rfl) (pe_call (G__law_splits.mono (by decide)) hr rfl T.m__law_splits T.k__law_splits T.d__law_splits .nil pass0 (pa_cons (pvI 3) pa_nil)))
    (pss_cons (ps_set (i := 6) nd rfl (Or.inr rfl) (pe_call (G__law_least.mono (by decide)) hr rfl T.m__law_least T.k__law_least T.d__law_least .nil pass0 (pa_cons (pvI 3) (pa_cons (pvI 4) (pa_cons (pvI 5) pa_nil)))))
    (pss_cons (ps_set (i := 7) nd rfl (Or.inl rfl) (pe_make T.mk_Table (G_Table___init__.dn.mono (by decide)) hr rfl T.mc_Table T.d_Table___init__ .nil pass0 (pa_cons (pvI 2) (pa_cons (pvI 3) (pa_cons (pvI 4) pa_nil)))))
    (pss_cons (ps_for PassesOwn.never rfl (pi_range1 rfl T.b_range (pa_cons (pvI 2) pa_nil)) (pg_name (i := 8) nd rfl (Or.inr rfl))
      (pss_cons (lcS (defScope s_law) 9 nd (pi_range1 rfl T.b_range (pa_cons (pvI 2) pa_nil)) (fun _ _ _ _ _ => pgc 1) (fun _ _ _ _ _ => pts_nil) (fun _ _ _ _ _ => (pe_op op_mulI (pe_ix (ix_listI K rfl) (pvI 4) (pvI 1) (fun _ _ => rfl)) (pe_callTy call_int1 rfl T.b_int boot_ty_int (pa_cons (pe_cmpR op_ne (pvI 1) (pvI 3) (nomark _)) pa_nil)))))
       (pss_cons (ps_set (i := 10) nd rfl (Or.inr rfl) (pe_call (G__law_least.mono (by decide)) hr rfl T.m__law_least T.k__law_least T.d__law_least .nil pass0 (pa_cons (pvI 3) (pa_cons (pvI 9) (pa_cons (pvI 5) pa_nil)))))
       (pss_cons (lcS (defScope s_law) 11 nd (pi_range1 rfl T.b_range (pa_cons (pe_callB call_len_seq rfl T.b_len PySem.boot_len (pa_cons (pvI 3) pa_nil)) pa_nil)) (fun _ _ _ _ _ => pgc 1) (fun _ _ _ _ _ => (pts_one (pt_cmpR op_ne (pe_ix (ix_listI K rfl) (pvI 3) (pvI 1) (fun _ _ => rfl)) (pe_ix (ix_listI K rfl) (pvI 2) (pvI 1) (fun _ _ => rfl)) (nomark _)))) (fun _ _ _ _ _ => (pvI 1)))
       (pss_cons (ps_set (i := 12) nd rfl (Or.inl rfl) (pe_call (G_hangs.dn.mono (by decide)) hr rfl T.m_hangs T.k_hangs T.d_hangs .nil pass0 (pa_cons (pvI 7) (pa_cons (pvI 8) pa_nil))))
       (pss_cons (ps_if (pt_not (pt_truth (pe_call (G__law_list.mono (by decide)) hr rfl T.m__law_list T.k__law_list T.d__law_list .nil pass0 (pa_cons (pvI 12) (pa_cons (pvI 11) pa_nil))) (fun _ => rfl)))
         (pss_one (ps_ret pe_bl))
         pss_nil)
       (pss_cons (ps_expr (pe_bm PySem.F.plainAttrs_list PySem.F.slot_list_append PySem.F.type_list_append mt_append (pvI 12) (pa_cons pe_int pa_nil)))
       (pss_one (ps_if (PW.pt (pw_or (pt_not (pt_truth (pe_call (G__law_list.mono (by decide)) hr rfl T.m__law_list T.k__law_list T.d__law_list .nil pass0 (pa_cons (pe_call (G_hangs.dn.mono (by decide)) hr rfl T.m_hangs T.k_hangs T.d_hangs .nil pass0 (pa_cons (pvI 7) (pa_cons (pvI 8) pa_nil))) (pa_cons (pvI 11) pa_nil))) (fun _ => rfl))) (pw_or1 (pt_cmpR (op_neL hr.units) (pe_meth0 (pvI 7) T.cl_Table T.me_Table_losses (G_Table_losses.mono (by decide)) hr T.d_Table_losses .nil pass0) (pvI 4) (nomark _)))))
         (pss_one (ps_ret pe_bl))
         pss_nil)))))))))
    (pss_cons (ps_set (i := 13) nd rfl (Or.inl rfl) (pe_lst pa_nil))
    (pss_cons (ps_cut (ps_try (i := 14) rfl rfl nd rfl rfl rfl T.mc_RingError
      (fun _ _ => (pss_one (ps_expr (pe_callX (G_hangs.mono (by decide)) hr rfl T.m_hangs T.k_hangs T.d_hangs (pa_cons (pvI 7) (pa_cons (pe_ix (ix_listI K rfl) (pe_lst (pa_cons (pe_un un_neg pe_int) (pa_cons (pvI 2) (pa_cons (pe_un un_neg (pvI 2)) (pa_cons (pe_op op_pow pe_int pe_int) pa_nil))))) (pe_op op_modI (pe_ix (ix_listI K rfl) (pvI 1) pe_int (fun _ _ => rfl)) pe_int) (fun _ _ => rfl)) pa_nil))))))
      (fun _ => (pss_one (ps_set (i := 13) nd rfl (Or.inl rfl) (pe_callH (G__law_seen.mono (by decide)) (hr.h _) rfl T.m__law_seen T.k__law_seen T.d__law_seen (pa_cons (pvI 14) pa_nil)))))))
    (pss_one (ps_ret (pe_cmpR (op_eqD (u64 hr)) (pvI 13) (pe_call (G__law_due.mono (by decide)) hr rfl T.m__law_due T.k__law_due T.d__law_due .nil pass0 (pa_cons pe_str pa_nil)) (nomark _)))))))))))) ?_
    try dsimp only [L2.cxOf, L2.Cx.nox]
    rw [show ∀ v0 : V, L2.start ["_law_script", "_law_draws_here", "_law_houses", "_law_covers", "_law_losses_here", "_law_splits_here", "_law_there", "_law_table", "_law_house", "_law_less", "_law_gone", "_law_due_here", "_law_found", "_law_bad", "_law_e"] [v0] = [some v0, none, none, none, none, none, none, none, none, none, none, none, none, none, none] from fun _ => rfl]
    refine ⟨_, rfl, a, ns, 120, rfl, hS, hl, by decide, fun dh ds H1 _ s1 hd1 hdl hD => ?_⟩
    refine byC fun hG => ?_
    obtain ⟨d100, D100, i100⟩ := draw_at hD (i := 100) (by omega)
    refine hG ?_
    refine ⟨_, rfl, dh, ds, rfl, SqL.of hd1, by omega, hD, fun p r lo h us cs ls H2 s2 hp hr hlo nrl hr2 hcs hlo2 g => ?_⟩
    have g10 := g.c10
    have g1 := g.h1
    have g6 := g.h6
    have gll := g.ll
    have hlen := hcs.len
    have hd2 := s2 _ _ hd1
    refine ⟨p, _, rfl, hp, rfl, _, _, rfl, _, _, rfl, _, _, rfl, rfl, ?_⟩
    try dsimp only [List.set_cons_zero, List.set_cons_succ]
    refine ⟨_, rfl, r, us, cs, h, rfl, SqL.of hr2, hcs, g.c10, g.cov, fun sp ss H3 hsp s3 hsp3 hss => ?_⟩
    try dsimp only [List.set_cons_zero, List.set_cons_succ]
    refine ⟨_, rfl, _, rfl, _, rfl, r, lo, sp, us, cs, ls, ss, h, rfl, SqL.of (s3 _ _ hr2), hcs.same s3, SqL.of (s3 _ _ hlo2), SqL.of hsp3, hss, g, fun th H4 hth s4 hth4 => ?_⟩
    replace hth4 : H4 th = some (.lst ((leastL cs ls).map V.int)) := hth4
    have s24 := s3.trans s4
    have hr4 := s24 _ _ hr2
    have hcs4 := hcs.same s24
    have hlo4 := s24 _ _ hlo2
    have hd4 := s24 _ _ hd2
    have hsp4 := s4 _ _ hsp3
    have hss4 := hss.same s4
    clear s24 s3 s4 hr2 hcs hlo2 hd2 hsp3 hss hp s2 s1 hd1
    try dsimp only [List.set_cons_zero, List.set_cons_succ]
    refine ⟨_, rfl, _, rfl, _, rfl, fun x dx hx hdx ndx => ?_⟩
    have m5 := make_pre (o1 := .ins A.c_Table dx []) (o2 := .own x) hx hdx
    refine ⟨x, dx, r, lo, h, us, cs, ls, rfl, upd_same, SqL.of (m5 _ _ hr4), hcs4.same m5, SqL.of (m5 _ _ hlo4), ⟨g.h1, g.h6, g.c10, g.cov, by omega⟩, fun hgd H5 s5' hT => ⟨rfl, ?_⟩, fun hbd => absurd ⟨gll, g.lb⟩ hbd⟩
    have s5 := make_same hx hdx s5'
    have hr5 := s5 _ _ hr4
    have hcs5 := hcs4.same s5
    have hlo5 := s5 _ _ hlo4
    have hd5 := s5 _ _ hd4
    have hsp5 := s5 _ _ hsp4
    have hss5 := hss4.same s5
    have hth5 := s5 _ _ hth4
    clear s5 s5' m5 hx hdx ndx hr4 hcs4 hlo4 hd4 hsp4 hss4 hth4
    try dsimp only [List.set_cons_zero, List.set_cons_succ]
    have eh : ((h : Nat) : Int).toNat = h := by omega
    refine ⟨_, rfl, _, rfl, by omega, by omega, ?_⟩
    rw [eh]
    refine for_rangeO (n := h) (fun i σ H' => Same H5 H' ∧ ∃ x8 x9 x10 x11 x12, σ = [some (.ref a), some (.ref dh), some (.int h), some (.ref r), some (.ref lo), some (.ref sp), some (.ref th), some (.ref x), x8, x9, x10, x11, x12, none, none]) ⟨Same.refl _, _, _, _, _, _, rfl⟩ ?_ ?_
    · intro N R B i σ H6 hi zz1 hN _
      refine byC fun hG => ?_
      obtain ⟨s6, x8, x9, x10, x11, x12, rfl⟩ := zz1
      have ei : (0 + (i : Nat) : Int) = ((i : Nat) : Int) := by omega
      refine hG ?_
      rw [ei]
      have hil : i < ls.length := by omega
      try dsimp only [List.set_cons_zero, List.set_cons_succ]
      -- less
      refine ⟨_, rfl, _, rfl, by omega, by omega, ?_⟩
      rw [eh]
      have hlo6 := s6 _ _ hlo5
      refine lc_by (ws := (ls.set i 0).map V.int) (itOf_rng 0 h) (fun σ => ∃ x0 x1 x2, σ = [x0, x1, x2, some (.int (i : Nat)), some (.ref lo)]) ⟨_, _, _, rfl⟩ (by rw [List.length_map, List.length_set, rngV_len, gll]) (Nat.le_of_lt (small_line (by rw [rngV_len]; omega))) ?_ ?_
      · intro k v w σ2 H7 Qt Qf hv hw s7 zz2 q
        refine byC fun hG => ?_
        obtain ⟨x0, x1, x2, rfl⟩ := zz2
        have hk : k < h := by have := get_lt hv; rw [rngV_len] at this; exact this
        have ev : v = V.int (k : Nat) := by
          unfold rngV at hv
          rw [List.getElem?_map, List.getElem?_range hk] at hv
          simp only [Option.map_some, Option.some.injEq] at hv
          rw [← hv]; congr 1; omega
        refine hG ?_
        subst ev
        rw [List.getElem?_map, List.getElem?_eq_getElem (by rw [List.length_set]; omega), Option.map_some] at hw
        have ew : w = V.int (ls.getD k 0 * (if decide (¬ k = i) = true then (1 : Int) else 0)) := by
          rw [← set_zero_get (by omega), ← Option.some.inj hw, getD_of (List.getElem?_eq_getElem (by rw [List.length_set]; omega))]
        have hb := g.lb _ (getD_mem (show k < ls.length by omega))
        refine ⟨_, rfl, _, rfl, lo, _, _, _, rfl, rfl, SqL.of (s7 _ _ hlo6), ix_of (by omega), _, rfl, _, rfl, rfl, .inr ⟨_, rfl, _, _, rfl, rfl, .inl ⟨by omega, by omega⟩, ?_⟩⟩
        have q2 : ∀ (σ4 : L2.St) (v : V), v = w → (∃ x y z, σ4 = [x, y, z, some (.int (i : Nat)), some (.ref lo)]) → Qt σ4 v H7 := fun σ4 v e h => by rw [e]; exact q σ4 h
        refine q2 _ _ ?_ ⟨_, _, _, rfl⟩
        rw [ew]
        congr 2
        by_cases e : k = i
        · subst e; simp
        · simp [e]
          omega
      intro le hle
      have sle := same_upd (o := .lst ((ls.set i 0).map V.int)) hle
      have hle7 := upd_same (H := H6) (a := le) (o := .lst ((ls.set i 0).map V.int))
      generalize upd H6 le (.lst ((ls.set i 0).map V.int)) = H7 at *
      have s7 := s6.trans sle
      try dsimp only [List.set_cons_zero, List.set_cons_succ]
      have g' := set_good g i hil
      refine ⟨_, rfl, _, rfl, _, rfl, r, le, sp, us, cs, ls.set i 0, ss, h, rfl, SqL.of (s7 _ _ hr5), hcs5.same s7, SqL.of hle7, SqL.of (s7 _ _ hsp5), hss5.same s7, g', fun go H8 hgo s8' hgo8 => ?_⟩
      replace hgo8 : H8 go = some (.lst ((leastL cs (ls.set i 0)).map V.int)) := hgo8
      have s8 := s7.trans s8'
      try dsimp only [List.set_cons_zero, List.set_cons_succ]
      -- due
      refine ⟨_, rfl, r, us, rfl, .inl (SqL.of (s8 _ _ hr5)), _, rfl, by omega, by omega, ?_⟩
      have enl : ((us.length : Nat) : Int).toNat = cs.length := by omega
      rw [enl]
      have len1 := (least_ok g).len
      have len2 := (least_ok g').len
      have hth8 := s8 _ _ hth5
      have e5 : hangL cs ls i = diffL (leastL cs ls) (leastL cs (ls.set i 0)) := rfl
      refine lc_fG (fun k => if (leastL cs ls).getD k 0 = (leastL cs (ls.set i 0)).getD k 0 then none else some (V.int (k : Int))) (itG_range (H := H8) (lo := 0) (n := cs.length)) (fun σ => ∃ x0 x1, σ = [x0, x1, some (.ref go), some (.ref th)]) ⟨_, _, rfl⟩ (Nat.le_of_lt (small_line (by omega))) ?_ ?_
      · intro k v σ2 H9 Qt Qf hk zz3 s9 zz4 qt qf
        refine byC fun hG => ?_
        subst zz3
        obtain ⟨x0, x1, rfl⟩ := zz4
        have ek : (0 + (k : Nat) : Int) = ((k : Nat) : Int) := by omega
        refine hG ?_
        refine ⟨_, rfl, _, rfl, th, _, _, _, rfl, rfl, SqL.of (s9 _ _ hth8), (by show atI _ (0 + (k : Nat) : Int) = _; rw [ek]; exact ix_of (by omega)), _, rfl, _, rfl, go, _, _, _, rfl, rfl, SqL.of (s9 _ _ hgo8), (by show atI _ (0 + (k : Nat) : Int) = _; rw [ek]; exact ix_of (by omega)), rfl, _, rfl, iteND (fun hne => ?_) (fun heq => ?_)⟩
        · exact ⟨_, rfl, qt _ _ _ (by rw [if_neg fun z => hne (by rw [z])]; show some (V.int (k : Int)) = some (V.int (0 + (k : Nat) : Int)); rw [ek]) ⟨_, _, rfl⟩ (Same.refl _)⟩
        · exact qf _ _ (by rw [if_pos (V.int.inj heq)]) ⟨_, _, rfl⟩ (Same.refl _)
      intro du H9 hdu s9' hdu9
      rw [show cs.length = (leastL cs ls).length from len1.symm, diff_fm, ← e5] at hdu9
      have s9 := s8.trans s9'
      try dsimp only [List.set_cons_zero, List.set_cons_succ]
      have hj2 : ((i : Nat) : Int).natAbs < 2 ^ 100 := by omega
      refine ⟨_, rfl, _, rfl, x, h, cs, ls, (i : Int), rfl, hT.same s9, hj2, fun _ _ fo H10 hfo s10' hfo10 => ?_, fun z => absurd ⟨by omega, by omega⟩ z⟩
      rw [Int.toNat_natCast] at hfo10
      try dsimp only [List.set_cons_zero, List.set_cons_succ]
      have hdu10 := s10' _ _ hdu9
      refine ⟨_, rfl, _, rfl, fo, du, _, _, rfl, hfo10, SqL.of hdu10, ?_⟩
      rw [decide_eq_true rfl]
      refine ⟨_, rfl, iteF ?_⟩
      have hhl : (hangL cs ls i).length ≤ 10 := by
        have := diff_len (leastL cs ls) (leastL cs (ls.set i 0))
        rw [← e5] at this
        omega
      refine ⟨_, rfl, .inl ⟨rfl, _, SqL.of hfo10⟩, fo, _, _, rfl, rfl, hfo10, small_line (by rw [List.length_map]; omega), ?_⟩
      have s11' : Same H9 (upd H10 fo (.lst ((hangL cs ls i).map V.int ++ [.int 1]))) := upd_same_of s10' hfo
      have hdu11 := s11' _ _ hdu9
      generalize upd H10 fo (.lst ((hangL cs ls i).map V.int ++ [.int 1])) = H11 at *
      have s11 := s9.trans s11'
      refine ⟨_, rfl, _, rfl, x, h, cs, ls, (i : Int), rfl, hT.same s11, hj2, fun _ _ f2 H12 hf2 s12' hf212 => ?_, fun z => absurd ⟨by omega, by omega⟩ z⟩
      rw [Int.toNat_natCast] at hf212
      refine ⟨_, rfl, f2, du, _, _, rfl, hf212, SqL.of (s12' _ _ hdu11), ?_⟩
      rw [decide_eq_true rfl]
      refine ⟨_, rfl, iteF ?_⟩
      have s12 := s11.trans s12'
      refine byC fun hG => ?_
      obtain ⟨dx, a0, b0, c0, us0, qs0, ht, _⟩ := (hT.same s12).ex
      refine hG ?_
      refine ⟨_, rfl, x, dx, _, rfl, ht, tabF_no (by decide +kernel) (by decide +kernel) (by decide +kernel) (by decide +kernel), x, h, cs, ls, rfl, hT.same s12, fun lq H13 hlq s13' hlq13 => ?_⟩
      have s13 := s12.trans s13'
      refine ⟨_, rfl, lq, lo, _, _, rfl, rfl, SqL.of hlq13, SqL.of (s13 _ _ hlo5), _, rfl, iteF' (by rw [decide_eq_true rfl]; rfl) ?_⟩
      exact hN _ _ ⟨s13, _, _, _, _, _, rfl⟩
    intro σ H6 zz5
    refine byC fun hG => ?_
    obtain ⟨s6, x8, x9, x10, x11, x12, rfl⟩ := zz5
    have hT6 := hT.same s6
    have hd6 := s6 _ _ hd5
    refine hG ?_
    refine ⟨Nat.zero_le _, fun b0 hb0 => ?_⟩
    have sb0 := same_upd (o := .lst []) hb0
    have hT7 := hT6.same sb0
    have hd7 := sb0 _ _ hd6
    generalize upd H6 b0 (.lst []) = H7 at *
    try dsimp only [List.set_cons_zero, List.set_cons_succ]
    refine ⟨fun σ H' => ∃ (ba : Addr), σ = [some (.ref a), some (.ref dh), some (.int h), some (.ref r), some (.ref lo), some (.ref sp), some (.ref th), some (.ref x), x8, x9, x10, x11, x12, some (.ref ba), none] ∧ H' ba = some (.lst ((seenL "NoHouse").map V.bl)), ?_, ?_⟩
    case refine_2 =>
      intro σ H8 zz6
      refine byC fun hG => ?_
      obtain ⟨ba, rfl, hba⟩ := zz6
      refine hG ?_
      exact ⟨_, rfl, "NoHouse", rfl, fun l H9 hl9 s9 hl99 => eqD_bools (bs := seenL "NoHouse") (cs := seenL "NoHouse") (SqL.of (s9 _ _ hba)) (SqL.of hl99) (by rw [decide_eq_true rfl]; exact kk _)⟩
    refine ⟨_, rfl, _, rfl, _, rfl, _, rfl, _, rfl, _, _, rfl, rfl, ⟨by decide, by decide, by decide⟩, by show 4 ≤ sizeLine; decide, fun z hz => ?_⟩
    have sz := same_upd (o := .lst (([-1, (h : Int), -(h : Int), 10 ^ (20 : Int).toNat] : List Int).map V.int)) hz
    have rz := upd_same (H := H7) (a := z) (o := .lst (([-1, (h : Int), -(h : Int), 10 ^ (20 : Int).toNat] : List Int).map V.int))
    have e4 : (d100 : Int) % 4 = ((d100 % 4 : Nat) : Int) := by omega
    have l4 : d100 % 4 < 4 := Nat.mod_lt _ (by decide)
    have out : ∀ v ∈ ([-1, (h : Int), -(h : Int), 10 ^ (20 : Int).toNat] : List Int), v.natAbs < 2 ^ 100 ∧ ¬ (0 ≤ v ∧ v < h) := fun v hv => by
      have e20 : (10 : Int) ^ (20 : Int).toNat = 100000000000000000000 := by decide
      rw [e20] at hv
      simp only [List.mem_cons, List.not_mem_nil, or_false] at hv
      omega
    have o2 := out _ (getD_mem (show d100 % 4 < ([-1, (h : Int), -(h : Int), 10 ^ (20 : Int).toNat] : List Int).length from l4))
    refine ⟨_, rfl, dh, _, 100, _, rfl, rfl, SqL.of (sz _ _ hd7), i100, _, _, rfl, rfl, pj, z, _, _, .int (([-1, (h : Int), -(h : Int), 10 ^ (20 : Int).toNat] : List Int).getD (d100 % 4) 0), rfl, rfl, SqL.of rz, (by show atI (([-1, (h : Int), -(h : Int), 10 ^ (20 : Int).toNat] : List Int).map V.int) ((d100 : Int) % 4) = _; rw [e4]; exact ix_of l4), x, h, cs, ls, _, rfl, hT7.same sz, o2.1, fun h0 h1 => absurd ⟨h0, h1⟩ o2.2, fun hn H8 s8 => ⟨_, rfl, T.em_NoHouse, fun e he => ?_⟩⟩
    exact ⟨_, rfl, e, _, "NoHouse", rfl, upd_same, eis_NoHouse T, fun l H9 hl9 s9 hl99 => ⟨l, rfl, hl99⟩⟩
end
set_option maxHeartbeats 0 in
theorem all_mk {l : PySem.W.OpenLaw} {w : World} {K : PySem.W.Frag} {h : Heap} {mg : Str → Option Value} {fa : Addr} (X : K.In h) (G : h.Ns mainGlobals mg) (hfa : mg "law" = some (.ref fa))
    {C_Table : Addr} (aC_Table : PySem.W.nsIn K mainGlobals "Table" = some (some (.ref C_Table)))
    {C_BadAccount : Addr} (aC_BadAccount : PySem.W.nsIn K mainGlobals "BadAccount" = some (some (.ref C_BadAccount)))
    {C_BadCover : Addr} (aC_BadCover : PySem.W.nsIn K mainGlobals "BadCover" = some (some (.ref C_BadCover)))
    {C_BadCrowns : Addr} (aC_BadCrowns : PySem.W.nsIn K mainGlobals "BadCrowns" = some (some (.ref C_BadCrowns)))
    {C_BadDay : Addr} (aC_BadDay : PySem.W.nsIn K mainGlobals "BadDay" = some (some (.ref C_BadDay)))
    {C_BadDeed : Addr} (aC_BadDeed : PySem.W.nsIn K mainGlobals "BadDeed" = some (some (.ref C_BadDeed)))
    {C_BadHouses : Addr} (aC_BadHouses : PySem.W.nsIn K mainGlobals "BadHouses" = some (some (.ref C_BadHouses)))
    {C_BadLines : Addr} (aC_BadLines : PySem.W.nsIn K mainGlobals "BadLines" = some (some (.ref C_BadLines)))
    {C_BadLosses : Addr} (aC_BadLosses : PySem.W.nsIn K mainGlobals "BadLosses" = some (some (.ref C_BadLosses)))
    {C_BadTerms : Addr} (aC_BadTerms : PySem.W.nsIn K mainGlobals "BadTerms" = some (some (.ref C_BadTerms)))
    {C_BadText : Addr} (aC_BadText : PySem.W.nsIn K mainGlobals "BadText" = some (some (.ref C_BadText)))
    {C_Disagrees : Addr} (aC_Disagrees : PySem.W.nsIn K mainGlobals "Disagrees" = some (some (.ref C_Disagrees)))
    {C_Endless : Addr} (aC_Endless : PySem.W.nsIn K mainGlobals "Endless" = some (some (.ref C_Endless)))
    {C_Full : Addr} (aC_Full : PySem.W.nsIn K mainGlobals "Full" = some (some (.ref C_Full)))
    {C_NoCover : Addr} (aC_NoCover : PySem.W.nsIn K mainGlobals "NoCover" = some (some (.ref C_NoCover)))
    {C_NoHappening : Addr} (aC_NoHappening : PySem.W.nsIn K mainGlobals "NoHappening" = some (some (.ref C_NoHappening)))
    {C_NoHouse : Addr} (aC_NoHouse : PySem.W.nsIn K mainGlobals "NoHouse" = some (some (.ref C_NoHouse)))
    {C_NoLoss : Addr} (aC_NoLoss : PySem.W.nsIn K mainGlobals "NoLoss" = some (some (.ref C_NoLoss)))
    {C_Nothing : Addr} (aC_Nothing : PySem.W.nsIn K mainGlobals "Nothing" = some (some (.ref C_Nothing)))
    {C_RingError : Addr} (aC_RingError : PySem.W.nsIn K mainGlobals "RingError" = some (some (.ref C_RingError)))
    {C_Same : Addr} (aC_Same : PySem.W.nsIn K mainGlobals "Same" = some (some (.ref C_Same)))
    {C_Short : Addr} (aC_Short : PySem.W.nsIn K mainGlobals "Short" = some (some (.ref C_Short)))
    {C_Unbacked : Addr} (aC_Unbacked : PySem.W.nsIn K mainGlobals "Unbacked" = some (some (.ref C_Unbacked)))
    {f0 : Addr}
    (a0 : PySem.W.nsIn K mainGlobals "is_lines" = some (some (.ref f0)))
    (l0 : FL K "is_lines" "is_lines" s_is_lines f0)
    {f1 : Addr}
    (a1 : PySem.W.nsIn K mainGlobals "next_place" = some (some (.ref f1)))
    (l1 : FL K "next_place" "next_place" s_next_place f1)
    {f2 : Addr}
    (a2 : PySem.W.nsIn K mainGlobals "bearers" = some (some (.ref f2)))
    (l2 : FL K "bearers" "bearers" s_bearers f2)
    {f3 : Addr}
    (a3 : PySem.W.nsIn K mainGlobals "is_measure" = some (some (.ref f3)))
    (l3 : FL K "is_measure" "is_measure" s_is_measure f3)
    {f4 : Addr}
    (a4 : PySem.W.nsIn K mainGlobals "are_others" = some (some (.ref f4)))
    (l4 : FL K "are_others" "are_others" s_are_others f4)
    {f5 : Addr}
    (a5 : PySem.W.nsIn K mainGlobals "is_cover" = some (some (.ref f5)))
    (l5 : FL K "is_cover" "is_cover" s_is_cover f5)
    {f6 : Addr}
    (a6 : PySem.W.nsIn K mainGlobals "wish" = some (some (.ref f6)))
    (l6 : FL K "wish" "wish" s_wish f6)
    {f7 : Addr}
    (a7 : PySem.W.nsIn K mainGlobals "take" = some (some (.ref f7)))
    (l7 : FL K "take" "take" s_take f7)
    {f8 : Addr}
    (a8 : PySem.W.nsIn K mainGlobals "require_houses" = some (some (.ref f8)))
    (l8 : FL K "require_houses" "require_houses" s_require_houses f8)
    {f9 : Addr}
    (a9 : PySem.W.nsIn K mainGlobals "require_house" = some (some (.ref f9)))
    (l9 : FL K "require_house" "require_house" s_require_house f9)
    {f10 : Addr}
    (a10 : PySem.W.nsIn K mainGlobals "require_covers" = some (some (.ref f10)))
    (l10 : FL K "require_covers" "require_covers" s_require_covers f10)
    {f11 : Addr}
    (a11 : PySem.W.nsIn K mainGlobals "require_losses" = some (some (.ref f11)))
    (l11 : FL K "require_losses" "require_losses" s_require_losses f11)
    {f12 : Addr}
    (a12 : PySem.W.findIn K (.ref C_Table) "__init__" = some (some (.ref f12))) (i12 : PySem.W.isFn K (.ref f12) = true)
    (l12 : FL K "__init__" "Table.__init__" s_Table___init__ f12)
    {f13 : Addr}
    (a13 : PySem.W.findIn K (.ref C_Table) "houses" = some (some (.ref f13))) (i13 : PySem.W.isFn K (.ref f13) = true)
    (l13 : FL K "houses" "Table.houses" s_Table_houses f13)
    {f14 : Addr}
    (a14 : PySem.W.findIn K (.ref C_Table) "covers" = some (some (.ref f14))) (i14 : PySem.W.isFn K (.ref f14) = true)
    (l14 : FL K "covers" "Table.covers" s_Table_covers f14)
    {f15 : Addr}
    (a15 : PySem.W.findIn K (.ref C_Table) "losses" = some (some (.ref f15))) (i15 : PySem.W.isFn K (.ref f15) = true)
    (l15 : FL K "losses" "Table.losses" s_Table_losses f15)
    {f16 : Addr}
    (a16 : PySem.W.findIn K (.ref C_Table) "mosts" = some (some (.ref f16))) (i16 : PySem.W.isFn K (.ref f16) = true)
    (l16 : FL K "mosts" "Table.mosts" s_Table_mosts f16)
    {f17 : Addr}
    (a17 : PySem.W.findIn K (.ref C_Table) "more" = some (some (.ref f17))) (i17 : PySem.W.isFn K (.ref f17) = true)
    (l17 : FL K "more" "Table.more" s_Table_more f17)
    {f18 : Addr}
    (a18 : PySem.W.nsIn K mainGlobals "nought" = some (some (.ref f18)))
    (l18 : FL K "nought" "nought" s_nought f18)
    {f19 : Addr}
    (a19 : PySem.W.nsIn K mainGlobals "require_account" = some (some (.ref f19)))
    (l19 : FL K "require_account" "require_account" s_require_account f19)
    {f20 : Addr}
    (a20 : PySem.W.nsIn K mainGlobals "burdens" = some (some (.ref f20)))
    (l20 : FL K "burdens" "burdens" s_burdens f20)
    {f21 : Addr}
    (a21 : PySem.W.nsIn K mainGlobals "asked" = some (some (.ref f21)))
    (l21 : FL K "asked" "asked" s_asked f21)
    {f22 : Addr}
    (a22 : PySem.W.nsIn K mainGlobals "settle" = some (some (.ref f22)))
    (l22 : FL K "settle" "settle" s_settle f22)
    {f23 : Addr}
    (a23 : PySem.W.nsIn K mainGlobals "least" = some (some (.ref f23)))
    (l23 : FL K "least" "least" s_least f23)
    {f24 : Addr}
    (a24 : PySem.W.nsIn K mainGlobals "hangs" = some (some (.ref f24)))
    (l24 : FL K "hangs" "hangs" s_hangs f24)
    {f25 : Addr}
    (a25 : PySem.W.nsIn K mainGlobals "_law_draws" = some (some (.ref f25)))
    (l25 : FL K "_law_draws" "_law_draws" s__law_draws f25)
    {f26 : Addr}
    (a26 : PySem.W.nsIn K mainGlobals "_law_whole" = some (some (.ref f26)))
    (l26 : FL K "_law_whole" "_law_whole" s__law_whole f26)
    {f27 : Addr}
    (a27 : PySem.W.nsIn K mainGlobals "_law_wholes" = some (some (.ref f27)))
    (l27 : FL K "_law_wholes" "_law_wholes" s__law_wholes f27)
    {f28 : Addr}
    (a28 : PySem.W.nsIn K mainGlobals "_law_list" = some (some (.ref f28)))
    (l28 : FL K "_law_list" "_law_list" s__law_list f28)
    {f29 : Addr}
    (a29 : PySem.W.nsIn K mainGlobals "_law_due" = some (some (.ref f29)))
    (l29 : FL K "_law_due" "_law_due" s__law_due f29)
    {f30 : Addr}
    (a30 : PySem.W.nsIn K mainGlobals "_law_seen" = some (some (.ref f30)))
    (l30 : FL K "_law_seen" "_law_seen" s__law_seen f30)
    {f31 : Addr}
    (a31 : PySem.W.nsIn K mainGlobals "_law_lines" = some (some (.ref f31)))
    (l31 : FL K "_law_lines" "_law_lines" s__law_lines f31)
    {f32 : Addr}
    (a32 : PySem.W.nsIn K mainGlobals "_law_cover" = some (some (.ref f32)))
    (l32 : FL K "_law_cover" "_law_cover" s__law_cover f32)
    {f33 : Addr}
    (a33 : PySem.W.nsIn K mainGlobals "_law_rows" = some (some (.ref f33)))
    (l33 : FL K "_law_rows" "_law_rows" s__law_rows f33)
    {f34 : Addr}
    (a34 : PySem.W.nsIn K mainGlobals "_law_losses" = some (some (.ref f34)))
    (l34 : FL K "_law_losses" "_law_losses" s__law_losses f34)
    {f35 : Addr}
    (a35 : PySem.W.nsIn K mainGlobals "_law_made" = some (some (.ref f35)))
    (l35 : FL K "_law_made" "_law_made" s__law_made f35)
    {f36 : Addr}
    (a36 : PySem.W.nsIn K mainGlobals "_law_split" = some (some (.ref f36)))
    (l36 : FL K "_law_split" "_law_split" s__law_split f36)
    {f37 : Addr}
    (a37 : PySem.W.nsIn K mainGlobals "_law_splits" = some (some (.ref f37)))
    (l37 : FL K "_law_splits" "_law_splits" s__law_splits f37)
    {f38 : Addr}
    (a38 : PySem.W.nsIn K mainGlobals "_law_loads" = some (some (.ref f38)))
    (l38 : FL K "_law_loads" "_law_loads" s__law_loads f38)
    {f39 : Addr}
    (a39 : PySem.W.nsIn K mainGlobals "_law_take" = some (some (.ref f39)))
    (l39 : FL K "_law_take" "_law_take" s__law_take f39)
    {f40 : Addr}
    (a40 : PySem.W.nsIn K mainGlobals "_law_passed" = some (some (.ref f40)))
    (l40 : FL K "_law_passed" "_law_passed" s__law_passed f40)
    {f41 : Addr}
    (a41 : PySem.W.nsIn K mainGlobals "_law_come" = some (some (.ref f41)))
    (l41 : FL K "_law_come" "_law_come" s__law_come f41)
    {f42 : Addr}
    (a42 : PySem.W.nsIn K mainGlobals "_law_least" = some (some (.ref f42)))
    (l42 : FL K "_law_least" "_law_least" s__law_least f42)
    {f43 : Addr}
    (a43 : PySem.W.nsIn K mainGlobals "law" = some (some (.ref f43)))
    (l43 : FL K "law" "law" s_law f43)
    {t_LAST_HOUSE : Tok} (v_LAST_HOUSE : PySem.W.nsIn K mainGlobals "LAST_HOUSE" = some (some (.int 5 t_LAST_HOUSE)))
    {t_LEAST_LINE : Tok} (v_LEAST_LINE : PySem.W.nsIn K mainGlobals "LEAST_LINE" = some (some (.int 1 t_LEAST_LINE)))
    {t_MOST_BILL : Tok} (v_MOST_BILL : PySem.W.nsIn K mainGlobals "MOST_BILL" = some (some (.int 24 t_MOST_BILL)))
    {t_MOST_COVERS : Tok} (v_MOST_COVERS : PySem.W.nsIn K mainGlobals "MOST_COVERS" = some (some (.int 10 t_MOST_COVERS)))
    {t_MOST_LINE : Tok} (v_MOST_LINE : PySem.W.nsIn K mainGlobals "MOST_LINE" = some (some (.int 20 t_MOST_LINE)))
    {t_MOST_LOSS : Tok} (v_MOST_LOSS : PySem.W.nsIn K mainGlobals "MOST_LOSS" = some (some (.int 9999 t_MOST_LOSS)))
    {t_MOST_PAIRS : Tok} (v_MOST_PAIRS : PySem.W.nsIn K mainGlobals "MOST_PAIRS" = some (some (.int 4 t_MOST_PAIRS)))
    {t_MOST_REACH : Tok} (v_MOST_REACH : PySem.W.nsIn K mainGlobals "MOST_REACH" = some (some (.int 99999 t_MOST_REACH)))
    (pg_Table : PySem.W.plainGet K C_Table Str.empty = true) (hd_Table : PySem.W.hasDictIn K C_Table = true) (po_Table : PySem.W.plainOver K C_Table = true) (sa_Table : PySem.W.findIn K (.ref C_Table) "__setattr__" = some (some (.builtin "object.__setattr__"))) (mk_Table : PySem.W.makesIn K C_Table = true) (kc_Table : PySem.W.keepIn K (.ref C_Table) = true)
    (na_Table_house_count : PySem.W.findIn K (.ref C_Table) "house_count" = some none)
    (na_Table_cover_rows : PySem.W.findIn K (.ref C_Table) "cover_rows" = some none)
    (na_Table_befallen : PySem.W.findIn K (.ref C_Table) "befallen" = some none)
    (na_Table_crown_bearers : PySem.W.findIn K (.ref C_Table) "crown_bearers" = some none)
    (x_BadLosses : PySem.W.excIn K C_BadLosses [.type "ValueError", .type "Exception", .type "BaseException", .type "object"] "ValueError.__new__" = true)
    (ec_BadLosses : ErrCls K C_BadLosses)
    (em_BadLosses : PySem.W.exmOne K (.ref C_BadLosses) (.ref C_RingError) = some true)
    (kv_BadLosses : PySem.W.kitOne K (.ref C_BadLosses) (.type "ValueError") = some true)
    (ki_BadLosses_BadAccount : PySem.W.kitOne K (.ref C_BadLosses) (.ref C_BadAccount) = some false)
    (ki_BadLosses_BadCover : PySem.W.kitOne K (.ref C_BadLosses) (.ref C_BadCover) = some false)
    (ki_BadLosses_BadCrowns : PySem.W.kitOne K (.ref C_BadLosses) (.ref C_BadCrowns) = some false)
    (ki_BadLosses_BadDay : PySem.W.kitOne K (.ref C_BadLosses) (.ref C_BadDay) = some false)
    (ki_BadLosses_BadDeed : PySem.W.kitOne K (.ref C_BadLosses) (.ref C_BadDeed) = some false)
    (ki_BadLosses_BadHouses : PySem.W.kitOne K (.ref C_BadLosses) (.ref C_BadHouses) = some false)
    (ki_BadLosses_BadLines : PySem.W.kitOne K (.ref C_BadLosses) (.ref C_BadLines) = some false)
    (ki_BadLosses_BadLosses : PySem.W.kitOne K (.ref C_BadLosses) (.ref C_BadLosses) = some true)
    (ki_BadLosses_BadTerms : PySem.W.kitOne K (.ref C_BadLosses) (.ref C_BadTerms) = some false)
    (ki_BadLosses_BadText : PySem.W.kitOne K (.ref C_BadLosses) (.ref C_BadText) = some false)
    (ki_BadLosses_Disagrees : PySem.W.kitOne K (.ref C_BadLosses) (.ref C_Disagrees) = some false)
    (ki_BadLosses_Endless : PySem.W.kitOne K (.ref C_BadLosses) (.ref C_Endless) = some false)
    (ki_BadLosses_Full : PySem.W.kitOne K (.ref C_BadLosses) (.ref C_Full) = some false)
    (ki_BadLosses_NoCover : PySem.W.kitOne K (.ref C_BadLosses) (.ref C_NoCover) = some false)
    (ki_BadLosses_NoHappening : PySem.W.kitOne K (.ref C_BadLosses) (.ref C_NoHappening) = some false)
    (ki_BadLosses_NoHouse : PySem.W.kitOne K (.ref C_BadLosses) (.ref C_NoHouse) = some false)
    (ki_BadLosses_NoLoss : PySem.W.kitOne K (.ref C_BadLosses) (.ref C_NoLoss) = some false)
    (ki_BadLosses_Nothing : PySem.W.kitOne K (.ref C_BadLosses) (.ref C_Nothing) = some false)
    (ki_BadLosses_Same : PySem.W.kitOne K (.ref C_BadLosses) (.ref C_Same) = some false)
    (ki_BadLosses_Short : PySem.W.kitOne K (.ref C_BadLosses) (.ref C_Short) = some false)
    (ki_BadLosses_Unbacked : PySem.W.kitOne K (.ref C_BadLosses) (.ref C_Unbacked) = some false)
    (x_NoHouse : PySem.W.excIn K C_NoHouse [.type "ValueError", .type "Exception", .type "BaseException", .type "object"] "ValueError.__new__" = true)
    (ec_NoHouse : ErrCls K C_NoHouse)
    (em_NoHouse : PySem.W.exmOne K (.ref C_NoHouse) (.ref C_RingError) = some true)
    (kv_NoHouse : PySem.W.kitOne K (.ref C_NoHouse) (.type "ValueError") = some true)
    (ki_NoHouse_BadAccount : PySem.W.kitOne K (.ref C_NoHouse) (.ref C_BadAccount) = some false)
    (ki_NoHouse_BadCover : PySem.W.kitOne K (.ref C_NoHouse) (.ref C_BadCover) = some false)
    (ki_NoHouse_BadCrowns : PySem.W.kitOne K (.ref C_NoHouse) (.ref C_BadCrowns) = some false)
    (ki_NoHouse_BadDay : PySem.W.kitOne K (.ref C_NoHouse) (.ref C_BadDay) = some false)
    (ki_NoHouse_BadDeed : PySem.W.kitOne K (.ref C_NoHouse) (.ref C_BadDeed) = some false)
    (ki_NoHouse_BadHouses : PySem.W.kitOne K (.ref C_NoHouse) (.ref C_BadHouses) = some false)
    (ki_NoHouse_BadLines : PySem.W.kitOne K (.ref C_NoHouse) (.ref C_BadLines) = some false)
    (ki_NoHouse_BadLosses : PySem.W.kitOne K (.ref C_NoHouse) (.ref C_BadLosses) = some false)
    (ki_NoHouse_BadTerms : PySem.W.kitOne K (.ref C_NoHouse) (.ref C_BadTerms) = some false)
    (ki_NoHouse_BadText : PySem.W.kitOne K (.ref C_NoHouse) (.ref C_BadText) = some false)
    (ki_NoHouse_Disagrees : PySem.W.kitOne K (.ref C_NoHouse) (.ref C_Disagrees) = some false)
    (ki_NoHouse_Endless : PySem.W.kitOne K (.ref C_NoHouse) (.ref C_Endless) = some false)
    (ki_NoHouse_Full : PySem.W.kitOne K (.ref C_NoHouse) (.ref C_Full) = some false)
    (ki_NoHouse_NoCover : PySem.W.kitOne K (.ref C_NoHouse) (.ref C_NoCover) = some false)
    (ki_NoHouse_NoHappening : PySem.W.kitOne K (.ref C_NoHouse) (.ref C_NoHappening) = some false)
    (ki_NoHouse_NoHouse : PySem.W.kitOne K (.ref C_NoHouse) (.ref C_NoHouse) = some true)
    (ki_NoHouse_NoLoss : PySem.W.kitOne K (.ref C_NoHouse) (.ref C_NoLoss) = some false)
    (ki_NoHouse_Nothing : PySem.W.kitOne K (.ref C_NoHouse) (.ref C_Nothing) = some false)
    (ki_NoHouse_Same : PySem.W.kitOne K (.ref C_NoHouse) (.ref C_Same) = some false)
    (ki_NoHouse_Short : PySem.W.kitOne K (.ref C_NoHouse) (.ref C_Short) = some false)
    (ki_NoHouse_Unbacked : PySem.W.kitOne K (.ref C_NoHouse) (.ref C_Unbacked) = some false)
    (z_ValueError : PySem.W.nsIn K mainGlobals "ValueError" = some none)
    (z_all : PySem.W.nsIn K mainGlobals "all" = some none)
    (z_bool : PySem.W.nsIn K mainGlobals "bool" = some none)
    (z_enumerate : PySem.W.nsIn K mainGlobals "enumerate" = some none)
    (z_int : PySem.W.nsIn K mainGlobals "int" = some none)
    (z_isinstance : PySem.W.nsIn K mainGlobals "isinstance" = some none)
    (z_len : PySem.W.nsIn K mainGlobals "len" = some none)
    (z_list : PySem.W.nsIn K mainGlobals "list" = some none)
    (z_max : PySem.W.nsIn K mainGlobals "max" = some none)
    (z_min : PySem.W.nsIn K mainGlobals "min" = some none)
    (z_range : PySem.W.nsIn K mainGlobals "range" = some none)
    (z_tuple : PySem.W.nsIn K mainGlobals "tuple" = some none)
    (z_zip : PySem.W.nsIn K mainGlobals "zip" = some none)
    {d_BY_BOUNDS : Addr} {e_BY_BOUNDS : Nat} {u_BY_BOUNDS_0 : Addr} {x_BY_BOUNDS_0 : Tok} {n_BY_BOUNDS_0 : Nat} {dd_BY_BOUNDS_0 : Option Addr} {sl_BY_BOUNDS_0 : Array (Option Value)} {y_BY_BOUNDS_0_0 : Tok} {y_BY_BOUNDS_0_1 : Tok} {u_BY_BOUNDS_1 : Addr} {x_BY_BOUNDS_1 : Tok} {n_BY_BOUNDS_1 : Nat} {dd_BY_BOUNDS_1 : Option Addr} {sl_BY_BOUNDS_1 : Array (Option Value)} {y_BY_BOUNDS_1_0 : Tok} {y_BY_BOUNDS_1_1 : Tok}
    (ga_BY_BOUNDS : PySem.W.nsIn K mainGlobals "BY_BOUNDS" = some (some (.ref d_BY_BOUNDS)))
    (gl_BY_BOUNDS : K.lookup d_BY_BOUNDS = some ⟨.type "dict", none, .dict #[⟨PyData.keyHash w.params "share", .str "share" x_BY_BOUNDS_0, .ref u_BY_BOUNDS_0⟩, ⟨PyData.keyHash w.params "layer", .str "layer" x_BY_BOUNDS_1, .ref u_BY_BOUNDS_1⟩] e_BY_BOUNDS, #[]⟩) (gz_BY_BOUNDS : (d_BY_BOUNDS == sysModules) = false)
    (gt_BY_BOUNDS_0 : K.lookup u_BY_BOUNDS_0 = some ⟨.type "tuple", dd_BY_BOUNDS_0, .seq #[.int 1 y_BY_BOUNDS_0_0, .int 100 y_BY_BOUNDS_0_1] n_BY_BOUNDS_0, sl_BY_BOUNDS_0⟩)
    (gt_BY_BOUNDS_1 : K.lookup u_BY_BOUNDS_1 = some ⟨.type "tuple", dd_BY_BOUNDS_1, .seq #[.int 0 y_BY_BOUNDS_1_0, .int 200 y_BY_BOUNDS_1_1] n_BY_BOUNDS_1, sl_BY_BOUNDS_1⟩)
    : ∃ fd : FuncData, (∀ (s : Shared) (v : Value), BindsTo s fd ⟨[v], []⟩ [("_law_script", v)]) ∧ ∀ base : Heap, K.In base → base.Ns mainGlobals mg → FnOk l.prog w K mg base CX0 8 fa fd ["_law_script"] (sp_law K) := by
  have e := hfa.symm.trans (PySem.W.mg_of X G a43)
  cases e
  obtain ⟨e0, F0, k0, b0⟩ := l0.fn1 ["lines"] fun _ _ _ _ _ _ _ => rfl
  obtain ⟨e1, F1, k1, b1⟩ := l1.fn2 ["lines", "borne"] fun _ _ _ _ _ _ _ _ => rfl
  obtain ⟨e2, F2, k2, b2⟩ := l2.fn2 ["lines", "crowns"] fun _ _ _ _ _ _ _ _ => rfl
  obtain ⟨e3, F3, k3, b3⟩ := l3.fn3 ["kind", "by", "most"] fun _ _ _ _ _ _ _ _ _ => rfl
  obtain ⟨e4, F4, k4, b4⟩ := l4.fn3 ["houses", "house", "lines"] fun _ _ _ _ _ _ _ _ _ => rfl
  obtain ⟨e5, F5, k5, b5⟩ := l5.fn2 ["houses", "cover"] fun _ _ _ _ _ _ _ _ => rfl
  obtain ⟨e6, F6, k6, b6⟩ := l6.fn3 ["kind", "by", "reach"] fun _ _ _ _ _ _ _ _ _ => rfl
  obtain ⟨e7, F7, k7, b7⟩ := l7.fn4 ["kind", "by", "most", "reach"] fun _ _ _ _ _ _ _ _ _ _ => rfl
  obtain ⟨e8, F8, k8, b8⟩ := l8.fn1 ["houses"] fun _ _ _ _ _ _ _ => rfl
  obtain ⟨e9, F9, k9, b9⟩ := l9.fn2 ["houses", "house"] fun _ _ _ _ _ _ _ _ => rfl
  obtain ⟨e10, F10, k10, b10⟩ := l10.fn2 ["houses", "covers"] fun _ _ _ _ _ _ _ _ => rfl
  obtain ⟨e11, F11, k11, b11⟩ := l11.fn2 ["houses", "losses"] fun _ _ _ _ _ _ _ _ => rfl
  obtain ⟨e12, F12, k12, b12⟩ := l12.fn4 ["self", "houses", "covers", "losses"] fun _ _ _ _ _ _ _ _ _ _ => rfl
  obtain ⟨e13, F13, k13, b13⟩ := l13.fn1 ["self"] fun _ _ _ _ _ _ _ => rfl
  obtain ⟨e14, F14, k14, b14⟩ := l14.fn1 ["self"] fun _ _ _ _ _ _ _ => rfl
  obtain ⟨e15, F15, k15, b15⟩ := l15.fn1 ["self"] fun _ _ _ _ _ _ _ => rfl
  obtain ⟨e16, F16, k16, b16⟩ := l16.fn1 ["self"] fun _ _ _ _ _ _ _ => rfl
  obtain ⟨e17, F17, k17, b17⟩ := l17.fn3 ["self", "house", "crowns"] fun _ _ _ _ _ _ _ _ _ => rfl
  obtain ⟨e18, F18, k18, b18⟩ := l18.fn1 ["table"] fun _ _ _ _ _ _ _ => rfl
  obtain ⟨e19, F19, k19, b19⟩ := l19.fn2 ["table", "account"] fun _ _ _ _ _ _ _ _ => rfl
  obtain ⟨e20, F20, k20, b20⟩ := l20.fn2 ["table", "account"] fun _ _ _ _ _ _ _ _ => rfl
  obtain ⟨e21, F21, k21, b21⟩ := l21.fn2 ["table", "account"] fun _ _ _ _ _ _ _ _ => rfl
  obtain ⟨e22, F22, k22, b22⟩ := l22.fn2 ["table", "account"] fun _ _ _ _ _ _ _ _ => rfl
  obtain ⟨e23, F23, k23, b23⟩ := l23.fn1 ["table"] fun _ _ _ _ _ _ _ => rfl
  obtain ⟨e24, F24, k24, b24⟩ := l24.fn2 ["table", "house"] fun _ _ _ _ _ _ _ _ => rfl
  obtain ⟨e25, F25, k25, b25⟩ := l25.fn2 ["_law_script", "_law_many"] fun _ _ _ _ _ _ _ _ => rfl
  obtain ⟨e26, F26, k26, b26⟩ := l26.fn1 ["_law_found"] fun _ _ _ _ _ _ _ => rfl
  obtain ⟨e27, F27, k27, b27⟩ := l27.fn2 ["_law_found", "_law_many"] fun _ _ _ _ _ _ _ _ => rfl
  obtain ⟨e28, F28, k28, b28⟩ := l28.fn2 ["_law_found", "_law_due_here"] fun _ _ _ _ _ _ _ _ => rfl
  obtain ⟨e29, F29, k29, b29⟩ := l29.fn1 ["_law_want"] fun _ _ _ _ _ _ _ => rfl
  obtain ⟨e30, F30, k30, b30⟩ := l30.fn1 ["_law_e"] fun _ _ _ _ _ _ _ => rfl
  obtain ⟨e31, F31, k31, b31⟩ := l31.fn3 ["_law_houses", "_law_house", "_law_draws_here"] fun _ _ _ _ _ _ _ _ _ => rfl
  obtain ⟨e32, F32, k32, b32⟩ := l32.fn2 ["_law_houses", "_law_draws_here"] fun _ _ _ _ _ _ _ _ => rfl
  obtain ⟨e33, F33, k33, b33⟩ := l33.fn2 ["_law_houses", "_law_draws_here"] fun _ _ _ _ _ _ _ _ => rfl
  obtain ⟨e34, F34, k34, b34⟩ := l34.fn2 ["_law_houses", "_law_draws_here"] fun _ _ _ _ _ _ _ _ => rfl
  obtain ⟨e35, F35, k35, b35⟩ := l35.fn1 ["_law_draws_here"] fun _ _ _ _ _ _ _ => rfl
  obtain ⟨e36, F36, k36, b36⟩ := l36.fn2 ["_law_lines_here", "_law_most"] fun _ _ _ _ _ _ _ _ => rfl
  obtain ⟨e37, F37, k37, b37⟩ := l37.fn1 ["_law_covers"] fun _ _ _ _ _ _ _ => rfl
  obtain ⟨e38, F38, k38, b38⟩ := l38.fn4 ["_law_covers", "_law_losses_here", "_law_splits_here", "_law_account"] fun _ _ _ _ _ _ _ _ _ _ => rfl
  obtain ⟨e39, F39, k39, b39⟩ := l39.fn4 ["_law_kind", "_law_by", "_law_most", "_law_reach"] fun _ _ _ _ _ _ _ _ _ _ => rfl
  obtain ⟨e40, F40, k40, b40⟩ := l40.fn4 ["_law_covers", "_law_losses_here", "_law_splits_here", "_law_account"] fun _ _ _ _ _ _ _ _ _ _ => rfl
  obtain ⟨e41, F41, k41, b41⟩ := l41.fn4 ["_law_covers", "_law_losses_here", "_law_splits_here", "_law_account"] fun _ _ _ _ _ _ _ _ _ _ => rfl
  obtain ⟨e42, F42, k42, b42⟩ := l42.fn3 ["_law_covers", "_law_losses_here", "_law_splits_here"] fun _ _ _ _ _ _ _ _ _ => rfl
  obtain ⟨od, an, sl, oc, kV, dc, pm, cd, ct, l, c, k43⟩ := l43.ex
  have F43 := fun_mk (st := s_law) l c k43
  have b43 := F43.binds (ps := ["_law_script"]) fun _ _ _ _ _ _ us hl => len1 (p := fun us => bindArgs _ ⟨us, []⟩ = pure (List.zip (["_law_script"] : List Str) us)) (show us.length = 1 from hl) fun _ => rfl
  have T : Txt w K mg ⟨_, _, _, _, _, _, _, _, _, _, _, _, _, _, _, _, _, _, _, _, _, _, _, _, _, _, _, _, _, _, _, _, _, _, _, _, _, _, _, _, _, _, _, _, _, _, _, _, _, _, _, _, _, _, _, _, _, _, _, _, _, _, _, _, _, _, _, _, _, _, _, _, _, _, _, _, _, _, _, _, _, _, _, _, _, _, _, _, C_Table, C_BadAccount, C_BadCover, C_BadCrowns, C_BadDay, C_BadDeed, C_BadHouses, C_BadLines, C_BadLosses, C_BadTerms, C_BadText, C_Disagrees, C_Endless, C_Full, C_NoCover, C_NoHappening, C_NoHouse, C_NoLoss, C_Nothing, C_RingError, C_Same, C_Short, C_Unbacked, d_BY_BOUNDS, u_BY_BOUNDS_0, u_BY_BOUNDS_1⟩ := ⟨F0, PySem.W.mg_of X G a0, k0, b0, F1, PySem.W.mg_of X G a1, k1, b1, F2, PySem.W.mg_of X G a2, k2, b2, F3, PySem.W.mg_of X G a3, k3, b3, F4, PySem.W.mg_of X G a4, k4, b4, F5, PySem.W.mg_of X G a5, k5, b5, F6, PySem.W.mg_of X G a6, k6, b6, F7, PySem.W.mg_of X G a7, k7, b7, F8, PySem.W.mg_of X G a8, k8, b8, F9, PySem.W.mg_of X G a9, k9, b9, F10, PySem.W.mg_of X G a10, k10, b10, F11, PySem.W.mg_of X G a11, k11, b11, F12, k12, b12, F13, ⟨a13, i13, k13⟩, k13, b13, F14, ⟨a14, i14, k14⟩, k14, b14, F15, ⟨a15, i15, k15⟩, k15, b15, F16, ⟨a16, i16, k16⟩, k16, b16, F17, ⟨a17, i17, k17⟩, k17, b17, F18, PySem.W.mg_of X G a18, k18, b18, F19, PySem.W.mg_of X G a19, k19, b19, F20, PySem.W.mg_of X G a20, k20, b20, F21, PySem.W.mg_of X G a21, k21, b21, F22, PySem.W.mg_of X G a22, k22, b22, F23, PySem.W.mg_of X G a23, k23, b23, F24, PySem.W.mg_of X G a24, k24, b24, F25, PySem.W.mg_of X G a25, k25, b25, F26, PySem.W.mg_of X G a26, k26, b26, F27, PySem.W.mg_of X G a27, k27, b27, F28, PySem.W.mg_of X G a28, k28, b28, F29, PySem.W.mg_of X G a29, k29, b29, F30, PySem.W.mg_of X G a30, k30, b30, F31, PySem.W.mg_of X G a31, k31, b31, F32, PySem.W.mg_of X G a32, k32, b32, F33, PySem.W.mg_of X G a33, k33, b33, F34, PySem.W.mg_of X G a34, k34, b34, F35, PySem.W.mg_of X G a35, k35, b35, F36, PySem.W.mg_of X G a36, k36, b36, F37, PySem.W.mg_of X G a37, k37, b37, F38, PySem.W.mg_of X G a38, k38, b38, F39, PySem.W.mg_of X G a39, k39, b39, F40, PySem.W.mg_of X G a40, k40, b40, F41, PySem.W.mg_of X G a41, k41, b41, F42, PySem.W.mg_of X G a42, k42, b42, F43, PySem.W.mg_of X G a43, k43, b43, ⟨pg_Table, hd_Table, po_Table, sa_Table⟩, PySem.W.mg_of X G aC_Table, ⟨mk_Table, a12, i12, kc_Table⟩, na_Table_house_count, na_Table_cover_rows, na_Table_befallen, na_Table_crown_bearers, PySem.W.mg_of X G aC_BadAccount, PySem.W.mg_of X G aC_BadCover, PySem.W.mg_of X G aC_BadCrowns, PySem.W.mg_of X G aC_BadDay, PySem.W.mg_of X G aC_BadDeed, PySem.W.mg_of X G aC_BadHouses, PySem.W.mg_of X G aC_BadLines, PySem.W.mg_of X G aC_BadLosses, PySem.W.mg_of X G aC_BadTerms, PySem.W.mg_of X G aC_BadText, PySem.W.mg_of X G aC_Disagrees, PySem.W.mg_of X G aC_Endless, PySem.W.mg_of X G aC_Full, PySem.W.mg_of X G aC_NoCover, PySem.W.mg_of X G aC_NoHappening, PySem.W.mg_of X G aC_NoHouse, PySem.W.mg_of X G aC_NoLoss, PySem.W.mg_of X G aC_Nothing, PySem.W.mg_of X G aC_RingError, PySem.W.mg_of X G aC_Same, PySem.W.mg_of X G aC_Short, PySem.W.mg_of X G aC_Unbacked, x_BadLosses, ec_BadLosses, em_BadLosses, kv_BadLosses, ki_BadLosses_BadAccount, ki_BadLosses_BadCover, ki_BadLosses_BadCrowns, ki_BadLosses_BadDay, ki_BadLosses_BadDeed, ki_BadLosses_BadHouses, ki_BadLosses_BadLines, ki_BadLosses_BadLosses, ki_BadLosses_BadTerms, ki_BadLosses_BadText, ki_BadLosses_Disagrees, ki_BadLosses_Endless, ki_BadLosses_Full, ki_BadLosses_NoCover, ki_BadLosses_NoHappening, ki_BadLosses_NoHouse, ki_BadLosses_NoLoss, ki_BadLosses_Nothing, ki_BadLosses_Same, ki_BadLosses_Short, ki_BadLosses_Unbacked, x_NoHouse, ec_NoHouse, em_NoHouse, kv_NoHouse, ki_NoHouse_BadAccount, ki_NoHouse_BadCover, ki_NoHouse_BadCrowns, ki_NoHouse_BadDay, ki_NoHouse_BadDeed, ki_NoHouse_BadHouses, ki_NoHouse_BadLines, ki_NoHouse_BadLosses, ki_NoHouse_BadTerms, ki_NoHouse_BadText, ki_NoHouse_Disagrees, ki_NoHouse_Endless, ki_NoHouse_Full, ki_NoHouse_NoCover, ki_NoHouse_NoHappening, ki_NoHouse_NoHouse, ki_NoHouse_NoLoss, ki_NoHouse_Nothing, ki_NoHouse_Same, ki_NoHouse_Short, ki_NoHouse_Unbacked, ⟨_, PySem.W.mg_of X G v_LAST_HOUSE⟩, ⟨_, PySem.W.mg_of X G v_LEAST_LINE⟩, ⟨_, PySem.W.mg_of X G v_MOST_BILL⟩, ⟨_, PySem.W.mg_of X G v_MOST_COVERS⟩, ⟨_, PySem.W.mg_of X G v_MOST_LINE⟩, ⟨_, PySem.W.mg_of X G v_MOST_LOSS⟩, ⟨_, PySem.W.mg_of X G v_MOST_PAIRS⟩, ⟨_, PySem.W.mg_of X G v_MOST_REACH⟩, PySem.W.mg_none_of X G z_ValueError, PySem.W.mg_none_of X G z_all, PySem.W.mg_none_of X G z_bool, PySem.W.mg_none_of X G z_enumerate, PySem.W.mg_none_of X G z_int, PySem.W.mg_none_of X G z_isinstance, PySem.W.mg_none_of X G z_len, PySem.W.mg_none_of X G z_list, PySem.W.mg_none_of X G z_max, PySem.W.mg_none_of X G z_min, PySem.W.mg_none_of X G z_range, PySem.W.mg_none_of X G z_tuple, PySem.W.mg_none_of X G z_zip, PySem.W.mg_of X G ga_BY_BOUNDS, kdict_mk (es := [_, _]) gl_BY_BOUNDS gz_BY_BOUNDS (fun e he => by simp only [List.mem_cons, List.not_mem_nil, or_false] at he; rcases he with rfl | rfl <;> exact ⟨Sum.inr _, keyIs_str _ _, rfl⟩) (fun P => .cons (mixKind_str _ _ _ _) rfl (.cons (mixKind_str _ _ _ _) rfl (.nil))) (by show ([Sum.inr "share", Sum.inr "layer"] : List Key).Nodup; decide +kernel), ⟨_, _, _, gt_BY_BOUNDS_0, rfl, rfl, by show 2 ≤ sizeLine; decide, .cons ⟨_, rfl⟩ (.cons ⟨_, rfl⟩ (.nil))⟩, ⟨_, _, _, gt_BY_BOUNDS_1, rfl, rfl, by show 2 ≤ sizeLine; decide, .cons ⟨_, rfl⟩ (.cons ⟨_, rfl⟩ (.nil))⟩⟩
  exact ⟨_, fun s v => .of_eq rfl, fun base _ _ => ok_law T⟩
theorem walk {l : PySem.W.OpenLaw} {q : Program} {loose : List Str} {XP : (Str → Option Value) → Heap → Prop} {YP : World → Heap → Prop} {d : DefRec} {K : Params → PySem.W.Frag} (hn : l.most = some 63) (hdf : d.params.defaults = [])
    (hY : ∀ (w : World) (h : Heap), YP w h → (K w.params).In h)
    (F : ∀ (w : World) (mg : Str → Option Value) (fa : Addr) (h : Heap), (K w.params).In h → h.Ns mainGlobals mg → mg d.name = some (.ref fa) →
      ∃ fd : FuncData, (∀ (s : Shared) (u : Value), BindsTo s fd ⟨[u], []⟩ [("_law_script", u)]) ∧ ∀ base : Heap, (K w.params).In base → base.Ns mainGlobals mg → FnOk l.prog w (K w.params) mg base CX0 8 fa fd ["_law_script"] (sp_law (K w.params))) :
    PySem.W.WalkO q loose XP YP l.row.toRowW d [] (fun f vs => PySem.call f vs) :=
  L2.walk_of (n := 63) (k := 8) (x := "_law_script") (CX := fun _ => CX0) (sp := fun w => sp_law (K w.params)) hn (by decide) hdf ⟨rfl, by decide, by decide⟩ hY F (fun _ _ a ns hl _ hS => ⟨a, ns, rfl, hS, hl, fun _ => rfl⟩) fun _ _ _ _ _ z => z
end Rc
open PySem PySem.W PyProof.Rows
set_option maxRecDepth 100000 in
set_option maxHeartbeats 0 in
theorem PySem.Challenge.cw_ringcede_k38_what_hangs_on_a_house_holds : PySem.Challenge.rw_ringcede_k38_what_hangs_on_a_house.Holds := by
  w_on; o_law; k_head; (case hw => w_witness2)
  k_fill
  refine Rc.walk (l := PySem.Challenge.rw_ringcede_k38_what_hangs_on_a_house) rfl rfl (fun w h Y => PySem.W.kIn_of Y) ?F
  case F =>
    intro w mg fa h KX G hmg
    refine' Rc.all_mk KX G hmg ?aC_Table ?aC_BadAccount ?aC_BadCover ?aC_BadCrowns ?aC_BadDay ?aC_BadDeed ?aC_BadHouses ?aC_BadLines ?aC_BadLosses ?aC_BadTerms ?aC_BadText ?aC_Disagrees ?aC_Endless ?aC_Full ?aC_NoCover ?aC_NoHappening ?aC_NoHouse ?aC_NoLoss ?aC_Nothing ?aC_RingError ?aC_Same ?aC_Short ?aC_Unbacked ?a0 ?l0 ?a1 ?l1 ?a2 ?l2 ?a3 ?l3 ?a4 ?l4 ?a5 ?l5 ?a6 ?l6 ?a7 ?l7 ?a8 ?l8 ?a9 ?l9 ?a10 ?l10 ?a11 ?l11 ?a12 ?i12 ?l12 ?a13 ?i13 ?l13 ?a14 ?i14 ?l14 ?a15 ?i15 ?l15 ?a16 ?i16 ?l16 ?a17 ?i17 ?l17 ?a18 ?l18 ?a19 ?l19 ?a20 ?l20 ?a21 ?l21 ?a22 ?l22 ?a23 ?l23 ?a24 ?l24 ?a25 ?l25 ?a26 ?l26 ?a27 ?l27 ?a28 ?l28 ?a29 ?l29 ?a30 ?l30 ?a31 ?l31 ?a32 ?l32 ?a33 ?l33 ?a34 ?l34 ?a35 ?l35 ?a36 ?l36 ?a37 ?l37 ?a38 ?l38 ?a39 ?l39 ?a40 ?l40 ?a41 ?l41 ?a42 ?l42 ?a43 ?l43 ?v_LAST_HOUSE ?v_LEAST_LINE ?v_MOST_BILL ?v_MOST_COVERS ?v_MOST_LINE ?v_MOST_LOSS ?v_MOST_PAIRS ?v_MOST_REACH ?pg_Table ?hd_Table ?po_Table ?sa_Table ?mk_Table ?kc_Table ?na_Table_house_count ?na_Table_cover_rows ?na_Table_befallen ?na_Table_crown_bearers ?x_BadLosses ?ec_BadLosses ?em_BadLosses ?kv_BadLosses ?ki_BadLosses_BadAccount ?ki_BadLosses_BadCover ?ki_BadLosses_BadCrowns ?ki_BadLosses_BadDay ?ki_BadLosses_BadDeed ?ki_BadLosses_BadHouses ?ki_BadLosses_BadLines ?ki_BadLosses_BadLosses ?ki_BadLosses_BadTerms ?ki_BadLosses_BadText ?ki_BadLosses_Disagrees ?ki_BadLosses_Endless ?ki_BadLosses_Full ?ki_BadLosses_NoCover ?ki_BadLosses_NoHappening ?ki_BadLosses_NoHouse ?ki_BadLosses_NoLoss ?ki_BadLosses_Nothing ?ki_BadLosses_Same ?ki_BadLosses_Short ?ki_BadLosses_Unbacked ?x_NoHouse ?ec_NoHouse ?em_NoHouse ?kv_NoHouse ?ki_NoHouse_BadAccount ?ki_NoHouse_BadCover ?ki_NoHouse_BadCrowns ?ki_NoHouse_BadDay ?ki_NoHouse_BadDeed ?ki_NoHouse_BadHouses ?ki_NoHouse_BadLines ?ki_NoHouse_BadLosses ?ki_NoHouse_BadTerms ?ki_NoHouse_BadText ?ki_NoHouse_Disagrees ?ki_NoHouse_Endless ?ki_NoHouse_Full ?ki_NoHouse_NoCover ?ki_NoHouse_NoHappening ?ki_NoHouse_NoHouse ?ki_NoHouse_NoLoss ?ki_NoHouse_Nothing ?ki_NoHouse_Same ?ki_NoHouse_Short ?ki_NoHouse_Unbacked ?z_ValueError ?z_all ?z_bool ?z_enumerate ?z_int ?z_isinstance ?z_len ?z_list ?z_max ?z_min ?z_range ?z_tuple ?z_zip ?ga_BY_BOUNDS ?gl_BY_BOUNDS ?gz_BY_BOUNDS ?gt_BY_BOUNDS_0 ?gt_BY_BOUNDS_1
    (case aC_Table | aC_BadAccount | aC_BadCover | aC_BadCrowns | aC_BadDay | aC_BadDeed | aC_BadHouses | aC_BadLines | aC_BadLosses | aC_BadTerms | aC_BadText | aC_Disagrees | aC_Endless | aC_Full | aC_NoCover | aC_NoHappening | aC_NoHouse | aC_NoLoss | aC_Nothing | aC_RingError | aC_Same | aC_Short | aC_Unbacked | a0 | a1 | a2 | a3 | a4 | a5 | a6 | a7 | a8 | a9 | a10 | a11 | a12 | i12 | a13 | i13 | a14 | i14 | a15 | i15 | a16 | i16 | a17 | i17 | a18 | a19 | a20 | a21 | a22 | a23 | a24 | a25 | a26 | a27 | a28 | a29 | a30 | a31 | a32 | a33 | a34 | a35 | a36 | a37 | a38 | a39 | a40 | a41 | a42 | a43 => k_is)
    (case l0 | l1 | l2 | l3 | l4 | l5 | l6 | l7 | l8 | l9 | l10 | l11 | l12 | l13 | l14 | l15 | l16 | l17 | l18 | l19 | l20 | l21 | l22 | l23 | l24 | l25 | l26 | l27 | l28 | l29 | l30 | l31 | l32 | l33 | l34 | l35 | l36 | l37 | l38 | l39 | l40 | l41 | l42 | l43 => refine' Rc.fl_mk ?l ?c ?k; (case l => k_is); (case c => k_is); (case k => k_is))
    (case em_BadLosses | kv_BadLosses | ki_BadLosses_BadAccount | ki_BadLosses_BadCover | ki_BadLosses_BadCrowns | ki_BadLosses_BadDay | ki_BadLosses_BadDeed | ki_BadLosses_BadHouses | ki_BadLosses_BadLines | ki_BadLosses_BadLosses | ki_BadLosses_BadTerms | ki_BadLosses_BadText | ki_BadLosses_Disagrees | ki_BadLosses_Endless | ki_BadLosses_Full | ki_BadLosses_NoCover | ki_BadLosses_NoHappening | ki_BadLosses_NoHouse | ki_BadLosses_NoLoss | ki_BadLosses_Nothing | ki_BadLosses_Same | ki_BadLosses_Short | ki_BadLosses_Unbacked | em_NoHouse | kv_NoHouse | ki_NoHouse_BadAccount | ki_NoHouse_BadCover | ki_NoHouse_BadCrowns | ki_NoHouse_BadDay | ki_NoHouse_BadDeed | ki_NoHouse_BadHouses | ki_NoHouse_BadLines | ki_NoHouse_BadLosses | ki_NoHouse_BadTerms | ki_NoHouse_BadText | ki_NoHouse_Disagrees | ki_NoHouse_Endless | ki_NoHouse_Full | ki_NoHouse_NoCover | ki_NoHouse_NoHappening | ki_NoHouse_NoHouse | ki_NoHouse_NoLoss | ki_NoHouse_Nothing | ki_NoHouse_Same | ki_NoHouse_Short | ki_NoHouse_Unbacked => rfl)
    (case x_BadLosses | x_NoHouse => kernel_rfl)
    (case ec_BadLosses | ec_NoHouse => exact ⟨rfl, rfl, rfl, rfl, rfl, rfl, rfl, rfl⟩)
    (case v_LAST_HOUSE | v_LEAST_LINE | v_MOST_BILL | v_MOST_COVERS | v_MOST_LINE | v_MOST_LOSS | v_MOST_PAIRS | v_MOST_REACH | pg_Table | hd_Table | po_Table | sa_Table | mk_Table | kc_Table | na_Table_house_count | na_Table_cover_rows | na_Table_befallen | na_Table_crown_bearers | z_ValueError | z_all | z_bool | z_enumerate | z_int | z_isinstance | z_len | z_list | z_max | z_min | z_range | z_tuple | z_zip | ga_BY_BOUNDS | gl_BY_BOUNDS | gt_BY_BOUNDS_0 | gt_BY_BOUNDS_1 => k_is)
    (case gz_BY_BOUNDS => rfl)
#print axioms PySem.Challenge.cw_ringcede_k38_what_hangs_on_a_house_holds
