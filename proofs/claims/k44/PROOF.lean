import PyProof.Rows.All
import Wide.All
import OpenK.AllK
import Wide.FinOn
import Lean
import PyProof.EqAt
import PyProof.EqKinds
import PyProof.TupleCall
import PySem.Challenge.RW_ringcede_k44_room_in_a_ring
set_option Elab.async false
set_option linter.all false
set_option maxRecDepth 100000
open PySem.W (Frag nsIn keepIn kitOne mg_of findIn fnOf mg_none_of)
namespace L2
open PySem PySem.Spec PyProof.Rows
abbrev Key := Sum Int Str
def keyIs : Key → Value → Bool
  | .inl k, v => Value.isInt k v
  | .inr x, v => Value.isStrOf x v
def keyH (w : World) : Key → Int
  | .inl k => hashInt k
  | .inr x => hashStr w x
theorem keyIs_shape : ∀ {k : Key} {v : Value}, keyIs k v = true → (∃ i t, k = Sum.inl i ∧ v = Value.int i t) ∨ (∃ x t, k = Sum.inr x ∧ v = Value.str x t)
  | .inl i, v, h => by
    obtain ⟨t, e⟩ := Value.isInt_shape (k := i) (v := v) h
    exact .inl ⟨i, t, rfl, e⟩
  | .inr x, v, h => by
    obtain ⟨t, e⟩ := Value.isStrOf_shape (x := x) (v := v) h
    exact .inr ⟨x, t, rfl, e⟩
theorem keyIs_int (i : Int) (t : Tok) : keyIs (.inl i) (.int i t) = true := by simp [keyIs, Value.isInt]
theorem keyIs_str (x : Str) (t : Tok) : keyIs (.inr x) (.str x t) = true := by simp [keyIs, Value.isStrOf]
theorem key_ll (a b : Int) : decide ((Sum.inl a : Key) = Sum.inl b) = (a == b) := by
  by_cases e : a = b
  · subst e; simp
  · have h : ¬ (Sum.inl a : Key) = Sum.inl b := fun q => e (Sum.inl.inj q)
    rw [decide_eq_false h]
    exact (beq_eq_false_iff_ne.mpr e).symm
theorem key_rr (a b : Str) : decide ((Sum.inr a : Key) = Sum.inr b) = decide (a = b) := by
  by_cases e : a = b
  · subst e; simp
  · have h : ¬ (Sum.inr a : Key) = Sum.inr b := fun q => e (Sum.inr.inj q)
    rw [decide_eq_false h, decide_eq_false e]
theorem key_lr (a : Int) (b : Str) : decide ((Sum.inl a : Key) = Sum.inr b) = false := decide_eq_false (fun q => nomatch q)
theorem key_rl (a : Str) (b : Int) : decide ((Sum.inr a : Key) = Sum.inl b) = false := decide_eq_false (fun q => nomatch q)
def mixKind (prog : Program) (w : World) : PySem.KeyKind prog w Key where
  is := keyIs
  hash := keyH w
  inj := fun v a b ha hb => by
    rcases keyIs_shape ha with ⟨i, t, rfl, rfl⟩ | ⟨x, t, rfl, rfl⟩
    · rcases keyIs_shape hb with ⟨j, u, rfl, e⟩ | ⟨y, u, rfl, e⟩
      · injection e with e1 _; rw [e1]
      · exact nomatch e
    · rcases keyIs_shape hb with ⟨j, u, rfl, e⟩ | ⟨y, u, rfl, e⟩
      · exact nomatch e
      · injection e with e1 _; rw [e1]
  byValue := fun k v h => by
    rcases keyIs_shape h with ⟨i, t, rfl, rfl⟩ | ⟨x, t, rfl, rfl⟩ <;> rfl
  pyHash := fun hv h => by
    rcases keyIs_shape hv with ⟨i, t, rfl, rfl⟩ | ⟨x, t, rfl, rfl⟩
    · exact wpAny_pyHash_int h
    · exact wpAny_pyHash_str h
  eqBool := fun hu hv h => by
    rcases keyIs_shape hu with ⟨i, t, rfl, rfl⟩ | ⟨x, t, rfl, rfl⟩
    · rcases keyIs_shape hv with ⟨j, u, rfl, rfl⟩ | ⟨y, u, rfl, rfl⟩
      · rw [key_ll] at h; exact wpAny_eqBool_int h
      · rw [key_lr] at h; exact SeqAt.EqAt.int_str i t y u _ _ _ _ h
    · rcases keyIs_shape hv with ⟨j, u, rfl, rfl⟩ | ⟨y, u, rfl, rfl⟩
      · rw [key_rl] at h; exact SeqAt.EqAt.str_int x t j u _ _ _ _ h
      · rw [key_rr] at h; exact wpAny_eqBool_str h
  «strs» := fun k x t v h => by
    rcases keyIs_shape h with ⟨i, u, rfl, e⟩ | ⟨y, u, rfl, e⟩
    · exact nomatch e
    · injection e with e1 _
      subst e1
      cases v <;> rfl
theorem mixKind_int (prog : Program) (w : World) (i : Int) (t : Tok) : (mixKind prog w).is (.inl i) (.int i t) = true := keyIs_int i t
theorem mixKind_str (prog : Program) (w : World) (x : Str) (t : Tok) : (mixKind prog w).is (.inr x) (.str x t) = true := keyIs_str x t
end L2
namespace L2
open PySem PySem.Spec PyProof.Rows
inductive V where
  | non | bl (b : Bool) | int (i : Int) | str (x : Str) | byt (b : Array UInt8) | flt (b : UInt64) | ref (a : Addr) | ty (n : String)
  deriving DecidableEq
def RelV : V → Value → Prop
  | .non, u => u = Value.none
  | .bl b, u => u = Value.bool b
  | .int i, u => ∃ t, u = Value.int i t
  | .str x, u => ∃ t, u = Value.str x t
  | .byt b, u => ∃ t, u = Value.bytes b t
  | .flt b, u => ∃ t, u = Value.float b t
  | .ref a, u => u = Value.ref a
  | .ty n, u => u = Value.type n
abbrev Vals : List V → List Value → Prop := Paired RelV
theorem Vals.length {xs : List V} {us : List Value} (r : Vals xs us) : xs.length = us.length := Paired.length r
theorem Vals.get : ∀ {xs : List V} {us : List Value} {i : Nat} {x : V}, Vals xs us → xs[i]? = some x → ∃ u, us[i]? = some u ∧ RelV x u
  | _, _, _, _, .nil, e => by simp at e
  | _, _, 0, _, .cons r _, e => by simp at e; subst e; exact ⟨_, rfl, r⟩
  | _, _, i + 1, x, .cons _ t, e => by
    obtain ⟨u, h1, h2⟩ := Vals.get (i := i) (x := x) t (by simpa using e)
    exact ⟨u, by simpa using h1, h2⟩
theorem Vals.append : ∀ {xs ys : List V} {us ws : List Value}, Vals xs us → Vals ys ws → Vals (xs ++ ys) (us ++ ws)
  | _, _, _, _, .nil, s => s
  | _, _, _, _, .cons r t, s => .cons r (Vals.append t s)
theorem Vals.take : ∀ {xs : List V} {us : List Value} (n : Nat), Vals xs us → Vals (xs.take n) (us.take n)
  | _, _, 0, _ => .nil
  | _, _, _ + 1, .nil => .nil
  | _, _, n + 1, .cons r t => .cons r (Vals.take n t)
theorem Vals.drop : ∀ {xs : List V} {us : List Value} (n : Nat), Vals xs us → Vals (xs.drop n) (us.drop n)
  | _, _, 0, r => r
  | _, _, _ + 1, .nil => .nil
  | _, _, n + 1, .cons _ t => Vals.drop n t
def RelO : Option V → Option Value → Prop
  | some v, some u => RelV v u
  | none, none => True
  | _, _ => False
def KV {κ : Type} : List (κ × V) → List (κ × Value) → Prop := Paired fun (p : κ × V) (q : κ × Value) => p.1 = q.1 ∧ RelV p.2 q.2
def kV : Key → V
  | .inl i => .int i
  | .inr x => .str x
inductive HO where
  | lst (xs : List V)
  | tup (xs : List V)
  | dK (kvs : List (Key × V)) | dT (kvs : List (List Key × V))
  | set (S : Int → Bool) (n : Nat)
  | ins (C dx : Addr) (fs : List (Str × V))
  | own (x : Addr)
  | xd (fs : List (Str × V))
  | met (f x : Addr)
  | rng (lo hi : Int)
  | frz (o : Obj) (u : HO)
  | tbl (ps : Array Value)
  | ext (φ : Heap → Prop)
abbrev Hp := Addr → Option HO
def upd (H : Hp) (a : Addr) (o : HO) : Hp := fun b => if b = a then some o else H b
theorem upd_same {H : Hp} {a : Addr} {o : HO} : upd H a o a = some o := by unfold upd; rw [if_pos rfl]
theorem upd_ne {H : Hp} {a b : Addr} {o : HO} (h : b ≠ a) : upd H a o b = H b := by unfold upd; rw [if_neg h]
theorem upd_upd {H : Hp} {a : Addr} {o u : HO} : upd (upd H a o) a u = upd H a u := by
  funext b; unfold upd; split <;> rfl
theorem ne_of {H : Hp} {a b : Addr} {o u : HO} (h : H a = some o) (h' : H b = some u) (d : o ≠ u) : a ≠ b := by
  intro e; subst e; rw [h] at h'; exact d (Option.some.inj h')
theorem ne_of_none {H : Hp} {a b : Addr} {o : HO} (h : H a = some o) (h' : H b = none) : a ≠ b := by
  intro e; subst e; rw [h] at h'; cases h'
section
variable (P : Program) (w : World)
def ObjOk (H : Hp) (h : Heap) (a : Addr) : HO → Prop
  | .lst xs => xs.length ≤ sizeLine ∧ ∃ (its : List Value) (n : Nat), Vals xs its ∧ h.get? a = some { cls := .type "list", data := .seq its.toArray n }
  | .tup xs => xs.length ≤ sizeLine ∧ ∃ its : List Value, Vals xs its ∧ IsTup h a its.toArray
  | .dK kvs => kvs.length ≤ sizeLine ∧ (a == sysModules) = false ∧ ∃ vs, KV kvs vs ∧ h.DictOf (mixKind P w) a vs
  | .dT kvs => kvs.length ≤ sizeLine ∧ (a == sysModules) = false ∧ ∃ xs : List (List Key × Addr × Value),
      Paired (fun (p : List Key × V) (q : List Key × Addr × Value) => p.1 = q.1 ∧ H q.2.1 = some (.tup (p.1.map kV)) ∧ RelV p.2 q.2.2) kvs xs ∧
      ∃ o es ep, h.get? a = some o ∧ o.ExactDict ∧ o.data = .dict es ep ∧ es.toList = xs.map (entryOfKey (tupleKind (mixKind P w))) ∧ (xs.map (·.1)).Nodup
  | .set S n => h.SetOf (intKind P w) a S n
  | .ins C dx fs => H dx = some (.own a) ∧ fs.length ≤ 1000 ∧ dx ≠ a ∧ h.get? a = some (PySem.W.instObj C dx) ∧
      ∃ mA, h.Ns1 dx mA ∧ (∀ f, RelO (fs.lookup f) (mA f)) ∧ PySem.Within mA (fs.map (·.1))
  | .own _ => ∃ o, h.get? a = some o
  | .xd fs => ∃ mA, h.Ns1 a mA ∧ ∀ f, RelO (fs.lookup f) (mA f)
  | .rng lo hi => ∃ t u v, h.get? a = some { cls := .type "range", data := .fields #[.int lo t, .int hi u, .int 1 v] }
  | .frz o u => h.get? a = some o ∧ ObjOk H h a u
  | .tbl ps => h.get? a = some { cls := .none, data := .fields ps }
  | .met f x => h.get? a = some (PySem.W.methodObj (.ref f) (.ref x))
  | .ext φ => φ h ∧ (∃ o, h.get? a = some o) ∧ ∀ h1 h2 : Heap, φ h1 → (∀ o, h1.get? a = some o → h2.get? a = some o) → φ h2
def HOk (H : Hp) (h : Heap) : Prop := ∀ a o, H a = some o → ObjOk P w H h a o
end
section
variable {P : Program} {w : World} {H H' : Hp} {h h' : Heap} {a : Addr} {o : HO}
theorem ObjOk.lt (x : ObjOk P w H h a o) : a < h.objs.size := by
  cases o with
  | lst xs => obtain ⟨_, _, _, _, e⟩ := x; exact Heap.lt_size e
  | tup xs => obtain ⟨_, _, _, p⟩ := x; exact p.lt
  | dK kvs => obtain ⟨_, _, _, _, o, _, _, e, _⟩ := x; exact Heap.lt_size e
  | dT kvs => obtain ⟨_, _, _, _, o, _, _, e, _⟩ := x; exact Heap.lt_size e
  | set S n => obtain ⟨o, _, _, _, e, _⟩ := x; exact Heap.lt_size e
  | ins C dx fs => obtain ⟨_, _, _, e, _⟩ := x; exact Heap.lt_size e
  | own y => obtain ⟨_, e⟩ := x; exact Heap.lt_size e
  | xd fs => obtain ⟨_, ⟨_, _, _, e, _⟩, _⟩ := x; exact Heap.lt_size e
  | rng lo hi => obtain ⟨_, _, _, e⟩ := x; exact Heap.lt_size e
  | frz ob u => obtain ⟨e, _⟩ := x; exact Heap.lt_size e
  | tbl ps => exact Heap.lt_size (show h.get? a = some _ from x)
  | met f y => exact Heap.lt_size (show h.get? a = some _ from x)
  | ext φ => obtain ⟨_, ⟨_, e⟩, _⟩ := x; exact Heap.lt_size e
theorem Paired.mapP {α β : Type} {F G : α → β → Prop} : ∀ {l₁ : List α} {l₂ : List β}, Paired F l₁ l₂ → (∀ a b, F a b → G a b) → Paired G l₁ l₂
  | _, _, .nil, _ => .nil
  | _, _, .cons r t, f => .cons (f _ _ r) (Paired.mapP t f)
theorem ObjOk.stay (x : ObjOk P w H h a o) (k : ∀ b u, (b = a ∨ H b = some (.own a)) → h.get? b = some u → h'.get? b = some u)
    (ho : ∀ b, H b = some (.own a) → H' b = some (.own a)) (ht : ∀ b xs, H b = some (.tup xs) → H' b = some (.tup xs)) : ObjOk P w H' h' a o := by
  induction o with
  | lst xs => obtain ⟨z, its, n, r, e⟩ := x; exact ⟨z, its, n, r, k _ _ (.inl rfl) e⟩
  | tup xs => obtain ⟨z, its, r, ob, e, c⟩ := x; exact ⟨z, its, r, ob, k _ _ (.inl rfl) e, c⟩
  | dK kvs => obtain ⟨z, y, vs, r, ob, es, ep, e, c⟩ := x; exact ⟨z, y, vs, r, ob, es, ep, k _ _ (.inl rfl) e, c⟩
  | dT kvs =>
    obtain ⟨z, y, xs, r, ob, es, ep, e, c⟩ := x
    exact ⟨z, y, xs, Paired.mapP r fun p q z => ⟨z.1, ht _ _ z.2.1, z.2.2⟩, ob, es, ep, k _ _ (.inl rfl) e, c⟩
  | set S n => obtain ⟨ob, es, ep, t, e, c⟩ := x; exact ⟨ob, es, ep, t, k _ _ (.inl rfl) e, c⟩
  | ins C dx fs =>
    obtain ⟨d, z, ne, e, mA, ⟨od, es, ep, e2, c⟩, r⟩ := x
    exact ⟨ho _ d, z, ne, k _ _ (.inl rfl) e, mA, ⟨od, es, ep, k _ _ (.inr d) e2, c⟩, r⟩
  | own y => obtain ⟨ob, e⟩ := x; exact ⟨ob, k _ _ (.inl rfl) e⟩
  | xd fs => obtain ⟨mA, ⟨od, es, ep, e, c⟩, r⟩ := x; exact ⟨mA, ⟨od, es, ep, k _ _ (.inl rfl) e, c⟩, r⟩
  | rng lo hi => obtain ⟨t, u, v, e⟩ := x; exact ⟨t, u, v, k _ _ (.inl rfl) e⟩
  | frz ob u ih => obtain ⟨e, q⟩ := x; exact ⟨k _ _ (.inl rfl) e, ih q⟩
  | tbl ps =>
    have e : h.get? a = some { cls := .none, data := .fields ps } := x
    show h'.get? a = some { cls := .none, data := .fields ps }
    exact k a _ (.inl rfl) e
  | met f y =>
    have e : h.get? a = some (PySem.W.methodObj (.ref f) (.ref y)) := x
    show h'.get? a = some (PySem.W.methodObj (.ref f) (.ref y))
    exact k a _ (.inl rfl) e
  | ext φ => obtain ⟨p, ⟨o, e⟩, st⟩ := x; exact ⟨st _ _ p fun o q => k _ _ (.inl rfl) q, ⟨o, k _ _ (.inl rfl) e⟩, st⟩
theorem HOk.lt (x : HOk P w H h) (e : H a = some o) : a < h.objs.size := (x a o e).lt
theorem HOk.fresh (x : HOk P w H h) (e : h.objs.size ≤ a) : H a = none := by
  cases q : H a with
  | none => rfl
  | some u => exact absurd (Nat.lt_of_lt_of_le (x.lt q) e) (Nat.lt_irrefl _)
theorem HOk.kept (x : HOk P w H h) (k : ∀ b u, h.get? b = some u → h'.get? b = some u) : HOk P w H h' := fun a o e =>
  (x a o e).stay (fun b u _ q => k b u q) (fun _ q => q) fun _ _ q => q
theorem HOk.laid (x : HOk P w H h) (k : ∀ b u, h.get? b = some u → h'.get? b = some u) (hp : h.objs.size ≤ a) (new : ObjOk P w (upd H a o) h' a o) : HOk P w (upd H a o) h' := fun b u e => by
  have hn := x.fresh hp
  by_cases hb : b = a
  · subst hb; rw [upd_same] at e; cases e; exact new
  · rw [upd_ne hb] at e
    exact (x b u e).stay (fun c v _ q => k c v q) (fun c q => by rw [upd_ne (ne_of_none q hn)]; exact q) fun c xs q => by rw [upd_ne (ne_of_none q hn)]; exact q
end
def Rd (H : Hp) (a : Addr) (u : HO) : Prop := H a = some u ∨ ∃ o, H a = some (.frz o u)
theorem Rd.ok {P : Program} {w : World} {H : Hp} {h : Heap} {a : Addr} {u : HO} (r : Rd H a u) (x : HOk P w H h) : ObjOk P w H h a u := by
  rcases r with r | ⟨o, r⟩
  · exact x a u r
  · obtain ⟨_, q⟩ := x a _ r
    exact q
def Mut : Option HO → Prop
  | some (.lst _) => True
  | some (.dK _) => True
  | some (.dT _) => True
  | some (.set _ _) => True
  | some (.ins _ _ _) => True
  | some (.ext _) => True
  | _ => False
section
variable {P : Program} {w : World} {H : Hp} {h h' : Heap} {x e : Addr} {o' : HO}
theorem HOk.write (ok : HOk P w H h) (mu : Mut (H x)) (he : e = x ∨ H e = some (.own x)) (k : ∀ b u, b ≠ e → h.get? b = some u → h'.get? b = some u) (heo : ∃ u, h'.get? e = some u)
    (new : ObjOk P w (upd H x o') h' x o') : HOk P w (upd H x o') h' := fun b u q => by
  have nown : ∀ c y, H c = some (.own y) → c ≠ x := fun c y r z => by subst z; rw [r] at mu; exact mu
  have ntup : ∀ c xs, H c = some (.tup xs) → c ≠ x := fun c xs r z => by subst z; rw [r] at mu; exact mu
  by_cases hb : b = x
  · subst hb; rw [upd_same] at q; cases q; exact new
  · rw [upd_ne hb] at q
    by_cases hbe : b = e
    · have q' : H b = some (.own x) := by
        rcases he with z | z
        · exact absurd (hbe.trans z) hb
        · rw [hbe]; exact z
      rw [q] at q'; cases q'
      obtain ⟨v, hv⟩ := heo
      exact ⟨v, by rw [hbe]; exact hv⟩
    · refine (ok b u q).stay (fun c v hc r => k c v ?_ r) (fun c r => by rw [upd_ne (nown c b r)]; exact r) fun c xs r => by rw [upd_ne (ntup c xs r)]; exact r
      rcases hc with rfl | hc
      · exact hbe
      · rintro rfl
        rcases he with z | z
        · exact nown c b hc z
        · rw [hc] at z; cases z; exact hb rfl
end
structure Un (fs ex : List Addr) (H H' : Hp) (h h' : Heap) : Prop where
  keep : ∀ b o, h.get? b = some o → H b = none → b ∉ fs → b ∉ ex → h'.get? b = some o
  slot : ∀ b o, h.get? b = some o → H b = none → b ∈ fs → b ∉ ex → ∃ sl, h'.get? b = some { o with slots := sl }
  free : ∀ b o, h.get? b = some o → H b = none → b ∉ ex → H' b = none
  there : ∀ b o, h.get? b = some o → b ∉ ex → ∃ o', h'.get? b = some o'
  tups : ∀ b xs, H b = some (.tup xs) → H' b = some (.tup xs)
  frzs : ∀ b o u, H b = some (.frz o u) → H' b = some (.frz o u)
  tbls : ∀ b ps, H b = some (.tbl ps) → ∃ more, H' b = some (.tbl (ps ++ more))
section
variable {fs fs' ex ex' : List Addr} {H H1 H2 : Hp} {h h1 h2 h' : Heap} {a x e : Addr} {o : HO}
theorem Un.any (u : Un fs ex H H1 h h1) {b : Addr} {ob : Obj} (q : h.get? b = some ob) (n : H b = none) (hx : b ∉ ex) : ∃ sl, h1.get? b = some { ob with slots := sl } := by
  by_cases hb : b ∈ fs
  · exact u.slot b ob q n hb hx
  · exact ⟨ob.slots, u.keep b ob q n hb hx⟩
theorem Un.kept (k : ∀ b u, h.get? b = some u → h'.get? b = some u) : Un fs ex H H h h' :=
  ⟨fun b ob q _ _ _ => k b ob q, fun b ob q _ _ _ => ⟨ob.slots, k b ob q⟩, fun _ _ _ n _ => n, fun b ob q _ => ⟨ob, k b ob q⟩, fun _ _ q => q, fun _ _ _ q => q, fun _ ps q => ⟨#[], by rw [q]; simp⟩⟩
theorem Un.refl : Un fs ex H H h h := Un.kept fun _ _ q => q
theorem Un.laid (k : ∀ b u, h.get? b = some u → h'.get? b = some u) (hp : h.objs.size ≤ a) (hn : H a = none) : Un fs ex H (upd H a o) h h' where
  keep := fun b u q _ _ _ => k b u q
  slot := fun b u q _ _ _ => ⟨u.slots, k b u q⟩
  free := fun b u q n _ => by rw [upd_ne (Nat.ne_of_lt (Nat.lt_of_lt_of_le (Heap.lt_size q) hp))]; exact n
  there := fun b u q _ => ⟨u, k b u q⟩
  tups := fun b xs q => by rw [upd_ne (ne_of_none q hn)]; exact q
  frzs := fun b u xs q => by rw [upd_ne (ne_of_none q hn)]; exact q
  tbls := fun b ps q => ⟨#[], by rw [upd_ne (ne_of_none q hn), q]; simp⟩
theorem Un.write (mu : Mut (H x)) (he : e = x ∨ H e = some (.own x)) (k : ∀ b u, b ≠ e → h.get? b = some u → h'.get? b = some u) (heo : ∃ u, h'.get? e = some u) : Un fs ex H (upd H x o) h h' := by
  have hx : ∀ b, H b = none → b ≠ x := fun b n z => by subst z; rw [n] at mu; exact mu
  have hb : ∀ b, H b = none → b ≠ e := fun b n z => by
    subst z
    rcases he with r | r
    · exact hx b n r
    · rw [n] at r; cases r
  have hm : ∀ b u, H b = some u → ¬ Mut (some u) → b ≠ x := fun b u q nm z => by subst z; rw [q] at mu; exact nm mu
  refine ⟨fun b u q n _ _ => k b u (hb b n) q, fun b u q n _ _ => ⟨u.slots, k b u (hb b n) q⟩, fun b u q n _ => by rw [upd_ne (hx b n)]; exact n, fun b u q _ => ?_,
    fun b xs q => by rw [upd_ne (hm b _ q fun z => z)]; exact q, fun b u xs q => by rw [upd_ne (hm b _ q fun z => z)]; exact q, fun b ps q => ⟨#[], by rw [upd_ne (hm b _ q fun z => z), q]; simp⟩⟩
  by_cases hbe : b = e
  · subst hbe; exact heo
  · exact ⟨u, k b u hbe q⟩
end
def trk (h : Heap) (H : Hp) : List Addr := (List.range h.objs.size).filter fun a => (H a).isSome
def hidT (h : Heap) (H : Hp) : Heap := PySem.W.hideAll h (trk h H)
theorem hidT_size (h : Heap) (H : Hp) : (hidT h H).objs.size = h.objs.size := PySem.W.hideAll_size _ _
theorem hidT_get {h : Heap} {H : Hp} {b : Addr} {o : Obj} (e : h.get? b = some o) (n : H b = none) : (hidT h H).get? b = some o :=
  PySem.W.hideAll_get _ e fun hm => by
    have q : (H b).isSome = true := (List.mem_filter.mp hm).2
    rw [n] at q; simp at q
theorem of_hidT {h : Heap} {H : Hp} {b : Addr} {o : Obj} (e : (hidT h H).get? b = some o) : h.get? b = some o ∧ H b = none := by
  have e' : h.get? b = some o := PySem.W.of_hideAll (trk h H) e
  refine ⟨e', ?_⟩
  cases q : H b with
  | none => rfl
  | some x =>
    have hm : b ∈ trk h H := List.mem_filter.mpr ⟨List.mem_range.mpr (Heap.lt_size e'), by simp [q]⟩
    have z : (hidT h H).get? b = none := PySem.W.hideAll_none (trk h H) hm
    rw [z] at e; cases e
end L2
namespace L2
open PySem PySem.Spec PyProof.Rows
structure Mod (K : Frag) (mg : Str → Option Value) (base : Heap) : Prop where
  kin : K.In base
  glob : base.Ns mainGlobals mg
  blt : ∃ mb, base.Ns builtinsNs mb ∧ ∀ x : Str, x ≠ "__name__" → mb x = bootBuiltins x
  nolimit : base.NoLimit
structure Cx where
  prog : Program
  w : World
  K : Frag
  mg : Str → Option Value
  base : Heap
  A : Around
  N : List Str
  s₀ : Shared
  H₀ : Hp
  env : Env
  outer : List Env
  stack : List Env
  ex : List Addr
  fn : Str → Bool
  calm : Bool
  pn : List (Addr × Obj)
  xe : Value → Shared → Prop
def frs (l : List Env) : List Addr := l.filterMap (·.frame)
abbrev Cx.fs (X : Cx) : List Addr := frs X.outer
def Vis (sc : Scope) (x : Str) : Prop := sc.names.lookup x = some .local ∨ sc.names.lookup x = some .cell ∨ sc.names.lookup x = some .free
def Loc (sc : Scope) (x : Str) : Prop := sc.names.lookup x = some .local ∨ sc.names.lookup x = some .cell
def Look (env : Env) (h : Heap) (m : Str → Option Value) (x : Str) (u : Value) : Prop :=
  (env.kindOf x = some .local ∧ m x = some u) ∨ ((env.kindOf x = some .cell ∨ env.kindOf x = some .free) ∧ ∃ c, env.cells.lookup x = some c ∧ h.IsCell c (some u))
structure Cx.Ok (X : Cx) : Prop where
  mod : Mod X.K X.mg X.base
  kind : X.env.scope.kind = .function
  glob : X.env.globals = mainGlobals
  blt : X.env.builtins = builtinsNs
  above : X.s₀.heap.objs.size ≤ X.env.locals
  inj : ∀ x y c, X.env.cells.lookup x = some c → X.env.cells.lookup y = some c → x = y
  has : ∀ x, (X.env.kindOf x = some .cell ∨ X.env.kindOf x = some .free) → ∃ c, X.env.cells.lookup x = some c
  cab : ∀ x c, X.fn x = true → X.env.cells.lookup x = some c → X.s₀.heap.objs.size ≤ c
  hd : X.calm = true → X.A.handled = none
  frames : X.A.frames = some X.stack
  stk : X.stack = X.outer ∨ (X.stack = X.env :: X.outer ∧ X.env.frame = some X.env.locals)
  exf : ∀ b ∈ X.ex, b ≠ X.env.locals ∧ ∀ x c, X.env.cells.lookup x = some c → c ≠ b
  bs : ∀ b o, X.base.get? b = some o → X.s₀.heap.get? b = some o ∧ X.H₀ b = none
  bsz : X.base.objs.size ≤ X.s₀.heap.objs.size
  noex : ∀ b o, X.base.get? b = some o → b ∉ X.ex
  exfs : ∀ b ∈ X.ex, b ∉ X.fs
  funs : X.s₀.heap.FunFrames X.base X.outer
  frf : ∀ b ∈ X.fs, X.H₀ b = none
structure Inv (X : Cx) (pins : List (Addr × Obj)) (σ : List (Option V)) (H : Hp) (s : Shared) : Prop where
  ok : X.Ok
  os : s.os = X.s₀.os
  bare : AllBare s.gens
  base : Un X.fs X.ex X.H₀ H X.s₀.heap s.heap
  loc : ∃ m, s.heap.Ns X.env.locals m ∧ ∀ (i : Nat) (x : Str) (v : V), X.N[i]? = some x → σ[i]? = some (some v) → Vis X.env.scope x → ∃ u, RelV v u ∧ Look X.env s.heap m x u
  cell : ∀ x c, X.env.cells.lookup x = some c → ∃ v, s.heap.IsCell c v
  free : H X.env.locals = none
  freeC : ∀ x c, X.env.cells.lookup x = some c → H c = none
  pin : ∀ p ∈ X.pn ++ pins, s.heap.get? p.1 = some p.2 ∧ H p.1 = none ∧ p.1 ≠ X.env.locals ∧ p.1 ∉ X.fs ∧ ∀ v, p.2.data ≠ .cell v
  hok : HOk X.prog X.w H s.heap
  len : σ.length = X.N.length
section
variable {X : Cx} {pins : List (Addr × Obj)} {σ : List (Option V)} {H H' : Hp} {s : Shared} {h' : Heap}
theorem Cx.Ok.nofr (ok : X.Ok) {b : Addr} {o : Obj} (e : X.base.get? b = some o) : b ∉ X.fs := fun hb => by
  have := (ok.funs.mem hb).1
  rw [e] at this; cases this
theorem Inv.bs (I : Inv X pins σ H s) : ∀ b o, X.base.get? b = some o → s.heap.get? b = some o ∧ H b = none := fun b o e =>
  ⟨I.base.keep b o (I.ok.bs b o e).1 (I.ok.bs b o e).2 (I.ok.nofr e) (I.ok.noex b o e), I.base.free b o (I.ok.bs b o e).1 (I.ok.bs b o e).2 (I.ok.noex b o e)⟩
theorem Inv.bk (I : Inv X pins σ H s) : ∀ b o, X.base.get? b = some o → s.heap.get? b = some o := fun b o e => (I.bs b o e).1
theorem Inv.mod (I : Inv X pins σ H s) : Mod X.K X.mg X.base := I.ok.mod
theorem Inv.kIn (I : Inv X pins σ H s) : X.K.In s.heap := I.ok.mod.kin.keeps I.bk
theorem Inv.lt (I : Inv X pins σ H s) : X.env.locals < s.heap.objs.size := let ⟨_, hn, _⟩ := I.loc; hn.lt
theorem Inv.sz (I : Inv X pins σ H s) : X.s₀.heap.objs.size ≤ s.heap.objs.size := Nat.le_trans I.ok.above (Nat.le_of_lt I.lt)
theorem Inv.nofs (I : Inv X pins σ H s) {a : Addr} (h : s.heap.objs.size ≤ a) : a ∉ X.fs := fun hb => by
  obtain ⟨_, o, ho, _⟩ := I.ok.funs.mem hb
  exact absurd (Nat.lt_of_lt_of_le (Heap.lt_size ho) (Nat.le_trans I.sz h)) (Nat.lt_irrefl _)
theorem Inv.cne (I : Inv X pins σ H s) : ∀ x c, X.env.cells.lookup x = some c → c ≠ X.env.locals := fun x c e z => by
  obtain ⟨v, o, ho, hd⟩ := I.cell x c e
  obtain ⟨m, ⟨o', es, ep, ho', hd', _⟩, _⟩ := I.loc
  rw [z, ho'] at ho; cases ho; rw [hd'] at hd; cases hd
theorem Inv.funs (I : Inv X pins σ H s) : s.heap.FunFrames X.base X.outer := by
  have all : ∀ (l : List Env), (∀ b ∈ frs l, b ∈ X.fs) → X.s₀.heap.FunFrames X.base l → s.heap.FunFrames X.base l := by
    intro l
    induction l with
    | nil => intro _ _; trivial
    | cons env r ih =>
      intro hs hl
      obtain ⟨hk, ⟨L, o, hf, hn, ho, hd⟩, hr⟩ := hl
      have hL : L ∈ X.fs := hs L (by unfold frs; rw [List.filterMap_cons, hf]; exact List.mem_cons_self)
      obtain ⟨sl, e⟩ := I.base.slot L o ho (I.ok.frf L hL) hL fun z => I.ok.exfs L z hL
      exact ⟨hk, ⟨L, _, hf, hn, e, hd⟩, ih (fun b hb => hs b (by unfold frs; rw [List.filterMap_cons, hf]; exact List.mem_cons_of_mem _ hb)) hr⟩
  exact all X.outer (fun _ hb => hb) I.ok.funs
theorem Inv.stack (I : Inv X pins σ H s) : s.heap.FunFrames X.base X.stack := by
  rcases I.ok.stk with e | ⟨e, hf⟩
  · rw [e]; exact I.funs
  · rw [e]
    obtain ⟨m, hn, _⟩ := I.loc
    refine .cons (by rw [I.ok.kind]; decide) hf hn ?_ I.funs
    exact Heap.get?_none_of_le (Nat.le_trans I.ok.bsz I.ok.above)
theorem Inv.stkSub (I : Inv X pins σ H s) : ∀ b ∈ frs X.stack, b ∈ X.env.locals :: X.fs := fun b hb => by
  rcases I.ok.stk with e | ⟨e, hf⟩
  · rw [e] at hb; exact List.mem_cons_of_mem _ hb
  · rw [e] at hb
    unfold frs at hb
    rw [List.filterMap_cons, hf] at hb
    exact hb
theorem Inv.stkFree (I : Inv X pins σ H s) : ∀ b ∈ frs X.stack, H b = none := fun b hb => by
  rcases List.mem_cons.mp (I.stkSub b hb) with e | hb
  · rw [e]; exact I.free
  · obtain ⟨_, o, ho, _⟩ := I.ok.funs.mem hb
    exact I.base.free b o ho (I.ok.frf b hb) fun z => I.ok.exfs b z hb
theorem Inv.step {g' : Array GenState} {t' : Nat} {d' : Drawn} {ch : List Addr} (I : Inv X pins σ H s)
    (hch : ∀ b ∈ ch, (b ∈ X.ex ∨ X.s₀.heap.objs.size ≤ b) ∧ b ≠ X.env.locals ∧ (∀ x c, X.env.cells.lookup x = some c → c ≠ b) ∧ ∀ p ∈ X.pn ++ pins, p.1 ≠ b)
    (keep : ∀ b o, b ≠ X.env.locals → b ∉ X.fs → b ∉ ch → s.heap.get? b = some o → H b = none → h'.get? b = some o)
    (slot : ∀ b o, b ≠ X.env.locals → b ∈ X.fs → b ∉ ch → s.heap.get? b = some o → H b = none → ∃ sl, h'.get? b = some { o with slots := sl }) (free : ∀ b o, b ∉ ch → s.heap.get? b = some o → H b = none → H' b = none)
    (there : ∀ b o, b ∉ ch → s.heap.get? b = some o → ∃ o', h'.get? b = some o')
    (tups : ∀ b xs, H b = some (.tup xs) → H' b = some (.tup xs)) (frzs : ∀ b o u, H b = some (.frz o u) → H' b = some (.frz o u)) (tbls : ∀ b ps, H b = some (.tbl ps) → ∃ more, H' b = some (.tbl (ps ++ more)))
    (ns : ∀ m, s.heap.Ns X.env.locals m → h'.Ns X.env.locals m) (hok : HOk X.prog X.w H' h') (hg : AllBare g') :
    Inv X pins σ H' { s with heap := h', gens := g', drawn := d', toks := t' } := by
  have neL : ∀ b o, X.s₀.heap.get? b = some o → b ≠ X.env.locals := fun b o e => Nat.ne_of_lt (Nat.lt_of_lt_of_le (Heap.lt_size e) I.ok.above)
  have neC : ∀ b o, X.s₀.heap.get? b = some o → b ∉ X.ex → b ∉ ch := fun b o e hx hb => by
    rcases (hch b hb).1 with z | z
    · exact hx z
    · exact absurd (Nat.lt_of_lt_of_le (Heap.lt_size e) z) (Nat.lt_irrefl _)
  have cellK : ∀ x c, X.env.cells.lookup x = some c → ∀ v, s.heap.IsCell c v → h'.IsCell c v := fun x c e v ⟨o, ho, hd⟩ => by
    have nch : c ∉ ch := fun z => (hch c z).2.2.1 x c e rfl
    by_cases hc : c ∈ X.fs
    · obtain ⟨sl, q⟩ := slot c o (I.cne x c e) hc nch ho (I.freeC x c e)
      exact ⟨_, q, hd⟩
    · exact ⟨o, keep c o (I.cne x c e) hc nch ho (I.freeC x c e), hd⟩
  refine ⟨I.ok, I.os, hg, ⟨fun b o e n hb hx => ?_, fun b o e n hb hx => ?_, fun b o e n hx => ?_, fun b o e hx => ?_, fun b xs e => tups b xs (I.base.tups b xs e), fun b o xs e => frzs b o xs (I.base.frzs b o xs e), fun b ps e => ?_⟩, ?_, fun x c e => ?_, ?_, fun x c e => ?_, fun p hp => ?_, hok, I.len⟩
  · exact keep b o (neL b o e) hb (neC b o e hx) (I.base.keep b o e n hb hx) (I.base.free b o e n hx)
  · obtain ⟨sl, e1⟩ := I.base.slot b o e n hb hx
    obtain ⟨sl', e2⟩ := slot b _ (neL b o e) hb (neC b o e hx) e1 (I.base.free b o e n hx)
    exact ⟨sl', e2⟩
  · obtain ⟨o', e1⟩ := I.base.there b o e hx
    exact free b o' (neC b o e hx) e1 (I.base.free b o e n hx)
  · obtain ⟨o', e1⟩ := I.base.there b o e hx
    exact there b o' (neC b o e hx) e1
  · obtain ⟨m1, e1⟩ := I.base.tbls b ps e
    obtain ⟨m2, e2⟩ := tbls b _ e1
    exact ⟨m1 ++ m2, by rw [e2, Array.append_assoc]⟩
  · obtain ⟨m, hn, hl⟩ := I.loc
    refine ⟨m, ns m hn, fun i x v e1 e2 e3 => ?_⟩
    obtain ⟨u, r, l⟩ := hl i x v e1 e2 e3
    refine ⟨u, r, ?_⟩
    rcases l with l | ⟨k, c, e, z⟩
    · exact .inl l
    · exact .inr ⟨k, c, e, cellK x c e _ z⟩
  · obtain ⟨v, z⟩ := I.cell x c e
    exact ⟨v, cellK x c e v z⟩
  · obtain ⟨m, ⟨o, _, _, ho, _⟩, _⟩ := I.loc
    exact free _ o (fun z => (hch _ z).2.1 rfl) ho I.free
  · obtain ⟨v, o, ho, hd⟩ := I.cell x c e
    exact free c o (fun z => (hch c z).2.2.1 x c e rfl) ho (I.freeC x c e)
  · obtain ⟨e, n, ne, nf, d⟩ := I.pin p hp
    have nch : p.1 ∉ ch := fun z => (hch p.1 z).2.2.2 p hp rfl
    exact ⟨keep p.1 p.2 ne nf nch e n, free p.1 p.2 nch e n, ne, nf, d⟩
theorem Inv.un {t' : Nat} (I : Inv X pins σ H s) (u : Un X.fs [] H H' s.heap h') (hok : HOk X.prog X.w H' h') : Inv X pins σ H' { s with heap := h', toks := t' } := by
  obtain ⟨m, ⟨o, es, ep, ho, r⟩, _⟩ := id I.loc
  obtain ⟨sl, hL⟩ := u.any ho I.free (by simp)
  exact I.step (g' := s.gens) (d' := s.drawn) (ch := []) (fun _ z => nomatch z) (fun b o _ hb _ e n => u.keep b o e n hb (by simp)) (fun b o _ hb _ e n => u.slot b o e n hb (by simp)) (fun b o _ e n => u.free b o e n (by simp)) (fun b o _ e => u.there b o e (by simp)) u.tups u.frzs u.tbls (fun m' hm => by
    obtain ⟨o', es', ep', ho', r'⟩ := hm
    rw [ho] at ho'; cases ho'
    exact ⟨_, es', ep', hL, r'⟩) hok I.bare
theorem Inv.call {g' : Array GenState} {t' : Nat} {d' : Drawn} {ch : List Addr} (I : Inv X pins σ H s) (u : Un (frs X.stack) ch H H' s.heap h') (hok : HOk X.prog X.w H' h') (hg : AllBare g')
    (hch : ∀ b ∈ ch, (b ∈ X.ex ∨ X.s₀.heap.objs.size ≤ b) ∧ b ≠ X.env.locals ∧ (∀ x c, X.env.cells.lookup x = some c → c ≠ b) ∧ ∀ p ∈ X.pn ++ pins, p.1 ≠ b) :
    Inv X pins σ H' { s with heap := h', gens := g', drawn := d', toks := t' } := by
  obtain ⟨m, ⟨o, es, ep, ho, r⟩, _⟩ := id I.loc
  obtain ⟨sl, hL⟩ := u.any ho I.free fun z => (hch _ z).2.1 rfl
  exact I.step (ch := ch) hch (fun b o hL hb hc e n => u.keep b o e n (fun z => (List.mem_cons.mp (I.stkSub b z)).elim hL hb) hc) (fun b o _ _ hc e n => u.any e n hc) (fun b o hc e n => u.free b o e n hc) (fun b o hc e => u.there b o e hc) u.tups u.frzs u.tbls (fun m' hm => by
    obtain ⟨o', es', ep', ho', r'⟩ := hm
    rw [ho] at ho'; cases ho'
    exact ⟨_, es', ep', hL, r'⟩) hok hg
theorem Inv.turned {t' : Nat} {it : Addr} (I : Inv X pins σ H s) (k : ∀ b o, b ≠ it → s.heap.get? b = some o → h'.get? b = some o) (hn : H it = none) (hL : it ≠ X.env.locals)
    (h1 : it ∈ X.ex ∨ X.s₀.heap.objs.size ≤ it) (h2 : ∀ x c, X.env.cells.lookup x = some c → c ≠ it) (h3 : ∀ p ∈ X.pn ++ pins, p.1 ≠ it) : Inv X pins σ H { s with heap := h', toks := t' } := by
  have nit : ∀ b u, H b = some u → b ≠ it := fun b u e z => by rw [z, hn] at e; cases e
  refine I.step (g' := s.gens) (d' := s.drawn) (ch := [it]) (fun b hb => ?_) (fun b o _ _ hc e _ => k b o (fun z => hc (by simp [z])) e) (fun b o _ _ hc e _ => ⟨o.slots, k b o (fun z => hc (by simp [z])) e⟩) (fun _ _ _ _ n => n)
    (fun b o hc e => ⟨o, k b o (fun z => hc (by simp [z])) e⟩) (fun _ _ e => e) (fun _ _ _ e => e) (fun b ps e => ⟨#[], by rw [e]; simp⟩) (fun m hm => ?_) (fun b u e => ?_) I.bare
  · have e : b = it := by simpa using hb
    subst e
    exact ⟨h1, hL, h2, h3⟩
  · obtain ⟨o, es, ep, ho, r⟩ := hm
    exact ⟨o, es, ep, k _ o (Ne.symm hL) ho, r⟩
  · refine (I.hok b u e).stay (fun c v hc q => k c v ?_ q) (fun _ q => q) fun _ _ q => q
    rcases hc with z | z
    · rw [z]; exact nit b u e
    · exact nit c _ z
theorem Inv.tok (I : Inv X pins σ H s) (t : Nat) : Inv X pins σ H { s with toks := t } := I.un (h' := s.heap) (t' := t) Un.refl I.hok
theorem Inv.kept {t' : Nat} (I : Inv X pins σ H s) (k : ∀ b u, s.heap.get? b = some u → h'.get? b = some u) : Inv X pins σ H { s with heap := h', toks := t' } := I.un (Un.kept k) (I.hok.kept k)
theorem Inv.laid {a : Addr} {o : HO} {t' : Nat} (I : Inv X pins σ H s) (k : ∀ b u, s.heap.get? b = some u → h'.get? b = some u) (hp : s.heap.objs.size ≤ a) (new : ObjOk X.prog X.w (upd H a o) h' a o) :
    Inv X pins σ (upd H a o) { s with heap := h', toks := t' } := I.un (Un.laid k hp (I.hok.fresh hp)) (I.hok.laid k hp new)
theorem Inv.write {x e : Addr} {o : HO} {t' : Nat} (I : Inv X pins σ H s) (mu : Mut (H x)) (he : e = x ∨ H e = some (.own x)) (k : ∀ b u, b ≠ e → s.heap.get? b = some u → h'.get? b = some u) (heo : ∃ u, h'.get? e = some u)
    (new : ObjOk X.prog X.w (upd H x o) h' x o) : Inv X pins σ (upd H x o) { s with heap := h', toks := t' } := I.un (Un.write mu he k heo) (I.hok.write mu he k heo new)
theorem Inv.pins_of {pins' : List (Addr × Obj)} (I : Inv X pins σ H s) (h : ∀ p ∈ pins', s.heap.get? p.1 = some p.2 ∧ H p.1 = none ∧ p.1 ≠ X.env.locals ∧ p.1 ∉ X.fs ∧ ∀ v, p.2.data ≠ .cell v) : Inv X pins' σ H s :=
  ⟨I.ok, I.os, I.bare, I.base, I.loc, I.cell, I.free, I.freeC, fun p hp => (List.mem_append.mp hp).elim (fun z => I.pin p (List.mem_append_left _ z)) (h p), I.hok, I.len⟩
theorem nodup_ix {N : List Str} (hN : N.Nodup) {i j : Nat} {x : Str} (a : N[i]? = some x) (b : N[j]? = some x) : i = j := by
  obtain ⟨h1, e1⟩ := List.getElem?_eq_some_iff.mp a
  obtain ⟨h2, e2⟩ := List.getElem?_eq_some_iff.mp b
  exact (List.getElem_inj hN).mp (e1.trans e2.symm)
theorem store_ok2 {M : Model} {A : Around} {E : Value → Shared → Prop} {i : Nat} {x : Str} {v : V} {u : Value} {Q : Unit → Shared → Prop} (I : Inv X pins σ H s) (hN : X.N.Nodup) (hi : X.N[i]? = some x) (hx : Loc X.env.scope x) (r : RelV v u)
    (h : ∀ s', Inv X pins (σ.set i (some v)) H s' → (∃ a, Heap.SameBut a s.heap s'.heap ∧ (a = X.env.locals ∨ X.env.cells.lookup x = some a)) → Q () s') (hf : X.fn x = true ∨ X.env.scope.names.lookup x = some .local := by first | exact .inl rfl | exact .inr rfl | assumption) : wpAny M A (storeName X.env x u) Q E s := by
  obtain ⟨m, hn, hl⟩ := id I.loc
  have hcls : (X.env.scope.kind == .class || (X.env.scope.kind == .module && X.env.locals != X.env.globals)) = false := by rw [I.ok.kind]; rfl
  have hiσ : i < σ.length := by rw [I.len]; exact (List.getElem?_eq_some_iff.mp hi).1
  have cne := I.cne
  have tracked : ∀ {a : Addr} {h' : Heap}, (∃ o, s.heap.get? a = some o ∧ H a = none) → Heap.SameBut a s.heap h' → HOk X.prog X.w H h' := fun {a h'} ha hs b ob e => by
    obtain ⟨_, _, hfree⟩ := ha
    refine (I.hok b ob e).stay (fun c w' hc q => (hs.2 c ?_).trans q) (fun _ q => q) fun _ _ q => q
    rintro rfl
    rcases hc with rfl | hc
    · rw [hfree] at e; cases e
    · rw [hfree] at hc; cases hc
  rcases hx with hk | hk
  · refine wpAny_storeName_local hk hn (fun h' hn' hs => ?_) hcls
    obtain ⟨oL, _, _, hoL, _⟩ := id hn
    refine h _ ⟨I.ok, I.os, I.bare, ⟨fun b o e n hb hx => ?_, fun b o e n hb hx => ?_, I.base.free, fun b o e hx => ?_, I.base.tups, I.base.frzs, I.base.tbls⟩, ⟨_, hn', fun j y v' e1 e2 e3 => ?_⟩, fun y c e => ?_, I.free, I.freeC, fun p hp => ?_, tracked ⟨oL, hoL, I.free⟩ hs, by simpa using I.len⟩ ⟨_, hs, .inl rfl⟩
    · exact (hs.2 b (Nat.ne_of_lt (Nat.lt_of_lt_of_le (Heap.lt_size e) I.ok.above))).trans (I.base.keep b o e n hb hx)
    · obtain ⟨sl, e1⟩ := I.base.slot b o e n hb hx
      exact ⟨sl, (hs.2 b (Nat.ne_of_lt (Nat.lt_of_lt_of_le (Heap.lt_size e) I.ok.above))).trans e1⟩
    · obtain ⟨o', e1⟩ := I.base.there b o e hx
      exact ⟨o', (hs.2 b (Nat.ne_of_lt (Nat.lt_of_lt_of_le (Heap.lt_size e) I.ok.above))).trans e1⟩
    · by_cases hj : j = i
      · subst hj
        rw [hi] at e1; cases e1
        rw [List.getElem?_set_self hiσ] at e2
        cases e2
        exact ⟨u, r, .inl ⟨hk, by simp⟩⟩
      · rw [List.getElem?_set_ne (Ne.symm hj)] at e2
        obtain ⟨u', r', q⟩ := hl j y v' e1 e2 e3
        refine ⟨u', r', ?_⟩
        rcases q with ⟨k, e⟩ | ⟨k, c, e, z⟩
        · refine .inl ⟨k, ?_⟩
          have : y ≠ x := fun e => hj (nodup_ix hN e1 (e ▸ hi))
          simp [this, e]
        · exact .inr ⟨k, c, e, z.sameBut hs (cne y c e)⟩
    · obtain ⟨w', z⟩ := I.cell y c e
      exact ⟨w', z.sameBut hs (cne y c e)⟩
    · obtain ⟨e, n, ne, nf, d⟩ := I.pin p hp
      exact ⟨(hs.2 p.1 ne).trans e, n, ne, nf, d⟩
  · have hfn : X.fn x = true := by
      rcases hf with z | z
      · exact z
      · rw [z] at hk; cases hk
    obtain ⟨c, hc⟩ := I.ok.has x (.inl hk)
    obtain ⟨w', z⟩ := I.cell x c hc
    refine wpAny_storeName_cell I.ok.kind hk hc z (fun h' hc' hs => ?_)
    obtain ⟨oc, hoc, hocd⟩ := id z
    refine h { s with heap := h' } ⟨I.ok, I.os, I.bare, ⟨fun b o e n hb hx => ?_, fun b o e n hb hx => ?_, I.base.free, fun b o e hx => ?_, I.base.tups, I.base.frzs, I.base.tbls⟩, ⟨m, hn.sameBut hs (Ne.symm (cne x c hc)), fun j y v' e1 e2 e3 => ?_⟩, fun y c' e => ?_, I.free, I.freeC, fun p hp => ?_, tracked ⟨oc, hoc, I.freeC x c hc⟩ hs, by simpa using I.len⟩ ⟨c, hs, .inr hc⟩
    · exact (hs.2 b (Nat.ne_of_lt (Nat.lt_of_lt_of_le (Heap.lt_size e) (I.ok.cab x c hfn hc)))).trans (I.base.keep b o e n hb hx)
    · obtain ⟨sl, e1⟩ := I.base.slot b o e n hb hx
      exact ⟨sl, (hs.2 b (Nat.ne_of_lt (Nat.lt_of_lt_of_le (Heap.lt_size e) (I.ok.cab x c hfn hc)))).trans e1⟩
    · obtain ⟨o', e1⟩ := I.base.there b o e hx
      exact ⟨o', (hs.2 b (Nat.ne_of_lt (Nat.lt_of_lt_of_le (Heap.lt_size e) (I.ok.cab x c hfn hc)))).trans e1⟩
    · by_cases hj : j = i
      · subst hj
        rw [hi] at e1; cases e1
        rw [List.getElem?_set_self hiσ] at e2
        cases e2
        exact ⟨u, r, .inr ⟨.inl hk, c, hc, hc'⟩⟩
      · rw [List.getElem?_set_ne (Ne.symm hj)] at e2
        obtain ⟨u', r', q⟩ := hl j y v' e1 e2 e3
        refine ⟨u', r', ?_⟩
        rcases q with q | ⟨k, c', e, z'⟩
        · exact .inl q
        · refine .inr ⟨k, c', e, z'.sameBut hs ?_⟩
          rintro rfl
          exact hj (nodup_ix hN e1 (I.ok.inj _ _ _ e hc ▸ hi))
    · by_cases hcc : c' = c
      · subst hcc; exact ⟨_, hc'⟩
      · obtain ⟨w2, z2⟩ := I.cell y c' e
        exact ⟨w2, z2.sameBut hs hcc⟩
    · obtain ⟨e, n, ne, nf, d⟩ := I.pin p hp
      refine ⟨(hs.2 p.1 ?_).trans e, n, ne, nf, d⟩
      intro q
      rw [q, hoc] at e
      have q' : oc = p.2 := Option.some.inj e
      exact d w' (by rw [← q']; exact hocd)
theorem store_ok {M : Model} {A : Around} {E : Value → Shared → Prop} {i : Nat} {x : Str} {v : V} {u : Value} {Q : Unit → Shared → Prop} (I : Inv X pins σ H s) (hN : X.N.Nodup) (hi : X.N[i]? = some x) (hx : Loc X.env.scope x) (r : RelV v u)
    (h : ∀ s', Inv X pins (σ.set i (some v)) H s' → Q () s') (hf : X.fn x = true ∨ X.env.scope.names.lookup x = some .local := by first | exact .inl rfl | exact .inr rfl | assumption) : wpAny M A (storeName X.env x u) Q E s :=
  store_ok2 I hN hi hx r (fun s' I' _ => h s' I') hf
theorem Inv.call' {s' : Shared} {ch : List Addr} (I : Inv X pins σ H s) (ho : s'.os = s.os) (u : Un (frs X.stack) ch H H' s.heap s'.heap) (hok : HOk X.prog X.w H' s'.heap) (hg : AllBare s'.gens)
    (hch : ∀ b ∈ ch, (b ∈ X.ex ∨ X.s₀.heap.objs.size ≤ b) ∧ b ≠ X.env.locals ∧ (∀ x c, X.env.cells.lookup x = some c → c ≠ b) ∧ ∀ p ∈ X.pn ++ pins, p.1 ≠ b) : Inv X pins σ H' s' := by
  obtain ⟨h', g', d', t', o'⟩ := s'
  have e : o' = s.os := ho
  subst e
  exact I.call (g' := g') (t' := t') (d' := d') u hok hg hch
end
abbrev XK := Value → Option Addr → Hp → Prop
abbrev St := List (Option V)
abbrev VK := V → Hp → Prop
abbrev TE := St → Hp → VK → Prop
abbrev TT := St → Hp → (Bool → Hp → Prop) → Prop
abbrev TA := St → Hp → (List V → Hp → Prop) → Prop
structure Ends where
  nx : St → Hp → Prop
  rt : VK
  bk : St → Hp → Prop := fun _ _ => False
  ct : St → Hp → Prop := fun _ _ => False
abbrev TS := Ends → St → Hp → Prop
def EP (X : Cx) (pins : List (Addr × Obj)) (σ : St) (Q : VK) (u : Value) (s' : Shared) : Prop := ∃ v H', Inv X pins σ H' s' ∧ RelV v u ∧ Q v H'
def TP (X : Cx) (pins : List (Addr × Obj)) (σ : St) (Q : Bool → Hp → Prop) (b : Bool) (s' : Shared) : Prop := ∃ H', Inv X pins σ H' s' ∧ Q b H'
def AP (X : Cx) (pins : List (Addr × Obj)) (σ : St) (Q : List V → Hp → Prop) (us : List Value) (s' : Shared) : Prop := ∃ vs H', Inv X pins σ H' s' ∧ Vals vs us ∧ Q vs H'
def SP (X : Cx) (pins : List (Addr × Obj)) (D : Ends) (f : Flow) (s' : Shared) : Prop :=
  match f with
  | .next => ∃ σ' H', Inv X pins σ' H' s' ∧ D.nx σ' H'
  | .brk => ∃ σ' H', Inv X pins σ' H' s' ∧ D.bk σ' H'
  | .cont => ∃ σ' H', Inv X pins σ' H' s' ∧ D.ct σ' H'
  | .ret u => ∃ v σ' H', Inv X pins σ' H' s' ∧ RelV v u ∧ D.rt v H'
def PE (X : Cx) (e : Expr) (t : TE) : Prop :=
  ∀ (pins : List (Addr × Obj)) (s : Shared) (σ : St) (H : Hp) (Q : VK), Inv X pins σ H s → t σ H Q → wpAny (model X.prog X.w) X.A (eval e X.env) (EP X pins σ Q) X.xe s
def PT (X : Cx) (e : Expr) (t : TT) : Prop :=
  ∀ (pins : List (Addr × Obj)) (s : Shared) (σ : St) (H : Hp) (Q : Bool → Hp → Prop), Inv X pins σ H s → t σ H Q → wpAny (model X.prog X.w) X.A (isTrue e X.env (eval e X.env)) (TP X pins σ Q) X.xe s
def PW (X : Cx) (e : Expr) (t : TT) : Prop :=
  ∀ (whole : Sem Value) (pins : List (Addr × Obj)) (s : Shared) (σ : St) (H : Hp) (Q : Bool → Hp → Prop), Inv X pins σ H s → t σ H Q → wpAny (model X.prog X.w) X.A (isTrue e X.env whole) (TP X pins σ Q) X.xe s
theorem PW.pt {X : Cx} {e : Expr} {t : TT} (h : PW X e t) : PT X e t := h _
def PA (X : Cx) (es : List Expr) (t : TA) : Prop :=
  ∀ (pos : Pos) (pins : List (Addr × Obj)) (s : Shared) (σ : St) (H : Hp) (Q : List V → Hp → Prop), Inv X pins σ H s → t σ H Q → wpAny (model X.prog X.w) X.A (spliced (backTo pos (starEach es X.env))) (AP X pins σ Q) X.xe s
def PS (X : Cx) (st : Stmt) (t : TS) : Prop :=
  ∀ (pins : List (Addr × Obj)) (s : Shared) (σ : St) (H : Hp) (D : Ends), Inv X pins σ H s → t D σ H → wpAny (model X.prog X.w) X.A (exec st X.env) (SP X pins D) X.xe s
def PSs (X : Cx) (st : List Stmt) (t : TS) : Prop :=
  ∀ (pins : List (Addr × Obj)) (s : Shared) (σ : St) (H : Hp) (D : Ends), Inv X pins σ H s → t D σ H → wpAny (model X.prog X.w) X.A (execs st X.env) (SP X pins D) X.xe s
theorem thn {α : Type} {t : Sem α} {Q Q' : α → Shared → Prop} {M : Model} {A : Around} {E : Value → Shared → Prop} {s : Shared} (h : wpAny M A t Q E s) (hQ : ∀ a s, Q a s → Q' a s) : wpAny M A t Q' E s := wpAny_mono h hQ fun _ _ x => x
end L2
namespace L2
open PySem PySem.Spec PyProof.Rows
section
variable {X : Cx}
def tVar (i : Nat) : TE := fun σ H Q => ∃ v, σ[i]? = some (some v) ∧ Q v H
def tC (v : V) : TE := fun _ H Q => Q v H
theorem pe_var {i : Nat} {x : Str} {pos : Pos} (hN : X.N[i]? = some x) (hv : Vis X.env.scope x) (hd : (x == ("__debug__" : Str)) = false := by decide) (hcd : (x == ("__classdict__" : Str)) = false := by decide) : PE X (.Name x pos) (tVar i) := by
  intro pins s σ H Q I h
  obtain ⟨v, e, h⟩ := h
  obtain ⟨m, hn, hl⟩ := I.loc
  obtain ⟨u, r, l⟩ := hl i x v hN e hv
  have fin : EP X pins σ Q u s := ⟨v, H, I, r, h⟩
  rcases l with ⟨hk, hm⟩ | ⟨hk, c, hc, hcell⟩
  · exact wpAny_Name (wpAny_loadName_local I.ok.kind hk hn hm fin) hd
  · rcases hk with hk | hk
    · exact wpAny_Name (wpAny_loadName_cell I.ok.kind hk hc hcell fin) hd
    · exact wpAny_Name (wpAny_loadName_free I.ok.kind hk hc hcell fin hcd) hd
theorem pe_int {i j pos} : PE X (.Constant (.int i) j pos) (tC (.int i)) := fun _ _ _ H _ I h => wpAny_Constant_int ⟨.int i, H, I.tok _, ⟨_, rfl⟩, h⟩
theorem pe_bl {b j pos} : PE X (.Constant (.bool b) j pos) (tC (.bl b)) := fun _ _ _ H _ I h => Constant_bool ⟨.bl b, H, I, rfl, h⟩
theorem pe_non {j pos} : PE X (.Constant .none j pos) (tC .non) := fun _ _ _ H _ I h => Constant_none ⟨.non, H, I, rfl, h⟩
theorem pe_str {x j pos} : PE X (.Constant (.str x) j pos) (tC (.str x)) := fun _ _ _ H _ I h => Calls.Constant_str ⟨.str x, H, I.tok _, ⟨_, rfl⟩, h⟩
def Gl (X : Cx) (x : Str) : Prop := X.env.kindOf x = some .globalImplicit
theorem ld_glob {E : Value → Shared → Prop} {pins : List (Addr × Obj)} {s : Shared} {σ : St} {H : Hp} {x : Str} {u : Value} {pos : Pos} {Q : Value → Shared → Prop} (I : Inv X pins σ H s) (hg : Gl X x) (hm : X.mg x = some u) (h : Q u s)
    (hd : (x == ("__debug__" : Str)) = false := by decide) : wpAny (model X.prog X.w) X.A (eval (.Name x pos) X.env) Q E s :=
  Calls.Name_function_global I.ok.kind hg (Calls.loadGlobal_global (by rw [I.ok.glob]; exact I.mod.glob.keeps I.bk) hm h) hd
theorem ld_blt {E : Value → Shared → Prop} {pins : List (Addr × Obj)} {s : Shared} {σ : St} {H : Hp} {x : Str} {u : Value} {pos : Pos} {Q : Value → Shared → Prop} (I : Inv X pins σ H s) (hg : Gl X x) (hm : X.mg x = none) (hv : bootBuiltins x = some u) (h : Q u s)
    (hn : x ≠ "__name__" := by decide) (hd : (x == ("__debug__" : Str)) = false := by decide) : wpAny (model X.prog X.w) X.A (eval (.Name x pos) X.env) Q E s := by
  obtain ⟨mb, h1, h2⟩ := I.mod.blt
  exact Calls.Name_function_global I.ok.kind hg (Calls.loadGlobal_builtin (by rw [I.ok.glob]; exact I.mod.glob.keeps I.bk) hm (by rw [I.ok.blt]; exact h1.keeps I.bk) ((h2 x hn).trans hv) h) hd
theorem pe_glob {x : Str} {v : V} {u : Value} {pos : Pos} (hg : Gl X x) (hm : X.mg x = some u) (r : RelV v u) (hd : (x == ("__debug__" : Str)) = false := by decide) : PE X (.Name x pos) (tC v) :=
  fun _ _ _ H _ I h => ld_glob I hg hm ⟨v, H, I, r, h⟩ hd
theorem pe_bltn {x : Str} {v : V} {u : Value} {pos : Pos} (hg : Gl X x) (hm : X.mg x = none) (hv : bootBuiltins x = some u) (r : RelV v u) (hn : x ≠ "__name__" := by decide) (hd : (x == ("__debug__" : Str)) = false := by decide) : PE X (.Name x pos) (tC v) :=
  fun _ _ _ H _ I h => ld_blt I hg hm hv ⟨v, H, I, r, h⟩ hn hd
variable {a b : Expr} {ta tb : TE} {pos : Pos}
variable {tA tB' : TT} {rest : List Expr}
def tAnd (t u : TT) : TT := fun σ H Q => t σ H fun c H1 => if c = true then u σ H1 Q else Q false H1
def tOr (t u : TT) : TT := fun σ H Q => t σ H fun c H1 => if c = true then Q true H1 else u σ H1 Q
def tNot (t : TT) : TT := fun σ H Q => t σ H fun c H1 => Q (!c) H1
theorem pw_and1 (ha : PT X a tA) : PW X (.BoolOp .And [a] pos) tA := by
  intro wh pins s σ H Q I h
  refine isTrue_and (thn (ha pins s σ H Q I h) fun c s1 e => ?_)
  cases c with
  | true => exact isTrue_and_nil e
  | false => exact e
theorem pw_or1 (ha : PT X a tA) : PW X (.BoolOp .Or [a] pos) tA := by
  intro wh pins s σ H Q I h
  refine isTrue_or (thn (ha pins s σ H Q I h) fun c s1 e => ?_)
  cases c with
  | false => exact isTrue_or_nil e
  | true => exact e
theorem pw_and (ha : PT X a tA) (hb : PW X (.BoolOp .And (b :: rest) pos) tB') : PW X (.BoolOp .And (a :: b :: rest) pos) (tAnd tA tB') := by
  intro wh pins s σ H Q I h
  refine isTrue_and (thn (ha pins s σ H _ I h) fun c s1 ⟨H1, I1, q1⟩ => ?_)
  cases c with
  | true => exact hb wh pins s1 σ H1 Q I1 q1
  | false => exact ⟨H1, I1, q1⟩
theorem pw_or (ha : PT X a tA) (hb : PW X (.BoolOp .Or (b :: rest) pos) tB') : PW X (.BoolOp .Or (a :: b :: rest) pos) (tOr tA tB') := by
  intro wh pins s σ H Q I h
  refine isTrue_or (thn (ha pins s σ H _ I h) fun c s1 ⟨H1, I1, q1⟩ => ?_)
  cases c with
  | true => exact ⟨H1, I1, q1⟩
  | false => exact hb wh pins s1 σ H1 Q I1 q1
theorem pt_not (ha : PT X a tA) : PT X (.UnaryOp .Not a pos) (tNot tA) := by
  intro pins s σ H Q I h
  exact isTrue_not (ha pins s σ H (fun c H1 => Q (!c) H1) I h)
def tAndV (ta tb : TE) : TE := fun σ H Q => ta σ H fun x H1 => ∃ c, x = .bl c ∧ if c = true then tb σ H1 Q else Q (.bl false) H1
theorem pe_one {op} {t : TE} (h : PE X a t) : PE X (.BoolOp op [a] pos) t := fun pins s σ H Q I hw => BoolOp_one (h pins s σ H Q I hw)
theorem pe_and (ha : PE X a ta) (hb : PE X (.BoolOp .And (b :: rest) pos) tb) : PE X (.BoolOp .And (a :: b :: rest) pos) (tAndV ta tb) := by
  intro pins s σ H Q I h
  refine BoolOp_and (thn (ha pins s σ H _ I h) fun v s1 ⟨x, H1, I1, r1, q1⟩ => ?_)
  obtain ⟨c, rfl, q1⟩ := q1
  cases r1
  refine wpAny_truthy_bool ?_
  cases c with
  | true => exact hb pins s1 σ H1 Q I1 q1
  | false => exact ⟨.bl false, H1, I1, rfl, q1⟩
end
end L2
namespace L2
open PySem PySem.Spec PyProof.Rows
def SqL (K : Frag) (H : Hp) (a : Addr) (xs : List V) : Prop :=
  Rd H a (.lst xs) ∨
    ∃ (o : Obj) (its : Array Value) (n : Nat), K.lookup a = some o ∧ o.cls = .type "list" ∧ o.dict = none ∧ o.data = .seq its n ∧ its.size ≤ sizeLine ∧ Vals xs its.toList
def SqT (K : Frag) (H : Hp) (a : Addr) (xs : List V) : Prop :=
  Rd H a (.tup xs) ∨
    ∃ (o : Obj) (its : Array Value) (n : Nat), K.lookup a = some o ∧ o.cls = .type "tuple" ∧ o.data = .seq its n ∧ its.size ≤ sizeLine ∧ Vals xs its.toList
def absV : Value → Option V
  | .none => some .non
  | .bool b => some (.bl b)
  | .int i _ => some (.int i)
  | .str x _ => some (.str x)
  | .bytes b _ => some (.byt b)
  | .float b _ => some (.flt b)
  | .ref a => some (.ref a)
  | .type n => some (.ty n)
  | _ => none
theorem RelV.abs {x : V} {u : Value} (r : RelV x u) : absV u = some x := by
  cases x with
  | non => cases r; rfl
  | bl _ => cases r; rfl
  | int _ => obtain ⟨t, rfl⟩ := r; rfl
  | str _ => obtain ⟨t, rfl⟩ := r; rfl
  | byt _ => obtain ⟨t, rfl⟩ := r; rfl
  | flt _ => obtain ⟨t, rfl⟩ := r; rfl
  | ref _ => cases r; rfl
  | ty _ => cases r; rfl
theorem RelV.inj {x y : V} {u : Value} (r : RelV x u) (q : RelV y u) : x = y := Option.some.inj (r.abs.symm.trans q.abs)
theorem Vals.inj : ∀ {xs ys : List V} {us : List Value}, Vals xs us → Vals ys us → xs = ys
  | _, _, _, .nil, .nil => rfl
  | _, _, _, .cons r t, .cons r' t' => by rw [r.inj r', Vals.inj t t']
section
variable {X : Cx} {pins : List (Addr × Obj)} {σ : St} {H : Hp} {s : Shared} {a : Addr} {xs ys : List V}
theorem SqL.of {K : Frag} (h : H a = some (.lst xs)) : SqL K H a xs := .inl (.inl h)
theorem SqT.of {K : Frag} (h : H a = some (.tup xs)) : SqT K H a xs := .inl (.inl h)
theorem Inv.list (I : Inv X pins σ H s) (h : SqL X.K H a xs) : ∃ its : List Value, Vals xs its ∧ PlainL s.heap a its.toArray ∧ xs.length ≤ sizeLine := by
  rcases h with h | ⟨o, its, n, hk, hc, hd, hs, hz, r⟩
  · obtain ⟨z, its, n, r, e⟩ := h.ok I.hok
    exact ⟨its, r, ⟨_, n, e, rfl, rfl, rfl⟩, z⟩
  · refine ⟨its.toList, r, ⟨o, n, I.kIn a o hk, hc, hd, by simpa using hs⟩, ?_⟩
    have e := r.length
    simp only [Array.length_toList] at e
    omega
theorem Inv.tuple (I : Inv X pins σ H s) (h : SqT X.K H a xs) : ∃ its : List Value, Vals xs its ∧ IsTup s.heap a its.toArray ∧ xs.length ≤ sizeLine := by
  rcases h with h | ⟨o, its, n, hk, hc, hs, hz, r⟩
  · obtain ⟨z, its, r, p⟩ := h.ok I.hok
    exact ⟨its, r, p, z⟩
  · refine ⟨its.toList, r, ⟨o, I.kIn a o hk, hc, n, by simpa using hs⟩, ?_⟩
    have e := r.length
    simp only [Array.length_toList] at e
    omega
theorem Inv.list_inj (I : Inv X pins σ H s) (h : SqL X.K H a xs) (h' : SqL X.K H a ys) : xs = ys := by
  obtain ⟨its, r, ⟨o, n, e, _, _, d⟩, _⟩ := I.list h
  obtain ⟨its', r', ⟨o', n', e', _, _, d'⟩, _⟩ := I.list h'
  rw [e] at e'; cases e'
  rw [d] at d'
  injection d' with d1 _
  have : its = its' := by simpa using congrArg Array.toList d1
  subst this
  exact r.inj r'
end
abbrev Cx.wish (X : Cx) (E : Value → Shared → Prop) : Cx := { X with xe := E }
abbrev Cx.nox (X : Cx) : Cx := X.wish fun _ _ => False
theorem Cx.Ok.wish {X : Cx} (ok : X.Ok) (E : Value → Shared → Prop) : (X.wish E).Ok :=
  ⟨ok.mod, ok.kind, ok.glob, ok.blt, ok.above, ok.inj, ok.has, ok.cab, ok.hd, ok.frames, ok.stk, ok.exf, ok.bs, ok.bsz, ok.noex, ok.exfs, ok.funs, ok.frf⟩
theorem Cx.Ok.unwish {X : Cx} {E : Value → Shared → Prop} (ok : (X.wish E).Ok) : X.Ok :=
  ⟨ok.mod, ok.kind, ok.glob, ok.blt, ok.above, ok.inj, ok.has, ok.cab, ok.hd, ok.frames, ok.stk, ok.exf, ok.bs, ok.bsz, ok.noex, ok.exfs, ok.funs, ok.frf⟩
section
variable {X : Cx} {pins : List (Addr × Obj)} {σ : St} {H : Hp} {s : Shared} {E : Value → Shared → Prop}
theorem Inv.wish (I : Inv X pins σ H s) (E : Value → Shared → Prop) : Inv (X.wish E) pins σ H s := ⟨I.ok.wish E, I.os, I.bare, I.base, I.loc, I.cell, I.free, I.freeC, I.pin, I.hok, I.len⟩
theorem Inv.unwish (I : Inv (X.wish E) pins σ H s) : Inv X pins σ H s := ⟨I.ok.unwish, I.os, I.bare, I.base, I.loc, I.cell, I.free, I.freeC, I.pin, I.hok, I.len⟩
theorem SP.unwish {D : Ends} {f : Flow} {s' : Shared} (h : SP (X.wish E) pins D f s') : SP X pins D f s' := by
  cases f with
  | next => obtain ⟨σ', H', I, q⟩ := h; exact ⟨σ', H', I.unwish, q⟩
  | brk => obtain ⟨σ', H', I, q⟩ := h; exact ⟨σ', H', I.unwish, q⟩
  | cont => obtain ⟨σ', H', I, q⟩ := h; exact ⟨σ', H', I.unwish, q⟩
  | ret u => obtain ⟨v, σ', H', I, r, q⟩ := h; exact ⟨v, σ', H', I.unwish, r, q⟩
theorem PSs.nox {st : List Stmt} {t : TS} (h : PSs X.nox st t) : PSs X st t := fun pins s σ H D I hw =>
  wpAny_mono (h pins s σ H D (I.wish _) hw) (fun _ _ q => q.unwish) fun _ _ z => False.elim z
end
section
variable {X : Cx} {st : Stmt} {rest : List Stmt} {t u : TS} {e : Expr} {te : TE} {pos : Pos}
def tNext : TS := fun D σ H => D.nx σ H
def tSeq (t u : TS) : TS := fun D σ H => t { D with nx := u D } σ H
theorem pss_nil : PSs X [] tNext := fun _ _ σ H _ I h => wpAny_execs_nil ⟨σ, H, I, h⟩
theorem pss_cons (h1 : PS X st t) (h2 : PSs X rest u) : PSs X (st :: rest) (tSeq t u) := by
  intro pins s σ H D I h
  refine wpAny_execs_cons (thn (h1 pins s σ H { D with nx := u D } I h) fun f s1 q => ?_)
  cases f with
  | next =>
    obtain ⟨σ', H', I', q⟩ := q
    exact h2 pins s1 σ' H' D I' q
  | ret v => exact q
  | brk => exact q
  | cont => exact q
theorem pss_one (h1 : PS X st t) : PSs X [st] t := by
  intro pins s σ H D I h
  refine wpAny_execs_cons (thn (h1 pins s σ H D I h) fun f s1 q => ?_)
  cases f with
  | next => exact wpAny_execs_nil q
  | ret v => exact q
  | brk => exact q
  | cont => exact q
theorem Inv.quiet {pins : List (Addr × Obj)} {σ : St} {H : Hp} {s : Shared} (I : Inv X pins σ H s) : interactive X.env = false := by simp [interactive, I.ok.kind]
def tDrop (te : TE) : TS := fun D σ H => te σ H fun _ H1 => D.nx σ H1
theorem ps_expr (he : PE X e te) (hs : swapsWith e none pos.line X.env = pure false := by rfl) : PS X (.Expr e pos) (tDrop te) := by
  intro pins s σ H D I h
  exact wpAny_Expr_any (thn (he pins s σ H _ I h) fun v s1 ⟨x, H1, I1, r1, q1⟩ => ⟨σ, H1, I1, q1⟩) I.quiet hs
def tRet (te : TE) : TS := fun D σ H => te σ H D.rt
theorem ps_ret (he : PE X e te) : PS X (.Return (some e) pos) (tRet te) := by
  intro pins s σ H D I h
  exact wpAny_Return_some (thn (he pins s σ H _ I h) fun v s1 ⟨x, H1, I1, r1, q1⟩ => ⟨x, σ, H1, I1, r1, q1⟩)
def tIfS (c : TT) (t u : TS) : TS := fun D σ H => c σ H fun b H1 => if b = true then t D σ H1 else u D σ H1
theorem ps_if {c : Expr} {a b : List Stmt} {tc : TT} (hc : PT X c tc) (ha : PSs X a t) (hb : PSs X b u) : PS X (.If c a b pos) (tIfS tc t u) := by
  intro pins s σ H D I h
  refine wpAny_If (thn (hc pins s σ H _ I h) fun d s1 ⟨H1, I1, q1⟩ => ?_)
  cases d with
  | true => exact ha pins s1 σ H1 D I1 q1
  | false => exact hb pins s1 σ H1 D I1 q1
def tNever : TS := fun _ _ _ => False
theorem ps_never : PS X st tNever := fun _ _ _ _ _ _ h => h.elim
end
abbrev TG := V → St → Hp → (St → Hp → Prop) → Prop
abbrev TGs := List V → St → Hp → (St → Hp → Prop) → Prop
def PG (X : Cx) (target : Expr) (t : TG) : Prop :=
  ∀ (pins : List (Addr × Obj)) (s : Shared) (σ : St) (H : Hp) (v : V) (u : Value) (Q : St → Hp → Prop), Inv X pins σ H s → RelV v u → t v σ H Q →
    wpAny (model X.prog X.w) X.A (assign target X.env u) (fun _ s' => ∃ σ' H', Inv X pins σ' H' s' ∧ Q σ' H') X.xe s
def PGs (X : Cx) (ts : List Expr) (t : TGs) : Prop :=
  ∀ (pins : List (Addr × Obj)) (s : Shared) (σ : St) (H : Hp) (vs : List V) (us : List Value) (Q : St → Hp → Prop), Inv X pins σ H s → Vals vs us → t vs σ H Q →
    wpAny (model X.prog X.w) X.A (assignInOrder ((assignEach ts X.env).map (·.2)) us) (fun _ s' => ∃ σ' H', Inv X pins σ' H' s' ∧ Q σ' H') X.xe s
abbrev TIp := V → V → Hp → VK → Prop
def PIp (X : Cx) (op : Operator) (t : TIp) : Prop :=
  ∀ (pins : List (Addr × Obj)) (s : Shared) (σ : St) (H : Hp) (x y : V) (v u : Value) (Q : VK), Inv X pins σ H s → RelV x v → RelV y u → t x y H Q →
    wpAny (model X.prog X.w) X.A (inplaceOp op v u) (EP X pins σ Q) X.xe s
section
variable {X : Cx} {pos : Pos}
def gName (i : Nat) : TG := fun v σ H Q => Q (σ.set i (some v)) H
theorem pg_name {i : Nat} {x : Str} (hN : X.N.Nodup) (hi : X.N[i]? = some x) (hx : Loc X.env.scope x) (hf : X.fn x = true ∨ X.env.scope.names.lookup x = some .local := by first | exact .inl rfl | exact .inr rfl | assumption) : PG X (.Name x pos) (gName i) := by
  intro pins s σ H v u Q I r h
  exact wpAny_assign_Name (store_ok I hN hi hx r (fun s' I' => ⟨_, H, I', h⟩) hf)
def gNil : TGs := fun vs σ H Q => vs = [] ∧ Q σ H
def gCons (t : TG) (u : TGs) : TGs := fun vs σ H Q => ∃ v r, vs = v :: r ∧ t v σ H fun σ' H' => u r σ' H' Q
theorem pgs_nil : PGs X [] gNil := by
  intro pins s σ H vs us Q I r h
  obtain ⟨e, h⟩ := h
  subst e
  cases r
  exact assignInOrder_nil ⟨σ, H, I, h⟩
theorem pgs_cons {e : Expr} {es : List Expr} {t : TG} {u : TGs} (h1 : PG X e t) (h2 : PGs X es u)
    (hs : (assignEach (e :: es) X.env).map (·.2) = assign e X.env :: (assignEach es X.env).map (·.2) := by rfl) : PGs X (e :: es) (gCons t u) := by
  intro pins s σ H vs us Q I r h
  obtain ⟨v, vr, e1, h⟩ := h
  subst e1
  cases r with
  | cons r rr =>
    rw [hs]
    refine assignInOrder_cons (thn (h1 pins s σ H _ _ _ I r h) fun _ s1 ⟨σ1, H1, I1, q1⟩ => ?_)
    exact h2 pins s1 σ1 H1 _ _ Q I1 rr q1
def gTup (K : Frag) (n : Nat) (t : TGs) : TG := fun v σ H Q => ∃ a xs, v = .ref a ∧ SqT K H a xs ∧ xs.length = n ∧ t xs σ H Q
theorem pg_tup {es : List Expr} {k : Nat} {t : TGs} {n : Nat} (hc : X.calm = true) (h : PGs X es t)
    (hn : (assignEach es X.env).length = n := by rfl) (hst : (assignEach es X.env).findIdx? (·.1) = none := by rfl) : PG X (.Tuple es k pos) (gTup X.K n t) := by
  intro pins s σ H v u Q I r hw
  obtain ⟨a, xs, e1, hq, hl, hw⟩ := hw
  subst e1
  cases r
  obtain ⟨its, rv, ht, hz⟩ := I.tuple hq
  refine assign_Tuple_tuple (I.ok.hd hc) ht (by simp [hn, ← hl, rv.length]) hst fun h' hx => ?_
  have I1 : Inv X pins σ H { s with heap := h' } := I.kept (t' := s.toks) fun b o e => hx b o (Nat.ne_of_lt (Heap.lt_size e)) e
  exact h pins _ σ H xs _ Q I1 (by simpa using rv) hw
def tAsg (te : TE) (g : TG) : TS := fun D σ H => te σ H fun x H1 => g x σ H1 D.nx
theorem ps_asg {tg e : Expr} {te : TE} {g : TG} (he : PE X e te) (hg : PG X tg g) (hs : swapsWithSole [tg] e pos.line X.env = pure false := by rfl) (hw : swappedStores [tg] e X.env = pure none := by rfl)
    (h1 : (assignEach [tg] X.env).map (·.2) = [assign tg X.env] := by rfl) : PS X (.Assign [tg] e pos) (tAsg te g) := by
  intro pins s σ H D I h
  refine wpAny_Assign_stores (thn (he pins s σ H _ I h) fun v s1 ⟨x, H1, I1, r1, q1⟩ => ?_) hs hw
  rw [h1]
  exact thn (hg pins s1 σ H1 x v _ I1 r1 q1) fun _ s2 q => q
theorem ps_set {i : Nat} {x : Str} {e : Expr} {te : TE} {pos' : Pos} (hN : X.N.Nodup) (hi : X.N[i]? = some x) (hx : Loc X.env.scope x) (he : PE X e te) (hs : swapsWith e (some (.Name x pos')) pos.line X.env = pure false := by rfl) (hf : X.fn x = true ∨ X.env.scope.names.lookup x = some .local := by first | exact .inl rfl | exact .inr rfl | assumption) :
    PS X (.Assign [.Name x pos'] e pos) (tAsg te (gName i)) := by
  intro pins s σ H D I h
  refine wpAny_Assign_Name (thn (he pins s σ H _ I h) fun v s1 ⟨y, H1, I1, r1, q1⟩ => ?_) hs
  exact store_ok I1 hN hi hx r1 (fun s2 I2 => ⟨_, H1, I2, q1⟩) hf
def ipI (f : Int → Int → Int) : TIp := fun x y H Q => ∃ i j, x = .int i ∧ y = .int j ∧ Q (.int (f i j)) H
theorem ip_add : PIp X .Add (ipI fun i j => i + j) := by
  intro pins s σ H x y v u Q I r1 r2 h
  obtain ⟨i, j, e1, e2, q⟩ := h
  subst e1; subst e2
  obtain ⟨t, rfl⟩ := r1
  obtain ⟨t', rfl⟩ := r2
  exact iadd_int ⟨.int _, H, I.tok _, ⟨_, rfl⟩, q⟩
end
section
variable {X : Cx} {pos : Pos}
end
structure It where
  go : Nat → Hp → Prop
  yld : Nat → Hp → V → Hp → Prop
  stop : Nat → Hp → Prop
def FpOk (X : Cx) (pins : List (Addr × Obj)) (H : Hp) (b : Addr) : Prop :=
  H b = none ∧ b ≠ X.env.locals ∧ b ∉ X.fs ∧ (b ∈ X.ex ∨ X.s₀.heap.objs.size ≤ b) ∧ (∀ x c, X.env.cells.lookup x = some c → c ≠ b) ∧ ∀ p ∈ X.pn ++ pins, p.1 ≠ b
theorem Inv.fpOk {X : Cx} {pins : List (Addr × Obj)} {σ : St} {H H' : Hp} {s : Shared} {b : Addr} (I : Inv X pins σ H s) (hb : s.heap.objs.size ≤ b) (hn : H' b = none) : FpOk X pins H' b := by
  refine ⟨hn, Nat.ne_of_gt (Nat.lt_of_lt_of_le I.lt hb), I.nofs hb, .inr (Nat.le_trans I.sz hb), fun x c e z => ?_, fun p hp z => ?_⟩
  · obtain ⟨v, q⟩ := I.cell x c e
    exact absurd (Nat.lt_of_lt_of_le q.lt (by rw [z]; exact hb)) (Nat.lt_irrefl _)
  · exact absurd (Nat.lt_of_lt_of_le (Heap.lt_size (I.pin p hp).1) (by rw [z]; exact hb)) (Nat.lt_irrefl _)
structure Turn (P : Program) (w : World) (K : Frag) (tg : Expr) (J : It) (fp : List Addr) (it : Addr) (tn : Nat → Heap → Prop) : Prop where
  mem : it ∈ fp
  obj : ∀ i h, tn i h → ∀ b ∈ fp, ∃ o, h.get? b = some o ∧ ∀ v, o.data ≠ .cell v
  keep : ∀ i h h', tn i h → (∀ b ∈ fp, ∀ o, h.get? b = some o → h'.get? b = some o) → tn i h'
  item : ∀ (X : Cx), X.prog = P → X.w = w → X.K = K → X.calm = true → ∀ (i : Nat) (pins : List (Addr × Obj)) (s : Shared) (σ : St) (H : Hp) (E : Value → Shared → Prop), Inv X pins σ H s → (∀ b ∈ fp, FpOk X pins H b) → tn i s.heap → J.go i H →
    wpAny (model P w) X.A (pyNext (.ref it)) (fun r s1 => ∃ u, r = some u ∧
      wpAny (model P w) X.A (letOwnedTupleGo tg (.ref it) u) (fun _ s2 => ∃ x H', Inv X pins σ H' s2 ∧ RelV x u ∧ J.yld i H x H' ∧ tn (i + 1) s2.heap ∧ ∀ b ∈ fp, H' b = none) E s1) E s
  done : ∀ (X : Cx), X.prog = P → X.w = w → X.K = K → X.calm = true → ∀ (i : Nat) (pins : List (Addr × Obj)) (s : Shared) (σ : St) (H : Hp) (E : Value → Shared → Prop), Inv X pins σ H s → (∀ b ∈ fp, FpOk X pins H b) → tn i s.heap → J.stop i H →
    wpAny (model P w) X.A (pyNext (.ref it)) (fun r s1 => r = none ∧ Inv X pins σ H s1) E s
  self : ∀ (A : Around) (i : Nat) (s : Shared) (Q : Value → Shared → Prop) (E : Value → Shared → Prop), tn i s.heap → Q (.ref it) s → wpAny (model P w) A (pyIter (.ref it)) Q E s
abbrev TI := St → Hp → (It → Hp → Prop) → Prop
def PIE (X : Cx) (pins : List (Addr × Obj)) (σ : St) (tg : Expr) (R : It → Hp → Prop) (itv : Value) (s2 : Shared) : Prop :=
  ∃ (it : Addr) (fp : List Addr) (tn : Nat → Heap → Prop) (J : It) (H' : Hp), itv = .ref it ∧ Inv X pins σ H' s2 ∧ Turn X.prog X.w X.K tg J fp it tn ∧ tn 0 s2.heap ∧ (∀ b ∈ fp, FpOk X pins H' b) ∧ R J H'
def PI (X : Cx) (tg iter : Expr) (wi : TI) : Prop :=
  ∀ (pins : List (Addr × Obj)) (s : Shared) (σ : St) (H : Hp) (R : It → Hp → Prop), Inv X pins σ H s → wi σ H R →
    wpAny (model X.prog X.w) X.A (eval iter X.env) (fun v s1 => wpAny (model X.prog X.w) X.A (pyIter v) (PIE X pins σ tg R) X.xe s1) X.xe s
theorem go_of {M : Model} {A : Around} {E : Value → Shared → Prop} {s : Shared} {tg : Expr} {it : Addr} {u : Value} {o : Obj} {n : String} {vs : Array Value} {Q : Unit → Shared → Prop} (ho : s.heap.get? it = some o) (hc : o.cls = .type n) (hd : o.data = .fields vs)
    (hn : ["enumerate", "zip", "dict_itemiterator", "dict_reverseitemiterator", "odict_iterator", "itertools.zip_longest", "itertools.pairwise"].contains n = false) (hQ : Q () s) : wpAny M A (letOwnedTupleGo tg (.ref it) u) Q E s := by
  unfold letOwnedTupleGo
  cases tg <;> first
    | exact wpAny_pure hQ
    | (cases u <;> first
        | exact wpAny_pure hQ
        | (refine wpAny_bind (wpAny_load ho ?_)
           rw [hc, hd]
           show wpAny M A (if (["enumerate", "zip", "dict_itemiterator", "dict_reverseitemiterator", "odict_iterator", "itertools.zip_longest", "itertools.pairwise"].contains n && vs[0]? == some (rawInt _)) = true then _ else _) Q E s
           rw [if_neg (by intro h; rw [hn, Bool.false_and] at h; cases h)]
           exact wpAny_pure hQ))
def Itl (K : Frag) (a : Addr) : It :=
  ⟨fun i H => ∃ xs x, SqL K H a xs ∧ xs[i]? = some x, fun i H x H' => H' = H ∧ ∀ xs, SqL K H a xs → xs[i]? = some x, fun i H => ∃ xs, SqL K H a xs ∧ xs.length ≤ i⟩
def Itr (lo : Int) (n : Nat) : It := ⟨fun i _ => i < n, fun i H x H' => H' = H ∧ x = .int (lo + i), fun i _ => n ≤ i⟩
theorem turn_list {P : Program} {w : World} {K : Frag} {tg : Expr} (a it : Addr) : Turn P w K tg (Itl K a) [it] it (fun i h => h.IsListIter it a i) where
  mem := by simp
  obj := fun i h st b hb => by
    have e : b = it := by simpa using hb
    subst e
    obtain ⟨o, e, c, d⟩ := st
    exact ⟨o, e, fun v z => by rw [d] at z; cases z⟩
  keep := fun i h h' st k => st.at fun o e => k it (by simp) o e
  item := by
    intro X hP hw hK hc i pins s σ H E I hf st hg
    subst hP hw hK
    obtain ⟨xs, x, hq, hx⟩ := hg
    obtain ⟨its, rv, p, hz⟩ := I.list hq
    obtain ⟨u, hu, ru⟩ := rv.get hx
    obtain ⟨f0, f1, f2, f3, f4, f5⟩ := hf it (by simp)
    refine wpAny_pyNext_list_item st p.isList (x := u) (by simpa using hu) fun h' st' sb => ?_
    have I1 : Inv X pins σ H { s with heap := h' } := I.turned (t' := s.toks) (fun b o hb e => (sb.2 b hb).trans e) f0 f1 f3 f4 f5
    obtain ⟨o, e, c, d⟩ := id st'
    exact ⟨u, rfl, go_of (s := { s with heap := h' }) e c d (by decide) ⟨x, H, I1, ru, ⟨rfl, fun ys hy => by rw [I.list_inj hy hq]; exact hx⟩, st', fun b hb => (hf b hb).1⟩⟩
  done := by
    intro X hP hw hK hc i pins s σ H E I hf st hg
    subst hP hw hK
    obtain ⟨xs, hq, hx⟩ := hg
    obtain ⟨its, rv, p, hz⟩ := I.list hq
    obtain ⟨f0, f1, f2, f3, f4, f5⟩ := hf it (by simp)
    have hl := rv.length
    exact wpAny_pyNext_list_end (I.ok.hd hc) st p.isList (by simp; omega) fun h' eb => ⟨rfl, I.turned (t' := s.toks) (fun b o hb e => eb b o hb e) f0 f1 f3 f4 f5⟩
  self := fun _ _ _ _ _ st h => wpAny_pyIter_listiter st h
theorem turn_range {P : Program} {w : World} {K : Frag} {tg : Expr} (it : Addr) (lo : Int) (n : Nat) : Turn P w K tg (Itr lo n) [it] it (fun i h => IsRangeIter h it (lo + (i : Nat) * 1) ((n : Int) - (i : Nat)) 1) where
  mem := by simp
  obj := fun i h st b hb => by
    have e : b = it := by simpa using hb
    subst e
    exact ⟨_, st, fun v z => by
      have z' : Data.fields _ = Data.cell v := z
      cases z'⟩
  keep := fun i h h' st k => k it (by simp) _ st
  item := by
    intro X hP hw hK hc i pins s σ H E I hf st hg
    subst hP hw hK
    obtain ⟨f0, f1, f2, f3, f4, f5⟩ := hf it (by simp)
    have W := Walks.range (prog := X.prog) (w := X.w) (I.ok.hd hc) it lo 1 n
    refine W.item i s _ _ hg st fun v h' tk hv st' kk => ?_
    obtain ⟨t, rfl⟩ := hv
    have I1 : Inv X pins σ H { s with heap := h', toks := tk } := I.turned (fun b o hb e => kk b o (by simpa using hb) e) f0 f1 f3 f4 f5
    refine ⟨_, rfl, go_of (s := { s with heap := h', toks := tk }) (n := "range_iterator") st' rfl rfl (by decide) ⟨.int (lo + i), H, I1, ⟨t, ?_⟩, ⟨rfl, rfl⟩, st', fun b hb => (hf b hb).1⟩⟩
    rw [Int.mul_one]
  done := by
    intro X hP hw hK hc i pins s σ H E I hf st hg
    subst hP hw hK
    obtain ⟨f0, f1, f2, f3, f4, f5⟩ := hf it (by simp)
    exact wpAny_pyNext_range_end (I.ok.hd hc) st (by have : n ≤ i := hg; omega) fun h' eb => ⟨rfl, I.turned (t' := s.toks) (fun b o hb e => eb b o hb e) f0 f1 f3 f4 f5⟩
  self := fun _ _ _ _ _ st h => wpAny_pyIter_rangeiter st h
end L2
namespace L2
open PySem PySem.Spec PyProof.Rows
section
variable {X : Cx} {tg : Expr}
def iList (K : Frag) (tl : TE) : TI := fun σ H R => tl σ H fun x H1 => ∃ a, x = .ref a ∧ (∃ xs, SqL K H1 a xs) ∧ R (Itl K a) H1
theorem pi_list {l : Expr} {tl : TE} (hl : PE X l tl) : PI X tg l (iList X.K tl) := by
  intro pins s σ H R I h
  refine thn (hl pins s σ H _ I h) fun v s1 ⟨x, H1, I1, r1, q1⟩ => ?_
  obtain ⟨a, e, ⟨xs, hq⟩, q⟩ := q1
  subst e
  cases r1
  obtain ⟨its, rv, p, hz⟩ := I1.list hq
  refine wpAny_pyIter_list p.isList ?_
  refine ⟨s1.heap.objs.size, [s1.heap.objs.size], _, _, H1, rfl, I1.kept (t' := s1.toks) fun b o e => Heap.get?_push_of_some _ e, turn_list a _, ⟨_, Heap.get?_push_size _ rfl, rfl, rfl⟩, fun b hb => ?_, q⟩
  have e : b = s1.heap.objs.size := by simpa using hb
  subst e
  exact I1.fpOk (Nat.le_refl _) (I1.hok.fresh (Nat.le_refl _))
theorem range_it {pins : List (Addr × Obj)} {σ : St} {H : Hp} {s : Shared} {R : It → Hp → Prop} {E : Value → Shared → Prop} {lo hi : Int} {t u v : Tok} {tk : Nat} (I : Inv X pins σ H s) (h1 : -(2 ^ 62) ≤ lo) (h2 : lo < 2 ^ 62) (h3 : -(2 ^ 62) ≤ hi) (h4 : hi < 2 ^ 62)
    (q : R (Itr lo (hi - lo).toNat) H) : wpAny (model X.prog X.w) X.A (pyIter (.ref s.heap.objs.size)) (PIE X pins σ tg R) E { s with heap := s.heap.push { cls := .type "range", data := .fields #[.int lo t, .int hi u, .int 1 v] }, toks := tk } := by
  refine wpAny_pyIter_range (IsRange.new ..) (small_one h1 h2 h3 h4) ?_
  have I1 : Inv X pins σ H { s with heap := s.heap.push { cls := .type "range", data := .fields #[.int lo t, .int hi u, .int 1 v] }, toks := tk } := I.kept fun b o e => Heap.get?_push_of_some _ e
  refine ⟨(s.heap.push { cls := .type "range", data := .fields #[.int lo t, .int hi u, .int 1 v] }).objs.size, [(s.heap.push { cls := .type "range", data := .fields #[.int lo t, .int hi u, .int 1 v] }).objs.size], _, _, H, rfl,
    I1.kept (t' := tk) fun b o e => Heap.get?_push_of_some _ e, turn_range _ lo (hi - lo).toNat, ?_, fun b hb => ?_, q⟩
  · have e1 : lo + ((0 : Nat) : Int) * 1 = lo := by simp
    have e2 : (((hi - lo).toNat : Nat) : Int) - ((0 : Nat) : Int) = Builtin.Range.rangeSize lo hi 1 := by rw [rangeSize_one]; split <;> omega
    show IsRangeIter _ _ (lo + ((0 : Nat) : Int) * 1) ((((hi - lo).toNat : Nat) : Int) - ((0 : Nat) : Int)) 1
    rw [e1, e2]
    exact Heap.get?_push_size _ rfl
  · have e : b = (s.heap.push { cls := .type "range", data := .fields #[.int lo t, .int hi u, .int 1 v] }).objs.size := by simpa using hb
    subst e
    exact I1.fpOk (Nat.le_refl _) (I1.hok.fresh (Nat.le_refl _))
def iRng1 (ta : TA) : TI := fun σ H R => ta σ H fun vs H1 => ∃ j : Int, vs = [.int j] ∧ -(2 ^ 62) ≤ j ∧ j < 2 ^ 62 ∧ R (Itr 0 j.toNat) H1
theorem pi_range1 {a : Expr} {ta : TA} {p pos : Pos} (hg : Gl X "range") (hm : X.mg "range" = none) (ha : PA X [a] ta) (hs : starEach [a] X.env = [(false, eval a X.env)] := by rfl) : PI X tg (.Call (.Name "range" p) [a] [] pos) (iRng1 ta) := by
  intro pins s σ H R I h
  refine Call_ (ld_blt I hg hm boot_range (PyProof.Rows.callWith_type1 (thn (ha pos pins s σ H _ I h) fun us s1 ⟨vs, H1, I1, r1, q1⟩ => ?_) hs rfl))
  obtain ⟨j, e, q1, q2, q⟩ := q1
  subst e
  cases r1 with
  | cons r rr =>
    cases rr
    obtain ⟨t, rfl⟩ := r
    exact call_range_1 (range_it I1 (by omega) (by omega) q1 q2 (by simpa using q))
def tFor (wi : TI) (g : TG) (tb : TS) : TS := fun D σ H => wi σ H fun J H1 => ∃ W : Nat → Nat → St → Hp → Prop, (∃ m, W 0 m σ H1) ∧ ∀ i m σ H, W i m σ H →
  (J.stop i H ∧ D.nx σ H) ∨ (J.go i H ∧ ∃ N : St → Hp → Prop, (∀ σ' H', N σ' H' → ∃ m', m' < m ∧ W (i + 1) m' σ' H') ∧ ∀ x H', J.yld i H x H' → g x σ H' fun σ2 H2 => tb { D with nx := N, ct := N, bk := D.nx } σ2 H2)
def pinsAt (fp : List Addr) (h : Heap) : List (Addr × Obj) := fp.filterMap fun b => (h.get? b).map fun o => (b, o)
theorem mem_pinsAt {fp : List Addr} {h : Heap} {b : Addr} {o : Obj} (hb : b ∈ fp) (e : h.get? b = some o) : (b, o) ∈ pinsAt fp h := List.mem_filterMap.mpr ⟨b, hb, by rw [e]; rfl⟩
theorem of_pinsAt {fp : List Addr} {h : Heap} {p : Addr × Obj} (hp : p ∈ pinsAt fp h) : p.1 ∈ fp ∧ h.get? p.1 = some p.2 := by
  obtain ⟨b, hb, e⟩ := List.mem_filterMap.mp hp
  cases q : h.get? b with
  | none => rw [q] at e; cases e
  | some o =>
    rw [q] at e
    have e' : (b, o) = p := Option.some.inj e
    subst e'
    exact ⟨hb, q⟩
theorem Inv.pinned {pins : List (Addr × Obj)} {σ : St} {H : Hp} {s : Shared} {fp : List Addr} (I : Inv X pins σ H s) (hf : ∀ b ∈ fp, FpOk X pins H b) (ho : ∀ b ∈ fp, ∃ o, s.heap.get? b = some o ∧ ∀ v, o.data ≠ .cell v) : Inv X (pins ++ pinsAt fp s.heap) σ H s :=
  I.pins_of fun p hp => (List.mem_append.mp hp).elim (fun z => I.pin p (List.mem_append_right _ z)) fun z => by
    obtain ⟨hb, e⟩ := of_pinsAt z
    obtain ⟨f0, f1, f2, _⟩ := hf p.1 hb
    obtain ⟨o, e', d⟩ := ho p.1 hb
    rw [e] at e'; cases e'
    exact ⟨e, f0, f1, f2, d⟩
theorem Inv.unpinned {pins pl : List (Addr × Obj)} {σ : St} {H : Hp} {s : Shared} (I : Inv X (pins ++ pl) σ H s) : Inv X pins σ H s := I.pins_of fun p hp => I.pin p (List.mem_append_right _ (List.mem_append_left _ hp))
theorem ps_for {iter : Expr} {body : List Stmt} {wi : TI} {g : TG} {tb : TS} {pos : Pos} (hp : PassesOwn (model X.prog X.w) X.A X.env X.xe) (hc : X.calm = true) (hi : PI X tg iter wi) (hg : PG X tg g) (hb : PSs X body tb)
    (hs : ∀ x, foldedSetIterable iter X.env x = pure x := by intro _; rfl) : PS X (.For tg iter body [] pos) (tFor wi g tb) := by
  intro pins s σ H D I h
  refine wpAny_For (thn (hi pins s σ H _ I h) fun v s1 h1 => thn h1 fun itv s2 h2 => ?_) hs
  obtain ⟨it, fp, tn, J, H2, e, I2, T, st2, f2, W, ⟨m0, w0⟩, turn⟩ := h2
  subst e
  have stat : ∀ {H' : Hp}, (∀ b ∈ fp, H' b = none) → ∀ b ∈ fp, FpOk X pins H' b := fun hn b hb => ⟨hn b hb, (f2 b hb).2⟩
  refine codeAny_forLoop_any (fun n s' => ∃ i σ' H', Inv X pins σ' H' s' ∧ tn i s'.heap ∧ (∀ b ∈ fp, H' b = none) ∧ W i n σ' H') ?_ m0 ⟨0, σ, H2, I2, st2, fun b hb => (f2 b hb).1, w0⟩
  rintro n s3 ⟨i, σ3, H3, I3, st3, fr3, w3⟩
  rcases turn i n σ3 H3 w3 with ⟨stop, qn⟩ | ⟨go, N, hN, step⟩
  · refine wpAny_passesOwn hp (thn (T.done X rfl rfl rfl hc i pins s3 σ3 H3 X.xe I3 (stat fr3) st3 stop) fun r s4 ⟨hr, I4⟩ => ?_)
    subst hr
    exact wpAny_execs_nil ⟨σ3, H3, I4, qn⟩
  · refine wpAny_passesOwn hp (thn (T.item X rfl rfl rfl hc i pins s3 σ3 H3 X.xe I3 (stat fr3) st3 go) fun r s4 ⟨u, hr, h4⟩ => ?_)
    subst hr
    refine wpAny_passesOwn hp (thn h4 fun _ s5 ⟨x, H5, I5, r5, y5, st5, fr5⟩ => ?_)
    have I5' := I5.pinned (stat fr5) (T.obj _ _ st5)
    refine wpAny_passesOwn hp (thn (hg _ s5 σ3 H5 x u _ I5' r5 (step x H5 y5)) fun _ s6 ⟨σ6, H6, I6, q6⟩ => ?_)
    refine wpAny_passesOwn hp (thn (hb _ s6 σ6 H6 _ I6 q6) fun f s7 q7 => ?_)
    have again : ∀ {σ7 : St} {H7 : Hp}, Inv X (pins ++ pinsAt fp s5.heap) σ7 H7 s7 → N σ7 H7 → ∃ m, m < n ∧ ∃ i σ' H', Inv X pins σ' H' s7 ∧ tn i s7.heap ∧ (∀ b ∈ fp, H' b = none) ∧ W i m σ' H' := fun {σ7 H7} I7 n7 => by
      obtain ⟨m', hm, w7⟩ := hN σ7 H7 n7
      refine ⟨m', hm, i + 1, σ7, H7, I7.unpinned, T.keep _ _ _ st5 fun b hb o e => (I7.pin (b, o) (List.mem_append_right _ (List.mem_append_right _ (mem_pinsAt hb e)))).1, fun b hb => ?_, w7⟩
      obtain ⟨o, e, d⟩ := T.obj _ _ st5 b hb
      exact (I7.pin (b, o) (List.mem_append_right _ (List.mem_append_right _ (mem_pinsAt hb e)))).2.1
    cases f with
    | next => obtain ⟨σ7, H7, I7, n7⟩ := q7; exact again I7 n7
    | cont => obtain ⟨σ7, H7, I7, n7⟩ := q7; exact again I7 n7
    | brk => obtain ⟨σ7, H7, I7, q7⟩ := q7; exact ⟨σ7, H7, I7.unpinned, q7⟩
    | ret v => obtain ⟨x7, σ7, H7, I7, r7, q7⟩ := q7; exact ⟨x7, σ7, H7, I7.unpinned, r7, q7⟩
end
theorem for_list {K : Frag} {a : Addr} {xs : List V} {g : TG} {tb : TS} {D : Ends} {σ : St} {H : Hp} (Pv : Nat → St → Hp → Prop) (h0 : Pv 0 σ H) (hl : ∀ i σ H, i ≤ xs.length → Pv i σ H → SqL K H a xs)
    (hs : ∀ i x σ H, xs[i]? = some x → Pv i σ H → g x σ H fun σ2 H2 => tb { D with nx := Pv (i + 1), ct := Pv (i + 1), bk := D.nx } σ2 H2) (hd : ∀ σ H, Pv xs.length σ H → D.nx σ H) :
    ∃ W : Nat → Nat → St → Hp → Prop, (∃ m, W 0 m σ H) ∧ ∀ i m σ H, W i m σ H →
      ((Itl K a).stop i H ∧ D.nx σ H) ∨ ((Itl K a).go i H ∧ ∃ N : St → Hp → Prop, (∀ σ' H', N σ' H' → ∃ m', m' < m ∧ W (i + 1) m' σ' H') ∧ ∀ x H', (Itl K a).yld i H x H' → g x σ H' fun σ2 H2 => tb { D with nx := N, ct := N, bk := D.nx } σ2 H2) := by
  refine ⟨fun i m σ H => m = xs.length - i ∧ i ≤ xs.length ∧ Pv i σ H, ⟨xs.length, by simp, Nat.zero_le _, h0⟩, ?_⟩
  rintro i m σ H ⟨rfl, hi, p⟩
  have q := hl i σ H hi p
  by_cases hlt : i < xs.length
  · refine .inr ⟨⟨xs, xs[i], q, by simp [hlt]⟩, Pv (i + 1), fun σ' H' p' => ⟨xs.length - (i + 1), by omega, rfl, hlt, p'⟩, fun x H' y => ?_⟩
    obtain ⟨e, y⟩ := y
    subst e
    exact hs i x σ _ (y xs q) p
  · have e : i = xs.length := by omega
    subst e
    exact .inl ⟨⟨xs, q, Nat.le_refl _⟩, hd σ H p⟩
theorem for_range {lo : Int} {n : Nat} {g : TG} {tb : TS} {D : Ends} {σ : St} {H : Hp} (Pv : Nat → St → Hp → Prop) (h0 : Pv 0 σ H)
    (hs : ∀ i σ H, i < n → Pv i σ H → g (.int (lo + i)) σ H fun σ2 H2 => tb { D with nx := Pv (i + 1), ct := Pv (i + 1), bk := D.nx } σ2 H2) (hd : ∀ σ H, Pv n σ H → D.nx σ H) :
    ∃ W : Nat → Nat → St → Hp → Prop, (∃ m, W 0 m σ H) ∧ ∀ i m σ H, W i m σ H →
      ((Itr lo n).stop i H ∧ D.nx σ H) ∨ ((Itr lo n).go i H ∧ ∃ N : St → Hp → Prop, (∀ σ' H', N σ' H' → ∃ m', m' < m ∧ W (i + 1) m' σ' H') ∧ ∀ x H', (Itr lo n).yld i H x H' → g x σ H' fun σ2 H2 => tb { D with nx := N, ct := N, bk := D.nx } σ2 H2) := by
  refine ⟨fun i m σ H => m = n - i ∧ i ≤ n ∧ Pv i σ H, ⟨n, by simp, Nat.zero_le _, h0⟩, ?_⟩
  rintro i m σ H ⟨rfl, hi, p⟩
  by_cases hlt : i < n
  · refine .inr ⟨hlt, Pv (i + 1), fun σ' H' p' => ⟨n - (i + 1), by omega, rfl, hlt, p'⟩, fun x H' y => ?_⟩
    obtain ⟨e, y⟩ := y
    subst e y
    exact hs i σ _ hlt p
  · have e : i = n := by omega
    subst e
    exact .inl ⟨Nat.le_refl _, hd σ H p⟩
end L2
namespace L2
open PySem PySem.Spec PyProof.Rows
abbrev R2 := V → V → Hp → VK → Prop
def OpR (X : Cx) (f : Value → Value → Sem Value) (r : R2) : Prop :=
  ∀ (pins : List (Addr × Obj)) (s : Shared) (σ : St) (H : Hp) (x y : V) (v u : Value) (Q : VK), Inv X pins σ H s → RelV x v → RelV y u → r x y H Q →
    wpAny (model X.prog X.w) X.A (f v u) (EP X pins σ Q) X.xe s
def UnR (X : Cx) (f : Value → Sem Value) (r : V → Hp → VK → Prop) : Prop :=
  ∀ (pins : List (Addr × Obj)) (s : Shared) (σ : St) (H : Hp) (x : V) (v : Value) (Q : VK), Inv X pins σ H s → RelV x v → r x H Q →
    wpAny (model X.prog X.w) X.A (f v) (EP X pins σ Q) X.xe s
def CallR (X : Cx) (f : Value) (r : List V → Hp → VK → Prop) : Prop :=
  ∀ (pins : List (Addr × Obj)) (s : Shared) (σ : St) (H : Hp) (xs : List V) (us : List Value) (Q : VK), Inv X pins σ H s → Vals xs us → r xs H Q →
    wpAny (model X.prog X.w) X.A (call f us) (EP X pins σ Q) X.xe s
def TruR (X : Cx) (r : V → Hp → (Bool → Hp → Prop) → Prop) : Prop :=
  ∀ (pins : List (Addr × Obj)) (s : Shared) (σ : St) (H : Hp) (x : V) (v : Value) (Q : Bool → Hp → Prop), Inv X pins σ H s → RelV x v → r x H Q →
    wpAny (model X.prog X.w) X.A (truthy v) (TP X pins σ Q) X.xe s
def tOp (r : R2) (ta tb : TE) : TE := fun σ H Q => ta σ H fun x H1 => tb σ H1 fun y H2 => r x y H2 Q
def tUn (r : V → Hp → VK → Prop) (ta : TE) : TE := fun σ H Q => ta σ H fun x H1 => r x H1 Q
def rI (C : Int → Int → Prop) (g : Int → Int → V) : R2 := fun x y H Q => ∃ i j, x = .int i ∧ y = .int j ∧ C i j ∧ Q (g i j) H
def rI0 (g : Int → Int → V) : R2 := fun x y H Q => ∃ i j, x = .int i ∧ y = .int j ∧ Q (g i j) H
def rU (g : Int → V) : V → Hp → VK → Prop := fun x H Q => ∃ i, x = .int i ∧ Q (g i) H
section
variable {X : Cx} {a b c : Expr} {ta tb tc : TE} {pos : Pos}
theorem binT (ha : PE X a ta) (hb : PE X b tb) {pins : List (Addr × Obj)} {s : Shared} {σ : St} {H : Hp} {R : V → V → Hp → Prop} (I : Inv X pins σ H s)
    (h : ta σ H fun x H1 => tb σ H1 fun y H2 => R x y H2) {Q : Value → Shared → Prop} {f : Value → Value → Sem Value}
    (hf : ∀ v u s2 x y H2, Inv X pins σ H2 s2 → RelV x v → RelV y u → R x y H2 → wpAny (model X.prog X.w) X.A (f v u) Q X.xe s2) :
    wpAny (model X.prog X.w) X.A (eval a X.env) (fun v s₁ => wpAny (model X.prog X.w) X.A (eval b X.env) (fun u s₂ => wpAny (model X.prog X.w) X.A (f v u) Q X.xe s₂) X.xe s₁) X.xe s := by
  refine thn (ha pins s σ H _ I h) fun v s1 ⟨x, H1, I1, r1, q1⟩ => ?_
  refine thn (hb pins s1 σ H1 _ I1 q1) fun u s2 ⟨y, H2, I2, r2, q2⟩ => ?_
  exact hf v u s2 x y H2 I2 r1 r2 q2
theorem pe_op {op : Operator} {r : R2} (ho : OpR X (binaryOp op) r) (ha : PE X a ta) (hb : PE X b tb) : PE X (.BinOp a op b pos) (tOp r ta tb) := by
  intro pins s σ H Q I h
  exact wpAny_BinOp (binT ha hb I h fun v u s2 x y H2 I2 rx ry q => ho pins s2 σ H2 x y v u Q I2 rx ry q)
theorem pe_un {op : UnaryOp} {r : V → Hp → VK → Prop} (ho : UnR X (unaryOp op) r) (ha : PE X a ta) : PE X (.UnaryOp op a pos) (tUn r ta) := by
  intro pins s σ H Q I h
  exact UnaryOp_ (thn (ha pins s σ H _ I h) fun v s1 ⟨x, H1, I1, r1, q1⟩ => ho pins s1 σ H1 x v Q I1 r1 q1)
theorem opI {f : Value → Value → Sem Value} {C : Int → Int → Prop} {g : Int → Int → Int}
    (rule : ∀ (i j : Int) (t u : Tok) (s : Shared) (Q : Value → Shared → Prop) (E : Value → Shared → Prop), C i j → Q (.int (g i j) s.toks) { s with toks := s.toks + 1 } → wpAny (model X.prog X.w) X.A (f (.int i t) (.int j u)) Q E s) :
    OpR X f (rI C fun i j => .int (g i j)) := by
  intro pins s σ H x y v u Q I rx ry h
  obtain ⟨i, j, rfl, rfl, hc, q⟩ := h
  obtain ⟨t, rfl⟩ := rx
  obtain ⟨t', rfl⟩ := ry
  exact rule i j t t' s _ _ hc ⟨.int (g i j), H, I.tok _, ⟨_, rfl⟩, q⟩
theorem opI0 {f : Value → Value → Sem Value} {g : Int → Int → Int}
    (rule : ∀ (i j : Int) (t u : Tok) (s : Shared) (Q : Value → Shared → Prop) (E : Value → Shared → Prop), Q (.int (g i j) s.toks) { s with toks := s.toks + 1 } → wpAny (model X.prog X.w) X.A (f (.int i t) (.int j u)) Q E s) :
    OpR X f (rI0 fun i j => .int (g i j)) := by
  intro pins s σ H x y v u Q I rx ry h
  obtain ⟨i, j, rfl, rfl, q⟩ := h
  obtain ⟨t, rfl⟩ := rx
  obtain ⟨t', rfl⟩ := ry
  exact rule i j t t' s _ _ ⟨.int (g i j), H, I.tok _, ⟨_, rfl⟩, q⟩
theorem opB0 {f : Value → Value → Sem Value} {g : Int → Int → Bool}
    (rule : ∀ (i j : Int) (t u : Tok) (s : Shared) (Q : Value → Shared → Prop) (E : Value → Shared → Prop), Q (.bool (g i j)) s → wpAny (model X.prog X.w) X.A (f (.int i t) (.int j u)) Q E s) :
    OpR X f (rI0 fun i j => .bl (g i j)) := by
  intro pins s σ H x y v u Q I rx ry h
  obtain ⟨i, j, rfl, rfl, q⟩ := h
  obtain ⟨t, rfl⟩ := rx
  obtain ⟨t', rfl⟩ := ry
  exact rule i j t t' s _ _ ⟨.bl (g i j), H, I, rfl, q⟩
def CDiv (i j : Int) : Prop := 0 < j ∧ j < 1073741824
def CPow (i j : Int) : Prop := 0 ≤ j ∧ j ≤ 1000000 ∧ i.natAbs < 2 ^ 64
def CMul (i j : Int) : Prop := (-(2 ^ 64) < i ∧ i < 2 ^ 64) ∨ (-(2 ^ 64) < j ∧ j < 2 ^ 64)
theorem CMul.ok {i j : Int} (h : CMul i j) : IntMulOk i j := by
  rcases h with ⟨h1, h2⟩ | ⟨h1, h2⟩
  · exact .of_left (intBits_le_64 h1 h2)
  · exact .of_right (intBits_le_64 h1 h2)
theorem op_add : OpR X (binaryOp .Add) (rI0 fun i j => .int (i + j)) := opI0 fun _ _ _ _ _ _ _ q => add_int q
theorem op_sub : OpR X (binaryOp .Sub) (rI0 fun i j => .int (i - j)) := opI0 fun _ _ _ _ _ _ _ q => sub_int q
theorem op_mul : OpR X (binaryOp .Mult) (rI CMul fun i j => .int (i * j)) := opI fun _ _ _ _ _ _ _ hc q => mul_int q hc.ok
theorem op_fdiv : OpR X (binaryOp .FloorDiv) (rI CDiv fun i j => .int (i / j)) := opI fun i j _ _ _ _ _ hc q => by
  have h1 : (0 : Int) < j := hc.1
  have h2 : j < 1073741824 := hc.2
  exact floordiv_int (by omega) (by rw [Int.fdiv_eq_ediv_of_nonneg i (by omega)]; exact q) (.inl (PyProof.noPylong_small (by omega)))
theorem op_mod : OpR X (binaryOp .Mod) (rI (fun _ j => 0 < j) fun i j => .int (i % j)) := opI fun i j _ _ _ _ _ hc q => by
  have h1 : (0 : Int) < j := hc
  exact mod_int' (by omega) (by rw [Int.fmod_eq_emod_of_nonneg i (by omega)]; exact q)
theorem op_pow : OpR X (binaryOp .Pow) (rI CPow fun i j => .int (i ^ j.toNat)) := opI fun _ _ _ _ _ _ _ hc q => pow_int_small hc.1 hc.2.1 hc.2.2 q
theorem unI {f : Value → Sem Value} {g : Int → Int}
    (rule : ∀ (i : Int) (t : Tok) (s : Shared) (Q : Value → Shared → Prop) (E : Value → Shared → Prop), Q (.int (g i) s.toks) { s with toks := s.toks + 1 } → wpAny (model X.prog X.w) X.A (f (.int i t)) Q E s) :
    UnR X f (rU fun i => .int (g i)) := by
  intro pins s σ H x v Q I rx h
  obtain ⟨i, rfl, q⟩ := h
  obtain ⟨t, rfl⟩ := rx
  exact rule i t s _ _ ⟨.int (g i), H, I.tok _, ⟨_, rfl⟩, q⟩
theorem un_neg : UnR X (unaryOp .USub) (rU fun i => .int (-i)) := unI fun _ _ _ _ _ q => neg_int q
end
def scal : V → V → Bool
  | .non, .non => true | .non, .int _ => true | .int _, .non => true | .non, .bl _ => true | .bl _, .non => true | .non, .str _ => true | .str _, .non => true
  | .int _, .int _ => true | .bl _, .bl _ => true | .str _, .str _ => true | .byt _, .byt _ => true
  | .int _, .str _ => true | .str _, .int _ => true | .bl _, .str _ => true | .str _, .bl _ => true
  | _, _ => false
def rEq : R2 := fun x y H Q => scal x y = true ∧ Q (.bl (decide (x = y))) H
def rNe : R2 := fun x y H Q => scal x y = true ∧ Q (.bl (!decide (x = y))) H
theorem dec_int {i j : Int} : decide (V.int i = V.int j) = (i == j) := by
  rw [Bool.eq_iff_iff]
  simp
theorem dec_bl {i j : Bool} : decide (V.bl i = V.bl j) = (i == j) := by
  rw [Bool.eq_iff_iff]
  simp
theorem dec_str {i j : Str} : decide (V.str i = V.str j) = (i == j) := by
  rw [Bool.eq_iff_iff]
  simp
theorem dec_byt {i j : Array UInt8} : decide (V.byt i = V.byt j) = (i.toList == j.toList) := by
  rw [Bool.eq_iff_iff]
  cases i
  cases j
  simp
section
variable {X : Cx} {a b c : Expr} {ta tb tc : TE} {pos : Pos}
theorem fin_bl {pins : List (Addr × Obj)} {σ : St} {H : Hp} {s : Shared} {Q : VK} {k k' : Bool} (I : Inv X pins σ H s) (q : Q (.bl k) H) (e : k = k') : EP X pins σ Q (.bool k') s := by
  subst e
  exact ⟨.bl k, H, I, rfl, q⟩
theorem op_eq : OpR X (compareOp .Eq) rEq := by
  intro pins s σ H x y v u Q I rx ry h
  obtain ⟨hs, q⟩ := h
  cases x with
  | non =>
    cases rx
    cases y with
    | non => cases ry; exact PySem.EqNone.eq_none_none (fin_bl I q (by simp))
    | bl j => cases ry; exact PySem.EqNone.eq_none_bool (fin_bl I q (by simp))
    | int j => obtain ⟨t', rfl⟩ := ry; exact PySem.EqNone.eq_none_int (fin_bl I q (by simp))
    | str j => obtain ⟨t', rfl⟩ := ry; exact PySem.EqNone.eq_none_str (fin_bl I q (by simp))
    | _ => exact absurd (show false = true from hs) Bool.false_ne_true
  | bl i =>
    cases rx
    cases y with
    | non => cases ry; exact PySem.EqNone.eq_bool_none (fin_bl I q (by simp))
    | bl j => cases ry; exact eq_bool (fin_bl I q dec_bl)
    | str j => obtain ⟨t', rfl⟩ := ry; exact PySem.EqMixed.eq_bool_str (fin_bl I q (by simp))
    | _ => exact absurd (show false = true from hs) Bool.false_ne_true
  | int i =>
    obtain ⟨t, rfl⟩ := rx
    cases y with
    | non => cases ry; exact PySem.EqNone.eq_int_none (fin_bl I q (by simp))
    | int j => obtain ⟨t', rfl⟩ := ry; exact eq_int (fin_bl I q dec_int)
    | str j => obtain ⟨t', rfl⟩ := ry; exact PySem.EqMixed.eq_int_str (fin_bl I q (by simp))
    | _ => exact absurd (show false = true from hs) Bool.false_ne_true
  | str i =>
    obtain ⟨t, rfl⟩ := rx
    cases y with
    | non => cases ry; exact PySem.EqNone.eq_str_none (fin_bl I q (by simp))
    | bl j => cases ry; exact PySem.EqMixed.eq_str_bool (fin_bl I q (by simp))
    | int j => obtain ⟨t', rfl⟩ := ry; exact PySem.EqMixed.eq_str_int (fin_bl I q (by simp))
    | str j => obtain ⟨t', rfl⟩ := ry; exact eq_str (fin_bl I q dec_str)
    | _ => exact absurd (show false = true from hs) Bool.false_ne_true
  | byt i =>
    obtain ⟨t, rfl⟩ := rx
    cases y with
    | byt j => obtain ⟨t', rfl⟩ := ry; exact PySem.W.eq_bytes (fin_bl I q dec_byt)
    | _ => exact absurd (show false = true from hs) Bool.false_ne_true
  | _ => cases y <;> exact absurd (show false = true from hs) Bool.false_ne_true
theorem op_ne : OpR X (compareOp .NotEq) rNe := by
  intro pins s σ H x y v u Q I rx ry h
  obtain ⟨hs, q⟩ := h
  cases x with
  | non =>
    cases rx
    cases y with
    | non => cases ry; exact PySem.EqNone.ne_none_none (fin_bl I q (by simp))
    | bl j => cases ry; exact PySem.EqNone.ne_none_bool (fin_bl I q (by simp))
    | int j => obtain ⟨t', rfl⟩ := ry; exact PySem.EqNone.ne_none_int (fin_bl I q (by simp))
    | str j => obtain ⟨t', rfl⟩ := ry; exact PySem.EqNone.ne_none_str (fin_bl I q (by simp))
    | _ => exact absurd (show false = true from hs) Bool.false_ne_true
  | bl i =>
    cases rx
    cases y with
    | non => cases ry; exact PySem.EqNone.ne_bool_none (fin_bl I q (by simp))
    | bl j => cases ry; exact ne_bool (fin_bl I q (congrArg not dec_bl))
    | str j => obtain ⟨t', rfl⟩ := ry; exact PySem.EqMixed.ne_bool_str (fin_bl I q (by simp))
    | _ => exact absurd (show false = true from hs) Bool.false_ne_true
  | int i =>
    obtain ⟨t, rfl⟩ := rx
    cases y with
    | non => cases ry; exact PySem.EqNone.ne_int_none (fin_bl I q (by simp))
    | int j => obtain ⟨t', rfl⟩ := ry; exact ne_int (fin_bl I q (congrArg not dec_int))
    | str j => obtain ⟨t', rfl⟩ := ry; exact PySem.EqMixed.ne_int_str (fin_bl I q (by simp))
    | _ => exact absurd (show false = true from hs) Bool.false_ne_true
  | str i =>
    obtain ⟨t, rfl⟩ := rx
    cases y with
    | non => cases ry; exact PySem.EqNone.ne_str_none (fin_bl I q (by simp))
    | bl j => cases ry; exact PySem.EqMixed.ne_str_bool (fin_bl I q (by simp))
    | int j => obtain ⟨t', rfl⟩ := ry; exact PySem.EqMixed.ne_str_int (fin_bl I q (by simp))
    | str j => obtain ⟨t', rfl⟩ := ry; exact ne_str (fin_bl I q (congrArg not dec_str))
    | _ => exact absurd (show false = true from hs) Bool.false_ne_true
  | byt i =>
    obtain ⟨t, rfl⟩ := rx
    cases y with
    | byt j => obtain ⟨t', rfl⟩ := ry; exact PySem.W.ne_bytes (fin_bl I q (congrArg not dec_byt))
    | _ => exact absurd (show false = true from hs) Bool.false_ne_true
  | _ => cases y <;> exact absurd (show false = true from hs) Bool.false_ne_true
theorem op_lt : OpR X (compareOp .Lt) (rI0 fun i j => .bl (decide (i < j))) := opB0 fun _ _ _ _ _ _ _ q => lt_int q
theorem op_le : OpR X (compareOp .LtE) (rI0 fun i j => .bl (decide (i ≤ j))) := opB0 fun _ _ _ _ _ _ _ q => le_int q
theorem op_gt : OpR X (compareOp .Gt) (rI0 fun i j => .bl (decide (j < i))) := opB0 fun _ _ _ _ _ _ _ q => gt_int q
theorem op_notN : OpR X (compareOp .IsNot) (fun x y H Q => y = .non ∧ Q (.bl (!decide (x = .non))) H) := by
  intro pins s σ H x y v u Q I rx ry h
  obtain ⟨rfl, q⟩ := h
  cases ry
  refine isnot_none_gen (fin_bl I q ?_)
  cases x <;> first
    | (cases rx; rfl)
    | (obtain ⟨t, rfl⟩ := rx; rfl)
theorem nomark (b : Expr) {op : CmpOp} (h : op ≠ .In := by decide) (h2 : op ≠ .NotIn := by decide) : behindInMarks op b = false := by
  have e1 : (op == CmpOp.In) = false := by cases op <;> first | rfl | exact absurd rfl h
  have e2 : (op == CmpOp.NotIn) = false := by cases op <;> first | rfl | exact absurd rfl h2
  cases b <;> simp [behindInMarks, e1, e2]
theorem pe_cmpR {op : CmpOp} {r : R2} (ho : OpR X (compareOp op) r) (ha : PE X a ta) (hb : PE X b tb) (hm : behindInMarks op b = false) : PE X (.Compare a [op] [b] pos) (tOp r ta tb) := by
  intro pins s σ H Q I h
  exact wpAny_Compare1 (binT ha hb I h fun v u s2 x y H2 I2 rx ry q => ho pins s2 σ H2 x y v u Q I2 rx ry q) hm
def tTest (t : TE) : TT := fun σ H Q => t σ H fun x H' => ∃ k, x = .bl k ∧ Q k H'
theorem pt_cmpR {op : CmpOp} {r : R2} (ho : OpR X (compareOp op) r) (ha : PE X a ta) (hb : PE X b tb) (hm : behindInMarks op b = false) : PT X (.Compare a [op] [b] pos) (tTest (tOp r ta tb)) := by
  intro pins s σ H Q I h
  refine wpAny_isTrue_Compare1 (thn (ha pins s σ H _ I h) fun v s1 ⟨x, H1, I1, r1, q1⟩ => thn (hb pins s1 σ H1 _ I1 q1) fun u s2 ⟨y, H2, I2, r2, q2⟩ =>
    thn (ho pins s2 σ H2 x y v u _ I2 r1 r2 q2) fun c s3 ⟨z, H3, I3, r3, k, e, q3⟩ => ?_) hm
  subst e
  cases r3
  exact wpAny_truthy_bool ⟨H3, I3, q3⟩
def tChain (r r' : R2) (ta tb tc : TE) : TE := fun σ H Q => ta σ H fun x H1 => tb σ H1 fun y H2 => r x y H2 fun z H3 => ∃ k, z = .bl k ∧
  (if k = true then tc σ H3 fun w' H4 => r' y w' H4 Q else Q (.bl false) H3)
theorem pe_chain {op op' : CmpOp} {r r' : R2} (ho : OpR X (compareOp op) r) (ho' : OpR X (compareOp op') r') (ha : PE X a ta) (hb : PE X b tb) (hc : PE X c tc)
    (hm : lastMarks [op, op'] [b, c] = false := by with_unfolding_all rfl) : PE X (.Compare a [op, op'] [b, c] pos) (tChain r r' ta tb tc) := by
  intro pins s σ H Q I h
  refine Compare_chain (thn (ha pins s σ H _ I h) fun v s1 ⟨x, H1, I1, r1, q1⟩ => chain_link (thn (hb pins s1 σ H1 _ I1 q1) fun u s2 ⟨y, H2, I2, r2, q2⟩ =>
    thn (ho pins s2 σ H2 x y v u _ I2 r1 r2 q2) fun d s3 ⟨z, H3, I3, r3, k, e, q3⟩ => ?_)) hm
  subst e
  cases r3
  refine wpAny_truthy_bool ?_
  cases k with
  | false => exact ite_ff ⟨.bl false, H3, I3, rfl, q3⟩
  | true => exact ite_tt (chain_last (thn (hc pins s3 σ H3 _ I3 q3) fun w' s4 ⟨z', H4, I4, r4, q4⟩ => ho' pins s4 σ H4 y z' u w' Q I4 r2 r4 q4))
theorem pt_chain {op op' : CmpOp} {r r' : R2} (ho : OpR X (compareOp op) r) (ho' : OpR X (compareOp op') r') (ha : PE X a ta) (hb : PE X b tb) (hc : PE X c tc)
    (hm : lastMarks [op, op'] [b, c] = false := by with_unfolding_all rfl) : PT X (.Compare a [op, op'] [b, c] pos) (tTest (tChain r r' ta tb tc)) := by
  intro pins s σ H Q I h
  refine isTrue_chain (thn (ha pins s σ H _ I h) fun v s1 ⟨x, H1, I1, r1, q1⟩ => test_link (thn (hb pins s1 σ H1 _ I1 q1) fun u s2 ⟨y, H2, I2, r2, q2⟩ =>
    thn (ho pins s2 σ H2 x y v u _ I2 r1 r2 q2) fun d s3 ⟨z, H3, I3, r3, k, e, q3⟩ => ?_)) hm
  subst e
  cases r3
  refine wpAny_truthy_bool ?_
  cases k with
  | false =>
    obtain ⟨k', e', q'⟩ := q3
    cases e'
    exact ite_ff ⟨H3, I3, q'⟩
  | true =>
    refine ite_tt (test_last (thn (hc pins s3 σ H3 _ I3 q3) fun w' s4 ⟨z', H4, I4, r4, q4⟩ => thn (ho' pins s4 σ H4 y z' u w' _ I4 r2 r4 q4) fun d' s5 ⟨z2, H5, I5, r5, k2, e2, q5⟩ => ?_))
    subst e2
    cases r5
    exact wpAny_truthy_bool ⟨H5, I5, q5⟩
def TruV (K : Frag) (x : V) (H : Hp) (k : Bool) : Prop :=
  match x with
  | .non => k = false
  | .bl b => k = b
  | .int i => k = (i != 0)
  | .str y => y.length ≤ sizeLine ∧ k = ((y.length : Int) != 0)
  | .byt y => y.size ≤ sizeLine ∧ k = ((y.size : Int) != 0)
  | .ref p => (∃ xs, SqL K H p xs ∧ k = !xs.isEmpty) ∨ (∃ xs, SqT K H p xs ∧ k = !xs.isEmpty) ∨ ∃ kvs, H p = some (.dK kvs) ∧ k = !kvs.isEmpty
  | _ => False
theorem isEmpty_kv {κ : Type} {kvs : List (κ × V)} {vs : List (κ × Value)} (r : KV kvs vs) : (!vs.isEmpty) = !kvs.isEmpty := by
  cases r <;> rfl
theorem isEmpty_of {xs : List V} {its : List Value} (r : Vals xs its) : (!its.toArray.isEmpty) = !xs.isEmpty := by
  cases r <;> simp
theorem line63 : (sizeLine : Nat) < 2 ^ 63 := by rw [sizeLine_eq]; decide
theorem tru_ok : TruR X (fun x H Q => ∃ k, TruV X.K x H k ∧ Q k H) := by
  intro pins s σ H x v Q I rx h
  obtain ⟨k, e, q⟩ := h
  have hl := line63
  have hs : sizeLine = 16777216 := sizeLine_eq
  cases x with
  | non =>
    cases rx
    have e' : k = false := e
    subst e'
    exact truthy_none ⟨H, I, q⟩
  | bl b =>
    cases rx
    have e' : k = b := e
    subst e'
    exact wpAny_truthy_bool ⟨H, I, q⟩
  | int i =>
    obtain ⟨t, rfl⟩ := rx
    have e' : k = (i != 0) := e
    subst e'
    exact PySem.P.truthy_int ⟨H, I, q⟩
  | str y =>
    obtain ⟨t, rfl⟩ := rx
    obtain ⟨hy, e'⟩ : y.length ≤ sizeLine ∧ k = ((y.length : Int) != 0) := e
    subst e'
    exact PySem.P.truthy_str (by omega) ⟨H, I.tok _, q⟩
  | byt y =>
    obtain ⟨t, rfl⟩ := rx
    obtain ⟨hy, e'⟩ : y.size ≤ sizeLine ∧ k = ((y.size : Int) != 0) := e
    subst e'
    exact PySem.W.truthy_bytes (by omega) ⟨H, I.tok _, q⟩
  | ref p =>
    cases rx
    have e' : (∃ xs, SqL X.K H p xs ∧ k = !xs.isEmpty) ∨ (∃ xs, SqT X.K H p xs ∧ k = !xs.isEmpty) ∨ ∃ kvs, H p = some (.dK kvs) ∧ k = !kvs.isEmpty := e
    rcases e' with ⟨xs, hx, e'⟩ | ⟨xs, hx, e'⟩ | ⟨kvs, hx, e'⟩
    · subst e'
      obtain ⟨its, r, pl, hz⟩ := I.list hx
      have hlen := r.length
      exact wpAny_truthy_list pl.isList (by simp only [List.size_toArray]; omega) ⟨H, I.tok _, by rw [isEmpty_of r]; exact q⟩
    · subst e'
      obtain ⟨its, r, pl, hz⟩ := I.tuple hx
      have hlen := r.length
      exact truthy_tuple pl (by simp only [List.size_toArray]; omega) ⟨H, I.tok _, by rw [isEmpty_of r]; exact q⟩
    · subst e'
      obtain ⟨hz, hS, vs, r, m⟩ : kvs.length ≤ sizeLine ∧ (p == sysModules) = false ∧ ∃ vs, KV kvs vs ∧ s.heap.DictOf (mixKind X.prog X.w) p vs := I.hok p _ hx
      have hlen : kvs.length = vs.length := Paired.length r
      exact wpAny_truthy_dict hS m (by omega) ⟨H, I.tok _, by rw [isEmpty_kv r]; exact q⟩
  | _ => exact (show False from e).elim
theorem pt_truth (ha : PE X a ta) (he : ∀ whole, isTrue a X.env whole = (do let v ← whole; standAt a.pos; holding [v] (truthy v))) :
    PT X a (fun σ H Q => ta σ H fun x H' => ∃ k, TruV X.K x H' k ∧ Q k H') := by
  intro pins s σ H Q I h
  exact isTrue_plain (thn (ha pins s σ H _ I h) fun v s1 ⟨x, H1, I1, r1, q1⟩ => tru_ok pins s1 σ H1 x v Q I1 r1 q1) (he _)
theorem vals1 {x : V} {us : List Value} (r : Vals [x] us) : ∃ u, us = [u] ∧ RelV x u := by
  cases r with
  | cons r1 r2 => cases r2; exact ⟨_, rfl, r1⟩
theorem vals2 {x y : V} {us : List Value} (r : Vals [x, y] us) : ∃ u w', us = [u, w'] ∧ RelV x u ∧ RelV y w' := by
  cases r with
  | cons r1 r2 =>
    cases r2 with
    | cons r3 r4 => cases r4; exact ⟨_, _, rfl, r1, r3⟩
end
end L2
namespace L2
open PySem PySem.Spec PyProof.Rows
structure ObjM (h : Heap) (x dx C : Addr) (mA : Str → Option Value) : Prop where
  obj : h.get? x = some (PySem.W.instObj C dx)
  ns : h.Ns1 dx mA
  ne : dx ≠ x
theorem lookIn_ns {h : Heap} {dx : Addr} {mA : Str → Option Value} (n : h.Ns1 dx mA) : ∃ od, h.get? dx = some od ∧ ∀ name, PySem.W.lookIn name od = some (mA name) := by
  obtain ⟨o, es, ep, ho, hd, hk, _, hm⟩ := n
  refine ⟨o, ho, fun name => ?_⟩
  have e := hm name
  unfold nsFind findBy at e
  rw [← Array.find?_toList] at e
  unfold PySem.W.lookIn
  rw [hd]
  dsimp only
  split
  · rename_i y q
    rw [q] at e
    exact congrArg some e
  · rename_i q
    rw [q] at e
    have a : es.toList.any (·.refKey) = false := by
      rw [List.any_eq_false]
      intro y hy
      obtain ⟨z, t, hkey⟩ := hk y (Array.mem_toList_iff.mp hy)
      simp [DictEntry.refKey, hkey]
    have a' : ¬ es.toList.any (·.refKey) = true := by rw [a]; exact Bool.false_ne_true
    rw [if_neg a']
    exact congrArg some e
theorem ObjM.look {h : Heap} {x dx C : Addr} {mA : Str → Option Value} (I : ObjM h x dx C mA) : ∃ od, PySem.W.InstAt h x (PySem.W.instObj C dx) C (some od) ∧ ∀ name, PySem.W.lookIn name od = some (mA name) :=
  let ⟨od, ho, hl⟩ := lookIn_ns I.ns
  ⟨od, ⟨I.obj, rfl, rfl, ho⟩, hl⟩
section
variable {prog : Program} {w : World} {A : Around} {E : Value → Shared → Prop} {s : Shared} {K : Frag} {x dx C f : Addr} {mA : Str → Option Value} {name : Str} {v : Value}
theorem get_map {expr : Bool} {Q : Value → Shared → Prop} (X : K.In s.heap) (I : ObjM s.heap x dx C mA) (hg : PySem.W.plainGet K C name = true) (hh : PySem.W.hasDictIn K C = true)
    (ha : findIn K (.ref C) name = some none) (hv : mA name = some v) (hv' : PySem.W.handedIn v = true) (h : Q v { s with toks := s.toks + 1 }) :
    wpAny (model prog w) A (getAttr (.ref x) name expr) Q E s := by
  obtain ⟨od, J, hl⟩ := I.look
  exact PySem.W.get_value X J (PySem.W.plainGet_of hg).1 (PySem.W.findObj_own hh ha rfl (by rw [hl, hv])) hv' h
theorem get_meth {pl : Sem Bool} {Q : Value × List Value → Shared → Prop} (X : K.In s.heap) (I : ObjM s.heap x dx C mA) (hg : PySem.W.plainGet K C name = true)
    (hf : findIn K (.ref C) name = some (some (.ref f))) (ht : PySem.W.isFn K (.ref f) = true) (hv : mA name = none) (h : Q (.ref f, [.ref x]) s) :
    wpAny (model prog w) A (getMethod (.ref x) name pl) Q E s := by
  obtain ⟨od, J, hl⟩ := I.look
  exact PySem.W.method_fn X J (PySem.W.plainGet_of hg).1 (PySem.W.plainGet_of hg).2 hf (beq_iff_eq.mp ht) (by show (PySem.W.lookIn name od).map (·.isSome) = some false; rw [hl, hv]; rfl) h
theorem set_map {ns : List Str} {Q : Unit → Shared → Prop} (X : K.In s.heap) (I : ObjM s.heap x dx C mA)
    (hs : findIn K (.ref C) "__setattr__" = some (some (.builtin "object.__setattr__"))) (hp : PySem.W.plainOver K C = true) (ht : PySem.W.takerIn K C name = some none) (hh : PySem.W.hasDictIn K C = true)
    (hw : PySem.Within mA ns) (hsz : ns.length ≤ sizeLine)
    (h : ∀ h', ObjM h' x dx C (fun y => if y = name then some v else mA y) → Heap.SameBut dx s.heap h' → Q () { s with heap := h', toks := s.toks + 2 }) :
    wpAny (model prog w) A (setAttr (.ref x) name v) Q E s := by
  obtain ⟨od, J, hl⟩ := I.look
  refine PySem.W.set_plain X J hs (PySem.W.osa_open (s := { s with toks := s.toks + 1 }) (r := none) X J hp ht fun b => ?_)
  obtain ⟨cd, hc, hd'⟩ := PySem.W.any_some hh
  have hx : s.heap.get? x = some ⟨.ref C, some dx, .plain, #[]⟩ := I.obj
  refine wpAny_bind (wpAny_pure (wpAny_bind (wpAny_bind (wpAny_loadPart hx (wpAny_bind (PySem.W.Looks.here (s := { s with toks := s.toks + 1 }) (PySem.W.looks_clsIn X hc) ?_))))))
  rw [hd']
  refine wpAny_pure (a := some dx) (wpAny_bind (wpAny_pure (wpAny_bind ?_)))
  refine wpAny_nsSet1 (s := { s with toks := s.toks + 1 }) I.ns fun h' hn2 hs2 => ?_
  obtain ⟨oD, esD, epD, hoD, hdD, hcD⟩ := hn2.count (PySem.Within.cons name v hw)
  refine wpAny_bind (wpAny_lookBehind hoD (by rw [hdD]; exact pastItsLine_dict (Nat.le_trans hcD (by rw [List.length_cons]; omega))) ?_)
  exact wpAny_pure (h _ ⟨(hs2.2 _ (Ne.symm I.ne)).trans I.obj, hn2, I.ne⟩ hs2)
theorem make_map {R : Result → Shared → Prop} {vs : List Value} {kw : List (Str × Value)} (X : K.In s.heap) (hm : PySem.W.makesIn K C = true)
    (hi : findIn K (.ref C) "__init__" = some (some (.ref f))) (hf : PySem.W.typeIn K (.ref f) = some (.type "function"))
    (h : codeAny (model prog w) (A.under (.builtin "type.__call__" ⟨.ref C :: vs, kw⟩)) (.call (.ref f) ⟨.ref (s.heap.objs.size + 1) :: vs, kw⟩) (PySem.W.InitBack (s.heap.objs.size + 1) R)
      { s with heap := (s.heap.push PySem.W.emptyDict).push (PySem.W.instObj C s.heap.objs.size) }) :
    codeAny (model prog w) A (.call (.ref C) ⟨vs, kw⟩) R s := by
  obtain ⟨hh, g, d, t, os⟩ := s
  exact PySem.W.make_core (PySem.W.makes_of X hm) (PySem.W.looks_findIn X hi) (fun self => PySem.W.bind_fn X self hf) (.inl rfl) h
end
def putF (f : Str) (v : V) : List (Str × V) → List (Str × V)
  | [] => [(f, v)]
  | (g, x) :: r => if g = f then (g, v) :: r else (g, x) :: putF f v r
theorem lookup_putF (f g : Str) (v : V) : ∀ fs : List (Str × V), (putF f v fs).lookup g = if g = f then some v else fs.lookup g
  | [] => by
    show List.lookup g [(f, v)] = _
    by_cases h : g = f
    · have hb : (g == f) = true := beq_iff_eq.mpr h
      simp only [List.lookup, hb, if_pos h]
    · have hb : (g == f) = false := beq_eq_false_iff_ne.mpr h
      simp only [List.lookup, hb, if_neg h]
  | (k, x) :: r => by
    have ih := lookup_putF f g v r
    rw [show putF f v ((k, x) :: r) = (if k = f then (k, v) :: r else (k, x) :: putF f v r) from rfl]
    by_cases hk : k = f
    · rw [if_pos hk]
      by_cases h : g = k
      · have hb : (g == k) = true := beq_iff_eq.mpr h
        simp only [List.lookup, hb, if_pos (h.trans hk)]
      · have hb : (g == k) = false := beq_eq_false_iff_ne.mpr h
        simp only [List.lookup, hb, if_neg (fun e : g = f => h (e.trans hk.symm))]
    · rw [if_neg hk]
      by_cases h : g = k
      · have hb : (g == k) = true := beq_iff_eq.mpr h
        simp only [List.lookup, hb, if_neg (fun e : g = f => hk (h.symm.trans e))]
      · have hb : (g == k) = false := beq_eq_false_iff_ne.mpr h
        simp only [List.lookup, hb]
        exact ih
theorem keys_putF (f : Str) (v : V) : ∀ fs : List (Str × V), f ∈ (putF f v fs).map (·.1) ∧ ∀ g, g ∈ fs.map (·.1) → g ∈ (putF f v fs).map (·.1)
  | [] => ⟨by simp [putF], fun g h => by simp at h⟩
  | (k, x) :: r => by
    obtain ⟨i1, i2⟩ := keys_putF f v r
    rw [show putF f v ((k, x) :: r) = (if k = f then (k, v) :: r else (k, x) :: putF f v r) from rfl]
    by_cases hk : k = f
    · rw [if_pos hk]
      subst hk
      exact ⟨by simp, fun g h => by simpa using h⟩
    · rw [if_neg hk]
      refine ⟨?_, fun g h => ?_⟩
      · rw [List.map_cons]
        exact List.mem_cons_of_mem _ i1
      · rw [List.map_cons] at h ⊢
        rcases List.mem_cons.mp h with e | e
        · exact List.mem_cons.mpr (.inl e)
        · exact List.mem_cons_of_mem _ (i2 g e)
theorem length_putF (f : Str) (v : V) : ∀ fs : List (Str × V), (putF f v fs).length ≤ fs.length + 1
  | [] => by simp [putF]
  | (k, x) :: r => by
    have ih := length_putF f v r
    rw [show putF f v ((k, x) :: r) = (if k = f then (k, v) :: r else (k, x) :: putF f v r) from rfl]
    by_cases hk : k = f
    · rw [if_pos hk, List.length_cons, List.length_cons]; omega
    · rw [if_neg hk, List.length_cons, List.length_cons]; omega
theorem RelO.some_of {v : V} {o : Option Value} (r : RelO (some v) o) : ∃ u, o = some u ∧ RelV v u := by
  cases o with
  | none => exact (show False from r).elim
  | some u => exact ⟨u, rfl, r⟩
theorem RelO.none_of {o : Option Value} (r : RelO none o) : o = none := by
  cases o with
  | none => rfl
  | some u => exact (show False from r).elim
theorem handed_of {v : V} {u : Value} (r : RelV v u) : PySem.W.handedIn u = true := by
  cases v with
  | non => cases (show u = Value.none from r); rfl
  | bl b => cases (show u = Value.bool b from r); rfl
  | int i => obtain ⟨t, e⟩ := (show ∃ t, u = Value.int i t from r); cases e; rfl
  | str x => obtain ⟨t, e⟩ := (show ∃ t, u = Value.str x t from r); cases e; rfl
  | byt b => obtain ⟨t, e⟩ := (show ∃ t, u = Value.bytes b t from r); cases e; rfl
  | flt b => obtain ⟨t, e⟩ := (show ∃ t, u = Value.float b t from r); cases e; rfl
  | ref a => cases (show u = Value.ref a from r); rfl
  | ty n => cases (show u = Value.type n from r); rfl
section
variable {P : Program} {w : World} {H H' : Hp} {h h' : Heap} {a C dx : Addr} {fs fs' : List (Str × V)}
theorem ins_get (hok : HOk P w H h) (e : H a = some (.ins C dx fs)) : ∃ mA, ObjM h a dx C mA ∧ (∀ f, RelO (fs.lookup f) (mA f)) ∧ PySem.Within mA (fs.map (·.1)) ∧ fs.length ≤ 1000 ∧ H dx = some (.own a) := by
  obtain ⟨d, z, ne, ob, mA, n, r, q⟩ := (show ObjOk P w H h a (.ins C dx fs) from hok a _ e)
  exact ⟨mA, ⟨ob, n, ne⟩, r, q, z, d⟩
end
structure Cls (K : Frag) (C : Addr) : Prop where
  pg : PySem.W.plainGet K C Str.empty = true
  hd : PySem.W.hasDictIn K C = true
  po : PySem.W.plainOver K C = true
  sa : findIn K (.ref C) "__setattr__" = some (some (.builtin "object.__setattr__"))
theorem Cls.get {K : Frag} {C : Addr} (c : Cls K C) (f : Str) : PySem.W.plainGet K C f = true := c.pg
def NoAttr (K : Frag) (C : Addr) (f : Str) : Prop := findIn K (.ref C) f = some none
theorem NoAttr.taker {K : Frag} {C : Addr} {f : Str} (n : NoAttr K C f) : PySem.W.takerIn K C f = some none := by
  unfold PySem.W.takerIn
  rw [show findIn K (.ref C) f = some none from n]
  rfl
structure Meth (K : Frag) (C : Addr) (m : Str) (f : Addr) : Prop where
  at_ : findIn K (.ref C) m = some (some (.ref f))
  fn : PySem.W.isFn K (.ref f) = true
  kp : keepIn K (.ref f) = true
section
variable {X : Cx} {pins : List (Addr × Obj)} {σ : St} {H : Hp} {s : Shared} {a C dx : Addr} {fs : List (Str × V)} {f : Str} {v : V} {A : Around} {E : Value → Shared → Prop}
theorem getattr_ok {b : Bool} {Q : Value → Shared → Prop} (I : Inv X pins σ H s) (e : H a = some (.ins C dx fs)) (c : Cls X.K C) (n : NoAttr X.K C f) (l : fs.lookup f = some v)
    (h : ∀ u s', Inv X pins σ H s' → RelV v u → Q u s') : wpAny (model X.prog X.w) A (getAttr (.ref a) f b) Q E s := by
  obtain ⟨mA, O, r, _, _, _⟩ := ins_get I.hok e
  obtain ⟨u, hu, ru⟩ := RelO.some_of (v := v) (o := mA f) (by rw [← l]; exact r f)
  exact get_map I.kIn O (c.get f) c.hd n hu (handed_of ru) (h u _ (I.tok _) ru)
theorem getmeth_ok {m : Str} {g : Addr} {pl : Sem Bool} {Q : Value × List Value → Shared → Prop} (I : Inv X pins σ H s) (e : H a = some (.ins C dx fs)) (c : Cls X.K C) (k : Meth X.K C m g) (l : fs.lookup m = none)
    (h : Q (.ref g, [.ref a]) s) : wpAny (model X.prog X.w) A (getMethod (.ref a) m pl) Q E s := by
  obtain ⟨mA, O, r, _, _, _⟩ := ins_get I.hok e
  have hn : mA m = none := RelO.none_of (by rw [← l]; exact r m)
  exact get_meth I.kIn O (c.get m) k.at_ k.fn hn h
theorem setattr_ok {y : V} {u : Value} {Q : Unit → Shared → Prop} (I : Inv X pins σ H s) (e : H a = some (.ins C dx fs)) (c : Cls X.K C) (n : NoAttr X.K C f) (hl : fs.length < 1000) (ry : RelV y u)
    (h : ∀ s', Inv X pins σ (upd H a (.ins C dx (putF f y fs))) s' → Q () s') : wpAny (model X.prog X.w) A (setAttr (.ref a) f u) Q E s := by
  obtain ⟨mA, O, r, wi, _, ho⟩ := ins_get I.hok e
  have hz : (fs.map (·.1)).length ≤ sizeLine := by rw [List.length_map, sizeLine_eq]; omega
  refine set_map I.kIn O c.sa c.po n.taker c.hd wi hz fun h' O' sb => h _ ?_
  have hd : ∃ o, h'.get? dx = some o := let ⟨o, _, _, e', _⟩ := O'.ns; ⟨o, e'⟩
  refine I.write (x := a) (e := dx) (by rw [e]; exact True.intro) (.inr ho) (fun b q hb z => (sb.2 b hb).trans z) hd ?_
  refine ⟨by rw [upd_ne O.ne]; exact ho, ?_, O.ne, O'.obj, _, O'.ns, fun g => ?_, fun g hg => ?_⟩
  · have := length_putF f y fs; omega
  · show RelO ((putF f y fs).lookup g) (if g = f then some u else mA g)
    rw [lookup_putF]
    by_cases q : g = f
    · rw [if_pos q, if_pos q]; exact ry
    · rw [if_neg q, if_neg q]; exact r g
  · by_cases q : g = f
    · rw [q]; exact (keys_putF f y fs).1
    · refine (keys_putF f y fs).2 g (wi g fun z => hg ?_)
      show (if g = f then some u else mA g) = none
      rw [if_neg q]; exact z
theorem Inv.made (I : Inv X pins σ H s) : Inv X pins σ (upd (upd H s.heap.objs.size (.own (s.heap.objs.size + 1))) (s.heap.objs.size + 1) (.ins C s.heap.objs.size []))
    { s with heap := (s.heap.push PySem.W.emptyDict).push (PySem.W.instObj C s.heap.objs.size) } := by
  have e1 : (s.heap.push PySem.W.emptyDict).get? s.heap.objs.size = some PySem.W.emptyDict := Heap.get?_push_size s.heap rfl
  have e2 : ((s.heap.push PySem.W.emptyDict).push (PySem.W.instObj C s.heap.objs.size)).get? (s.heap.objs.size + 1) = some (PySem.W.instObj C s.heap.objs.size) := by
    have := Heap.get?_push_size (s.heap.push PySem.W.emptyDict) (o := PySem.W.instObj C s.heap.objs.size) rfl
    rwa [Heap.size_push] at this
  have e3 : (s.heap.push PySem.W.emptyDict).Ns s.heap.objs.size (fun _ => none) := ⟨PySem.W.emptyDict, #[], _, e1, rfl, (fun e he => absurd he (by simp)), fun _ => rfl⟩
  have I1 := I.laid (a := s.heap.objs.size) (o := .own (s.heap.objs.size + 1)) (h' := s.heap.push PySem.W.emptyDict) (t' := s.toks) (fun b u q => Heap.get?_push_of_some _ q) (Nat.le_refl _) ⟨_, e1⟩
  refine I1.laid (a := s.heap.objs.size + 1) (o := .ins C s.heap.objs.size []) (t' := s.toks) (fun b u q => Heap.get?_push_of_some _ q) (Nat.le_of_eq (Heap.size_push _ _)) ?_
  have ne : s.heap.objs.size ≠ s.heap.objs.size + 1 := Nat.ne_of_lt (Nat.lt_succ_self _)
  refine ⟨by rw [upd_ne ne, upd_same], Nat.zero_le _, ne, e2, fun _ => none, (Heap.Ns1.of_empty e3).at fun o q => Heap.get?_push_of_some _ q, fun _ => True.intro, fun y hy => absurd rfl hy⟩
theorem attr_of {prog : Program} {w : World} {env : Env} {e : Expr} {f : Str} {pos : Pos} {s : Shared} {Q : Value → Shared → Prop} (hb : attributeBase e f env (eval e env) = eval e env)
    (h : wpAny (model prog w) A (eval e env) (fun o s₁ => wpAny (model prog w) A (getAttr o f true) Q E s₁) E s) : wpAny (model prog w) A (eval (.Attribute e f pos) env) Q E s :=
  Attribute_any_ h (by rw [arm_eval_Attribute, hb])
end
def tFld (K : Frag) (ta : TE) (f : Str) : TE := fun σ H Q => ta σ H fun x H1 => ∃ a C dx fs v, x = .ref a ∧ H1 a = some (.ins C dx fs) ∧ Cls K C ∧ NoAttr K C f ∧ fs.lookup f = some v ∧ Q v H1
def sFld (K : Frag) (ta tv : TE) (f : Str) : TS := fun D σ H => tv σ H fun y H1 => ta σ H1 fun x H2 => ∃ a C dx fs, x = .ref a ∧ H2 a = some (.ins C dx fs) ∧ Cls K C ∧ NoAttr K C f ∧ fs.length < 1000 ∧
  D.nx σ (upd H2 a (.ins C dx (putF f y fs)))
def InOp (X : Cx) (op : Operator) (rd : V → V → Hp → VK → Prop) : Prop :=
  ∀ (pins : List (Addr × Obj)) (s : Shared) (σ : St) (H : Hp) (x y : V) (u v : Value) (Q : VK), Inv X pins σ H s → RelV x u → RelV y v → rd x y H Q → wpAny (model X.prog X.w) X.A (inplaceOp op u v) (EP X pins σ Q) X.xe s
def sFldAug (K : Frag) (ta tv : TE) (rd : V → V → Hp → VK → Prop) (f : Str) : TS := fun D σ H => ta σ H fun x H1 => ∃ a C dx fs v, x = .ref a ∧ H1 a = some (.ins C dx fs) ∧ Cls K C ∧ NoAttr K C f ∧ fs.lookup f = some v ∧
  tv σ H1 fun y H2 => rd v y H2 fun z H3 => ∃ dx' fs', H3 a = some (.ins C dx' fs') ∧ fs'.length < 1000 ∧ D.nx σ (upd H3 a (.ins C dx' (putF f z fs')))
section
variable {X : Cx} {o e value : Expr} {f : Str} {pos pos' tpos : Pos} {ta tv : TE}
theorem pe_fld (he : PE X e ta) (hb : attributeBase e f X.env (eval e X.env) = eval e X.env) : PE X (.Attribute e f pos) (tFld X.K ta f) := by
  intro pins s σ H Q I h
  refine attr_of hb (thn (he pins s σ H _ I h) fun u s1 ⟨x, H1, I1, rx, a, C, dx, fs, v, ex, ea, c, n, l, q⟩ => ?_)
  subst ex
  obtain rfl : u = Value.ref a := rx
  exact getattr_ok I1 ea c n l fun u' s2 I2 ru => ⟨v, H1, I2, ru, q⟩
theorem ps_fld (ha : PE X o ta) (hv : PE X value tv) (hs : swapsWith value (some (.Attribute o f pos')) pos.line X.env = pure false) : PS X (.Assign [.Attribute o f pos'] value pos) (sFld X.K ta tv f) := by
  intro pins s σ H D I h
  refine plainObj_wpAny_Assign_Attribute (thn (hv pins s σ H _ I h) fun u s1 ⟨y, H1, I1, ry, q⟩ => thn (ha pins s1 σ H1 _ I1 q) fun ov s2 ⟨x, H2, I2, rx, a, C, dx, fs, ex, ea, c, n, l, q2⟩ => ?_) hs
  subst ex
  obtain rfl : ov = Value.ref a := rx
  exact setattr_ok I2 ea c n l ry fun s3 I3 => ⟨σ, _, I3, q2⟩
theorem ps_fldaug {op : Operator} {rd : V → V → Hp → VK → Prop} (ha : PE X o ta) (hv : PE X value tv) (hop : InOp X op rd) : PS X (.AugAssign (.Attribute o f tpos) op value pos) (sFldAug X.K ta tv rd f) := by
  intro pins s σ H D I h
  refine wpAny_AugAssign_AttributeAny (thn (ha pins s σ H _ I h) fun ov s1 ⟨x, H1, I1, rx, a, C, dx, fs, v, ex, ea, c, n, l, q⟩ => ?_)
  subst ex
  obtain rfl : ov = Value.ref a := rx
  refine getattr_ok I1 ea c n l fun u s2 I2 ru => thn (hv pins s2 σ H1 _ I2 q) fun w3 s3 ⟨y, H2, I3, ry, q3⟩ => thn (hop pins s3 σ H2 v y u w3 _ I3 ru ry q3) fun w4 s4 ⟨z, H3, I4, rz, dx', fs', ea', l', q4⟩ => ?_
  exact setattr_ok I4 ea' c n l' rz fun s5 I5 => ⟨σ, _, I5, q4⟩
end
section
variable {X : Cx} {pins : List (Addr × Obj)} {σ : St} {H : Hp} {s : Shared} {A : Around} {E : Value → Shared → Prop} {Q : Value → Shared → Prop} {c : Value} {b : Bool}
end
end L2
namespace L2
open PySem PySem.Spec PyProof.Rows
structure Room (k : Nat) (A : Around) : Prop where
  hd : A.handled = none
  dp : A.depth + 3 * k + 5 < recursionLimit
  un : A.units + 16 * k + 200 < cLine
theorem Room.mono {j k : Nat} {A : Around} (r : Room k A) (h : j ≤ k) : Room j A := ⟨r.hd, by have := r.dp; omega, by have := r.un; omega⟩
theorem Room.deeper {k : Nat} {A : Around} (r : Room (k + 1) A) (env : Env) : Room k (A.deeper env) :=
  ⟨r.hd, by have := r.dp; show A.depth + 1 + 3 * k + 5 < _; omega, by have := r.un; show A.units + 3 + 16 * k + 200 < _; omega⟩
theorem Room.in1 {k : Nat} {A : Around} (r : Room (k + 1) A) : Room k A.in1 :=
  ⟨r.hd, by have := r.dp; show A.depth + 3 * k + 5 < _; omega, by have := r.un; show A.units + 1 + 16 * k + 200 < _; omega⟩
theorem make_depth {A : Around} {C : Addr} {us : List Value} {kw : List (Str × Value)} : (A.under (.builtin "type.__call__" ⟨.ref C :: us, kw⟩)).depth = A.depth + 1 := by
  first | rfl | simp [Around.under, Code.weight, Code.isCreation, Code.isGuard, Code.isCaller, Code.frames, Code.isFrame, guardIds]
theorem make_units {A : Around} {C : Addr} {us : List Value} {kw : List (Str × Value)} : (A.under (.builtin "type.__call__" ⟨.ref C :: us, kw⟩)).units = A.units + 1 := by
  first | rfl | simp [Around.under, Code.cUnits, Code.frames, Code.isFrame]
theorem Room.make {k : Nat} {A : Around} (r : Room (k + 1) A) (C : Addr) (us : List Value) (kw : List (Str × Value)) : Room k (A.under (.builtin "type.__call__" ⟨.ref C :: us, kw⟩)) :=
  ⟨r.hd, by have := r.dp; rw [make_depth]; omega, by have := r.un; rw [make_units]; omega⟩
theorem Room.depth {k : Nat} {A : Around} (r : Room k A) : A.depth < recursionLimit := by have := r.dp; omega
theorem Room.units {k : Nat} {A : Around} (r : Room k A) : A.units + 64 < cLine := by have := r.un; omega
def tNil : TA := fun _ H Q => Q [] H
def tCons (ta : TE) (tr : TA) : TA := fun σ H Q => ta σ H fun x H1 => tr σ H1 fun xs H2 => Q (x :: xs) H2
section
variable {X : Cx} {e : Expr} {es : List Expr} {te : TE} {t : TA} {pos : Pos}
theorem pa_nil : PA X [] tNil := fun _ _ _ _ H Q I h => Calls.spliced_nil ⟨[], H, I, .nil, h⟩
theorem pa_cons (ha : PE X e te) (hr : PA X es t) (hs : starEach (e :: es) X.env = (false, eval e X.env) :: starEach es X.env := by rfl) : PA X (e :: es) (tCons te t) := by
  intro pos pins s σ H Q I h
  rw [hs]
  show wpAny _ _ (spliced ((false, eval e X.env) :: backTo pos (starEach es X.env))) _ _ s
  refine Calls.spliced_cons (thn (ha pins s σ H _ I h) fun u s1 ⟨x, H1, I1, r1, q1⟩ => ?_)
  exact thn (hr pos pins s1 σ H1 _ I1 q1) fun us s2 ⟨xs, H2, I2, r2, q2⟩ => ⟨x :: xs, H2, I2, .cons r1 r2, q2⟩
def tTup (t : TA) : TE := fun σ H Q => t σ H fun xs H1 => xs.length ≤ sizeLine ∧ ∀ p, H1 p = none → Q (.ref p) (upd H1 p (.tup xs))
def tLst (t : TA) : TE := fun σ H Q => t σ H fun xs H1 => xs.length ≤ sizeLine ∧ ∀ p, H1 p = none → Q (.ref p) (upd H1 p (.lst xs))
theorem pe_tup {x1} (h : PA X es t) : PE X (.Tuple es x1 pos) (tTup t) := by
  intro pins s σ H Q I hq
  refine wpAny_Tuple_spliced (thn (h pos pins s σ H _ I hq) fun us s1 ⟨xs, H1, I1, r, z, q⟩ => ⟨by rw [← r.length]; exact z, ?_⟩)
  have hf : H1 s1.heap.objs.size = none := I1.hok.fresh (Nat.le_refl _)
  refine ⟨.ref s1.heap.objs.size, upd H1 s1.heap.objs.size (.tup xs), I1.laid (t' := s1.toks) (fun b u e => Heap.get?_push_of_some _ e) (Nat.le_refl _) ?_, rfl, q _ hf⟩
  exact ⟨z, us, r, ⟨_, Heap.get?_push_size _ rfl, rfl, _, rfl⟩⟩
theorem pe_lst (h : PA X es t) : PE X (.List es pos) (tLst t) := by
  intro pins s σ H Q I hq
  refine wpAny_List_spliced (thn (h pos pins s σ H _ I hq) fun us s1 ⟨xs, H1, I1, r, z, q⟩ => ⟨by rw [← r.length]; exact z, ?_⟩)
  have hf : H1 s1.heap.objs.size = none := I1.hok.fresh (Nat.le_refl _)
  refine ⟨.ref s1.heap.objs.size, upd H1 s1.heap.objs.size (.lst xs), I1.laid (t' := s1.toks) (fun b u e => Heap.get?_push_of_some _ e) (Nat.le_refl _) ?_, rfl, q _ hf⟩
  exact ⟨z, us, 0, r, Heap.get?_push_size _ rfl⟩
end
abbrev Sp := List V → Hp → VK → XK → Prop
abbrev CXT := List Env → Hp → Shared → XK → Value → Shared → Prop
structure Env0 (P : Program) (w : World) (K : Frag) (mg : Str → Option Value) (base : Heap) (A : Around) (outer : List Env) (s : Shared) (H : Hp) : Prop where
  frames : A.frames = some outer
  mod : Mod K mg base
  bs : ∀ b o, base.get? b = some o → s.heap.get? b = some o ∧ H b = none
  bsz : base.objs.size ≤ s.heap.objs.size
  funs : s.heap.FunFrames base outer
  frf : ∀ b ∈ frs outer, H b = none
  hok : HOk P w H s.heap
  bare : AllBare s.gens
def CE (outer : List Env) (P : Program) (w : World) (H : Hp) (s : Shared) (Q : VK) (u : Value) (s' : Shared) : Prop :=
  ∃ v H', s'.os = s.os ∧ AllBare s'.gens ∧ Un (frs outer) [] H H' s.heap s'.heap ∧ HOk P w H' s'.heap ∧ RelV v u ∧ Q v H'
def CR (CX : CXT) (outer : List Env) (P : Program) (w : World) (H : Hp) (s : Shared) (Q : VK) (E : XK) (r : Result) (s' : Shared) : Prop :=
  match r with
  | .ok (.ret u) => CE outer P w H s Q u s'
  | .ok _ => False
  | .error e => CX outer H s E e s'
structure FnOk (P : Program) (w : World) (K : Frag) (mg : Str → Option Value) (base : Heap) (CX : CXT) (k : Nat) (f : Addr) (fd : FuncData) (ps : List Str) (sp : Sp) : Prop where
  len : ∀ vs H Q E, sp vs H Q E → vs.length = ps.length
  run : ∀ (A : Around) (outer : List Env) (s : Shared) (H : Hp) (args : Args) (us : List Value) (vs : List V) (Q : VK) (E : XK), Room k A → Env0 P w K mg base A outer s H → BindsTo s fd args (ps.zip us) → Vals vs us → sp vs H Q E →
    codeAny (model P w) A (.call (.ref f) args) (CR CX outer P w H s Q E) s
theorem FnOk.mono {P : Program} {w : World} {K : Frag} {mg : Str → Option Value} {base : Heap} {CX : CXT} {j k : Nat} {f : Addr} {fd : FuncData} {ps : List Str} {sp : Sp} (F : FnOk P w K mg base CX j f fd ps sp) (h : j ≤ k) :
    FnOk P w K mg base CX k f fd ps sp := ⟨F.len, fun A outer s H args us vs Q E hr => F.run A outer s H args us vs Q E (hr.mono h)⟩
theorem Env0.make {P : Program} {w : World} {K : Frag} {mg : Str → Option Value} {base : Heap} {A : Around} {outer : List Env} {s : Shared} {H : Hp} (e : Env0 P w K mg base A outer s H) (C : Addr) (us : List Value) (kw : List (Str × Value)) :
    Env0 P w K mg base (A.under (.builtin "type.__call__" ⟨.ref C :: us, kw⟩)) outer s H := ⟨by first | exact e.frames | (simpa [Around.under, Code.envs, Code.isFrame, pushEnvs] using e.frames), e.mod, e.bs, e.bsz, e.funs, e.frf, e.hok, e.bare⟩
theorem Env0.in1 {P : Program} {w : World} {K : Frag} {mg : Str → Option Value} {base : Heap} {A : Around} {outer : List Env} {s : Shared} {H : Hp} (e : Env0 P w K mg base A outer s H) :
    Env0 P w K mg base A.in1 outer s H := ⟨e.frames, e.mod, e.bs, e.bsz, e.funs, e.frf, e.hok, e.bare⟩
section
variable {X : Cx} {pins : List (Addr × Obj)} {σ : St} {H : Hp} {s s' : Shared}
theorem Inv.env0 (I : Inv X pins σ H s) : Env0 X.prog X.w X.K X.mg X.base X.A X.stack s H :=
  ⟨I.ok.frames, I.ok.mod, I.bs, Nat.le_trans I.ok.bsz I.sz, I.stack, I.stkFree, I.hok, I.bare⟩
theorem Inv.after {Q : VK} {u : Value} (I : Inv X pins σ H s) (h : CE X.stack X.prog X.w H s Q u s') : EP X pins σ Q u s' := by
  obtain ⟨v, H', os, bare, un, hok, r, q⟩ := h
  obtain ⟨hh, g, d, t, os'⟩ := s'
  obtain rfl : os' = s.os := os
  exact ⟨v, H', I.call (h' := hh) (g' := g) (d' := d) (t' := t) (ch := []) un hok bare (fun b z => absurd z (by simp)), r, q⟩
end
def tCall (sp : Sp) (dvs : List V) (E : XK) (t : TA) : TE := fun σ H Q => t σ H fun vs H1 => sp (vs ++ dvs) H1 Q E
def tMeth (C : Addr) (m : Str) (sp : Sp) (dvs : List V) (E : XK) (ta : TE) (t : TA) : TE := fun σ H Q => ta σ H fun x H1 => ∃ a dx fs, x = .ref a ∧ H1 a = some (.ins C dx fs) ∧ fs.lookup m = none ∧
  t σ H1 fun vs H2 => sp (x :: (vs ++ dvs)) H2 Q E
def tMake (C : Addr) (sp : Sp) (dvs : List V) (E : XK) (t : TA) : TE := fun σ H Q => t σ H fun vs H1 => ∀ x dx, H1 x = none → H1 dx = none → dx ≠ x →
  sp (.ref x :: (vs ++ dvs)) (upd (upd H1 dx (.own x)) x (.ins C dx [])) (fun v H2 => v = .non ∧ Q (.ref x) H2) E
def Binds (K : Frag) (fd : FuncData) (ps : List Str) (ds : List Value) : Prop :=
  ∀ (s : Shared) (us : List Value), K.In s.heap → (us ++ ds).length = ps.length → BindsTo s fd ⟨us, []⟩ (ps.zip (us ++ ds))
theorem Binds.all {K : Frag} {fd : FuncData} {ps : List Str} (h : ∀ us : List Value, us.length = ps.length → bindArgs fd ⟨us, []⟩ = pure (ps.zip us)) : Binds K fd ps [] := fun s us _ hl => by
  rw [List.append_nil] at hl ⊢
  exact .of_eq (h us hl)
def Passes (CX : CXT) (X : Cx) (E : XK) : Prop := ∀ (pins : List (Addr × Obj)) (σ : St) (H : Hp) (s : Shared) (e : Value) (s' : Shared), Inv X pins σ H s → CX X.stack H s E e s' → X.xe e s'
section
variable {X : Cx} {CX : CXT} {k : Nat} {f C : Addr} {fd : FuncData} {ps : List Str} {sp : Sp} {dvs : List V} {ds : List Value} {E : XK} {x m : Str} {p pos apos : Pos} {e o : Expr} {es : List Expr} {ta : TE} {t : TA}
theorem run_fn {pins : List (Addr × Obj)} {σ : St} {H : Hp} {s : Shared} {Q : VK} {us : List Value} {vs : List V} (F : FnOk X.prog X.w X.K X.mg X.base CX k f fd ps sp) (hr : Room k X.A) (hb : Binds X.K fd ps ds) (hd : Vals dvs ds) (hx : Passes CX X E)
    (I : Inv X pins σ H s) (r : Vals vs us) (h : sp (vs ++ dvs) H Q E) : wpAny (model X.prog X.w) X.A (call (.ref f) us) (EP X pins σ Q) X.xe s := by
  have r2 : Vals (vs ++ dvs) (us ++ ds) := r.append hd
  have hl : (us ++ ds).length = ps.length := by rw [← r2.length]; exact F.len _ _ _ _ h
  refine wpAny_call (codeAny_mono (F.run X.A X.stack s H ⟨us, []⟩ (us ++ ds) (vs ++ dvs) Q E hr I.env0 (hb s us I.kIn hl) r2 h) fun r s' hq => ?_)
  cases r with
  | error e => exact hx pins σ H s e s' I hq
  | ok fl =>
    cases fl with
    | ret u => exact I.after hq
    | next => exact False.elim hq
    | brk => exact False.elim hq
    | cont => exact False.elim hq
theorem pe_call (F : FnOk X.prog X.w X.K X.mg X.base CX k f fd ps sp) (hr : Room k X.A) (hg : Gl X x) (hm : X.mg x = some (.ref f)) (hk : keepIn X.K (.ref f) = true) (hb : Binds X.K fd ps ds) (hd : Vals dvs ds) (hx : Passes CX X E)
    (ha : PA X (e :: es) t) (hdb : (x == ("__debug__" : Str)) = false := by decide) (he : starEach (e :: es) X.env = (false, eval e X.env) :: starEach es X.env := by rfl) (hpl : (backTo pos (starEach es X.env)).any (·.1) = false := by rfl) :
    PE X (.Call (.Name x p) (e :: es) [] pos) (tCall sp dvs E t) := by
  intro pins s σ H Q I h
  refine wpAny_Call_Name_kw (ld_glob I hg hm ?_ hdb)
  refine PySem.W.callWith_K (h₀ := X.base) I.ok.mod.kin hk (thn (ha pos pins s σ H _ I h) fun us s1 ⟨vs, H1, I1, r, q⟩ => ⟨I1.kIn, ?_⟩) he hpl
  exact run_fn F hr hb hd hx I1 r q
theorem pe_meth {pl : Sem Bool} (he : PE X o ta) (c : Cls X.K C) (hm : Meth X.K C m f) (F : FnOk X.prog X.w X.K X.mg X.base CX k f fd ps sp) (hr : Room k X.A) (hb : Binds X.K fd ps ds) (hd : Vals dvs ds) (hx : Passes CX X E) (ha : PA X (e :: es) t)
    (hst : starEach (e :: es) X.env = (false, eval e X.env) :: starEach es X.env := by rfl) (hpl : (backTo pos (starEach es X.env)).any (·.1) = false := by rfl)
    (ht : eval (.Call (.Attribute o m apos) (e :: es) [] pos) X.env = (do
      let ov ← eval o X.env
      standAt apos.atName
      let (f, first) ← holding [ov] (getMethod ov m pl)
      callWith pos f first (backTo pos (starEach (e :: es) X.env)) (backToKw pos (keywordEach [] X.env))) := by rfl) :
    PE X (.Call (.Attribute o m apos) (e :: es) [] pos) (tMeth C m sp dvs E ta t) := by
  intro pins s σ H Q I h
  refine PySem.W.methodCall_KW (pl := pl) (thn (he pins s σ H _ I h) fun u s1 ⟨x, H1, I1, rx, a, dx, fs, ex, ea, l, q⟩ => ?_) ht
  subst ex
  obtain rfl : u = Value.ref a := rx
  refine getmeth_ok I1 ea c hm l ?_
  refine PySem.W.callWith_K (first := [.ref a]) (h₀ := X.base) I.ok.mod.kin hm.kp (thn (ha pos pins s1 σ H1 _ I1 q) fun us s2 ⟨vs, H2, I2, r, q2⟩ => ⟨I2.kIn, ?_⟩) hst hpl
  exact run_fn (us := .ref a :: us) (vs := .ref a :: vs) F hr hb hd hx I2 (.cons rfl r) q2
theorem pe_meth0 {pl : Sem Bool} (he : PE X o ta) (c : Cls X.K C) (hm : Meth X.K C m f) (F : FnOk X.prog X.w X.K X.mg X.base CX k f fd ps sp) (hr : Room k X.A) (hb : Binds X.K fd ps ds) (hd : Vals dvs ds) (hx : Passes CX X E)
    (ht : eval (.Call (.Attribute o m apos) [] [] pos) X.env = (do
      let ov ← eval o X.env
      standAt apos.atName
      let (f, first) ← holding [ov] (getMethod ov m pl)
      callWith pos f first (backTo pos (starEach [] X.env)) (backToKw pos (keywordEach [] X.env))) := by rfl) :
    PE X (.Call (.Attribute o m apos) [] [] pos) (tMeth C m sp dvs E ta tNil) := by
  intro pins s σ H Q I h
  refine PySem.W.methodCall_KW (pl := pl) (thn (he pins s σ H _ I h) fun u s1 ⟨x, H1, I1, rx, a, dx, fs, ex, ea, l, q⟩ => ?_) ht
  subst ex
  obtain rfl : u = Value.ref a := rx
  refine getmeth_ok I1 ea c hm l ?_
  exact PySem.W.callWith_K0 (first := [.ref a]) I1.kIn hm.kp (run_fn (us := [.ref a]) (vs := [.ref a]) F hr hb hd hx I1 (.cons rfl .nil) q)
structure Mk (K : Frag) (C f : Addr) : Prop where
  makes : PySem.W.makesIn K C = true
  init : findIn K (.ref C) "__init__" = some (some (.ref f))
  fn : PySem.W.isFn K (.ref f) = true
  kp : keepIn K (.ref C) = true
theorem run_make {pins : List (Addr × Obj)} {σ : St} {H : Hp} {s : Shared} {Q : VK} {us : List Value} {vs : List V} (M : Mk X.K C f) (F : FnOk X.prog X.w X.K X.mg X.base CX k f fd ps sp) (hr : Room (k + 1) X.A) (hb : Binds X.K fd ps ds) (hd : Vals dvs ds)
    (hx : Passes CX X E) (I : Inv X pins σ H s) (r : Vals vs us)
    (h : ∀ x dx, H x = none → H dx = none → dx ≠ x → sp (.ref x :: (vs ++ dvs)) (upd (upd H dx (.own x)) x (.ins C dx [])) (fun v H2 => v = .non ∧ Q (.ref x) H2) E) :
    wpAny (model X.prog X.w) X.A (call (.ref C) us) (EP X pins σ Q) X.xe s := by
  have hq := h (s.heap.objs.size + 1) s.heap.objs.size (I.hok.fresh (Nat.le_succ _)) (I.hok.fresh (Nat.le_refl _)) (Nat.ne_of_lt (Nat.lt_succ_self _))
  have I2 := Inv.made (C := C) I
  have r2 : Vals (V.ref (s.heap.objs.size + 1) :: (vs ++ dvs)) (Value.ref (s.heap.objs.size + 1) :: (us ++ ds)) := .cons rfl (r.append hd)
  have hl : (Value.ref (s.heap.objs.size + 1) :: us ++ ds).length = ps.length := by
    have e := r2.length
    rw [F.len _ _ _ _ hq] at e
    exact e.symm
  refine wpAny_call (make_map (f := f) I.kIn M.makes M.init (beq_iff_eq.mp M.fn) (codeAny_mono (F.run _ X.stack _ _ ⟨Value.ref (s.heap.objs.size + 1) :: us, []⟩ (Value.ref (s.heap.objs.size + 1) :: (us ++ ds)) _ _ E (hr.make C us [])
    (I2.env0.make C us []) (hb _ (Value.ref (s.heap.objs.size + 1) :: us) I2.kIn hl) r2 hq) fun r s' hq' => ?_))
  cases r with
  | error e => exact hx pins σ _ _ e s' I2 hq'
  | ok fl =>
    cases fl with
    | ret u =>
      obtain ⟨v, H', I3, rv, ev, q3⟩ := I2.after hq'
      subst ev
      exact ⟨rv, ⟨V.ref (s.heap.objs.size + 1), H', I3, rfl, q3⟩⟩
    | next => exact False.elim hq'
    | brk => exact False.elim hq'
    | cont => exact False.elim hq'
theorem pe_make (M : Mk X.K C f) (F : FnOk X.prog X.w X.K X.mg X.base CX k f fd ps sp) (hr : Room (k + 1) X.A) (hg : Gl X x) (hm : X.mg x = some (.ref C)) (hb : Binds X.K fd ps ds) (hd : Vals dvs ds) (hx : Passes CX X E)
    (ha : PA X (e :: es) t) (hdb : (x == ("__debug__" : Str)) = false := by decide) (he : starEach (e :: es) X.env = (false, eval e X.env) :: starEach es X.env := by rfl) (hpl : (backTo pos (starEach es X.env)).any (·.1) = false := by rfl) :
    PE X (.Call (.Name x p) (e :: es) [] pos) (tMake C sp dvs E t) := by
  intro pins s σ H Q I h
  refine wpAny_Call_Name_kw (ld_glob I hg hm ?_ hdb)
  refine PySem.W.callWith_K (h₀ := X.base) I.ok.mod.kin M.kp (thn (ha pos pins s σ H _ I h) fun us s1 ⟨vs, H1, I1, r, q⟩ => ⟨I1.kIn, ?_⟩) he hpl
  exact run_make M F hr hb hd hx I1 r q
end
section
variable {X : Cx} {CX : CXT} {k : Nat} {f C : Addr} {fd : FuncData} {ps ks : List Str} {sp : Sp} {E : XK} {x m : Str} {p pos apos kpos : Pos} {e o : Expr} {es : List Expr} {kws : List Keyword} {te ta : TE} {t tk : TA} {nm : Option Str}
variable {g : List Value → List Value → List Value} {gV : List V → List V → List V}
end
structure FnScope (N P : List Str) (sc : Scope) : Prop where
  kind : sc.kind = .function
  co : sc.isCoroutine = false
  gen : sc.isGenerator = false
  nd : N.Nodup
  pre : N.take P.length = P
  par : ∀ x ∈ P, sc.names.lookup x = some .local ∨ sc.names.lookup x = some .cell
  nofree : ∀ y ∈ sc.names, y.2 ≠ .free
theorem bindL_out {kindOf : Str → Option NameKind} {x : Str} : ∀ {binds : List (Str × Value)} {m : Str → Option Value}, (∀ v, (x, v) ∉ binds) → bindL kindOf binds m x = m x
  | [], _, _ => rfl
  | (n, v) :: r, m, h => by
    unfold bindL
    rw [bindL_out fun w hw => h w (List.mem_cons_of_mem _ hw)]
    split
    · have : x ≠ n := by rintro rfl; exact h v List.mem_cons_self
      simp [this]
    · rfl
theorem bindC_out {kindOf : Str → Option NameKind} {x : Str} : ∀ {binds : List (Str × Value)} {m : Str → Option Value}, (∀ v, (x, v) ∉ binds) → bindC kindOf binds m x = m x
  | [], _, _ => rfl
  | (n, v) :: r, m, h => by
    unfold bindC
    rw [bindC_out fun w hw => h w (List.mem_cons_of_mem _ hw)]
    split
    · rfl
    · have : x ≠ n := by rintro rfl; exact h v List.mem_cons_self
      simp [this]
theorem bindL_get {kindOf : Str → Option NameKind} {x : Str} {v : Value} : ∀ {P : List Str} {vs : List Value} {i : Nat} {m : Str → Option Value}, P.Nodup → P[i]? = some x → vs[i]? = some v → kindOf x = some .local →
    bindL kindOf (P.zip vs) m x = some v
  | [], _, _, _, _, h, _, _ => by simp at h
  | _ :: _, [], _, _, _, _, h, _ => by simp at h
  | p :: P, w :: vs, 0, m, nd, h1, h2, hk => by
    simp at h1 h2; subst h1; subst h2
    show bindL kindOf ((p, w) :: P.zip vs) m p = _
    unfold bindL
    rw [bindL_out fun v hv => (List.nodup_cons.mp nd).1 (List.of_mem_zip hv).1, if_pos hk]
    simp
  | p :: P, w :: vs, i + 1, m, nd, h1, h2, hk => by
    show bindL kindOf ((p, w) :: P.zip vs) m x = _
    unfold bindL
    exact bindL_get (i := i) (List.nodup_cons.mp nd).2 (by simpa using h1) (by simpa using h2) hk
theorem bindC_get {kindOf : Str → Option NameKind} {x : Str} {v : Value} : ∀ {P : List Str} {vs : List Value} {i : Nat} {m : Str → Option Value}, P.Nodup → P[i]? = some x → vs[i]? = some v → kindOf x ≠ some .local →
    bindC kindOf (P.zip vs) m x = some v
  | [], _, _, _, _, h, _, _ => by simp at h
  | _ :: _, [], _, _, _, _, h, _ => by simp at h
  | p :: P, w :: vs, 0, m, nd, h1, h2, hk => by
    simp at h1 h2; subst h1; subst h2
    show bindC kindOf ((p, w) :: P.zip vs) m p = _
    unfold bindC
    rw [bindC_out fun v hv => (List.nodup_cons.mp nd).1 (List.of_mem_zip hv).1, if_neg hk]
    simp
  | p :: P, w :: vs, i + 1, m, nd, h1, h2, hk => by
    show bindC kindOf ((p, w) :: P.zip vs) m x = _
    unfold bindC
    exact bindC_get (i := i) (List.nodup_cons.mp nd).2 (by simpa using h1) (by simpa using h2) hk
def start (N : List Str) (vs : List V) : St := vs.map some ++ List.replicate (N.length - vs.length) none
def cxOf (CX : CXT) (P : Program) (w : World) (K : Frag) (mg : Str → Option Value) (base : Heap) (N : List Str) (qual : Str) (scope : Scope) (f : Addr) (cd : Value) (A : Around) (outer : List Env) (s : Shared) (H : Hp) (E : XK) : Cx where
  prog := P
  w := w
  K := K
  mg := mg
  base := base
  A := A.deeper (envOfC qual scope s.heap.objs.size f cd)
  N := N
  s₀ := s
  H₀ := H
  env := envOfC qual scope s.heap.objs.size f cd
  outer := outer
  stack := envOfC qual scope s.heap.objs.size f cd :: outer
  ex := []
  calm := true
  fn := fun _ => true
  pn := []
  xe := fun e s' => wpAny (model P w) (A.deeper (envOfC qual scope s.heap.objs.size f cd)) (leaving (envOfC qual scope s.heap.objs.size f cd) e) (fun _ s'' => CX outer H s E e s'') (fun e' s'' => CX outer H s E e' s'') s'
theorem cell_has {sc : Scope} {n : Nat} {x : Str} (h : sc.names.lookup x = some .cell) : ∃ c, (cellsFrom n sc.names []).lookup x = some c := by
  have q := PySem.W.cellsFrom_some sc.names n [] (.inl h)
  exact Option.isSome_iff_exists.mp q
theorem inv_start {CX : CXT} {P : Program} {w : World} {K : Frag} {mg : Str → Option Value} {base : Heap} {N ps : List Str} {qual : Str} {scope : Scope} {f : Addr} {cd : Value} {A : Around} {outer : List Env} {s s1 : Shared} {H : Hp} {E : XK} {us : List Value} {vs : List V}
    (S : FnScope N ps scope) (hd : A.handled = none) (e0 : Env0 P w K mg base A outer s H) (hl : vs.length = ps.length) (r : Vals vs us)
    (x : InCallC s s.heap.objs.size (bindL (envOfC qual scope s.heap.objs.size f cd).kindOf (ps.zip us) fun _ => none) (cellsFrom (s.heap.objs.size + 1) scope.names []) (bindC (envOfC qual scope s.heap.objs.size f cd).kindOf (ps.zip us) fun _ => none) s1) :
    Inv (cxOf CX P w K mg base N qual scope f cd A outer s H E) [] (start N vs) H s1 := by
  have hpl : ps.length ≤ N.length := by have := congrArg List.length S.pre; rw [List.length_take] at this; omega
  obtain ⟨h1, tk, rfl, hk⟩ := x.done
  have noA : ∀ b : Addr, b ∉ (cxOf CX P w K mg base N qual scope f cd A outer s H E).ex := fun b z => absurd (show b ∈ ([] : List Addr) from z) (by simp)
  refine ⟨⟨e0.mod, S.kind, rfl, rfl, Nat.le_refl _, fun y z c h1 h2 => ?_, fun y hy => ?_, fun y c _ h => ?_, fun _ => hd, Around.frames_deeper e0.frames, .inr ⟨rfl, rfl⟩, fun b z => absurd z (noA b), e0.bs, e0.bsz, fun b _ _ => noA b, fun b z => absurd z (noA b), e0.funs, e0.frf⟩,
    rfl, e0.bare, Un.kept hk, ⟨_, x.toInCall.ns, fun i y v h1 h2 h3 => ?_⟩, fun y c h => ⟨_, x.cell y c h⟩, e0.hok.fresh (Nat.le_refl _), fun y c h => ?_, fun p hp => absurd (show p ∈ ([] : List (Addr × Obj)) from hp) (by simp), e0.hok.kept hk, ?_⟩
  · exact name_of_addr x.apart (PySem.mem_of_lookup h1) (PySem.mem_of_lookup h2)
  · have hy : scope.names.lookup y = some .cell ∨ scope.names.lookup y = some .free := hy
    rcases hy with hy | hy
    · exact cell_has hy
    · exact absurd rfl (S.nofree _ (PySem.mem_of_lookup hy))
  · exact Nat.le_of_lt (x.above y c (PySem.mem_of_lookup h))
  · have hi : i < vs.length := by
      unfold start at h2
      by_cases hi : i < vs.length
      · exact hi
      · rw [List.getElem?_append_right (by simpa using hi)] at h2
        rw [List.getElem?_replicate] at h2
        split at h2 <;> cases h2
    have ha : vs[i]? = some v := by
      unfold start at h2
      rw [List.getElem?_append_left (by simpa using hi), List.getElem?_map] at h2
      cases e : vs[i]? with
      | none => rw [e] at h2; cases h2
      | some a => rw [e] at h2; cases h2; rfl
    obtain ⟨u, hu, rv⟩ := r.get ha
    have hp : ps[i]? = some y := by
      rw [← S.pre, List.getElem?_take_of_lt (by omega)]; exact h1
    have ndP : ps.Nodup := by rw [← S.pre]; exact S.nd.sublist (List.take_sublist _ _)
    refine ⟨u, rv, ?_⟩
    rcases S.par y (List.mem_of_getElem? hp) with k | k
    · exact .inl ⟨k, bindL_get ndP hp hu k⟩
    · obtain ⟨c, e⟩ := cell_has (n := s.heap.objs.size + 1) k
      refine .inr ⟨.inl k, c, e, ?_⟩
      have q := x.cell y c e
      rw [bindC_get ndP hp hu (by show scope.names.lookup y ≠ _; rw [k]; decide)] at q
      exact q
  · exact e0.hok.fresh (Nat.le_of_lt (x.above y c (PySem.mem_of_lookup h)))
  · unfold start
    show _ = N.length
    rw [List.length_append, List.length_map, List.length_replicate]
    omega
theorem fn_of {CX : CXT} {P : Program} {w : World} {K : Frag} {mg : Str → Option Value} {base : Heap} {k : Nat} {f : Addr} {name qual : Str} {params : Arguments} {body : List Stmt} {scope : Scope} {dV kV doc pm cdv ct oc : Value} {an od : Option Addr}
    {osl : Array (Option Value)} {N ps : List Str} {sp : Sp} (lk : K.lookup f = some ⟨oc, od, .func (fnOf name qual params body scope dV kV doc pm an cdv ct), osl⟩) (hcd : PySem.W.codeIn K cdv qual = true) (S : FnScope N ps scope)
    (len : ∀ vs H Q E, sp vs H Q E → vs.length = ps.length)
    (hbody : ∀ (A : Around) (outer : List Env) (s : Shared) (H : Hp) (vs : List V) (Q : VK) (E : XK), Room k (A.deeper (envOfC qual scope s.heap.objs.size f cdv)) → sp vs H Q E →
      ∃ t, PSs (cxOf CX P w K mg base N qual scope f cdv A outer s H E) body t ∧ t { nx := fun _ H' => Q .non H', rt := Q } (start N vs) H) :
    FnOk P w K mg base CX (k + 1) f (fnOf name qual params body scope dV kV doc pm an cdv ct) ps sp := by
  refine ⟨len, fun A outer s H args us vs Q E hr e0 hb r hsp => ?_⟩
  have hl := len _ _ _ _ hsp
  have KX : K.In s.heap := e0.mod.kin.keeps fun b o e => (e0.bs b o e).1
  have lim : s.heap.NoLimit := e0.mod.nolimit.keeps fun b o e => (e0.bs b o e).1
  have hkind : ∀ y ∈ ps.zip us, scope.names.lookup y.1 = some .local ∨ (scope.names.lookup y.1 = some .cell ∧ ((cellsFrom (s.heap.objs.size + 1) scope.names []).lookup y.1).isSome = true) := fun ⟨n, v⟩ hy => by
    rcases S.par n (List.of_mem_zip hy).1 with q | q
    · exact .inl q
    · exact .inr ⟨q, PySem.W.cellsFrom_some _ _ _ (.inl q)⟩
  refine codeAny_call_function hr.depth (KX _ _ lk) rfl S.co S.gen rfl (PySem.W.codeRec_of KX hcd) (hb _ _ _ _ ?_)
  refine wpAny_newFunctionEnv_cells S.kind hkind fun env he s1 x => ?_
  subst he
  refine ⟨lim.keeps x.toInCall.keep, codeAny_func ?_⟩
  obtain ⟨t, ht, hq⟩ := hbody A outer s H vs Q E (hr.deeper _) hsp
  have I : Inv (cxOf CX P w K mg base N qual scope f cdv A outer s H E) [] (start N vs) H s1 := inv_start S hr.hd e0 hl r x
  refine wpAny_mono (ht [] s1 (start N vs) H _ I hq) (fun fl s' hs => ?_) fun e s' hs => hs
  have fin : ∀ {σ' : St} {H' : Hp} {v : V} {u : Value}, Inv (cxOf CX P w K mg base N qual scope f cdv A outer s H E) [] σ' H' s' → RelV v u → Q v H' → CE outer P w H s Q u s' :=
    fun {σ' H' v u} J rv q => ⟨v, H', J.os, J.bare, J.base, J.hok, rv, q⟩
  cases fl with
  | ret u =>
    obtain ⟨v, σ', H', J, rv, q⟩ := hs
    exact fin J rv q
  | next =>
    obtain ⟨σ', H', J, q⟩ := hs
    exact fin (v := V.non) (u := Value.none) J rfl q
  | brk =>
    obtain ⟨_, _, _, q⟩ := hs
    exact False.elim q
  | cont =>
    obtain ⟨_, _, _, q⟩ := hs
    exact False.elim q
end L2
namespace L2
open PySem PySem.Spec PyProof.Rows
section
variable {X : Cx} {x : Str} {p pos : Pos} {e : Expr} {es : List Expr} {t : TA} {id T : String} {r : List V → Hp → VK → Prop}
def tCB (r : List V → Hp → VK → Prop) (t : TA) : TE := fun σ H Q => t σ H fun vs H1 => r vs H1 Q
theorem pe_callB (hc : CallR X (.builtin id) r) (hg : Gl X x) (hm : X.mg x = none) (hv : bootBuiltins x = some (.builtin id)) (ha : PA X (e :: es) t) (hn : x ≠ "__name__" := by decide) (hdb : (x == ("__debug__" : Str)) = false := by decide)
    (he : starEach (e :: es) X.env = (false, eval e X.env) :: starEach es X.env := by rfl) (hpl : (backTo pos (starEach es X.env)).any (·.1) = false := by rfl) : PE X (.Call (.Name x p) (e :: es) [] pos) (tCB r t) := by
  intro pins s σ H Q I h
  refine wpAny_Call_Name_kw (ld_blt I hg hm hv ?_ hn hdb)
  exact PyProof.Rows.callWith_builtin1 (thn (ha pos pins s σ H _ I h) fun us s1 ⟨vs, H1, I1, r1, q1⟩ => hc pins s1 σ H1 vs us Q I1 r1 q1) he hpl
theorem pe_callTy (hc : CallR X (.type T) r) (hg : Gl X x) (hm : X.mg x = none) (hv : bootBuiltins x = some (.type T)) (ha : PA X (e :: es) t) (hn : x ≠ "__name__" := by decide) (hdb : (x == ("__debug__" : Str)) = false := by decide)
    (he : starEach (e :: es) X.env = (false, eval e X.env) :: starEach es X.env := by rfl) (hpl : (backTo pos (starEach es X.env)).any (·.1) = false := by rfl) : PE X (.Call (.Name x p) (e :: es) [] pos) (tCB r t) := by
  intro pins s σ H Q I h
  refine wpAny_Call_Name_kw (ld_blt I hg hm hv ?_ hn hdb)
  exact PyProof.Rows.callWith_type1 (thn (ha pos pins s σ H _ I h) fun us s1 ⟨vs, H1, I1, r1, q1⟩ => hc pins s1 σ H1 vs us Q I1 r1 q1) he hpl
end
end L2
namespace HT
open PySem PyProof.Rows
section
open PySem.SeqAt
open PySem.AutoSeq1 (wpAny_loadPart')
open PySem.MeetsSeq PySem.MeetsSeq2 PySem.MeetsSeq3
end
section
variable {prog : Program} {w : World} {A : Around} {E : Value → Shared → Prop} {s : Shared}
def sIx (n d : Nat) : Option Int → Nat
  | none => d
  | some v => if v < 0 then (v + (n : Int)).toNat else min v.toNat n
theorem sIx_none (n d : Nat) : sIx n d none = d := rfl
theorem sIx_nat (n d k : Nat) : sIx n d (some (k : Int)) = min k n := by
  show (if (k : Int) < 0 then ((k : Int) + (n : Int)).toNat else min (k : Int).toNat n) = min k n
  rw [if_neg (by omega), Int.toNat_natCast]
end
end HT
namespace L2
open PySem PySem.Spec PyProof.Rows
abbrev TO := St → Hp → (Option Int → Hp → Prop) → Prop
def PO (X : Cx) (e : Option Expr) (t : TO) : Prop :=
  ∀ (pins : List (Addr × Obj)) (s : Shared) (σ : St) (H : Hp) (Q : Option Int → Hp → Prop), Inv X pins σ H s → t σ H Q →
    wpAny (model X.prog X.w) X.A (evalPart e X.env) (fun u s' => ∃ o H', Inv X pins σ H' s' ∧ IsPart u o ∧ Q o H') X.xe s
def tNoPart : TO := fun _ H Q => Q none H
def tPart (t : TE) : TO := fun σ H Q => t σ H fun x H1 => ∃ i, x = .int i ∧ Q (some i) H1
section
variable {X : Cx} {e : Expr} {te : TE} {lo hi : Option Expr} {tl th : TO} {pos p2 : Pos}
theorem po_none : PO X none tNoPart := by
  intro pins s σ H Q I h
  rw [evalPart_none]
  exact wpAny_pure ⟨none, H, I, .none, h⟩
theorem po_some (h : PE X e te) : PO X (some e) (tPart te) := by
  intro pins s σ H Q I hw
  rw [evalPart_some]
  refine thn (h pins s σ H _ I hw) fun u s1 ⟨x, H1, I1, r1, q1⟩ => ?_
  obtain ⟨i, rfl, q⟩ := q1
  obtain ⟨t, rfl⟩ := r1
  exact ⟨some i, H1, I1, .int i t, q⟩
def SlR (X : Cx) (r : V → Option Int → Option Int → Hp → VK → Prop) : Prop :=
  ∀ (pins : List (Addr × Obj)) (s : Shared) (σ : St) (H : Hp) (x : V) (v vl vu : Value) (lo hi : Option Int) (sl : Addr) (Q : VK), Inv X pins σ H s → RelV x v → s.heap.IsSliceOf sl vl vu .none → IsPart vl lo → IsPart vu hi → r x lo hi H Q →
    ∃ T id, typeLookup (.type T) "__getitem__" = pure (some (.builtin id)) ∧ s.TypeIs v T ∧ wpAny (model X.prog X.w) X.A (getItem v (.ref sl)) (EP X pins σ Q) X.xe s
def tSl (r : V → Option Int → Option Int → Hp → VK → Prop) (te : TE) (tl th : TO) : TE := fun σ H Q => te σ H fun x H1 => tl σ H1 fun l H2 => th σ H2 fun u H3 => r x l u H3 Q
theorem pe_slice {r : V → Option Int → Option Int → Hp → VK → Prop} (hr : SlR X r) (he : PE X e te) (hl : PO X lo tl) (hu : PO X hi th) : PE X (.Subscript e (.Slice lo hi none p2) pos) (tSl r te tl th) := by
  intro pins s σ H Q I h
  refine Subscript_ (thn (he pins s σ H _ I h) fun v s1 ⟨x, H1, I1, r1, q1⟩ => ?_)
  refine wpAny_Slice (thn (hl pins s1 σ H1 _ I1 q1) fun vl s2 ⟨l, H2, I2, pl, q2⟩ => thn (hu pins s2 σ H2 _ I2 q2) fun vu s3 ⟨u, H3, I3, pu, q3⟩ => ?_)
  rw [evalPart_none]
  refine wpAny_pure ?_
  have I4 : Inv X pins σ H3 { s3 with heap := s3.heap.push { cls := .type "slice", data := .fields #[vl, vu, .none] } } := I3.kept (t' := s3.toks) fun b ob q => Heap.get?_push_of_some _ q
  obtain ⟨T, id, hT, ht, hg⟩ := hr pins { s3 with heap := s3.heap.push { cls := .type "slice", data := .fields #[vl, vu, .none] } } σ H3 x v vl vu l u s3.heap.objs.size Q I4 r1 (Heap.IsSliceOf.new ..) pl pu q3
  show wpAny (model X.prog X.w) X.A (subscriptTail e (.Slice lo hi none p2) v (.ref s3.heap.objs.size)) (EP X pins σ Q) X.xe { s3 with heap := s3.heap.push { cls := .type "slice", data := .fields #[vl, vu, .none] } }
  exact tail_any (ops := [.ref s3.heap.objs.size, v]) ht hT hg (by with_unfolding_all rfl)
def cutV (xs : List V) (lo hi : Option Int) : List V := (xs.drop (HT.sIx xs.length 0 lo)).take (HT.sIx xs.length xs.length hi - HT.sIx xs.length 0 lo)
theorem cutV_length (xs : List V) (lo hi : Option Int) : (cutV xs lo hi).length ≤ xs.length := by
  unfold cutV
  rw [List.length_take, List.length_drop]
  omega
end
end L2
namespace L2
open PySem PySem.Spec PyProof.Rows
def ixN (n : Nat) (i : Int) : Option Nat := if 0 ≤ i then (if i < n then some i.toNat else none) else if -(n : Int) ≤ i then some (i + n).toNat else none
def atI {α : Type} (xs : List α) (i : Int) : Option α := (ixN xs.length i).bind fun j => xs[j]?
theorem ixN_seq {n : Nat} {i : Int} {j : Nat} (h : ixN n i = some j) : seqIndex? i n = some j ∧ j < n ∧ -(n : Int) ≤ i ∧ i < n := by
  unfold ixN at h
  by_cases h0 : 0 ≤ i
  · rw [if_pos h0] at h
    by_cases h1 : i < n
    · rw [if_pos h1] at h
      have e : i.toNat = j := Option.some.inj h
      exact ⟨by rw [seqIndex_of h0 h1, e], by omega, by omega, h1⟩
    · rw [if_neg h1] at h; cases h
  · rw [if_neg h0] at h
    by_cases h1 : -(n : Int) ≤ i
    · rw [if_pos h1] at h
      have e : (i + n).toNat = j := Option.some.inj h
      exact ⟨by rw [seqIndex_neg (by omega) h1, e], by omega, h1, by omega⟩
    · rw [if_neg h1] at h; cases h
theorem atI_get {α : Type} {xs : List α} {i : Int} {v : α} (h : atI xs i = some v) : ∃ j, seqIndex? i xs.length = some j ∧ xs[j]? = some v ∧ j < xs.length ∧ -(xs.length : Int) ≤ i ∧ i < xs.length := by
  unfold atI at h
  cases e : ixN xs.length i with
  | none => rw [e] at h; cases h
  | some j =>
    rw [e] at h
    obtain ⟨h1, h2, h3, h4⟩ := ixN_seq e
    exact ⟨j, h1, h, h2, h3, h4⟩
theorem atI_nat {α : Type} {xs : List α} {j : Nat} {v : α} (h : xs[j]? = some v) : atI xs (j : Int) = some v := by
  have hj : j < xs.length := (List.getElem?_eq_some_iff.mp h).1
  have e : ixN xs.length (j : Int) = some j := by
    unfold ixN
    rw [if_pos (by omega), if_pos (by omega)]; simp
  unfold atI; rw [e]; exact h
def PlainIx (b : Expr) : Prop := ∀ o i, subscripted b false o i = operate [o, i] (getItem o i)
def IxR (X : Cx) (r : R2) : Prop :=
  ∀ (value slice : Expr) (pins : List (Addr × Obj)) (s : Shared) (σ : St) (H : Hp) (x y : V) (v u : Value) (Q : VK), Inv X pins σ H s → RelV x v → RelV y u → r x y H Q →
    subscripted slice false v u = operate [v, u] (getItem v u) → wpAny (model X.prog X.w) X.A (subscriptTail value slice v u) (EP X pins σ Q) X.xe s
def MtR (X : Cx) (id : String) (r : V → List V → Hp → VK → Prop) : Prop :=
  ∀ (pins : List (Addr × Obj)) (s : Shared) (σ : St) (H : Hp) (x : V) (xs : List V) (v : Value) (us : List Value) (Q : VK), Inv X pins σ H s → RelV x v → Vals xs us → r x xs H Q →
    wpAny (model X.prog X.w) X.A (call (.builtin id) (v :: us)) (EP X pins σ Q) X.xe s
section
variable {X : Cx} {a b : Expr} {ta tb : TE} {pos : Pos}
theorem pe_ix {r : R2} (hr : IxR X r) (ha : PE X a ta) (hb : PE X b tb) (hs : PlainIx b) : PE X (.Subscript a b pos) (tOp r ta tb) := by
  intro pins s σ H Q I h
  exact Subscript_ (binT ha hb I h fun v u s2 x y H2 I2 rx ry q => hr a b pins s2 σ H2 x y v u Q I2 rx ry q (hs _ _))
def rIxL (K : Frag) : R2 := fun x y H Q => ∃ p xs i v, x = .ref p ∧ y = .int i ∧ SqL K H p xs ∧ atI xs i = some v ∧ Q v H
def rIxT (K : Frag) : R2 := fun x y H Q => ∃ p xs i v, x = .ref p ∧ y = .int i ∧ SqT K H p xs ∧ atI xs i = some v ∧ Q v H
theorem ix_list : IxR X (rIxL X.K) := by
  intro value slice pins s σ H x y v u Q I rx ry h hs
  obtain ⟨p, xs, i, z, rfl, rfl, hq, he, q⟩ := h
  cases rx
  obtain ⟨t, rfl⟩ := ry
  obtain ⟨its, r, pl, hz⟩ := I.list hq
  obtain ⟨j, h1, h2, h3, h4, h5⟩ := atI_get he
  obtain ⟨w, ew, rw'⟩ := r.get h2
  have hl := r.length
  have hn := line63
  have fin : EP X pins σ Q w s := ⟨z, H, I, rw', q⟩
  by_cases h0 : 0 ≤ i
  · have hj : i.toNat = j := by
      rw [seqIndex_of h0 h5] at h1
      exact Option.some.inj h1
    exact item_listR pl.isList h0 (by omega) (by rw [hj]; simpa using ew) fin hs
  · have hj : (i + (its.toArray.size : Int)).toNat = j := by
      rw [seqIndex_neg (by omega) h4] at h1
      rw [List.size_toArray, ← hl]
      exact Option.some.inj h1
    exact subscriptTail_builtinR (x := w) pl.isList.typeIs slot_list_getitem.lookup
      (wpAny_getItem_list_neg (Q := fun r s' => r = w ∧ EP X pins σ Q r s') pl.isList (by omega) (by rw [List.size_toArray] <;> omega) (by omega) (by rw [hj]; simpa using ew) ⟨rfl, fin⟩) hs
theorem ix_tup : IxR X (rIxT X.K) := by
  intro value slice pins s σ H x y v u Q I rx ry h hs
  obtain ⟨p, xs, i, z, rfl, rfl, hq, he, q⟩ := h
  cases rx
  obtain ⟨t, rfl⟩ := ry
  obtain ⟨its, r, pl, hz⟩ := I.tuple hq
  obtain ⟨j, h1, h2, h3, h4, h5⟩ := atI_get he
  obtain ⟨w, ew, rw'⟩ := r.get h2
  have hl := r.length
  have hn := line63
  have fin : EP X pins σ Q w s := ⟨z, H, I, rw', q⟩
  exact subscriptTail_builtinR (x := w) pl.typeIs slot_tuple_getitem.lookup
    (getItem_tuple (j := j) (Q := fun r s' => r = w ∧ EP X pins σ Q r s') pl (by omega) (by omega) (by rw [List.size_toArray, ← hl]; exact h1) (by simpa using ew) ⟨rfl, fin⟩) hs
theorem slice_bounds (lo hi : Option Int) (n : Nat) : (sliceBounds lo hi none n).1 = ((HT.sIx n 0 lo : Nat) : Int) ∧ (sliceBounds lo hi none n).2.1 = ((HT.sIx n n hi : Nat) : Int) ∧ (sliceBounds lo hi none n).2.2 = 1 := by
  refine ⟨?_, ?_, rfl⟩
  · cases lo with
    | none => simp [sliceBounds, HT.sIx]
    | some i =>
      simp only [sliceBounds, HT.sIx, Option.getD_none, show (1 : Int) > 0 by decide, if_true]
      by_cases h : i < 0
      · simp only [h, if_true] <;> omega
      · simp only [h, if_false] <;> omega
  · cases hi with
    | none => simp [sliceBounds, HT.sIx]
    | some i =>
      simp only [sliceBounds, HT.sIx, Option.getD_none, show (1 : Int) > 0 by decide, if_true]
      by_cases h : i < 0
      · simp only [h, if_true] <;> omega
      · simp only [h, if_false] <;> omega
theorem slicePick_cut (its : List Value) (lo hi : Option Int) : slicePick its.toArray lo hi none = ((its.drop (HT.sIx its.length 0 lo)).take (HT.sIx its.length its.length hi - HT.sIx its.length 0 lo)).toArray := by
  obtain ⟨h1, h2, h3⟩ := slice_bounds lo hi its.toArray.size
  unfold slicePick
  rw [h1, h2, h3]
  simp only [sliceRange_one, pick_run, List.size_toArray] <;> rfl
def rSlL (K : Frag) : V → Option Int → Option Int → Hp → VK → Prop := fun x lo hi H Q => ∃ a xs, x = .ref a ∧ SqL K H a xs ∧ ∀ p, H p = none → Q (.ref p) (upd H p (.lst (cutV xs lo hi)))
theorem sl_list : SlR X (rSlL X.K) := by
  intro pins s σ H x v vl vu lo hi sl Q I rx hs pl pu h
  obtain ⟨a, xs, rfl, hx, q⟩ := h
  cases rx
  obtain ⟨its, r, ht, hz⟩ := I.list hx
  have hlen := r.length
  refine ⟨"list", _, slot_list_getitem.lookup, ht.isList.typeIs, ?_⟩
  refine wpAny_getItem_list_slice ht.isList hs pl pu .none (by simp) ?_ (by rw [List.size_toArray] <;> omega)
  rw [slicePick_cut, ← hlen]
  refine ⟨.ref s.heap.objs.size, _, I.laid (t' := s.toks) (o := .lst (cutV xs lo hi)) (fun b ob q => Heap.get?_push_of_some _ q) (Nat.le_refl _) ?_, rfl, q _ (I.hok.fresh (Nat.le_refl _))⟩
  exact ⟨Nat.le_trans (cutV_length xs lo hi) hz, _, 0, (r.drop (HT.sIx xs.length 0 lo)).take (HT.sIx xs.length xs.length hi - HT.sIx xs.length 0 lo), Heap.get?_push_size _ rfl⟩
theorem call_len_seq : CallR X (.builtin "len") (fun xs H Q => ∃ p ys, xs = [.ref p] ∧ (SqL X.K H p ys ∨ SqT X.K H p ys) ∧ Q (.int ys.length) H) := by
  intro pins s σ H xs us Q I r h
  obtain ⟨p, ys, rfl, hq, q⟩ := h
  obtain ⟨u, rfl, rx⟩ := vals1 r
  cases rx
  have hn := line63
  rcases hq with hq | hq
  · obtain ⟨its, r', pl, hz⟩ := I.list hq
    have hlen := r'.length
    exact Calls.call_len_list pl.isList (by simp only [List.size_toArray] <;> omega) ⟨.int ys.length, H, I.tok _, ⟨s.toks + 1, by rw [List.size_toArray, hlen]⟩, q⟩
  · obtain ⟨its, r', pl, hz⟩ := I.tuple hq
    have hlen := r'.length
    exact len_tuple pl (by simp only [List.size_toArray] <;> omega) ⟨.int ys.length, H, I.tok _, ⟨s.toks + 1, by rw [List.size_toArray, hlen]⟩, q⟩
def tyV (K : Frag) (T : String) (x : V) (H : Hp) : Prop := match x with
  | .str _ => T = "str"
  | .int _ => T = "int"
  | .ref p => (T = "list" ∧ ∃ xs, SqL K H p xs) ∨ (T = "tuple" ∧ ∃ o, K.lookup p = some o ∧ o.cls = .type "tuple" ∧ o.dict = none) ∨
      (T = "dict" ∧ ((∃ kvs, H p = some (.dK kvs)) ∨ ∃ kvs, H p = some (.dT kvs))) ∨ (T = "set" ∧ ∃ S n, H p = some (.set S n))
  | _ => False
theorem tyV_is {pins : List (Addr × Obj)} {σ : St} {H : Hp} {s : Shared} {T : String} {x : V} {v : Value} (I : Inv X pins σ H s) (r : RelV x v) (ty : tyV X.K T x H) :
    s.TypeIs v T ∧ ∀ a, v = .ref a → ∃ ob, s.heap.get? a = some ob ∧ ob.dict = none := by
  cases x with
  | str z =>
    obtain ⟨t, rfl⟩ := r
    cases (show T = "str" from ty)
    exact ⟨typeIs_str s z t, fun _ e => nomatch e⟩
  | int i =>
    obtain ⟨t, rfl⟩ := r
    cases (show T = "int" from ty)
    exact ⟨typeIs_int s i t, fun _ e => nomatch e⟩
  | ref p =>
    cases r
    rcases ty with ⟨rfl, xs, hq⟩ | ⟨rfl, o, hk, hc, hd⟩ | ⟨rfl, hk⟩ | ⟨rfl, S, n, hk⟩
    · obtain ⟨its, _, pl, _⟩ := I.list hq
      refine ⟨pl.isList.typeIs, fun a e => ?_⟩
      cases e
      obtain ⟨o, n, e, c, hd, _⟩ := pl
      exact ⟨o, e, hd⟩
    · refine ⟨⟨o, I.kIn p o hk, hc⟩, fun a e => ?_⟩
      cases e
      exact ⟨o, I.kIn _ o hk, hd⟩
    · have z : ∃ o, s.heap.get? p = some o ∧ o.ExactDict := by
        rcases hk with ⟨kvs, hk⟩ | ⟨kvs, hk⟩
        · obtain ⟨_, _, _, _, o, _, _, e, ex, _⟩ := I.hok p _ hk
          exact ⟨o, e, ex⟩
        · obtain ⟨_, _, _, _, o, _, _, e, ex, _⟩ := I.hok p _ hk
          exact ⟨o, e, ex⟩
      obtain ⟨o, e, ex⟩ := z
      refine ⟨⟨o, e, ex.1⟩, fun a e2 => ?_⟩
      cases e2
      exact ⟨o, e, ex.2.1⟩
    · obtain ⟨o, _, _, _, e, ex, _⟩ := I.hok p _ hk
      refine ⟨⟨o, e, ex.1⟩, fun a e2 => ?_⟩
      cases e2
      exact ⟨o, e, ex.2.1⟩
  | _ => exact False.elim ty
def tBM (K : Frag) (T : String) (r : V → List V → Hp → VK → Prop) (to : TE) (t : TA) : TE := fun σ H Q => to σ H fun x H1 => tyV K T x H1 ∧ t σ H1 fun xs H2 => r x xs H2 Q
variable {o e : Expr} {es : List Expr} {to : TE} {t : TA} {name : Str} {apos cpos : Pos} {T id : String} {r : V → List V → Hp → VK → Prop}
theorem pe_bm (pa : PlainAttrs T) (slot : Slot T name id) (hty : typeOf (.builtin id) = pure (.type "method_descriptor")) (hm : MtR X id r) (ho : PE X o to) (ha : PA X (e :: es) t)
    (hbase : attributeBase o name X.env (eval o X.env) = eval o X.env := by rfl)
    (hfew : ((backTo cpos (starEach (e :: es) X.env)).all (fun x => !x.1) && (backToKw cpos (keywordEach [] X.env)).all (fun x => x.1.isSome)
      && decide ((e :: es).length + ([] : List Keyword).length + (if ([] : List Keyword).isEmpty then 0 else 1) < 30)) = true := by rfl)
    (hline : (apos.endLine == cpos.line) = true := by rfl) (hs : starEach (e :: es) X.env = (false, eval e X.env) :: starEach es X.env := by rfl) (hplain : (backTo cpos (starEach es X.env)).any (·.1) = false := by rfl) :
    PE X (.Call (.Attribute o name apos) (e :: es) [] cpos) (tBM X.K T r to t) := by
  intro pins s σ H Q I h
  refine wpAny_Call_method_late hbase hfew hline rfl (thn (ho pins s σ H _ I h) fun v s1 ⟨x, H1, I1, r1, ty, q1⟩ => ?_)
  obtain ⟨h1, h2⟩ := tyV_is I1 r1 ty
  refine ⟨T, id, pa, slot, hty, h1, h2, ?_⟩
  have hA := ha cpos pins s1 σ H1 _ I1 q1
  rw [hs] at hA ⊢
  refine Calls.callWith_builtin (by show (false || (backTo cpos (starEach es X.env)).any (·.1)) = false; rw [hplain] <;> rfl) (Calls.evalArgs_plain ?_)
  exact thn hA fun us s2 ⟨vs, H2, I2, r2, q2⟩ => hm pins s2 σ H2 x vs v us Q I2 r1 r2 q2
end
end L2
namespace L2
open PySem PySem.Spec PyProof.Rows
def MtM (X : Cx) (id : String) (r : V → List V → Hp → VK → Prop) : Prop :=
  ∀ (pins : List (Addr × Obj)) (s : Shared) (σ : St) (H : Hp) (x : V) (xs : List V) (v : Value) (us : List Value) (Q : VK), Inv X pins σ H s → RelV x v → Vals xs us → r x xs H Q →
    wpAny (model X.prog X.w) X.A (call (.builtin id) (v :: us)) (EP X pins σ Q) X.xe s
theorem Vals.one : ∀ {x : V} {us : List Value}, Vals [x] us → ∃ u, us = [u] ∧ RelV x u
  | _, _, .cons r .nil => ⟨_, rfl, r⟩
section
variable {X : Cx} {pins : List (Addr × Obj)} {σ : St} {H : Hp} {s : Shared} {l b : Addr} {xs ys zs : List V}
theorem Inv.lset {its its' : List Value} {n : Nat} {f : Array Value → Array Value} {t' : Nat} (I : Inv X pins σ H s) (hH : H l = some (.lst xs))
    (e : s.heap.get? l = some { cls := .type "list", data := .seq its.toArray n }) (hf : f its.toArray = its'.toArray) (hv : Vals ys its') (hz : ys.length ≤ sizeLine) :
    Inv X pins σ (upd H l (.lst ys)) { s with heap := s.heap.update l (Obj.mapSeq f), toks := t' } := by
  have q := PySem.IsL.update e f
  rw [hf] at q
  refine I.write (x := l) (e := l) (by rw [hH]; exact trivial) (.inl rfl) (fun b' u hb hu => (Heap.get?_update_other s.heap (Obj.mapSeq f) (Ne.symm hb)).trans hu) ⟨_, q⟩ ?_
  exact ⟨hz, its', _, hv, q⟩
theorem Inv.lnew {its : List Value} {t' : Nat} (I : Inv X pins σ H s) (hv : Vals ys its) (hz : ys.length ≤ sizeLine) :
    Inv X pins σ (upd H s.heap.objs.size (.lst ys)) { s with heap := s.heap.push { cls := .type "list", data := .seq its.toArray }, toks := t' } :=
  I.laid (fun _ _ q => Heap.get?_push_of_some _ q) (Nat.le_refl _) ⟨hz, its, 0, hv, Heap.get?_push_size _ rfl⟩
theorem Inv.fresh (I : Inv X pins σ H s) : H s.heap.objs.size = none := I.hok.fresh (Nat.le_refl _)
theorem Inv.lstM (I : Inv X pins σ H s) (hH : H l = some (.lst xs)) : xs.length ≤ sizeLine ∧ ∃ (its : List Value) (n : Nat), Vals xs its ∧ xs.length = its.length ∧ s.heap.get? l = some { cls := .type "list", data := .seq its.toArray n } := by
  obtain ⟨z, its, n, r, e⟩ := I.hok l _ hH
  exact ⟨z, its, n, r, r.length, e⟩
end
section
variable {X : Cx}
def rAppend : V → List V → Hp → VK → Prop := fun x vs H Q => ∃ l xs y, x = .ref l ∧ vs = [y] ∧ H l = some (.lst xs) ∧ xs.length < sizeLine ∧ Q .non (upd H l (.lst (xs ++ [y])))
theorem mt_append : MtM X "list.append" rAppend := by
  intro pins s σ H x vs v us Q I rx rv h
  obtain ⟨l, xs, y, rfl, rfl, hH, hz, q⟩ := h
  cases rx
  obtain ⟨u, rfl, ru⟩ := rv.one
  obtain ⟨z, its, n, r, hl, e⟩ := I.lstM hH
  refine call_meets F.slot_list_append ⟨_, e, rfl⟩ F.entry_list_append (F.args_list_append_2 _ _) (PySem.list_append l its.toArray n u (by rw [List.size_toArray]; omega)) ⟨e, ?_⟩
  refine ⟨.non, _, I.lset (its' := its ++ [u]) hH e (by simp) (r.append (.cons ru .nil)) ?_, rfl, q⟩
  rw [List.length_append, List.length_singleton]
  omega
def rCat : R2 := fun x y H Q => ∃ l b xs zs, x = .ref l ∧ y = .ref b ∧ H l = some (.lst xs) ∧ H b = some (.lst zs) ∧ xs.length + zs.length ≤ sizeLine ∧ ∀ p, H p = none → Q (.ref p) (upd H p (.lst (xs ++ zs)))
theorem op_cat : OpR X (binaryOp .Add) rCat := by
  intro pins s σ H x y v u Q I rx ry h
  obtain ⟨l, b, xs, zs, rfl, rfl, hH, hB, hz, q⟩ := h
  cases rx
  cases ry
  obtain ⟨z, its, n, r, hl, e⟩ := I.lstM hH
  obtain ⟨z2, its2, n2, r2, hl2, e2⟩ := I.lstM hB
  refine PySem.P.add_list e e2 ?_ (by rw [List.size_toArray, List.size_toArray]; omega)
  have ea : its.toArray ++ its2.toArray = (its ++ its2).toArray := by simp
  rw [ea]
  exact ⟨.ref _, _, I.lnew (t' := s.toks) (r.append r2) (by rw [List.length_append]; omega), rfl, q _ I.fresh⟩
end
section
variable {prog : Program} {w : World} {A : Around} {E : Value → Shared → Prop} {s : Shared}
end
section
variable {X : Cx}
end
end L2
namespace Att
open PySem PySem.W PySem.Calls PyProof.Rows
theorem ints_of_wellAll {P : Params} {h : Heap} : ∀ (ns : List Int) (vs : List Value), WellAll P h vs (ns.map WData.int) → IntsAre vs ns := by
  intro ns
  induction ns with
  | nil =>
    intro vs w
    rw [List.map_nil] at w
    cases w
    exact .nil
  | cons n ns ih =>
    intro vs w
    rw [List.map_cons] at w
    cases w with
    | cons a b =>
      cases a
      exact .cons _ _ (ih _ b)
theorem script_of {l : OpenLaw} {n : Nat} (hn : l.most = some n) {P : Params} {h : Heap} {args : List WData} {vals : List Value}
    (hpre : l.row.toRowW.claim.pre args = true) (hwl : WellAll P h vals args) :
    ∃ a vs ns, vals = [Value.ref a] ∧ args = [WData.list (ns.map WData.int)] ∧ h.get? a = some { cls := .type "list", data := .seq vs.toArray } ∧ IntsAre vs ns ∧ ns.length ≤ n := by
  have hsh : WShape.hasAll [] args [.list .int] = true := (pre_splitW hpre).1
  have hc : l.pre.holds [] { args := args } = true := (pre_splitW hpre).2
  obtain ⟨d, r, rfl, h1, h2⟩ := hasAllW_cons hsh
  obtain rfl := hasAllW_nil h2
  obtain ⟨xs, rfl, h3⟩ := hasW_list h1
  obtain ⟨ns, rfl⟩ := items_int h3
  have hlen : ns.length ≤ n := by
    unfold OpenLaw.pre at hc
    have h4 : (WTm.not (.lt (.lit (.int (n : Int))) (.len (.arg 0)))).holds [] { args := [.list (ns.map .int)] } = true := by
      have h4 := (holds_andW hc).1
      rw [hn] at h4
      exact h4
    have h5 := condW_of h4 (w_not (w_lt w_lit (w_len_list (w_arg rfl))))
    rw [List.length_map] at h5
    refine Nat.le_of_not_lt fun q => ?_
    have q' : (n : Int) < ((ns.length : Nat) : Int) := by omega
    first
      | (rw [decide_eq_true q'] at h5; exact absurd h5 (by decide))
      | (simp at h5; omega)
  cases hwl with
  | cons w1 w2 =>
    cases w2
    cases w1 with
    | list ho hall => exact ⟨_, _, ns, rfl, rfl, ho, ints_of_wellAll ns _ hall, hlen⟩
theorem post_true (l : OpenLaw) (args : List WData) : l.row.toRowW.claim.post args (.bool true) args = true :=
  postW_of (r := l.row.toRowW) (X := (true == true))
    (show WShape.has [] (.bool true) .bool = true by first | rfl | decide | simp [WShape.has, WShape.arms, WShape.armsAll])
    (show (WTm.eq .res (.lit (.bool true))).value [] { args := args, res := some (.bool true), after := args } = some (.bool (true == true)) from w_eq_bool (w_res rfl) w_lit) rfl
theorem attach_call {l : OpenLaw} {n : Nat} {q : Program} {loose : List Str} {XP : (Str → Option Value) → Heap → Prop} {YP : World → Heap → Prop} {d : DefRec}
    (hn : l.most = some n) (hdf : d.params.defaults = [])
    (call : ∀ (w : World) (s₀ s₁ : Shared) (mg mb : Str → Option Value) (fa : Addr) (o : Obj) (pm cd doc : Value) (a : Addr) (vs : List Value) (ns : List Int),
      Ground q loose [] XP w s₀ mg mb s₁.heap → YP w s₁.heap →
      s₁.heap.get? fa = some o → o.data = .func (docDef d.name d.params d.body d.scope pm cd doc) → s₁.heap.CodeRec cd d.name → mg d.name = some (.ref fa) →
      s₁.heap.get? a = some { cls := .type "list", data := .seq vs.toArray } → IntsAre vs ns → ns.length ≤ n → s₁.gens = #[] →
      codeAny (model l.prog w) callerA (.call (.ref fa) ⟨[.ref a], []⟩) (fun r s' => r = .ok (.ret (.bool true)) ∧ OldK s₁.heap s'.heap ∧ s'.os = s₁.os ∧ AllBare s'.gens) s₁) :
    WalkO q loose XP YP l.row.toRowW d [] (fun f vs => PySem.call f vs) := by
  intro w s₀ s₁ mg mb G Y fa o pm cd doc dV kV ho hd hcd hD hmg hg args vals as hpre hlay hrd hwl hlo
  obtain rfl : dV = .none := Dflts.none hD hdf
  obtain rfl : kV = .none := Dflts.noKw hD
  obtain ⟨a, vs, ns, rfl, rfl, hobj, hints, hlen⟩ := script_of hn hpre hwl
  refine enter_call (codeAny_mono (call w s₀ s₁ mg mb fa o pm cd doc a vs ns G Y ho (fd_plain hd) hcd hmg hobj hints hlen hg) fun r s' hq => ?_)
  obtain ⟨rfl, h2, h3, h4⟩ := hq
  exact ⟨.inl ⟨.bool true, .bool true, [], rfl, fun _ => rfl, .bool true, post_true l _, fun _ => ⟨List.Pairwise.nil, fun _ hm => (nomatch hm)⟩⟩, h2, h3, h4⟩
section
variable {prog : Program} {w : World} {A : Around} {E : Value → Shared → Prop} {s : Shared} {K : Frag}
end
end Att
namespace L2
open PySem PySem.Spec PyProof.Rows
theorem vals_ints : ∀ {vs : List Value} {ns : List Int}, IntsAre vs ns → Vals (ns.map V.int) vs
  | _, _, .nil => .nil
  | _, _, .cons n t h => .cons ⟨t, rfl⟩ (vals_ints h)
end L2
namespace L2
open PySem PySem.Spec PyProof.Rows
end L2
namespace L2
open PySem PySem.Spec PyProof.Rows
def inClass (s : Stmt) (j : Nat) : Stmt := match s with
  | .ClassDef _ _ _ body _ _ _ _ _ _ _ => body.getD j (.Pass ⟨0, 0, 0, 0⟩)
  | _ => .Pass ⟨0, 0, 0, 0⟩
def defArgs (s : Stmt) : Arguments := match s with
  | .FunctionDef _ a _ _ _ _ _ _ _ _ => a
  | _ => { posonlyargs := [], args := [], vararg := none, kwonlyargs := [], kw_defaults := [], kwarg := none, defaults := [] }
def defBody (s : Stmt) : List Stmt := match s with
  | .FunctionDef _ _ b _ _ _ _ _ _ _ => b
  | _ => []
def defScope (s : Stmt) : Scope := match s with
  | .FunctionDef _ _ _ _ _ _ sc _ _ _ => sc
  | _ => { kind := .function, names := [], isGenerator := false, isCoroutine := false }
abbrev CX0 : CXT := fun _ _ _ _ _ _ => False
abbrev E0 : XK := fun _ _ _ => False
theorem pass0 {X : Cx} : Passes CX0 X E0 := fun _ _ _ _ _ _ _ h => h.elim
structure Fun (K : Frag) (x qual : Str) (st : Stmt) (f : Addr) (fd : FuncData) : Prop where
  ex : ∃ (oc : Value) (od : Option Addr) (kV doc pm : Value) (an : Option Addr) (cdv ct : Value) (osl : Array (Option Value)),
    fd = fnOf x qual (defArgs st) (defBody st) (defScope st) .none kV doc pm an cdv ct ∧ K.lookup f = some ⟨oc, od, .func fd, osl⟩ ∧ PySem.W.codeIn K cdv qual = true
  kp : keepIn K (.ref f) = true
section
variable {P : Program} {w : World} {K : Frag} {mg : Str → Option Value} {base : Heap}
theorem Fun.ok {x qual : Str} {st : Stmt} {f : Addr} {fd : FuncData} {N ps : List Str} {k : Nat} {sp : Sp} (F : Fun K x qual st f fd) (S : FnScope N ps (defScope st)) (len : ∀ vs H Q E, sp vs H Q E → vs.length = ps.length)
    (hbody : ∀ (cdv : Value) (A : Around) (outer : List Env) (s : Shared) (H : Hp) (vs : List V) (Q : VK) (E : XK), Room k (A.deeper (envOfC qual (defScope st) s.heap.objs.size f cdv)) → sp vs H Q E →
      ∃ t, PSs (cxOf CX0 P w K mg base N qual (defScope st) f cdv A outer s H E).nox (defBody st) t ∧ t { nx := fun _ H' => Q .non H', rt := Q } (start N vs) H) : FnOk P w K mg base CX0 (k + 1) f fd ps sp := by
  obtain ⟨oc, od, kV, doc, pm, an, cdv, ct, osl, rfl, lk, hcd⟩ := F.ex
  refine fn_of lk hcd S len fun A outer s H vs Q E hr hsp => ?_
  obtain ⟨t, h, q⟩ := hbody cdv A outer s H vs Q E hr hsp
  exact ⟨t, h.nox, q⟩
theorem Fun.binds {x qual : Str} {st : Stmt} {f : Addr} {fd : FuncData} {ps : List Str} (F : Fun K x qual st f fd)
    (h : ∀ (kV doc pm : Value) (an : Option Addr) (cdv ct : Value) (us : List Value), us.length = ps.length → bindArgs (fnOf x qual (defArgs st) (defBody st) (defScope st) .none kV doc pm an cdv ct) ⟨us, []⟩ = pure (ps.zip us)) : Binds K fd ps [] := by
  obtain ⟨oc, od, kV, doc, pm, an, cdv, ct, osl, rfl, lk, hcd⟩ := F.ex
  exact .all (h kV doc pm an cdv ct)
theorem fun_mk {x qual : Str} {st : Stmt} {f : Addr} {oc : Value} {od an : Option Addr} {osl : Array (Option Value)} {kV doc pm cdv ct : Value} (l : K.lookup f = some ⟨oc, od, .func (fnOf x qual (defArgs st) (defBody st) (defScope st) .none kV doc pm an cdv ct), osl⟩)
    (c : PySem.W.codeIn K cdv qual = true) (k : keepIn K (.ref f) = true) : Fun K x qual st f (fnOf x qual (defArgs st) (defBody st) (defScope st) .none kV doc pm an cdv ct) := ⟨⟨oc, od, kV, doc, pm, an, cdv, ct, osl, rfl, l, c⟩, k⟩
end
section
variable {X : Cx}
end
theorem iteF {A B : Prop} (h : B) : if false = true then A else B := by
  rw [if_neg Bool.false_ne_true]
  exact h
theorem iteT {A B : Prop} (h : A) : if true = true then A else B := by
  rw [if_pos rfl]
  exact h
theorem ite2 {c A B : Prop} [Decidable c] (h1 : c → A) (h2 : ¬ c → B) : if c then A else B := by
  by_cases h : c
  · rw [if_pos h]
    exact h1 h
  · rw [if_neg h]
    exact h2 h
def Same (H H' : Hp) : Prop := ∀ b o, H b = some o → H' b = some o
theorem Same.refl (H : Hp) : Same H H := fun _ _ h => h
theorem Same.trans {H H1 H2 : Hp} (a : Same H H1) (b : Same H1 H2) : Same H H2 := fun c o h => b c o (a c o h)
theorem Same.free {H H' : Hp} (e : Same H H') {l : Addr} (h : H' l = Option.none) : H l = Option.none := by
  cases q : H l with
  | none => rfl
  | some o =>
    rw [e l o q] at h
    cases h
theorem Same.seq {K : Frag} {H H' : Hp} {a : Addr} {xs : List V} (e : Same H H') (h : SqL K H a xs) : SqL K H' a xs := by
  rcases h with (h | ⟨o, h⟩) | h
  · exact .inl (.inl (e _ _ h))
  · exact .inl (.inr ⟨o, e _ _ h⟩)
  · exact .inr h
end L2
namespace PySem
open Sem (wp)
theorem closureFor_some {scope : Scope} {env : Env} (h : ∀ y ∈ scope.names, y.2 = .free → ∃ c, env.cells.lookup y.1 = some c) :
    ∃ cl, closureFor scope env = pure cl ∧ (∀ x c, cl.lookup x = some c → env.cells.lookup x = some c) ∧
      ∀ y ∈ scope.names, y.2 = .free → ∃ c, cl.lookup y.1 = some c := by
  have key : ∀ (names : List (Str × NameKind)) (acc : List (Str × Addr)), (∀ y ∈ names, y.2 = .free → ∃ c, env.cells.lookup y.1 = some c) →
      (∀ x c, acc.lookup x = some c → env.cells.lookup x = some c) →
      ∃ cl, (forIn names acc fun (x : Str × NameKind) (r : List (Str × Addr)) => (if (x.2 == NameKind.free) = true then do let c ← cellOf env x.1; pure (ForInStep.yield ((x.1, c) :: r)) else pure (ForInStep.yield r) : Sem _)) = pure cl ∧
        (∀ x c, cl.lookup x = some c → env.cells.lookup x = some c) ∧ (∀ y ∈ names, y.2 = .free → ∃ c, cl.lookup y.1 = some c) ∧ ∀ x c, acc.lookup x = some c → ∃ c', cl.lookup x = some c' := by
    intro names
    induction names with
    | nil => intro acc _ ha; exact ⟨acc, rfl, ha, (fun _ hy => nomatch hy), fun x c e => ⟨c, e⟩⟩
    | cons y r ih =>
      intro acc hf ha
      obtain ⟨n, k⟩ := y
      have hr : ∀ y ∈ r, y.2 = .free → ∃ c, env.cells.lookup y.1 = some c := fun y hy => hf y (List.mem_cons_of_mem _ hy)
      by_cases hk : k = .free
      · subst hk
        obtain ⟨c, hc⟩ := hf (n, .free) List.mem_cons_self rfl
        have ha' : ∀ x d, ((n, c) :: acc).lookup x = some d → env.cells.lookup x = some d := fun x d e => by
          rw [List.lookup_cons] at e
          by_cases hx : x = n
          · subst hx; simp at e; rw [← e]; exact hc
          · have : (x == n) = false := by simpa using hx
            rw [this] at e; exact ha x d e
        obtain ⟨cl, e1, e2, e3, e4⟩ := ih ((n, c) :: acc) hr ha'
        refine ⟨cl, ?_, e2, fun y hy hyf => ?_, fun x d e => ?_⟩
        · rw [List.forIn_cons]
          have q : cellOf env n = pure c := by unfold cellOf; rw [hc]
          simp only [beq_self_eq_true, if_true, q]
          exact e1
        · rcases List.mem_cons.mp hy with rfl | hy
          · obtain ⟨c', q⟩ := e4 n c (by rw [List.lookup_cons]; simp)
            exact ⟨c', q⟩
          · exact e3 y hy hyf
        · by_cases hx : x = n
          · subst hx; exact e4 x c (by rw [List.lookup_cons]; simp)
          · have hb : (x == n) = false := by simpa using hx
            exact e4 x d (by rw [List.lookup_cons, hb]; exact e)
      · have hb : (k == NameKind.free) = false := by simpa using hk
        obtain ⟨cl, e1, e2, e3, e4⟩ := ih acc hr ha
        refine ⟨cl, ?_, e2, fun y hy hyf => ?_, e4⟩
        · rw [List.forIn_cons]
          simp only [hb, Bool.false_eq_true, if_false]
          exact e1
        · rcases List.mem_cons.mp hy with rfl | hy
          · exact absurd hyf hk
          · exact e3 y hy hyf
  obtain ⟨cl, e1, e2, e3, _⟩ := key scope.names [] h (fun x c e => by simp at e)
  refine ⟨cl, ?_, e2, e3⟩
  unfold closureFor
  simp only [bind_pure]
  exact e1
section
variable {prog : Program} {w : World} {A : Around} {E : Value → Shared → Prop} {R : Result → Shared → Prop} {s : Shared}
theorem codeAny_compLoop_listG {elt target iter : Expr} {ifs : List Expr} {scope : Scope} {pos : Pos} {it acc : Value} {env : Env} (I : Nat → Shared → Prop)
    (turn : ∀ n s, I n s → wpAny (model prog w) A (pyNext it) (fun r s₁ => match r with
      | none => R (.ok .next) s₁
      | some v => wpAny (model prog w) A (letOwnedTupleGo target it v) (fun _ s₁' => wpAny (model prog w) A (assign target env v) (fun _ s₂ =>
          wpAny (model prog w) A (forIn ifs true fun c r => if r = true then do let ok ← isTrue c env (eval c env); pure (ForInStep.yield ok) else pure (ForInStep.yield r)) (fun ok s₃ =>
            if ok = true then wpAny (model prog w) A (eval elt env) (fun x s₄ =>
              wpAny (model prog w) A (call (.builtin "list.append") [acc, x]) (fun _ s₅ => ∃ m, m < n ∧ I m s₅) (fun _ _ => False) s₄) (fun _ _ => False) s₃
            else ∃ m, m < n ∧ I m s₃) (fun _ _ => False) s₂) (fun _ _ => False) s₁') (fun _ _ => False) s₁) (fun _ _ => False) s)
    (n : Nat) (h : I n s) :
    codeAny (model prog w) A (.compLoop (.ListComp elt [⟨target, iter, ifs, 0⟩] scope pos) 0 it acc env) R s := by
  refine codeAny_loop rfl I (fun n s hI => ?_) n h
  show wpAny _ A ((compTurn (.ListComp elt [⟨target, iter, ifs, 0⟩] scope pos) 0 it acc env).onRaise (fun x => do noteFrame x env; theTreesLotGoes x)) _ _ s
  refine wpAny_noted ?_
  rw [compTurn_list]
  refine wpAny_bind (wpAny_standAt (wpAny_bind (wpAny_mono (turn n s hI) (fun r s₁ h₁ => ?_) fun _ _ h' => h'.elim)))
  cases r with
  | none => exact wpAny_pure h₁
  | some v =>
    refine wpAny_bind (wpAny_mono h₁ (fun _ s₁' h₁' => ?_) fun _ _ h' => h'.elim)
    refine wpAny_bind (wpAny_mono h₁' (fun _ s₂ h₂ => wpAny_bind (wpAny_mono h₂ (fun ok s₃ h₃ => ?_) fun _ _ h' => h'.elim)) fun _ _ h' => h'.elim)
    cases ok with
    | false => exact wpAny_pure ⟨rfl, h₃⟩
    | true =>
      exact wpAny_bind (wpAny_bind (wpAny_mono h₃ (fun x s₄ h₄ => wpAny_bind (wpAny_mono h₄ (fun _ s₅ h₅ => wpAny_pure (wpAny_pure ⟨rfl, h₅⟩)) fun _ _ h' => h'.elim)) fun _ _ h' => h'.elim))
end
end PySem
namespace L2
open PySem PySem.Spec PyProof.Rows
def slotOf : List Str → St → Str → Option V
  | n :: N, v :: σ, x => if n = x then v else slotOf N σ x
  | _, _, _ => none
def cmpSt (N : List Str) (σ : St) (names : List (Str × NameKind)) : St := names.map fun p => if p.2 = NameKind.free then slotOf N σ p.1 else none
theorem slotOf_get : ∀ {N : List Str} {σ : St} {x : Str} {v : V}, slotOf N σ x = some v → ∃ i : Nat, N[i]? = some x ∧ σ[i]? = some (some v)
  | [], _, _, _, h => by simp [slotOf] at h
  | _ :: _, [], _, _, h => by simp [slotOf] at h
  | n :: N, u :: σ, x, v, h => by
    unfold slotOf at h
    by_cases e : n = x
    · rw [if_pos e] at h; exact ⟨0, by simp [e], by simp [h]⟩
    · rw [if_neg e] at h
      obtain ⟨i, h1, h2⟩ := slotOf_get h
      exact ⟨i + 1, by simpa using h1, by simpa using h2⟩
def Cx.cmp (X : Cx) (scope : Scope) (cl : List (Str × Addr)) (C : Addr) (s₀ : Shared) (H₀ : Hp) (fp : List Addr) : Cx where
  prog := X.prog
  w := X.w
  K := X.K
  mg := X.mg
  base := X.base
  A := X.A
  N := scope.names.map (·.1)
  s₀ := s₀
  H₀ := H₀
  env := compEnvC scope cl C X.env
  outer := X.stack
  stack := X.stack
  ex := fp
  fn := fun _ => false
  calm := X.calm
  pn := []
  xe := fun _ _ => False
def cmpB (sc scope : Scope) : Bool :=
  decide (scope.kind = .function) && scope.names.all (fun y => decide (y.2 ≠ .cell) && (decide (y.2 ≠ .free) || decide (sc.names.lookup y.1 = some .cell) || decide (sc.names.lookup y.1 = some .free))) && decide (scope.names.map (·.1)).Nodup
structure CmpOk (X : Cx) (scope : Scope) : Prop where
  kind : scope.kind = .function
  nocell : ∀ y ∈ scope.names, y.2 ≠ .cell
  free : ∀ y ∈ scope.names, y.2 = .free → X.env.kindOf y.1 = some .cell ∨ X.env.kindOf y.1 = some .free
  nd : (scope.names.map (·.1)).Nodup
theorem CmpOk.of {X : Cx} {scope : Scope} (h : cmpB X.env.scope scope = true) : CmpOk X scope := by
  unfold cmpB at h
  rw [Bool.and_eq_true, Bool.and_eq_true] at h
  obtain ⟨⟨h1, h2⟩, h3⟩ := h
  rw [List.all_eq_true] at h2
  refine ⟨of_decide_eq_true h1, fun y hy => ?_, fun y hy e => ?_, of_decide_eq_true h3⟩
  · have := h2 y hy; rw [Bool.and_eq_true] at this; exact of_decide_eq_true this.1
  · have := h2 y hy; rw [Bool.and_eq_true, Bool.or_eq_true, Bool.or_eq_true] at this
    rcases this.2 with (q | q) | q
    · exact absurd e (of_decide_eq_true q)
    · exact .inl (of_decide_eq_true q)
    · exact .inr (of_decide_eq_true q)
theorem lookup_of_mem {names : List (Str × NameKind)} (nd : (names.map (·.1)).Nodup) {y : Str × NameKind} (hy : y ∈ names) : names.lookup y.1 = some y.2 := by
  induction names with
  | nil => nomatch hy
  | cons z r ih =>
    obtain ⟨n, k⟩ := z
    simp only [List.map_cons, List.nodup_cons] at nd
    rcases List.mem_cons.mp hy with rfl | hy
    · simp [List.lookup_cons]
    · have hne : (y.1 == n) = false := by
        simp only [beq_eq_false_iff_ne, ne_eq]
        rintro e
        exact nd.1 (e ▸ List.mem_map_of_mem (f := (·.1)) hy)
      rw [List.lookup_cons, hne]
      exact ih nd.2 hy
theorem mem_lookup {names : List (Str × NameKind)} {x : Str} {k : NameKind} (h : names.lookup x = some k) : (x, k) ∈ names := by
  induction names with
  | nil => simp at h
  | cons z r ih =>
    obtain ⟨n, j⟩ := z
    rw [List.lookup_cons] at h
    by_cases e : x = n
    · subst e; simp at h; subst h; exact List.mem_cons_self
    · have hb : (x == n) = false := by simpa using e
      rw [hb] at h; exact List.mem_cons_of_mem _ (ih h)
theorem relabel_kind {scope : Scope} {env : Env} {x : Str} {k : NameKind} (h : (relabel scope env).names.lookup x = some k) :
    scope.names.lookup x = some k ∨ (scope.names.lookup x = some .free ∧ k = .cell ∧ env.kindOf x = some .cell) := by
  unfold relabel at h
  simp only at h
  generalize scope.names = names at h ⊢
  induction names with
  | nil => simp at h
  | cons z r ih =>
    obtain ⟨n, j⟩ := z
    rw [List.map_cons, List.lookup_cons] at h
    rw [List.lookup_cons]
    by_cases e : x = n
    · subst e
      by_cases hc : (j == NameKind.free && env.scope.kind == .function && env.kindOf x == some .cell) = true
      · simp only [hc, if_true, beq_self_eq_true] at h ⊢
        simp only [Bool.and_eq_true, beq_iff_eq] at hc
        cases h
        exact .inr ⟨by rw [hc.1.1], rfl, hc.2⟩
      · simp only [hc, Bool.false_eq_true, if_false, beq_self_eq_true] at h ⊢
        exact .inl h
    · have hb : (x == n) = false := by simpa using e
      by_cases hc : (j == NameKind.free && env.scope.kind == .function && env.kindOf n == some .cell) = true
      · simp only [hc, if_true, hb] at h ⊢; exact ih h
      · simp only [hc, Bool.false_eq_true, if_false, hb] at h ⊢; exact ih h
theorem cmp_nd {X : Cx} {scope : Scope} {cl : List (Str × Addr)} {C : Addr} {s₀ : Shared} {H₀ : Hp} {fp : List Addr} (h : (scope.names.map (·.1)).Nodup) : (X.cmp scope cl C s₀ H₀ fp).N.Nodup := h
theorem inv_cmp {X : Cx} {pins : List (Addr × Obj)} {σ : St} {H : Hp} {s3 : Shared} {scope : Scope} {cl : List (Str × Addr)} {fp : List Addr} {h' : Heap} {tk : Nat} (I : Inv X pins σ H s3) (ok : CmpOk X scope)
    (hcl : ∀ x c, cl.lookup x = some c → X.env.cells.lookup x = some c) (hcf : ∀ y ∈ scope.names, y.2 = .free → ∃ c, cl.lookup y.1 = some c)
    (hfp : ∀ b ∈ fp, FpOk X pins H b) (hlt : ∀ b ∈ fp, b < s3.heap.objs.size) (hns : h'.Ns s3.heap.objs.size fun _ => none) (hk : ∀ b o, s3.heap.get? b = some o → h'.get? b = some o) :
    Inv (X.cmp scope cl s3.heap.objs.size s3 H fp) [] (cmpSt X.N σ scope.names) H { s3 with heap := h', toks := tk } := by
  have kinds : ∀ x, ((X.cmp scope cl s3.heap.objs.size s3 H fp).env.kindOf x = some .cell ∨ (X.cmp scope cl s3.heap.objs.size s3 H fp).env.kindOf x = some .free) → scope.names.lookup x = some .free := fun x hx => by
    rcases hx with hx | hx
    · rcases relabel_kind hx with q | q
      · exact absurd rfl (ok.nocell _ (mem_lookup q))
      · exact q.1
    · rcases relabel_kind hx with q | q
      · exact q
      · exact q.1
  refine ⟨⟨I.ok.mod, ok.kind, I.ok.glob, I.ok.blt, Nat.le_refl _, fun x y c h1 h2 => I.ok.inj x y c (hcl _ _ h1) (hcl _ _ h2), fun x hx => ?_, (fun x c z _ => nomatch z), I.ok.hd, I.ok.frames, .inl rfl,
      fun b hb => ⟨Nat.ne_of_lt (hlt b hb), fun x c e => (hfp b hb).2.2.2.2.1 x c (hcl _ _ e)⟩, I.bs, Nat.le_trans I.ok.bsz I.sz, fun b o e hb => ?_, fun b hb z => ?_, I.stack, I.stkFree⟩,
    rfl, I.bare, Un.kept hk, ⟨_, hns, fun i x v h1 h2 h3 => ?_⟩, fun x c e => ?_, I.hok.fresh (Nat.le_refl _), fun x c e => I.freeC x c (hcl _ _ e), fun p hp => absurd (show p ∈ ([] : List (Addr × Obj)) from hp) (by simp), I.hok.kept hk, ?_⟩
  · have q := kinds x hx
    exact hcf _ (mem_lookup q) rfl
  · rcases (hfp b hb).2.2.2.1 with z | z
    · exact I.ok.noex b o e z
    · exact Nat.lt_irrefl _ (Nat.lt_of_lt_of_le (Heap.lt_size e) (Nat.le_trans I.ok.bsz z))
  · rcases List.mem_cons.mp (I.stkSub b z) with q | q
    · exact (hfp b hb).2.1 q
    · exact (hfp b hb).2.2.1 q
  · -- the names
    have e1 : (scope.names.map (·.1))[i]? = some x := h1
    have e2 : (cmpSt X.N σ scope.names)[i]? = some (some v) := h2
    unfold cmpSt at e2
    rw [List.getElem?_map] at e1 e2
    cases q : scope.names[i]? with
    | none => rw [q] at e1; cases e1
    | some y =>
      rw [q] at e1 e2
      simp only [Option.map_some, Option.some.injEq] at e1 e2
      have hy : y ∈ scope.names := List.mem_of_getElem? q
      by_cases hf : y.2 = .free
      · rw [if_pos hf] at e2
        obtain ⟨j, j1, j2⟩ := slotOf_get e2
        obtain ⟨m, hn, hl⟩ := I.loc
        have vis : Vis X.env.scope y.1 := by
          rcases ok.free y hy hf with z | z
          · exact .inr (.inl z)
          · exact .inr (.inr z)
        obtain ⟨u, ru, lk⟩ := hl j y.1 v j1 j2 vis
        refine ⟨u, ru, .inr ?_⟩
        obtain ⟨c, hc⟩ := hcf y hy hf
        have hc' := hcl _ _ hc
        rcases lk with ⟨hkl, _⟩ | ⟨_, c2, hc2, hcell⟩
        · rcases ok.free y hy hf with z | z
          · rw [hkl] at z; cases z
          · rw [hkl] at z; cases z
        · rw [hc'] at hc2
          cases hc2
          subst e1
          refine ⟨?_, c, hc, let ⟨o, ho, hd⟩ := hcell; ⟨o, hk _ o ho, hd⟩⟩
          have h3' : Vis (relabel scope X.env) y.1 := h3
          have lf : scope.names.lookup y.1 = some .free := by rw [lookup_of_mem ok.nd hy, hf]
          rcases h3' with z | z | z
          · rcases relabel_kind z with q | q
            · rw [lf] at q; cases q
            · cases q.2.1
          · exact .inl z
          · exact .inr z
      · rw [if_neg hf] at e2; cases e2
  · obtain ⟨v, hv⟩ := I.cell x c (hcl _ _ e)
    obtain ⟨o, ho, hd⟩ := hv
    exact ⟨v, o, hk _ o ho, hd⟩
  · show (cmpSt X.N σ scope.names).length = (scope.names.map (·.1)).length
    unfold cmpSt
    rw [List.length_map, List.length_map]
def PTs (X : Cx) (ifs : List Expr) (t : TT) : Prop :=
  ∀ (pins : List (Addr × Obj)) (s : Shared) (σ : St) (H : Hp) (Q : Bool → Hp → Prop), Inv X pins σ H s → t σ H Q →
    wpAny (model X.prog X.w) X.A (forIn ifs true fun c r => if r = true then do let ok ← isTrue c X.env (eval c X.env); pure (ForInStep.yield ok) else pure (ForInStep.yield r)) (TP X pins σ Q) X.xe s
def tNoIf : TT := fun _ H Q => Q true H
theorem pts_nil {X : Cx} : PTs X [] tNoIf := fun _ _ _ H _ I h => wpAny_tests_nil ⟨H, I, h⟩
def tLC (N : List Str) (names : List (Str × NameKind)) (wi : TI) (g : TG) (tc : TT) (te : TE) : TE := fun σ H Q => wi σ H fun J H1 => ∀ D, H1 D = none →
  ∃ W : Nat → Nat → St → Hp → Prop, (∃ m, W 0 m (cmpSt N σ names) (upd H1 D (.lst []))) ∧ ∀ i m σ2 H2, W i m σ2 H2 →
    (J.stop i H2 ∧ Q (.ref D) H2) ∨ (J.go i H2 ∧ ∀ x H3, J.yld i H2 x H3 → g x σ2 H3 fun σ4 H4 => tc σ4 H4 fun b H5 =>
      if b = true then te σ4 H5 fun v H6 => ∃ ys m', H6 D = some (.lst ys) ∧ ys.length < sizeLine ∧ m' < m ∧ W (i + 1) m' σ4 (upd H6 D (.lst (ys ++ [v]))) else ∃ m', m' < m ∧ W (i + 1) m' σ4 H5)
theorem pinsAt_get {X : Cx} {pins : List (Addr × Obj)} {σ : St} {H : Hp} {s : Shared} {fp : List Addr} {h : Heap} (I : Inv X (pins ++ pinsAt fp h) σ H s) {b : Addr} {o : Obj} (hb : b ∈ fp) (e : h.get? b = some o) : s.heap.get? b = some o ∧ H b = none := by
  have q := I.pin (b, o) (List.mem_append_right _ (List.mem_append_right _ (mem_pinsAt hb e)))
  exact ⟨q.1, q.2.1⟩
theorem after_cmp {X : Cx} {pins : List (Addr × Obj)} {σ σc : St} {H H' : Hp} {s3 s' : Shared} {scope : Scope} {cl : List (Str × Addr)} {fp : List Addr} {h' : Heap} {pins' : List (Addr × Obj)} (I : Inv X pins σ H s3)
    (hfp : ∀ b ∈ fp, FpOk X pins H b) (J : Inv (X.cmp scope cl s3.heap.objs.size s3 H fp) pins' σc H' s') (hb : Heap.SameBut s3.heap.objs.size s'.heap h') : Inv X pins σ H' { s' with heap := h' } := by
  have hC : H' s3.heap.objs.size = none := J.free
  have u : Un (frs X.stack) fp H H' s3.heap s'.heap := J.base
  have lt : ∀ b o, s3.heap.get? b = some o → b ≠ s3.heap.objs.size := fun b o e z => by subst z; exact Nat.lt_irrefl _ (Heap.lt_size e)
  have u' : Un (frs X.stack) fp H H' s3.heap h' := ⟨fun b o e n h1 h2 => hb.extBut b o (lt b o e) (u.keep b o e n h1 h2), fun b o e n h1 h2 => (by
      obtain ⟨sl, q⟩ := u.slot b o e n h1 h2; exact ⟨sl, hb.extBut b _ (lt b o e) q⟩), u.free, fun b o e h2 => (by
      obtain ⟨o', q⟩ := u.there b o e h2; exact ⟨o', hb.extBut b _ (lt b o e) q⟩), u.tups, u.frzs, u.tbls⟩
  have hok : HOk X.prog X.w H' h' := fun a o e => (J.hok a o e).stay (fun b v hbv q => hb.extBut b v (fun z => by
      subst z
      rcases hbv with z | z
      · subst z; rw [hC] at e; cases e
      · rw [hC] at z; cases z) q) (fun _ q => q) fun _ _ q => q
  exact I.call' (ch := fp) (J.os.trans rfl) u' hok J.bare fun b hbf => ⟨(hfp b hbf).2.2.2.1, (hfp b hbf).2.1, (hfp b hbf).2.2.2.2.1, (hfp b hbf).2.2.2.2.2⟩
theorem Inv.but {X : Cx} {pins : List (Addr × Obj)} {σ : St} {H : Hp} {s : Shared} {C : Addr} {h' : Heap} (I : Inv X pins σ H s) (f : FpOk X pins H C) (sb : Heap.SameBut C s.heap h') : Inv X pins σ H { s with heap := h' } :=
  I.turned (t' := s.toks) (fun b o hb e => sb.extBut b o hb e) f.1 f.2.1 f.2.2.2.1 f.2.2.2.2.1 f.2.2.2.2.2
theorem ns_lookup_nil {h : Heap} {a : Addr} (x : h.Ns a fun y => ([] : List (Str × Value)).reverse.lookup y) : h.Ns a fun _ => none := by
  have e : (fun y : Str => ([] : List (Str × Value)).reverse.lookup y) = fun _ => none := by funext y; simp
  rw [e] at x; exact x
theorem block_lc {X : Cx} {elt tg iter : Expr} {ifs : List Expr} {scope : Scope} {pos : Pos} {g : TG} {tc : TT} {te : TE} (hc : X.calm = true) (ok : CmpOk X scope)
    (hg : ∀ cl C s₀ H₀ fp, PG (X.cmp scope cl C s₀ H₀ fp) tg g) (ht : ∀ cl C s₀ H₀ fp, PTs (X.cmp scope cl C s₀ H₀ fp) ifs tc) (he : ∀ cl C s₀ H₀ fp, PE (X.cmp scope cl C s₀ H₀ fp) elt te)
    {pins : List (Addr × Obj)} {σ : St} {H1 : Hp} {s2 : Shared} {cl : List (Str × Addr)} {it : Addr} {fp : List Addr} {tn : Nat → Heap → Prop} {J : It} {Q : VK} {E : Value → Shared → Prop} {RR : Value → Addr → Result → Shared → Prop}
    (hcl : ∀ x c, cl.lookup x = some c → X.env.cells.lookup x = some c) (hcf : ∀ y ∈ scope.names, y.2 = .free → ∃ c, cl.lookup y.1 = some c)
    (I : Inv X pins σ H1 s2) (T : Turn X.prog X.w X.K tg J fp it tn) (st : tn 0 s2.heap) (hf : ∀ b ∈ fp, FpOk X pins H1 b)
    (h : ∀ D, H1 D = none → ∃ W : Nat → Nat → St → Hp → Prop, (∃ m, W 0 m (cmpSt X.N σ scope.names) (upd H1 D (.lst []))) ∧ ∀ i m σ2 H2, W i m σ2 H2 →
      (J.stop i H2 ∧ Q (.ref D) H2) ∨ (J.go i H2 ∧ ∀ x H3, J.yld i H2 x H3 → g x σ2 H3 fun σ4 H4 => tc σ4 H4 fun b H5 =>
        if b = true then te σ4 H5 fun v H6 => ∃ ys m', H6 D = some (.lst ys) ∧ ys.length < sizeLine ∧ m' < m ∧ W (i + 1) m' σ4 (upd H6 D (.lst (ys ++ [v]))) else ∃ m', m' < m ∧ W (i + 1) m' σ4 H5))
    (hRR : ∀ D C H' s' m, s'.heap.Ns C m → Inv X pins σ H' s' → FpOk X pins H' C → Q (.ref D) H' → RR (.ref D) C (.ok .next) s') :
    wpAny (model X.prog X.w) X.A (newList []) (fun acc s₃ => wpAny (model X.prog X.w) X.A (newFunctionEnv scope X.env.globals cl [] X.env.qual none .none (some X.env)) (fun cenv s₄ =>
      codeAny (model X.prog X.w) X.A (.compStart (.ListComp elt [⟨tg, iter, ifs, 0⟩] scope pos) 0 (.ref it) acc { cenv with scope := relabel scope X.env }) (RR acc cenv.locals) s₄) E s₃) E s2 := by
  refine wpAny_newObj_type ?_
  have I3 : Inv X pins σ (upd H1 s2.heap.objs.size (.lst [])) { s2 with heap := s2.heap.push { cls := .type "list", data := .seq ([] : List Value).toArray }, toks := s2.toks } := I.lnew (its := []) .nil (Nat.zero_le _)
  have hD : H1 s2.heap.objs.size = none := I.fresh
  obtain ⟨W, ⟨m0, w0⟩, turn⟩ := h _ hD
  generalize hs3 : ({ s2 with heap := s2.heap.push { cls := .type "list", data := .seq ([] : List Value).toArray }, toks := s2.toks } : Shared) = s3 at I3
  have kp3 : ∀ b o, s2.heap.get? b = some o → s3.heap.get? b = some o := fun b o e => by rw [← hs3]; exact Heap.get?_push_of_some _ e
  have fpD : ∀ b ∈ fp, b ≠ s2.heap.objs.size := fun b hb z => by
    obtain ⟨o, e, _⟩ := T.obj _ _ st b hb
    subst z
    exact Nat.lt_irrefl _ (Heap.lt_size e)
  have hf3 : ∀ b ∈ fp, FpOk X pins (upd H1 s2.heap.objs.size (.lst [])) b := fun b hb => ⟨by rw [upd_ne (fpD b hb)]; exact (hf b hb).1, (hf b hb).2⟩
  have st3 : tn 0 s3.heap := T.keep _ _ _ st fun b _ o e => kp3 b o e
  have lt3 : ∀ b ∈ fp, b < s3.heap.objs.size := fun b hb => by
    obtain ⟨o, e, _⟩ := T.obj _ _ st3 b hb
    exact Heap.lt_size e
  generalize hDD : s2.heap.objs.size = D at *
  refine wpAny_newFunctionEnv ok.nocell (by intro y hy; simp at hy) (fun h₁ hns₁ hsb₁ => ?_) ok.kind
  have kp4 : ∀ b o, s3.heap.get? b = some o → h₁.get? b = some o := fun b o e => hsb₁.extBut b o (fun z => by subst z; exact Nat.lt_irrefl _ (Heap.lt_size e)) (Heap.get?_push_of_some _ e)
  have I4 := inv_cmp (tk := s3.toks + ([] : List (Str × Value)).length) I3 ok hcl hcf hf3 lt3 (ns_lookup_nil hns₁) kp4
  generalize hs4 : ({ s3 with heap := h₁, toks := s3.toks + ([] : List (Str × Value)).length } : Shared) = s4 at I4
  have st4 : tn 0 s4.heap := by rw [← hs4]; exact T.keep _ _ _ st3 fun b _ o e => kp4 b o e
  show codeAny _ _ (.compStart (.ListComp elt [⟨tg, iter, ifs, 0⟩] scope pos) 0 (.ref it) (.ref D) (compEnvC scope cl s3.heap.objs.size X.env)) (RR (.ref D) s3.heap.objs.size) s4
  generalize hX : X.cmp scope cl s3.heap.objs.size s3 (upd H1 D (.lst [])) fp = Y at I4
  have eA : Y.A = X.A := by rw [← hX]; rfl
  have eP : Y.prog = X.prog := by rw [← hX]; rfl
  have eW : Y.w = X.w := by rw [← hX]; rfl
  have eK : Y.K = X.K := by rw [← hX]; rfl
  have eC : Y.calm = true := by rw [← hX]; exact hc
  have eE : Y.env = compEnvC scope cl s3.heap.objs.size X.env := by rw [← hX]; rfl
  have eX : Y.xe = fun _ _ => False := by rw [← hX]; rfl
  have stat : ∀ {H' : Hp}, (∀ b ∈ fp, H' b = none) → ∀ b ∈ fp, FpOk Y [] H' b := fun {H'} hn b hb => by
    subst hX
    refine ⟨hn b hb, Nat.ne_of_lt (lt3 b hb), fun z => ?_, .inl hb, fun x c e => (hf3 b hb).2.2.2.2.1 x c (hcl _ _ e), fun p hp => absurd (show p ∈ ([] : List (Addr × Obj)) from hp) (by simp)⟩
    rcases List.mem_cons.mp (I3.stkSub b z) with q | q
    · exact (hf3 b hb).2.1 q
    · exact (hf3 b hb).2.2.1 q
  have loop : codeAny (model X.prog X.w) X.A (.compLoop (.ListComp elt [⟨tg, iter, ifs, 0⟩] scope pos) 0 (.ref it) (.ref D) (compEnvC scope cl s3.heap.objs.size X.env)) (RR (.ref D) s3.heap.objs.size) s4 := by
    refine codeAny_compLoop_listG (fun n s' => ∃ i σ' H', Inv Y [] σ' H' s' ∧ tn i s'.heap ∧ (∀ b ∈ fp, H' b = none) ∧ W i n σ' H') ?_ m0 ⟨0, _, _, I4, st4, fun b hb => (hf3 b hb).1, w0⟩
    rintro n s5 ⟨i, σ5, H5, I5, st5, fr5, w5⟩
    rcases turn i n σ5 H5 w5 with ⟨stop, qn⟩ | ⟨go, step⟩
    · have q := T.done Y eP eW eK eC i [] s5 σ5 H5 (fun _ _ => False) I5 (stat fr5) st5 stop
      rw [eA] at q
      refine thn q fun r s6 ⟨hr, I6⟩ => ?_
      subst hr
      obtain ⟨m6, hn6, _⟩ := I6.loc
      have hn6' : s6.heap.Ns s3.heap.objs.size m6 := by rw [eE] at hn6; exact hn6
      rw [← hX] at I6
      exact hRR D s3.heap.objs.size H5 s6 m6 hn6' (after_cmp I3 hf3 I6 (.refl ..)) (I3.fpOk (Nat.le_refl _) I6.free) qn
    · have q := T.item Y eP eW eK eC i [] s5 σ5 H5 (fun _ _ => False) I5 (stat fr5) st5 go
      rw [eA] at q
      refine thn q fun r s6 ⟨u, hr, h6⟩ => ?_
      subst hr
      refine thn h6 fun _ s7 ⟨x, H7, I7, r7, y7, st7, fr7⟩ => ?_
      have I7' := I7.pinned (stat fr7) (T.obj _ _ st7)
      have gg : PG Y tg g := by rw [← hX]; exact hg _ _ _ _ _
      have tt : PTs Y ifs tc := by rw [← hX]; exact ht _ _ _ _ _
      have ee : PE Y elt te := by rw [← hX]; exact he _ _ _ _ _
      have q1 := gg _ s7 σ5 H7 x u _ I7' r7 (step x H7 y7)
      rw [eA, eP, eW, eE, eX] at q1
      refine thn q1 fun _ s8 ⟨σ8, H8, I8, q8⟩ => ?_
      have q2 := tt _ s8 σ8 H8 _ I8 q8
      rw [eA, eP, eW, eE, eX] at q2
      refine thn q2 fun b s9 ⟨H9, I9, q9⟩ => ?_
      have again : ∀ {H10 : Hp} {s10 : Shared}, Inv Y ([] ++ pinsAt fp s7.heap) σ8 H10 s10 → (∃ m', m' < n ∧ W (i + 1) m' σ8 H10) → ∃ m, m < n ∧ ∃ i σ' H', Inv Y [] σ' H' s10 ∧ tn i s10.heap ∧ (∀ b ∈ fp, H' b = none) ∧ W i m σ' H' := fun {H10 s10} J10 ⟨m', hm, w10⟩ => by
        refine ⟨m', hm, i + 1, σ8, H10, J10.unpinned, T.keep _ _ _ st7 fun b hb o e => (pinsAt_get J10 hb e).1, fun b hb => ?_, w10⟩
        obtain ⟨o, e, _⟩ := T.obj _ _ st7 b hb
        exact (pinsAt_get J10 hb e).2
      cases b with
      | false =>
        rw [if_neg Bool.false_ne_true] at q9 ⊢
        exact again I9 q9
      | true =>
        rw [if_pos rfl] at q9 ⊢
        have q3 := ee _ s9 σ8 H9 _ I9 q9
        rw [eA, eP, eW, eE, eX] at q3
        refine thn q3 fun u9 s10 ⟨v, H10, I10, r10, ys, m', hys, hz, hm, w10⟩ => ?_
        have q4 := mt_append (X := Y) _ s10 σ8 H10 (.ref D) [v] (.ref D) [u9] (fun _ H' => H' = upd H10 D (.lst (ys ++ [v]))) I10 rfl (.cons r10 .nil) ⟨D, ys, v, rfl, rfl, hys, hz, rfl⟩
        rw [eA, eP, eW, eX] at q4
        refine thn q4 fun _ s11 ⟨_, H11, I11, _, e11⟩ => ?_
        subst e11
        exact again I11 ⟨m', hm, w10⟩
  exact codeAny_compStart_list loop (T.self X.A 0 s4 _ _ st4 loop)
theorem pe_lc {X : Cx} {elt tg iter : Expr} {ifs : List Expr} {scope : Scope} {pos : Pos} {wi : TI} {g : TG} {tc : TT} {te : TE} {sc : Scope} (hc : X.calm = true) (hsc : X.env.scope = sc) (hok : cmpB sc scope = true) (hi : PI X tg iter wi)
    (hg : ∀ cl C s₀ H₀ fp, PG (X.cmp scope cl C s₀ H₀ fp) tg g) (ht : ∀ cl C s₀ H₀ fp, PTs (X.cmp scope cl C s₀ H₀ fp) ifs tc) (he : ∀ cl C s₀ H₀ fp, PE (X.cmp scope cl C s₀ H₀ fp) elt te)
    (hs : ∀ x, foldedSetIterable iter X.env x = pure x := by intro _; rfl) : PE X (.ListComp elt [⟨tg, iter, ifs, 0⟩] scope pos) (tLC X.N scope.names wi g tc te) := by
  intro pins s σ H Q I h
  have ok := CmpOk.of (X := X) (hsc ▸ hok)
  obtain ⟨cl, e1, e2, e3⟩ := closureFor_some (scope := scope) (env := X.env) fun y hy hf => I.ok.has y.1 (ok.free y hy hf)
  rw [eval_ListComp]
  refine wpAny_comprehension_free (use := none) rfl hs e1 ok.kind (fun y hy hl => by rw [lookup_of_mem ok.nd hy, hl]) (thn (hi pins s σ H _ I h) fun v s1 h1 => thn h1 fun itv s2 h2 => ?_)
  obtain ⟨it, fp, tn, J, H2, e, I2, T, st2, f2, q⟩ := h2
  subst e
  refine block_lc (E := X.xe) (RR := fun acc C => compPost (model X.prog X.w) X.A X.xe none (EP X pins σ Q) acc C) hc ok hg ht he e2 e3 I2 T st2 f2 q ?_
  intro D C H' s' m hn hI f hQ
  exact ⟨m, hn, fun h' sb => ⟨.ref D, H', hI.but f sb, rfl, hQ⟩⟩
end L2
namespace L2
open PySem PySem.Spec PyProof.Rows
section
variable {X : Cx}
end
end L2
namespace L2
open PySem PySem.Spec PyProof.Rows
theorem same_upd {H : Hp} {D : Addr} {o : HO} (h : H D = none) : Same H (upd H D o) := fun b u e => by rw [upd_ne (ne_of_none e h)]; exact e
theorem Same.tupS {K : Frag} {H H' : Hp} {a : Addr} {xs : List V} (e : Same H H') (h : SqT K H a xs) : SqT K H' a xs := by
  rcases h with (h | ⟨o, h⟩) | h
  · exact .inl (.inl (e _ _ h))
  · exact .inl (.inr ⟨o, e _ _ h⟩)
  · exact .inr h
def ItOf (J : It) (H1 : Hp) (xs : List V) : Prop := ∀ H2, Same H1 H2 → ∀ i, (i < xs.length → J.go i H2 ∧ ∀ x H3, J.yld i H2 x H3 → H3 = H2 ∧ xs[i]? = some x) ∧ (i = xs.length → J.stop i H2)
theorem itOf_list {K : Frag} {H : Hp} {a : Addr} {xs : List V} (h : SqL K H a xs) : ItOf (Itl K a) H xs := fun H2 s i =>
  ⟨fun hi => ⟨⟨xs, xs[i], s.seq h, by simp [hi]⟩, fun x H3 y => ⟨y.1, y.2 xs (s.seq h)⟩⟩, fun e => ⟨xs, s.seq h, by omega⟩⟩
theorem take_snoc {α : Type} {xs : List α} {i : Nat} {x : α} (h : xs[i]? = some x) : xs.take (i + 1) = xs.take i ++ [x] := by
  rw [List.take_add_one, h]; rfl
end L2
namespace L2
open PySem PySem.Spec PyProof.Rows
theorem boot_ty_list : bootBuiltins "list" = some (.type "list") := by decide +kernel
section
variable {X : Cx}
theorem pe_globI {x : Str} {i : Int} {pos : Pos} (hg : Gl X x) (hm : ∃ t, X.mg x = some (.int i t)) (hd : (x == ("__debug__" : Str)) = false := by decide) : PE X (.Name x pos) (tC (.int i)) := by
  obtain ⟨t, hm⟩ := hm
  exact pe_glob hg hm ⟨t, rfl⟩ hd
end
end L2
namespace L2
open PySem
theorem PSs.rd {X : Cx} {st : List Stmt} {t : TS} {D : Ends} {σ : St} {H : Hp} (h : PSs X st t) (q : t D σ H) : ∃ t, PSs X st t ∧ t D σ H := ⟨t, h, q⟩
end L2
namespace L2
open PySem
def tCut (t : TS) : TS := fun D σ H => ∃ M : L2.St → Hp → Prop, t { D with nx := M } σ H ∧ ∀ σ' H', M σ' H' → D.nx σ' H'
theorem ps_cut {X : Cx} {st : Stmt} {t : TS} (h : PS X st t) : PS X st (tCut t) := by
  intro pins s σ H D I q
  obtain ⟨M, q, hM⟩ := q
  refine thn (h pins s σ H _ I q) fun f s' r => ?_
  cases f with
  | next => obtain ⟨σ', H', I', m⟩ := r; exact ⟨σ', H', I', hM _ _ m⟩
  | brk => exact r
  | cont => exact r
  | ret u => exact r
end L2
namespace L2
theorem pj {j : Int} (h : decide ((0 : Int) < j) = true := by decide) : (0 : Int) < j := of_decide_eq_true h
theorem cdiv {x j : Int} (h : decide ((0 : Int) < j ∧ j < 1073741824) = true := by decide) : CDiv x j := by unfold CDiv; exact of_decide_eq_true h
theorem cmulR {x j : Int} (h : decide (-(2 ^ 64) < j ∧ j < 2 ^ 64) = true := by decide) : CMul x j := .inr (of_decide_eq_true h)
theorem cmulL {x j : Int} (h : decide (-(2 ^ 64) < x ∧ x < 2 ^ 64) = true := by decide) : CMul x j := .inl (of_decide_eq_true h)
end L2
namespace L2
open PySem PySem.Spec PyProof.Rows
theorem iteD {c A B : Prop} [Decidable c] (h1 : c → A) (h2 : ¬ c → B) : if decide c = true then A else B := by
  by_cases h : c
  · rw [if_pos (decide_eq_true h)]; exact h1 h
  · rw [if_neg (by rw [decide_eq_false h]; decide)]; exact h2 h
theorem iteND {c A B : Prop} [Decidable c] (h1 : ¬ c → A) (h2 : c → B) : if (!decide c) = true then A else B := by
  by_cases h : c
  · rw [if_neg (by rw [decide_eq_true h]; decide)]; exact h2 h
  · rw [if_pos (by rw [decide_eq_false h]; rfl)]; exact h1 h
theorem iteNB {b : Bool} {A B : Prop} (h1 : b = false → A) (h2 : b = true → B) : if (!b) = true then A else B := by
  cases b with
  | true => exact iteF (h2 rfl)
  | false => exact iteT (h1 rfl)
theorem get_lt {α : Type} {xs : List α} {i : Nat} {x : α} (h : xs[i]? = some x) : i < xs.length := by
  by_cases q : i < xs.length
  · exact q
  · rw [List.getElem?_eq_none (Nat.le_of_not_lt q)] at h; cases h
theorem get_some {α : Type} {xs : List α} {i : Nat} (h : i < xs.length) : ∃ x, xs[i]? = some x := ⟨xs[i], by simp [h]⟩
theorem lc_by {J : It} {H1 : Hp} {xs ws : List V} {g : TG} {tc : TT} {te : TE} {σ0 : L2.St} {Q : Addr → Hp → Prop} (hJ : ItOf J H1 xs) (S : L2.St → Prop) (h0 : S σ0) (hw : ws.length = xs.length) (hz : xs.length ≤ sizeLine)
    (hs : ∀ (i : Nat) (x w : V) (σ2 : L2.St) (H2 : Hp) (Qt : L2.St → V → Hp → Prop) (Qf : L2.St → Hp → Prop), xs[i]? = some x → ws[i]? = some w → Same H1 H2 → S σ2 → (∀ σ4, S σ4 → Qt σ4 w H2) →
      g x σ2 H2 fun σ4 H4 => tc σ4 H4 fun b H5 => if b = true then te σ4 H5 fun v H6 => Qt σ4 v H6 else Qf σ4 H5)
    (hQ : ∀ D, H1 D = none → Q D (upd H1 D (.lst ws))) :
    ∀ D, H1 D = none → ∃ W : Nat → Nat → L2.St → Hp → Prop, (∃ m, W 0 m σ0 (upd H1 D (.lst []))) ∧ ∀ i m σ2 H2, W i m σ2 H2 →
      (J.stop i H2 ∧ Q D H2) ∨ (J.go i H2 ∧ ∀ x H3, J.yld i H2 x H3 → g x σ2 H3 fun σ4 H4 => tc σ4 H4 fun b H5 =>
        if b = true then te σ4 H5 fun v H6 => ∃ ys m', H6 D = some (.lst ys) ∧ ys.length < sizeLine ∧ m' < m ∧ W (i + 1) m' σ4 (upd H6 D (.lst (ys ++ [v]))) else ∃ m', m' < m ∧ W (i + 1) m' σ4 H5) := by
  intro D hD
  refine ⟨fun i m σ2 H2 => i ≤ xs.length ∧ m = xs.length - i ∧ S σ2 ∧ H2 = upd H1 D (.lst (ws.take i)), ⟨xs.length, Nat.zero_le _, by omega, h0, by simp⟩, ?_⟩
  rintro i m σ2 H2 ⟨hi, rfl, hS, rfl⟩
  obtain ⟨j1, j2⟩ := hJ _ (same_upd hD) i
  by_cases hlt : i < xs.length
  · obtain ⟨go, yl⟩ := j1 hlt
    refine .inr ⟨go, fun x H3 y => ?_⟩
    obtain ⟨rfl, hx⟩ := yl x H3 y
    obtain ⟨w, hw'⟩ := get_some (xs := ws) (i := i) (by omega)
    have et := take_snoc hw'
    refine hs i x w σ2 _ _ _ hx hw' (same_upd hD) hS fun σ4 h4 => ?_
    refine ⟨_, xs.length - (i + 1), upd_same, ?_, by omega, hlt, rfl, h4, ?_⟩
    · rw [List.length_take]; omega
    · rw [upd_upd, et]
  · have e : i = xs.length := by omega
    refine .inl ⟨j2 e, ?_⟩
    rw [e, ← hw, List.take_length]
    exact hQ D hD
def PairAt (K : Frag) (H : Hp) (v : V) (l : Int × Int) : Prop := ∃ q, v = .ref q ∧ SqT K H q [.int l.1, .int l.2]
structure PairsAt (K : Frag) (H : Hp) (vs : List V) (L : List (Int × Int)) : Prop where
  len : vs.length = L.length
  at_ : ∀ (i : Nat) (l : Int × Int), L[i]? = some l → ∃ v, vs[i]? = some v ∧ PairAt K H v l
structure LinesAt (K : Frag) (H : Hp) (p : Addr) (L : List (Int × Int)) : Prop where
  ex : ∃ vs, SqT K H p vs ∧ PairsAt K H vs L
end L2
namespace L2
open PySem PySem.Spec PyProof.Rows
theorem pgc (i : Nat) {X : Cx} {scope : Scope} {cl : List (Str × Addr)} {C : Addr} {s₀ : Shared} {H₀ : Hp} {fp : List Addr} {x : Str} {pos : Pos} (hN : (scope.names.map (·.1)).Nodup := by decide +kernel)
    (hi : (scope.names.map (·.1))[i]? = some x := by rfl) (hx : (relabel scope X.env).names.lookup x = some .local := by rfl) : PG (X.cmp scope cl C s₀ H₀ fp) (.Name x pos) (gName i) :=
  pg_name (X := X.cmp scope cl C s₀ H₀ fp) (cmp_nd hN) hi (.inl hx) (.inr hx)
theorem pgc2 (i j : Nat) {X : Cx} {scope : Scope} {cl : List (Str × Addr)} {C : Addr} {s₀ : Shared} {H₀ : Hp} {fp : List Addr} {x y : Str} {px py pos : Pos} {k : Nat} (hN : (scope.names.map (·.1)).Nodup := by decide +kernel)
    (hi : (scope.names.map (·.1))[i]? = some x := by rfl) (hx : (relabel scope X.env).names.lookup x = some .local := by rfl)
    (hj : (scope.names.map (·.1))[j]? = some y := by rfl) (hy : (relabel scope X.env).names.lookup y = some .local := by rfl) (hc : X.calm = true := by rfl) :
    PG (X.cmp scope cl C s₀ H₀ fp) (.Tuple [.Name x px, .Name y py] k pos) (gTup X.K 2 (gCons (gName i) (gCons (gName j) gNil))) :=
  pg_tup (X := X.cmp scope cl C s₀ H₀ fp) (n := 2) hc (pgs_cons (pg_name (cmp_nd hN) hi (.inl hx) (.inr hx)) (pgs_cons (pg_name (cmp_nd hN) hj (.inl hy) (.inr hy)) pgs_nil))
section
variable {X : Cx} {elt tg iter : Expr} {ifs : List Expr} {scope : Scope} {pos : Pos} {wi : TI} {g : TG} {tc : TT} {te : TE}
theorem lcA (sc : Scope) (hi : PI X tg iter wi)
    (hg : ∀ cl C s₀ H₀ fp, PG (X.cmp scope cl C s₀ H₀ fp) tg g) (ht : ∀ cl C s₀ H₀ fp, PTs (X.cmp scope cl C s₀ H₀ fp) ifs tc) (he : ∀ cl C s₀ H₀ fp, PE (X.cmp scope cl C s₀ H₀ fp) elt te)
    (hc : X.calm = true := by rfl) (hsc : X.env.scope = sc := by rfl) (hok : cmpB sc scope = true := by decide +kernel)
    (hs : ∀ x, foldedSetIterable iter X.env x = pure x := by intro _; rfl) : PE X (.ListComp elt [⟨tg, iter, ifs, 0⟩] scope pos) (tLC X.N scope.names wi g tc te) := pe_lc hc hsc hok hi hg ht he hs
end
end L2
namespace L2
theorem iteF' {b : Bool} {A B : Prop} (e : b = false) (h : B) : if b = true then A else B := by rw [e]; exact iteF h
theorem iteT' {b : Bool} {A B : Prop} (e : b = true) (h : A) : if b = true then A else B := by rw [e]; exact iteT h
end L2
namespace L2
open PySem
section
variable {X : Cx}
end
end L2
namespace L2
open PySem
end L2
namespace L2
open PySem PySem.Spec PyProof.Rows
section
variable {X : Cx}
end
end L2
namespace HT
open PySem PySem.Spec PyProof.Rows
section
variable {prog : Program} {w : World} {A : Around} {E : Value → Shared → Prop} {s : Shared}
end
end HT
namespace L2
open PySem PySem.Spec PyProof.Rows
section
variable {X : Cx}
end
end L2
namespace L2
open PySem
end L2
namespace L2
open PySem PySem.Spec PyProof.Rows
section
variable {X : Cx}
variable {o e : Expr} {es : List Expr} {to : TE} {t : TA} {name : Str} {apos cpos : Pos} {T id : String} {r : V → List V → Hp → VK → Prop}
end
section
variable {X : Cx} {e : Expr} {f : Str} {pos : Pos} {ta : TE}
end
section
variable {X : Cx}
end
end L2
namespace L2
open PySem PySem.Spec PyProof.Rows
section
variable {X : Cx} {pins : List (Addr × Obj)} {σ : St} {H : Hp} {s : Shared} {h' : Heap}
end
section
variable {X : Cx} {es : List Expr} {kk : Nat} {tp : Pos}
end
def ItG (J : It) (H1 : Hp) (n : Nat) (Y : Nat → V → Hp → Prop) : Prop := ∀ H2, Same H1 H2 → ∀ i, (i < n → J.go i H2 ∧ ∀ x H3, J.yld i H2 x H3 → Same H2 H3 ∧ Y i x H3) ∧ (i = n → J.stop i H2)
theorem itG_of {J : It} {H1 : Hp} {xs : List V} (h : ItOf J H1 xs) : ItG J H1 xs.length (fun i x _ => xs[i]? = some x) := fun H2 s i =>
  ⟨fun hi => ⟨((h H2 s i).1 hi).1, fun x H3 y => by obtain ⟨rfl, e⟩ := ((h H2 s i).1 hi).2 x H3 y; exact ⟨fun _ _ q => q, e⟩⟩, (h H2 s i).2⟩
theorem lc_growD {J : It} {H1 : Hp} {n : Nat} {Y : Nat → V → Hp → Prop} {g : TG} {tc : TT} {te : TE} {σ0 : L2.St} {Q : Addr → Hp → Prop} (hJ : ItG J H1 n Y) (S : L2.St → Prop) (P : Addr → Nat → List V → Hp → Prop) (h0 : S σ0) (hz : n ≤ sizeLine) (hP0 : ∀ D H2, P D 0 [] H2)
    (hPS : ∀ D i ys H2 H3, P D i ys H2 → Same H2 H3 → P D i ys H3) (hPD : ∀ D i ys zs H2 o, H2 D = some (.lst zs) → P D i ys H2 → P D i ys (upd H2 D o))
    (hs : ∀ (D : Addr) (i : Nat) (x : V) (ys : List V) (σ2 : L2.St) (H2 : Hp) (Qt : L2.St → V → Hp → Prop) (Qf : L2.St → Hp → Prop), i < n → ys.length = i → Y i x H2 → H2 D = some (.lst ys) → Same H1 H2 → S σ2 → P D i ys H2 → (∀ σ4 v H6, S σ4 → Same H2 H6 → P D (i + 1) (ys ++ [v]) H6 → Qt σ4 v H6) →
      g x σ2 H2 fun σ4 H4 => tc σ4 H4 fun b H5 => if b = true then te σ4 H5 fun v H6 => Qt σ4 v H6 else Qf σ4 H5)
    (hQ : ∀ D H2 ys, H1 D = none → Same H1 H2 → H2 D = some (.lst ys) → ys.length = n → P D n ys H2 → Q D H2) :
    ∀ D, H1 D = none → ∃ W : Nat → Nat → L2.St → Hp → Prop, (∃ m, W 0 m σ0 (upd H1 D (.lst []))) ∧ ∀ i m σ2 H2, W i m σ2 H2 →
      (J.stop i H2 ∧ Q D H2) ∨ (J.go i H2 ∧ ∀ x H3, J.yld i H2 x H3 → g x σ2 H3 fun σ4 H4 => tc σ4 H4 fun b H5 =>
        if b = true then te σ4 H5 fun v H6 => ∃ ys m', H6 D = some (.lst ys) ∧ ys.length < sizeLine ∧ m' < m ∧ W (i + 1) m' σ4 (upd H6 D (.lst (ys ++ [v]))) else ∃ m', m' < m ∧ W (i + 1) m' σ4 H5) := by
  intro D hD
  refine ⟨fun i m σ2 H2 => i ≤ n ∧ m = n - i ∧ S σ2 ∧ Same H1 H2 ∧ ∃ ys, H2 D = some (.lst ys) ∧ ys.length = i ∧ P D i ys H2, ⟨n, Nat.zero_le _, by omega, h0, same_upd hD, [], upd_same, rfl, hP0 _ _⟩, ?_⟩
  rintro i m σ2 H2 ⟨hi, rfl, hS, sm, ys, hys, hyl, hP⟩
  obtain ⟨j1, j2⟩ := hJ _ sm i
  by_cases hlt : i < n
  · obtain ⟨go, yl⟩ := j1 hlt
    refine .inr ⟨go, fun x H3 y => ?_⟩
    obtain ⟨s3, hY⟩ := yl x H3 y
    refine hs D i x ys σ2 _ _ _ hlt hyl hY (s3 _ _ hys) (sm.trans s3) hS (hPS _ _ _ _ _ hP s3) fun σ4 v H6 h4 s6 p6 => ?_
    have h6 := s6 _ _ (s3 _ _ hys)
    refine ⟨ys, n - (i + 1), h6, by omega, by omega, hlt, rfl, h4, fun b o e => ?_, ys ++ [v], upd_same, by rw [List.length_append, hyl]; rfl, hPD _ _ _ _ _ _ h6 p6⟩
    rw [upd_ne (ne_of_none e hD)]
    exact s6 _ _ (s3 _ _ (sm _ _ e))
  · have e : i = n := by omega
    exact .inl ⟨j2 e, hQ D H2 ys hD sm hys (hyl.trans e) (e ▸ hP)⟩
end L2
namespace L2
theorem byC {p : Prop} (h : ¬ ¬ p) : p := Classical.byContradiction h
open PySem PySem.Spec PyProof.Rows
inductive tVarI (i : Nat) (σ : St) (H : Hp) (Q : VK) : Prop
  | mk (v : V) (h : σ[i]? = some (some v)) (q : Q v H) : tVarI i σ H Q
inductive rI0I (g : Int → Int → V) (x y : V) (H : Hp) (Q : VK) : Prop
  | mk (i j : Int) (hx : x = .int i) (hy : y = .int j) (q : Q (g i j) H) : rI0I g x y H Q
inductive rII (C : Int → Int → Prop) (g : Int → Int → V) (x y : V) (H : Hp) (Q : VK) : Prop
  | mk (i j : Int) (hx : x = .int i) (hy : y = .int j) (c : C i j) (q : Q (g i j) H) : rII C g x y H Q
inductive rIxLI (K : Frag) (x y : V) (H : Hp) (Q : VK) : Prop
  | mk (p : Addr) (xs : List V) (i : Int) (v : V) (hx : x = .ref p) (hy : y = .int i) (hs : SqL K H p xs) (ha : atI xs i = some v) (q : Q v H) : rIxLI K x y H Q
inductive rIxTI (K : Frag) (x y : V) (H : Hp) (Q : VK) : Prop
  | mk (p : Addr) (xs : List V) (i : Int) (v : V) (hx : x = .ref p) (hy : y = .int i) (hs : SqT K H p xs) (ha : atI xs i = some v) (q : Q v H) : rIxTI K x y H Q
section
variable {X : Cx}
theorem PE.imp {e : Expr} {t t' : TE} (h : PE X e t) (i : ∀ σ H Q, t' σ H Q → t σ H Q) : PE X e t' := fun pins s σ H Q I q => h pins s σ H Q I (i σ H Q q)
theorem OpR.imp {f : Value → Value → Sem Value} {r r' : R2} (h : OpR X f r) (i : ∀ x y H Q, r' x y H Q → r x y H Q) : OpR X f r' := fun pins s σ H x y v u Q I rx ry q => h pins s σ H x y v u Q I rx ry (i x y H Q q)
theorem pvI (i : Nat) {x : Str} {pos : Pos} (hN : X.N[i]? = some x := by rfl) (hv : Vis X.env.scope x := by first | exact Or.inl rfl | exact Or.inr (Or.inl rfl) | exact Or.inr (Or.inr rfl)) (hd : (x == ("__debug__" : Str)) = false := by decide)
    (hcd : (x == ("__classdict__" : Str)) = false := by decide) : PE X (.Name x pos) (tVarI i) := (pe_var hN hv hd hcd).imp fun _ _ _ ⟨v, h, q⟩ => ⟨v, h, q⟩
theorem o0 {f : Value → Value → Sem Value} {g : Int → Int → V} (h : OpR X f (rI0 g)) : OpR X f (rI0I g) := h.imp fun _ _ _ _ ⟨i, j, a, b, q⟩ => ⟨i, j, a, b, q⟩
theorem o1 {f : Value → Value → Sem Value} {C : Int → Int → Prop} {g : Int → Int → V} (h : OpR X f (rI C g)) : OpR X f (rII C g) := h.imp fun _ _ _ _ ⟨i, j, a, b, c, q⟩ => ⟨i, j, a, b, c, q⟩
theorem op_addI : OpR X (binaryOp .Add) (rI0I fun i j => .int (i + j)) := o0 op_add
theorem op_subI : OpR X (binaryOp .Sub) (rI0I fun i j => .int (i - j)) := o0 op_sub
theorem op_mulI : OpR X (binaryOp .Mult) (rII CMul fun i j => .int (i * j)) := o1 op_mul
theorem op_fdivI : OpR X (binaryOp .FloorDiv) (rII CDiv fun i j => .int (i / j)) := o1 op_fdiv
theorem op_modI : OpR X (binaryOp .Mod) (rII (fun _ j => 0 < j) fun i j => .int (i % j)) := o1 op_mod
theorem op_ltI : OpR X (compareOp .Lt) (rI0I fun i j => .bl (decide (i < j))) := o0 op_lt
theorem op_leI : OpR X (compareOp .LtE) (rI0I fun i j => .bl (decide (i ≤ j))) := o0 op_le
theorem op_gtI : OpR X (compareOp .Gt) (rI0I fun i j => .bl (decide (j < i))) := o0 op_gt
theorem IxR.imp {r r' : R2} (h : IxR X r) (i : ∀ x y H Q, r' x y H Q → r x y H Q) : IxR X r' := fun value slice pins s σ H x y v u Q I rx ry q e => h value slice pins s σ H x y v u Q I rx ry (i x y H Q q) e
theorem ix_listI (K : Frag) (h : X.K = K) : IxR X (rIxLI K) := by subst h; exact ix_list.imp fun _ _ _ _ ⟨p, xs, i, v, a, b, c, d, q⟩ => ⟨p, xs, i, v, a, b, c, d, q⟩
theorem ix_tupI (K : Frag) (h : X.K = K) : IxR X (rIxTI K) := by subst h; exact ix_tup.imp fun _ _ _ _ ⟨p, xs, i, v, a, b, c, d, q⟩ => ⟨p, xs, i, v, a, b, c, d, q⟩
end
end L2
namespace L2
open PySem PySem.Spec PyProof.Rows PyProof
section
variable {X : Cx}
end
end L2
namespace Mt
end Mt
namespace Rc
open PySem PySem.Spec PyProof.Rows L2
def InD (ds : List Int) : Prop := ∀ d ∈ ds, 0 ≤ d ∧ d < 997
theorem InD.snoc {ds : List Int} {d : Int} (h : InD ds) (h0 : 0 ≤ d) (h1 : d < 997) : InD (ds ++ [d]) := fun x hx => by
  rcases List.mem_append.mp hx with hx | hx
  · exact h x hx
  · rw [List.mem_singleton.mp hx]; exact ⟨h0, h1⟩
theorem map_snoc (ds : List Int) (d : Int) : ds.map V.int ++ [V.int d] = (ds ++ [d]).map V.int := by rw [List.map_append]; rfl
theorem small_line {n : Nat} (h : n ≤ 100000) : n < sizeLine := Nat.lt_of_le_of_lt h (by decide)
structure DrawSt (H0 H : Hp) (a r sl : Addr) (n : Nat) (ys : List V) (least most : Nat) (σ : L2.St) : Prop where
  ex : ∃ (row : List Int) (seed : Int) (c rest k : Option V), σ = [some (.ref a), some (.int n), some (.ref r), some (.int seed), c, rest, k] ∧ 0 ≤ seed ∧ seed < 2147483629 ∧ H r = some (.lst (row.map V.int)) ∧ least ≤ row.length ∧ row.length ≤ most ∧ InD row
  same : Same H0 H
  slc : H sl = some (.lst ys)
theorem draw_at {ds : List Int} (h : InD ds) {i : Nat} (hi : i < ds.length) : ∃ d : Nat, d < 997 ∧ atI (ds.map V.int) (i : Int) = some (V.int (d : Int)) := by
  obtain ⟨v, hv⟩ := get_some hi
  have := h v (List.mem_of_getElem? hv)
  refine ⟨v.toNat, by omega, ?_⟩
  have e : ((v.toNat : Nat) : Int) = v := by omega
  rw [e]
  exact atI_nat (by rw [List.getElem?_map, hv]; rfl)
theorem dec_strV {x y : Str} : decide (V.str x = V.str y) = decide (x = y) := by
  by_cases h : x = y
  · rw [h, decide_eq_true rfl, decide_eq_true rfl]
  · rw [decide_eq_false h, decide_eq_false (fun z => h (V.str.inj z))]
end Rc
namespace Rc
open PySem PySem.Spec PyProof.Rows L2
end Rc
namespace Rc
open PySem PySem.Spec PyProof.Rows L2
end Rc
namespace Rc
open PySem PySem.Spec PyProof.Rows L2
theorem len1 {p : List Value → Prop} : ∀ {us : List Value}, us.length = 1 → (∀ a0, p [a0]) → p us
  | [a0], _, h => h a0
theorem len2 {p : List Value → Prop} : ∀ {us : List Value}, us.length = 2 → (∀ a0 a1, p [a0, a1]) → p us
  | [a0, a1], _, h => h a0 a1
theorem len3 {p : List Value → Prop} : ∀ {us : List Value}, us.length = 3 → (∀ a0 a1 a2, p [a0, a1, a2]) → p us
  | [a0, a1, a2], _, h => h a0 a1 a2
theorem len4 {p : List Value → Prop} : ∀ {us : List Value}, us.length = 4 → (∀ a0 a1 a2 a3, p [a0, a1, a2, a3]) → p us
  | [a0, a1, a2, a3], _, h => h a0 a1 a2 a3
end Rc
namespace Rc
open PySem PySem.Spec PyProof.Rows L2
structure FL (K : Frag) (x q : Str) (st : Stmt) (f : Addr) : Prop where
  ex : ∃ (od an : Option Addr) (sl : Array (Option Value)) (oc kV dc pm cd ct : Value), K.lookup f = some ⟨oc, od, .func (fnOf x q (defArgs st) (defBody st) (defScope st) .none kV dc pm an cd ct), sl⟩ ∧ PySem.W.codeIn K cd q = true ∧ keepIn K (.ref f) = true
theorem fl_mk {K : Frag} {x q : Str} {st : Stmt} {f : Addr} {od an : Option Addr} {sl : Array (Option Value)} {oc kV dc pm cd ct : Value} (l : K.lookup f = some ⟨oc, od, .func (fnOf x q (defArgs st) (defBody st) (defScope st) .none kV dc pm an cd ct), sl⟩) (c : PySem.W.codeIn K cd q = true) (k : keepIn K (.ref f) = true) : FL K x q st f :=
  ⟨od, an, sl, oc, kV, dc, pm, cd, ct, l, c, k⟩
theorem FL.fn {K : Frag} {x q : Str} {st : Stmt} {f : Addr} (l : FL K x q st f) (ps : List Str)
    (h : ∀ (kV doc pm : Value) (an : Option Addr) (cdv ct : Value) (us : List Value), us.length = ps.length → bindArgs (fnOf x q (defArgs st) (defBody st) (defScope st) .none kV doc pm an cdv ct) ⟨us, []⟩ = pure (ps.zip us)) :
    ∃ fd, Fun K x q st f fd ∧ keepIn K (.ref f) = true ∧ Binds K fd ps [] := by
  obtain ⟨od, an, sl, oc, kV, dc, pm, cd, ct, l1, c, k⟩ := l.ex
  exact ⟨_, fun_mk l1 c k, k, (fun_mk l1 c k).binds h⟩
section
variable {K : Frag} {x q : Str} {st : Stmt} {f : Addr}
theorem FL.fn1 (l : FL K x q st f) (ps : List Str) (h : ∀ (kV doc pm : Value) (an : Option Addr) (cdv ct u0 : Value), bindArgs (fnOf x q (defArgs st) (defBody st) (defScope st) .none kV doc pm an cdv ct) ⟨[u0], []⟩ = pure (ps.zip [u0])) (hp : ps.length = 1 := by rfl) : ∃ fd, Fun K x q st f fd ∧ keepIn K (.ref f) = true ∧ Binds K fd ps [] :=
  l.fn ps fun kV doc pm an cdv ct us hl => len1 (p := fun us => bindArgs (fnOf x q (defArgs st) (defBody st) (defScope st) .none kV doc pm an cdv ct) ⟨us, []⟩ = pure (ps.zip us)) (hl.trans hp) fun u0 => h kV doc pm an cdv ct u0
theorem FL.fn2 (l : FL K x q st f) (ps : List Str) (h : ∀ (kV doc pm : Value) (an : Option Addr) (cdv ct u0 u1 : Value), bindArgs (fnOf x q (defArgs st) (defBody st) (defScope st) .none kV doc pm an cdv ct) ⟨[u0, u1], []⟩ = pure (ps.zip [u0, u1])) (hp : ps.length = 2 := by rfl) : ∃ fd, Fun K x q st f fd ∧ keepIn K (.ref f) = true ∧ Binds K fd ps [] :=
  l.fn ps fun kV doc pm an cdv ct us hl => len2 (p := fun us => bindArgs (fnOf x q (defArgs st) (defBody st) (defScope st) .none kV doc pm an cdv ct) ⟨us, []⟩ = pure (ps.zip us)) (hl.trans hp) fun u0 u1 => h kV doc pm an cdv ct u0 u1
theorem FL.fn3 (l : FL K x q st f) (ps : List Str) (h : ∀ (kV doc pm : Value) (an : Option Addr) (cdv ct u0 u1 u2 : Value), bindArgs (fnOf x q (defArgs st) (defBody st) (defScope st) .none kV doc pm an cdv ct) ⟨[u0, u1, u2], []⟩ = pure (ps.zip [u0, u1, u2])) (hp : ps.length = 3 := by rfl) : ∃ fd, Fun K x q st f fd ∧ keepIn K (.ref f) = true ∧ Binds K fd ps [] :=
  l.fn ps fun kV doc pm an cdv ct us hl => len3 (p := fun us => bindArgs (fnOf x q (defArgs st) (defBody st) (defScope st) .none kV doc pm an cdv ct) ⟨us, []⟩ = pure (ps.zip us)) (hl.trans hp) fun u0 u1 u2 => h kV doc pm an cdv ct u0 u1 u2
theorem FL.fn4 (l : FL K x q st f) (ps : List Str) (h : ∀ (kV doc pm : Value) (an : Option Addr) (cdv ct u0 u1 u2 u3 : Value), bindArgs (fnOf x q (defArgs st) (defBody st) (defScope st) .none kV doc pm an cdv ct) ⟨[u0, u1, u2, u3], []⟩ = pure (ps.zip [u0, u1, u2, u3])) (hp : ps.length = 4 := by rfl) : ∃ fd, Fun K x q st f fd ∧ keepIn K (.ref f) = true ∧ Binds K fd ps [] :=
  l.fn ps fun kV doc pm an cdv ct us hl => len4 (p := fun us => bindArgs (fnOf x q (defArgs st) (defBody st) (defScope st) .none kV doc pm an cdv ct) ⟨us, []⟩ = pure (ps.zip us)) (hl.trans hp) fun u0 u1 u2 u3 => h kV doc pm an cdv ct u0 u1 u2 u3
end
end Rc
namespace Rc
open PySem PySem.Spec PyProof.Rows L2
section
variable {K : Frag} {H H' : Hp} {v : V} {vs : List V} {c : Row} {cs : List Row} {x : Addr} {xs : List V} {o : HO}
end
section
variable {h : Int} {a b c : Addr}
end
theorem make_same {H H' : Hp} {x dx : Addr} {o1 o2 : HO} (hx : H x = none) (hdx : H dx = none) (s : ∀ b o, b ≠ x → (upd (upd H dx o2) x o1) b = some o → H' b = some o) : Same H H' := fun b o e =>
  s b o (ne_of_none e hx) (by rw [upd_ne (ne_of_none e hx), upd_ne (ne_of_none e hdx)]; exact e)
theorem make_pre {H : Hp} {x dx : Addr} {o1 o2 : HO} (hx : H x = none) (hdx : H dx = none) : Same H (upd (upd H dx o2) x o1) := fun b o e => by
  rw [upd_ne (ne_of_none e hx), upd_ne (ne_of_none e hdx)]; exact e
section
variable {F : Addr → Prop} {C : Addr} {K : Frag} {H H' : Hp} {t : Addr} {h : Nat} {cs : List Row} {ls : List Int}
end
end Rc
namespace Rc
open PySem PySem.Spec PyProof.Rows L2
end Rc
namespace Rc
open PySem PySem.Spec PyProof.Rows L2
section
variable {h : Nat} {cs : List Row} {ls acc : List Int}
end
end Rc
namespace Rc
open PySem PySem.Spec PyProof.Rows L2
section
variable {h : Nat} {cs : List Row} {ls acc : List Int} {f : Int → Int → Int}
end
end Rc
namespace Rc
open PySem PySem.Spec PyProof.Rows L2
section
variable {h : Nat} {cs : List Row} {ls acc : List Int}
end
end Rc
namespace Rc
open PySem PySem.Spec PyProof.Rows L2
section
variable {h : Nat} {cs : List Row} {ls acc : List Int}
end
end Rc
namespace Rc
open PySem PySem.Spec PyProof.Rows L2
section
variable {C : Addr} {K : Frag} {H H' : Hp} {dh r lo sp x : Addr} {ds : List Int} {us : List V} {cs : List Row} {ls : List Int} {ss : List Addr} {h : Nat}
end
end Rc
namespace Rc
open PySem PySem.Spec PyProof.Rows L2
section
variable {h : Nat} {cs : List Row} {ls a b c : List Int}
end
end Rc
namespace Rc
open PySem PySem.Spec PyProof.Rows L2
section
variable {h : Nat} {cs : List Row} {ls acc : List Int}
end
end Rc
namespace Rc
open PySem PySem.Spec PyProof.Rows L2
section
variable {CT CR : Addr} {K : Frag} {H H' : Hp} {x s t : Addr} {h : Nat} {cs : List Row} {ls acc : List Int}
end
section
variable {K : Frag} {H H' : Hp} {vs : List V} {L : List (Int × Int)}
end
section
variable {F G : Addr → Prop} {C : Addr} {K : Frag} {H H' : Hp} {t s : Addr} {h : Nat} {cs : List Row} {ls acc : List Int}
end
end Rc
namespace Rc
open PySem PySem.Spec PyProof.Rows L2
section
variable {F : Addr → Prop} {C : Addr} {K : Frag} {H H' : Hp} {t : Addr} {h : Nat} {cs : List Row} {ls : List Int}
end
section
variable {n hop : Nat} {kind : Str} {b : Int} {ms ws : Nat → Int} {cs : List Row} {acc : List Int}
end
end Rc
namespace Rc
open PySem PySem.Spec PyProof.Rows L2
section
variable {h : Nat} {cs : List Row} {ls a b : List Int}
end
end Rc
namespace L2
open PySem PySem.Spec PyProof.Rows
section
variable {P : Program} {w : World} {H H' : Hp} {h h' : Heap} {a : Addr} {o : HO}
theorem ObjOk.some (x : ObjOk P w H h a o) : ∃ ob, h.get? a = some ob := by
  induction o with
  | lst xs => obtain ⟨z, its, n, r, e⟩ := x; exact ⟨_, e⟩
  | tup xs => obtain ⟨z, its, r, ob, e, c⟩ := x; exact ⟨_, e⟩
  | dK kvs => obtain ⟨z, y, vs, r, ob, es, ep, e, c⟩ := x; exact ⟨_, e⟩
  | dT kvs => obtain ⟨z, y, xs, r, ob, es, ep, e, c⟩ := x; exact ⟨_, e⟩
  | set S n => obtain ⟨ob, es, ep, t, e, c⟩ := x; exact ⟨_, e⟩
  | ins C dx fs => obtain ⟨d, z, ne, e, mA, ⟨od, es, ep, e2, c⟩, r⟩ := x; exact ⟨_, e⟩
  | own y => exact x
  | xd fs => obtain ⟨mA, ⟨od, es, ep, e, c⟩, r⟩ := x; exact ⟨_, e⟩
  | rng lo hi => obtain ⟨t, u, v, e⟩ := x; exact ⟨_, e⟩
  | frz ob u ih => obtain ⟨e, q⟩ := x; exact ⟨_, e⟩
  | tbl ps => exact ⟨_, x⟩
  | met f y => exact ⟨_, x⟩
  | ext φ => obtain ⟨p, e, st⟩ := x; exact e
theorem HOk.keptT (x : HOk P w H h) (k : ∀ b u, H b ≠ none → h.get? b = some u → h'.get? b = some u) : HOk P w H h' := fun a o e =>
  (x a o e).stay (fun b u hb => k b u (by rcases hb with rfl | hb <;> simp [*])) (fun _ q => q) (fun _ _ q => q)
theorem HOk.none (x : HOk P w H h) (e : h.get? a = none) : H a = none := by
  cases q : H a with
  | none => rfl
  | some o => obtain ⟨ob, z⟩ := (x a o q).some; rw [e] at z; cases z
end
theorem Un.fly {fs : List Addr} {H₀ H : Hp} {h₀ h1 h2 : Heap} (u : Un fs [] H₀ H h₀ h1) (k : ∀ b o o', h₀.get? b = some o' → h1.get? b = some o → b ∉ fs → h2.get? b = some o)
    (sl : ∀ b o, h1.get? b = some o → b ∈ fs → ∃ sl, h2.get? b = some { o with slots := sl }) : Un fs [] H₀ H h₀ h2 where
  keep := fun b o q n hb hx => k b o o q (u.keep b o q n hb hx) hb
  slot := fun b o q n hb hx => by
    obtain ⟨s1, e1⟩ := u.slot b o q n hb hx
    obtain ⟨s2, e2⟩ := sl b _ e1 hb
    exact ⟨s2, e2⟩
  free := u.free
  there := fun b o q hx => by
    obtain ⟨o', e1⟩ := u.there b o q hx
    by_cases hb : b ∈ fs
    · obtain ⟨s2, e2⟩ := sl b _ e1 hb; exact ⟨_, e2⟩
    · exact ⟨_, k b o' o q e1 hb⟩
  tups := u.tups
  frzs := u.frzs
  tbls := u.tbls
def CXW (P : Program) (w : World) : CXT := fun outer H s E e s' => ∃ (a C t : Addr) (H' : Hp) (B : Heap), e = .ref a ∧ s'.os = s.os ∧ AllBare s'.gens ∧ Un (frs outer) [] H H' s.heap s'.heap ∧ HOk P w H' s'.heap ∧ H' a = none ∧ s.heap.get? a = none ∧
  Heap.FlyingW B outer a (.ref C) (.ref t) s'.heap ∧ (∀ b o, s'.heap.get? b = some o → b ∉ frs outer → ((∃ o', s.heap.get? b = some o') ∨ H' b ≠ none) → B.get? b = some o) ∧ E (.ref C) none H'
structure Cx.Flies (X : Cx) (E : XK) : Prop where
  ex : X.ex = []
  stk : X.stack = X.env :: X.outer
  fr : X.env.frame = some X.env.locals
  xe : ∀ e s', wpAny (model X.prog X.w) X.A (leaving X.env e) (fun _ s'' => CXW X.prog X.w X.outer X.H₀ X.s₀ E e s'') (fun _ _ => False) s' → X.xe e s'
section
variable {X : Cx} {pins : List (Addr × Obj)} {σ : St} {H : Hp} {s s' : Shared} {E E1 : XK} {a C : Addr} {args : List Value}
theorem Inv.notLoc (I : Inv X pins σ H s) (F : X.Flies E) {b : Addr} {o : Obj} (e : X.s₀.heap.get? b = some o) (n : b ∉ frs X.outer) : b ∉ frs X.stack := by
  rw [F.stk]
  intro z
  have : b ∈ X.env.locals :: frs X.outer := by
    have q : frs (X.env :: X.outer) = X.env.locals :: frs X.outer := by unfold frs; rw [List.filterMap_cons, F.fr]
    rw [q] at z; exact z
  rcases List.mem_cons.mp this with rfl | z
  · have := Heap.lt_size e
    exact absurd I.ok.above (Nat.not_le_of_lt this)
  · exact n z
theorem Inv.baseN (I : Inv X pins σ H s) (F : X.Flies E) : Un (frs X.outer) [] X.H₀ H X.s₀.heap s.heap := by
  have := I.base
  rw [F.ex] at this
  exact this
theorem Inv.slots (I : Inv X pins σ H s) {h2 : Heap} (k : s.heap.UpToSlots h2) : ∀ b o, s.heap.get? b = some o → b ∈ frs X.outer → ∃ sl, h2.get? b = some { o with slots := sl } := fun b o e hb => by
  obtain ⟨_, o', e', nf⟩ := I.funs.mem hb
  rw [e] at e'
  cases e'
  exact k b o e nf
theorem Inv.madeX (I : Inv X pins σ H s) (F : X.Flies E) {h' : Heap} (m : Heap.MadeExcOf s.heap h' a (.ref C) args) (q : E (.ref C) none H) : X.xe (.ref a) { s with heap := h' } := by
  refine F.xe _ _ (wpAny_leaves_madeW (h := s.heap) (base := PySem.W.hideAll s.heap (frs X.stack)) (by rw [I.ok.frames, F.stk]) F.fr (fun b o e => PySem.W.of_hideAll _ e) ?_ m fun h2 t fl tp nt up => ?_)
  · have := PySem.W.funFrames_hide I.stack (as := frs X.stack) fun env he b hb => List.mem_filterMap.mpr ⟨env, he, hb⟩
    rw [F.stk] at this ⊢
    exact this
  have inB : ∀ b o, s.heap.get? b = some o → b ∉ frs X.stack → (PySem.W.hideAll s.heap (frs X.stack)).get? b = some o := fun b o e n => PySem.W.hideAll_get _ e n
  have trk : ∀ b, H b ≠ none → b ∉ frs X.stack := fun b hb z => hb (I.stkFree b z)
  have up' : s.heap.UpToSlots h2 := (Heap.UpToSlots.of_keeps m.keeps).trans up
  refine ⟨a, C, t, H, _, rfl, I.os, I.bare, ?_, ?_, I.hok.none m.new, ?_, fl, ?_, q⟩
  · exact (I.baseN F).fly (fun b o o' e0 e1 n => fl.1 b o (inB b o e1 (I.notLoc F e0 n))) (I.slots up')
  · exact I.hok.keptT fun b u hb e => fl.1 b u (inB b u e (trk b hb))
  · cases e : X.s₀.heap.get? a with
    | none => rfl
    | some o => obtain ⟨o', e'⟩ := (I.baseN F).there a o e (by simp); rw [m.new] at e'; cases e'
  · intro b o e n hb
    have : ∃ o', s.heap.get? b = some o' ∧ b ∉ frs X.stack := by
      rcases hb with ⟨o0, e0⟩ | hb
      · obtain ⟨o', e'⟩ := (I.baseN F).there b o0 e0 (by simp)
        exact ⟨o', e', I.notLoc F e0 n⟩
      · obtain ⟨u, hu⟩ := Option.ne_none_iff_exists'.mp hb
        obtain ⟨o', e'⟩ := (I.hok b u hu).some
        exact ⟨o', e', trk b hb⟩
    obtain ⟨o', e', nn⟩ := this
    have z := fl.1 b o' (inB b o' e' nn)
    have z : h2.get? b = some o' := z
    have e : h2.get? b = some o := e
    rw [e] at z
    cases z
    exact inB b o e' nn
theorem Inv.arrive (I : Inv X pins σ H s) {e : Value} (h : CXW X.prog X.w X.stack H s E1 e s') : ∃ (a C t : Addr) (H' : Hp) (B : Heap), e = .ref a ∧ Inv X pins σ H' s' ∧ H' a = none ∧ s.heap.get? a = none ∧
    Heap.FlyingW B X.stack a (.ref C) (.ref t) s'.heap ∧ (∀ b o, s'.heap.get? b = some o → b ∉ frs X.stack → ((∃ o', s.heap.get? b = some o') ∨ H' b ≠ none) → B.get? b = some o) ∧ E1 (.ref C) none H' ∧ Un (frs X.stack) [] H H' s.heap s'.heap := by
  obtain ⟨a, C, t, H', B, rfl, os, bare, un, hok, free, fresh, fl, all, q⟩ := h
  exact ⟨a, C, t, H', B, rfl, I.call' os un hok bare (fun b z => absurd z (by simp)), free, fresh, fl, all, q, un⟩
theorem passW (F : X.Flies E) (hE : ∀ C H', E1 (.ref C) none H' → E (.ref C) none H') : Passes (CXW X.prog X.w) X E1 := fun pins σ H s e s' I h => by
  obtain ⟨a, C, t, H', B, rfl, I', free, fresh, fl, all, q, un⟩ := I.arrive h
  refine F.xe _ _ (wpAny_leaves_onW (by rw [I.ok.frames, F.stk]) F.fr (by rw [← F.stk]; exact fl) fun h2 fl2 up => ?_)
  have inB : ∀ b o o', X.s₀.heap.get? b = some o' → s'.heap.get? b = some o → b ∉ frs X.outer → B.get? b = some o := fun b o o' e0 e n => by
    obtain ⟨o1, e1⟩ := (I.baseN F).there b o' e0 (by simp)
    exact all b o e (I.notLoc F e0 n) (.inl ⟨_, e1⟩)
  have trk : ∀ b, H' b ≠ none → b ∉ frs X.stack := fun b hb z => hb (I'.stkFree b z)
  refine ⟨a, C, t, H', B, rfl, I'.os, I'.bare, ?_, ?_, free, ?_, fl2, ?_, hE _ _ q⟩
  · exact (I'.baseN F).fly (fun b o o' e0 e1 n => fl2.1 b o (inB b o o' e0 e1 n)) (I'.slots up)
  · exact I'.hok.keptT fun b u hb e => fl2.1 b u (all b u e (trk b hb) (.inr hb))
  · cases e : X.s₀.heap.get? a with
    | none => rfl
    | some o => obtain ⟨o', e'⟩ := (I.baseN F).there a o e (by simp); rw [fresh] at e'; cases e'
  · intro b o e n hb
    have e : h2.get? b = some o := e
    have : ∃ o', B.get? b = some o' := by
      rcases hb with ⟨o0, e0⟩ | hb
      · obtain ⟨o', e'⟩ := (I'.baseN F).there b o0 e0 (by simp)
        exact ⟨o', inB b o' o0 e0 e' n⟩
      · obtain ⟨u, hu⟩ := Option.ne_none_iff_exists'.mp hb
        obtain ⟨o', e'⟩ := (I'.hok b u hu).some
        exact ⟨o', all b o' e' (trk b hb) (.inr hb)⟩
    obtain ⟨o', e'⟩ := this
    have z := fl2.1 b o' e'
    rw [e] at z
    cases z
    exact e'
end
end L2
namespace L2
open PySem PySem.Spec PyProof.Rows
theorem own_obj {K : Frag} {h : Heap} {C : Addr} {bmB : List Value} {newId : String} (X : K.In h) (q : PySem.W.excIn K C bmB newId = true) :
    ∃ (tl : List Value) (N : Addr) (nm qn : Str) (bs : List Value) (hdct : Bool) (sn : List Str) (sub : List Value) (ab : Bool) (col : Option Bool) (dd : Option Addr) (k0 k1 k2 k3 k5 : Option Value) (mN : Str → Option Value),
      h.get? C = some (excClassObj nm qn C N bs tl hdct sn sub ab col dd k0 k1 k2 k3 k5 newId) ∧ h.Ns N mN ∧ mN "__init__" = none ∧ OwnTail h bmB tl := by
  unfold PySem.W.excIn at q
  split at q
  · rename_i dd cd sl lk
    split at q
    · rename_i C' tl k0 k1 k2 k3 n k5 em es
      simp only [Bool.and_eq_true, beq_iff_eq, Bool.not_eq_true'] at q
      obtain ⟨⟨⟨⟨⟨q1, q2⟩, q3⟩, q4⟩, q5⟩, q6⟩ := q
      subst q1 q2
      have g := X _ _ lk
      obtain ⟨c1, c2, c3, c4, c5, c6, c7, c8, c9, c10, c11⟩ := cd
      obtain ⟨sl⟩ := sl
      dsimp only at em es q3 q5 q6
      subst em es q3
      exact ⟨tl, c4, c1, c5, c2, c6, c7, c8, c9, c10, dd, k0, k1, k2, k3, k5, _, g, .of_isNs (PySem.W.isNs_of_in X q5), PySem.W.nsMap_none_of_in X q5 q6, PySem.W.tail_of_in X q4⟩
    · cases q
  · cases q
section
variable {X : Cx} {E : XK} {x : Str} {C : Addr} {e : Expr} {es : List Expr} {t : TA} {np cpos pos : Pos} {B newId initId : String} {bmB : List Value}
def tRaise (C : Addr) (E : XK) (t : TA) : TS := fun _ σ H => t σ H fun vs H1 => vs.length ≤ sizeLine ∧ E (.ref C) none H1
theorem ps_raise (F : X.Flies E) (hc : X.calm = true) (hg : Gl X x) (hm : X.mg x = some (.ref C)) (q : PySem.W.excIn X.K C bmB newId = true) (FB : ExcBaseFacts B newId initId bmB) (ha : PA X (e :: es) t)
    (hdb : (x == ("__debug__" : Str)) = false := by decide) (he : starEach (e :: es) X.env = (false, eval e X.env) :: starEach es X.env := by rfl) (hpl : (backTo cpos (starEach es X.env)).any (·.1) = false := by rfl) :
    PS X (.Raise (some (.Call (.Name x np) (e :: es) [] cpos)) none pos) (tRaise C E t) := by
  intro pins s σ H D I h
  obtain ⟨tl, N, nm, qn, bs, hdct, sn, sub, ab, col, dd, k0, k1, k2, k3, k5, mN, hC, hN, hni, T⟩ := own_obj I.ok.mod.kin q
  refine wpAny_Raise_call_subT (C := C) (nm := nm) (q := qn) (N := N) (bs := bs) (bm := tl) (hdct := hdct) (sn := sn) (sub := sub) (ab := ab) (col := col) (dd := dd) (k0 := k0) (k1 := k1) (k2 := k2) (k3 := k3) (k5 := k5)
    FB (mN := mN) (T.hasType FB.hasBase) (I.ok.hd hc) (by rw [he]; show (false || (backTo cpos (starEach es X.env)).any (·.1)) = false; rw [hpl]; rfl) hni (ld_glob I hg hm ⟨rfl, ?_⟩ hdb)
  have h1 := ha cpos pins s σ H _ I h
  rw [he] at h1 ⊢
  exact Calls.evalArgs_plain (wpAny_mono h1 (fun us s2 ⟨vs, H2, I2, r, hl, q2⟩ => ⟨rfl, by rw [← r.length]; exact hl, I2.bk _ _ hC, hN.keeps I2.bk, T.keeps I2.bk, fun h' a m => I2.madeX F m q2⟩) fun _ _ y => y)
end
section
variable {P : Program} {w : World} {K : Frag} {mg : Str → Option Value} {base : Heap} {k : Nat} {f : Addr} {fd : FuncData} {ps : List Str} {sp : Sp}
theorem FnOk.downW {sp' : Sp} (F : FnOk P w K mg base (CXW P w) k f fd ps sp) (h : ∀ vs H Q E, sp' vs H Q E → sp vs H Q E0) : FnOk P w K mg base CX0 k f fd ps sp' :=
  ⟨fun vs H Q E z => F.len vs H Q E0 (h vs H Q E z), fun A outer s H args us vs Q E hr e0 hb r hs => codeAny_mono (F.run A outer s H args us vs Q E0 hr e0 hb r (h _ _ _ _ hs)) fun r s' z => by
    cases r with
    | error e => obtain ⟨a, C, t, H', B, _, _, _, _, _, _, _, _, _, q⟩ := z; exact q.elim
    | ok fl => cases fl <;> exact z⟩
theorem Fun.okW {x qual : Str} {st : Stmt} {N : List Str} (F : Fun K x qual st f fd) (S : FnScope N ps (defScope st)) (len : ∀ vs H Q E, sp vs H Q E → vs.length = ps.length)
    (hbody : ∀ (cdv : Value) (A : Around) (outer : List Env) (s : Shared) (H : Hp) (vs : List V) (Q : VK) (E : XK), Room k (A.deeper (envOfC qual (defScope st) s.heap.objs.size f cdv)) → sp vs H Q E →
      ∃ t, PSs (cxOf (CXW P w) P w K mg base N qual (defScope st) f cdv A outer s H E) (defBody st) t ∧ t { nx := fun _ H' => Q .non H', rt := Q } (start N vs) H) : FnOk P w K mg base (CXW P w) (k + 1) f fd ps sp := by
  obtain ⟨oc, od, kV, doc, pm, an, cdv, ct, osl, rfl, lk, hcd⟩ := F.ex
  exact fn_of lk hcd S len fun A outer s H vs Q E hr hsp => hbody cdv A outer s H vs Q E hr hsp
theorem flies {N : List Str} {qual : Str} {scope : Scope} {cd : Value} {A : Around} {outer : List Env} {s : Shared} {H : Hp} {E : XK} : (cxOf (CXW P w) P w K mg base N qual scope f cd A outer s H E).Flies E :=
  ⟨rfl, rfl, rfl, fun e s' h => wpAny_mono h (fun _ _ z => z) fun _ _ z => z.elim⟩
end
section
variable {X : Cx} {v₁ v₂ : Expr} {rest : List Expr} {pos : Pos}
end
structure RoomH (k : Nat) (A : Around) : Prop where
  dp : A.depth + 3 * k + 5 < recursionLimit
  un : A.units + 16 * k + 200 < cLine
theorem Room.h {k : Nat} {A : Around} (r : Room k A) (v : Option Value) : RoomH k (A.mark v) := ⟨r.dp, r.un⟩
theorem RoomH.n {k : Nat} {A : Around} (r : RoomH k A) : Room k { A with handled := none } := ⟨rfl, r.dp, r.un⟩
theorem RoomH.deeper {k : Nat} {A : Around} (r : RoomH (k + 1) A) (env : Env) : RoomH k (A.deeper env) :=
  ⟨by have := r.dp; show A.depth + 1 + 3 * k + 5 < _; omega, by have := r.un; show A.units + 3 + 16 * k + 200 < _; omega⟩
structure FnOkH (P : Program) (w : World) (K : Frag) (mg : Str → Option Value) (base : Heap) (k : Nat) (f : Addr) (fd : FuncData) (ps : List Str) (sp : Sp) : Prop where
  len : ∀ vs H Q E, sp vs H Q E → vs.length = ps.length
  run : ∀ (A : Around) (outer : List Env) (s : Shared) (H : Hp) (args : Args) (us : List Value) (vs : List V) (Q : VK) (E : XK), RoomH k A → Env0 P w K mg base A outer s H → BindsTo s fd args (ps.zip us) → Vals vs us → sp vs H Q E →
    codeAny (model P w) A (.call (.ref f) args) (CR CX0 outer P w H s Q E) s
def cxH (P : Program) (w : World) (K : Frag) (mg : Str → Option Value) (base : Heap) (N : List Str) (qual : Str) (scope : Scope) (f : Addr) (cd : Value) (A : Around) (outer : List Env) (s : Shared) (H : Hp) : Cx :=
  { cxOf CX0 P w K mg base N qual scope f cd A outer s H E0 with calm := false, xe := fun _ _ => False }
theorem inv_startH {P : Program} {w : World} {K : Frag} {mg : Str → Option Value} {base : Heap} {N ps : List Str} {qual : Str} {scope : Scope} {f : Addr} {cd : Value} {A : Around} {outer : List Env} {s s1 : Shared} {H : Hp} {us : List Value} {vs : List V}
    (S : FnScope N ps scope) (e0 : Env0 P w K mg base A outer s H) (hl : vs.length = ps.length) (r : Vals vs us)
    (x : InCallC s s.heap.objs.size (bindL (envOfC qual scope s.heap.objs.size f cd).kindOf (ps.zip us) fun _ => none) (cellsFrom (s.heap.objs.size + 1) scope.names []) (bindC (envOfC qual scope s.heap.objs.size f cd).kindOf (ps.zip us) fun _ => none) s1) :
    Inv (cxH P w K mg base N qual scope f cd A outer s H) [] (start N vs) H s1 := by
  have e1 : Env0 P w K mg base { A with handled := none } outer s H := ⟨e0.frames, e0.mod, e0.bs, e0.bsz, e0.funs, e0.frf, e0.hok, e0.bare⟩
  have I := inv_start (CX := CX0) (E := E0) S rfl e1 hl r x
  have ok := I.ok
  exact ⟨⟨ok.mod, ok.kind, ok.glob, ok.blt, ok.above, ok.inj, ok.has, ok.cab, (fun z => by cases z), Around.frames_deeper e0.frames, ok.stk, ok.exf, ok.bs, ok.bsz, ok.noex, ok.exfs, ok.funs, ok.frf⟩, I.os, I.bare, I.base, I.loc, I.cell, I.free, I.freeC, I.pin, I.hok, I.len⟩
section
variable {P : Program} {w : World} {K : Frag} {mg : Str → Option Value} {base : Heap} {k : Nat} {f : Addr} {fd : FuncData} {ps : List Str} {sp : Sp}
theorem Fun.okH {x qual : Str} {st : Stmt} {N : List Str} (F : Fun K x qual st f fd) (S : FnScope N ps (defScope st)) (len : ∀ vs H Q E, sp vs H Q E → vs.length = ps.length)
    (hbody : ∀ (cdv : Value) (A : Around) (outer : List Env) (s : Shared) (H : Hp) (vs : List V) (Q : VK) (E : XK), RoomH k (A.deeper (envOfC qual (defScope st) s.heap.objs.size f cdv)) → sp vs H Q E →
      ∃ t, PSs (cxH P w K mg base N qual (defScope st) f cdv A outer s H) (defBody st) t ∧ t { nx := fun _ H' => Q .non H', rt := Q } (start N vs) H) : FnOkH P w K mg base (k + 1) f fd ps sp := by
  obtain ⟨oc, od, kV, doc, pm, an, cdv, ct, osl, rfl, lk, hcd⟩ := F.ex
  refine ⟨len, fun A outer s H args us vs Q E hr e0 hb r hsp => ?_⟩
  have hl := len _ _ _ _ hsp
  have KX : K.In s.heap := e0.mod.kin.keeps fun b o e => (e0.bs b o e).1
  have lim : s.heap.NoLimit := e0.mod.nolimit.keeps fun b o e => (e0.bs b o e).1
  have hkind : ∀ y ∈ ps.zip us, (defScope st).names.lookup y.1 = some .local ∨ ((defScope st).names.lookup y.1 = some .cell ∧ ((cellsFrom (s.heap.objs.size + 1) (defScope st).names []).lookup y.1).isSome = true) := fun ⟨n, v⟩ hy => by
    rcases S.par n (List.of_mem_zip hy).1 with q | q
    · exact .inl q
    · exact .inr ⟨q, PySem.W.cellsFrom_some _ _ _ (.inl q)⟩
  refine codeAny_call_function hr.n.depth (KX _ _ lk) rfl S.co S.gen rfl (PySem.W.codeRec_of KX hcd) (hb _ _ _ _ ?_)
  refine wpAny_newFunctionEnv_cells S.kind hkind fun env he s1 x => ?_
  subst he
  refine ⟨lim.keeps x.toInCall.keep, codeAny_func ?_⟩
  obtain ⟨t, ht, hq⟩ := hbody cdv A outer s H vs Q E (hr.deeper _) hsp
  have I := inv_startH (cd := cdv) (f := f) S e0 hl r x
  refine wpAny_mono (ht [] s1 (start N vs) H _ I hq) (fun fl s' hs => ?_) fun e s' hs => False.elim hs
  have fin : ∀ {σ' : St} {H' : Hp} {v : V} {u : Value}, Inv (cxH P w K mg base N qual (defScope st) f cdv A outer s H) [] σ' H' s' → RelV v u → Q v H' → CE outer P w H s Q u s' :=
    fun {σ' H' v u} J rv q => ⟨v, H', J.os, J.bare, J.base, J.hok, rv, q⟩
  cases fl with
  | ret u =>
    obtain ⟨v, σ', H', J, rv, q⟩ := hs
    exact fin J rv q
  | next =>
    obtain ⟨σ', H', J, q⟩ := hs
    exact fin (v := V.non) (u := Value.none) J rfl q
  | brk =>
    obtain ⟨_, _, _, q⟩ := hs
    exact False.elim q
  | cont =>
    obtain ⟨_, _, _, q⟩ := hs
    exact False.elim q
end
section
variable {X : Cx} {k : Nat} {f : Addr} {fd : FuncData} {ps : List Str} {sp : Sp} {x : Str} {p pos : Pos} {e : Expr} {es : List Expr} {t : TA}
theorem pe_callH (F : FnOkH X.prog X.w X.K X.mg X.base k f fd ps sp) (hr : RoomH k X.A) (hg : Gl X x) (hm : X.mg x = some (.ref f)) (hk : keepIn X.K (.ref f) = true) (hb : Binds X.K fd ps [])
    (ha : PA X (e :: es) t) (hdb : (x == ("__debug__" : Str)) = false := by decide) (he : starEach (e :: es) X.env = (false, eval e X.env) :: starEach es X.env := by rfl) (hpl : (backTo pos (starEach es X.env)).any (·.1) = false := by rfl) :
    PE X (.Call (.Name x p) (e :: es) [] pos) (tCall sp [] E0 t) := by
  intro pins s σ H Q I h
  refine wpAny_Call_Name_kw (ld_glob I hg hm ?_ hdb)
  refine PySem.W.callWith_K (h₀ := X.base) I.ok.mod.kin hk (thn (ha pos pins s σ H _ I h) fun us s1 ⟨vs, H1, I1, r, q⟩ => ⟨I1.kIn, ?_⟩) he hpl
  have r2 : Vals (vs ++ []) (us ++ []) := r.append .nil
  have hl : (us ++ []).length = ps.length := by rw [← r2.length]; exact F.len _ _ _ _ q
  refine wpAny_call (codeAny_mono (F.run X.A X.stack s1 H1 ⟨us, []⟩ (us ++ []) (vs ++ []) Q E0 hr I1.env0 (hb s1 us I1.kIn hl) r2 q) fun r s' hq => ?_)
  cases r with
  | error e => exact False.elim hq
  | ok fl =>
    cases fl with
    | ret u => exact I1.after hq
    | next => exact False.elim hq
    | brk => exact False.elim hq
    | cont => exact False.elim hq
end
end L2
namespace L2
open PySem PySem.Spec PyProof.Rows
def ExcO (a C : Addr) : HO := .ext fun h => ∃ o, h.get? a = some o ∧ o.cls = .ref C
theorem Un.track {fs : List Addr} {H1 H' : Hp} {h0 h2 : Heap} {a : Addr} {o : HO} (u : Un fs [] H1 H' h0 h2) (f : h0.get? a = none) (n : H' a = none) : Un fs [] H1 (upd H' a o) h0 h2 where
  keep := u.keep
  slot := u.slot
  free := fun b ob q m hx => by
    rw [upd_ne (fun z => by rw [z, f] at q; cases q)]
    exact u.free b ob q m hx
  there := u.there
  tups := fun b xs q => by
    have := u.tups b xs q
    rw [upd_ne (fun z => by rw [z, n] at this; cases this)]
    exact this
  frzs := fun b ob xs q => by
    have := u.frzs b ob xs q
    rw [upd_ne (fun z => by rw [z, n] at this; cases this)]
    exact this
  tbls := fun b ps q => by
    obtain ⟨m, e⟩ := u.tbls b ps q
    exact ⟨m, by rw [upd_ne (fun z => by rw [z, n] at e; cases e)]; exact e⟩
theorem HOk.track {P : Program} {w : World} {H' : Hp} {h2 : Heap} {a : Addr} {o : HO} (x : HOk P w H' h2) (n : H' a = Option.none) (ok : ObjOk P w (upd H' a o) h2 a o) : HOk P w (upd H' a o) h2 := fun b u e => by
  by_cases hb : b = a
  · subst hb
    rw [upd_same] at e
    cases e
    exact ok
  · rw [upd_ne hb] at e
    refine (x b u e).stay (fun _ _ _ q => q) (fun c q => ?_) fun c xs q => ?_
    · rw [upd_ne (fun z => by rw [z, n] at q; cases q)]; exact q
    · rw [upd_ne (fun z => by rw [z, n] at q; cases q)]; exact q
def Cx.tr (X : Cx) (pins : List (Addr × Obj)) (Ex : St → XK) : Cx :=
  { X with pn := X.pn ++ pins, xe := fun e s' => ∃ pl σ1 H1 s1, Inv X (pins ++ pl) σ1 H1 s1 ∧ CXW X.prog X.w X.stack H1 s1 (Ex σ1) e s' }
def Cx.hdl (X : Cx) (v : Value) : Cx := { X with A := X.A.mark (some v), calm := false, xe := fun _ _ => False }
section
variable {X : Cx} {pins pl : List (Addr × Obj)} {σ : St} {H H' : Hp} {s s' : Shared} {Ex : St → XK} {v : Value}
theorem Inv.tr (I : Inv X pins σ H s) : Inv (X.tr pins Ex) [] σ H s :=
  ⟨⟨I.ok.mod, I.ok.kind, I.ok.glob, I.ok.blt, I.ok.above, I.ok.inj, I.ok.has, I.ok.cab, I.ok.hd, I.ok.frames, I.ok.stk, I.ok.exf, I.ok.bs, I.ok.bsz, I.ok.noex, I.ok.exfs, I.ok.funs, I.ok.frf⟩, I.os, I.bare, I.base, I.loc, I.cell, I.free, I.freeC,
    fun p hp => I.pin p (by rw [List.append_nil] at hp; exact hp), I.hok, I.len⟩
theorem Inv.untr (I : Inv (X.tr pins Ex) pl σ H s) : Inv X (pins ++ pl) σ H s :=
  ⟨⟨I.ok.mod, I.ok.kind, I.ok.glob, I.ok.blt, I.ok.above, I.ok.inj, I.ok.has, I.ok.cab, I.ok.hd, I.ok.frames, I.ok.stk, I.ok.exf, I.ok.bs, I.ok.bsz, I.ok.noex, I.ok.exfs, I.ok.funs, I.ok.frf⟩, I.os, I.bare, I.base, I.loc, I.cell, I.free, I.freeC,
    fun p hp => I.pin p (by show p ∈ (X.pn ++ pins) ++ pl; rw [List.append_assoc]; exact hp), I.hok, I.len⟩
theorem Inv.untr0 (I : Inv (X.tr pins Ex) [] σ H s) : Inv X pins σ H s := I.untr.unpinned
theorem Inv.hdl (I : Inv X pins σ H s) : Inv (X.hdl v) pins σ H s :=
  ⟨⟨I.ok.mod, I.ok.kind, I.ok.glob, I.ok.blt, I.ok.above, I.ok.inj, I.ok.has, I.ok.cab, (fun z => by cases z), I.ok.frames, I.ok.stk, I.ok.exf, I.ok.bs, I.ok.bsz, I.ok.noex, I.ok.exfs, I.ok.funs, I.ok.frf⟩, I.os, I.bare, I.base, I.loc, I.cell, I.free, I.freeC, I.pin, I.hok, I.len⟩
theorem Inv.unhdl (hd : X.calm = true → X.A.handled = none) (I : Inv (X.hdl v) pins σ H s) : Inv X pins σ H s :=
  ⟨⟨I.ok.mod, I.ok.kind, I.ok.glob, I.ok.blt, I.ok.above, I.ok.inj, I.ok.has, I.ok.cab, hd, I.ok.frames, I.ok.stk, I.ok.exf, I.ok.bs, I.ok.bsz, I.ok.noex, I.ok.exfs, I.ok.funs, I.ok.frf⟩, I.os, I.bare, I.base, I.loc, I.cell, I.free, I.freeC, I.pin, I.hok, I.len⟩
theorem Inv.goes {i : Nat} {n : Str} (I : Inv X pins σ H s) (hN : X.N.Nodup) (hi : X.N[i]? = some n) (hl : X.env.kindOf n = some .local) {m : Str → Option Value} {u : Option Value} {h' : Heap} {tk : Nat} (hm : s.heap.Ns X.env.locals m)
    (hq : ∀ (i : Nat) (x : Str) (v : V), X.N[i]? = some x → σ[i]? = some (some v) → Vis X.env.scope x → ∃ u, RelV v u ∧ Look X.env s.heap m x u)
    (hn' : h'.Ns X.env.locals (fun x => if x = n then u else m x)) (hs : Heap.SameBut X.env.locals s.heap h') : Inv X pins (σ.set i none) H { s with heap := h', toks := tk } := by
  have ne : ∀ b o, X.s₀.heap.get? b = some o → b ≠ X.env.locals := fun b o e => Nat.ne_of_lt (Nat.lt_of_lt_of_le (Heap.lt_size e) I.ok.above)
  have cne := I.cne
  have hiσ : i < σ.length := by rw [I.len]; exact (List.getElem?_eq_some_iff.mp hi).1
  refine ⟨I.ok, I.os, I.bare, ⟨fun b o e n hb hx => (hs.2 b (ne b o e)).trans (I.base.keep b o e n hb hx), fun b o e n hb hx => ?_, I.base.free, fun b o e hx => ?_, I.base.tups, I.base.frzs, I.base.tbls⟩, ⟨_, hn', fun j y v' e1 e2 e3 => ?_⟩, fun y c e => ?_, I.free, I.freeC, fun p hp => ?_, ?_, ?_⟩
  · obtain ⟨sl, e1⟩ := I.base.slot b o e n hb hx
    exact ⟨sl, (hs.2 b (ne b o e)).trans e1⟩
  · obtain ⟨o', e1⟩ := I.base.there b o e hx
    exact ⟨o', (hs.2 b (ne b o e)).trans e1⟩
  · by_cases hj : j = i
    · subst hj
      rw [List.getElem?_set_self hiσ] at e2
      cases e2
    · rw [List.getElem?_set_ne (Ne.symm hj)] at e2
      obtain ⟨u', r', q⟩ := hq j y v' e1 e2 e3
      refine ⟨u', r', ?_⟩
      rcases q with ⟨k, e⟩ | ⟨k, c, e, z⟩
      · refine .inl ⟨k, ?_⟩
        have : y ≠ n := fun e => hj (nodup_ix hN e1 (e ▸ hi))
        simp [this, e]
      · exact .inr ⟨k, c, e, z.sameBut hs (cne y c e)⟩
  · obtain ⟨w', z⟩ := I.cell y c e
    exact ⟨w', z.sameBut hs (cne y c e)⟩
  · obtain ⟨e, n, ne, nf, d⟩ := I.pin p hp
    exact ⟨(hs.2 p.1 ne).trans e, n, ne, nf, d⟩
  · exact I.hok.keptT fun b u hb e => (hs.2 b (fun z => hb (by rw [z]; exact I.free))).trans e
  · rw [List.length_set]; exact I.len
end
section
variable {X : Cx} {k : Nat} {f : Addr} {fd : FuncData} {ps : List Str} {sp : Sp} {x n : Str} {p np hpos pos : Pos} {e : Expr} {es : List Expr} {t : TA} {pins : List (Addr × Obj)} {Ex : St → XK}
def tCallX (sp : Sp) (Ex : St → XK) (t : TA) : TE := fun σ H Q => t σ H fun vs H1 => sp vs H1 Q (Ex σ)
theorem pe_callX (F : FnOk X.prog X.w X.K X.mg X.base (CXW X.prog X.w) k f fd ps sp) (hr : Room k X.A) (hg : Gl X x) (hm : X.mg x = some (.ref f)) (hk : keepIn X.K (.ref f) = true) (hb : Binds X.K fd ps [])
    (ha : PA (X.tr pins Ex) (e :: es) t) (hdb : (x == ("__debug__" : Str)) = false := by decide) (he : starEach (e :: es) X.env = (false, eval e X.env) :: starEach es X.env := by rfl) (hpl : (backTo pos (starEach es X.env)).any (·.1) = false := by rfl) :
    PE (X.tr pins Ex) (.Call (.Name x p) (e :: es) [] pos) (tCallX sp Ex t) := by
  intro pl s σ H Q I h
  refine wpAny_Call_Name_kw (ld_glob I hg hm ?_ hdb)
  refine PySem.W.callWith_K (h₀ := X.base) I.ok.mod.kin hk (thn (ha pos pl s σ H _ I h) fun us s1 ⟨vs, H1, I1, r, q⟩ => ⟨I1.kIn, ?_⟩) he hpl
  have hl : (us ++ []).length = ps.length := by rw [List.append_nil, ← r.length]; exact F.len _ _ _ _ q
  have hb' := hb s1 us I1.kIn hl
  rw [List.append_nil] at hb'
  refine wpAny_call (codeAny_mono (F.run X.A X.stack s1 H1 ⟨us, []⟩ us vs Q (Ex σ) hr I1.env0 hb' r q) fun r s' hq => ?_)
  cases r with
  | error e => exact ⟨pl, σ, H1, s1, I1.untr, hq⟩
  | ok fl =>
    cases fl with
    | ret u => exact I1.after hq
    | next => exact False.elim hq
    | brk => exact False.elim hq
    | cont => exact False.elim hq
def tTry (K : Frag) (CD : Addr) (i : Nat) (tb : (St → XK) → TS) (th : TS) : TS := fun D σ H =>
  tb (fun σ1 C _ H1 => ∃ c, C = .ref c ∧ PySem.W.exmOne K (.ref c) (.ref CD) = some true ∧ ∀ a, H1 a = none →
    th { nx := fun σ' H' => D.nx (σ'.set i none) H', rt := D.rt, bk := fun σ' H' => D.bk (σ'.set i none) H', ct := fun σ' H' => D.ct (σ'.set i none) H' } (σ1.set i (some (.ref a))) (upd H1 a (ExcO a c))) D σ H
theorem ps_try {body : List Stmt} {tb : (St → XK) → TS} {i : Nat} {CD : Addr} {b₀ : Stmt} {suite : List Stmt} {th : TS} (hst : X.stack = X.env :: X.outer) (hfr : X.env.frame = some X.env.locals) (hN : X.N.Nodup) (hi : X.N[i]? = some n)
    (hl : X.env.kindOf n = some .local) (hg : Gl X x) (hm : X.mg x = some (.ref CD)) (hb : ∀ pins Ex, PSs (X.tr pins Ex) body (tb Ex)) (hh : ∀ v, PSs (X.hdl v) (b₀ :: suite) th) (hdb : (x == ("__debug__" : Str)) = false := by decide) :
    PS X (.Try body [.ExceptHandler (some (.Name x np)) (some n) (b₀ :: suite) hpos] [] [] pos) (tTry X.K CD i tb th) := by
  intro pins s σ H D I h
  refine wpAny_Try_except (wpAny_mono (hb pins _ [] s σ H D I.tr h) (fun f s1 hs => ?_) fun e s1 he => ?_)
  · cases f with
    | next => obtain ⟨σ', H', J, q⟩ := hs; exact wpAny_execs_nil ⟨σ', H', J.untr0, q⟩
    | brk => obtain ⟨σ', H', J, q⟩ := hs; exact ⟨σ', H', J.untr0, q⟩
    | cont => obtain ⟨σ', H', J, q⟩ := hs; exact ⟨σ', H', J.untr0, q⟩
    | ret u => obtain ⟨v, σ', H', J, r, q⟩ := hs; exact ⟨v, σ', H', J.untr0, r, q⟩
  obtain ⟨pl, σ1, H1, s0, I1, hx⟩ := he
  have I1 := I1.unpinned
  obtain ⟨a, C, t, H', B, rfl, I', free, fresh, fl, all, ⟨c, ec, em, q⟩, un⟩ := I1.arrive hx
  cases ec
  have hfrm : X.A.frames = some (X.env :: X.outer) := by rw [I.ok.frames, hst]
  have trk : ∀ b, H' b ≠ none → b ∉ frs X.stack := fun b hb z => hb (I'.stkFree b z)
  have slot : ∀ {h2 : Heap}, s1.heap.UpToSlots h2 → ∀ b o, s1.heap.get? b = some o → b ∈ frs X.stack → ∃ sl, h2.get? b = some { o with slots := sl } := fun {h2} k b o e hb => by
    obtain ⟨_, o', e', nf⟩ := I'.stack.mem hb
    rw [e] at e'
    cases e'
    exact k b o e nf
  have go : ∀ {h2 : Heap}, B.StaysIn h2 → s1.heap.UpToSlots h2 → Un (frs X.stack) [] H1 H' s0.heap h2 ∧ HOk X.prog X.w H' h2 := fun {h2} st up =>
    ⟨un.fly (fun b o o' e0 e1 nb => st b o (all b o e1 nb (.inl ⟨o', e0⟩))) (slot up), I'.hok.keptT fun b u hb e => st b u (all b u e (trk b hb) (.inr hb))⟩
  have os : s1.os = s0.os := I'.os.trans I1.os.symm
  rw [hst] at fl
  refine wpAny_looks_onW hfrm hfr fl fun h4 held4 sm4 => ?_
  refine wpAny_landsW held4 fun h5 fl5 sm5 => ?_
  have up5 : s1.heap.UpToSlots h5 := sm4.trans sm5
  have I5 : Inv X pins σ1 H' { s1 with heap := h5 } := I1.call' (s' := { s1 with heap := h5 }) os (go fl5.1 up5).1 (go fl5.1 up5).2 I'.bare (fun b z => absurd z (by simp))
  have J5 : Inv (X.hdl (.ref a)) pins σ1 H' { s1 with heap := h5 } := I5.hdl
  refine wpAny_handleBy_cons (codeAny_handlers_test ?_) (by intro z; cases z)
  refine ld_glob J5 hg hm ?_ hdb
  obtain ⟨ob, hob, hoc⟩ := fl5.there
  refine (PySem.W.exm_one (M := model X.prog X.w) J5.kIn (cls := .ref C) (by rw [← hoc]; exact (PySem.W.Looks.ld hob).andThen .now) em).here ?_
  refine codeAny_handlers_suite_as ?_
  refine lands_againW fl5 fun h6 fl6 sm6 => ?_
  have up6 := up5.trans sm6
  have fre6 : (upd H' a (ExcO a C)) a = some (ExcO a C) := upd_same
  obtain ⟨ob6, hob6, hoc6⟩ := fl6.there
  have oke : ObjOk X.prog X.w (upd H' a (ExcO a C)) h6 a (ExcO a C) := ⟨⟨ob6, hob6, hoc6⟩, ⟨ob6, hob6⟩, fun g1 g2 ⟨o, e, ce⟩ k => ⟨o, k o e, ce⟩⟩
  have I6 : Inv X pins σ1 (upd H' a (ExcO a C)) { s1 with heap := h6 } :=
    I1.call' (s' := { s1 with heap := h6 }) os ((go fl6.1 up6).1.track fresh free) ((go fl6.1 up6).2.track free oke) I'.bare (fun b z => absurd z (by simp))
  refine store_ok (X := X.hdl (.ref a)) I6.hdl hN hi (.inl hl) (v := .ref a) rfl (fun s7 J7 => ?_) (.inr hl)
  refine wpAny_mono (hh (.ref a) pins s7 _ _ _ J7 (q a free)) (fun f s8 hs => ?_) fun _ _ z => False.elim z
  have back : ∀ {σ' : St} {H2 : Hp}, Inv (X.hdl (.ref a)) pins σ' H2 s8 → ∀ {R : Shared → Prop}, (∀ s9, Inv X pins (σ'.set i none) H2 s9 → R s9) →
      wpAny (model X.prog X.w) X.A (do bindName X.env n .none; unbindBehindTheSuite X.env n hpos) (fun _ s9 => R s9) X.xe s8 := fun {σ' H2} J {R} hR => by
    have J := J.unhdl I.ok.hd
    obtain ⟨m, hm', hq'⟩ := id J.loc
    exact wpAny_nameGoes_keeps hl hm' (by rw [J.ok.kind]; rfl) fun h9 u hn9 hs9 => hR _ (J.goes hN hi hl hm' hq' hn9 hs9)
  cases f with
  | next => obtain ⟨σ', H2, J, q⟩ := hs; exact back J fun s9 K9 => ⟨_, H2, K9, q⟩
  | brk => obtain ⟨σ', H2, J, q⟩ := hs; exact back J fun s9 K9 => ⟨_, H2, K9, q⟩
  | cont => obtain ⟨σ', H2, J, q⟩ := hs; exact back J fun s9 K9 => ⟨_, H2, K9, q⟩
  | ret u => obtain ⟨v, σ', H2, J, r, q⟩ := hs; exact back J fun s9 K9 => ⟨v, _, H2, K9, r, q⟩
end
end L2
namespace L2
open PySem PySem.Spec PyProof.Rows PySem.W Builtin Builtin.ObjectAttr Builtin.Getset_descriptor
structure ErrCls (K : Frag) (C : Addr) : Prop where
  ga : findIn K (.ref C) "__getattribute__" = some (some (.builtin "BaseException.__getattribute__"))
  gn : findIn K (.ref C) "__getattr__" = some none
  cl : findIn K (.ref C) "__class__" = some (some (.builtin "object.__class__"))
  gt : PySem.W.specialIn K (.builtin "object.__class__") "__get__" = some (some (.builtin "getset_descriptor.__get__"))
  tk : PySem.W.takesIn K (.builtin "object.__class__") = some true
  ob : PySem.W.mroIn K C (.type "object") = some true
  be : PySem.W.mroIn K C (.type "BaseException") = some true
  cs : (PySem.W.clsIn K C).isSome = true
section
variable {prog : Program} {w : World} {A : Around} {E : Value → Shared → Prop} {K : Frag} {C a : Addr} {o : Obj} {hh : Heap} {g : Array GenState} {d : Drawn} {t : Nat} {os : OsState}
theorem err_type {M : Model} (hx : hh.get? a = some o) (hc : o.cls = .ref C) : PySem.W.Looks M hh (typeOf (.ref a)) (.ref C) := hc ▸ (PySem.W.Looks.ld hx).andThen .now
theorem err_get {tp : Value} {R : Result → Shared → Prop} (X : K.In hh) (e : ErrCls K C) (hx : hh.get? a = some o) (hc : o.cls = .ref C) (h : R (.ok (.ret (.ref C))) ⟨hh, g, d, t, os⟩) :
    codeAny (model prog w) A (.call (.builtin "getset_descriptor.__get__") ⟨[.builtin "object.__class__", .ref a, tp], []⟩) R ⟨hh, g, d, t, os⟩ := by
  have L0 := err_type (M := model prog w) hx hc
  have L1 := PySem.W.looks_mroIn (M := model prog w) X e.ob
  refine codeAny_call_builtin PySem.W.KF.slot_gs.plain PySem.W.KF.entry_gs (PySem.W.KF.slot_gs.check _ _ _ _ _ _ _ _ PySem.W.KF.type_class (PySem.W.KF.args_gs _ _ _) ?_)
  unfold Builtin.«getset_descriptor.__get__» descrGet
  rw [PySem.W.dga_obj]
  refine wpAny_bind (wpAny_pure ?_)
  unfold descrGetter descrCheckInstance descrNameAndClass isInstance
  simp only [PySem.W.KF.owner_class]
  repeat lk
  refine ⟨Code.quiet_builtin _ (by decide +kernel), codeAny_builtin PySem.W.KF.entry_class ?_⟩
  unfold Builtin.«object.__class__» shownTypeOf
  repeat lk
  exact h
theorem err_find {M : Model} (X : K.In hh) (e : ErrCls K C) : PySem.W.Looks M hh (find (.ref a) (.ref C) "__class__") (.bind (.builtin "getset_descriptor.__get__") (.builtin "object.__class__")) := by
  have L1 := PySem.W.looks_findIn (M := M) X e.cl
  have L2 : PySem.W.Looks M hh (getOf (some (.builtin "object.__class__"))) (some (.builtin "getset_descriptor.__get__")) := PySem.W.looks_specialIn X e.gt
  have L3 := PySem.W.looks_takesIn (M := M) X e.tk
  refine L1.andThen (L2.andThen ?_)
  exact (show PySem.W.Looks M hh (dataDescriptor? (some (.builtin "object.__class__")) (some (.builtin "getset_descriptor.__get__"))) (some (.builtin "getset_descriptor.__get__", .builtin "object.__class__")) from L3.andThen .now).andThen (PySem.W.Looks.tag .now)
theorem err_entry {tk : Tok} {Q : Fin → Shared → Prop} (X : K.In hh) (e : ErrCls K C) (hx : hh.get? a = some o) (hc : o.cls = .ref C) (h : Q (.done (.ret (.ref C))) ⟨hh, g, d, t, os⟩) :
    wpAny (model prog w) A (Builtin.«object.__getattribute__» ⟨[.ref a, .str "__class__" tk], []⟩) Q E ⟨hh, g, d, t, os⟩ := by
  have L0 := err_type (M := model prog w) hx hc
  have L1 := err_find (M := model prog w) (a := a) X e
  unfold Builtin.«object.__getattribute__»
  refine wpAny_bind (wpAny_pure ?_)
  refine wpAny_bind ?_
  unfold attrName
  lk; lk; lk
  refine wpAny_bind (L0.at (wpAny_bind (L1.at ?_)))
  show wpAny _ _ (holding [.builtin "object.__class__"] (call (.builtin "getset_descriptor.__get__") [.builtin "object.__class__", .ref a, .ref C]) >>= ret) _ _ _
  exact wpAny_bind (wpAny_holding (wpAny_call (err_get X e hx hc (wpAny_pure h))))
theorem err_check {nameV : Value} {M : Model} {Q : Unit → Shared → Prop} (X : K.In hh) (e : ErrCls K C) (hx : hh.get? a = some o) (hc : o.cls = .ref C) (hq : Q () ⟨hh, g, d, t, os⟩) :
    wpAny M A (checkBuiltinCall "BaseException.__getattribute__" ⟨[.ref a, nameV], []⟩) Q E ⟨hh, g, d, t, os⟩ := by
  have hk : builtinKind "BaseException.__getattribute__" = some .slot := by decide +kernel
  have hsplit : splitId "BaseException.__getattribute__" = some ("BaseException", "__getattribute__") := by decide +kernel
  have L0 := err_type (M := M) hx hc
  have L1 := PySem.W.looks_mroIn (M := M) X e.be
  have ha := F.args_bexc_ga (.ref a) nameV
  simp only [checkBuiltinCall, hk, hsplit]
  refine wpAny_bind ?_
  · unfold isInstance
    repeat (first | lk | wp_step)
    exact hq
theorem err_class {Q : Option Value → Shared → Prop} (X : K.In hh) (e : ErrCls K C) (hx : hh.get? a = some o) (hc : o.cls = .ref C) (h : Q (some (.ref C)) ⟨hh, g, d, t + 1, os⟩) :
    wpAny (model prog w) A (getAttr? (.ref a) "__class__") Q E ⟨hh, g, d, t, os⟩ := by
  have L0 := err_type (M := model prog w) hx hc
  have L1 := PySem.W.looks_findIn (M := model prog w) X e.ga
  have L2 := PySem.W.looks_findIn (M := model prog w) X e.gn
  have f3 := F.excAttr_ValueError.ga.bind (.ref a)
  unfold getAttr? getAttrBy? getAttrBy
  refine wpAny_bind (wpAny_mkText (wpAny_bind (wpAny_attempt (wpAny_holding (wpAny_bind (L0.at (wpAny_bind (L1.at ?_))))))))
  show wpAny _ _ (getAttrByItsOwn _ _ _ _ _ _) _ _ _
  unfold getAttrByItsOwn hookBefore callGetattribute boundAndCalled
  refine wpAny_bind (L2.at (wpAny_bind (wpAny_attempt (wpAny_holding ?_))))
  rw [if_neg (by decide)]
  refine wpAny_bind (wpAny_of_eq f3 ?_)
  refine wpAny_call (codeAny_call_builtin F.excAttr_ValueError.ga.plain F.entry_bexc_ga (err_check X e hx hc (err_entry X e hx hc ?_)))
  exact wpAny_pure (wpAny_pure h)
theorem err_cls (X : K.In hh) (e : ErrCls K C) : ∃ c' d' cd sl', hh.get? C = some ⟨c', d', .cls cd, sl'⟩ := by
  obtain ⟨cd, q⟩ := Option.isSome_iff_exists.mp e.cs
  unfold PySem.W.clsIn at q
  split at q
  · rename_i c' d' cd' sl' ho
    exact ⟨c', d', cd', sl', X _ _ ho⟩
  · cases q
theorem kitx_err (e : ErrCls K C) : PySem.W.KitX K (.ref a) (.ref C) (fun h => ∃ o, h.get? a = some o ∧ o.cls = .ref C) where
  ty := fun _ _ _ ⟨_, hx, hc⟩ => err_type hx hc
  it := fun _ _ X _ => by
    obtain ⟨c', d', cd, sl', ho⟩ := err_cls X e
    intro A' Q' E' s' k q
    unfold isType loadHead
    exact wpAny_bind (wpAny_loadPart (k _ _ ho) (wpAny_pure q))
  ne := fun h tp dd its n sl X htp => by
    obtain ⟨c', d', cd, sl', ho⟩ := err_cls X e
    refine Bool.eq_false_iff.mpr fun q => ?_
    have e : C = tp := Value.ref.inj (beq_iff_eq.mp q)
    subst e
    have z := ho.symm.trans htp
    cases z
  ca := fun {_ _ _ _ _ s} X p k => by
    obtain ⟨hh, g, d, t, os⟩ := s
    obtain ⟨o, hx, hc⟩ := p
    exact err_class X e hx hc k
end
section
variable {X : Cx}
theorem call_isiE : CallR X (.builtin "isinstance") (fun xs H Q => ∃ (a C : Addr) (c : V) (cv : Value) (b : Bool), xs = [.ref a, c] ∧ H a = some (ExcO a C) ∧ ErrCls X.K C ∧ (∀ u, RelV c u → u = cv) ∧ kitOne X.K (.ref C) cv = some b ∧ Q (.bl b) H) := by
  intro pins s σ H xs us Q I r h
  obtain ⟨a, C, c, cv, b, rfl, ha, ec, rc, e, q⟩ := h
  obtain ⟨u, w', rfl, ru, rw'⟩ := vals2 r
  cases (show u = Value.ref a from ru)
  cases rc _ rw'
  obtain ⟨⟨o, hx, hc⟩, _, _⟩ := (show ObjOk X.prog X.w H s.heap a (ExcO a C) from I.hok a _ ha)
  exact PySem.W.kia_one (kitx_err ec) I.kIn ⟨o, hx, hc⟩ e (fun z => nomatch z) fun tk => ⟨.bl b, H, I.tok tk, rfl, q⟩
end
end L2
namespace L2
open PySem PySem.Spec PyProof.Rows PySem.Calls PyProof.V PySem.SeqAt
mutual
inductive DV (K : Frag) (H : Hp) : V → PyData → Prop
  | non : DV K H .non .none
  | bl (b : Bool) : DV K H (.bl b) (.bool b)
  | int (i : Int) : DV K H (.int i) (.int i)
  | str (x : Str) : DV K H (.str x) (.str x)
  | lst {a : Addr} {xs : List V} {ds : List PyData} : SqL K H a xs → DVs K H xs ds → DV K H (.ref a) (.list ds)
  | tup {a : Addr} {xs : List V} {ds : List PyData} : SqT K H a xs → DVs K H xs ds → DV K H (.ref a) (.tuple ds)
inductive DVs (K : Frag) (H : Hp) : List V → List PyData → Prop
  | nil : DVs K H [] []
  | cons {x : V} {xs : List V} {d : PyData} {ds : List PyData} : DV K H x d → DVs K H xs ds → DVs K H (x :: xs) (d :: ds)
end
section
variable {X : Cx} {pins : List (Addr × Obj)} {σ : St} {H : Hp} {s : Shared}
mutual
theorem DV.reads (I : Inv X pins σ H s) : ∀ {v : V} {d : PyData} {u : Value}, DV X.K H v d → RelV v u → ∃ as, Reads s.heap u d as
  | _, _, _, .non, r => by cases (show _ = Value.none from r); exact ⟨_, .none⟩
  | _, _, _, .bl b, r => by cases (show _ = Value.bool b from r); exact ⟨_, .bool b⟩
  | _, _, _, .int i, r => by obtain ⟨t, q⟩ := (show ∃ t, _ = Value.int i t from r); cases q; exact ⟨_, .int i t⟩
  | _, _, _, .str x, r => by obtain ⟨t, q⟩ := (show ∃ t, _ = Value.str x t from r); cases q; exact ⟨_, .str x t⟩
  | _, _, _, .lst (a := a) h hs, r => by
    cases (show _ = Value.ref a from r)
    obtain ⟨its, rv, pl, _⟩ := I.list h
    obtain ⟨as, q⟩ := DVs.reads I hs rv
    obtain ⟨o, ho, hc, n, hd⟩ := pl.isList
    exact ⟨_, .list ho hc hd (by simpa using q)⟩
  | _, _, _, .tup (a := a) h hs, r => by
    cases (show _ = Value.ref a from r)
    obtain ⟨its, rv, pl, _⟩ := I.tuple h
    obtain ⟨as, q⟩ := DVs.reads I hs rv
    obtain ⟨o, ho, hc, n, hd⟩ := pl
    exact ⟨_, .tuple ho hc hd (by simpa using q)⟩
theorem DVs.reads (I : Inv X pins σ H s) : ∀ {vs : List V} {ds : List PyData} {us : List Value}, DVs X.K H vs ds → Vals vs us → ∃ as, ReadsAll s.heap us ds as
  | _, _, _, .nil, r => by cases r; exact ⟨_, .nil⟩
  | _, _, _, .cons h hs, r => by
    cases r with
    | cons r1 r2 =>
      obtain ⟨as, q⟩ := DV.reads I h r1
      obtain ⟨bs, q2⟩ := DVs.reads I hs r2
      exact ⟨_, .cons q q2⟩
end
def rNeD (K : Frag) : R2 := fun x y H Q => ∃ d1 d2, DV K H x d1 ∧ DV K H y d2 ∧ shaped d1 = true ∧ shaped d2 = true ∧ noMix d1 d2 = true ∧ Q (.bl (!PySem.Spec.same d1 d2)) H
theorem op_neD (hu : X.A.units + 64 < cLine) : OpR X (compareOp .NotEq) (rNeD X.K) := by
  intro pins s σ H x y v u Q I rx ry h
  obtain ⟨d1, d2, h1, h2, s1, s2, m, q⟩ := h
  obtain ⟨as, r1⟩ := h1.reads I rx
  obtain ⟨bs, r2⟩ := h2.reads I ry
  exact ne_dataH_same r1 r2 s1 s2 hu m ⟨.bl _, H, I, rfl, q⟩
end
theorem DVs.bools {K : Frag} {H : Hp} : ∀ bs : List Bool, DVs K H (bs.map V.bl) (bs.map PyData.bool)
  | [] => .nil
  | b :: bs => .cons (.bl b) (DVs.bools bs)
theorem lay_bools : ∀ bs : List Bool, PyData.canLayAll0 (bs.map PyData.bool) = true
  | [] => by simp [PyData.canLayAll0]
  | _ :: r => by simp [PyData.canLayAll0, PyData.canLay0, lay_bools r]
theorem depth_bools : ∀ bs : List Bool, PyData.depthAll (bs.map PyData.bool) ≤ 1
  | [] => by simp [PyData.depthAll]
  | _ :: r => by
    have := depth_bools r
    simp only [List.map_cons, PyData.depthAll, PyData.depth]
    omega
theorem shaped_bools (bs : List Bool) : shaped (.list (bs.map PyData.bool)) = true := by
  have h1 := depth_bools bs
  show (PyData.canLay0 (.list (bs.map PyData.bool)) && decide (PyData.depth (.list (bs.map PyData.bool)) ≤ 64)) = true
  rw [Bool.and_eq_true]
  exact ⟨by simp only [PyData.canLay0]; exact lay_bools bs, decide_eq_true (by simp only [PyData.depth]; omega)⟩
theorem noMix_bools : ∀ bs cs : List Bool, noMixAll (bs.map PyData.bool) (cs.map PyData.bool) = true
  | [], [] => by simp [noMixAll]
  | [], _ :: _ => by simp [noMixAll]
  | _ :: _, [] => by simp [noMixAll]
  | _ :: r, _ :: q => by simp [noMixAll, noMix, noMix_bools r q]
theorem same_bools : ∀ bs cs : List Bool, PySem.Spec.sameAll (bs.map PyData.bool) (cs.map PyData.bool) = decide (bs = cs)
  | [], [] => by simp [PySem.Spec.sameAll]
  | [], _ :: _ => by simp [PySem.Spec.sameAll]
  | _ :: _, [] => by simp [PySem.Spec.sameAll]
  | n :: r, k :: q => by
    simp only [List.map_cons, PySem.Spec.sameAll, PySem.Spec.same, same_bools r q]
    by_cases h : n = k <;> simp [h]
section
variable {X : Cx}
def PJ (X : Cx) (vs : List Expr) (t : St → Hp → Str → VK → Prop) : Prop :=
  ∀ (pins : List (Addr × Obj)) (s : Shared) (σ : St) (H : Hp) (out : Str) (Q : VK), Inv X pins σ H s → t σ H out Q → wpAny (model X.prog X.w) X.A (joinParts out (evalEach vs X.env)) (EP X pins σ Q) X.xe s
theorem pj_nil : PJ X [] (fun _ H out Q => out.length ≤ sizeLine ∧ Q (.str out) H) := fun _ _ _ H _ _ I ⟨z, q⟩ => joinParts_nil ⟨.str _, H, I.tok _, ⟨_, rfl⟩, q⟩ z
theorem pj_str {x : Str} {j} {pos : Pos} {vs : List Expr} {t : St → Hp → Str → VK → Prop} (h : PJ X vs t) : PJ X (.Constant (.str x) j pos :: vs) (fun σ H out Q => (out ++ x).length ≤ sizeLine ∧ t σ H (out ++ x) Q) :=
  fun pins s σ H out Q I ⟨z, q⟩ => joinParts_cons (Calls.Constant_str ⟨z, h pins _ σ H _ Q (I.tok _) q⟩)
theorem pj_int {e : Expr} {te : TE} {pos : Pos} {vs : List Expr} {t : St → Hp → Str → VK → Prop} (he : PE X e te) (h : PJ X vs t) :
    PJ X (.FormattedValue e (-1) none pos :: vs) (fun σ H out Q => te σ H fun v H1 => ∃ i : Int, v = .int i ∧ i.natAbs.log2 < 1920 ∧ (out ++ (toString i : String)).length ≤ sizeLine ∧ t σ H1 (out ++ (toString i : String)) Q) :=
  fun pins s σ H out Q I q => joinParts_cons (FormattedValue_plain (thn (he pins s σ H _ I q) fun u s1 ⟨v, H1, I1, r, i, ev, z, z2, q2⟩ => by
    subst ev
    obtain ⟨tk, rfl⟩ := (show ∃ t, u = Value.int i t from r)
    exact formatField_int_small z ⟨z2, h pins _ σ H1 _ Q (I1.tok _) q2⟩))
theorem pe_fs {v₁ v₂ : Expr} {vs : List Expr} {pos : Pos} {t : St → Hp → Str → VK → Prop} (h : PJ X (v₁ :: v₂ :: vs) t) : PE X (.JoinedStr (v₁ :: v₂ :: vs) pos) (fun σ H Q => t σ H Str.empty Q) :=
  fun pins s σ H Q I q => JoinedStr_many (h pins s σ H _ Q I q)
end
end L2
namespace L2
open PySem PySem.Spec PyProof.Rows
theorem RoomH.mono {j k : Nat} {A : Around} (r : RoomH k A) (h : j ≤ k) : RoomH j A := ⟨by have := r.dp; omega, by have := r.un; omega⟩
theorem FnOkH.mono {P : Program} {w : World} {K : Frag} {mg : Str → Option Value} {base : Heap} {j k : Nat} {f : Addr} {fd : FuncData} {ps : List Str} {sp : Sp} (F : FnOkH P w K mg base j f fd ps sp) (h : j ≤ k) :
    FnOkH P w K mg base k f fd ps sp := ⟨F.len, fun A outer s H args us vs Q E hr => F.run A outer s H args us vs Q E (hr.mono h)⟩
theorem boot_ty_ValueError : bootBuiltins "ValueError" = some (.type "ValueError") := by decide +kernel
theorem FnOk.dn {P : Program} {w : World} {K : Frag} {mg : Str → Option Value} {base : Heap} {k : Nat} {f : Addr} {fd : FuncData} {ps : List Str} {sp : Sp} (F : FnOk P w K mg base (CXW P w) k f fd ps sp) : FnOk P w K mg base CX0 k f fd ps (fun vs H Q _ => sp vs H Q E0) := F.downW fun _ _ _ _ h => h
end L2
namespace L2
open PySem PySem.Spec PyProof.Rows
section
variable {X : Cx} {k : Nat} {f C : Addr} {fd : FuncData} {ps : List Str} {sp : Sp} {x m : Str} {p pos apos : Pos} {e o : Expr} {es : List Expr} {t : TA} {ta : TE} {pins : List (Addr × Obj)} {Ex : St → XK}
end
theorem str_app_len (a b : Str) : (a ++ b).length = a.length + b.length := by
  show (a.cps ++ b.cps).size = a.cps.size + b.cps.size
  exact Array.size_append
theorem fs_log {i : Int} (h : i.natAbs < 2 ^ 100) : i.natAbs.log2 < 1920 := by
  by_cases h0 : i.natAbs = 0
  · rw [h0]; decide
  · have := (Nat.log2_lt h0).mpr h; omega
theorem fs_len {i : Int} {out : Str} {n : Nat} (h : i.natAbs < 2 ^ 100) (hn : out.length ≤ n) (hz : n + 101 ≤ 4000) : (out ++ (toString i : String)).length ≤ sizeLine ∧ (out ++ (toString i : String)).length ≤ n + 101 := by
  have h1 : (Str.ofString (toString i)).length ≤ 101 := by
    have := PySem.int_text_length_le (a := i) (k := 100) (by decide) (by
      by_cases h0 : i.natAbs = 0
      · rw [h0]; decide
      · exact (Nat.log2_lt h0).mpr h)
    rw [PySem.ofString_length]
    exact this
  rw [str_app_len]
  have h2 : (4000 : Nat) ≤ sizeLine := by decide
  omega
end L2
namespace L2
open PySem PySem.Spec PyProof.Rows
section
variable {X : Cx}
end
end L2
namespace Rc
open PySem PySem.Spec PyProof.Rows L2 PySem.Calls PyProof.V PySem.SeqAt
def pairD (l : Int × Int) : PyData := .tuple [.int l.1, .int l.2]
theorem u64 {k : Nat} {A : Around} (r : Room k A) : A.units + 64 < cLine := by have := r.un; omega
def namesL : List Str := ["BadHouses", "BadLines", "BadCover", "BadCrowns", "BadLosses", "BadAccount", "Unbacked", "Short", "Disagrees", "NoHouse", "NoCover", "NoHappening", "NoLoss", "BadDay", "BadTerms", "Endless", "Same", "Full", "BadDeed", "Nothing", "BadText"]
def seenL (w : Str) : List Bool := true :: namesL.map fun n => decide (n = w)
theorem neD_bools {K : Frag} {H : Hp} {Q : VK} {a b : Addr} {bs cs : List Bool} (ha : SqL K H a (bs.map V.bl)) (hb : SqL K H b (cs.map V.bl)) (q : Q (.bl (!decide (bs = cs))) H) : rNeD K (.ref a) (.ref b) H Q :=
  ⟨_, _, .lst ha (.bools bs), .lst hb (.bools cs), shaped_bools bs, shaped_bools cs, by simp only [noMix]; exact noMix_bools bs cs, by simp only [PySem.Spec.same]; rw [same_bools]; exact q⟩
end Rc
namespace L2
open PySem PySem.Spec PyProof.Rows
end L2
namespace L2
open PySem PySem.Spec PyProof.Rows
section
variable (P : Program) (w : World)
end
section
variable {P : Program} {w : World} {H H' : Hp} {h h' : Heap} {a : Addr} {o : HO}
end
section
variable {P : Program} {w : World} {H : Hp} {h h' : Heap} {x e : Addr} {o' : HO}
end
section
variable {fs fs' ex ex' : List Addr} {H H1 H2 : Hp} {h h1 h2 h' : Heap} {a x e : Addr} {o : HO}
end
end L2
namespace L2
open PySem PySem.Spec PyProof.Rows
section
variable {X : Cx} {pins : List (Addr × Obj)} {σ : List (Option V)} {H H' : Hp} {s : Shared} {h' : Heap}
end
end L2
namespace L2
open PySem PySem.Spec PyProof.Rows
section
variable {X : Cx}
variable {a b : Expr} {ta tb : TE} {pos : Pos}
variable {tA tB' : TT} {rest : List Expr}
end
end L2
namespace L2
open PySem PySem.Spec PyProof.Rows
section
variable {X : Cx} {pins : List (Addr × Obj)} {σ : St} {H : Hp} {s : Shared} {a : Addr} {xs ys : List V}
end
section
variable {X : Cx} {pins : List (Addr × Obj)} {σ : St} {H : Hp} {s : Shared} {E : Value → Shared → Prop}
end
section
variable {X : Cx} {st : Stmt} {rest : List Stmt} {t u : TS} {e : Expr} {te : TE} {pos : Pos}
end
section
variable {X : Cx} {pos : Pos}
end
section
variable {X : Cx} {pos : Pos}
end
end L2
namespace L2
open PySem PySem.Spec PyProof.Rows
section
variable {X : Cx} {tg : Expr}
end
end L2
namespace L2
open PySem PySem.Spec PyProof.Rows
section
variable {X : Cx} {a b c : Expr} {ta tb tc : TE} {pos : Pos}
end
section
variable {X : Cx} {a b c : Expr} {ta tb tc : TE} {pos : Pos}
end
end L2
namespace L2
open PySem PySem.Spec PyProof.Rows
section
variable {prog : Program} {w : World} {A : Around} {E : Value → Shared → Prop} {s : Shared} {K : Frag} {x dx C f : Addr} {mA : Str → Option Value} {name : Str} {v : Value}
end
section
variable {P : Program} {w : World} {H H' : Hp} {h h' : Heap} {a C dx : Addr} {fs fs' : List (Str × V)}
end
section
variable {X : Cx} {pins : List (Addr × Obj)} {σ : St} {H : Hp} {s : Shared} {a C dx : Addr} {fs : List (Str × V)} {f : Str} {v : V} {A : Around} {E : Value → Shared → Prop}
end
section
variable {X : Cx} {o e value : Expr} {f : Str} {pos pos' tpos : Pos} {ta tv : TE}
end
section
variable {X : Cx} {pins : List (Addr × Obj)} {σ : St} {H : Hp} {s : Shared} {A : Around} {E : Value → Shared → Prop} {Q : Value → Shared → Prop} {c : Value} {b : Bool}
end
end L2
namespace L2
open PySem PySem.Spec PyProof.Rows
section
variable {X : Cx} {e : Expr} {es : List Expr} {te : TE} {t : TA} {pos : Pos}
end
section
variable {X : Cx} {pins : List (Addr × Obj)} {σ : St} {H : Hp} {s s' : Shared}
end
section
variable {X : Cx} {CX : CXT} {k : Nat} {f C : Addr} {fd : FuncData} {ps : List Str} {sp : Sp} {dvs : List V} {ds : List Value} {E : XK} {x m : Str} {p pos apos : Pos} {e o : Expr} {es : List Expr} {ta : TE} {t : TA}
end
section
variable {X : Cx} {CX : CXT} {k : Nat} {f C : Addr} {fd : FuncData} {ps ks : List Str} {sp : Sp} {E : XK} {x m : Str} {p pos apos kpos : Pos} {e o : Expr} {es : List Expr} {kws : List Keyword} {te ta : TE} {t tk : TA} {nm : Option Str}
variable {g : List Value → List Value → List Value} {gV : List V → List V → List V}
end
end L2
namespace L2
open PySem PySem.Spec PyProof.Rows
section
variable {X : Cx} {x : Str} {p pos : Pos} {e : Expr} {es : List Expr} {t : TA} {id T : String} {r : List V → Hp → VK → Prop}
end
end L2
namespace L2
open PySem PySem.Spec PyProof.Rows
section
variable {κ : Type} [DecidableEq κ]
def valV (kvs : List (κ × V)) (k : κ) : Option V := (kvs.find? fun kv => decide (kv.1 = k)).map (·.2)
def putK (kvs : List (κ × V)) (k : κ) (v : V) : List (κ × V) :=
  if (kvs.any fun kv => decide (kv.1 = k)) = true then kvs.map (fun kv => if kv.1 = k then (kv.1, v) else kv) else kvs ++ [(k, v)]
def dropK (kvs : List (κ × V)) (k : κ) : List (κ × V) := kvs.filter fun kv => decide (kv.1 ≠ k)
theorem valV_pos {p : κ × V} {r : List (κ × V)} {k : κ} (e : p.1 = k) : valV (p :: r) k = some p.2 := by simp [valV, List.find?_cons, e]
theorem valV_neg {p : κ × V} {r : List (κ × V)} {k : κ} (e : ¬ p.1 = k) : valV (p :: r) k = valV r k := by simp [valV, List.find?_cons, e]
theorem valV_any (k : κ) : ∀ kvs : List (κ × V), (kvs.any fun kv => decide (kv.1 = k)) = (valV kvs k).isSome
  | [] => rfl
  | p :: r => by
    rw [List.any_cons]
    by_cases e : p.1 = k
    · simp only [valV_pos e, decide_eq_true e, Bool.true_or, Option.isSome_some]
    · rw [valV_neg e, decide_eq_false e, Bool.false_or]; exact valV_any k r
theorem length_putK (kvs : List (κ × V)) (k : κ) (v : V) : (putK kvs k v).length ≤ kvs.length + 1 := by
  unfold putK
  split
  · rw [List.length_map]; omega
  · rw [List.length_append, List.length_cons, List.length_nil]; omega
theorem putK_new {kvs : List (κ × V)} {k : κ} (v : V) (h : valV kvs k = none) : putK kvs k v = kvs ++ [(k, v)] := by
  unfold putK
  rw [valV_any, h]
  exact if_neg (by decide)
theorem RelO.isSome_eq {o : Option V} {u : Option Value} (r : RelO o u) : o.isSome = u.isSome := by
  cases o with
  | none => cases u with
    | none => rfl
    | some _ => exact (show False from r).elim
  | some _ => cases u with
    | none => exact (show False from r).elim
    | some _ => rfl
theorem KV.val {kvs : List (κ × V)} {vs : List (κ × Value)} (r : KV kvs vs) (k : κ) : RelO (valV kvs k) (valueAt vs k) := by
  unfold KV at r
  induction r with
  | nil => exact True.intro
  | @cons p q ps qs h t ih =>
    obtain ⟨h1, h2⟩ := h
    by_cases e : p.1 = k
    · have e' : q.1 = k := h1.symm.trans e
      have b : valueAt (q :: qs) k = some q.2 := by simp [valueAt, List.find?_cons, e']
      rw [valV_pos e, b]; exact h2
    · have e' : ¬ q.1 = k := fun z => e (h1.trans z)
      have b : valueAt (q :: qs) k = valueAt qs k := by simp [valueAt, List.find?_cons, e']
      rw [valV_neg e, b]; exact ih
theorem KV.any {kvs : List (κ × V)} {vs : List (κ × Value)} (r : KV kvs vs) (k : κ) : (kvs.any fun kv => decide (kv.1 = k)) = vs.any fun kv => decide (kv.1 = k) := by
  unfold KV at r
  induction r with
  | nil => rfl
  | cons h t ih => rw [List.any_cons, List.any_cons, ih, h.1]
theorem KV.repl {kvs : List (κ × V)} {vs : List (κ × Value)} (r : KV kvs vs) (k : κ) {y : V} {u : Value} (ry : RelV y u) :
    KV (kvs.map fun kv => if kv.1 = k then (kv.1, y) else kv) (vs.map fun kv => if kv.1 = k then (kv.1, u) else kv) := by
  unfold KV at r ⊢
  induction r with
  | nil => exact .nil
  | @cons p q ps qs h t ih =>
    rw [List.map_cons, List.map_cons]
    refine .cons ?_ ih
    obtain ⟨h1, h2⟩ := h
    by_cases e : p.1 = k
    · rw [if_pos e, if_pos (h1.symm.trans e)]; exact ⟨h1, ry⟩
    · rw [if_neg e, if_neg (fun z => e (h1.trans z))]; exact ⟨h1, h2⟩
theorem KV.put {kvs : List (κ × V)} {vs : List (κ × Value)} (r : KV kvs vs) (k : κ) {y : V} {u : Value} (ry : RelV y u) : KV (putK kvs k y) (stored vs k u) := by
  unfold putK stored
  rw [r.any k]
  by_cases e : (vs.any fun kv => decide (kv.1 = k)) = true
  · rw [if_pos e, if_pos e]; exact r.repl k ry
  · rw [if_neg e, if_neg e]; exact Paired.snoc r ⟨rfl, ry⟩
theorem KV.drop {kvs : List (κ × V)} {vs : List (κ × Value)} (r : KV kvs vs) (k : κ) : KV (dropK kvs k) (without vs k) := by
  unfold KV at r ⊢
  unfold dropK without
  induction r with
  | nil => exact .nil
  | @cons p q ps qs h t ih =>
    obtain ⟨h1, h2⟩ := h
    rw [List.filter_cons, List.filter_cons]
    by_cases e : p.1 = k
    · have a : ¬ decide (p.1 ≠ k) = true := by simp [e]
      have b : ¬ decide (q.1 ≠ k) = true := by simp [h1.symm.trans e]
      rw [if_neg a, if_neg b]; exact ih
    · have e' : ¬ q.1 = k := fun z => e (h1.trans z)
      have a : decide (p.1 ≠ k) = true := by simp [e]
      have b : decide (q.1 ≠ k) = true := by simp [e']
      rw [if_pos a, if_pos b]; exact .cons ⟨h1, h2⟩ ih
theorem KV.keys {kvs : List (κ × V)} {vs : List (κ × Value)} (r : KV kvs vs) : kvs.map (·.1) = vs.map (·.1) := by
  unfold KV at r
  induction r with
  | nil => rfl
  | cons h t ih => rw [List.map_cons, List.map_cons, ih, h.1]
theorem KV.length {kvs : List (κ × V)} {vs : List (κ × Value)} (r : KV kvs vs) : kvs.length = vs.length := Paired.length r
theorem dropK_le (kvs : List (κ × V)) (k : κ) : (dropK kvs k).length ≤ kvs.length := List.length_filter_le _ _
end
theorem kV_is {P : Program} {w : World} {k : Key} {u : Value} (r : RelV (kV k) u) : (mixKind P w).is k u = true := by
  cases k with
  | inl i => obtain ⟨t, e⟩ := (show ∃ t, u = Value.int i t from r); subst e; exact mixKind_int P w i t
  | inr x => obtain ⟨t, e⟩ := (show ∃ t, u = Value.str x t from r); subst e; exact mixKind_str P w x t
theorem items_are {P : Program} {w : World} : ∀ {ks : List Key} {us : List Value}, Vals (ks.map kV) us → ItemsAre (mixKind P w) ks us
  | [], _, r => by rw [List.map_nil] at r; cases r; exact .nil
  | k :: ks, _, r => by
    rw [List.map_cons] at r
    cases r with
    | cons h t => exact .cons (kV_is h) (items_are t)
abbrev KT (H : Hp) : List (List Key × V) → List (List Key × Addr × Value) → Prop := Paired fun p q => p.1 = q.1 ∧ H q.2.1 = some (.tup (p.1.map kV)) ∧ RelV p.2 q.2.2
theorem KT.val {H : Hp} {kvs : List (List Key × V)} {xs : List (List Key × Addr × Value)} (r : KT H kvs xs) (k : List Key) : RelO (valV kvs k) ((atKey xs k).map (·.2)) := by
  induction r with
  | nil => exact True.intro
  | @cons p q ps qs h t ih =>
    obtain ⟨h1, _, h2⟩ := h
    by_cases e : p.1 = k
    · have e' : q.1 = k := h1.symm.trans e
      have b : atKey (q :: qs) k = some q.2 := by simp [atKey, List.find?_cons, e']
      rw [valV_pos e, b]; exact h2
    · have e' : ¬ q.1 = k := fun z => e (h1.trans z)
      have b : atKey (q :: qs) k = atKey qs k := by simp [atKey, List.find?_cons, e']
      rw [valV_neg e, b]; exact ih
theorem KT.repl {H : Hp} {kvs : List (List Key × V)} {xs : List (List Key × Addr × Value)} (r : KT H kvs xs) (k : List Key) {y : V} {u : Value} (ry : RelV y u) :
    KT H (kvs.map fun kv => if kv.1 = k then (kv.1, y) else kv) (xs.map (putAt k u)) := by
  induction r with
  | nil => exact .nil
  | @cons p q ps qs h t ih =>
    rw [List.map_cons, List.map_cons]
    refine .cons ?_ ih
    obtain ⟨h1, h2, h3⟩ := h
    unfold putAt
    by_cases e : p.1 = k
    · rw [if_pos e, if_pos (h1.symm.trans e)]; exact ⟨h1, h2, ry⟩
    · rw [if_neg e, if_neg (fun z => e (h1.trans z))]; exact ⟨h1, h2, h3⟩
theorem KT.put {H : Hp} {kvs : List (List Key × V)} {xs : List (List Key × Addr × Value)} (r : KT H kvs xs) (k : List Key) {b : Addr} {y : V} {u : Value} (hb : H b = some (.tup (k.map kV))) (ry : RelV y u) :
    KT H (putK kvs k y) (storedH xs k b u) := by
  have e : (kvs.any fun kv => decide (kv.1 = k)) = (atKey xs k).isSome := by
    rw [valV_any, (r.val k).isSome_eq, Option.isSome_map]
  unfold putK storedH
  rw [e]
  by_cases q : (atKey xs k).isSome = true
  · rw [if_pos q, if_pos q]; exact r.repl k ry
  · rw [if_neg q, if_neg q]; exact Paired.snoc r ⟨rfl, hb, ry⟩
theorem KT.keeps {H H' : Hp} {kvs : List (List Key × V)} {xs : List (List Key × Addr × Value)} (r : KT H kvs xs) (ht : ∀ b ys, H b = some (.tup ys) → H' b = some (.tup ys)) : KT H' kvs xs :=
  Paired.mapP r fun _ _ z => ⟨z.1, ht _ _ z.2.1, z.2.2⟩
section
variable {P : Program} {w : World} {H : Hp} {h : Heap} {a : Addr}
theorem rd_of {u : HO} (ok : HOk P w H h) (e : Rd H a u) : ObjOk P w H h a u := e.ok ok
theorem dk_rd {kvs : List (Key × V)} (ok : HOk P w H h) (e : Rd H a (.dK kvs)) : kvs.length ≤ sizeLine ∧ (a == sysModules) = false ∧ ∃ vs, KV kvs vs ∧ h.DictOf (mixKind P w) a vs :=
  show ObjOk P w H h a (.dK kvs) from rd_of ok e
theorem dk_of {kvs : List (Key × V)} (ok : HOk P w H h) (e : H a = some (.dK kvs)) : kvs.length ≤ sizeLine ∧ (a == sysModules) = false ∧ ∃ vs, KV kvs vs ∧ h.DictOf (mixKind P w) a vs := dk_rd ok (.inl e)
theorem key_of {ks : List Key} (ok : HOk P w H h) (e : H a = some (.tup (ks.map kV))) : (tupleKind (mixKind P w)).is h ks a := by
  obtain ⟨_, its, r, o, h1, h2, n, h3⟩ := (show ObjOk P w H h a (.tup (ks.map kV)) from ok a _ e)
  exact ⟨o, its.toArray, n, h1, h2, h3, by simpa using items_are r⟩
theorem dt_rd {kvs : List (List Key × V)} (ok : HOk P w H h) (e : Rd H a (.dT kvs)) : kvs.length ≤ sizeLine ∧ (a == sysModules) = false ∧
    ∃ xs, KT H kvs xs ∧ h.DictOfH (tupleKind (mixKind P w)) a xs := by
  obtain ⟨z, y, xs, r, o, es, ep, h1, h2, h3, h4, h5⟩ := (show ObjOk P w H h a (.dT kvs) from rd_of ok e)
  refine ⟨z, y, xs, r, o, es, ep, h1, h2, h3, h4, fun x hx => ?_, h5⟩
  have all : ∀ {l : List (List Key × V)} {m : List (List Key × Addr × Value)}, KT H l m → ∀ x ∈ m, (tupleKind (mixKind P w)).is h x.1 x.2.1 := by
    intro l m q
    induction q with
    | nil => intro x hx; exact nomatch hx
    | @cons p q ps qs hq t ih =>
      intro x hx
      rcases List.mem_cons.mp hx with e | hx
      · subst e
        exact key_of ok (by rw [← hq.1]; exact hq.2.1)
      · exact ih x hx
  exact all r x hx
theorem dt_of {kvs : List (List Key × V)} (ok : HOk P w H h) (e : H a = some (.dT kvs)) : kvs.length ≤ sizeLine ∧ (a == sysModules) = false ∧
    ∃ xs, KT H kvs xs ∧ h.DictOfH (tupleKind (mixKind P w)) a xs := dt_rd ok (.inl e)
end
def DGet (H : Hp) (a : Addr) (y : V) (r : Option V) : Prop :=
  (∃ kvs k, Rd H a (.dK kvs) ∧ y = kV k ∧ r = valV kvs k) ∨ ∃ kvs k b, Rd H a (.dT kvs) ∧ y = .ref b ∧ H b = some (.tup (k.map kV)) ∧ r = valV kvs k
def DPut (H : Hp) (a : Addr) (y v : V) (H' : Hp) : Prop :=
  (∃ kvs k, H a = some (.dK kvs) ∧ y = kV k ∧ kvs.length < sizeLine ∧ H' = upd H a (.dK (putK kvs k v))) ∨
  ∃ kvs k b, H a = some (.dT kvs) ∧ y = .ref b ∧ H b = some (.tup (k.map kV)) ∧ kvs.length < sizeLine ∧ H' = upd H a (.dT (putK kvs k v))
theorem DGet.k {H : Hp} {a : Addr} {kvs : List (Key × V)} {k : Key} (e : H a = some (.dK kvs)) : DGet H a (kV k) (valV kvs k) := .inl ⟨kvs, k, .inl e, rfl, rfl⟩
theorem DPut.k {H : Hp} {a : Addr} {kvs : List (Key × V)} {k : Key} {v : V} (e : H a = some (.dK kvs)) (hl : kvs.length < sizeLine) : DPut H a (kV k) v (upd H a (.dK (putK kvs k v))) := .inl ⟨kvs, k, e, rfl, hl, rfl⟩
section
variable {X : Cx} {pins : List (Addr × Obj)} {σ : St} {H : Hp} {s : Shared} {a : Addr} {y v : V} {u r : Value} {o : Option V} {A : Around} {E : Value → Shared → Prop}
theorem Inv.big (I : Inv X pins σ H s) : sysModules < s.heap.objs.size := by
  have h : mainGlobals < s.heap.objs.size := (I.mod.glob.keeps I.bk).lt
  exact Nat.lt_trans (by decide) h
theorem d_getItem {Q : Value → Shared → Prop} (hu : A.units + 1 < cLine) (I : Inv X pins σ H s) (g : DGet H a y (some v)) (ry : RelV y u) (h : ∀ w' s', Inv X pins σ H s' → RelV v w' → Q w' s') :
    wpAny (model X.prog X.w) A (getItem (.ref a) u) Q E s := by
  rcases g with ⟨kvs, k, e, ey, l⟩ | ⟨kvs, k, b, e, ey, eb, l⟩
  · subst ey
    obtain ⟨z, hd, vs, rel, dd⟩ := dk_rd I.hok e
    obtain ⟨w', hw, rw'⟩ := RelO.some_of (v := v) (o := valueAt vs k) (by rw [l]; exact rel.val k)
    exact wpAny_getItem_of (kV_is ry) dd.mapOf hw (h w' _ (I.tok _) rw')
  · subst ey
    cases (show u = Value.ref b from ry)
    obtain ⟨z, hd, xs, rel, dd⟩ := dt_rd I.hok e
    obtain ⟨w', hw, rw'⟩ := RelO.some_of (v := v) (o := (atKey xs k).map (·.2)) (by rw [l]; exact rel.val k)
    obtain ⟨p, hp, hp2⟩ := Option.map_eq_some_iff.mp hw
    refine wpAny_getItem_heap (tupleKind_room_in1 hu) (key_of I.hok eb) dd hp ?_
    rw [hp2]
    exact h w' _ (I.tok _) rw'
theorem d_notIn {Q : Value → Shared → Prop} (hu : A.units + 1 < cLine) (I : Inv X pins σ H s) (g : DGet H a y o) (ry : RelV y u) (h : ∀ s', Inv X pins σ H s' → Q (.bool (!o.isSome)) s') :
    wpAny (model X.prog X.w) A (compareOp .NotIn u (.ref a)) Q E s := by
  rcases g with ⟨kvs, k, e, ey, l⟩ | ⟨kvs, k, b, e, ey, eb, l⟩
  · subst ey
    obtain ⟨z, hd, vs, rel, dd⟩ := dk_rd I.hok e
    refine wpAny_notIn_of (kV_is ry) hd dd.mapOf ?_
    rw [← (rel.val k).isSome_eq, ← l]
    exact h _ (I.tok _)
  · subst ey
    cases (show u = Value.ref b from ry)
    obtain ⟨z, hd, xs, rel, dd⟩ := dt_rd I.hok e
    refine wpAny_notIn_heap (tupleKind_room_in1 hu) (key_of I.hok eb) hd dd ?_
    have q := (rel.val k).isSome_eq
    rw [Option.isSome_map] at q
    rw [← q, ← l]
    exact h _ (I.tok _)
theorem d_write {h' : Heap} {t' : Nat} {ob : HO} (I : Inv X pins σ H s) (mu : Mut (H a)) (hs : Heap.SameBut a s.heap h') (he : ∃ q, h'.get? a = some q) (new : ObjOk X.prog X.w (upd H a ob) h' a ob) :
    Inv X pins σ (upd H a ob) { s with heap := h', toks := t' } :=
  I.write (x := a) (e := a) mu (.inl rfl) (fun b q hb z => (hs.2 b hb).trans z) he new
theorem dk_new {P : Program} {w : World} {H' : Hp} {h' : Heap} {kvs : List (Key × V)} {vs : List (Key × Value)} (z : kvs.length ≤ sizeLine) (hd : (a == sysModules) = false) (rel : KV kvs vs) (dd : h'.DictOf (mixKind P w) a vs) :
    ObjOk P w H' h' a (.dK kvs) := ⟨z, hd, vs, rel, dd⟩
theorem d_setItem {H' : Hp} {Q : Unit → Shared → Prop} (hu : A.units + 1 < cLine) (I : Inv X pins σ H s) (g : DPut H a y v H') (ry : RelV y u) (rv : RelV v r) (h : ∀ s', Inv X pins σ H' s' → Q () s') :
    wpAny (model X.prog X.w) A (setItem (.ref a) u r) Q E s := by
  rcases g with ⟨kvs, k, e, ey, l, eH⟩ | ⟨kvs, k, b, e, ey, eb, l, eH⟩
  · subst ey eH
    obtain ⟨z, hd, vs, rel, dd⟩ := dk_of I.hok e
    have hz : vs.length ≤ sizeLine := by rw [← rel.length]; exact z
    have hl : (putK kvs k v).length ≤ sizeLine := by have := length_putK kvs k v; omega
    refine wpAny_setItem_pairs (hsz := hz) (kV_is ry) dd fun h' dd' hs => h _ ?_
    have he : ∃ q, h'.get? a = some q := let ⟨q, _, _, hq, _⟩ := dd'; ⟨q, hq⟩
    exact d_write I (by rw [e]; exact True.intro) hs he (dk_new hl hd (rel.put k rv) dd')
  · subst ey eH
    cases (show u = Value.ref b from ry)
    obtain ⟨z, hd, xs, rel, dd⟩ := dt_of I.hok e
    have hz : xs.length ≤ sizeLine := by rw [← Paired.length rel]; exact z
    have hl : (putK kvs k v).length ≤ sizeLine := by have := length_putK kvs k v; omega
    refine wpAny_setItem_heap (hsz := hz) (tupleKind_room_in1 hu) (key_of I.hok eb) dd fun h' dd' hs => h _ ?_
    obtain ⟨q, es, ep, hq, h2, h3, h4, _, h5⟩ := dd'
    refine d_write I (by rw [e]; exact True.intro) hs ⟨q, hq⟩ ⟨hl, hd, _, (rel.put k eb rv).keeps fun c ys ec => ?_, q, es, ep, hq, h2, h3, h4, h5⟩
    rw [upd_ne (ne_of ec e (fun z => nomatch z))]
    exact ec
end
section
variable {X : Cx} {pins : List (Addr × Obj)} {σ : St} {H : Hp} {s : Shared} {a : Addr} {kvs : List (Key × V)} {k : Key} {u : Value} {A : Around} {E : Value → Shared → Prop}
theorem d_pop {v : V} {more : List Value} {Q : Value → Shared → Prop} (I : Inv X pins σ H s) (e : H a = some (.dK kvs)) (ry : RelV (kV k) u) (l : valV kvs k = some v) (hm : more = [] ∨ ∃ x, more = [x])
    (h : ∀ w' s', Inv X pins σ (upd H a (.dK (dropK kvs k))) s' → RelV v w' → Q w' s') : wpAny (model X.prog X.w) A (call (.builtin "dict.pop") (.ref a :: u :: more)) Q E s := by
  obtain ⟨z, hd, vs, rel, dd⟩ := dk_of I.hok e
  obtain ⟨w', hw, rw'⟩ := RelO.some_of (v := v) (o := valueAt vs k) (by rw [← l]; exact rel.val k)
  have hp : (keyPart u).isSome = true := by
    cases k with
    | inl i => obtain ⟨t, q⟩ := (show ∃ t, u = Value.int i t from ry); subst q; rfl
    | inr x => obtain ⟨t, q⟩ := (show ∃ t, u = Value.str x t from ry); subst q; rfl
  have ha : argsOk "dict.pop" ⟨.ref a :: u :: more, []⟩ := by
    rcases hm with q | ⟨x, q⟩
    · subst q; exact PySem.F.args_dict_pop_2 _ _
    · subst q; exact PySem.F.args_dict_pop_3 _ _ _
  refine call_meetsIn PySem.F.slot_dict_pop dd.typeIs PySem.F.entry_dict_pop ha (meets_dict_pop_there (mixKind X.prog X.w) a (kV_is ry) more hm hp)
    ⟨vs, w', dd, by rw [← rel.length]; exact z, hw, fun h' dd' hs => h w' _ ?_ rw'⟩
  have he : ∃ q, h'.get? a = some q := let ⟨q, _, _, hq, _⟩ := dd'; ⟨q, hq⟩
  exact d_write I (by rw [e]; exact True.intro) hs he (dk_new (Nat.le_trans (dropK_le kvs k) z) hd (rel.drop k) dd')
theorem d_len {Q : Value → Shared → Prop} (I : Inv X pins σ H s) (e : Rd H a (.dK kvs)) (h : ∀ t s', Inv X pins σ H s' → Q (.int kvs.length t) s') : wpAny (model X.prog X.w) A (call (.builtin "len") [.ref a]) Q E s := by
  obtain ⟨z, hd, vs, rel, dd⟩ := dk_rd I.hok e
  refine call_len_dict hd dd (by rw [← rel.length]; rw [sizeLine_eq] at z; omega) ?_
  rw [← rel.length]
  exact h _ _ (I.tok _)
end
def NoSl (i : Expr) : Prop := ∀ ov iv, subscripted i false ov iv = operate [ov, iv] (getItem ov iv)
theorem subD_of {prog : Program} {w : World} {A : Around} {E : Value → Shared → Prop} {s : Shared} {env : Env} {value slice : Expr} {pos : Pos} {T id : String} {Q : Value → Shared → Prop}
    (hl : typeLookup (.type T) "__getitem__" = pure (some (.builtin id))) (hs : NoSl slice)
    (h : wpAny (model prog w) A (eval value env) (fun o s₁ => wpAny (model prog w) A (eval slice env) (fun i s₂ => s₂.TypeIs o T ∧ wpAny (model prog w) A (getItem o i) Q E s₂) E s₁) E s) :
    wpAny (model prog w) A (eval (.Subscript value slice pos) env) Q E s := by
  refine Subscript_ (wpAny_mono h (fun o s₁ h₁ => wpAny_mono h₁ (fun i s₂ h₂ => ?_) fun _ _ x => x) fun _ _ x => x)
  obtain ⟨hT, h₂⟩ := h₂
  unfold subscriptTail
  refine wpAny_bind ?_
  rw [getitemInPython_of_ne hT.not_modules]
  refine wpAny_bind (wpAny_specialOf hT hl ?_)
  have fin : wpAny (model prog w) A (subscripted slice false o i) (fun r s₃ => wpAny (model prog w) A (letTemporaryGo value o r >>= fun _ => pure r) Q E s₃) E s₂ := by
    rw [hs o i]
    exact wpAny_operating (wpAny_mono h₂ (fun r s₃ h₃ => wpAny_bind (wpAny_letTemporaryGo (wpAny_pure h₃))) fun _ _ x => x)
  first
    | exact wpAny_pure (wpAny_bind fin)
    | exact wpAny_bind (wpAny_pure (wpAny_bind fin))
    | exact wpAny_bind fin
theorem dict_typeIs {X : Cx} {pins : List (Addr × Obj)} {σ : St} {H : Hp} {s : Shared} {a : Addr} {y : V} {o : Option V} (I : Inv X pins σ H s) (g : DGet H a y o) : s.TypeIs (.ref a) "dict" := by
  rcases g with ⟨kvs, k, e, _, _⟩ | ⟨kvs, k, b, e, _, _, _⟩
  · obtain ⟨_, _, vs, _, dd⟩ := dk_rd I.hok e
    exact dd.typeIs
  · obtain ⟨_, _, xs, _, dd⟩ := dt_rd I.hok e
    exact dd.typeIs
def tDGet (td ty : TE) : TE := fun σ H Q => td σ H fun x H1 => ty σ H1 fun y H2 => ∃ a v, x = .ref a ∧ DGet H2 a y (some v) ∧ Q v H2
def sDPut (td ty tv : TE) : TS := fun D σ H => tv σ H fun v H1 => td σ H1 fun x H2 => ty σ H2 fun y H3 => ∃ a H4, x = .ref a ∧ DPut H3 a y v H4 ∧ D.nx σ H4
section
variable {X : Cx} {o i e value : Expr} {pos pos' tpos : Pos} {td ty tv : TE}
theorem pe_dget (hu : X.A.units + 1 < cLine) (ho : PE X o td) (hi : PE X i ty) (hs : NoSl i) : PE X (.Subscript o i pos) (tDGet td ty) := by
  intro pins s σ H Q I h
  refine subD_of PySem.F.slot_dict_getitem.lookup hs (thn (ho pins s σ H _ I h) fun u s1 ⟨x, H1, I1, rx, q1⟩ => thn (hi pins s1 σ H1 _ I1 q1) fun iv s2 ⟨y, H2, I2, ry, a, v, ex, g, q2⟩ => ?_)
  subst ex
  obtain rfl : u = Value.ref a := rx
  exact ⟨dict_typeIs I2 g, d_getItem hu I2 g ry fun w' s3 I3 rw' => ⟨v, H2, I3, rw', q2⟩⟩
theorem ps_dput (hu : X.A.units + 1 < cLine) (ho : PE X o td) (hi : PE X i ty) (hv : PE X value tv) (hs : swapsWith value (some (.Subscript o i pos')) pos.line X.env = pure false) :
    PS X (.Assign [.Subscript o i pos'] value pos) (sDPut td ty tv) := by
  intro pins s σ H D I h
  refine wpAny_Assign_Subscript (thn (hv pins s σ H _ I h) fun r s1 ⟨v, H1, I1, rv, q1⟩ => thn (ho pins s1 σ H1 _ I1 q1) fun u s2 ⟨x, H2, I2, rx, q2⟩ => thn (hi pins s2 σ H2 _ I2 q2) fun iv s3 ⟨y, H3, I3, ry, a, H4, ex, g, q3⟩ => ?_) hs
  subst ex
  obtain rfl : u = Value.ref a := rx
  exact d_setItem hu I3 g ry rv fun s4 I4 => ⟨σ, H4, I4, q3⟩
end
theorem dk_empty {P : Program} {w : World} {H : Hp} (h : Heap) (hb : sysModules < h.objs.size) : ObjOk P w H (h.push { cls := .type "dict", data := .dict #[] }) h.objs.size (.dK []) :=
  ⟨Nat.zero_le _, beq_eq_false_iff_ne.mpr (Ne.symm (Nat.ne_of_lt hb)), [], .nil, Heap.DictOf.new h⟩
def tDNewK : TE := fun _ H Q => ∀ p, H p = none → Q (.ref p) (upd H p (.dK []))
section
variable {X : Cx} {pos : Pos}
theorem pe_dnewK : PE X (.Dict [] [] pos) tDNewK := fun pins s σ H Q I h =>
  wpAny_Dict_empty ⟨.ref s.heap.objs.size, _, I.laid (a := s.heap.objs.size) (o := .dK []) (t' := s.toks) (fun _ _ q => Heap.get?_push_of_some _ q) (Nat.le_refl _) (dk_empty s.heap I.big), rfl, h _ (I.hok.fresh (Nat.le_refl _))⟩
end
structure M1 (X : Cx) (o : Expr) (m : Str) (apos : Pos) (e : Expr) (cpos : Pos) : Prop where
  base : attributeBase o m X.env (eval o X.env) = eval o X.env
  few : ((backTo cpos (starEach [e] X.env)).all (fun x => !x.1) && (backToKw cpos (keywordEach [] X.env)).all (fun x => x.1.isSome)
    && decide (([e] : List Expr).length + ([] : List Keyword).length + (if ([] : List Keyword).isEmpty then 0 else 1) < 30)) = true
  line : (apos.endLine == cpos.line) = true
  trees : backTo cpos (starEach [e] X.env) = [(false, eval e X.env)]
def IsD (H : Hp) (a : Addr) : Prop := (∃ kvs, Rd H a (.dK kvs)) ∨ ∃ kvs, Rd H a (.dT kvs)
theorem isD_at {X : Cx} {pins : List (Addr × Obj)} {σ : St} {H : Hp} {s : Shared} {a : Addr} (I : Inv X pins σ H s) (d : IsD H a) :
    s.TypeIs (.ref a) "dict" ∧ (∀ b, Value.ref a = .ref b → ∃ ob, s.heap.get? b = some ob ∧ ob.dict = none) ∧ (a == sysModules) = false := by
  rcases d with ⟨kvs, e⟩ | ⟨kvs, e⟩
  · obtain ⟨_, hd, vs, _, dd⟩ := dk_rd I.hok e
    refine ⟨dd.typeIs, fun b q => ?_, hd⟩
    cases q
    obtain ⟨ob, _, _, h1, h2, _⟩ := dd
    exact ⟨ob, h1, h2.2.1⟩
  · obtain ⟨_, hd, xs, _, dd⟩ := dt_rd I.hok e
    refine ⟨dd.typeIs, fun b q => ?_, hd⟩
    cases q
    obtain ⟨ob, _, _, h1, h2, _⟩ := dd
    exact ⟨ob, h1, h2.2.1⟩
section
variable {X : Cx} {pins : List (Addr × Obj)} {σ : St} {H : Hp} {s : Shared} {a : Addr} {y d : V} {u r : Value} {o : Option V} {A : Around} {E : Value → Shared → Prop}
end
def tDPop1 (td ty : TE) : TE := fun σ H Q => td σ H fun x H1 => ∃ a, x = .ref a ∧ IsD H1 a ∧ ty σ H1 fun y H2 => ∃ kvs k v, H2 a = some (.dK kvs) ∧ y = kV k ∧ valV kvs k = some v ∧ Q v (upd H2 a (.dK (dropK kvs k)))
section
variable {X : Cx} {o e f : Expr} {apos cpos : Pos} {td ty tx : TE}
theorem pe_dpop1 (ho : PE X o td) (he : PE X e ty) (m : M1 X o "pop" apos e cpos) : PE X (.Call (.Attribute o "pop" apos) [e] [] cpos) (tDPop1 td ty) := by
  intro pins s σ H Q I h
  refine wpAny_Call_method m.base m.few m.line PySem.F.plainAttrs_dict PySem.F.slot_dict_pop PySem.F.type_dict_pop (thn (ho pins s σ H _ I h) fun u s1 ⟨x, H1, I1, rx, a, ex, d, q1⟩ => ?_)
  subst ex
  obtain rfl : u = Value.ref a := rx
  obtain ⟨t1, t2, _⟩ := isD_at I1 d
  refine ⟨t1, t2, ?_⟩
  rw [m.trees]
  refine Calls.callWith_builtin rfl (Calls.evalArgs_plain (Calls.spliced_cons (thn (he pins s1 σ H1 _ I1 q1) fun iv s2 ⟨y, H2, I2, ry, kvs, k, v, ea, ey, l, q2⟩ => Calls.spliced_nil ?_)))
  subst ey
  exact d_pop I2 ea ry l (.inl rfl) fun w' s3 I3 rw' => ⟨v, _, I3, rw', q2⟩
end
section
variable {X : Cx} {pins : List (Addr × Obj)} {σ : St} {H : Hp} {s : Shared} {a : Addr} {kvs : List (Key × V)} {A : Around} {E : Value → Shared → Prop}
end
section
variable {X : Cx} {pins : List (Addr × Obj)} {σ : St} {H : Hp} {s : Shared} {a : Addr} {y : V} {u : Value} {A : Around} {E : Value → Shared → Prop}
end
end L2
namespace Att
open PySem PySem.W PySem.Calls PyProof.Rows
section
variable {prog : Program} {w : World} {A : Around} {E : Value → Shared → Prop} {s : Shared} {K : Frag}
end
end Att
namespace L2
open PySem PySem.Spec PyProof.Rows
end L2
namespace L2
open PySem PySem.Spec PyProof.Rows
end L2
namespace L2
open PySem PySem.Spec PyProof.Rows
section
variable {P : Program} {w : World} {K : Frag} {mg : Str → Option Value} {base : Heap}
end
section
variable {X : Cx}
theorem call_lenD : CallR X (.builtin "len") (fun xs H Q => ∃ a kvs, xs = [V.ref a] ∧ H a = some (.dK kvs) ∧ Q (.int kvs.length) H) := by
  intro pins s σ H xs us Q I r h
  obtain ⟨a, kvs, rfl, ha, q⟩ := h
  obtain ⟨u, rfl, ru⟩ := vals1 r
  cases ru
  exact d_len I (.inl ha) fun t s' I' => ⟨.int kvs.length, H, I', ⟨t, rfl⟩, q⟩
end
section
variable {κ : Type} [DecidableEq κ]
theorem valV_not {kvs : List (κ × V)} {k : κ} (h : valV kvs k = none) : ¬ k ∈ kvs.map (·.1) := by
  intro m
  obtain ⟨p, hp, e⟩ := List.mem_map.mp m
  have q : (kvs.any fun kv => decide (kv.1 = k)) = true := List.any_eq_true.mpr ⟨p, hp, decide_eq_true e⟩
  rw [valV_any, h] at q
  exact absurd q (by simp)
end
end L2
namespace HT
open PySem PySem.Calls PyProof.Rows PyProof.V PySem.Spec PySem.W
section
variable {prog : Program} {w : World} {A : Around} {E : Value → Shared → Prop} {s : Shared}
end
section
variable {prog : Program} {w : World} {A : Around} {s : Shared} {R : Result → Shared → Prop}
end
section
variable {h h' : Heap} {z TI TO i1 i2 l1 l2 : Addr} {xs ys : Array Value}
end
section
variable {prog : Program} {w : World} {A : Around} {E : Value → Shared → Prop} {s : Shared} {z TI TO i1 i2 l1 l2 : Addr} {xs ys : Array Value}
end
end HT
namespace L2
open PySem PySem.Spec PyProof.Rows HT
section
variable {X : Cx} {pins : List (Addr × Obj)} {σ : St} {H H' : Hp} {s : Shared} {h' : Heap}
theorem Inv.many {t' : Nat} (I : Inv X pins σ H s) (k : ∀ b u, s.heap.get? b = some u → h'.get? b = some u) (old : ∀ b, b < s.heap.objs.size → H' b = H b)
    (new : ∀ b o, s.heap.objs.size ≤ b → H' b = some o → ((∃ xs, o = .tup xs) ∨ ∃ xs, o = .lst xs) ∧ ObjOk X.prog X.w H' h' b o) : Inv X pins σ H' { s with heap := h', toks := t' } := by
  have up : ∀ b o, H b = some o → H' b = some o := fun b o e => by rw [old b (I.hok.lt e)]; exact e
  refine I.un ⟨fun b ob q _ _ _ => k b ob q, fun b ob q _ _ _ => ⟨ob.slots, k b ob q⟩, fun b ob q n _ => by rw [old b (Heap.lt_size q)]; exact n, fun b ob q _ => ⟨ob, k b ob q⟩, fun b xs q => up b _ q, fun b o u q => up b _ q, fun b ps q => ⟨#[], by rw [up b _ q]; simp⟩⟩ fun b o e => ?_
  rcases Nat.lt_or_ge b s.heap.objs.size with hb | hb
  · rw [old b hb] at e
    exact (I.hok b o e).stay (fun c v _ q => k c v q) (fun c q => up c _ q) fun c xs q => up c _ q
  · exact (new b o hb e).2
def pairH (H : Hp) (S : Addr) (as : List Addr) (xs ys : List V) : Hp := fun b =>
  if b = S then some (.lst (as.map V.ref)) else match as.findIdx? (· == b) with
    | some j => match xs[j]?, ys[j]? with | some x, some y => some (.tup [x, y]) | _, _ => none
    | none => H b
theorem findIdx_of {as : List Addr} (nd : as.Nodup) {j : Nat} {a : Addr} (h : as[j]? = some a) : as.findIdx? (· == a) = some j := by
  have hj := get_lt h
  rw [List.findIdx?_eq_some_iff_getElem]
  refine ⟨hj, ?_, fun i hi => ?_⟩
  · rw [List.getElem?_eq_getElem hj] at h; cases h; simp
  · rw [List.getElem?_eq_getElem hj] at h; cases h
    intro z
    have e : as[i]'(by omega) = as[j] := by simpa using z
    have := (List.getElem_inj nd).mp e
    omega
theorem findIdx_no {as : List Addr} {b : Addr} (h : b ∉ as) : as.findIdx? (· == b) = none := by
  rw [List.findIdx?_eq_none_iff]
  intro x hx
  simp only [beq_eq_false_iff_ne, ne_eq]
  exact fun z => h (z ▸ hx)
end
end L2
namespace L2
open PySem PySem.Spec PyProof.Rows
end L2
namespace L2
open PySem PySem.Spec PyProof.Rows HT
section
variable {X : Cx} {pins : List (Addr × Obj)} {σ : St} {H : Hp} {s : Shared} {a : Addr} {A : Around} {E : Value → Shared → Prop}
theorem vals_of : ∀ (xs : List V) (us : List Value), xs.length = us.length → (∀ (i : Nat) (x : V) (u : Value), xs[i]? = some x → us[i]? = some u → RelV x u) → Vals xs us
  | [], [], _, _ => .nil
  | x :: xs, u :: us, h, f => .cons (f 0 x u rfl rfl) (vals_of xs us (Nat.succ.inj h) fun i y v h1 h2 => f (i + 1) y v h1 h2)
theorem key_rel {P : Program} {w : World} {k : Key} {v : Value} (h : (mixKind P w).is k v = true) : RelV (kV k) v := by
  rcases keyIs_shape (k := k) (v := v) h with ⟨i, t, rfl, rfl⟩ | ⟨x, t, rfl, rfl⟩
  · exact ⟨t, rfl⟩
  · exact ⟨t, rfl⟩
theorem call_listD (hc : X.calm = true) : CallR X (.type "list") (fun xs H Q => ∃ a kvs, xs = [V.ref a] ∧ H a = some (.dK kvs) ∧ ∀ l, H l = none → Q (.ref l) (upd H l (.lst (kvs.map fun kv => kV kv.1)))) := by
  intro pins s σ H xs us Q I r h
  obtain ⟨a, kvs, rfl, ha, q⟩ := h
  obtain ⟨u, rfl, ru⟩ := vals1 r
  cases ru
  obtain ⟨z, hd, vs, rel, o, es, ep, d1, d2, d3, d4, d5, d6⟩ := dk_of I.hok ha
  have dd : s.heap.DictAt (mixKind X.prog X.w) a vs ep := ⟨o, es, d1, d2, d3, d4, d5, d6⟩
  have hl := rel.length
  refine PySem.W.kdl_call (PySem.W.kdl_dict hd) (I.ok.hd hc) dd (by rw [← hl]; exact z) fun h' tk acc c hk hS hI => ?_
  have hv : Vals (kvs.map fun kv => kV kv.1) acc.toList := by
    have hks := rel.keys
    refine vals_of _ _ (by rw [List.length_map]; exact hl.trans (hI.1.symm.trans Array.length_toList.symm)) fun i x u hx hu => ?_
    obtain ⟨k, y, hy, hk⟩ := hI.2 i u (by rw [← Array.getElem?_toList]; exact hu)
    have h1 : (kvs.map (·.1))[i]? = some k := by rw [hks, List.getElem?_map, hy]; rfl
    rw [List.getElem?_map] at h1 hx
    obtain ⟨kv, h2, rfl⟩ := Option.map_eq_some_iff.mp h1
    rw [h2] at hx
    have ex : x = kV kv.1 := (Option.some.inj hx).symm
    rw [ex]
    exact key_rel hk
  exact ⟨.ref s.heap.objs.size, _, I.laid (t' := tk) hk (Nat.le_refl _) (show ObjOk X.prog X.w _ h' _ (.lst _) from ⟨by rw [List.length_map]; exact z, acc.toList, c, hv, by rw [Array.toArray_toList]; exact hS⟩), rfl, q _ (I.hok.fresh (Nat.le_refl _))⟩
end
section
variable {X : Cx} {o e : Expr} {td ty : TE} {apos cpos : Pos}
end
end L2
namespace L2
open PySem PySem.Spec PyProof.Rows
section
variable {X : Cx} {pins : List (Addr × Obj)} {σ : St} {H : Hp} {s : Shared} {a : Addr} {A : Around} {E : Value → Shared → Prop}
end
section
variable {prog : Program} {w : World} {A : Around} {R : Result → Shared → Prop} {s : Shared}
end
theorem lt1 {n c : Nat} (h : n + 64 < c) : n + 1 < c := by omega
section
variable {X : Cx}
theorem op_dnotin (hu : X.A.units + 64 < cLine) : OpR X (compareOp .NotIn) (fun x y H Q => ∃ a o, y = .ref a ∧ DGet H a x o ∧ Q (.bl (!o.isSome)) H) := by
  intro pins s σ H x y v u Q I rx ry h
  obtain ⟨a, o, rfl, g, q⟩ := h
  cases (show u = Value.ref a from ry)
  exact d_notIn (lt1 hu) I g rx fun s3 I3 => ⟨.bl (!o.isSome), H, I3, rfl, q⟩
end
section
variable {X : Cx} {kx vx tg iter : Expr} {ifs : List Expr} {scope : Scope} {pos : Pos} {wi : TI} {g : TG} {tc : TT} {tk te : TE}
end
end L2
namespace L2
open PySem PySem.Spec PyProof.Rows
section
variable {M F F' : Hp} {a b : Addr} {o : HO}
end
section
variable {P : Program} {w : World} {H : Hp} {h h' : Heap} {M F F' : Hp} {a : Addr} {o : HO}
end
section
variable {P : Program} {w : World} {K : Frag} {mg : Str → Option Value} {base : Heap} {k : Nat} {f : Addr} {fd : FuncData} {ps : List Str} {sp sp' : Sp}
end
section
variable {Z : Addr → Prop} {H F : Hp} {b : Addr}
end
section
variable {P : Program} {w : World} {K : Frag} {mg : Str → Option Value} {base : Heap} {k : Nat} {f : Addr} {fd : FuncData} {ps : List Str} {sp : Sp}
end
section
variable {X : Cx}
end
end L2
namespace Rc
open PySem PySem.Spec PyProof.Rows L2
section
variable {K : Frag} {H : Hp} {vs : List V} {L : List (Int × Int)} {us : List V} {cs : List Row}
end
end Rc
namespace Rc
open PySem PySem.Spec PyProof.Rows L2
end Rc
namespace Rc
open PySem PySem.Spec PyProof.Rows L2
section
variable {cs : List Row} {ls a b : List Int} {d : Nat}
end
end Rc
namespace Rc
open PySem PySem.Spec PyProof.Rows L2
end Rc
namespace Rc
open PySem PySem.Spec PyProof.Rows L2
end Rc
namespace Rc
open PySem PySem.Spec PyProof.Rows L2 PySem.Calls PyProof.V PySem.SeqAt
section
variable {K : Frag} {H H' : Hp} {v : V} {vs us : List V} {ws ts : List Vw}
end
end Rc
namespace Rc
open PySem PySem.Spec PyProof.Rows L2
inductive Tm where
  | stop (ho b m : Int) (L : List (Int × Int))
  | full (k : Str) (ho b m w f l : Int) (L : List (Int × Int))
  | other
def TmAt (K : Frag) (H : Hp) (p : Addr) : Tm → Prop
  | .stop ho b m L => ∃ lp, SqT K H p [.str "stop", .int ho, .int b, .int m, .ref lp] ∧ LinesAt K H lp L ∧ L.length ≤ 100
  | .full k ho b m w f l L => (k = "share" ∨ k = "layer") ∧ ∃ lp, SqT K H p [.str k, .int ho, .int b, .int m, .int w, .int f, .int l, .ref lp] ∧ LinesAt K H lp L ∧ L.length ≤ 100
  | .other => ∃ xs, SqT K H p xs ∧ xs.length ≤ 100 ∧ (xs = [] ∨ ∃ k rest, xs = .str k :: rest ∧ ¬ (k = "stop" ∧ xs.length = 5) ∧ ¬ ((k = "share" ∨ k = "layer") ∧ xs.length = 8))
end Rc
namespace Rc
open PySem PySem.Spec PyProof.Rows L2
end Rc
namespace Rc
open PySem PySem.Spec PyProof.Rows L2
end Rc
namespace L2
open PySem PySem.Spec PyProof.Rows
end L2
namespace Rc
open PySem PySem.Spec PyProof.Rows L2
end Rc
namespace Rc
open PySem PySem.Spec PyProof.Rows L2
section
variable {H H' : Hp} {kvs : List (Key × V)} {rs : List (Nat × List Int)} {d : Addr}
end
theorem valV_no {kvs : List (Key × V)} {k : Key} (h : k ∉ kvs.map (·.1)) : valV kvs k = none := by
  unfold valV
  rw [Option.map_eq_none_iff, List.find?_eq_none]
  intro kv hkv z
  exact h (List.mem_map.mpr ⟨kv, hkv, of_decide_eq_true z⟩)
end Rc
namespace Rc
open PySem PySem.Spec PyProof.Rows L2
section
variable {H : Hp} {kvs : List (Key × V)} {rs : List (Nat × List Int)}
end
end Rc
namespace Rc
open PySem PySem.Spec PyProof.Rows L2
end Rc
namespace Rc
open PySem PySem.Spec PyProof.Rows L2
end Rc
namespace Rc
open PySem PySem.Spec PyProof.Rows L2
section
variable {h : Nat} {cs : List Row} {ls acc : List Int}
end
end Rc
namespace Rc
open PySem PySem.Spec PyProof.Rows L2
section
variable {h : Nat} {cs : List Row} {ls acc : List Int}
end
end Rc
namespace Rc
open PySem PySem.Spec PyProof.Rows L2
section
variable {H : Hp} {kvs kvs' : List (Key × V)} {rs rs' : List (Nat × List Int)}
end
end Rc
namespace Rc
open PySem PySem.Spec PyProof.Rows L2
end Rc
namespace Rc
open PySem PySem.Spec PyProof.Rows L2
section
variable {cs : List Row} {ls acc : List Int}
end
end Rc
namespace Rc
open PySem PySem.Spec PyProof.Rows L2
section
variable {cs : List Row} {ls acc : List Int}
end
end Rc
namespace Rc
open PySem PySem.Spec PyProof.Rows L2
end Rc
namespace Rc
open PySem PySem.Spec PyProof.Rows L2 PySem.Calls PyProof.V PySem.SeqAt
theorem neD_view {K : Frag} {H : Hp} {Q : VK} {v u : V} {d d' : PyData} (h1 : DV K H v d) (h2 : DV K H u d') (e : d = d') (ok : shaped d = true ∧ noMix d d = true) (q : Q (.bl false) H) : rNeD K v u H Q := by
  subst e
  exact ⟨_, _, h1, h2, ok.1, ok.1, ok.2, by rw [PySem.Spec.same_self]; exact q⟩
end Rc
namespace L2
open PySem PySem.Spec PyProof.Rows PySem.W
def BmAt (mg : Str → Option Value) (h : Heap) : Prop := ∃ bm ob, mg "__builtins__" = some (.ref bm) ∧ bm ≠ builtinsNs ∧ h.get? bm = some ob ∧ ob.cls = .type "module" ∧ ob.dict = some builtinsNs ∧ ob.data = .plain
theorem law_callT {P : Program} {w : World} {K : Frag} {mg mb : Str → Option Value} {CX : CXT} {k : Nat} {fa a : Addr} {fd : FuncData} {x : Str} {sp : Sp} {s₁ : Shared} {vs : List Value} {ns : List Int} {ts : List Addr}
    (KX : K.In s₁.heap) (hns : s₁.heap.Ns mainGlobals mg) (hb : s₁.heap.Ns builtinsNs mb) (hbb : ∀ x : Str, x ≠ "__name__" → mb x = bootBuiltins x) (hlim : s₁.heap.NoLimit) (hg : s₁.gens = #[])
    (ha : s₁.heap.get? a = some { cls := .type "list", data := .seq vs.toArray }) (hi : IntsAre vs ns) (hl : ns.length ≤ sizeLine) (hr : Room k callerA) (hT : ∀ P ∈ ts, s₁.heap.get? P = some (tabObj #[])) (hC : ∀ P ∈ ts, ∃ c, codeHdIn K c P = true) (hnT : noTabs K = true) (hbm : BmAt mg s₁.heap)
    (F : ∀ base : Heap, K.In base → base.Ns mainGlobals mg → BmAt mg base → FnOk P w K mg base CX k fa fd [x] sp) (hbind : ∀ (s : Shared) (u : Value), BindsTo s fd ⟨[u], []⟩ [(x, u)])
    (hsp : ∀ H : Hp, SqL K H a (ns.map V.int) → (∀ q ∈ ts, H q = some (.tbl #[])) → sp [.ref a] H (fun v _ => v = .bl true) fun _ _ _ => False)
    (hCX : ∀ H e s', CX [] H s₁ (fun _ _ _ => False) e s' → False) :
    codeAny (model P w) callerA (.call (.ref fa) ⟨[.ref a], []⟩) (fun r s' => r = .ok (.ret (.bool true)) ∧ OldK s₁.heap s'.heap ∧ s'.os = s₁.os ∧ AllBare s'.gens) s₁ := by
  have rv := vals_ints hi
  have lenV := hi.length
  have tabK : ∀ q ∈ ts, K.lookup q = none := fun q hq => by
    cases e : K.lookup q with
    | none => rfl
    | some o =>
      have h2 := List.all_eq_true.mp hnT (q, o) (mem_of_lookupK e)
      have h3 := KX _ _ e
      rw [(hT q hq)] at h3
      cases h3
      exact absurd (show false = true from h2) Bool.false_ne_true
  have core : ∀ H : Hp, SqL K H a (ns.map V.int) → HOk P w H s₁.heap → (∀ q ∈ ts, H q = some (.tbl #[])) →
      (∀ b, H b = none ∨ (b = a ∧ (∃ o xs, H b = some (.frz o (.lst xs))) ∧ K.lookup a = none) ∨ ∃ q ∈ ts, q = b) →
      codeAny (model P w) callerA (.call (.ref fa) ⟨[.ref a], []⟩) (fun r s' => r = .ok (.ret (.bool true)) ∧ OldK s₁.heap s'.heap ∧ s'.os = s₁.os ∧ AllBare s'.gens) s₁ := by
    intro H hS hok hTb hA
    have base_of : ∀ {b : Addr} {o : Obj}, s₁.heap.get? b = some o → H b = none → (hidT s₁.heap H).get? b = some o := fun e n => hidT_get e n
    have noA : ∀ {b : Addr} {o : Obj} {es : Array DictEntry} {ep : Nat}, s₁.heap.get? b = some o → o.data = .dict es ep → H b = none := fun {b o es ep} e d => by
      rcases hA b with z | ⟨z, _, _⟩ | ⟨q, hq, z⟩
      · exact z
      · subst z
        rw [ha] at e; cases e
        have d' : Data.seq vs.toArray _ = Data.dict es ep := d
        cases d'
      · subst z
        rw [(hT q hq)] at e; cases e
        have d' : Data.fields #[] = Data.dict es ep := d
        cases d'
    have nsK : ∀ {b : Addr} {m : Str → Option Value}, s₁.heap.Ns b m → (hidT s₁.heap H).Ns b m := fun {b m} ⟨o, es, ep, e, d, r⟩ => ⟨o, es, ep, base_of e (noA e d), d, r⟩
    have hKb : K.In (hidT s₁.heap H) := fun b o e => base_of (KX b o e) (by
      rcases hA b with z | ⟨z, _, hk⟩ | ⟨q, hq, z⟩
      · exact z
      · subst z; rw [hk] at e; cases e
      · subst z; rw [tabK q hq] at e; cases e)
    have hM : Mod K mg (hidT s₁.heap H) := ⟨hKb, nsK hns, ⟨mb, nsK hb, hbb⟩, let ⟨mc, h1, h2⟩ := hlim; ⟨mc, nsK h1, h2⟩⟩
    have e0 : Env0 P w K mg (hidT s₁.heap H) callerA [] s₁ H := ⟨rfl, hM, fun b o e => of_hidT e, Nat.le_of_eq (hidT_size _ _), trivial, fun b hb => absurd (show b ∈ ([] : List Addr) from hb) (by simp), hok, .of_eq hg⟩
    have hB : BmAt mg (hidT s₁.heap H) := by
      obtain ⟨bm, ob, b1, b2, b3, b4, b5, b6⟩ := hbm
      refine ⟨bm, ob, b1, b2, base_of b3 ?_, b4, b5, b6⟩
      rcases hA bm with z | ⟨z, _, _⟩ | ⟨q, hq, z⟩
      · exact z
      · subst z; rw [ha] at b3; cases b3; exact absurd (Value.type.inj b4) (by decide)
      · subst z; rw [hT q hq] at b3; cases b3; cases b4
    refine codeAny_mono ((F _ hKb (nsK hns) hB).run callerA [] s₁ H ⟨[.ref a], []⟩ [.ref a] [.ref a] _ _ hr e0 (hbind s₁ (.ref a)) (.cons rfl .nil) (hsp H hS hTb)) fun r s' h => ?_
    cases r with
    | error e => exact (hCX H e s' h).elim
    | ok fl =>
      cases fl with
      | next => exact False.elim h
      | brk => exact False.elim h
      | cont => exact False.elim h
      | ret u =>
        obtain ⟨v, H', os, bare, un, hok', r', q⟩ := h
        have q' : v = .bl true := q
        subst q'
        obtain rfl : u = Value.bool true := r'
        refine ⟨rfl, ⟨fun b o e => ?_, fun b o e => un.there b o e (by simp)⟩, os, bare⟩
        rcases hA b with z | ⟨z, ⟨ob, xs, hz⟩, _⟩ | ⟨q, hq, z⟩
        · exact .inl (un.keep b o e z (by intro z; exact absurd (show b ∈ ([] : List Addr) from z) (by simp)) (by simp))
        · have z2 := un.frzs b ob _ hz
          obtain ⟨e1, _⟩ := hok b _ hz
          obtain ⟨e2, _⟩ := hok' b _ z2
          rw [e] at e1; cases e1
          exact .inl e2
        · subst z
          rw [(hT q hq)] at e
          cases e
          obtain ⟨more, hm⟩ := un.tbls _ _ (hTb q hq)
          have e2 : s'.heap.get? q = some { cls := .none, data := .fields (#[] ++ more) } := hok' _ _ hm
          obtain ⟨c, hc⟩ := hC q hq
          obtain ⟨oc, vs, _, _, _, _, _, _, _, c1, c2, c3, c4, _⟩ := codeHd_of_K KX hc
          exact .inr (.inl ⟨⟨c, oc, vs, c1, c2, c3, c4⟩, rfl, #[], more, rfl, e2⟩)
  have tabA : ∀ q ∈ ts, q ≠ a := fun q hq z => by
    have := (hT q hq)
    rw [z, ha] at this; cases this
  cases hk : K.lookup a with
  | some o =>
    have e := KX a o hk
    rw [ha] at e
    cases e
    refine core (fun b => if b ∈ ts then some (.tbl #[]) else none) (.inr ⟨_, vs.toArray, _, hk, rfl, rfl, rfl, by rw [List.size_toArray, lenV]; exact hl, by simpa using rv⟩) (fun b u z => ?_) (fun q hq => if_pos hq) fun b => ?_
    · by_cases hb : b ∈ ts
      · have z' := (if_pos hb).symm.trans z
        cases z'
        have hq := hb
        exact (hT _ hq)
      · have z' := (if_neg hb).symm.trans z
        cases z'
    · by_cases hb : b ∈ ts
      · exact .inr (.inr ⟨b, hb, rfl⟩)
      · exact .inl (if_neg hb)
  | none =>
    refine core (fun b => if b = a then some (.frz { cls := .type "list", data := .seq vs.toArray } (.lst (ns.map V.int))) else if b ∈ ts then some (.tbl #[]) else none) (.inl (.inr ⟨{ cls := .type "list", data := .seq vs.toArray }, if_pos rfl⟩)) (fun b u z => ?_) (fun q hq => by rw [if_neg (tabA q hq), if_pos hq]) fun b => ?_
    · by_cases hb : b = a
      · have z' := (if_pos hb).symm.trans z
        cases z'
        subst hb
        exact ⟨ha, by rw [List.length_map]; exact hl, vs, _, rv, ha⟩
      · have z' := (if_neg hb).symm.trans z
        by_cases hb2 : b ∈ ts
        · have z2 := (if_pos hb2).symm.trans z'
          cases z2
          have hq := hb2
          exact (hT _ hq)
        · have z2 := (if_neg hb2).symm.trans z'
          cases z2
    · by_cases hb : b = a
      · exact .inr (.inl ⟨hb, ⟨_, _, if_pos hb⟩, hk⟩)
      · by_cases hb2 : b ∈ ts
        · exact .inr (.inr ⟨b, hb2, rfl⟩)
        · exact .inl (by rw [if_neg hb, if_neg hb2])
theorem walk_ofT {l : PySem.W.OpenLaw} {n k : Nat} {q : Program} {loose : List Str} {XP : (Str → Option Value) → Heap → Prop} {YP : World → Heap → Prop} {d : DefRec} {K : Params → Frag} {CX : World → CXT} {sp : World → Sp} {x : Str} {ts : List Addr}
    (hn : l.most = some n) (hn2 : n ≤ sizeLine) (hdf : d.params.defaults = []) (hr : Room k callerA)
    (hY : ∀ (w : World) (h : Heap), YP w h → (K w.params).In h) (hYT : ∀ (w : World) (h : Heap), YP w h → ∀ P ∈ ts, h.get? P = some (tabObj #[])) (hnT : ∀ w : World, noTabs (K w.params) = true)
    (F : ∀ (w : World) (mg : Str → Option Value) (fa : Addr) (h : Heap), (K w.params).In h → h.Ns mainGlobals mg → mg d.name = some (.ref fa) →
      ∃ fd : FuncData, (∀ (s : Shared) (u : Value), BindsTo s fd ⟨[u], []⟩ [(x, u)]) ∧ (∀ P ∈ ts, ∃ c, codeHdIn (K w.params) c P = true) ∧
        ∀ base : Heap, (K w.params).In base → base.Ns mainGlobals mg → BmAt mg base → FnOk l.prog w (K w.params) mg base (CX w) k fa fd [x] (sp w))
    (hsp : ∀ (w : World) (H : Hp) (a : Addr) (ns : List Int), ns.length ≤ n → SqL (K w.params) H a (ns.map V.int) → (∀ q ∈ ts, H q = some (.tbl #[])) → sp w [.ref a] H (fun v _ => v = .bl true) fun _ _ _ => False)
    (hCX : ∀ (w : World) (H : Hp) (s : Shared) (e : Value) (s' : Shared), CX w [] H s (fun _ _ _ => False) e s' → False) :
    PySem.W.WalkO q loose XP YP l.row.toRowW d [] (fun f vs => PySem.call f vs) := by
  refine Att.attach_call hn hdf fun w s₀ s₁ mg mb fa o pm cd doc a vs ns G Y ho hd hcd hmg hobj hints hlen hg => ?_
  have KX := hY w _ Y
  obtain ⟨fd, hb, hC, hF⟩ := F w mg fa _ KX G.T.g hmg
  exact law_callT KX G.T.g G.T.b G.T.builtins G.T.nolimit hg hobj hints (Nat.le_trans hlen hn2) hr (hYT w _ Y) hC (hnT w) (let ⟨bm, ob, a1, a2, a3, a4, a5, a6⟩ := G.T.bmain; ⟨bm, ob, a1, a2, a3, a4, a5, a6⟩) hF hb (fun H hS hT => hsp w H a ns hlen hS hT) fun H e s' => hCX w H s₁ e s'
end L2
namespace L2
open PySem PySem.Spec PyProof.Rows PySem.W PySem.Calls
section
variable {prog : Program} {w : World} {A : Around} {E : Value → Shared → Prop} {s : Shared} {a : Addr}
end
end L2
namespace L2
open PySem PySem.Spec PyProof.Rows PySem.W PySem.Calls
structure Lam (K : Frag) (f c P : Addr) : Prop where
  ex : ∃ (oc : Value) (od : Option Addr) (fd : FuncData) (sl : Array (Option Value)), K.lookup f = some ⟨oc, od, .func fd, sl⟩ ∧ fd.code = .ref c
  hd : codeHdIn K c P = true
theorem lam_mk {K : Frag} {f c P : Addr} {oc oc2 : Value} {od od2 : Option Addr} {fd : FuncData} {vs : Array Value} {sl sl2 : Array (Option Value)} (l : K.lookup f = some ⟨oc, od, .func fd, sl⟩) (e : fd.code = .ref c) (l2 : K.lookup c = some ⟨oc2, od2, .fields vs, sl2⟩) (v : vs[11]? = some (.ref P)) (h : codeHdIn K c P = true) : Lam K f c P :=
  ⟨⟨oc, od, fd, sl, l, e⟩, h⟩
theorem Fun.okL {P : Program} {w : World} {K : Frag} {mg : Str → Option Value} {base : Heap} {x qual : Str} {st : Stmt} {f c T : Addr} {fd : FuncData} {N ps : List Str} {k : Nat} {sp : Sp} (F : Fun K x qual st f fd) (L : Lam K f c T) (S : FnScope N ps (defScope st)) (len : ∀ vs H Q E, sp vs H Q E → vs.length = ps.length)
    (hbody : ∀ (A : Around) (outer : List Env) (s : Shared) (H : Hp) (vs : List V) (Q : VK) (E : XK), Room k (A.deeper (envOfC qual (defScope st) s.heap.objs.size f (.ref c))) → sp vs H Q E →
      ∃ t, PSs (cxOf CX0 P w K mg base N qual (defScope st) f (.ref c) A outer s H E).nox (defBody st) t ∧ t { nx := fun _ H' => Q .non H', rt := Q } (start N vs) H) : FnOk P w K mg base CX0 (k + 1) f fd ps sp := by
  obtain ⟨oc, od, kV, doc, pm, an, cdv, ct, osl, rfl, lk, hcd⟩ := F.ex
  obtain ⟨oc', od', fd', sl', lk', e⟩ := L.ex
  rw [lk] at lk'
  cases lk'
  have e' : cdv = .ref c := e
  subst e'
  refine fn_of lk hcd S len fun A outer s H vs Q E hr hsp => ?_
  obtain ⟨t, h, q⟩ := hbody A outer s H vs Q E hr hsp
  exact ⟨t, h.nox, q⟩
section
variable {X : Cx} {pins : List (Addr × Obj)} {σ : St} {H : Hp} {s : Shared}
end
section
variable {X : Cx} {o : Expr} {td : TE} {p1 apos cpos pos1 lpos kp : Pos} {params : Arguments} {body : Expr} {scope : Scope} {c P : Addr}
end
end L2
namespace L2
open PySem PySem.Spec PyProof.Rows PySem.W
def kok {α : Type} (lt : Nat → Nat → Bool) (D : Nat → Nat → Prop) : KasT α → (α → Prop) → Prop
  | .ret a, Q => Q a
  | .ask i j k, Q => D i j ∧ kok lt D (k (lt i j)) Q
section
variable {α β : Type} {lt : Nat → Nat → Bool} {D : Nat → Nat → Prop}
theorem kok_bind {f : α → KasT β} {Q : β → Prop} : ∀ {t : KasT α}, kok lt D t (fun a => kok lt D (f a) Q) → kok lt D (t.bind f) Q
  | .ret _, h => h
  | .ask _ _ _, h => ⟨h.1, kok_bind h.2⟩
theorem kok_mono {Q Q' : α → Prop} (hq : ∀ a, Q a → Q' a) : ∀ {t : KasT α}, kok lt D t Q → kok lt D t Q'
  | .ret _, h => hq _ h
  | .ask _ _ _, h => ⟨h.1, kok_mono hq h.2⟩
theorem kok_wp {cmp : Nat → Nat → (Bool → Shared → Prop) → Shared → Prop} (I : Shared → Prop) (hc : ∀ i j C s, D i j → I s → (∀ s', I s' → C (lt i j) s') → cmp i j C s) {Q : α → Prop} {G : α → Shared → Prop} (hG : ∀ a s, Q a → I s → G a s) :
    ∀ (t : KasT α) (s : Shared), I s → kok lt D t Q → t.kasWp cmp G s
  | .ret a, s, hI, h => hG a s h hI
  | .ask i j k, s, hI, h => hc i j _ s h.1 hI fun s' hI' => kok_wp I hc hG (k (lt i j)) s' hI' h.2
end
section
variable {r : Nat → Int} {N : Nat} {p : Array Nat}
abbrev kkey (r : Nat → Int) (p : Array Nat) (i : Nat) : Int := r (p.getD i 0)
abbrev klt (r : Nat → Int) (i j : Nat) : Bool := decide (r i < r j)
def KD (N : Nat) (i j : Nat) : Prop := i < N ∧ j < N ∧ i ≠ j
structure KPm (N : Nat) (p : Array Nat) : Prop where
  pm : p.toList.Perm (List.range N)
theorem KPm.size (h : KPm N p) : p.size = N := by have := h.pm.length_eq; rwa [Array.length_toList, List.length_range] at this
theorem KPm.get (h : KPm N p) {i : Nat} (hi : i < N) : p.toList[i]? = some (p.getD i 0) := by
  have hs : i < p.size := by rw [h.size]; exact hi
  rw [Array.getElem?_toList]; simp [Array.getD, hs]
theorem KPm.lt (h : KPm N p) {i : Nat} (hi : i < N) : p.getD i 0 < N := List.mem_range.mp (h.pm.mem_iff.mp (List.mem_of_getElem? (h.get hi)))
theorem KPm.inj (h : KPm N p) {i j : Nat} (hi : i < N) (hj : j < N) (e : p.getD i 0 = p.getD j 0) : i = j := by
  have nd : p.toList.Nodup := h.pm.nodup_iff.mpr List.nodup_range
  have e1 := h.get hi
  have e2 := h.get hj
  rw [e] at e1
  have l1 : i < p.toList.length := by rw [Array.length_toList, h.size]; exact hi
  have l2 : j < p.toList.length := by rw [Array.length_toList, h.size]; exact hj
  rw [List.getElem?_eq_getElem l1] at e1
  rw [List.getElem?_eq_getElem l2] at e2
  exact (List.getElem_inj nd).mp ((Option.some.inj e1).trans (Option.some.inj e2).symm)
theorem KPm.of {q : Array Nat} (h : KPm N p) (hq : q.Perm p) : KPm N q := ⟨(Array.perm_iff_toList_perm.mp hq).trans h.pm⟩
theorem KPm.kd (h : KPm N p) {i j : Nat} (hi : i < N) (hj : j < N) (n : i ≠ j) : KD N (p.getD i 0) (p.getD j 0) := ⟨h.lt hi, h.lt hj, fun e => n (h.inj hi hj e)⟩
def KInj (r : Nat → Int) (N : Nat) : Prop := ∀ i j, i < N → j < N → r i = r j → i = j
theorem kne (hr : KInj r N) (h : KPm N p) {i j : Nat} (hi : i < N) (hj : j < N) (n : i ≠ j) : kkey r p i ≠ kkey r p j := fun e => n (h.inj hi hj (hr _ _ (h.lt hi) (h.lt hj) e))
def KInc (r : Nat → Int) (p : Array Nat) (k : Nat) : Prop := ∀ i j, i < j → j < k → kkey r p i < kkey r p j
def KDec (r : Nat → Int) (p : Array Nat) (k : Nat) : Prop := ∀ i j, i < j → j < k → kkey r p j < kkey r p i
theorem KInc.succ {n : Nat} (h : KInc r p n) (h1 : 1 ≤ n) (hl : kkey r p (n - 1) < kkey r p n) : KInc r p (n + 1) := fun i j hij hj => by
  by_cases e : j = n
  · subst e
    by_cases e2 : i = j - 1
    · rw [e2]; exact hl
    · exact Int.lt_trans (h i (j - 1) (by omega) (by omega)) hl
  · exact h i j hij (by omega)
theorem KDec.succ {n : Nat} (h : KDec r p n) (h1 : 1 ≤ n) (hl : kkey r p n < kkey r p (n - 1)) : KDec r p (n + 1) := fun i j hij hj => by
  by_cases e : j = n
  · subst e
    by_cases e2 : i = j - 1
    · rw [e2]; exact hl
    · exact Int.lt_trans hl (h i (j - 1) (by omega) (by omega))
  · exact h i j hij (by omega)
theorem kas_asc_ok (hr : KInj r N) (h : KPm N p) : ∀ (f n : Nat), 1 ≤ n → n + f ≤ N → KInc r p n → kok (klt r) (KD N) (kas_asc p f n) (fun m => n ≤ m ∧ m ≤ n + f ∧ KInc r p m ∧ (m < n + f → kkey r p m < kkey r p (m - 1)))
  | 0, n, h1, hN, hI => ⟨Nat.le_refl _, Nat.le_refl _, hI, fun z => absurd z (by omega)⟩
  | f + 1, n, h1, hN, hI => by
    refine ⟨h.kd (by omega) (by omega) (by omega), ?_⟩
    by_cases c : kkey r p n < kkey r p (n - 1)
    · rw [show klt r (p.getD n 0) (p.getD (n - 1) 0) = true from decide_eq_true c]
      dsimp only
      rw [if_pos rfl]
      exact ⟨Nat.le_refl _, by omega, hI, fun _ => c⟩
    · rw [show klt r (p.getD n 0) (p.getD (n - 1) 0) = false from decide_eq_false c]
      dsimp only
      rw [if_neg (by decide)]
      have hn := kne hr h (i := n) (j := n - 1) (by omega) (by omega) (by omega)
      refine kok_mono (fun m hm => ?_) (kas_asc_ok hr h f (n + 1) (by omega) (by omega) (hI.succ h1 (by omega)))
      exact ⟨by omega, by omega, hm.2.2.1, fun z => hm.2.2.2 (by omega)⟩
theorem kas_desc_ok (hr : KInj r N) (h : KPm N p) : ∀ (f n : Nat), 1 ≤ n → n + f ≤ N → KDec r p n → kok (klt r) (KD N) (kas_desc f p n 0) (fun x => x.1 = p ∧ x.2.2 = 0 ∧ n ≤ x.2.1 ∧ x.2.1 ≤ n + f ∧ KDec r p x.2.1)
  | 0, n, h1, hN, hI => ⟨rfl, rfl, Nat.le_refl _, Nat.le_refl _, hI⟩
  | f + 1, n, h1, hN, hI => by
    refine ⟨h.kd (by omega) (by omega) (by omega), ?_⟩
    by_cases c : kkey r p n < kkey r p (n - 1)
    · rw [show klt r (p.getD n 0) (p.getD (n - 1) 0) = true from decide_eq_true c]
      dsimp only
      rw [if_pos rfl, if_neg (by decide)]
      refine kok_mono (fun m hm => ?_) (kas_desc_ok hr h f (n + 1) (by omega) (by omega) (hI.succ h1 c))
      exact ⟨hm.1, hm.2.1, by omega, by omega, hm.2.2.2.2⟩
    · rw [show klt r (p.getD n 0) (p.getD (n - 1) 0) = false from decide_eq_false c]
      dsimp only
      rw [if_neg (by decide)]
      have hn := kne hr h (i := n) (j := n - 1) (by omega) (by omega) (by omega)
      refine ⟨h.kd (by omega) (by omega) (by omega), ?_⟩
      rw [show klt r (p.getD (n - 1) 0) (p.getD n 0) = true from decide_eq_true (show kkey r p (n - 1) < kkey r p n by omega)]
      dsimp only
      rw [if_pos rfl]
      exact ⟨rfl, rfl, Nat.le_refl _, by show n ≤ n + (f + 1); omega, hI⟩
theorem getD_of? {q : Array Nat} {i j : Nat} (e : q[i]? = p[j]?) : q.getD i 0 = p.getD j 0 := by rw [Array.getD_eq_getD_getElem?, Array.getD_eq_getD_getElem?, e]
theorem rev_inc (h : KPm N p) {n : Nat} (hn : n ≤ N) (hd : KDec r p n) : KInc r (kas_rev p 0 n) n := fun i j hij hj => by
  have e : ∀ k, k < n → (kas_rev p 0 n).getD k 0 = p.getD (n - 1 - k) 0 := fun k hk => getD_of? (by
    unfold kas_rev
    rw [getElem?_mirror_all (by rw [h.size]; exact hn), if_pos ⟨Nat.zero_le _, hk⟩]
    congr 1; omega)
  show r _ < r _
  rw [e i (by omega), e j hj]
  exact hd (n - 1 - j) (n - 1 - i) (by omega) (by omega)
theorem rev_pm (h : KPm N p) {i j : Nat} : KPm N (kas_rev p i j) := h.of (mirror_perm _ _ _ _)
theorem kas_tail3_ok (hr : KInj r N) (h : KPm N p) {n nrem : Nat} (h1 : 1 ≤ n) (hn : n ≤ nrem) (hN : nrem ≤ N) (hd : KDec r p n) :
    kok (klt r) (KD N) (kas_tail3 n nrem p) (fun x => KPm N x.2 ∧ 1 ≤ x.1 ∧ x.1 ≤ nrem ∧ KInc r x.2 x.1) := by
  unfold kas_tail3
  refine kok_bind (kok_mono (fun m hm => ?_) (kas_asc_ok hr (rev_pm h) (nrem - n) n h1 (by omega) (rev_inc h (by omega) hd)))
  exact ⟨rev_pm h, by omega, by omega, hm.2.2.1⟩
theorem kas_count_ok (hr : KInj r N) (h : KPm N p) {nrem : Nat} (h1 : 1 ≤ nrem) (hN : nrem ≤ N) :
    kok (klt r) (KD N) (kas_count nrem p) (fun x => KPm N x.2 ∧ 1 ≤ x.1 ∧ x.1 ≤ nrem ∧ KInc r x.2 x.1) := by
  unfold kas_count
  refine kok_bind (kok_mono (fun n hn => ?_) (kas_asc_ok hr h (nrem - 1) 1 (Nat.le_refl _) (by omega) (fun i j hij hj => by omega)))
  obtain ⟨a1, a2, a3, a4⟩ := hn
  by_cases e : (n == nrem) = true
  · rw [if_pos e]; exact ⟨h, a1, by omega, a3⟩
  · rw [if_neg e]
    have ne : n ≠ nrem := fun z => e (by rw [z]; exact beq_self_eq_true _)
    by_cases e1 : n > 1
    · rw [if_pos e1]
      refine ⟨h.kd (by omega) (by omega) (by omega), ?_⟩
      have c := a3 0 (n - 1) (by omega) (by omega)
      rw [show klt r (p.getD 0 0) (p.getD (n - 1) 0) = true from decide_eq_true c]
      dsimp only
      rw [if_pos rfl]
      exact ⟨h, a1, by omega, a3⟩
    · rw [if_neg e1]
      have n1 : n = 1 := by omega
      subst n1
      unfold kas_descPart
      have c := a4 (by omega)
      refine kok_bind (kok_mono (fun x hx => ?_) (kas_desc_ok hr h (nrem - (1 + 1)) (1 + 1) (by omega) (by omega) (fun i j hij hj => by
        have hi : i = 0 := by omega
        have hj : j = 1 := by omega
        subst hi; subst hj; exact c)))
      obtain ⟨b1, b2, b3, b4, b5⟩ := hx
      rw [b2, if_neg (by decide), b1]
      exact kas_tail3_ok hr h (by omega) (by omega) hN b5
theorem kas_place_ok (hr : KInj r N) (h : KPm N p) {k : Nat} (hk : k < N) (hI : KInc r p k) : ∀ (f l u : Nat), l ≤ u → u ≤ k → u - l ≤ f → (∀ i, i < l → kkey r p i < kkey r p k) → (∀ i, u ≤ i → i < k → kkey r p k < kkey r p i) →
    kok (klt r) (KD N) (kas_place p k f l u) (fun m => m ≤ k ∧ (∀ i, i < m → kkey r p i < kkey r p k) ∧ ∀ i, m ≤ i → i < k → kkey r p k < kkey r p i)
  | 0, l, u, h1, h2, h3, hlo, hhi => ⟨by omega, hlo, fun i hi => hhi i (by omega)⟩
  | f + 1, l, u, h1, h2, h3, hlo, hhi => by
    unfold kas_place
    by_cases e : l ≥ u
    · rw [if_pos e]; exact ⟨by omega, hlo, fun i hi => hhi i (by omega)⟩
    · rw [if_neg e]
      refine ⟨h.kd hk (by omega) (by omega), ?_⟩
      by_cases c : kkey r p k < kkey r p ((l + u) / 2)
      · rw [show klt r (p.getD k 0) (p.getD ((l + u) / 2) 0) = true from decide_eq_true c]
        dsimp only
        rw [if_pos rfl]
        refine kas_place_ok hr h hk hI f l ((l + u) / 2) (by omega) (by omega) (by omega) hlo fun i hi hik => ?_
        by_cases e2 : i = (l + u) / 2
        · rw [e2]; exact c
        · exact Int.lt_trans c (hI _ i (by omega) hik)
      · rw [show klt r (p.getD k 0) (p.getD ((l + u) / 2) 0) = false from decide_eq_false c]
        dsimp only
        rw [if_neg (by decide)]
        have hn := kne hr h (i := k) (j := (l + u) / 2) hk (by omega) (by omega)
        refine kas_place_ok hr h hk hI f ((l + u) / 2 + 1) u (by omega) (by omega) (by omega) (fun i hi => ?_) hhi
        by_cases e2 : i = (l + u) / 2
        · rw [e2]; omega
        · exact Int.lt_trans (hI i ((l + u) / 2) (by omega) (by omega)) (by omega)
theorem bub_inc (h : KPm N p) {k m : Nat} (hk : k < N) (hm : m ≤ k) (hI : KInc r p k) (hlo : ∀ i, i < m → kkey r p i < kkey r p k) (hhi : ∀ i, m ≤ i → i < k → kkey r p k < kkey r p i) : KInc r (bubble p k (k - m)) (k + 1) := fun i j hij hj => by
  have e : ∀ c, (bubble p k (k - m)).getD c 0 = if c = m then p.getD k 0 else if m < c ∧ c ≤ k then p.getD (c - 1) 0 else p.getD c 0 := fun c => by
    have g := getElem?_bubble (xs := p) (src := k) (by rw [h.size]; exact hk) (k - m) (by omega) c
    rw [show k - (k - m) = m by omega] at g
    by_cases c1 : c = m
    · rw [if_pos c1] at g ⊢; exact getD_of? g
    · rw [if_neg c1] at g ⊢
      by_cases c2 : m < c ∧ c ≤ k
      · rw [if_pos c2] at g ⊢; exact getD_of? g
      · rw [if_neg c2] at g ⊢; exact getD_of? g
  show r _ < r _
  rw [e i, e j]
  by_cases i1 : i = m
  · rw [if_pos i1, if_neg (by omega), if_pos (by omega)]
    exact hhi (j - 1) (by omega) (by omega)
  · rw [if_neg i1]
    by_cases i2 : m < i ∧ i ≤ k
    · rw [if_pos i2, if_neg (by omega), if_pos (by omega)]
      exact hI (i - 1) (j - 1) (by omega) (by omega)
    · rw [if_neg i2]
      by_cases j1 : j = m
      · rw [if_pos j1]; exact hlo i (by omega)
      · rw [if_neg j1]
        by_cases j2 : m < j ∧ j ≤ k
        · rw [if_pos j2]
          by_cases j3 : i = j - 1
          · omega
          · exact hI i (j - 1) (by omega) (by omega)
        · rw [if_neg j2]; exact hI i j hij (by omega)
theorem kas_bin_ok (hr : KInj r N) : ∀ (f : Nat) {p : Array Nat} (k : Nat), KPm N p → k + f = N → KInc r p k → kok (klt r) (KD N) (kas_bin f p k) (fun q => KPm N q ∧ KInc r q N)
  | 0, p, k, h, e, hI => ⟨h, by rw [← e]; exact hI⟩
  | f + 1, p, k, h, e, hI => by
    unfold kas_bin
    refine kok_bind (kok_mono (fun m hm => ?_) (kas_place_ok hr h (by omega) hI k 0 k (Nat.zero_le _) (Nat.le_refl _) (by omega) (fun i hi => absurd hi (Nat.not_lt_zero _)) (fun i h1 h2 => absurd h2 (by omega))))
    exact kas_bin_ok hr f (k + 1) (h.of (bubble_perm _ _ _)) (by omega) (bub_inc h (by omega) hm.1 hI hm.2.1 hm.2.2)
theorem kas_sort_ok (hr : KInj r N) (h1 : 1 ≤ N) : kok (klt r) (KD N) (kas_sort N) (fun q => KPm N q ∧ KInc r q N) := by
  unfold kas_sort
  refine kok_bind (kok_mono (fun x hx => ?_) (kas_count_ok hr (p := List.toArray (List.range N)) ⟨by simp⟩ h1 (Nat.le_refl _)))
  obtain ⟨a1, a2, a3, a4⟩ := hx
  by_cases e : x.1 < N
  · rw [if_pos e]
    have em : max x.1 1 = x.1 := by omega
    rw [em]
    exact kas_bin_ok hr _ x.1 a1 (by omega) a4
  · rw [if_neg e]
    have ex : x.1 = N := by omega
    exact ⟨a1, by rw [← ex]; exact a4⟩
end
end L2
namespace L2
open PySem PySem.Spec PyProof.Rows PySem.W
section
variable {prog : Program} {w : World} {A : Around} {E : Value → Shared → Prop} {s : Shared} {a : Addr} {vs : List Value}
theorem sort_raw {n : Nat} {P : PySem.Fin → Shared → Prop} {κ : SortKind} {r : Nat → Int} (ho : s.heap.get? a = some (seqObj "list" vs.toArray n)) (h2 : 2 ≤ vs.length) (h64 : vs.length < 64) (hr : KInj r vs.length)
    (hk : ∀ s' : Shared, (∀ b o, b ≠ a → s.heap.get? b = some o → s'.heap.get? b = some o) → ∀ Q : SortKind → Shared → Prop, Q κ s' → wpAny (model prog w) A (keyKind' vs.toArray) Q (fun _ _ => False) s')
    (hc : ∀ s' : Shared, (∀ b o, b ≠ a → s.heap.get? b = some o → s'.heap.get? b = some o) → ∀ i j C, KD vs.length i j → C (klt r i j) s' → kas_ask prog w A κ vs i j C s')
    (h : ∀ h' c (p : Array Nat), KPm vs.length p → KInc r p vs.length → (∀ b o, b ≠ a → s.heap.get? b = some o → h'.get? b = some o) → h'.get? a = some (seqObj "list" (List.toArray (p.toList.map fun i => vs.getD i Value.none)) c) → P (.done (.ret .none)) { s with heap := h' }) :
    wpAny (model prog w) A (Builtin.«list.sort» ⟨[.ref a], []⟩) P E s := by
  have ha : a < s.heap.objs.size := Heap.lt_size ho
  have s1 := Heap.SameBut.update s.heap a (Obj.mapSeq fun _ => (#[] : Array Value))
  obtain ⟨e1, ho1⟩ : ∃ e1, (s.heap.update a (Obj.mapSeq fun _ => (#[] : Array Value))).get? a = some (seqObj "list" #[] e1) := ⟨_, get?_update_seq ho fun _ => #[]⟩
  have up : ∀ b o, b ≠ a → s.heap.get? b = some o → (((s.heap.update a (Obj.mapSeq fun _ => (#[] : Array Value))).push (seqObj "tuple" vs.toArray 0)).push (seqObj "list" #[] 0)).get? b = some o := fun b o n e => Heap.get?_push_of_some _ (Heap.get?_push_of_some _ ((s1.2 b n).trans e))
  have ha2 : (((s.heap.update a (Obj.mapSeq fun _ => (#[] : Array Value))).push (seqObj "tuple" vs.toArray 0)).push (seqObj "list" #[] 0)).get? a = some (seqObj "list" #[] e1) := Heap.get?_push_of_some _ (Heap.get?_push_of_some _ ho1)
  rw [list_sort_plain]
  refine wpAny_bind (listItems_at ho rfl ?_)
  refine wpAny_bind (listUpdate_at ho rfl ?_ (by rw [List.size_toArray, sizeLine_eq]; omega) (Nat.zero_le _))
  refine wpAny_bind (seqEpoch_at ho1 rfl ?_)
  refine wpAny_bind (wpAny_newTuple ?_ (by show vs.length ≤ _; rw [sizeLine_eq]; omega))
  refine wpAny_bind (wpAny_newList ?_ (Nat.zero_le _))
  refine wpAny_holding ?_
  show wpAny (model prog w) A _ P E { s with heap := ((s.heap.update a (Obj.mapSeq fun _ => (#[] : Array Value))).push (seqObj "tuple" vs.toArray 0)).push (seqObj "list" #[] 0) }
  dsimp only
  generalize ((s.heap.update a (Obj.mapSeq fun _ => (#[] : Array Value))).push (seqObj "tuple" vs.toArray 0)).push (seqObj "list" #[] 0) = h1 at *
  have hn2 : ¬ vs.toArray.size < 2 := by rw [List.size_toArray]; omega
  rw [if_neg hn2, if_neg hn2]
  refine wpAny_bind (wpAny_mono (hk { s with heap := h1 } up (fun κ' s' => κ' = κ ∧ s' = { s with heap := h1 }) ⟨rfl, rfl⟩) (fun κ' s0 hk' => ?_) fun _ _ x => x.elim)
  obtain ⟨rfl, rfl⟩ := hk'
  have run := kat_run (prog := prog) (w := w) (A := A) (E := E) (κ := κ') (ks := vs) (vs := vs) (s := { s with heap := h1 })
    (Q := fun st' s' => s' = { s with heap := h1 } ∧ ∃ p : Array Nat, KPm vs.length p ∧ KInc r p vs.length ∧ arrOf st' = p.map (kas_item (vs.toArray.zip vs.toArray)) ∧ failedOf st' = none)
    (G := fun p s' => s' = { s with heap := h1 } ∧ KPm vs.length p ∧ KInc r p vs.length) rfl h2 h64 (fun p' st' s' a1 a2 a3 a4 => ⟨a4.1, p', a4.2.1, a4.2.2, a2, a3⟩)
    (kok_wp (lt := klt r) (D := KD vs.length) (Q := fun q => KPm vs.length q ∧ KInc r q vs.length) (fun s' => s' = { s with heap := h1 }) (fun i j C s' hD hI hC => by
      subst hI; exact hc _ up i j C hD (hC _ rfl)) (fun q s' hq hI => ⟨hI, hq.1, hq.2⟩) _ _ rfl (kas_sort_ok hr (by omega)))
  refine wpAny_bind (wpAny_mono run ?_ fun _ _ e => e)
  rintro ⟨⟨⟩, st'⟩ s' ⟨rfl, p, hp, hinc, har, hf⟩
  dsimp only
  have hout := kat_snds rfl har
  have hsz : (List.toArray (p.toList.map fun i => vs.getD i Value.none)).size = vs.length := by rw [List.size_toArray, List.length_map, Array.length_toList, hp.size]
  rw [hout]
  have s2 := Heap.SameBut.update h1 a (Obj.mapSeq fun _ => List.toArray (p.toList.map fun i => vs.getD i Value.none))
  refine wpAny_bind (seqEpoch_at ha2 rfl ?_)
  refine wpAny_bind (listUpdate_at ha2 rfl ?_ (Nat.zero_le _) (Nat.le_trans (Nat.le_of_eq hsz) (by rw [sizeLine_eq]; omega)))
  rw [hf]
  simp only [bne_self_eq_false, Bool.false_eq_true, if_false]
  exact wpAny_pure (h _ _ p hp hinc (fun b o n e => (s2.2 b n).trans (up b o n e)) (get?_update_seq ha2 fun _ => _))
end
end L2
namespace L2
open PySem PySem.Spec PyProof.Rows PySem.W PySem.Calls
section
variable {prog : Program} {w : World} {A : Around} {E : Value → Shared → Prop} {s : Shared} {a : Addr} {vs : List Value}
theorem sort_small {n : Nat} {P : PySem.Fin → Shared → Prop} (ho : s.heap.get? a = some (seqObj "list" vs.toArray n)) (h2 : vs.length < 2)
    (h : ∀ h' c, (∀ b o, b ≠ a → s.heap.get? b = some o → h'.get? b = some o) → h'.get? a = some (seqObj "list" vs.toArray c) → P (.done (.ret .none)) { s with heap := h' }) :
    wpAny (model prog w) A (Builtin.«list.sort» ⟨[.ref a], []⟩) P E s := by
  have ha : a < s.heap.objs.size := Heap.lt_size ho
  have s1 := Heap.SameBut.update s.heap a (Obj.mapSeq fun _ => (#[] : Array Value))
  obtain ⟨e1, ho1⟩ : ∃ e1, (s.heap.update a (Obj.mapSeq fun _ => (#[] : Array Value))).get? a = some (seqObj "list" #[] e1) := ⟨_, get?_update_seq ho fun _ => #[]⟩
  have up : ∀ b o, b ≠ a → s.heap.get? b = some o → (((s.heap.update a (Obj.mapSeq fun _ => (#[] : Array Value))).push (seqObj "tuple" vs.toArray 0)).push (seqObj "list" #[] 0)).get? b = some o := fun b o n e => Heap.get?_push_of_some _ (Heap.get?_push_of_some _ ((s1.2 b n).trans e))
  have ha2 : (((s.heap.update a (Obj.mapSeq fun _ => (#[] : Array Value))).push (seqObj "tuple" vs.toArray 0)).push (seqObj "list" #[] 0)).get? a = some (seqObj "list" #[] e1) := Heap.get?_push_of_some _ (Heap.get?_push_of_some _ ho1)
  rw [list_sort_plain]
  refine wpAny_bind (listItems_at ho rfl ?_)
  refine wpAny_bind (listUpdate_at ho rfl ?_ (by rw [List.size_toArray, sizeLine_eq]; omega) (Nat.zero_le _))
  refine wpAny_bind (seqEpoch_at ho1 rfl ?_)
  refine wpAny_bind (wpAny_newTuple ?_ (by show vs.length ≤ _; rw [sizeLine_eq]; omega))
  refine wpAny_bind (wpAny_newList ?_ (Nat.zero_le _))
  refine wpAny_holding ?_
  show wpAny (model prog w) A _ P E { s with heap := ((s.heap.update a (Obj.mapSeq fun _ => (#[] : Array Value))).push (seqObj "tuple" vs.toArray 0)).push (seqObj "list" #[] 0) }
  dsimp only
  generalize ((s.heap.update a (Obj.mapSeq fun _ => (#[] : Array Value))).push (seqObj "tuple" vs.toArray 0)).push (seqObj "list" #[] 0) = h1 at *
  have hn2 : vs.toArray.size < 2 := by rw [List.size_toArray]; omega
  rw [if_pos hn2, if_pos hn2]
  refine wpAny_bind (wpAny_pure ?_)
  rw [StateT.run_pure]
  refine wpAny_bind (wpAny_pure ?_)
  dsimp only
  have eo : Array.map (fun x => x.2) (arrOf (SortSt.mk' general' (vs.toArray.zip vs.toArray) #[] 7 none)) = vs.toArray := by
    show Array.map (fun x => x.2) (vs.toArray.zip vs.toArray) = vs.toArray
    match vs, h2 with
    | [], _ => simp
    | [_], _ => simp
  rw [eo]
  have s2 := Heap.SameBut.update h1 a (Obj.mapSeq fun _ => vs.toArray)
  refine wpAny_bind (seqEpoch_at ha2 rfl ?_)
  refine wpAny_bind (listUpdate_at ha2 rfl ?_ (Nat.zero_le _) (Nat.le_trans (Nat.le_of_lt hn2) (by rw [sizeLine_eq]; omega)))
  show wpAny _ _ (if ((e1 != e1) : Bool) = true then _ else _) _ _ _
  rw [if_neg (by simp)]
  exact wpAny_pure (h _ _ (fun b o n e => (s2.2 b n).trans (up b o n e)) (get?_update_seq ha2 fun _ => _))
end
theorem kat_of {h : Heap} : ∀ {as : List Addr}, (∀ a ∈ as, ∃ z t x, h.get? a = some { cls := .type "tuple", data := .seq #[.int z t, x] }) → ∃ fs, KatTups h (as.map Value.ref) fs ∧ fs.length = as.length ∧ ∀ v ∈ fs, ∃ z t, v = Value.int z t
  | [], _ => ⟨[], .nil, rfl, fun v hv => by simp at hv⟩
  | a :: as, k => by
    obtain ⟨z, t, x, e⟩ := k a List.mem_cons_self
    obtain ⟨fs, h1, h2, h3⟩ := kat_of (as := as) fun b hb => k b (List.mem_cons_of_mem _ hb)
    refine ⟨.int z t :: fs, .cons e rfl rfl rfl h1, by rw [List.length_cons, h2]; rfl, fun v hv => ?_⟩
    rcases List.mem_cons.mp hv with rfl | hv
    · exact ⟨z, t, rfl⟩
    · exact h3 v hv
section
variable {prog : Program} {w : World} {A : Around} {E : Value → Shared → Prop} {s : Shared} {a : Addr}
theorem sort_pairs {as : List Addr} {n : Nat} {P : PySem.Fin → Shared → Prop} {r : Nat → Int} (ho : s.heap.get? a = some (seqObj "list" (as.map Value.ref).toArray n)) (na : a ∉ as) (h64 : as.length < 64) (hr : KInj r as.length)
    (hp : ∀ j b, as[j]? = some b → ∃ t x, s.heap.get? b = some { cls := .type "tuple", data := .seq #[.int (r j) t, x] })
    (h : ∀ h' c (p : List Nat), p.Perm (List.range as.length) → p.Pairwise (fun i j => r i < r j) → (∀ b o, b ≠ a → s.heap.get? b = some o → h'.get? b = some o) → h'.get? a = some (seqObj "list" (List.toArray (p.map fun i => (as.map Value.ref).getD i Value.none)) c) → P (.done (.ret .none)) { s with heap := h' }) :
    wpAny (model prog w) A (Builtin.«list.sort» ⟨[.ref a], []⟩) P E s := by
  by_cases h2 : as.length < 2
  · refine sort_small ho (by rw [List.length_map]; exact h2) fun h' c hk hc => h h' c (List.range as.length) (.refl _) ?_ hk ?_
    · match as, h2 with
      | [], _ => exact .nil
      | [_], _ => exact List.pairwise_singleton _ _
    · have e : (List.range as.length).map (fun i => (as.map Value.ref).getD i Value.none) = as.map Value.ref := by
        match as, h2 with
        | [], _ => rfl
        | [_], _ => rfl
      rw [e]; exact hc
  · have hl : (as.map Value.ref).length = as.length := List.length_map _
    have tup : ∀ s' : Shared, (∀ b o, b ≠ a → s.heap.get? b = some o → s'.heap.get? b = some o) → ∀ j b, as[j]? = some b → ∃ t x, s'.heap.get? b = some { cls := .type "tuple", data := .seq #[.int (r j) t, x] } := fun s' k j b e => by
      obtain ⟨t, x, g⟩ := hp j b e
      exact ⟨t, x, k b _ (fun z => na (by rw [← z]; exact List.mem_of_getElem? e)) g⟩
    refine sort_raw (κ := tuples' true) (r := r) ho (by rw [hl]; omega) (by rw [hl]; exact h64) (by rw [hl]; exact hr) (fun s' k Q hQ => ?_) (fun s' k i j C hD hC => ?_) fun h' c p pm inc hk hc => ?_
    · obtain ⟨fs, t1, t2, t3⟩ := kat_of (h := s'.heap) (as := as) fun b hb => by
        obtain ⟨j, hj⟩ := List.mem_iff_getElem?.mp hb
        obtain ⟨t, x, g⟩ := tup s' k j b hj
        exact ⟨_, t, x, g⟩
      refine kat_kind (T := Value.type "int") t1 (by rw [t2]; omega) (fun v hv => ?_) rfl hQ
      obtain ⟨z, t, rfl⟩ := t3 v hv
      exact .of_pure rfl
    · rw [hl] at hD
      obtain ⟨hi, hj, hij⟩ := hD
      have ei : (as.map Value.ref).getD i Value.none = Value.ref (as[i]) := by rw [List.getD_eq_getElem?_getD, List.getElem?_map, List.getElem?_eq_getElem hi]; rfl
      have ej : (as.map Value.ref).getD j Value.none = Value.ref (as[j]) := by rw [List.getD_eq_getElem?_getD, List.getElem?_map, List.getElem?_eq_getElem hj]; rfl
      obtain ⟨t, x, g⟩ := tup s' k i _ (List.getElem?_eq_getElem hi)
      obtain ⟨u, y, g'⟩ := tup s' k j _ (List.getElem?_eq_getElem hj)
      unfold kas_ask
      rw [ei, ej]
      refine kat_lt g rfl g' rfl (kat_cons (wpAny_eqBool_int ?_))
      have ne : (r i == r j) = false := beq_eq_false_iff_ne.mpr fun z => hij (hr i j hi hj z)
      rw [ne]
      exact kat_no (oneLt_int hC)
    · rw [hl] at pm inc
      refine h h' c p.toList pm.pm ?_ hk hc
      rw [List.pairwise_iff_getElem]
      intro i j hi hj hij
      rw [Array.length_toList, pm.size] at hi hj
      have := inc i j hij hj
      unfold kkey at this
      have gi := pm.get hi
      have gj := pm.get hj
      rw [List.getElem?_eq_getElem (by rw [Array.length_toList, pm.size]; exact hi)] at gi
      rw [List.getElem?_eq_getElem (by rw [Array.length_toList, pm.size]; exact hj)] at gj
      rw [Option.some.inj gi, Option.some.inj gj]
      exact this
end
end L2
namespace L2
open PySem PySem.Spec PyProof.Rows PySem.W PySem.Calls
def ItemsAt (H0 H : Hp) (as : List Addr) (kz : List (Int × V)) : Prop := as.length = kz.length ∧ ∀ (j : Nat) (a : Addr) (q : Int × V), as[j]? = some a → kz[j]? = some q → H a = some (.tup [.int q.1, q.2]) ∧ H0 a = none
theorem kv_get {kz : List (Int × V)} {vs : List (Key × Value)} (rel : KV (kz.map fun q => ((Sum.inl q.1 : Key), q.2)) vs) {j : Nat} {k : Key} {x : Value} (h : vs[j]? = some (k, x)) : ∃ q, kz[j]? = some q ∧ k = Sum.inl q.1 ∧ RelV q.2 x := by
  have : ∀ {l : List (Key × V)} {vs : List (Key × Value)}, KV l vs → ∀ {j : Nat} {k : Key} {x : Value}, vs[j]? = some (k, x) → ∃ p, l[j]? = some p ∧ p.1 = k ∧ RelV p.2 x := by
    intro l vs r
    induction r with
    | nil => intro j k x h; simp at h
    | cons hd _ ih =>
      intro j k x h
      cases j with
      | zero => cases h; exact ⟨_, rfl, hd.1, hd.2⟩
      | succ j => exact ih h
  obtain ⟨p, h1, h2, h3⟩ := this rel h
  rw [List.getElem?_map] at h1
  obtain ⟨q, hq, rfl⟩ := Option.map_eq_some_iff.mp h1
  exact ⟨q, hq, h2.symm, h3⟩
theorem kinj_of {kz : List (Int × V)} (nd : (kz.map (·.1)).Nodup) : KInj (fun i => (kz.getD i (0, .non)).1) kz.length := fun i j hi hj e => by
  have gi : kz.getD i (0, .non) = kz[i] := by rw [List.getD_eq_getElem?_getD, List.getElem?_eq_getElem hi]; rfl
  have gj : kz.getD j (0, .non) = kz[j] := by rw [List.getD_eq_getElem?_getD, List.getElem?_eq_getElem hj]; rfl
  have e' : (kz.getD i (0, .non)).1 = (kz.getD j (0, .non)).1 := e
  rw [gi, gj] at e'
  have l1 : i < (kz.map (·.1)).length := by rw [List.length_map]; exact hi
  have l2 : j < (kz.map (·.1)).length := by rw [List.length_map]; exact hj
  have e2 : (kz.map (·.1))[i] = (kz.map (·.1))[j] := by rw [List.getElem_map, List.getElem_map]; exact e'
  exact (List.getElem_inj nd).mp e2
section
variable {X : Cx} {o : Expr} {td : TE} {p1 apos cpos pos1 : Pos}
def tSortD (td : TE) : TE := fun σ H Q => td σ H fun x H1 => ∃ (d : Addr) (kz : List (Int × V)), x = .ref d ∧ H1 d = some (.dK (kz.map fun q => ((Sum.inl q.1 : Key), q.2))) ∧ kz.length < 64 ∧ ∀ (l : Addr) (as : List Addr) (kz' : List (Int × V)) (H2 : Hp), kz'.Perm kz → kz'.Pairwise (fun a b => a.1 < b.1) → H1 l = none → Same H1 H2 → H2 l = some (.lst (as.map V.ref)) → ItemsAt H1 H2 as kz' → Q (.ref l) H2
theorem pe_sortD (hc : X.calm = true) (hg : Gl X "sorted") (hm : X.mg "sorted" = none) (ho : PE X o td)
    (hbase : attributeBase o "items" X.env (eval o X.env) = eval o X.env := by rfl) (hline : (apos.endLine == cpos.line) = true := by rfl)
    (hs : starEach [.Call (.Attribute o "items" apos) [] [] cpos] X.env = [(false, eval (.Call (.Attribute o "items" apos) [] [] cpos) X.env)] := by rfl) :
    PE X (.Call (.Name "sorted" p1) [.Call (.Attribute o "items" apos) [] [] cpos] [] pos1) (tSortD td) := by
  intro pins s σ H Q I h
  refine wpAny_Call_Name_kw (ld_blt I hg hm boot_sorted (PyProof.Rows.callWith_builtin1 ?_ (by rw [hs]; rfl) rfl))
  rw [hs]
  show wpAny _ _ (spliced ((false, _) :: backTo pos1 [])) _ _ s
  refine Calls.spliced_cons (wpAny_Call_method0_late hbase hline (thn (ho pins s σ H _ I h) fun v s1 ⟨x, H1, I1, r1, d, kz, ex, hd, hkl, q⟩ => ?_))
  subst ex
  cases r1
  obtain ⟨z, hsm, vs, rel, oD, es, ep, d1, d2, d3, d4, d5, d6⟩ := dk_of I1.hok hd
  have hvl : kz.length = vs.length := by have := rel.length; rwa [List.length_map] at this
  obtain ⟨t1, t2, _⟩ := isD_at I1 (a := d) (.inl ⟨_, .inl hd⟩)
  refine ⟨"dict", "dict.items", PySem.F.plainAttrs_dict, PySem.F.slot_dict_items, PySem.F.type_dict_items, t1, t2, Calls.callWith_builtin rfl (PySem.evalArgs_none ?_)⟩
  refine call_meetsIn PySem.F.slot_dict_items t1 PySem.F.entry_dict_items (PySem.F.args_dict_items_1 _) (meets_dict_items (mixKind X.prog X.w) d hsm) ⟨⟨vs, _, _, _, d1, d2, d3, d4, d5, d6⟩, ?_⟩
  refine Calls.spliced_nil ?_
  have hvh : (s1.heap.push { cls := .type "dict_items", data := .fields #[.ref d] }).get? s1.heap.objs.size = some { cls := .type "dict_items", data := .fields #[.ref d] } := Heap.get?_push_size _ rfl
  have up1 : ∀ b u, s1.heap.get? b = some u → (s1.heap.push { cls := .type "dict_items", data := .fields #[.ref d] }).get? b = some u := fun b u e => Heap.get?_push_of_some _ e
  generalize s1.heap.push { cls := .type "dict_items", data := .fields #[.ref d] } = hA at *
  refine call_function_entry kind_sorted plain_sorted entry_sorted (args_sorted1 _) ?_
  unfold Builtin.«sorted»
  refine wpAny_bind (m := checkCount "sorted" 1 1 _) (wpAny_pure ?_)
  have dd2 : hA.DictAt (mixKind X.prog X.w) d vs ep := ⟨oD, es, up1 _ _ d1, d2, d3, d4, d5, d6⟩
  have szl : vs.length ≤ sizeLine := by rw [sizeLine_eq]; omega
  refine wpAny_bind (kdx_collect (s := { s1 with heap := hA }) (knd := mixKind X.prog X.w) (kvs := vs) (ep := ep) (I1.ok.hd hc) ⟨_, hvh, rfl, rfl⟩ dd2 szl fun h2 tk2 as hk hl hG => ?_)
  refine wpAny_bind (wpAny_newList ?_ (by rw [List.length_map, hl]; exact szl))
  have hoL : (h2.push (seqObj "list" (as.map Value.ref).toArray 0)).get? h2.objs.size = some (seqObj "list" (as.map Value.ref).toArray 0) := Heap.get?_push_size _ rfl
  have up3 : ∀ b u, h2.get? b = some u → (h2.push (seqObj "list" (as.map Value.ref).toArray 0)).get? b = some u := fun b u e => Heap.get?_push_of_some _ e
  show wpAny _ _ _ _ _ { s1 with heap := h2.push (seqObj "list" (as.map Value.ref).toArray 0), toks := tk2 }
  refine wpAny_bind (wpAny_holding (wpAny_call_entry slot_list_sort ⟨_, hoL, rfl⟩ entry_list_sort ?body (args_list_sort _)))
  case body =>
    have lt2 : ∀ b u, hA.get? b = some u → b < h2.objs.size := fun b u e => Heap.lt_size (hk b u e)
    have hsz : s1.heap.objs.size ≤ h2.objs.size := Nat.le_of_lt (lt2 _ _ hvh)
    have hlo : s1.heap.objs.size < hA.objs.size := Heap.lt_size hvh
    have lta : ∀ b ∈ as, b < h2.objs.size := fun b hb => hG.there hb
    have nda : as.Nodup := List.Pairwise.imp (fun h => Nat.ne_of_lt h) hG.rise
    have nin : h2.objs.size ∉ as := fun z => Nat.lt_irrefl _ (lta _ z)
    have asl : as.length = kz.length := by rw [hl, hvl]
    have ndk : (kz.map (·.1)).Nodup := by
      have e1 : vs.map (·.1) = (kz.map (·.1)).map (Sum.inl : Int → Key) := by
        have := rel.keys
        rw [← this, List.map_map, List.map_map]; rfl
      have n0 : (vs.map (·.1)).Nodup := d6
      rw [e1] at n0
      exact List.Pairwise.of_map _ (fun a b z e => z (by rw [e])) n0
    have pr : ∀ j b, as[j]? = some b → ∃ (q : Int × V) (t : Tok) (x : Value), kz[j]? = some q ∧ RelV q.2 x ∧ h2.get? b = some { cls := .type "tuple", data := .seq #[.int q.1 t, x] } := fun j b e => by
      obtain ⟨key, k, x, e1, e2, e3⟩ := hG.pairs j b e
      obtain ⟨q, hq, rfl, rx⟩ := kv_get rel e1
      obtain ⟨t, rfl⟩ := (show ∃ t, key = Value.int q.1 t from key_rel e2)
      exact ⟨q, t, x, hq, rx, e3⟩
    refine sort_pairs (s := { s1 with heap := h2.push (seqObj "list" (as.map Value.ref).toArray 0), toks := tk2 }) (as := as) (r := fun i => (kz.getD i (0, .non)).1) hoL nin (by omega) (by rw [asl]; exact kinj_of ndk) (fun j b e => ?_) fun h3 cc p pm pw hk3 hD3 => ⟨_, rfl, ?_⟩
    · obtain ⟨q, t, x, hq, _, g⟩ := pr j b e
      refine ⟨t, x, ?_⟩
      rw [show (kz.getD j (0, .non)) = q from by rw [List.getD_eq_getElem?_getD, hq]; rfl]
      exact up3 _ _ g
    obtain ⟨as', eas⟩ : ∃ as', as' = p.map fun i => as.getD i 0 := ⟨_, rfl⟩
    obtain ⟨kz', ekz⟩ : ∃ kz' : List (Int × V), kz' = p.map fun i => kz.getD i (0, .non) := ⟨_, rfl⟩
    have hin : ∀ i ∈ p, i < kz.length := fun i hi => by have := List.mem_range.mp (pm.mem_iff.mp hi); omega
    have pl : p.length = kz.length := by have := pm.length_eq; rw [List.length_range] at this; omega
    have hperm : kz'.Perm kz := by
      have e1 : (List.range as.length).map (fun i => kz.getD i (0, .non)) = kz := by
        rw [asl]
        refine List.ext_getElem (by rw [List.length_map, List.length_range]) fun i h1 h2 => ?_
        rw [List.getElem_map, List.getElem_range, List.getD_eq_getElem?_getD, List.getElem?_eq_getElem h2]; rfl
      have := pm.map (fun i => kz.getD i ((0 : Int), V.non))
      rw [e1, ← ekz] at this; exact this
    have hpw : kz'.Pairwise (fun a b => a.1 < b.1) := by rw [ekz, List.pairwise_map]; exact pw
    have hcont : (p.map fun i => (as.map Value.ref).getD i Value.none) = as'.map Value.ref := by
      rw [eas, List.map_map]
      refine List.map_congr_left fun i hi => ?_
      have hia : i < as.length := by have := hin i hi; omega
      show (as.map Value.ref).getD i Value.none = Value.ref (as.getD i 0)
      rw [List.getD_eq_getElem?_getD, List.getElem?_map, List.getElem?_eq_getElem hia, List.getD_eq_getElem?_getD, List.getElem?_eq_getElem hia]; rfl
    rw [hcont] at hD3
    obtain ⟨xs, exs⟩ : ∃ xs : List V, xs = kz.map fun q => V.int q.1 := ⟨_, rfl⟩
    obtain ⟨ys, eys⟩ : ∃ ys : List V, ys = kz.map fun q => q.2 := ⟨_, rfl⟩
    have above : ∀ b ∈ as, s1.heap.objs.size < b := fun b hb => Nat.lt_trans hlo (hG.above b hb)
    have nda' : ∀ b, b < s1.heap.objs.size → b ≠ h2.objs.size ∧ b ∉ as := fun b hb => ⟨Nat.ne_of_lt (Nat.lt_of_lt_of_le hb hsz), fun z => absurd (Nat.lt_trans hb (above b z)) (Nat.lt_irrefl _)⟩
    have at_ : ∀ (j : Nat) (t : Addr) (q : Int × V), as[j]? = some t → kz[j]? = some q → upd (pairH H1 h2.objs.size as xs ys) h2.objs.size (.lst (as'.map V.ref)) t = some (.tup [.int q.1, q.2]) := fun j t q ht hq => by
      have nt : t ≠ h2.objs.size := fun z => nin (by rw [← z]; exact List.mem_of_getElem? ht)
      rw [upd_ne nt]
      unfold pairH
      rw [if_neg nt, findIdx_of nda ht]
      dsimp only
      rw [exs, eys, List.getElem?_map, List.getElem?_map, hq]; rfl
    have old : ∀ b, b < s1.heap.objs.size → upd (pairH H1 h2.objs.size as xs ys) h2.objs.size (.lst (as'.map V.ref)) b = H1 b := fun b hb => by
      rw [upd_ne (nda' b hb).1]
      unfold pairH
      rw [if_neg (nda' b hb).1, findIdx_no (nda' b hb).2]
    have vr : ∀ l : List Addr, Vals (l.map V.ref) (l.map Value.ref) := fun l => by
      induction l with
      | nil => exact .nil
      | cons a l ih => exact .cons rfl ih
    have as'l : as'.length = kz.length := by rw [eas, List.length_map, pl]
    have I2 : Inv X pins σ (upd (pairH H1 h2.objs.size as xs ys) h2.objs.size (.lst (as'.map V.ref))) { s1 with heap := h3, toks := tk2 } := by
      refine I1.many (fun b u e => ?_) old fun b o hb e => ?_
      · have e2 := hk b u (up1 b u e)
        exact hk3 b u (Nat.ne_of_lt (Heap.lt_size e2)) (up3 b u e2)
      · by_cases hbS : b = h2.objs.size
        · subst hbS
          rw [upd_same] at e
          cases e
          exact ⟨.inr ⟨_, rfl⟩, by rw [List.length_map, as'l, hvl]; exact szl, as'.map Value.ref, cc, vr as', hD3⟩
        · by_cases hba : b ∈ as
          · obtain ⟨j, hj⟩ := List.mem_iff_getElem?.mp hba
            obtain ⟨q', t, x, hq, rx, g⟩ := pr j b hj
            rw [at_ j b q' hj hq] at e
            cases e
            exact ⟨.inl ⟨_, rfl⟩, by show 2 ≤ sizeLine; decide, [.int q'.1 t, x], .cons ⟨t, rfl⟩ (.cons rx .nil), ⟨_, hk3 b _ (fun z => nin (by rw [← z]; exact hba)) (up3 _ _ g), rfl, _, rfl⟩⟩
          · rw [upd_ne hbS] at e
            unfold pairH at e
            rw [if_neg hbS, findIdx_no hba, I1.hok.fresh hb] at e
            cases e
    refine wpAny_pure ⟨_, rfl, .ref h2.objs.size, _, I2, rfl, q _ as' kz' _ hperm hpw (I1.hok.fresh hsz) (fun b o e => by rw [old b (I1.hok.lt e)]; exact e) upd_same ⟨by rw [as'l, ekz, List.length_map, pl], fun j b q' hj hq => ?_⟩⟩
    rw [eas, List.getElem?_map] at hj
    rw [ekz, List.getElem?_map] at hq
    obtain ⟨i, hi, e1⟩ := Option.map_eq_some_iff.mp hj
    rw [hi] at hq
    have e2 : kz.getD i (0, .non) = q' := Option.some.inj hq
    have hil := hin i (List.mem_of_getElem? hi)
    have ha : as[i]? = some b := by rw [← e1, List.getD_eq_getElem?_getD, List.getElem?_eq_getElem (by omega)]; rfl
    have hqq : kz[i]? = some q' := by rw [← e2, List.getD_eq_getElem?_getD, List.getElem?_eq_getElem hil]; rfl
    exact ⟨at_ i b q' ha hqq, I1.hok.fresh (Nat.le_of_lt (above b (List.mem_of_getElem? ha)))⟩
end
end L2
namespace L2
open PySem PySem.Spec PyProof.Rows PySem.W PySem.Calls
section
variable {P : Program} {w : World} {K : Frag} {mg : Str → Option Value} {base : Heap}
theorem lam_code {name qual : Str} {params : Arguments} {body : Expr} {scope : Scope} {pm ctv : Value} {c f : Addr} {N ps : List Str} {A : Around} {outer : List Env} {s : Shared} {H : Hp} {args : Args} {us : List Value} {vs : List V} {Q : VK} {t : TE} {k : Nat}
    (ho : s.heap.get? f = some (kla_obj name qual params body scope [] pm c ctv)) (hcd : s.heap.CodeRec (.ref c) qual) (S : FnScope N ps scope) (hr : Room (k + 1) A) (e0 : Env0 P w K mg base A outer s H)
    (hb : bindArgs (kla_fn name qual params body scope [] pm (.ref c) ctv) args = pure (ps.zip us)) (r : Vals vs us) (hl : vs.length = ps.length)
    (ht : PE (cxOf CX0 P w K mg base N qual scope f (.ref c) A outer s H (fun _ _ _ => False)).nox body t) (hq : t (start N vs) H Q) :
    codeAny (model P w) A (.call (.ref f) args) (CR CX0 outer P w H s Q (fun _ _ _ => False)) s := by
  have lim : s.heap.NoLimit := e0.mod.nolimit.keeps fun b o e => (e0.bs b o e).1
  have hkind : ∀ y ∈ ps.zip us, scope.names.lookup y.1 = some .local ∨ (scope.names.lookup y.1 = some .cell ∧ ((cellsFrom (s.heap.objs.size + 1) scope.names []).lookup y.1).isSome = true) := fun ⟨n, v⟩ hy => by
    rcases S.par n (List.of_mem_zip hy).1 with q | q
    · exact .inl q
    · exact .inr ⟨q, PySem.W.cellsFrom_some _ _ _ (.inl q)⟩
  refine kla_callFunE hr.depth ho rfl S.co S.gen rfl hcd ?_
  rw [hb]
  refine wpAny_pure (wpAny_newFunctionEnv_cells S.kind hkind fun env he s1 x => ?_)
  subst he
  refine ⟨lim.keeps x.toInCall.keep, kla_codeExpr ?_⟩
  have I : Inv (cxOf CX0 P w K mg base N qual scope f (.ref c) A outer s H (fun _ _ _ => False)) [] (start N vs) H s1 := inv_start S hr.hd e0 hl r x
  refine wpAny_mono (ht [] s1 (start N vs) H _ (I.wish _) hq) (fun u s' hs => ?_) fun e s' hs => hs.elim
  obtain ⟨v, H', J, rv, q⟩ := hs
  exact ⟨v, H', J.os, J.bare, J.base, J.hok, rv, q⟩
end
end L2
namespace L2
open PySem PySem.Spec PyProof.Rows PySem.W PySem.Calls
section
variable {X : Cx} {pins : List (Addr × Obj)} {σ : St} {H : Hp} {s : Shared}
theorem lam_run {name qual : Str} {params : Arguments} {body : Expr} {scope : Scope} {pm ctv : Value} {c f : Addr} {N ps : List Str} {us : List Value} {vs : List V} {Q : VK} {t : TE} {k : Nat} {fpl : List Addr} (I : Inv X pins σ H s) (fp : ∀ b ∈ fpl, FpOk X pins H b)
    (ho : s.heap.get? f = some (kla_obj name qual params body scope [] pm c ctv)) (hcd : s.heap.CodeRec (.ref c) qual) (S : FnScope N ps scope) (hr : Room (k + 1) X.A.in1.in1)
    (hb : bindArgs (kla_fn name qual params body scope [] pm (.ref c) ctv) ⟨us, []⟩ = pure (ps.zip us)) (r : Vals vs us) (hl : vs.length = ps.length)
    (ht : ∀ A outer s H, PE (cxOf CX0 X.prog X.w X.K X.mg X.base N qual scope f (.ref c) A outer s H (fun _ _ _ => False)).nox body t) (hq : t (start N vs) H Q) :
    wpAny (model X.prog X.w) X.A.in1.in1 (call (.ref f) us) (fun u s' => ∃ v H', Inv X pins σ H' s' ∧ RelV v u ∧ Q v H' ∧ ∀ b ∈ fpl, ∀ o, s.heap.get? b = some o → s'.heap.get? b = some o ∧ H' b = none) (fun _ _ => False) s := by
  refine wpAny_call (codeAny_mono (lam_code ho hcd S hr I.env0.in1.in1 hb r hl (ht _ _ _ _) hq) fun q s' hq => ?_)
  cases q with
  | error e => exact hq
  | ok fl =>
    cases fl with
    | next => exact False.elim hq
    | brk => exact False.elim hq
    | cont => exact False.elim hq
    | ret u =>
      obtain ⟨v, H', os, bare, un, hok, rv, qv⟩ := hq
      obtain ⟨hh, g, d, tk, os'⟩ := s'
      obtain rfl : os' = s.os := os
      refine ⟨v, H', I.call (h' := hh) (g' := g) (d' := d) (t' := tk) (ch := []) un hok bare (fun b z => absurd z (by simp)), rv, qv, fun b hb' o e => ?_⟩
      have hb1 := fp b hb'
      have nst : b ∉ frs X.stack := fun z => (List.mem_cons.mp (I.stkSub b z)).elim hb1.2.1 hb1.2.2.1
      exact ⟨un.keep b o e hb1.1 nst (by simp), un.free b o e hb1.1 (by simp)⟩
end
end L2
namespace L2
open PySem PySem.Spec PyProof.Rows PySem.W PySem.Calls
section
variable {X : Cx} {pins : List (Addr × Obj)} {σ : St}
theorem keys_run {name qual : Str} {params : Arguments} {body : Expr} {scope : Scope} {pm ctv : Value} {c f a kS : Addr} {N ps : List Str} {t : TE} {k : Nat} {Hb : Hp} {s : Shared} {as : List Addr} {kz : List (Int × Int)} {e1 : Nat} {P : PySem.Fin → Shared → Prop} {E : Value → Shared → Prop}
    (I : Inv X pins σ Hb s) (fp : ∀ b ∈ [kS, a, f, c], FpOk X pins Hb b) (nka : kS ≠ a) (nkf : kS ≠ f) (nkc : kS ≠ c) (hl : as.length = kz.length) (h64 : kz.length < 64) (hit : ∀ (j : Nat) (b : Addr) (q : Int × Int), as[j]? = some b → kz[j]? = some q → Hb b = some (.tup [.int q.1, .int q.2]))
    (ho : s.heap.get? f = some (kla_obj name qual params body scope [] pm c ctv)) (hcd : s.heap.CodeRec (.ref c) qual) (hkS : s.heap.get? kS = some (seqObj "list" #[] 0)) (ha : s.heap.get? a = some (seqObj "list" #[] e1)) (S : FnScope N ps scope) (hr : Room (k + 1) X.A.in1.in1) (hps : ps.length = 1)
    (hb : ∀ u, bindArgs (kla_fn name qual params body scope [] pm (.ref c) ctv) ⟨[u], []⟩ = pure (ps.zip [u]))
    (ht : ∀ A outer s H, PE (cxOf CX0 X.prog X.w X.K X.mg X.base N qual scope f (.ref c) A outer s H (fun _ _ _ => False)).nox body t)
    (htq : ∀ (b : Addr) (n d : Int) (H : Hp) (Q : VK), H b = some (.tup [.int n, .int d]) → (∀ kk, H kk = none → Q (.ref kk) (upd H kk (.tup [.int d, .int n]))) → t (start N [.ref b]) H Q)
    (h : ∀ (s' : Shared) (H' : Hp) (ks : List Addr) (e : Nat), Inv X pins σ H' s' → Same Hb H' → (∀ b ∈ [kS, a, f, c], H' b = none) → s'.heap.get? kS = some (seqObj "list" (ks.map Value.ref).toArray e) → s'.heap.get? a = some (seqObj "list" #[] e1) → ks.length = kz.length →
      (∀ (j : Nat) (b : Addr) (q : Int × Int), ks[j]? = some b → kz[j]? = some q → H' b = some (.tup [.int q.2, .int q.1])) → wpAny (model X.prog X.w) X.A.in1.in1 (ksk_end a false (as.map Value.ref).toArray e1 (.ref kS) (ks.map Value.ref).toArray) P E s') :
    wpAny (model X.prog X.w) X.A.in1.in1 (ksk_rest a (.ref f) false (as.map Value.ref).toArray e1 (.ref kS)) P E s := by
  unfold ksk_rest
  refine wpAny_bind (wpAny_rule ?_)
  rw [List.forIn_toArray]
  have mem : ∀ {b : Addr}, b ∈ [kS, a, f, c] → b = kS ∨ b = a ∨ b = f ∨ b = c := fun h => by simpa using h
  refine wpAny_bind (ksk_fold (fun i s' => ∃ (H' : Hp) (ks : List Addr) (e : Nat), Inv X pins σ H' s' ∧ Same Hb H' ∧ (∀ b ∈ [kS, a, f, c], H' b = none) ∧ s'.heap.get? kS = some (seqObj "list" (ks.map Value.ref).toArray e) ∧ s'.heap.get? a = some (seqObj "list" #[] e1) ∧ s'.heap.get? f = some (kla_obj name qual params body scope [] pm c ctv) ∧ s'.heap.CodeRec (.ref c) qual ∧ ks.length = i ∧
      ∀ (j : Nat) (b : Addr) (q : Int × Int), ks[j]? = some b → kz[j]? = some q → H' b = some (.tup [.int q.2, .int q.1])) (as.map Value.ref) 0 s
    ⟨Hb, [], 0, I, Same.refl _, fun b hb => (fp b hb).1, hkS, ha, ho, hcd, rfl, fun j b q e => by simp at e⟩ ?step ?done)
  case step =>
    rintro j x s' hx ⟨H', ks, e, I', sm, hn, g1, g2, g3, g4, g5, g6⟩
    simp only [Nat.zero_add] at g5 ⊢
    rw [List.getElem?_map] at hx
    obtain ⟨b, hb', rfl⟩ := Option.map_eq_some_iff.mp hx
    have hj := get_lt hb'
    obtain ⟨q, hq⟩ := get_some (xs := kz) (i := j) (by omega)
    have hbt := sm _ _ (hit j b q hb' hq)
    have fp' : ∀ b ∈ [kS, a, f, c], FpOk X pins H' b := fun b hb => ⟨hn b hb, (fp b hb).2⟩
    refine wpAny_bind (wpAny_attempt (wpAny_mono (lam_run (k := k) (us := [.ref b]) (vs := [.ref b]) (Q := fun v H'' => ∃ kk, v = .ref kk ∧ H' kk = none ∧ H'' = upd H' kk (.tup [.int q.2, .int q.1])) I' fp' g3 g4 S hr (hb _) (.cons rfl .nil) (by rw [hps]; rfl) ht (htq b q.1 q.2 H' _ hbt fun kk hkk => ⟨kk, rfl, hkk, rfl⟩)) (fun v s'' he => ?_) fun _ _ hF => hF.elim))
    obtain ⟨v', H'', I'', rv, ⟨kk, rfl, hkk, rfl⟩, keep⟩ := he
    obtain rfl : v = Value.ref kk := rv
    dsimp only
    have k1 := keep kS (by simp) _ g1
    have k2 := keep a (by simp) _ g2
    have k3 := keep f (by simp) _ g3
    obtain ⟨c0, oc, vs0, tq, ec, hoc, hdc, hqc⟩ := g4
    cases ec
    have k4 := keep c (by simp) _ hoc
    have hsz : (ks.map Value.ref).toArray.size ≤ 64 := by rw [List.size_toArray, List.length_map]; omega
    have sb := Heap.SameBut.update s''.heap kS (Obj.mapSeq (·.push (.ref kk)))
    have ek : ((ks.map Value.ref).toArray.push (.ref kk)) = ((ks ++ [kk]).map Value.ref).toArray := by simp
    refine wpAny_bind (listUpdate_at k1.1 rfl ?_ (Nat.le_trans hsz (by rw [sizeLine_eq]; omega)) (Nat.le_trans (Nat.le_of_eq (Array.size_push ..)) (by rw [sizeLine_eq]; omega)))
    have fpk : FpOk X pins (upd H' kk (.tup [.int q.2, .int q.1])) kS := ⟨k1.2, (fp kS (by simp)).2⟩
    have I3 : Inv X pins σ (upd H' kk (.tup [.int q.2, .int q.1])) { s'' with heap := s''.heap.update kS (Obj.mapSeq (·.push (.ref kk))) } := I''.turned (t' := s''.toks) (fun b o n e => (sb.2 b n).trans e) fpk.1 fpk.2.1 fpk.2.2.2.1 fpk.2.2.2.2.1 fpk.2.2.2.2.2
    obtain ⟨c2, hc2⟩ : ∃ c2, (s''.heap.update kS (Obj.mapSeq (·.push (.ref kk)))).get? kS = some (seqObj "list" ((ks ++ [kk]).map Value.ref).toArray c2) := ⟨_, by rw [← ek]; exact get?_update_seq k1.1 (·.push (.ref kk))⟩
    refine wpAny_pure ⟨rfl, _, ks ++ [kk], c2, I3, sm.trans (same_upd hkk), fun b hb => ?_, hc2, (sb.2 a nka.symm).trans k2.1, (sb.2 f nkf.symm).trans k3.1, ⟨c, oc, vs0, tq, rfl, (sb.2 c nkc.symm).trans k4.1, hdc, hqc⟩, by rw [List.length_append, g5]; rfl, fun i b' q' e2 e3 => ?_⟩
    · rcases mem hb with rfl | rfl | rfl | rfl
      · exact k1.2
      · exact k2.2
      · exact k3.2
      · exact k4.2
    · by_cases hi : i < ks.length
      · rw [List.getElem?_append_left hi] at e2
        exact same_upd hkk _ _ (g6 i b' q' e2 e3)
      · have hlt := get_lt e2
        rw [List.length_append, List.length_singleton] at hlt
        have ei : i = ks.length := by omega
        subst ei
        rw [List.getElem?_append_right (Nat.le_refl _), Nat.sub_self] at e2
        cases e2
        rw [g5, hq] at e3
        cases e3
        exact upd_same
  case done =>
    rintro s' ⟨H', ks, e, I', sm, hn, g1, g2, g3, g4, g5, g6⟩
    rw [List.length_map, Nat.zero_add] at g5
    refine wpAny_bind (listItems_at g1 rfl ?_)
    exact h s' H' ks e I' sm hn g1 g2 (by omega) g6
end
end L2
namespace L2
open PySem PySem.Spec PyProof.Rows PySem.W PySem.Calls
def dayKey (q : Int × Int) : Int := q.2 * 1000000 + q.1
theorem kat_of2 {h : Heap} : ∀ {as : List Addr}, (∀ a ∈ as, ∃ o xs n z t, h.get? a = some o ∧ o.cls = .type "tuple" ∧ o.data = .seq xs n ∧ xs[0]? = some (Value.int z t)) → ∃ fs, KatTups h (as.map Value.ref) fs ∧ fs.length = as.length ∧ ∀ v ∈ fs, ∃ z t, v = Value.int z t
  | [], _ => ⟨[], .nil, rfl, fun v hv => by simp at hv⟩
  | a :: as, k => by
    obtain ⟨o, xs, n, z, t, e1, e2, e3, e4⟩ := k a List.mem_cons_self
    obtain ⟨fs, h1, h2, h3⟩ := kat_of2 (as := as) fun b hb => k b (List.mem_cons_of_mem _ hb)
    refine ⟨.int z t :: fs, .cons e1 e2 e3 e4 h1, by rw [List.length_cons, h2]; rfl, fun v hv => ?_⟩
    rcases List.mem_cons.mp hv with rfl | hv
    · exact ⟨z, t, rfl⟩
    · exact h3 v hv
section
variable {prog : Program} {w : World} {A : Around} {E : Value → Shared → Prop} {s : Shared} {a kS : Addr}
theorem keyed_end {as ks : List Addr} {kz : List (Int × Int)} {e e1 : Nat} {P : PySem.Fin → Shared → Prop} (hkS : s.heap.get? kS = some (seqObj "list" (ks.map Value.ref).toArray e)) (ha : s.heap.get? a = some (seqObj "list" #[] e1)) (nka : kS ≠ a) (hks : ks.length = kz.length) (has : as.length = kz.length) (h64 : kz.length < 64)
    (hb : ∀ q ∈ kz, 0 ≤ q.1 ∧ q.1 < 1000000) (nd : (kz.map (·.1)).Nodup)
    (hkt : ∀ (j : Nat) (b : Addr) (q : Int × Int), ks[j]? = some b → kz[j]? = some q → ∃ o n t u, s.heap.get? b = some o ∧ o.cls = .type "tuple" ∧ o.data = .seq #[.int q.2 t, .int q.1 u] n)
    (h : ∀ h' c (p : List Nat), p.Perm (List.range kz.length) → p.Pairwise (fun i j => dayKey (kz.getD i (0, 0)) < dayKey (kz.getD j (0, 0))) → (∀ b o, b ≠ a → b ≠ kS → s.heap.get? b = some o → h'.get? b = some o) → h'.get? a = some (seqObj "list" (List.toArray (p.map fun i => (as.map Value.ref).getD i Value.none)) c) → P (.done (.ret .none)) { s with heap := h' }) :
    wpAny (model prog w) A (ksk_end a false (as.map Value.ref).toArray e1 (.ref kS) (ks.map Value.ref).toArray) P E s := by
  have hil : (as.map Value.ref).length = kz.length := by rw [List.length_map, has]
  have hkl : (ks.map Value.ref).length = kz.length := by rw [List.length_map, hks]
  have tail : ∀ (st : SortSt) (p : List Nat), p.Perm (List.range kz.length) → p.Pairwise (fun i j => dayKey (kz.getD i (0, 0)) < dayKey (kz.getD j (0, 0))) → failedOf st = none → (arrOf st).map (·.2) = List.toArray (p.map fun i => (as.map Value.ref).getD i Value.none) →
      wpAny (model prog w) A (ksk_tail a false e1 (.ref kS) st) P E s := fun st p pm pw hf hout => by
    have pl : p.length = kz.length := by have := pm.length_eq; rwa [List.length_range] at this
    unfold ksk_tail
    dsimp only
    rw [hout]
    simp only [Bool.false_eq_true, if_false]
    have t1 := Heap.SameBut.update s.heap kS (Obj.mapSeq fun _ => (#[] : Array Value))
    have na1 : (s.heap.update kS (Obj.mapSeq fun _ => (#[] : Array Value))).get? a = some (seqObj "list" #[] e1) := (t1.2 a nka.symm).trans ha
    refine wpAny_bind (listUpdate_at hkS rfl ?_ (by rw [List.size_toArray, hkl, sizeLine_eq]; omega) (Nat.zero_le _))
    refine wpAny_bind (wpAny_letGo ?_)
    refine wpAny_bind (seqEpoch_at na1 rfl ?_)
    refine wpAny_bind (listUpdate_at na1 rfl ?_ (Nat.zero_le _) (by show (List.toArray (p.map _)).size ≤ _; rw [List.size_toArray, List.length_map, pl, sizeLine_eq]; omega))
    rw [hf]
    simp only [bne_self_eq_false, Bool.false_eq_true, if_false]
    have t2 := Heap.SameBut.update (s.heap.update kS (Obj.mapSeq fun _ => (#[] : Array Value))) a (Obj.mapSeq fun _ => List.toArray (p.map fun i => (as.map Value.ref).getD i Value.none))
    exact wpAny_pure (h _ _ p pm pw (fun b o n1 n2 e => (t2.2 b n1).trans ((t1.2 b n2).trans e)) (get?_update_seq na1 fun _ => _))
  unfold ksk_end
  simp only [Bool.false_eq_true, if_false]
  by_cases h2 : kz.length < 2
  · have hn2 : (as.map Value.ref).toArray.size < 2 := by rw [List.size_toArray, hil]; exact h2
    rw [if_pos hn2, if_pos hn2]
    refine wpAny_bind (wpAny_pure ?_)
    rw [StateT.run_pure]
    refine wpAny_bind (wpAny_pure ?_)
    dsimp only
    refine tail _ (List.range kz.length) (.refl _) ?_ rfl ?_
    · match kz, h2 with
      | [], _ => exact .nil
      | [_], _ => exact List.pairwise_singleton _ _
    · show Array.map (fun x => x.2) ((ks.map Value.ref).toArray.zip (as.map Value.ref).toArray) = _
      match kz, h2, as, has, ks, hks with
      | [], _, [], _, [], _ => simp
      | [_], _, [_], _, [_], _ => simp
  · have hn2 : ¬ (as.map Value.ref).toArray.size < 2 := by rw [List.size_toArray, hil]; exact h2
    rw [if_neg hn2, if_neg hn2]
    obtain ⟨fs, t1, t2, t3⟩ := kat_of2 (h := s.heap) (as := ks) fun b hb' => by
      obtain ⟨j, hj⟩ := List.mem_iff_getElem?.mp hb'
      obtain ⟨q, hq⟩ := get_some (xs := kz) (i := j) (by have := get_lt hj; omega)
      obtain ⟨o, n, t, u, g1, g2, g3⟩ := hkt j b q hj hq
      exact ⟨o, _, n, q.2, t, g1, g2, g3, rfl⟩
    refine wpAny_bind (wpAny_mono (kat_kind (E := fun _ _ => False) (Q := fun κ s' => κ = tuples' true ∧ s' = s) (T := Value.type "int") t1 (by rw [t2]; omega) (fun v hv => by obtain ⟨z, t, rfl⟩ := t3 v hv; exact .of_pure rfl) rfl ⟨rfl, rfl⟩) (fun κ s0 hk' => ?_) fun _ _ x => x.elim)
    obtain ⟨rfl, rfl⟩ := hk'
    have rr : KInj (fun i => dayKey (kz.getD i (0, 0))) kz.length := fun i j hi hj ee => by
      have gi : kz.getD i (0, 0) = kz[i] := by rw [List.getD_eq_getElem?_getD, List.getElem?_eq_getElem hi]; rfl
      have gj : kz.getD j (0, 0) = kz[j] := by rw [List.getD_eq_getElem?_getD, List.getElem?_eq_getElem hj]; rfl
      have bi := hb _ (List.getElem_mem hi)
      have bj := hb _ (List.getElem_mem hj)
      have ee' : dayKey (kz.getD i (0, 0)) = dayKey (kz.getD j (0, 0)) := ee
      rw [gi, gj] at ee'
      unfold dayKey at ee'
      have e1' : (kz[i]).1 = (kz[j]).1 := by omega
      have l1 : i < (kz.map (·.1)).length := by rw [List.length_map]; exact hi
      have l2 : j < (kz.map (·.1)).length := by rw [List.length_map]; exact hj
      have e2 : (kz.map (·.1))[i] = (kz.map (·.1))[j] := by rw [List.getElem_map, List.getElem_map]; exact e1'
      exact (List.getElem_inj nd).mp e2
    have run := kat_run (prog := prog) (w := w) (A := A) (E := E) (κ := tuples' true) (ks := ks.map Value.ref) (vs := as.map Value.ref) (s := s0)
      (Q := fun st' s' => s' = s0 ∧ ∃ p : Array Nat, KPm kz.length p ∧ KInc (fun i => dayKey (kz.getD i (0, 0))) p kz.length ∧ arrOf st' = p.map (kas_item ((ks.map Value.ref).toArray.zip (as.map Value.ref).toArray)) ∧ failedOf st' = none)
      (G := fun p s' => s' = s0 ∧ KPm kz.length p ∧ KInc (fun i => dayKey (kz.getD i (0, 0))) p kz.length) (by rw [hkl, hil]) (by rw [hil]; omega) (by rw [hil]; exact h64) (fun p' st' s' a1 a2 a3 a4 => ⟨a4.1, p', a4.2.1, a4.2.2, a2, a3⟩)
      (by
        rw [hil]
        refine kok_wp (lt := klt (fun i => dayKey (kz.getD i (0, 0)))) (D := KD kz.length) (Q := fun q => KPm kz.length q ∧ KInc (fun i => dayKey (kz.getD i (0, 0))) q kz.length) (fun s' => s' = s0) (fun i j C s' hD hI hC => ?_) (fun q s' hq hI => ⟨hI, hq.1, hq.2⟩) _ _ rfl (kas_sort_ok rr (by omega))
        subst hI
        obtain ⟨hi, hj, hij⟩ := hD
        have hik : i < ks.length := by omega
        have hjk : j < ks.length := by omega
        have gi : kz.getD i (0, 0) = kz[i] := by rw [List.getD_eq_getElem?_getD, List.getElem?_eq_getElem hi]; rfl
        have gj : kz.getD j (0, 0) = kz[j] := by rw [List.getD_eq_getElem?_getD, List.getElem?_eq_getElem hj]; rfl
        have ei : (ks.map Value.ref).getD i Value.none = Value.ref (ks[i]) := by rw [List.getD_eq_getElem?_getD, List.getElem?_map, List.getElem?_eq_getElem hik]; rfl
        have ej : (ks.map Value.ref).getD j Value.none = Value.ref (ks[j]) := by rw [List.getD_eq_getElem?_getD, List.getElem?_map, List.getElem?_eq_getElem hjk]; rfl
        obtain ⟨o, n, t, u, g1, g2, g3⟩ := hkt i _ _ (List.getElem?_eq_getElem hik) (List.getElem?_eq_getElem hi)
        obtain ⟨o', n', t', u', g1', g2', g3'⟩ := hkt j _ _ (List.getElem?_eq_getElem hjk) (List.getElem?_eq_getElem hj)
        have bi := hb _ (List.getElem_mem hi)
        have bj := hb _ (List.getElem_mem hj)
        have hC' : C (decide (dayKey (kz.getD i (0, 0)) < dayKey (kz.getD j (0, 0)))) s' := hC s' rfl
        have ne : dayKey (kz.getD i (0, 0)) = dayKey (kz.getD j (0, 0)) → False := fun z => hij (rr i j hi hj z)
        have ecmp : decide (dayKey (kz.getD i (0, 0)) < dayKey (kz.getD j (0, 0))) = decide (dayKey kz[i] < dayKey kz[j]) := by rw [gi, gj]
        rw [ecmp] at hC'
        rw [gi, gj] at ne
        unfold kas_ask
        rw [ei, ej]
        refine kat_lt g1 g3 g1' g3' (kat_cons (wpAny_eqBool_int ?_))
        by_cases ed : (kz[i]).2 = (kz[j]).2
        · rw [show ((kz[i]).2 == (kz[j]).2) = true from by rw [ed]; exact beq_self_eq_true _]
          have ln : ¬ (kz[i]).1 = (kz[j]).1 := fun z => ne (by unfold dayKey; rw [ed, z])
          refine kat_yes (kat_cons (wpAny_eqBool_int ?_))
          rw [show ((kz[i]).1 == (kz[j]).1) = false from beq_eq_false_iff_ne.mpr ln]
          refine kat_no (kat_one _ _ (lt_int ?_))
          have eC : decide (dayKey kz[i] < dayKey kz[j]) = decide ((kz[i]).1 < (kz[j]).1) := by
            unfold dayKey; rw [ed]
            by_cases c : (kz[i]).1 < (kz[j]).1
            · rw [decide_eq_true c, decide_eq_true (by omega)]
            · rw [decide_eq_false c, decide_eq_false (by omega)]
          rw [eC] at hC'
          exact hC'
        · rw [show ((kz[i]).2 == (kz[j]).2) = false from beq_eq_false_iff_ne.mpr ed]
          refine kat_no (oneLt_int ?_)
          have eC : decide (dayKey kz[i] < dayKey kz[j]) = decide ((kz[i]).2 < (kz[j]).2) := by
            unfold dayKey
            by_cases c : (kz[i]).2 < (kz[j]).2
            · rw [decide_eq_true c, decide_eq_true (by omega)]
            · rw [decide_eq_false c, decide_eq_false (by omega)]
          rw [eC] at hC'
          exact hC')
    refine wpAny_bind (wpAny_mono run ?_ fun _ _ e => e)
    rintro ⟨⟨⟩, st'⟩ s' ⟨rfl, p, hp, hinc, har, hf⟩
    dsimp only
    refine tail st' p.toList hp.pm ?_ hf (kat_snds (by rw [hkl, hil]) har)
    rw [List.pairwise_iff_getElem]
    intro i j hi hj hij
    rw [Array.length_toList, hp.size] at hi hj
    have := hinc i j hij hj
    unfold kkey at this
    have gi := hp.get hi
    have gj := hp.get hj
    rw [List.getElem?_eq_getElem (by rw [Array.length_toList, hp.size]; exact hi)] at gi
    rw [List.getElem?_eq_getElem (by rw [Array.length_toList, hp.size]; exact hj)] at gj
    rw [Option.some.inj gi, Option.some.inj gj]
    exact this
end
end L2
namespace L2
open PySem PySem.Spec PyProof.Rows PySem.W PySem.Calls
def tupH (H : Hp) (as : List Addr) (kz : List (Int × Int)) : Hp := fun b => match as.findIdx? (· == b) with
  | some j => (kz[j]?).map fun q => HO.tup [.int q.1, .int q.2]
  | none => H b
section
variable {X : Cx} {pins : List (Addr × Obj)} {σ : St} {H : Hp} {s : Shared}
theorem tupH_no {as : List Addr} {kz : List (Int × Int)} {b : Addr} (h : b ∉ as) : tupH H as kz b = H b := by unfold tupH; rw [findIdx_no h]
theorem tupH_at {as : List Addr} {kz : List (Int × Int)} (nd : as.Nodup) {j : Nat} {b : Addr} {q : Int × Int} (h : as[j]? = some b) (hq : kz[j]? = some q) : tupH H as kz b = some (.tup [.int q.1, .int q.2]) := by unfold tupH; rw [findIdx_of nd h]; dsimp only; rw [hq]; rfl
theorem Inv.tab1 {P : Addr} {ps more : Array Value} {h' : Heap} {t' : Nat} (I : Inv X pins σ H s) (hP : H P = some (.tbl ps)) (k : ∀ b u, b ≠ P → s.heap.get? b = some u → h'.get? b = some u) (hP' : h'.get? P = some (tabObj (ps ++ more))) : Inv X pins σ (upd H P (.tbl (ps ++ more))) { s with heap := h', toks := t' } := by
  have up : ∀ b o, b ≠ P → H b = some o → (upd H P (.tbl (ps ++ more))) b = some o := fun b o n e => by rw [upd_ne n]; exact e
  have nP : ∀ {b : Addr}, H b = none → b ≠ P := fun n z => by rw [z, hP] at n; cases n
  refine I.un ⟨fun b ob q n _ _ => k b ob (nP n) q, fun b ob q n _ _ => ⟨ob.slots, k b ob (nP n) q⟩, fun b ob q n _ => by rw [upd_ne (nP n)]; exact n, fun b ob q _ => ?_, fun b xs q => up b _ (fun z => by rw [z, hP] at q; cases q) q, fun b o u q => up b _ (fun z => by rw [z, hP] at q; cases q) q, fun b ps' q => ?_⟩ fun b o e => ?_
  · by_cases nb : b = P
    · subst nb; exact ⟨_, hP'⟩
    · exact ⟨ob, k b ob nb q⟩
  · by_cases nb : b = P
    · subst nb
      rw [hP] at q; cases q
      exact ⟨more, upd_same⟩
    · exact ⟨#[], by rw [up b _ nb q]; simp⟩
  · by_cases nb : b = P
    · subst nb
      rw [upd_same] at e; cases e
      exact hP'
    · rw [upd_ne nb] at e
      refine (I.hok b o e).stay (fun c v hc q => k c v ?_ q) (fun c q => up c _ (fun z => by rw [z, hP] at q; cases q) q) fun c xs q => up c _ (fun z => by rw [z, hP] at q; cases q) q
      rcases hc with z | z
      · rw [z]; exact nb
      · exact fun w => by rw [w, hP] at z; cases z
theorem Inv.adopt2 {D kS : Addr} {xs : List V} {h' : Heap} {t' : Nat} (I : Inv X pins σ H s) (fp : FpOk X pins H D) (fq : FpOk X pins H kS) (nD : kS ≠ D) (k : ∀ b u, b ≠ D → b ≠ kS → s.heap.get? b = some u → h'.get? b = some u) (new : ObjOk X.prog X.w (upd H D (.lst xs)) h' D (.lst xs)) : Inv X pins σ (upd H D (.lst xs)) { s with heap := h', toks := t' } := by
  have up : ∀ b u, H b = some u → upd H D (.lst xs) b = some u := fun b u e => by rw [upd_ne (fun z => by rw [z, fp.1] at e; cases e)]; exact e
  have nc : ∀ {b : Addr}, b ∉ [D, kS] → b ≠ D ∧ b ≠ kS := fun h => ⟨fun z => h (by simp [z]), fun z => h (by simp [z])⟩
  refine I.step (g' := s.gens) (d' := s.drawn) (ch := [D, kS]) (fun b hb => ?_) (fun b u _ _ hc e _ => k b u (nc hc).1 (nc hc).2 e) (fun b u _ _ hc e _ => ⟨u.slots, k b u (nc hc).1 (nc hc).2 e⟩) (fun b u hc e n => ?_) (fun b u hc e => ⟨u, k b u (nc hc).1 (nc hc).2 e⟩)
    (fun b xs e => up b _ e) (fun b ob u e => up b _ e) (fun b ps e => ⟨#[], by rw [up b _ e]; simp⟩) (fun m hm => ?_) (fun b u e => ?_) I.bare
  · have e : b = D ∨ b = kS := by simpa using hb
    rcases e with rfl | rfl
    · exact ⟨fp.2.2.2.1, fp.2.1, fp.2.2.2.2.1, fp.2.2.2.2.2⟩
    · exact ⟨fq.2.2.2.1, fq.2.1, fq.2.2.2.2.1, fq.2.2.2.2.2⟩
  · rw [upd_ne (nc hc).1]; exact n
  · obtain ⟨ob, es, ep, ho, r⟩ := hm
    exact ⟨ob, es, ep, k _ ob (Ne.symm fp.2.1) (Ne.symm fq.2.1) ho, r⟩
  · by_cases hD : b = D
    · subst hD; rw [upd_same] at e; cases e; exact new
    · rw [upd_ne hD] at e
      refine (I.hok b u e).stay (fun c v hc q => k c v ?_ ?_ q) (fun c q => up c _ q) fun c xs q => up c _ q
      · rcases hc with z | z
        · rw [z]; exact hD
        · exact fun y => by rw [y, fp.1] at z; cases z
      · rcases hc with z | z
        · rw [z]; exact fun y => by rw [y, fq.1] at e; cases e
        · exact fun y => by rw [y, fq.1] at z; cases z
end
section
variable {X : Cx} {o : Expr} {td : TE} {p1 apos cpos pos1 lpos kp : Pos} {params : Arguments} {body : Expr} {scope : Scope} {c P : Addr}
def tSortN (P : Addr) (td : TE) : TE := fun σ H Q => td σ H fun x H1 => ∃ (d : Addr) (kz : List (Int × Int)), x = .ref d ∧ H1 d = some (.dK (kz.map fun q => ((Sum.inl q.1 : Key), V.int q.2))) ∧ kz.length < 64 ∧ (∀ q ∈ kz, 0 ≤ q.1 ∧ q.1 < 1000000) ∧ H1 P = some (.tbl #[]) ∧
  ∀ (l : Addr) (as : List Addr) (kz' : List (Int × Int)) (ps : Array Value) (H2 : Hp), kz'.Perm kz → kz'.Pairwise (fun a b => dayKey a < dayKey b) → H1 l = none → (∀ b o, b ≠ P → H1 b = some o → H2 b = some o) → H2 P = some (.tbl ps) → H2 l = some (.lst (as.map V.ref)) → as.length = kz'.length →
    (∀ (j : Nat) (b : Addr) (q : Int × Int), as[j]? = some b → kz'[j]? = some q → H2 b = some (.tup [.int q.1, .int q.2]) ∧ H1 b = none) → Q (.ref l) H2
theorem pe_sortN {k : Nat} {N ps : List Str} {t : TE} (hc : X.calm = true) (hg : Gl X "sorted") (hm : X.mg "sorted" = none) (ho : PE X o td) (hcode : X.env.code = .ref c) (hK : codeHdIn X.K c P = true) (hB : BmAt X.mg X.base) (hr : Room (k + 3) X.A) (S : FnScope N ps scope) (hps : ps.length = 1)
    (hbind : ∀ pm c ctv u, bindArgs (kla_fn "<lambda>" (X.env.qual ++ "<lambda>") params body scope [] pm (.ref c) ctv) ⟨[u], []⟩ = pure (ps.zip [u]))
    (ht : ∀ f c A outer s H, PE (cxOf CX0 X.prog X.w X.K X.mg X.base N (X.env.qual ++ "<lambda>") scope f (.ref c) A outer s H (fun _ _ _ => False)).nox body t)
    (htq : ∀ (b : Addr) (n d : Int) (H : Hp) (Q : VK), H b = some (.tup [.int n, .int d]) → (∀ kk, H kk = none → Q (.ref kk) (upd H kk (.tup [.int d, .int n]))) → t (start N [.ref b]) H Q)
    (hdef : defaultsOf params X.env = ([], []) := by rfl) (hcl : closureFor scope X.env = pure [] := by rfl)
    (hbase : attributeBase o "items" X.env (eval o X.env) = eval o X.env := by rfl) (hline : (apos.endLine == cpos.line) = true := by rfl)
    (hs : backTo pos1 (starEach [.Call (.Attribute o "items" apos) [] [] cpos] X.env) = [(false, eval (.Call (.Attribute o "items" apos) [] [] cpos) X.env)] := by rfl) :
    PE X (.Call (.Name "sorted" p1) [.Call (.Attribute o "items" apos) [] [] cpos] [⟨some "key", .Lambda params body scope lpos, kp⟩] pos1) (tSortN P td) := by
  intro pins s σ H Q I h
  refine wpAny_Call_Name_kw (ld_blt I hg hm boot_sorted (callWith_kw ?_))
  rw [hs]
  refine Calls.spliced_cons (wpAny_Call_method0_late hbase hline (thn (ho pins s σ H _ I h) fun v s1 ⟨x, H1, I1, r1, d, kz, ex, hd, hkl, hkb, hP, q⟩ => ?_))
  subst ex
  cases r1
  obtain ⟨z, hsm, vs, rel, oD, es, ep, d1, d2, d3, d4, d5, d6⟩ := dk_of I1.hok hd
  have rel' : KV ((kz.map fun q => (q.1, V.int q.2)).map fun q => ((Sum.inl q.1 : Key), q.2)) vs := by rw [List.map_map]; exact rel
  have hvl : kz.length = vs.length := by have := rel.length; rwa [List.length_map] at this
  have ndk : (kz.map (·.1)).Nodup := by
    have e1 : vs.map (·.1) = (kz.map (·.1)).map (Sum.inl : Int → Key) := by
      have := rel.keys
      rw [← this, List.map_map, List.map_map]; rfl
    have n0 : (vs.map (·.1)).Nodup := d6
    rw [e1] at n0
    exact List.Pairwise.of_map _ (fun a b z e => z (by rw [e])) n0
  obtain ⟨t1, t2, _⟩ := isD_at I1 (a := d) (.inl ⟨_, .inl hd⟩)
  refine ⟨"dict", "dict.items", PySem.F.plainAttrs_dict, PySem.F.slot_dict_items, PySem.F.type_dict_items, t1, t2, Calls.callWith_builtin rfl (PySem.evalArgs_none ?_)⟩
  refine call_meetsIn PySem.F.slot_dict_items t1 PySem.F.entry_dict_items (PySem.F.args_dict_items_1 _) (meets_dict_items (mixKind X.prog X.w) d hsm) ⟨⟨vs, _, _, _, d1, d2, d3, d4, d5, d6⟩, ?_⟩
  refine Calls.spliced_nil ?_
  have hPh : s1.heap.get? P = some (tabObj #[]) := I1.hok P _ hP
  have hvh : (s1.heap.push { cls := .type "dict_items", data := .fields #[.ref d] }).get? s1.heap.objs.size = some { cls := .type "dict_items", data := .fields #[.ref d] } := Heap.get?_push_size _ rfl
  have up1 : ∀ b u, s1.heap.get? b = some u → (s1.heap.push { cls := .type "dict_items", data := .fields #[.ref d] }).get? b = some u := fun b u e => Heap.get?_push_of_some _ e
  have sz1 : (s1.heap.push { cls := .type "dict_items", data := .fields #[.ref d] }).objs.size = s1.heap.objs.size + 1 := Heap.size_push _ _
  generalize s1.heap.push { cls := .type "dict_items", data := .fields #[.ref d] } = hA at *
  have C : CodeHd hA c P := (codeHd_of_K I1.kIn hK).keeps up1
  have G : hA.Ns mainGlobals X.mg := (I1.mod.glob.keeps I1.bk).keeps up1
  obtain ⟨bm, ob, b1, b2, b4, b5, b6, b7⟩ := hB
  have hbm := I1.bk _ _ b4
  have nbP : bm ≠ P := fun z => by rw [z, hPh] at hbm; cases hbm; cases b5
  have b3 : bm ≠ mainGlobals := fun z => by
    obtain ⟨o', es', ep', e', hd', _⟩ := G
    rw [← z, up1 _ _ hbm] at e'; cases e'; rw [b7] at hd'; cases hd'
  have ngP : mainGlobals ≠ P := fun z => by
    obtain ⟨o', es', ep', e', hd', _⟩ := G
    rw [z, up1 _ _ hPh] at e'; cases e'; cases hd'
  refine kws_cons (kla_eval hdef (kla_makeFunction (s := { s1 with heap := hA }) (mg := X.mg) hcl I1.ok.glob G hcode C (up1 _ _ hPh) (by trivial) rfl ngP ⟨bm, _, b1, b2, b3, nbP, up1 _ _ hbm, b5, b6, b7⟩ fun c' ctv hB' tk hx hge hlt hrec htb => ?_))
  refine kws_nil ?_
  obtain ⟨pm, epm⟩ : ∃ pm, pm = (X.mg "__name__").getD .none := ⟨_, rfl⟩
  rw [← epm]
  have fget : (hB'.push (kla_obj "<lambda>" (X.env.qual ++ "<lambda>") params body scope [] pm c' ctv)).get? hB'.objs.size = some (kla_obj "<lambda>" (X.env.qual ++ "<lambda>") params body scope [] pm c' ctv) := Heap.get?_push_size _ rfl
  have fsz := Heap.size_push hB' (kla_obj "<lambda>" (X.env.qual ++ "<lambda>") params body scope [] pm c' ctv)
  have crec : (hB'.push (kla_obj "<lambda>" (X.env.qual ++ "<lambda>") params body scope [] pm c' ctv)).CodeRec (.ref c') (X.env.qual ++ "<lambda>") := hrec.push _
  have up2 : ∀ b u, b ≠ P → hA.get? b = some u → (hB'.push (kla_obj "<lambda>" (X.env.qual ++ "<lambda>") params body scope [] pm c' ctv)).get? b = some u := fun b u n e => Heap.get?_push_of_some _ (hx b u n e)
  have hP2 : (hB'.push (kla_obj "<lambda>" (X.env.qual ++ "<lambda>") params body scope [] pm c' ctv)).get? P = some (tabObj (#[] ++ #[rawInt lpos.line, rawInt lpos.col, .ref c'])) := Heap.get?_push_of_some _ htb
  generalize hB'.push (kla_obj "<lambda>" (X.env.qual ++ "<lambda>") params body scope [] pm c' ctv) = hC at *
  have ndP : d ≠ P := fun z => by rw [z, hP] at hd; cases hd
  have ltP : P < s1.heap.objs.size := Heap.lt_size hPh
  have nvP : s1.heap.objs.size ≠ P := Nat.ne_of_gt ltP
  show wpAny _ _ (call (.builtin "sorted") [.ref s1.heap.objs.size] [(Str.ofString "key", .ref hB'.objs.size)]) _ _ { s1 with heap := hC, toks := tk }
  refine call_function_entry_kw kind_sorted plain_sorted entry_sorted (ksk_s1 _ _) ?_
  unfold Builtin.«sorted»
  refine wpAny_bind (m := checkCount "sorted" 1 1 _) (wpAny_pure ?_)
  have dd2 : hC.DictAt (mixKind X.prog X.w) d vs ep := ⟨oD, es, up2 _ _ ndP (up1 _ _ d1), d2, d3, d4, d5, d6⟩
  have szl : vs.length ≤ sizeLine := by rw [sizeLine_eq]; omega
  refine wpAny_bind (kdx_collect (s := { s1 with heap := hC, toks := tk }) (knd := mixKind X.prog X.w) (kvs := vs) (ep := ep) (I1.ok.hd hc) ⟨_, up2 _ _ nvP hvh, rfl, rfl⟩ dd2 szl fun h2 tk2 as hk hl hG => ?_)
  refine wpAny_bind (wpAny_newList ?_ (by rw [List.length_map, hl]; exact szl))
  have hoL : (h2.push (seqObj "list" (as.map Value.ref).toArray 0)).get? h2.objs.size = some (seqObj "list" (as.map Value.ref).toArray 0) := Heap.get?_push_size _ rfl
  have up3 : ∀ b u, h2.get? b = some u → (h2.push (seqObj "list" (as.map Value.ref).toArray 0)).get? b = some u := fun b u e => Heap.get?_push_of_some _ e
  have sz3 := Heap.size_push h2 (seqObj "list" (as.map Value.ref).toArray 0)
  show wpAny _ _ _ _ _ { s1 with heap := h2.push (seqObj "list" (as.map Value.ref).toArray 0), toks := tk2 }
  generalize h2.push (seqObj "list" (as.map Value.ref).toArray 0) = h3 at *
  refine wpAny_bind (wpAny_holding (wpAny_call_entry_kw slot_list_sort ⟨_, hoL, rfl⟩ entry_list_sort ?body (ksk_l1 _ _)))
  case body =>
    rw [ksk_t1]
    have lf2 := Heap.lt_size (hk _ _ fget)
    have hsC : hC.objs.size ≤ h2.objs.size := by
      have l2 : hC.objs.size = hB'.objs.size + 1 := fsz
      have l3 : hB'.objs.size < h2.objs.size := lf2
      omega
    have lA : s1.heap.objs.size < hA.objs.size := Heap.lt_size hvh
    have lc' : s1.heap.objs.size ≤ c' := Nat.le_trans (Nat.le_of_lt lA) hge
    have lf : s1.heap.objs.size ≤ hB'.objs.size := Nat.le_trans lc' (Nat.le_of_lt hlt)
    have lD : s1.heap.objs.size ≤ h2.objs.size := Nat.le_of_lt (Nat.lt_of_le_of_lt lf lf2)
    have lta : ∀ b ∈ as, b < h2.objs.size := fun b hb => hG.there hb
    have nda : as.Nodup := List.Pairwise.imp (fun h => Nat.ne_of_lt h) hG.rise
    have above : ∀ b ∈ as, hC.objs.size < b := fun b hb => hG.above b hb
    have asl : as.length = kz.length := by rw [hl, hvl]
    have s41 := Heap.SameBut.update h3 h2.objs.size (Obj.mapSeq fun _ => (#[] : Array Value))
    obtain ⟨e1, hD4⟩ : ∃ e1, (h3.update h2.objs.size (Obj.mapSeq fun _ => (#[] : Array Value))).get? h2.objs.size = some (seqObj "list" #[] e1) := ⟨_, get?_update_seq hoL fun _ => #[]⟩
    have hk5 : ((h3.update h2.objs.size (Obj.mapSeq fun _ => (#[] : Array Value))).push (seqObj "tuple" (as.map Value.ref).toArray 0)).objs.size = h2.objs.size + 2 := by rw [size_push', Heap.size_update, sz3]
    unfold ksk_tree
    refine wpAny_bind (listItems_at hoL rfl ?_)
    refine wpAny_bind (listUpdate_at hoL rfl ?_ (by rw [List.size_toArray, List.length_map, hl]; exact szl) (Nat.zero_le _))
    refine wpAny_bind (seqEpoch_at hD4 rfl ?_)
    refine wpAny_bind (wpAny_newTuple ?_ (by show (as.map Value.ref).length ≤ _; rw [List.length_map, hl]; exact szl))
    refine wpAny_bind (wpAny_newList ?_ (Nat.zero_le _))
    refine wpAny_holding ?_
    have up6 : ∀ b u, b ≠ h2.objs.size → h3.get? b = some u → (((h3.update h2.objs.size (Obj.mapSeq fun _ => (#[] : Array Value))).push (seqObj "tuple" (as.map Value.ref).toArray 0)).push (seqObj "list" #[] 0)).get? b = some u := fun b u n e => Heap.get?_push_of_some _ (Heap.get?_push_of_some _ ((s41.2 b n).trans e))
    have hD6 : (((h3.update h2.objs.size (Obj.mapSeq fun _ => (#[] : Array Value))).push (seqObj "tuple" (as.map Value.ref).toArray 0)).push (seqObj "list" #[] 0)).get? h2.objs.size = some (seqObj "list" #[] e1) := Heap.get?_push_of_some _ (Heap.get?_push_of_some _ hD4)
    have hS6 : (((h3.update h2.objs.size (Obj.mapSeq fun _ => (#[] : Array Value))).push (seqObj "tuple" (as.map Value.ref).toArray 0)).push (seqObj "list" #[] 0)).get? (h2.objs.size + 2) = some (seqObj "list" #[] 0) := by rw [← hk5]; exact Heap.get?_push_size _ rfl
    show wpAny _ _ (ksk_rest h2.objs.size (.ref hB'.objs.size) false (as.map Value.ref).toArray e1 (.ref ((h3.update h2.objs.size (Obj.mapSeq fun _ => (#[] : Array Value))).push (seqObj "tuple" (as.map Value.ref).toArray 0)).objs.size)) _ _ { s1 with heap := ((h3.update h2.objs.size (Obj.mapSeq fun _ => (#[] : Array Value))).push (seqObj "tuple" (as.map Value.ref).toArray 0)).push (seqObj "list" #[] 0), toks := tk2 }
    rw [hk5]
    generalize ((h3.update h2.objs.size (Obj.mapSeq fun _ => (#[] : Array Value))).push (seqObj "tuple" (as.map Value.ref).toArray 0)).push (seqObj "list" #[] 0) = h6 at *
    have all6 : ∀ b u, hC.get? b = some u → h6.get? b = some u := fun b u e => up6 b u (Nat.ne_of_lt (Nat.lt_of_lt_of_le (Heap.lt_size e) hsC)) (up3 b u (hk b u e))
    have Ia : Inv X pins σ (upd H1 P (.tbl (#[] ++ #[rawInt lpos.line, rawInt lpos.col, .ref c']))) { s1 with heap := hC, toks := tk } := I1.tab1 hP (fun b u n e => up2 b u n (up1 b u e)) hP2
    obtain ⟨tb, etb⟩ : ∃ tb : Array Value, tb = #[] ++ #[rawInt lpos.line, rawInt lpos.col, .ref c'] := ⟨_, rfl⟩
    rw [← etb] at Ia
    have nal : ∀ {b : Addr}, b < hC.objs.size → b ∉ as := fun hb z => absurd (Nat.lt_trans hb (above _ z)) (Nat.lt_irrefl _)
    have pr : ∀ j b, as[j]? = some b → ∃ (q : Int × Int) (t u : Tok), kz[j]? = some q ∧ h2.get? b = some { cls := .type "tuple", data := .seq #[.int q.1 t, .int q.2 u] } := fun j b e => by
      obtain ⟨key, k', x, x1, x2, x3⟩ := hG.pairs j b e
      obtain ⟨q', hq', rfl, rx⟩ := kv_get rel' x1
      rw [List.getElem?_map] at hq'
      obtain ⟨q0, hq0, rfl⟩ := Option.map_eq_some_iff.mp hq'
      obtain ⟨tt, rfl⟩ := (show ∃ t, key = Value.int q0.1 t from key_rel x2)
      obtain ⟨uu, rfl⟩ := (show ∃ t, x = Value.int q0.2 t from rx)
      exact ⟨q0, tt, uu, hq0, x3⟩
    have Ib : Inv X pins σ (tupH (upd H1 P (.tbl tb)) as kz) { s1 with heap := h6, toks := tk2 } := by
      refine Ia.many (fun b u e => all6 b u e) (fun b hb => tupH_no (nal hb)) fun b o hb e => ?_
      by_cases hba : b ∈ as
      · obtain ⟨j, hj⟩ := List.mem_iff_getElem?.mp hba
        obtain ⟨q', t', u', hq', g⟩ := pr j b hj
        rw [tupH_at nda hj hq'] at e
        cases e
        exact ⟨.inl ⟨_, rfl⟩, by show 2 ≤ sizeLine; decide, [.int q'.1 t', .int q'.2 u'], .cons ⟨t', rfl⟩ (.cons ⟨u', rfl⟩ .nil), ⟨_, up6 _ _ (Nat.ne_of_lt (lta b hba)) (up3 _ _ g), rfl, _, rfl⟩⟩
      · rw [tupH_no hba, Ia.hok.fresh hb] at e
        cases e
    have none1 : ∀ {b : Addr}, s1.heap.objs.size ≤ b → b ∉ as → tupH (upd H1 P (.tbl tb)) as kz b = none := fun {b} hb n => by
      rw [tupH_no n, upd_ne (Nat.ne_of_gt (Nat.lt_of_lt_of_le ltP hb))]
      exact I1.hok.fresh hb
    have nD : h2.objs.size ∉ as := fun z => Nat.lt_irrefl _ (lta _ z)
    have hS2 : h2.objs.size < h2.objs.size + 2 := Nat.lt_add_of_pos_right (by decide)
    have lfC : hB'.objs.size < hC.objs.size := by
      have l2 : hC.objs.size = hB'.objs.size + 1 := fsz
      rw [l2]; exact Nat.lt_succ_self _
    have lsC : s1.heap.objs.size ≤ hC.objs.size := Nat.le_trans lf (Nat.le_of_lt lfC)
    have nS : h2.objs.size + 2 ∉ as := fun z => Nat.lt_irrefl _ (Nat.lt_trans hS2 (lta _ z))
    have nf : hB'.objs.size ∉ as := nal lfC
    have nc' : c' ∉ as := nal (Nat.lt_trans hlt lfC)
    have fp : ∀ b ∈ [h2.objs.size + 2, h2.objs.size, hB'.objs.size, c'], FpOk X pins (tupH (upd H1 P (.tbl tb)) as kz) b := fun b hb => by
      have e : b = h2.objs.size + 2 ∨ b = h2.objs.size ∨ b = hB'.objs.size ∨ b = c' := by simpa using hb
      rcases e with rfl | rfl | rfl | rfl
      · exact I1.fpOk (Nat.le_trans lD (Nat.le_add_right _ 2)) (none1 (Nat.le_trans lD (Nat.le_add_right _ 2)) nS)
      · exact I1.fpOk lD (none1 lD nD)
      · exact I1.fpOk lf (none1 lf nf)
      · exact I1.fpOk lc' (none1 lc' nc')
    refine keys_run (k := k) (kz := kz) Ib fp (Nat.ne_of_gt hS2) (Nat.ne_of_gt (Nat.lt_trans lf2 hS2)) (Nat.ne_of_gt (Nat.lt_trans hlt (Nat.lt_trans lf2 hS2))) asl hkl (fun j b q' hj hq' => tupH_at nda hj hq') (all6 _ _ fget) (crec.keeps all6) hS6 hD6 S hr.in1.in1 hps (fun u => hbind _ _ _ u) (ht _ _) htq fun s' H' ks e I' sm hn g1 g2 g5 g6 => ?_
    refine keyed_end (kz := kz) g1 g2 (Nat.ne_of_gt hS2) g5 asl hkl hkb ndk (fun j b q' hj hq' => ?_) fun h7 cc p pm pw hk7 hD7 => ⟨_, rfl, ?_⟩
    · obtain ⟨_, its, rv, oo, x1, x2, n', x3⟩ := I'.hok b _ (g6 j b q' hj hq')
      obtain ⟨v1, v2, rfl, ⟨w1, rfl⟩, ⟨w2, rfl⟩⟩ := vals2 rv
      exact ⟨oo, n', w1, w2, x1, x2, x3⟩
    obtain ⟨as', eas⟩ : ∃ as', as' = p.map fun i => as.getD i 0 := ⟨_, rfl⟩
    obtain ⟨kz', ekz⟩ : ∃ kz' : List (Int × Int), kz' = p.map fun i => kz.getD i (0, 0) := ⟨_, rfl⟩
    have hin : ∀ i ∈ p, i < kz.length := fun i hi => List.mem_range.mp (pm.mem_iff.mp hi)
    have pl : p.length = kz.length := by have := pm.length_eq; rwa [List.length_range] at this
    have hperm : kz'.Perm kz := by
      have x1 : (List.range kz.length).map (fun i => kz.getD i ((0 : Int), (0 : Int))) = kz := by
        refine List.ext_getElem (by rw [List.length_map, List.length_range]) fun i h1 h2 => ?_
        rw [List.getElem_map, List.getElem_range, List.getD_eq_getElem?_getD, List.getElem?_eq_getElem h2]; rfl
      have := pm.map (fun i => kz.getD i ((0 : Int), (0 : Int)))
      rw [x1, ← ekz] at this; exact this
    have hpw : kz'.Pairwise (fun a b => dayKey a < dayKey b) := by rw [ekz, List.pairwise_map]; exact pw
    have hcont : (p.map fun i => (as.map Value.ref).getD i Value.none) = as'.map Value.ref := by
      rw [eas, List.map_map]
      refine List.map_congr_left fun i hi => ?_
      have hia : i < as.length := by have := hin i hi; omega
      show (as.map Value.ref).getD i Value.none = Value.ref (as.getD i 0)
      rw [List.getD_eq_getElem?_getD, List.getElem?_map, List.getElem?_eq_getElem hia, List.getD_eq_getElem?_getD, List.getElem?_eq_getElem hia]; rfl
    rw [hcont] at hD7
    have as'l : as'.length = kz.length := by rw [eas, List.length_map, pl]
    have vr : ∀ l : List Addr, Vals (l.map V.ref) (l.map Value.ref) := fun l => by
      induction l with
      | nil => exact .nil
      | cons a l ih => exact .cons rfl ih
    have fD : FpOk X pins H' h2.objs.size := ⟨hn _ (by simp), (fp _ (by simp)).2⟩
    have fS : FpOk X pins H' (h2.objs.size + 2) := ⟨hn _ (by simp), (fp _ (by simp)).2⟩
    have I7 := I'.adopt2 (xs := as'.map V.ref) (t' := s'.toks) fD fS (Nat.ne_of_gt hS2) (fun b u n1 n2 e => hk7 b u n1 n2 e) (show ObjOk X.prog X.w _ h7 _ (.lst _) from ⟨by rw [List.length_map, as'l, hvl]; exact szl, as'.map Value.ref, cc, vr as', hD7⟩)
    have sb : ∀ b o, b ≠ P → H1 b = some o → tupH (upd H1 P (.tbl tb)) as kz b = some o := fun b o n e => by
      have hb := I1.hok.lt e
      rw [tupH_no (nal (Nat.lt_of_lt_of_le hb lsC)), upd_ne n]; exact e
    refine wpAny_pure ⟨_, rfl, .ref h2.objs.size, _, I7, rfl, q _ as' kz' tb _ hperm hpw (I1.hok.fresh lD) (fun b o n e => same_upd fD.1 _ _ (sm _ _ (sb b o n e))) (same_upd fD.1 _ _ (sm _ _ ?_)) upd_same (by rw [as'l, ekz, List.length_map, pl]) fun j b q' hj hq' => ?_⟩
    · rw [tupH_no (nal (Nat.lt_of_lt_of_le ltP lsC)), upd_same]
    · rw [eas, List.getElem?_map] at hj
      rw [ekz, List.getElem?_map] at hq'
      obtain ⟨i, hi, x1⟩ := Option.map_eq_some_iff.mp hj
      rw [hi] at hq'
      have x2 : kz.getD i (0, 0) = q' := Option.some.inj hq'
      have hil := hin i (List.mem_of_getElem? hi)
      have ha' : as[i]? = some b := by rw [← x1, List.getD_eq_getElem?_getD, List.getElem?_eq_getElem (by omega)]; rfl
      have hqq : kz[i]? = some q' := by rw [← x2, List.getD_eq_getElem?_getD, List.getElem?_eq_getElem hil]; rfl
      refine ⟨same_upd fD.1 _ _ (sm _ _ (tupH_at nda ha' hqq)), I1.hok.fresh ?_⟩
      exact Nat.le_trans lsC (Nat.le_of_lt (above b (List.mem_of_getElem? ha')))
end
end L2
namespace Rc
open PySem PySem.Spec PyProof.Rows L2 PySem.Calls PyProof.V PySem.SeqAt
def ringF : List Str := ["house_count", "signed", "day_of", "loss_rows", "next_happening", "next_loss", "paid_parts", "told_closings", "reckoning"]
theorem putF_len {f : Str} {v w : V} : ∀ {fs : List (Str × V)}, fs.lookup f = some w → (putF f v fs).length = fs.length
  | [], e => by cases e
  | (g, x) :: r, e => by
    by_cases z : g = f
    · unfold putF; rw [if_pos z]; rfl
    · have n : (f == g) = false := beq_eq_false_iff_ne.mpr (fun y => z y.symm)
      rw [List.lookup_cons, n] at e
      unfold putF; rw [if_neg z, List.length_cons, putF_len e]; rfl
structure RgO (h : Nat) (sg dy lr : Addr) (nh nl : Int) (pp tc : Addr) (rk : V) (fs : List (Str × V)) : Prop where
  len : fs.length ≤ 9
  hc : fs.lookup ("house_count" : Str) = some (.int (h : Nat))
  sg_ : fs.lookup ("signed" : Str) = some (.ref sg)
  dy_ : fs.lookup ("day_of" : Str) = some (.ref dy)
  lr_ : fs.lookup ("loss_rows" : Str) = some (.ref lr)
  nh_ : fs.lookup ("next_happening" : Str) = some (.int nh)
  nl_ : fs.lookup ("next_loss" : Str) = some (.int nl)
  pp_ : fs.lookup ("paid_parts" : Str) = some (.ref pp)
  tc_ : fs.lookup ("told_closings" : Str) = some (.ref tc)
  rk_ : fs.lookup ("reckoning" : Str) = some rk
  no : ∀ m : Str, ¬ m ∈ ringF → fs.lookup m = none
section
variable {h : Nat} {sg dy lr : Addr} {nh nl : Int} {pp tc : Addr} {rk : V} {fs : List (Str × V)}
theorem not_ringF {m : Str} (hm : ¬ m ∈ ringF) : ¬ m = "house_count" ∧ ¬ m = "signed" ∧ ¬ m = "day_of" ∧ ¬ m = "loss_rows" ∧ ¬ m = "next_happening" ∧ ¬ m = "next_loss" ∧ ¬ m = "paid_parts" ∧ ¬ m = "told_closings" ∧ ¬ m = "reckoning" := by
  unfold ringF at hm
  simp only [List.mem_cons, not_or, List.not_mem_nil, not_false_eq_true, and_true] at hm
  exact hm
theorem RgO.setR (g : RgO h sg dy lr nh nl pp tc rk fs) (v : V) : RgO h sg dy lr nh nl pp tc v (putF "reckoning" v fs) :=
  ⟨by rw [putF_len g.rk_]; exact g.len, by rw [lookup_putF, if_neg (by decide +kernel)]; exact g.hc, by rw [lookup_putF, if_neg (by decide +kernel)]; exact g.sg_, by rw [lookup_putF, if_neg (by decide +kernel)]; exact g.dy_, by rw [lookup_putF, if_neg (by decide +kernel)]; exact g.lr_, by rw [lookup_putF, if_neg (by decide +kernel)]; exact g.nh_, by rw [lookup_putF, if_neg (by decide +kernel)]; exact g.nl_, by rw [lookup_putF, if_neg (by decide +kernel)]; exact g.pp_, by rw [lookup_putF, if_neg (by decide +kernel)]; exact g.tc_, by rw [lookup_putF, if_pos rfl], fun m hm => by rw [lookup_putF, if_neg ((not_ringF hm).2.2.2.2.2.2.2.2)]; exact g.no m hm⟩
theorem RgO.setNh (g : RgO h sg dy lr nh nl pp tc rk fs) (v : Int) : RgO h sg dy lr v nl pp tc rk (putF "next_happening" (.int v) fs) :=
  ⟨by rw [putF_len g.nh_]; exact g.len, by rw [lookup_putF, if_neg (by decide +kernel)]; exact g.hc, by rw [lookup_putF, if_neg (by decide +kernel)]; exact g.sg_, by rw [lookup_putF, if_neg (by decide +kernel)]; exact g.dy_, by rw [lookup_putF, if_neg (by decide +kernel)]; exact g.lr_, by rw [lookup_putF, if_pos rfl], by rw [lookup_putF, if_neg (by decide +kernel)]; exact g.nl_, by rw [lookup_putF, if_neg (by decide +kernel)]; exact g.pp_, by rw [lookup_putF, if_neg (by decide +kernel)]; exact g.tc_, by rw [lookup_putF, if_neg (by decide +kernel)]; exact g.rk_, fun m hm => by rw [lookup_putF, if_neg ((not_ringF hm).2.2.2.2.1)]; exact g.no m hm⟩
theorem RgO.setNl (g : RgO h sg dy lr nh nl pp tc rk fs) (v : Int) : RgO h sg dy lr nh v pp tc rk (putF "next_loss" (.int v) fs) :=
  ⟨by rw [putF_len g.nl_]; exact g.len, by rw [lookup_putF, if_neg (by decide +kernel)]; exact g.hc, by rw [lookup_putF, if_neg (by decide +kernel)]; exact g.sg_, by rw [lookup_putF, if_neg (by decide +kernel)]; exact g.dy_, by rw [lookup_putF, if_neg (by decide +kernel)]; exact g.lr_, by rw [lookup_putF, if_neg (by decide +kernel)]; exact g.nh_, by rw [lookup_putF, if_pos rfl], by rw [lookup_putF, if_neg (by decide +kernel)]; exact g.pp_, by rw [lookup_putF, if_neg (by decide +kernel)]; exact g.tc_, by rw [lookup_putF, if_neg (by decide +kernel)]; exact g.rk_, fun m hm => by rw [lookup_putF, if_neg ((not_ringF hm).2.2.2.2.2.1)]; exact g.no m hm⟩
theorem RgO.mk9 : RgO h sg dy lr nh nl pp tc rk (putF "reckoning" rk (putF "told_closings" (.ref tc) (putF "paid_parts" (.ref pp) (putF "next_loss" (.int nl) (putF "next_happening" (.int nh) (putF "loss_rows" (.ref lr) (putF "day_of" (.ref dy) (putF "signed" (.ref sg) (putF "house_count" (.int (h : Nat)) []))))))))) := by
  refine ⟨?_, ?_, ?_, ?_, ?_, ?_, ?_, ?_, ?_, ?_, fun m hm => ?_⟩
  · exact Nat.le_trans (length_putF _ _ _) (Nat.succ_le_succ (Nat.le_trans (length_putF _ _ _) (Nat.succ_le_succ (Nat.le_trans (length_putF _ _ _) (Nat.succ_le_succ (Nat.le_trans (length_putF _ _ _) (Nat.succ_le_succ (Nat.le_trans (length_putF _ _ _) (Nat.succ_le_succ (Nat.le_trans (length_putF _ _ _) (Nat.succ_le_succ (Nat.le_trans (length_putF _ _ _) (Nat.succ_le_succ (Nat.le_trans (length_putF _ _ _) (Nat.succ_le_succ (Nat.le_trans (length_putF _ _ _) (Nat.succ_le_succ (Nat.le_refl 0))))))))))))))))))
  · rw [lookup_putF, if_neg (by decide +kernel), lookup_putF, if_neg (by decide +kernel), lookup_putF, if_neg (by decide +kernel), lookup_putF, if_neg (by decide +kernel), lookup_putF, if_neg (by decide +kernel), lookup_putF, if_neg (by decide +kernel), lookup_putF, if_neg (by decide +kernel), lookup_putF, if_neg (by decide +kernel), lookup_putF, if_pos rfl]
  · rw [lookup_putF, if_neg (by decide +kernel), lookup_putF, if_neg (by decide +kernel), lookup_putF, if_neg (by decide +kernel), lookup_putF, if_neg (by decide +kernel), lookup_putF, if_neg (by decide +kernel), lookup_putF, if_neg (by decide +kernel), lookup_putF, if_neg (by decide +kernel), lookup_putF, if_pos rfl]
  · rw [lookup_putF, if_neg (by decide +kernel), lookup_putF, if_neg (by decide +kernel), lookup_putF, if_neg (by decide +kernel), lookup_putF, if_neg (by decide +kernel), lookup_putF, if_neg (by decide +kernel), lookup_putF, if_neg (by decide +kernel), lookup_putF, if_pos rfl]
  · rw [lookup_putF, if_neg (by decide +kernel), lookup_putF, if_neg (by decide +kernel), lookup_putF, if_neg (by decide +kernel), lookup_putF, if_neg (by decide +kernel), lookup_putF, if_neg (by decide +kernel), lookup_putF, if_pos rfl]
  · rw [lookup_putF, if_neg (by decide +kernel), lookup_putF, if_neg (by decide +kernel), lookup_putF, if_neg (by decide +kernel), lookup_putF, if_neg (by decide +kernel), lookup_putF, if_pos rfl]
  · rw [lookup_putF, if_neg (by decide +kernel), lookup_putF, if_neg (by decide +kernel), lookup_putF, if_neg (by decide +kernel), lookup_putF, if_pos rfl]
  · rw [lookup_putF, if_neg (by decide +kernel), lookup_putF, if_neg (by decide +kernel), lookup_putF, if_pos rfl]
  · rw [lookup_putF, if_neg (by decide +kernel), lookup_putF, if_pos rfl]
  · rw [lookup_putF, if_pos rfl]
  · obtain ⟨n0, n1, n2, n3, n4, n5, n6, n7, n8⟩ := not_ringF hm
    rw [lookup_putF, if_neg n8, lookup_putF, if_neg n7, lookup_putF, if_neg n6, lookup_putF, if_neg n5, lookup_putF, if_neg n4, lookup_putF, if_neg n3, lookup_putF, if_neg n2, lookup_putF, if_neg n1, lookup_putF, if_neg n0]; rfl
end
def SameU (H H' : Hp) : Prop := (∀ b xs, H b = some (.tup xs) → H' b = some (.tup xs)) ∧ ∀ b o u, H b = some (.frz o u) → H' b = some (.frz o u)
def SameX (E : List Addr) (H H' : Hp) : Prop := ∀ b o, b ∉ E → H b = some o → H' b = some o
section
variable {K : Frag} {H H' H'' : Hp} {E : List Addr} {a : Addr} {xs : List V} {p : Addr}
theorem SameX.refl : SameX E H H := fun _ _ _ e => e
theorem SameX.trans (s : SameX E H H') (t : SameX E H' H'') : SameX E H H'' := fun b o n e => t b o n (s b o n e)
theorem SameX.of (s : Same H H') : SameX E H H' := fun b o _ e => s b o e
theorem SameX.sub {E2 : List Addr} (s : SameX E H H') (h : ∀ b ∈ E, b ∈ E2) : SameX E2 H H' := fun b o n e => s b o (fun z => n (h b z)) e
theorem SameX.upd {o : HO} (h : a ∈ E) : SameX E H (upd H a o) := fun b o' n e => by
  have nb : b ≠ a := fun z => n (by rw [z]; exact h)
  rw [L2.upd_ne nb]; exact e
theorem Same.u (s : Same H H') : SameU H H' := ⟨fun b xs e => s b _ e, fun b o u e => s b _ e⟩
theorem SameX.u (s : SameX E H H') (h : ∀ b ∈ E, (∀ xs, H b ≠ some (.tup xs)) ∧ ∀ o u, H b ≠ some (.frz o u)) : SameU H H' :=
  ⟨fun b xs e => s b _ (fun z => (h b z).1 xs e) e, fun b o u e => s b _ (fun z => (h b z).2 o u e) e⟩
theorem SqT.u (s : SameU H H') (h : SqT K H a xs) : SqT K H' a xs := by
  rcases h with (h | ⟨o, h⟩) | h
  · exact .inl (.inl (s.1 _ _ h))
  · exact .inl (.inr ⟨o, s.2 _ _ _ h⟩)
  · exact .inr h
end
def tmD : Tm → PyData
  | .stop ho b m L => .tuple [.str "stop", .int ho, .int b, .int m, .tuple (L.map pairD)]
  | .full k ho b m w f l L => .tuple [.str k, .int ho, .int b, .int m, .int w, .int f, .int l, .tuple (L.map pairD)]
  | .other => .none
def okTm : Tm → Prop
  | .stop _ _ _ _ => True
  | .full k _ _ _ _ _ _ _ => k = "share" ∨ k = "layer"
  | .other => False
theorem seenD_ok (bs : List Bool) : shaped (.tuple [.none, .list (bs.map PyData.bool)]) = true ∧ noMix (.tuple [.none, .list (bs.map PyData.bool)]) (.tuple [.none, .list (bs.map PyData.bool)]) = true := by
  constructor
  · rw [shaped, Bool.and_eq_true]
    have := depth_bools bs
    exact ⟨by simp [PyData.canLay0, PyData.canLayAll0, lay_bools], decide_eq_true (by simp only [PyData.depth, PyData.depthAll]; omega)⟩
  · simp [noMix, noMixAll, noMix_bools]
theorem ne_seen {K : Frag} {H : Hp} {Q : VK} {r b q c : Addr} {bs : List Bool} (h1 : SqT K H r [.non, .ref b]) (h2 : SqL K H b (bs.map V.bl)) (h3 : SqT K H q [.non, .ref c]) (h4 : SqL K H c (bs.map V.bl)) (k : Q (.bl false) H) : rNeD K (.ref r) (.ref q) H Q :=
  neD_view (.tup h1 (.cons .non (.cons (.lst h2 (.bools bs)) .nil))) (.tup h3 (.cons .non (.cons (.lst h4 (.bools bs)) .nil))) rfl (seenD_ok bs) k
inductive SgAt (K : Frag) (H : Hp) : List V → List Tm → Prop
  | nil : SgAt K H [] []
  | snoc {us : List V} {ts : List Tm} {q p : Addr} {t : Tm} : SgAt K H us ts → SqT K H q [.ref p, .non] → TmAt K H p t → okTm t → SgAt K H (us ++ [.ref q]) (ts ++ [t])
section
variable {K : Frag} {H H' : Hp} {us : List V} {ts : List Tm}
end
structure Rg0 (C : Addr) (K : Frag) (H : Hp) (x : Addr) (h : Nat) (ts : List Tm) (sg dy lr pp tc : Addr) : Prop where
  ex : ∃ dx fs us ps, H x = some (.ins C dx fs) ∧ RgO h sg dy lr 0 0 pp tc .non fs ∧ H sg = some (.lst us) ∧ SgAt K H us ts ∧ H pp = some (.lst ps) ∧ ps.length = ts.length
  hdy : H dy = some (.dK [])
  hlr : H lr = some (.dK [])
  htc : H tc = some (.lst [])
  np : sg ≠ pp
  nt : sg ≠ tc
section
variable {C : Addr} {K : Frag} {H H' : Hp} {x : Addr} {h : Nat} {ts : List Tm} {sg dy lr pp tc : Addr} {E : List Addr}
end
end Rc
namespace Rc
open PySem PySem.Spec PyProof.Rows L2
abbrev Ls := Int × Int × Int × Int
def dayKV (dz : List (Int × Int)) : List (Key × V) := dz.map fun q => ((Sum.inl q.1 : Key), V.int q.2)
inductive LossAt (K : Frag) (H : Hp) : List (Key × V) → List Ls → Prop
  | nil : LossAt K H [] []
  | cons {n a ho c : Int} {q : Addr} {kvs : List (Key × V)} {lz : List Ls} : SqT K H q [.int a, .int ho, .int c] → LossAt K H kvs lz → LossAt K H ((Sum.inl n, .ref q) :: kvs) ((n, a, ho, c) :: lz)
section
variable {K : Frag} {H H' : Hp} {kvs : List (Key × V)} {lz : List Ls}
theorem LossAt.u (s : SameU H H') (h : LossAt K H kvs lz) : LossAt K H' kvs lz := by
  induction h with
  | nil => exact .nil
  | cons a _ i => exact .cons (SqT.u s a) i
theorem LossAt.len (h : LossAt K H kvs lz) : kvs.length = lz.length := by
  induction h with
  | nil => rfl
  | cons _ _ i => rw [List.length_cons, List.length_cons, i]
theorem LossAt.keys (h : LossAt K H kvs lz) : kvs.map (·.1) = lz.map fun l => (Sum.inl l.1 : Key) := by
  induction h with
  | nil => rfl
  | cons _ _ i => rw [List.map_cons, List.map_cons, i]
theorem LossAt.snoc {n a ho c : Int} {q : Addr} (h : LossAt K H kvs lz) (hq : SqT K H q [.int a, .int ho, .int c]) : LossAt K H (kvs ++ [(Sum.inl n, .ref q)]) (lz ++ [(n, a, ho, c)]) := by
  induction h with
  | nil => exact .cons hq .nil
  | cons b _ i => exact .cons b i
theorem key_mem {n : Int} {kvs : List (Key × V)} {ns : List Int} (e : kvs.map (·.1) = ns.map (Sum.inl : Int → Key)) : (valV kvs (Sum.inl n)).isSome = true ↔ n ∈ ns := by
  constructor
  · intro h
    refine Classical.byContradiction fun hn => ?_
    rw [valV_no (fun z => ?_)] at h
    · cases h
    · rw [e] at z
      obtain ⟨m, hm, z⟩ := List.mem_map.mp z
      exact hn (by rw [← Sum.inl.inj z]; exact hm)
  · intro h
    have hm : (Sum.inl n : Key) ∈ kvs.map (·.1) := by rw [e]; exact List.mem_map.mpr ⟨n, h, rfl⟩
    cases hv : valV kvs (Sum.inl n) with
    | none => exact absurd hm (valV_not hv)
    | some v => rfl
end
theorem dayKV_keys (dz : List (Int × Int)) : (dayKV dz).map (·.1) = (dz.map (·.1)).map (Sum.inl : Int → Key) := by unfold dayKV; rw [List.map_map, List.map_map]; rfl
theorem dayKV_len (dz : List (Int × Int)) : (dayKV dz).length = dz.length := by unfold dayKV; rw [List.length_map]
theorem dayKV_snoc (dz : List (Int × Int)) (n d : Int) : dayKV (dz ++ [(n, d)]) = dayKV dz ++ [(Sum.inl n, .int d)] := by unfold dayKV; rw [List.map_append]; rfl
structure RgD (C : Addr) (K : Frag) (H : Hp) (x : Addr) (h : Nat) (dz : List (Int × Int)) (lz : List Ls) (nh nl : Nat) (sg dy lr pp tc : Addr) : Prop where
  obj : ∃ dx fs, H x = some (.ins C dx fs) ∧ RgO h sg dy lr nh nl pp tc .non fs
  hdy : H dy = some (.dK (dayKV dz))
  hlr : ∃ kvs, H lr = some (.dK kvs) ∧ LossAt K H kvs lz
  dlt : ∀ q ∈ dz, 0 ≤ q.1 ∧ q.1 < (nh : Int)
  llt : ∀ l ∈ lz, 0 ≤ l.1 ∧ l.1 < (nl : Int)
  d12 : dz.length ≤ 12
  l30 : lz.length ≤ 30
  ne : dy ≠ lr
  dnd : (dz.map (·.1)).Nodup
  lnd : (lz.map (·.1)).Nodup
section
variable {C : Addr} {K : Frag} {H H' : Hp} {x : Addr} {h : Nat} {dz : List (Int × Int)} {lz : List Ls} {nh nl : Nat} {sg dy lr pp tc : Addr} {E : List Addr}
theorem RgD.keep (r : RgD C K H x h dz lz nh nl sg dy lr pp tc) (u : SameU H H') (s : SameX E H H') (n : x ∉ E ∧ dy ∉ E ∧ lr ∉ E) : RgD C K H' x h dz lz nh nl sg dy lr pp tc := by
  obtain ⟨dx, fs, a1, a2⟩ := r.obj
  obtain ⟨kvs, b1, b2⟩ := r.hlr
  exact ⟨⟨dx, fs, s _ _ n.1 a1, a2⟩, s _ _ n.2.1 r.hdy, ⟨kvs, s _ _ n.2.2 b1, LossAt.u u b2⟩, r.dlt, r.llt, r.d12, r.l30, r.ne, r.dnd, r.lnd⟩
theorem RgD.same (r : RgD C K H x h dz lz nh nl sg dy lr pp tc) (s : Same H H') : RgD C K H' x h dz lz nh nl sg dy lr pp tc := r.keep (E := []) (Same.u s) (SameX.of s) ⟨by simp, by simp, by simp⟩
theorem Rg0.toD {ts : List Tm} (r : Rg0 C K H x h ts sg dy lr pp tc) (ne : dy ≠ lr) : RgD C K H x h [] [] 0 0 sg dy lr pp tc := by
  obtain ⟨dx, fs, us, ps, a1, a2, _⟩ := r.ex
  exact ⟨⟨dx, fs, a1, a2⟩, r.hdy, ⟨[], r.hlr, .nil⟩, fun q hq => by simp at hq, fun q hq => by simp at hq, by decide, by decide, ne, by simp, by simp⟩
theorem nd_snoc {ns : List Int} {n : Int} (h : ns.Nodup) (hn : ∀ m ∈ ns, m < n) : (ns ++ [n]).Nodup := List.pairwise_append.mpr ⟨h, by simp, fun a ha b hb e => by rw [List.mem_singleton] at hb; have := hn a ha; omega⟩
theorem LossAt.drop {kvs : List (Key × V)} {n : Int} (h : LossAt K H kvs lz) : LossAt K H (dropK kvs (Sum.inl n)) (lz.filter fun l => decide (l.1 ≠ n)) := by
  induction h with
  | nil => exact .nil
  | @cons m a ho c q kvs lz hq _ i =>
    unfold dropK at i ⊢
    by_cases e : m = n
    · rw [List.filter_cons, List.filter_cons, if_neg (by simp [e]), if_neg (by simp [e])]; exact i
    · rw [List.filter_cons, List.filter_cons, if_pos (by simp [e]), if_pos (by simp [e])]; exact .cons hq i
theorem LossAt.get {kvs : List (Key × V)} {n : Int} (h : LossAt K H kvs lz) (hn : n ∈ lz.map (·.1)) : ∃ q a ho c, valV kvs (Sum.inl n) = some (.ref q) ∧ SqT K H q [.int a, .int ho, .int c] ∧ (n, a, ho, c) ∈ lz := by
  induction h with
  | nil => simp at hn
  | @cons m a ho c q kvs lz hq _ i =>
    unfold valV at i ⊢
    rw [List.find?_cons]
    by_cases e : m = n
    · subst e
      exact ⟨q, a, ho, c, by simp, hq, List.mem_cons_self⟩
    · have hn' : n ∈ lz.map (·.1) := by
        rcases List.mem_cons.mp hn with z | z
        · exact absurd z.symm e
        · exact z
      obtain ⟨q', a', ho', c', x1, x2, x3⟩ := i hn'
      exact ⟨q', a', ho', c', by rw [show decide ((Sum.inl m : Key) = Sum.inl n) = false from decide_eq_false (fun z => e (Sum.inl.inj z))]; exact x1, x2, List.mem_cons_of_mem _ x3⟩
theorem LossAt.kz {kvs : List (Key × V)} (h : LossAt K H kvs lz) : ∃ kz : List (Int × V), kvs = kz.map (fun q => ((Sum.inl q.1 : Key), q.2)) ∧ kz.length = lz.length ∧ ∀ q ∈ kz, ∃ r a ho c, q.2 = .ref r ∧ SqT K H r [.int a, .int ho, .int c] := by
  induction h with
  | nil => exact ⟨[], rfl, rfl, fun q hq => by simp at hq⟩
  | @cons m a ho c q kvs lz hq _ i =>
    obtain ⟨kz, e1, e2, e3⟩ := i
    refine ⟨(m, .ref q) :: kz, by rw [e1]; rfl, by rw [List.length_cons, List.length_cons, e2], fun p hp => ?_⟩
    rcases List.mem_cons.mp hp with rfl | hp
    · exact ⟨q, a, ho, c, rfl, hq⟩
    · exact e3 p hp
theorem LossAt.put {kvs : List (Key × V)} {n a ho c : Int} {q : Addr} (h : LossAt K H kvs lz) (hn : n ∈ lz.map (·.1)) (hq : SqT K H q [.int a, .int ho, .int c]) : LossAt K H (putK kvs (Sum.inl n) (.ref q)) (lz.map fun l => if l.1 = n then (n, a, ho, c) else l) := by
  have ek : kvs.map (·.1) = (lz.map (·.1)).map (Sum.inl : Int → Key) := by rw [h.keys, List.map_map]; rfl
  have hany : (kvs.any fun kv => decide (kv.1 = (Sum.inl n : Key))) = true := by
    have hm : (Sum.inl n : Key) ∈ kvs.map (·.1) := by rw [ek]; exact List.mem_map.mpr ⟨n, hn, rfl⟩
    obtain ⟨kv, hkv, e⟩ := List.mem_map.mp hm
    exact List.any_eq_true.mpr ⟨kv, hkv, decide_eq_true e⟩
  unfold putK
  rw [if_pos hany]
  clear hany ek hn
  induction h with
  | nil => exact .nil
  | @cons m a' ho' c' q' kvs lz hq' _ i =>
    rw [List.map_cons, List.map_cons]
    by_cases e : m = n
    · subst e
      simp only [if_true]
      exact .cons hq i
    · have e' : ¬ (Sum.inl m : Key) = Sum.inl n := fun z => e (Sum.inl.inj z)
      simp only [e, e', if_false]
      exact .cons hq' i
theorem filt_len {α : Type} {f : α → Int} {n : Int} : ∀ {l : List α}, (l.map f).Nodup → n ∈ l.map f → (l.filter fun q => decide (f q ≠ n)).length + 1 = l.length
  | [], _, h => by simp at h
  | a :: l, hn, h => by
    rw [List.map_cons, List.nodup_cons] at hn
    by_cases e : f a = n
    · have z : l.filter (fun q => decide (f q ≠ n)) = l := List.filter_eq_self.mpr (fun q hq => decide_eq_true (fun z => hn.1 (by rw [e, ← z]; exact List.mem_map.mpr ⟨q, hq, rfl⟩)))
      rw [List.filter_cons, if_neg (by simp [e]), z, List.length_cons]
    · have h' : n ∈ l.map f := by
        rcases List.mem_cons.mp h with z | z
        · exact absurd z.symm e
        · exact z
      rw [List.filter_cons, if_pos (by simp [e]), List.length_cons, List.length_cons, filt_len hn.2 h']
theorem filt_in {α : Type} {f : α → Int} {n m : Int} {l : List α} (h : m ∈ l.map f) (e : m ≠ n) : m ∈ (l.filter fun q => decide (f q ≠ n)).map f := by
  obtain ⟨q, hq, rfl⟩ := List.mem_map.mp h
  exact List.mem_map.mpr ⟨q, List.mem_filter.mpr ⟨hq, decide_eq_true e⟩, rfl⟩
theorem filt_out {α : Type} {f : α → Int} {n : Int} {l : List α} : ¬ n ∈ (l.filter fun q => decide (f q ≠ n)).map f := fun h => by
  obtain ⟨q, hq, e⟩ := List.mem_map.mp h
  exact of_decide_eq_true (List.mem_filter.mp hq).2 e
end
end Rc
namespace PySem.W.Fast
theorem tw8060432314006859007:True:=⟨⟩
theorem tw11180483726572784597:True:=⟨⟩
theorem tw688031788500018779:True:=⟨⟩
theorem tw14569064375131199224:True:=⟨⟩
theorem tw13164161711712687308:True:=⟨⟩
theorem tw2714020051700632319:True:=⟨⟩
theorem tw1672739438452407994:True:=⟨⟩
theorem tw5684931073461776365:True:=⟨⟩
theorem tw10020261550041957107:True:=⟨⟩
theorem tw9578101418402249437:True:=⟨⟩
theorem tw16017021314705900895:True:=⟨⟩
theorem tw2272175367404107122:True:=⟨⟩
theorem tw1630147807606533651:True:=⟨⟩
theorem tw16349636759845597357:True:=⟨⟩
theorem tw1012810351567879627:True:=⟨⟩
theorem tw1125976666167035276:True:=⟨⟩
theorem tw10631652934888277859:True:=⟨⟩
theorem tw942898745900095300:True:=⟨⟩
theorem tw7017778880184730059:True:=⟨⟩
theorem tw8258321723785141127:True:=⟨⟩
theorem tw7472990312564924848:True:=⟨⟩
theorem tw3094180951274703076:True:=⟨⟩
theorem tw4807094124294623605:True:=⟨⟩
theorem tw11915701897503533115:True:=⟨⟩
theorem tw7372712124115071155:True:=⟨⟩
theorem tw16965182173845736371:True:=⟨⟩
theorem tw7465665796239109232:True:=⟨⟩
theorem tw17445847206920830705:True:=⟨⟩
theorem tw11263953948957849793:True:=⟨⟩
theorem tw1923534971097360568:True:=⟨⟩
theorem tw8983878605841238925:True:=⟨⟩
theorem tw15090161527604075910:True:=⟨⟩
theorem tw17374748007599210215:True:=⟨⟩
theorem tw8292499970569163580:True:=⟨⟩
theorem tw2621395755086620570:True:=⟨⟩
theorem tw6230831333564294073:True:=⟨⟩
theorem tw1046658250134829140:True:=⟨⟩
theorem tw4274758972907292350:True:=⟨⟩
theorem tw2260901508420306853:True:=⟨⟩
theorem tw8316461306095703086:True:=⟨⟩
theorem tw6468515064953449836:True:=⟨⟩
theorem tw14218575657513223569:True:=⟨⟩
theorem tw877035863207160207:True:=⟨⟩
theorem tw6040666378025288264:True:=⟨⟩
theorem tw11841641456760429565:True:=⟨⟩
theorem tw1276165892170309383:True:=⟨⟩
theorem tw5827351534220792884:True:=⟨⟩
theorem tw4255566573432210941:True:=⟨⟩
theorem tw9124416884761565133:True:=⟨⟩
theorem tw12738095380152408998:True:=⟨⟩
theorem tw10056038079951838005:True:=⟨⟩
theorem tw13668704592484472808:True:=⟨⟩
theorem tw756354922618358654:True:=⟨⟩
theorem tw10495149415292172835:True:=⟨⟩
theorem tw15223252449825445556:True:=⟨⟩
theorem tw8663219275563502496:True:=⟨⟩
theorem tw17675028001275029353:True:=⟨⟩
theorem tw5159787923762269050:True:=⟨⟩
theorem tw10181557500776547945:True:=⟨⟩
theorem tw7522003805025172690:True:=⟨⟩
theorem tw4755520842991659689:True:=⟨⟩
theorem tw15429562005968425596:True:=⟨⟩
theorem tw12238317567868124374:True:=⟨⟩
theorem tw6659632883367982620:True:=⟨⟩
theorem tw3431762542925404381:True:=⟨⟩
theorem tw2922892311934187219:True:=⟨⟩
theorem tw10703526552177956026:True:=⟨⟩
theorem tw7449220060579307332:True:=⟨⟩
theorem tw12909362669232341532:True:=⟨⟩
theorem tw4541123877079763700:True:=⟨⟩
theorem tw9836330775841481948:True:=⟨⟩
theorem tw16519316442364688723:True:=⟨⟩
theorem tw10522640397604166551:True:=⟨⟩
theorem tw11123383463358023847:True:=⟨⟩
theorem tw4191205162398328096:True:=⟨⟩
theorem tw13423428035271333080:True:=⟨⟩
theorem tw17286146368139103449:True:=⟨⟩
theorem tw10406131611885493469:True:=⟨⟩
theorem tw9930577405998767155:True:=⟨⟩
theorem tw7247556611753462287:True:=⟨⟩
theorem tw13786142329208699340:True:=⟨⟩
theorem tw10740825350045049337:True:=⟨⟩
theorem tw14562312705606226984:True:=⟨⟩
theorem tw2308210545617733247:True:=⟨⟩
theorem tw11954203694148623472:True:=⟨⟩
theorem tw9684697694236797970:True:=⟨⟩
theorem tw17873294008739703822:True:=⟨⟩
theorem tw15632049093662272126:True:=⟨⟩
theorem tw9361395461481624905:True:=⟨⟩
theorem tw15599037665534043910:True:=⟨⟩
theorem tw8710167912547072507:True:=⟨⟩
theorem tw2263709777260439668:True:=⟨⟩
theorem tw9311244973877752438:True:=⟨⟩
theorem tw3452640966248126454:True:=⟨⟩
theorem tw2263027308031891339:True:=⟨⟩
theorem tw15359539808991805060:True:=⟨⟩
theorem tw8139709732527056078:True:=⟨⟩
theorem tw3605983858810736370:True:=⟨⟩
theorem tw606723186260375038:True:=⟨⟩
theorem tw6911114661397547691:True:=⟨⟩
theorem tw1095798629750356235:True:=⟨⟩
theorem tw3547786477014031428:True:=⟨⟩
theorem tw4983186048784169605:True:=⟨⟩
theorem tw12289113162405069865:True:=⟨⟩
theorem tw5739420396064639079:True:=⟨⟩
theorem tw9084902721941399961:True:=⟨⟩
theorem tw17586182376627197070:True:=⟨⟩
theorem tw2434933246114754491:True:=⟨⟩
theorem tw11211217527896577662:True:=⟨⟩
theorem tw13849156370074983642:True:=⟨⟩
theorem tw13622931006800780557:True:=⟨⟩
theorem tw1314366511385711798:True:=⟨⟩
theorem tw6915414452377309015:True:=⟨⟩
theorem tw6594015440945102471:True:=⟨⟩
theorem tw10487007580473177957:True:=⟨⟩
theorem tw3301014984626950661:True:=⟨⟩
theorem tw2505791935557757857:True:=⟨⟩
theorem tw2773130042168325226:True:=⟨⟩
theorem tw12438135840267339365:True:=⟨⟩
theorem tw11389876932147201752:True:=⟨⟩
theorem tw14222209193755099089:True:=⟨⟩
theorem tw4724870642263386299:True:=⟨⟩
theorem tw4436338592843886726:True:=⟨⟩
theorem tw9512873488703063794:True:=⟨⟩
theorem tw2745761893037067123:True:=⟨⟩
theorem tw17713341398021325679:True:=⟨⟩
theorem tw6114193774967767367:True:=⟨⟩
theorem tw13217673284750219878:True:=⟨⟩
theorem tw3484027028224274276:True:=⟨⟩
theorem tw7717467250572003094:True:=⟨⟩
theorem tw3713394882952971284:True:=⟨⟩
theorem tw5897357062092204830:True:=⟨⟩
theorem tw1876623120670501709:True:=⟨⟩
theorem tw9628252527664503550:True:=⟨⟩
theorem tw10669087579053436355:True:=⟨⟩
theorem tw9325360315219567125:True:=⟨⟩
theorem tw10995489281342305569:True:=⟨⟩
theorem tw8838509797667577229:True:=⟨⟩
theorem tw3825423943912755352:True:=⟨⟩
theorem tw1110088021427824948:True:=⟨⟩
theorem tw17294707988795868706:True:=⟨⟩
theorem tw6457498433119232240:True:=⟨⟩
theorem tw16694744622184730664:True:=⟨⟩
theorem tw5838469563024376105:True:=⟨⟩
theorem tw9039963606681041777:True:=⟨⟩
theorem tw5355505342742900192:True:=⟨⟩
theorem tw4043688591596887576:True:=⟨⟩
theorem tw13966226536790333270:True:=⟨⟩
theorem tw8408102441625471352:True:=⟨⟩
theorem tw13005302828612259767:True:=⟨⟩
theorem tw12469379896447418974:True:=⟨⟩
theorem tw9639044499104472255:True:=⟨⟩
theorem tw17305457068191548908:True:=⟨⟩
theorem tw11450320504668479519:True:=⟨⟩
theorem tw12367126556071099375:True:=⟨⟩
theorem tw15202454785526099589:True:=⟨⟩
theorem tw5570240006844866221:True:=⟨⟩
theorem tw17169355496298088292:True:=⟨⟩
theorem tw9200046512621055242:True:=⟨⟩
theorem tw10742163338902052334:True:=⟨⟩
theorem tw4533094988911192283:True:=⟨⟩
theorem tw7148801523953715301:True:=⟨⟩
theorem tw17743559001726322975:True:=⟨⟩
theorem tw7379466403223249340:True:=⟨⟩
theorem tw2020595238505418087:True:=⟨⟩
theorem tw4235312066590143946:True:=⟨⟩
theorem tw9743294895467617788:True:=⟨⟩
theorem tw8743335823856829429:True:=⟨⟩
theorem tw17408065356656809081:True:=⟨⟩
theorem tw5488928654510446385:True:=⟨⟩
theorem tw4277759779597364491:True:=⟨⟩
theorem tw14675248861080205952:True:=⟨⟩
theorem tw979393068673835790:True:=⟨⟩
theorem tw9773399120745299702:True:=⟨⟩
theorem tw10882676132587761404:True:=⟨⟩
theorem tw3615598807980665274:True:=⟨⟩
theorem tw3245903266161306480:True:=⟨⟩
theorem tw3031316515976755936:True:=⟨⟩
theorem tw7824771440188442293:True:=⟨⟩
theorem tw18423129026473581658:True:=⟨⟩
theorem tw14101789064741005513:True:=⟨⟩
theorem tw3177408827807144716:True:=⟨⟩
theorem tw7355850668034163360:True:=⟨⟩
theorem tw9073168476918797965:True:=⟨⟩
theorem tw3096511856159433644:True:=⟨⟩
theorem tw17857847407385654131:True:=⟨⟩
theorem tw3200724288458915186:True:=⟨⟩
theorem tw2688064526976278065:True:=⟨⟩
theorem tw18165926351737223423:True:=⟨⟩
theorem tw2118839242411407181:True:=⟨⟩
theorem tw9841477864017805925:True:=⟨⟩
theorem tw4568618064052361101:True:=⟨⟩
theorem tw6411021800506474035:True:=⟨⟩
theorem tw11089645291943226889:True:=⟨⟩
theorem tw8980242983444129492:True:=⟨⟩
theorem tw15862700912066280513:True:=⟨⟩
theorem tw1232515233324666048:True:=⟨⟩
theorem tw16868402436868177024:True:=⟨⟩
theorem tw12917993678337015231:True:=⟨⟩
theorem tw9603276157776273165:True:=⟨⟩
theorem tw8833432180094925490:True:=⟨⟩
theorem tw9364116075420018903:True:=⟨⟩
theorem tw5054218436756727848:True:=⟨⟩
theorem tw11483710069124683132:True:=⟨⟩
theorem tw8651542328604395660:True:=⟨⟩
theorem tw269496461879141428:True:=⟨⟩
theorem tw15872518835275146483:True:=⟨⟩
theorem tw11168672883516754552:True:=⟨⟩
theorem tw12872179390268813374:True:=⟨⟩
theorem tw12393837437895582904:True:=⟨⟩
theorem tw13457478798184898252:True:=⟨⟩
theorem tw8621090113904029287:True:=⟨⟩
theorem tw7489081587329354188:True:=⟨⟩
theorem tw6831079466861692811:True:=⟨⟩
theorem tw13508302745885403104:True:=⟨⟩
theorem tw8672077085991944969:True:=⟨⟩
theorem tw2808193412849839051:True:=⟨⟩
theorem tw15794811406604244143:True:=⟨⟩
theorem tw273662044696207214:True:=⟨⟩
theorem tw5658168113780649708:True:=⟨⟩
theorem tw6783517530157796594:True:=⟨⟩
theorem tw541415506393741057:True:=⟨⟩
theorem tw16827726904546954968:True:=⟨⟩
theorem tw4432329309624396872:True:=⟨⟩
theorem tw11421896062038422150:True:=⟨⟩
theorem tw17711654374942244499:True:=⟨⟩
theorem tw1323770128475446394:True:=⟨⟩
theorem tw6689581858863533864:True:=⟨⟩
theorem tw8127632411787912565:True:=⟨⟩
theorem tw17635152459076684247:True:=⟨⟩
theorem tw9359485925351731083:True:=⟨⟩
theorem tw340364100995048212:True:=⟨⟩
theorem tw5368584428689423762:True:=⟨⟩
theorem tw14987112378879364710:True:=⟨⟩
theorem tw8353507351663619425:True:=⟨⟩
theorem tw16956049221316797643:True:=⟨⟩
theorem tw15927810245492755668:True:=⟨⟩
theorem tw1582815599111387101:True:=⟨⟩
theorem tw16119046316075432577:True:=⟨⟩
theorem tw14733486538477820909:True:=⟨⟩
theorem tw13160331101587430856:True:=⟨⟩
theorem tw14311666282319500565:True:=⟨⟩
theorem tw12040481899770617772:True:=⟨⟩
theorem tw2551642465732839502:True:=⟨⟩
theorem tw16587965645781284285:True:=⟨⟩
theorem tw7091251249800025814:True:=⟨⟩
theorem tw2802360602283342536:True:=⟨⟩
theorem tw4996585351316606652:True:=⟨⟩
theorem tw14067265427032572489:True:=⟨⟩
theorem tw9308554651517942947:True:=⟨⟩
theorem tw3001717506355990234:True:=⟨⟩
theorem tw14193747909790714877:True:=⟨⟩
theorem tw3024891452494909072:True:=⟨⟩
theorem tw7142696247814803590:True:=⟨⟩
theorem tw8258034466009591267:True:=⟨⟩
theorem tw10003716064880675370:True:=⟨⟩
theorem tw4327944627318203598:True:=⟨⟩
theorem tw18044928767845399325:True:=⟨⟩
theorem tw10928026158076128956:True:=⟨⟩
theorem tw6155942102286342135:True:=⟨⟩
theorem tw3954626077427102328:True:=⟨⟩
theorem tw6807829988670907922:True:=⟨⟩
theorem tw217168317899432090:True:=⟨⟩
theorem tw3188887388373869626:True:=⟨⟩
theorem tw4786483221944545351:True:=⟨⟩
theorem tw2920443550560867965:True:=⟨⟩
theorem tw11536067240341777258:True:=⟨⟩
theorem tw1277034342103747781:True:=⟨⟩
theorem tw8870658982735414594:True:=⟨⟩
theorem tw6666880532178092631:True:=⟨⟩
theorem tw5683564389586826408:True:=⟨⟩
theorem tw9649370546477197039:True:=⟨⟩
theorem tw5426109303263219625:True:=⟨⟩
theorem tw8253390238939657409:True:=⟨⟩
theorem tw8183348417400369816:True:=⟨⟩
theorem tw8308642398335777090:True:=⟨⟩
theorem tw8701047512218461300:True:=⟨⟩
theorem tw11063081837842654323:True:=⟨⟩
theorem tw12605296331624014334:True:=⟨⟩
theorem tw14347559002708773758:True:=⟨⟩
theorem tw12573644514654912849:True:=⟨⟩
theorem tw2683932174216627287:True:=⟨⟩
theorem tw364989871391897063:True:=⟨⟩
theorem tw561951835084751489:True:=⟨⟩
theorem tw2009761770899984713:True:=⟨⟩
theorem tw16339468501242414982:True:=⟨⟩
theorem tw8203572670829216535:True:=⟨⟩
theorem tw16071181029721773537:True:=⟨⟩
theorem tw7834902940579593918:True:=⟨⟩
theorem tw5921069660923158731:True:=⟨⟩
theorem tw14092306924787814283:True:=⟨⟩
theorem tw16638628887014281771:True:=⟨⟩
theorem tw5676587217422264270:True:=⟨⟩
theorem tw9917076764914601424:True:=⟨⟩
theorem tw12861376883233083988:True:=⟨⟩
theorem tw9269862435203217213:True:=⟨⟩
theorem tw16075218803860589684:True:=⟨⟩
theorem tw1462196405909839149:True:=⟨⟩
theorem tw9236617273439919837:True:=⟨⟩
theorem tw1598442291018112163:True:=⟨⟩
theorem tw12091830506334682920:True:=⟨⟩
theorem tw16716660917726692641:True:=⟨⟩
theorem tw14195841229562372171:True:=⟨⟩
theorem tw9715261274240237201:True:=⟨⟩
theorem tw17008943284756223341:True:=⟨⟩
theorem tw10645968223554440216:True:=⟨⟩
theorem tw15497184973220221341:True:=⟨⟩
theorem tw680382615697744484:True:=⟨⟩
theorem tw6678068348603804150:True:=⟨⟩
theorem tw16011787910303376911:True:=⟨⟩
theorem tw15725487425516072252:True:=⟨⟩
theorem tw14241677703701349784:True:=⟨⟩
theorem tw1059136937762524177:True:=⟨⟩
theorem tw12399184953556699819:True:=⟨⟩
theorem tw2016930447260744718:True:=⟨⟩
theorem tw13775483084548059419:True:=⟨⟩
theorem tw5021816358068026053:True:=⟨⟩
theorem tw13499175748816549447:True:=⟨⟩
theorem tw564169976755329509:True:=⟨⟩
theorem tw16219019132252906892:True:=⟨⟩
theorem tw6554233354735047747:True:=⟨⟩
theorem tw13086604760840363297:True:=⟨⟩
theorem tw15331574363724889005:True:=⟨⟩
theorem tw15875358663157584194:True:=⟨⟩
theorem tw12198063918782274379:True:=⟨⟩
theorem tw13403659369259534694:True:=⟨⟩
theorem tw13782674354076932421:True:=⟨⟩
theorem tw7369487149381120436:True:=⟨⟩
theorem tw16867409234477511477:True:=⟨⟩
theorem tw12396069998456810296:True:=⟨⟩
theorem tw3120849308729655443:True:=⟨⟩
theorem tw9115672086396185954:True:=⟨⟩
theorem tw9700837177706379394:True:=⟨⟩
theorem tw3307123295793358267:True:=⟨⟩
theorem tw4430764546816705874:True:=⟨⟩
theorem tw15597557839723251254:True:=⟨⟩
theorem tw7652196005076320013:True:=⟨⟩
theorem tw7933868937970734802:True:=⟨⟩
theorem tw16865083622880388291:True:=⟨⟩
theorem tw13809269941830596074:True:=⟨⟩
theorem tw14413781945633522015:True:=⟨⟩
theorem tw1839122447264417955:True:=⟨⟩
theorem tw9087222279266827132:True:=⟨⟩
theorem tw907577402244593701:True:=⟨⟩
theorem tw877864983546093613:True:=⟨⟩
theorem tw8642564000999037397:True:=⟨⟩
theorem tw8493204092523071092:True:=⟨⟩
theorem tw6205321829780738286:True:=⟨⟩
theorem tw4074369108803100496:True:=⟨⟩
theorem tw3940699159135556558:True:=⟨⟩
theorem tw3562890430515138813:True:=⟨⟩
theorem tw2567889576329858881:True:=⟨⟩
theorem tw17486987275544907411:True:=⟨⟩
theorem tw15668634628931660638:True:=⟨⟩
theorem tw14046325315041061411:True:=⟨⟩
theorem tw13035588126299486497:True:=⟨⟩
theorem tw12717057332578929067:True:=⟨⟩
theorem tw12547931144576376675:True:=⟨⟩
theorem tw12277094316860919434:True:=⟨⟩
theorem tw11052785262246325897:True:=⟨⟩
theorem tw10883073546357716987:True:=⟨⟩
theorem tw9736545847368913614:True:=⟨⟩
theorem tw16461529270905204025:True:=⟨⟩
theorem tw17013838486149242675:True:=⟨⟩
theorem tw7570313417166869478:True:=⟨⟩
theorem tw10591175816860066132:True:=⟨⟩
theorem tw3821193128667131086:True:=⟨⟩
theorem tw561748985683227792:True:=⟨⟩
theorem tw17748764249204088717:True:=⟨⟩
theorem tw9720674109643427347:True:=⟨⟩
theorem tw4407900272332920486:True:=⟨⟩
theorem tw16658715971544165466:True:=⟨⟩
theorem tw8472707964341042822:True:=⟨⟩
theorem tw11051561761151077069:True:=⟨⟩
theorem tw80216759356472996:True:=⟨⟩
theorem tw17914919569717880364:True:=⟨⟩
theorem tw392458143805811532:True:=⟨⟩
theorem tw2353462112344856595:True:=⟨⟩
theorem tw4198748502033175751:True:=⟨⟩
theorem tw10924357861579991703:True:=⟨⟩
theorem tw14656290122852433076:True:=⟨⟩
theorem tw7218824414008059322:True:=⟨⟩
theorem tw18242921645018094715:True:=⟨⟩
theorem tw10789796144919565782:True:=⟨⟩
theorem tw16251098334486856668:True:=⟨⟩
theorem tw6777847594678335013:True:=⟨⟩
theorem tw6682125343325674118:True:=⟨⟩
theorem tw34272925946488989:True:=⟨⟩
theorem tw129772624379782891:True:=⟨⟩
theorem tw10608618182197815591:True:=⟨⟩
theorem tw1320630274817837999:True:=⟨⟩
theorem tw10929245365111634604:True:=⟨⟩
theorem tw9010277499802185607:True:=⟨⟩
theorem tw8987908919304140776:True:=⟨⟩
theorem tw17975476519923551114:True:=⟨⟩
theorem tw15537431674528926073:True:=⟨⟩
theorem tw14465000806273684649:True:=⟨⟩
theorem tw13334376848662296215:True:=⟨⟩
theorem tw14976806211271569732:True:=⟨⟩
theorem tw15559240316868815426:True:=⟨⟩
theorem tw1051373485247811868:True:=⟨⟩
theorem tw4319769685566099374:True:=⟨⟩
theorem tw15062718237249318939:True:=⟨⟩
theorem tw10074647607901055288:True:=⟨⟩
theorem tw1883854114973490388:True:=⟨⟩
theorem tw3582148111716514364:True:=⟨⟩
theorem tw1221537220759554351:True:=⟨⟩
theorem tw10568116407047988491:True:=⟨⟩
theorem tw390182898295075413:True:=⟨⟩
theorem tw2337303080125884798:True:=⟨⟩
theorem tw148307974273699333:True:=⟨⟩
theorem tw9747178414465672930:True:=⟨⟩
theorem tw5418133463620187250:True:=⟨⟩
theorem tw1327711140551109212:True:=⟨⟩
theorem tw3866754029878317577:True:=⟨⟩
theorem tw17667068669087375390:True:=⟨⟩
theorem tw9641422803359711898:True:=⟨⟩
theorem tw16419040247968829546:True:=⟨⟩
theorem tw15611938722423361823:True:=⟨⟩
theorem tw15541081150916742869:True:=⟨⟩
theorem tw9845142683786063576:True:=⟨⟩
theorem tw17007099479111445048:True:=⟨⟩
theorem tw13643991981475228657:True:=⟨⟩
theorem tw2616075441824982594:True:=⟨⟩
theorem tw1276072783640366974:True:=⟨⟩
theorem tw10722963748800171906:True:=⟨⟩
theorem tw17064699532302733261:True:=⟨⟩
theorem tw8502027565991687788:True:=⟨⟩
theorem tw7247908067557710082:True:=⟨⟩
theorem tw3650007535181876430:True:=⟨⟩
theorem tw16085518820449101511:True:=⟨⟩
theorem tw8150411760384404311:True:=⟨⟩
theorem tw18204210395196132747:True:=⟨⟩
theorem tw13623386488325867482:True:=⟨⟩
theorem tw12719262701178759282:True:=⟨⟩
theorem tw11244003728453853260:True:=⟨⟩
theorem tw9797785474514232950:True:=⟨⟩
theorem tw9385650915152071724:True:=⟨⟩
theorem tw8672809753705311213:True:=⟨⟩
theorem tw16257852847398930247:True:=⟨⟩
theorem tw559934719839710802:True:=⟨⟩
theorem tw16143166542980399020:True:=⟨⟩
theorem tw1514547128862035656:True:=⟨⟩
theorem tw2675963013538452659:True:=⟨⟩
theorem tw17029331126177560970:True:=⟨⟩
theorem tw9152720385238470223:True:=⟨⟩
theorem tw5636376510823468151:True:=⟨⟩
theorem tw17624757121753202450:True:=⟨⟩
theorem tw16854636941359099984:True:=⟨⟩
theorem tw15216147280488044452:True:=⟨⟩
theorem tw12286011520266898002:True:=⟨⟩
theorem tw11378061127477426892:True:=⟨⟩
theorem tw8463660403060871524:True:=⟨⟩
theorem tw15095175728852953879:True:=⟨⟩
theorem tw8553386142082686088:True:=⟨⟩
theorem tw5709375600645657436:True:=⟨⟩
theorem tw1699222957461726612:True:=⟨⟩
theorem tw15611606859677577557:True:=⟨⟩
theorem tw2580449292059323307:True:=⟨⟩
theorem tw2107301168450105337:True:=⟨⟩
theorem tw7137611399319563135:True:=⟨⟩
theorem tw14691869792528140164:True:=⟨⟩
theorem tw11226597878830777650:True:=⟨⟩
theorem tw1054445710893972423:True:=⟨⟩
theorem tw8306169171873742495:True:=⟨⟩
theorem tw6857503124187429220:True:=⟨⟩
theorem tw3416981631360203104:True:=⟨⟩
theorem tw16387111920429957248:True:=⟨⟩
theorem tw14598410268001544390:True:=⟨⟩
theorem tw10232814361804743781:True:=⟨⟩
theorem tw791674234583645311:True:=⟨⟩
theorem tw17790576461863705485:True:=⟨⟩
theorem tw16889387736871905896:True:=⟨⟩
theorem tw10587890850048807622:True:=⟨⟩
theorem tw10180075585165576545:True:=⟨⟩
theorem tw2183772522666493217:True:=⟨⟩
theorem tw13302283173063342319:True:=⟨⟩
theorem tw10239167656125433827:True:=⟨⟩
theorem tw9734161863190624787:True:=⟨⟩
theorem tw2674337815911426185:True:=⟨⟩
theorem tw2408229287418809514:True:=⟨⟩
theorem tw15216793834616890597:True:=⟨⟩
theorem tw1462428500500966159:True:=⟨⟩
theorem tw1446782863347838678:True:=⟨⟩
theorem tw8521240739502733015:True:=⟨⟩
theorem tw1196836736005067038:True:=⟨⟩
theorem tw9250042666086447942:True:=⟨⟩
theorem tw394221731069251206:True:=⟨⟩
theorem tw9605499398969238635:True:=⟨⟩
theorem tw15477703736949580480:True:=⟨⟩
theorem tw6843436606197437535:True:=⟨⟩
theorem tw14384755255186524248:True:=⟨⟩
theorem tw12155520570099119864:True:=⟨⟩
theorem tw9449088625832867071:True:=⟨⟩
theorem tw6732986558635580692:True:=⟨⟩
theorem tw5170810020856532323:True:=⟨⟩
theorem tw4242793686716056245:True:=⟨⟩
theorem tw10765068522988480754:True:=⟨⟩
theorem tw9965394016817775121:True:=⟨⟩
theorem tw7259342958635642526:True:=⟨⟩
theorem tw8333406072562210386:True:=⟨⟩
theorem tw11437682715928579210:True:=⟨⟩
theorem tw14720859847076796206:True:=⟨⟩
theorem tw10326537105294899794:True:=⟨⟩
theorem tw13083591710151579003:True:=⟨⟩
theorem tw17779869105114575688:True:=⟨⟩
theorem tw16936882233742768858:True:=⟨⟩
theorem tw647157120946816414:True:=⟨⟩
theorem tw15232468510294891146:True:=⟨⟩
theorem tw10995444034101593466:True:=⟨⟩
theorem tw8033139603684669576:True:=⟨⟩
theorem tw5499692518860158268:True:=⟨⟩
theorem tw2576033360280404757:True:=⟨⟩
theorem tw18396695509465800081:True:=⟨⟩
theorem tw7812086176737459287:True:=⟨⟩
theorem tw15482330462849583711:True:=⟨⟩
theorem tw9823927480137238305:True:=⟨⟩
theorem tw15737901996806799572:True:=⟨⟩
theorem tw11192581839152781251:True:=⟨⟩
theorem tw10605532555782008707:True:=⟨⟩
theorem tw1903646585779244876:True:=⟨⟩
theorem tw8542386469774582293:True:=⟨⟩
theorem tw7857622770960319381:True:=⟨⟩
theorem tw16333668815953291555:True:=⟨⟩
theorem tw5936242683763128201:True:=⟨⟩
theorem tw4052115912084359851:True:=⟨⟩
theorem tw3779699250513514501:True:=⟨⟩
theorem tw16175884265497826937:True:=⟨⟩
theorem tw10768417963013609981:True:=⟨⟩
theorem tw9640577924022627611:True:=⟨⟩
theorem tw7970216069036180151:True:=⟨⟩
theorem tw236937161936515692:True:=⟨⟩
theorem tw17743420298461096664:True:=⟨⟩
theorem tw12813364476954021567:True:=⟨⟩
theorem tw11890458588936358234:True:=⟨⟩
theorem tw16339906928050694879:True:=⟨⟩
theorem tw5463724997302757010:True:=⟨⟩
theorem tw2053149899008526331:True:=⟨⟩
theorem tw1643171003323151706:True:=⟨⟩
theorem tw13088060411773419124:True:=⟨⟩
theorem tw11379578487388801546:True:=⟨⟩
theorem tw690380232226475352:True:=⟨⟩
theorem tw15271107890286243173:True:=⟨⟩
theorem tw4689100940337049151:True:=⟨⟩
theorem tw1735621235335787450:True:=⟨⟩
theorem tw9970445234198272816:True:=⟨⟩
theorem tw7316047375014853781:True:=⟨⟩
theorem tw2528643950703800552:True:=⟨⟩
theorem tw37753194122669791:True:=⟨⟩
theorem tw7942257453246969835:True:=⟨⟩
theorem tw243833962019136750:True:=⟨⟩
theorem tw1282505572192513968:True:=⟨⟩
theorem tw15925504906768054228:True:=⟨⟩
theorem tw12880719411013265574:True:=⟨⟩
theorem tw8927191263822555422:True:=⟨⟩
theorem tw3602813051148803004:True:=⟨⟩
theorem tw14418749837210217939:True:=⟨⟩
theorem tw16052432644086302426:True:=⟨⟩
theorem tw12634780195636364129:True:=⟨⟩
theorem tw2941807768079688355:True:=⟨⟩
theorem tw12644631099538628068:True:=⟨⟩
theorem tw1024154308559136383:True:=⟨⟩
theorem tw9802684411812766801:True:=⟨⟩
theorem tw4052546464157495138:True:=⟨⟩
theorem tw14017154026170684727:True:=⟨⟩
theorem tw12246044417530087668:True:=⟨⟩
theorem tw2262750641535597686:True:=⟨⟩
theorem tw11819806567624279659:True:=⟨⟩
theorem tw4416301200988011172:True:=⟨⟩
theorem tw18088156029546301249:True:=⟨⟩
theorem tw17857322157437107197:True:=⟨⟩
theorem tw13269112971829628115:True:=⟨⟩
theorem tw16060024687569834640:True:=⟨⟩
theorem tw8552630657826359243:True:=⟨⟩
theorem tw8224563487729199215:True:=⟨⟩
theorem tw4380827621157084600:True:=⟨⟩
theorem tw12188590895202708799:True:=⟨⟩
theorem tw12071508360028018873:True:=⟨⟩
theorem tw11737120494419358822:True:=⟨⟩
theorem tw8792955280414855258:True:=⟨⟩
theorem tw6698010010881553261:True:=⟨⟩
theorem tw17917442114911863924:True:=⟨⟩
theorem tw16354895720135727491:True:=⟨⟩
theorem tw13556810995551830253:True:=⟨⟩
theorem tw278022208527787746:True:=⟨⟩
theorem tw16764184666387179955:True:=⟨⟩
theorem tw14860096006479429865:True:=⟨⟩
theorem tw18380743417362704732:True:=⟨⟩
theorem tw805279408699614888:True:=⟨⟩
theorem tw2810630096795966517:True:=⟨⟩
theorem tw9451510220604786107:True:=⟨⟩
theorem tw15111387101029011469:True:=⟨⟩
theorem tw11626993445397069636:True:=⟨⟩
theorem tw4012751858498385409:True:=⟨⟩
theorem tw10933704185610656880:True:=⟨⟩
theorem tw16201881305431196736:True:=⟨⟩
theorem tw6877497121771877086:True:=⟨⟩
theorem tw14363538850808123778:True:=⟨⟩
theorem tw6400189276857825447:True:=⟨⟩
theorem tw5838524828539354653:True:=⟨⟩
theorem tw2068518925712616744:True:=⟨⟩
theorem tw7988763010212287195:True:=⟨⟩
theorem tw2802109337846624146:True:=⟨⟩
theorem tw11965480415966343933:True:=⟨⟩
theorem tw5894702579030976903:True:=⟨⟩
theorem tw583814435605849120:True:=⟨⟩
theorem tw38989271754487066:True:=⟨⟩
theorem tw14997278504123458295:True:=⟨⟩
theorem tw9719858665720199309:True:=⟨⟩
theorem tw8712201459847220906:True:=⟨⟩
theorem tw7295521335857423780:True:=⟨⟩
theorem tw4787651645564012560:True:=⟨⟩
theorem tw2515491220996197871:True:=⟨⟩
theorem tw17846179527789838871:True:=⟨⟩
theorem tw15425539708444842427:True:=⟨⟩
theorem tw1294248593211909053:True:=⟨⟩
theorem tw1180347590598510751:True:=⟨⟩
theorem tw11312246221207372072:True:=⟨⟩
theorem tw9972421564001203402:True:=⟨⟩
theorem tw8748497149949504159:True:=⟨⟩
theorem tw2369635033022426145:True:=⟨⟩
theorem tw16995945524629167725:True:=⟨⟩
theorem tw9184451953753423972:True:=⟨⟩
theorem tw8489860951456373024:True:=⟨⟩
theorem tw8148169431181519334:True:=⟨⟩
theorem tw7519685824497257950:True:=⟨⟩
theorem tw7436893068236817932:True:=⟨⟩
theorem tw7323761863586374852:True:=⟨⟩
theorem tw6612233129497965692:True:=⟨⟩
theorem tw6259558696807246089:True:=⟨⟩
theorem tw6242311445493588859:True:=⟨⟩
theorem tw4701947220037415099:True:=⟨⟩
theorem tw3960460907368455279:True:=⟨⟩
theorem tw2118519899436497834:True:=⟨⟩
theorem tw17705732012529757588:True:=⟨⟩
theorem tw17132023078649109608:True:=⟨⟩
theorem tw16465277451564909256:True:=⟨⟩
theorem tw15987075908605754433:True:=⟨⟩
theorem tw15500196391149077065:True:=⟨⟩
theorem tw15139841786615861174:True:=⟨⟩
theorem tw14169706195533098310:True:=⟨⟩
theorem tw14160119046062144780:True:=⟨⟩
theorem tw1337590100665739041:True:=⟨⟩
theorem tw13004078178270894149:True:=⟨⟩
theorem tw11173215975859808394:True:=⟨⟩
theorem tw1095635779322099044:True:=⟨⟩
theorem tw10728665476653152660:True:=⟨⟩
theorem tw10565361598426278900:True:=⟨⟩
theorem tw10483684068282434762:True:=⟨⟩
theorem tw10129481102735128952:True:=⟨⟩
theorem tw10023062780699417452:True:=⟨⟩
theorem tw11889171147803201014:True:=⟨⟩
theorem tw7049472243299984009:True:=⟨⟩
theorem tw12788395103200833957:True:=⟨⟩
theorem tw977938403178760331:True:=⟨⟩
theorem tw1878904502791055942:True:=⟨⟩
theorem tw16179713252223533259:True:=⟨⟩
theorem tw1592370496993775117:True:=⟨⟩
theorem tw1337570729416434254:True:=⟨⟩
theorem tw2183513473470591248:True:=⟨⟩
theorem tw17863648044071928616:True:=⟨⟩
theorem tw4892562795405557783:True:=⟨⟩
theorem tw2944864852087397975:True:=⟨⟩
theorem tw5901765587512748629:True:=⟨⟩
theorem tw5550092332826546932:True:=⟨⟩
theorem tw16009643129844131171:True:=⟨⟩
theorem tw14185622796444812214:True:=⟨⟩
theorem tw10509257106901269641:True:=⟨⟩
theorem tw18408161403584079096:True:=⟨⟩
theorem tw14226800101076740226:True:=⟨⟩
theorem tw11838163800435020580:True:=⟨⟩
theorem tw15272608831530811776:True:=⟨⟩
theorem tw8260056930917892574:True:=⟨⟩
theorem tw3327805746354370104:True:=⟨⟩
theorem tw1359612579062317970:True:=⟨⟩
theorem tw11771688244740639177:True:=⟨⟩
theorem tw8310975545886115483:True:=⟨⟩
theorem tw8049602050859549061:True:=⟨⟩
theorem tw7617988994877862388:True:=⟨⟩
theorem tw754721428711910505:True:=⟨⟩
theorem tw6738983292278032760:True:=⟨⟩
theorem tw4937038864589530155:True:=⟨⟩
theorem tw4422204180449218671:True:=⟨⟩
theorem tw3942295032287806117:True:=⟨⟩
theorem tw3867214665732946168:True:=⟨⟩
theorem tw2731634744042107322:True:=⟨⟩
theorem tw16076885641263356599:True:=⟨⟩
theorem tw15633502824679537130:True:=⟨⟩
theorem tw15428322590112007435:True:=⟨⟩
theorem tw12579336093302413798:True:=⟨⟩
theorem tw12044575753162266612:True:=⟨⟩
theorem tw10403089301723603099:True:=⟨⟩
theorem tw2471247153196277004:True:=⟨⟩
theorem tw14056117946337380801:True:=⟨⟩
theorem tw12344510810688670987:True:=⟨⟩
theorem tw15954558921042841804:True:=⟨⟩
theorem tw10317088442053389166:True:=⟨⟩
theorem tw9469382216105274178:True:=⟨⟩
theorem tw9366104831806006410:True:=⟨⟩
theorem tw8979728123860705662:True:=⟨⟩
theorem tw8183450883024284923:True:=⟨⟩
theorem tw8119177338795526984:True:=⟨⟩
theorem tw6769411092101719460:True:=⟨⟩
theorem tw6274241363808804743:True:=⟨⟩
theorem tw568826598085127268:True:=⟨⟩
theorem tw5397951795404674107:True:=⟨⟩
theorem tw5389198863934753330:True:=⟨⟩
theorem tw526922697725980136:True:=⟨⟩
theorem tw5070985195246542445:True:=⟨⟩
theorem tw4950763622080175212:True:=⟨⟩
theorem tw4108351910262342002:True:=⟨⟩
theorem tw3964831316222577098:True:=⟨⟩
theorem tw1851901476806243580:True:=⟨⟩
theorem tw17450949018235744923:True:=⟨⟩
theorem tw16901422841314717988:True:=⟨⟩
theorem tw15223605284857423081:True:=⟨⟩
theorem tw15142800714963287341:True:=⟨⟩
theorem tw1494926596941721541:True:=⟨⟩
theorem tw14281771494280217223:True:=⟨⟩
theorem tw13984493227921524516:True:=⟨⟩
theorem tw12714196034128567631:True:=⟨⟩
theorem tw12544010947084731608:True:=⟨⟩
theorem tw11829927310860575954:True:=⟨⟩
theorem tw11221239051400322213:True:=⟨⟩
theorem tw8459351936808270884:True:=⟨⟩
theorem tw7859551876178563853:True:=⟨⟩
theorem tw7784452194891099348:True:=⟨⟩
theorem tw7715341478445622617:True:=⟨⟩
theorem tw5150928504306563985:True:=⟨⟩
theorem tw4360529275084274995:True:=⟨⟩
theorem tw3843725051124832598:True:=⟨⟩
theorem tw3481395147004434149:True:=⟨⟩
theorem tw3178484729263528513:True:=⟨⟩
theorem tw2493252064064001736:True:=⟨⟩
theorem tw2287050311733282504:True:=⟨⟩
theorem tw18027824631397041901:True:=⟨⟩
theorem tw17055293245041355263:True:=⟨⟩
theorem tw16299556038022433117:True:=⟨⟩
theorem tw15743099996066508144:True:=⟨⟩
theorem tw15245052272336504741:True:=⟨⟩
theorem tw15103731686540478935:True:=⟨⟩
theorem tw14960644566690402759:True:=⟨⟩
theorem tw14442471964606625853:True:=⟨⟩
theorem tw14441998571960242487:True:=⟨⟩
theorem tw12544077266065506334:True:=⟨⟩
theorem tw11545922921016680774:True:=⟨⟩
theorem tw11508536683306261431:True:=⟨⟩
theorem tw10395621931272409115:True:=⟨⟩
theorem tw10276760670166896269:True:=⟨⟩
theorem tw10003262471531115745:True:=⟨⟩
theorem tw18206455083818035320:True:=⟨⟩
theorem tw2583205847134662730:True:=⟨⟩
theorem tw2530974124264361694:True:=⟨⟩
theorem tw8265475936013433189:True:=⟨⟩
theorem tw8130586394701066668:True:=⟨⟩
theorem tw7931292719648528112:True:=⟨⟩
theorem tw7863794443065842285:True:=⟨⟩
theorem tw7655107958190065724:True:=⟨⟩
theorem tw7394511716734727557:True:=⟨⟩
theorem tw7274818805274617980:True:=⟨⟩
theorem tw62566320547190777:True:=⟨⟩
theorem tw6073515318091576984:True:=⟨⟩
theorem tw3982219017807394945:True:=⟨⟩
theorem tw3054982794090542270:True:=⟨⟩
theorem tw1806383196626694676:True:=⟨⟩
theorem tw17390458387925672045:True:=⟨⟩
theorem tw16923122245050313500:True:=⟨⟩
theorem tw15457369740136519029:True:=⟨⟩
theorem tw13638445951027541962:True:=⟨⟩
theorem tw12679853762957188032:True:=⟨⟩
theorem tw12443458203780899788:True:=⟨⟩
theorem tw12099505637306934203:True:=⟨⟩
theorem tw11678304633812211710:True:=⟨⟩
theorem tw10434097522646476603:True:=⟨⟩
theorem tw9731814703225037706:True:=⟨⟩
theorem tw9698127817157326139:True:=⟨⟩
theorem tw9670239765019335558:True:=⟨⟩
theorem tw889153630097330587:True:=⟨⟩
theorem tw8862363571496392999:True:=⟨⟩
theorem tw8245119314516490376:True:=⟨⟩
theorem tw7953294208035100575:True:=⟨⟩
theorem tw7869108998563457078:True:=⟨⟩
theorem tw7253809122785430904:True:=⟨⟩
theorem tw5805734836425333749:True:=⟨⟩
theorem tw5737562978244347501:True:=⟨⟩
theorem tw5575307777981547314:True:=⟨⟩
theorem tw5376067250738342930:True:=⟨⟩
theorem tw5154235359518463678:True:=⟨⟩
theorem tw5114041149363824117:True:=⟨⟩
theorem tw4437328597035425040:True:=⟨⟩
theorem tw2340805969818861965:True:=⟨⟩
theorem tw16505010001736750236:True:=⟨⟩
theorem tw16338653941334053259:True:=⟨⟩
theorem tw15410245520071515981:True:=⟨⟩
theorem tw14373198954241331488:True:=⟨⟩
theorem tw14244498632582282414:True:=⟨⟩
theorem tw12949957819036265175:True:=⟨⟩
theorem tw12847742015617339151:True:=⟨⟩
theorem tw11838818017417407275:True:=⟨⟩
theorem tw10009922977259116047:True:=⟨⟩
theorem tw9987614542427927684:True:=⟨⟩
theorem tw9840967946487747341:True:=⟨⟩
theorem tw9766062610970152488:True:=⟨⟩
theorem tw9745482568377027769:True:=⟨⟩
theorem tw9644577367539027299:True:=⟨⟩
theorem tw9638215271069123753:True:=⟨⟩
theorem tw9556397894911971853:True:=⟨⟩
theorem tw9556386927757296862:True:=⟨⟩
theorem tw9531301729646909370:True:=⟨⟩
theorem tw9435538759584726263:True:=⟨⟩
theorem tw9414400099951492445:True:=⟨⟩
theorem tw9365794611232934696:True:=⟨⟩
theorem tw9293978582805898682:True:=⟨⟩
theorem tw9191028436159305409:True:=⟨⟩
theorem tw9153639825622250326:True:=⟨⟩
theorem tw9149823083575155586:True:=⟨⟩
theorem tw913088172327541891:True:=⟨⟩
theorem tw9015609104090491543:True:=⟨⟩
theorem tw8803917897394326659:True:=⟨⟩
theorem tw878000563801541525:True:=⟨⟩
theorem tw8705070307268259362:True:=⟨⟩
theorem tw86983936337256062:True:=⟨⟩
theorem tw865520403915543722:True:=⟨⟩
theorem tw8602035705429688930:True:=⟨⟩
theorem tw8593219259530916266:True:=⟨⟩
theorem tw8563123302812465056:True:=⟨⟩
theorem tw8559903872886107565:True:=⟨⟩
theorem tw8452137364102862464:True:=⟨⟩
theorem tw8447221754050144964:True:=⟨⟩
theorem tw8359845549454923672:True:=⟨⟩
theorem tw7892132294586642108:True:=⟨⟩
theorem tw7879690724604469690:True:=⟨⟩
theorem tw7870447373098163638:True:=⟨⟩
theorem tw7745888490142950145:True:=⟨⟩
theorem tw7644936512955107298:True:=⟨⟩
theorem tw7514386368491407590:True:=⟨⟩
theorem tw7513002255346445564:True:=⟨⟩
theorem tw7470361234330966834:True:=⟨⟩
theorem tw744791476862272253:True:=⟨⟩
theorem tw7403065809835625293:True:=⟨⟩
theorem tw7401228893421368222:True:=⟨⟩
theorem tw7386727547416315687:True:=⟨⟩
theorem tw7359141328782567607:True:=⟨⟩
theorem tw7288385017297245983:True:=⟨⟩
theorem tw7164909282909500648:True:=⟨⟩
theorem tw7058807816002317699:True:=⟨⟩
theorem tw7053566210400891533:True:=⟨⟩
theorem tw6996146076800527800:True:=⟨⟩
theorem tw6906371137861076802:True:=⟨⟩
theorem tw687229054790545074:True:=⟨⟩
theorem tw6831986678680536840:True:=⟨⟩
theorem tw6831782447460271051:True:=⟨⟩
theorem tw6827579499677953429:True:=⟨⟩
theorem tw674212132683172268:True:=⟨⟩
theorem tw6728067021770589493:True:=⟨⟩
theorem tw6674866835619831488:True:=⟨⟩
theorem tw6652073513210567427:True:=⟨⟩
theorem tw6293311971367741273:True:=⟨⟩
theorem tw6213173832617157880:True:=⟨⟩
theorem tw6188913458218011123:True:=⟨⟩
theorem tw6050807343025317912:True:=⟨⟩
theorem tw5989619901766514907:True:=⟨⟩
theorem tw595953488597697754:True:=⟨⟩
theorem tw5830754472975432728:True:=⟨⟩
theorem tw5770536168084166669:True:=⟨⟩
theorem tw5759602935617973144:True:=⟨⟩
theorem tw5624774571076622819:True:=⟨⟩
theorem tw5600931813554794965:True:=⟨⟩
theorem tw5497357612405426123:True:=⟨⟩
theorem tw5423472454928379727:True:=⟨⟩
theorem tw5328390141450875598:True:=⟨⟩
theorem tw5327693643277628070:True:=⟨⟩
theorem tw5235926840900590497:True:=⟨⟩
theorem tw5204799920337608384:True:=⟨⟩
theorem tw5191943293222030091:True:=⟨⟩
theorem tw5175529291634218042:True:=⟨⟩
theorem tw5154142249690803224:True:=⟨⟩
theorem tw5123035305648067921:True:=⟨⟩
theorem tw5052843515962004439:True:=⟨⟩
theorem tw4944753896036549226:True:=⟨⟩
theorem tw4876830235835449674:True:=⟨⟩
theorem tw4745159810466423232:True:=⟨⟩
theorem tw4724415548742300616:True:=⟨⟩
theorem tw4651302041132684137:True:=⟨⟩
theorem tw461165263081867449:True:=⟨⟩
theorem tw4600200807591117437:True:=⟨⟩
theorem tw4247681931662190550:True:=⟨⟩
theorem tw4095422073789697628:True:=⟨⟩
theorem tw4029479793651247185:True:=⟨⟩
theorem tw3975122572849835085:True:=⟨⟩
theorem tw3940647896584474408:True:=⟨⟩
theorem tw3864904369377190486:True:=⟨⟩
theorem tw3861283981270099270:True:=⟨⟩
theorem tw3858996823087493844:True:=⟨⟩
theorem tw3853177390388026177:True:=⟨⟩
theorem tw3639223883534420870:True:=⟨⟩
theorem tw3622411406143261508:True:=⟨⟩
theorem tw3598178915154404540:True:=⟨⟩
theorem tw3543574342803442877:True:=⟨⟩
theorem tw3533379364331054294:True:=⟨⟩
theorem tw3435976884107417863:True:=⟨⟩
theorem tw3411404562926374430:True:=⟨⟩
theorem tw3408253119687295530:True:=⟨⟩
theorem tw3375633919264014186:True:=⟨⟩
theorem tw3371794056449136545:True:=⟨⟩
theorem tw3327682795577989999:True:=⟨⟩
theorem tw3282784505769057279:True:=⟨⟩
theorem tw3259578202503105573:True:=⟨⟩
theorem tw3250560191882420070:True:=⟨⟩
theorem tw3186705364540398570:True:=⟨⟩
theorem tw3135665475782775686:True:=⟨⟩
theorem tw312590575376680066:True:=⟨⟩
theorem tw3050100952876031467:True:=⟨⟩
theorem tw2955294013000750866:True:=⟨⟩
theorem tw2926991634473450875:True:=⟨⟩
theorem tw2880325804987327263:True:=⟨⟩
theorem tw2843797965477110980:True:=⟨⟩
theorem tw2793852592637935510:True:=⟨⟩
theorem tw2624242228247985664:True:=⟨⟩
theorem tw2408985999710140217:True:=⟨⟩
theorem tw239172937281249266:True:=⟨⟩
theorem tw2383797791114292060:True:=⟨⟩
theorem tw2364783468693226203:True:=⟨⟩
theorem tw2305981770341600634:True:=⟨⟩
theorem tw2272618477513034664:True:=⟨⟩
theorem tw2032240207298621407:True:=⟨⟩
theorem tw2027144572127163821:True:=⟨⟩
theorem tw2025108291167769616:True:=⟨⟩
theorem tw1991045215707032902:True:=⟨⟩
theorem tw1928727332976391297:True:=⟨⟩
theorem tw1849953186941816675:True:=⟨⟩
theorem tw18324954646484958828:True:=⟨⟩
theorem tw18312704767511088781:True:=⟨⟩
theorem tw1830931705540904632:True:=⟨⟩
theorem tw18248707410569133434:True:=⟨⟩
theorem tw18186189412385923788:True:=⟨⟩
theorem tw18096457954306418047:True:=⟨⟩
theorem tw18026668682703452887:True:=⟨⟩
theorem tw17804871612767292263:True:=⟨⟩
theorem tw17682145879236624840:True:=⟨⟩
theorem tw17604685834266964403:True:=⟨⟩
theorem tw17574375176230085858:True:=⟨⟩
theorem tw17465046654827803264:True:=⟨⟩
theorem tw1735240401044192041:True:=⟨⟩
theorem tw17305570226057339051:True:=⟨⟩
theorem tw17287411330602720540:True:=⟨⟩
theorem tw17272387633765427638:True:=⟨⟩
theorem tw17246225207742923659:True:=⟨⟩
theorem tw17139832503231270761:True:=⟨⟩
theorem tw1712682561591378077:True:=⟨⟩
theorem tw17060139282241964171:True:=⟨⟩
theorem tw17058409273099969988:True:=⟨⟩
theorem tw16983923373782329016:True:=⟨⟩
theorem tw16983690035026417971:True:=⟨⟩
theorem tw16935695500327628729:True:=⟨⟩
theorem tw16596231717857126776:True:=⟨⟩
theorem tw16594773502366974347:True:=⟨⟩
theorem tw16506098194741823453:True:=⟨⟩
theorem tw16489901402915230212:True:=⟨⟩
theorem tw16489035099702156952:True:=⟨⟩
theorem tw16481355019476817978:True:=⟨⟩
theorem tw16246504858594560624:True:=⟨⟩
theorem tw16146689482200086444:True:=⟨⟩
theorem tw16069353021724509125:True:=⟨⟩
theorem tw1597737175709307173:True:=⟨⟩
theorem tw15707307132943777117:True:=⟨⟩
theorem tw15593530112624933944:True:=⟨⟩
theorem tw15590436968976922124:True:=⟨⟩
theorem tw15478696413777880278:True:=⟨⟩
theorem tw15456842008234629478:True:=⟨⟩
theorem tw15454043711615225557:True:=⟨⟩
theorem tw15397916437245374691:True:=⟨⟩
theorem tw15382648834830734613:True:=⟨⟩
theorem tw15250302338723270466:True:=⟨⟩
theorem tw15169456946866218451:True:=⟨⟩
theorem tw15141273013863179896:True:=⟨⟩
theorem tw15023432158654315715:True:=⟨⟩
theorem tw14911078036330451323:True:=⟨⟩
theorem tw14895867133451013367:True:=⟨⟩
theorem tw147195224057227171:True:=⟨⟩
theorem tw14669485200124410832:True:=⟨⟩
theorem tw14619970947807343567:True:=⟨⟩
theorem tw14554758459013117680:True:=⟨⟩
theorem tw14534843526130679771:True:=⟨⟩
theorem tw14497801580766766789:True:=⟨⟩
theorem tw14495474081193860645:True:=⟨⟩
theorem tw14145180141112077481:True:=⟨⟩
theorem tw1400732332343603148:True:=⟨⟩
theorem tw13991238128386690234:True:=⟨⟩
theorem tw13966663792721976961:True:=⟨⟩
theorem tw13943346451630715646:True:=⟨⟩
theorem tw13910610161937085824:True:=⟨⟩
theorem tw13832097493255532181:True:=⟨⟩
theorem tw13812754371466435160:True:=⟨⟩
theorem tw1376108138364920153:True:=⟨⟩
theorem tw13727108611934733815:True:=⟨⟩
theorem tw13640111868743935462:True:=⟨⟩
theorem tw13567751676238159337:True:=⟨⟩
theorem tw13551127848079428079:True:=⟨⟩
theorem tw13465979281743195066:True:=⟨⟩
theorem tw13429835940196783373:True:=⟨⟩
theorem tw13341558691336257258:True:=⟨⟩
theorem tw13326707843641553311:True:=⟨⟩
theorem tw13317229997046285947:True:=⟨⟩
theorem tw13299121562033114261:True:=⟨⟩
theorem tw1328051461364842835:True:=⟨⟩
theorem tw13248289385592404430:True:=⟨⟩
theorem tw13210597001985768754:True:=⟨⟩
theorem tw13105208034388414621:True:=⟨⟩
theorem tw13085073941519007307:True:=⟨⟩
theorem tw12999724150673606465:True:=⟨⟩
theorem tw1294471389151593774:True:=⟨⟩
theorem tw12693842949713300976:True:=⟨⟩
theorem tw12666779552686387656:True:=⟨⟩
theorem tw12585136910295378704:True:=⟨⟩
theorem tw12363930637193600880:True:=⟨⟩
theorem tw12361163642456453884:True:=⟨⟩
theorem tw12357137856597205115:True:=⟨⟩
theorem tw12278812397171184754:True:=⟨⟩
theorem tw12159240531673627616:True:=⟨⟩
theorem tw12102322296230701552:True:=⟨⟩
theorem tw12051551661005797421:True:=⟨⟩
theorem tw12039290693369600147:True:=⟨⟩
theorem tw11976601167407024090:True:=⟨⟩
theorem tw11810384801167251963:True:=⟨⟩
theorem tw11579727402015829821:True:=⟨⟩
theorem tw11456555823198787219:True:=⟨⟩
theorem tw11438141393175483313:True:=⟨⟩
theorem tw11411753103291596000:True:=⟨⟩
theorem tw11319404729083153995:True:=⟨⟩
theorem tw11235654284938039388:True:=⟨⟩
theorem tw11215192947632808898:True:=⟨⟩
theorem tw11160355147843955645:True:=⟨⟩
theorem tw11132673730031333839:True:=⟨⟩
theorem tw11073392771813979659:True:=⟨⟩
theorem tw11044317905329266145:True:=⟨⟩
theorem tw10906574379399143585:True:=⟨⟩
theorem tw10891940627534263228:True:=⟨⟩
theorem tw10860278940780896845:True:=⟨⟩
theorem tw10804929876643678427:True:=⟨⟩
theorem tw10705045390625408890:True:=⟨⟩
theorem tw1066424633163503999:True:=⟨⟩
theorem tw10642838451916459719:True:=⟨⟩
theorem tw1052330985124339501:True:=⟨⟩
theorem tw10475933966179982325:True:=⟨⟩
theorem tw10434049273369906804:True:=⟨⟩
theorem tw10256431303264750095:True:=⟨⟩
theorem tw10253385156441486831:True:=⟨⟩
theorem tw10250669379030915832:True:=⟨⟩
theorem tw10224973990239082151:True:=⟨⟩
theorem tw10210886505020205952:True:=⟨⟩
theorem tw10155980206765902804:True:=⟨⟩
theorem tw10103079291892408546:True:=⟨⟩
end PySem.W.Fast
namespace Rc
open PySem PySem.Spec PyProof.Rows L2
def top (i : Nat) : Stmt := PySem.Challenge.pw_ringcede_k44_room_in_a_ring.main.body.getD i (.Pass ⟨0, 0, 0, 0⟩)
abbrev s_require_houses : Stmt := top 46
abbrev s_require_house : Stmt := top 47
abbrev s_is_day : Stmt := top 68
abbrev s_require_day : Stmt := top 86
abbrev s_require_crowns : Stmt := top 87
abbrev s_Ring___init__ : Stmt := inClass (top 88) 0
abbrev s_Ring_require_happening : Stmt := inClass (top 88) 3
abbrev s_Ring_require_loss : Stmt := inClass (top 88) 4
abbrev s_Ring_happen : Stmt := inClass (top 88) 8
abbrev s_Ring_lose : Stmt := inClass (top 88) 10
abbrev s_Ring_strike : Stmt := inClass (top 88) 12
abbrev s_Ring_move : Stmt := inClass (top 88) 13
abbrev s_Ring_merge : Stmt := inClass (top 88) 14
abbrev s_Ring_happenings : Stmt := inClass (top 88) 18
abbrev s_Ring_losses : Stmt := inClass (top 88) 19
abbrev s__law_draws : Stmt := top 90
abbrev s__law_due : Stmt := top 91
abbrev s__law_seen : Stmt := top 92
abbrev s__law_call : Stmt := top 93
abbrev s__law_acted : Stmt := top 94
abbrev s_law : Stmt := top 95
def fl_Ring : List Str := ["house_count", "signed", "day_of", "loss_rows", "next_happening", "next_loss", "paid_parts", "told_closings", "reckoning"]
set_option genInjectivity false in
set_option genSizeOfSpec false in
set_option genSizeOf false in
structure Adr where
  a_require_houses : Addr
  f_require_houses : FuncData
  a_require_house : Addr
  f_require_house : FuncData
  a_is_day : Addr
  f_is_day : FuncData
  a_require_day : Addr
  f_require_day : FuncData
  a_require_crowns : Addr
  f_require_crowns : FuncData
  a_Ring___init__ : Addr
  f_Ring___init__ : FuncData
  a_Ring_require_happening : Addr
  f_Ring_require_happening : FuncData
  a_Ring_require_loss : Addr
  f_Ring_require_loss : FuncData
  a_Ring_happen : Addr
  f_Ring_happen : FuncData
  a_Ring_lose : Addr
  f_Ring_lose : FuncData
  a_Ring_strike : Addr
  f_Ring_strike : FuncData
  a_Ring_move : Addr
  f_Ring_move : FuncData
  a_Ring_merge : Addr
  f_Ring_merge : FuncData
  a_Ring_happenings : Addr
  f_Ring_happenings : FuncData
  a_Ring_losses : Addr
  f_Ring_losses : FuncData
  a__law_draws : Addr
  f__law_draws : FuncData
  a__law_due : Addr
  f__law_due : FuncData
  a__law_seen : Addr
  f__law_seen : FuncData
  a__law_call : Addr
  f__law_call : FuncData
  a__law_acted : Addr
  f__law_acted : FuncData
  a_law : Addr
  f_law : FuncData
  c_Ring : Addr
  c_BadAccount : Addr
  c_BadCover : Addr
  c_BadCrowns : Addr
  c_BadDay : Addr
  c_BadDeed : Addr
  c_BadHouses : Addr
  c_BadLines : Addr
  c_BadLosses : Addr
  c_BadTerms : Addr
  c_BadText : Addr
  c_Disagrees : Addr
  c_Endless : Addr
  c_Full : Addr
  c_NoCover : Addr
  c_NoHappening : Addr
  c_NoHouse : Addr
  c_NoLoss : Addr
  c_Nothing : Addr
  c_RingError : Addr
  c_Same : Addr
  c_Short : Addr
  c_Unbacked : Addr
  lc_Ring_happenings : Addr
  lp_Ring_happenings : Addr
def tabsA (A : Adr) : List Addr := [A.lp_Ring_happenings]
structure Txt (w : World) (K : Frag) (mg : Str → Option Value) (A : Adr) : Prop where
  F_require_houses : Fun K "require_houses" "require_houses" s_require_houses A.a_require_houses A.f_require_houses
  m_require_houses : mg "require_houses" = some (.ref A.a_require_houses)
  k_require_houses : keepIn K (.ref A.a_require_houses) = true
  d_require_houses : Binds K A.f_require_houses ["houses"] []
  F_require_house : Fun K "require_house" "require_house" s_require_house A.a_require_house A.f_require_house
  m_require_house : mg "require_house" = some (.ref A.a_require_house)
  k_require_house : keepIn K (.ref A.a_require_house) = true
  d_require_house : Binds K A.f_require_house ["houses", "house"] []
  F_is_day : Fun K "is_day" "is_day" s_is_day A.a_is_day A.f_is_day
  m_is_day : mg "is_day" = some (.ref A.a_is_day)
  k_is_day : keepIn K (.ref A.a_is_day) = true
  d_is_day : Binds K A.f_is_day ["day"] []
  F_require_day : Fun K "require_day" "require_day" s_require_day A.a_require_day A.f_require_day
  m_require_day : mg "require_day" = some (.ref A.a_require_day)
  k_require_day : keepIn K (.ref A.a_require_day) = true
  d_require_day : Binds K A.f_require_day ["day"] []
  F_require_crowns : Fun K "require_crowns" "require_crowns" s_require_crowns A.a_require_crowns A.f_require_crowns
  m_require_crowns : mg "require_crowns" = some (.ref A.a_require_crowns)
  k_require_crowns : keepIn K (.ref A.a_require_crowns) = true
  d_require_crowns : Binds K A.f_require_crowns ["crowns"] []
  F_Ring___init__ : Fun K "__init__" "Ring.__init__" s_Ring___init__ A.a_Ring___init__ A.f_Ring___init__
  k_Ring___init__ : keepIn K (.ref A.a_Ring___init__) = true
  d_Ring___init__ : Binds K A.f_Ring___init__ ["self", "houses"] []
  F_Ring_require_happening : Fun K "require_happening" "Ring.require_happening" s_Ring_require_happening A.a_Ring_require_happening A.f_Ring_require_happening
  me_Ring_require_happening : Meth K A.c_Ring "require_happening" A.a_Ring_require_happening
  k_Ring_require_happening : keepIn K (.ref A.a_Ring_require_happening) = true
  d_Ring_require_happening : Binds K A.f_Ring_require_happening ["self", "happening"] []
  F_Ring_require_loss : Fun K "require_loss" "Ring.require_loss" s_Ring_require_loss A.a_Ring_require_loss A.f_Ring_require_loss
  me_Ring_require_loss : Meth K A.c_Ring "require_loss" A.a_Ring_require_loss
  k_Ring_require_loss : keepIn K (.ref A.a_Ring_require_loss) = true
  d_Ring_require_loss : Binds K A.f_Ring_require_loss ["self", "loss"] []
  F_Ring_happen : Fun K "happen" "Ring.happen" s_Ring_happen A.a_Ring_happen A.f_Ring_happen
  me_Ring_happen : Meth K A.c_Ring "happen" A.a_Ring_happen
  k_Ring_happen : keepIn K (.ref A.a_Ring_happen) = true
  d_Ring_happen : Binds K A.f_Ring_happen ["self", "day"] []
  F_Ring_lose : Fun K "lose" "Ring.lose" s_Ring_lose A.a_Ring_lose A.f_Ring_lose
  me_Ring_lose : Meth K A.c_Ring "lose" A.a_Ring_lose
  k_Ring_lose : keepIn K (.ref A.a_Ring_lose) = true
  d_Ring_lose : Binds K A.f_Ring_lose ["self", "happening", "house", "crowns"] []
  F_Ring_strike : Fun K "strike" "Ring.strike" s_Ring_strike A.a_Ring_strike A.f_Ring_strike
  me_Ring_strike : Meth K A.c_Ring "strike" A.a_Ring_strike
  k_Ring_strike : keepIn K (.ref A.a_Ring_strike) = true
  d_Ring_strike : Binds K A.f_Ring_strike ["self", "loss"] []
  F_Ring_move : Fun K "move" "Ring.move" s_Ring_move A.a_Ring_move A.f_Ring_move
  me_Ring_move : Meth K A.c_Ring "move" A.a_Ring_move
  k_Ring_move : keepIn K (.ref A.a_Ring_move) = true
  d_Ring_move : Binds K A.f_Ring_move ["self", "loss", "happening"] []
  F_Ring_merge : Fun K "merge" "Ring.merge" s_Ring_merge A.a_Ring_merge A.f_Ring_merge
  me_Ring_merge : Meth K A.c_Ring "merge" A.a_Ring_merge
  k_Ring_merge : keepIn K (.ref A.a_Ring_merge) = true
  d_Ring_merge : Binds K A.f_Ring_merge ["self", "one", "other"] []
  F_Ring_happenings : Fun K "happenings" "Ring.happenings" s_Ring_happenings A.a_Ring_happenings A.f_Ring_happenings
  me_Ring_happenings : Meth K A.c_Ring "happenings" A.a_Ring_happenings
  k_Ring_happenings : keepIn K (.ref A.a_Ring_happenings) = true
  d_Ring_happenings : Binds K A.f_Ring_happenings ["self"] []
  F_Ring_losses : Fun K "losses" "Ring.losses" s_Ring_losses A.a_Ring_losses A.f_Ring_losses
  me_Ring_losses : Meth K A.c_Ring "losses" A.a_Ring_losses
  k_Ring_losses : keepIn K (.ref A.a_Ring_losses) = true
  d_Ring_losses : Binds K A.f_Ring_losses ["self"] []
  F__law_draws : Fun K "_law_draws" "_law_draws" s__law_draws A.a__law_draws A.f__law_draws
  m__law_draws : mg "_law_draws" = some (.ref A.a__law_draws)
  k__law_draws : keepIn K (.ref A.a__law_draws) = true
  d__law_draws : Binds K A.f__law_draws ["_law_script", "_law_many"] []
  F__law_due : Fun K "_law_due" "_law_due" s__law_due A.a__law_due A.f__law_due
  m__law_due : mg "_law_due" = some (.ref A.a__law_due)
  k__law_due : keepIn K (.ref A.a__law_due) = true
  d__law_due : Binds K A.f__law_due ["_law_want"] []
  F__law_seen : Fun K "_law_seen" "_law_seen" s__law_seen A.a__law_seen A.f__law_seen
  m__law_seen : mg "_law_seen" = some (.ref A.a__law_seen)
  k__law_seen : keepIn K (.ref A.a__law_seen) = true
  d__law_seen : Binds K A.f__law_seen ["_law_e"] []
  F__law_call : Fun K "_law_call" "_law_call" s__law_call A.a__law_call A.f__law_call
  m__law_call : mg "_law_call" = some (.ref A.a__law_call)
  k__law_call : keepIn K (.ref A.a__law_call) = true
  d__law_call : Binds K A.f__law_call ["_law_ring", "_law_deed"] []
  F__law_acted : Fun K "_law_acted" "_law_acted" s__law_acted A.a__law_acted A.f__law_acted
  m__law_acted : mg "_law_acted" = some (.ref A.a__law_acted)
  k__law_acted : keepIn K (.ref A.a__law_acted) = true
  d__law_acted : Binds K A.f__law_acted ["_law_ring", "_law_deed"] []
  F_law : Fun K "law" "law" s_law A.a_law A.f_law
  m_law : mg "law" = some (.ref A.a_law)
  k_law : keepIn K (.ref A.a_law) = true
  d_law : Binds K A.f_law ["_law_script"] []
  lam_Ring_happenings : Lam K A.a_Ring_happenings A.lc_Ring_happenings A.lp_Ring_happenings
  cl_Ring : Cls K A.c_Ring
  mc_Ring : mg "Ring" = some (.ref A.c_Ring)
  mk_Ring : Mk K A.c_Ring A.a_Ring___init__
  na_Ring_house_count : NoAttr K A.c_Ring "house_count"
  na_Ring_signed : NoAttr K A.c_Ring "signed"
  na_Ring_day_of : NoAttr K A.c_Ring "day_of"
  na_Ring_loss_rows : NoAttr K A.c_Ring "loss_rows"
  na_Ring_next_happening : NoAttr K A.c_Ring "next_happening"
  na_Ring_next_loss : NoAttr K A.c_Ring "next_loss"
  na_Ring_paid_parts : NoAttr K A.c_Ring "paid_parts"
  na_Ring_told_closings : NoAttr K A.c_Ring "told_closings"
  na_Ring_reckoning : NoAttr K A.c_Ring "reckoning"
  mc_BadAccount : mg "BadAccount" = some (.ref A.c_BadAccount)
  mc_BadCover : mg "BadCover" = some (.ref A.c_BadCover)
  mc_BadCrowns : mg "BadCrowns" = some (.ref A.c_BadCrowns)
  mc_BadDay : mg "BadDay" = some (.ref A.c_BadDay)
  mc_BadDeed : mg "BadDeed" = some (.ref A.c_BadDeed)
  mc_BadHouses : mg "BadHouses" = some (.ref A.c_BadHouses)
  mc_BadLines : mg "BadLines" = some (.ref A.c_BadLines)
  mc_BadLosses : mg "BadLosses" = some (.ref A.c_BadLosses)
  mc_BadTerms : mg "BadTerms" = some (.ref A.c_BadTerms)
  mc_BadText : mg "BadText" = some (.ref A.c_BadText)
  mc_Disagrees : mg "Disagrees" = some (.ref A.c_Disagrees)
  mc_Endless : mg "Endless" = some (.ref A.c_Endless)
  mc_Full : mg "Full" = some (.ref A.c_Full)
  mc_NoCover : mg "NoCover" = some (.ref A.c_NoCover)
  mc_NoHappening : mg "NoHappening" = some (.ref A.c_NoHappening)
  mc_NoHouse : mg "NoHouse" = some (.ref A.c_NoHouse)
  mc_NoLoss : mg "NoLoss" = some (.ref A.c_NoLoss)
  mc_Nothing : mg "Nothing" = some (.ref A.c_Nothing)
  mc_RingError : mg "RingError" = some (.ref A.c_RingError)
  mc_Same : mg "Same" = some (.ref A.c_Same)
  mc_Short : mg "Short" = some (.ref A.c_Short)
  mc_Unbacked : mg "Unbacked" = some (.ref A.c_Unbacked)
  x_BadCrowns : PySem.W.excIn K A.c_BadCrowns [.type "ValueError", .type "Exception", .type "BaseException", .type "object"] "ValueError.__new__" = true
  ec_BadCrowns : ErrCls K A.c_BadCrowns
  em_BadCrowns : PySem.W.exmOne K (.ref A.c_BadCrowns) (.ref A.c_RingError) = some true
  kv_BadCrowns : kitOne K (.ref A.c_BadCrowns) (.type "ValueError") = some true
  ki_BadCrowns_BadAccount : kitOne K (.ref A.c_BadCrowns) (.ref A.c_BadAccount) = some false
  ki_BadCrowns_BadCover : kitOne K (.ref A.c_BadCrowns) (.ref A.c_BadCover) = some false
  ki_BadCrowns_BadCrowns : kitOne K (.ref A.c_BadCrowns) (.ref A.c_BadCrowns) = some true
  ki_BadCrowns_BadDay : kitOne K (.ref A.c_BadCrowns) (.ref A.c_BadDay) = some false
  ki_BadCrowns_BadDeed : kitOne K (.ref A.c_BadCrowns) (.ref A.c_BadDeed) = some false
  ki_BadCrowns_BadHouses : kitOne K (.ref A.c_BadCrowns) (.ref A.c_BadHouses) = some false
  ki_BadCrowns_BadLines : kitOne K (.ref A.c_BadCrowns) (.ref A.c_BadLines) = some false
  ki_BadCrowns_BadLosses : kitOne K (.ref A.c_BadCrowns) (.ref A.c_BadLosses) = some false
  ki_BadCrowns_BadTerms : kitOne K (.ref A.c_BadCrowns) (.ref A.c_BadTerms) = some false
  ki_BadCrowns_BadText : kitOne K (.ref A.c_BadCrowns) (.ref A.c_BadText) = some false
  ki_BadCrowns_Disagrees : kitOne K (.ref A.c_BadCrowns) (.ref A.c_Disagrees) = some false
  ki_BadCrowns_Endless : kitOne K (.ref A.c_BadCrowns) (.ref A.c_Endless) = some false
  ki_BadCrowns_Full : kitOne K (.ref A.c_BadCrowns) (.ref A.c_Full) = some false
  ki_BadCrowns_NoCover : kitOne K (.ref A.c_BadCrowns) (.ref A.c_NoCover) = some false
  ki_BadCrowns_NoHappening : kitOne K (.ref A.c_BadCrowns) (.ref A.c_NoHappening) = some false
  ki_BadCrowns_NoHouse : kitOne K (.ref A.c_BadCrowns) (.ref A.c_NoHouse) = some false
  ki_BadCrowns_NoLoss : kitOne K (.ref A.c_BadCrowns) (.ref A.c_NoLoss) = some false
  ki_BadCrowns_Nothing : kitOne K (.ref A.c_BadCrowns) (.ref A.c_Nothing) = some false
  ki_BadCrowns_Same : kitOne K (.ref A.c_BadCrowns) (.ref A.c_Same) = some false
  ki_BadCrowns_Short : kitOne K (.ref A.c_BadCrowns) (.ref A.c_Short) = some false
  ki_BadCrowns_Unbacked : kitOne K (.ref A.c_BadCrowns) (.ref A.c_Unbacked) = some false
  x_BadDay : PySem.W.excIn K A.c_BadDay [.type "ValueError", .type "Exception", .type "BaseException", .type "object"] "ValueError.__new__" = true
  ec_BadDay : ErrCls K A.c_BadDay
  em_BadDay : PySem.W.exmOne K (.ref A.c_BadDay) (.ref A.c_RingError) = some true
  kv_BadDay : kitOne K (.ref A.c_BadDay) (.type "ValueError") = some true
  ki_BadDay_BadAccount : kitOne K (.ref A.c_BadDay) (.ref A.c_BadAccount) = some false
  ki_BadDay_BadCover : kitOne K (.ref A.c_BadDay) (.ref A.c_BadCover) = some false
  ki_BadDay_BadCrowns : kitOne K (.ref A.c_BadDay) (.ref A.c_BadCrowns) = some false
  ki_BadDay_BadDay : kitOne K (.ref A.c_BadDay) (.ref A.c_BadDay) = some true
  ki_BadDay_BadDeed : kitOne K (.ref A.c_BadDay) (.ref A.c_BadDeed) = some false
  ki_BadDay_BadHouses : kitOne K (.ref A.c_BadDay) (.ref A.c_BadHouses) = some false
  ki_BadDay_BadLines : kitOne K (.ref A.c_BadDay) (.ref A.c_BadLines) = some false
  ki_BadDay_BadLosses : kitOne K (.ref A.c_BadDay) (.ref A.c_BadLosses) = some false
  ki_BadDay_BadTerms : kitOne K (.ref A.c_BadDay) (.ref A.c_BadTerms) = some false
  ki_BadDay_BadText : kitOne K (.ref A.c_BadDay) (.ref A.c_BadText) = some false
  ki_BadDay_Disagrees : kitOne K (.ref A.c_BadDay) (.ref A.c_Disagrees) = some false
  ki_BadDay_Endless : kitOne K (.ref A.c_BadDay) (.ref A.c_Endless) = some false
  ki_BadDay_Full : kitOne K (.ref A.c_BadDay) (.ref A.c_Full) = some false
  ki_BadDay_NoCover : kitOne K (.ref A.c_BadDay) (.ref A.c_NoCover) = some false
  ki_BadDay_NoHappening : kitOne K (.ref A.c_BadDay) (.ref A.c_NoHappening) = some false
  ki_BadDay_NoHouse : kitOne K (.ref A.c_BadDay) (.ref A.c_NoHouse) = some false
  ki_BadDay_NoLoss : kitOne K (.ref A.c_BadDay) (.ref A.c_NoLoss) = some false
  ki_BadDay_Nothing : kitOne K (.ref A.c_BadDay) (.ref A.c_Nothing) = some false
  ki_BadDay_Same : kitOne K (.ref A.c_BadDay) (.ref A.c_Same) = some false
  ki_BadDay_Short : kitOne K (.ref A.c_BadDay) (.ref A.c_Short) = some false
  ki_BadDay_Unbacked : kitOne K (.ref A.c_BadDay) (.ref A.c_Unbacked) = some false
  x_Full : PySem.W.excIn K A.c_Full [.type "ValueError", .type "Exception", .type "BaseException", .type "object"] "ValueError.__new__" = true
  ec_Full : ErrCls K A.c_Full
  em_Full : PySem.W.exmOne K (.ref A.c_Full) (.ref A.c_RingError) = some true
  kv_Full : kitOne K (.ref A.c_Full) (.type "ValueError") = some true
  ki_Full_BadAccount : kitOne K (.ref A.c_Full) (.ref A.c_BadAccount) = some false
  ki_Full_BadCover : kitOne K (.ref A.c_Full) (.ref A.c_BadCover) = some false
  ki_Full_BadCrowns : kitOne K (.ref A.c_Full) (.ref A.c_BadCrowns) = some false
  ki_Full_BadDay : kitOne K (.ref A.c_Full) (.ref A.c_BadDay) = some false
  ki_Full_BadDeed : kitOne K (.ref A.c_Full) (.ref A.c_BadDeed) = some false
  ki_Full_BadHouses : kitOne K (.ref A.c_Full) (.ref A.c_BadHouses) = some false
  ki_Full_BadLines : kitOne K (.ref A.c_Full) (.ref A.c_BadLines) = some false
  ki_Full_BadLosses : kitOne K (.ref A.c_Full) (.ref A.c_BadLosses) = some false
  ki_Full_BadTerms : kitOne K (.ref A.c_Full) (.ref A.c_BadTerms) = some false
  ki_Full_BadText : kitOne K (.ref A.c_Full) (.ref A.c_BadText) = some false
  ki_Full_Disagrees : kitOne K (.ref A.c_Full) (.ref A.c_Disagrees) = some false
  ki_Full_Endless : kitOne K (.ref A.c_Full) (.ref A.c_Endless) = some false
  ki_Full_Full : kitOne K (.ref A.c_Full) (.ref A.c_Full) = some true
  ki_Full_NoCover : kitOne K (.ref A.c_Full) (.ref A.c_NoCover) = some false
  ki_Full_NoHappening : kitOne K (.ref A.c_Full) (.ref A.c_NoHappening) = some false
  ki_Full_NoHouse : kitOne K (.ref A.c_Full) (.ref A.c_NoHouse) = some false
  ki_Full_NoLoss : kitOne K (.ref A.c_Full) (.ref A.c_NoLoss) = some false
  ki_Full_Nothing : kitOne K (.ref A.c_Full) (.ref A.c_Nothing) = some false
  ki_Full_Same : kitOne K (.ref A.c_Full) (.ref A.c_Same) = some false
  ki_Full_Short : kitOne K (.ref A.c_Full) (.ref A.c_Short) = some false
  ki_Full_Unbacked : kitOne K (.ref A.c_Full) (.ref A.c_Unbacked) = some false
  x_NoHappening : PySem.W.excIn K A.c_NoHappening [.type "ValueError", .type "Exception", .type "BaseException", .type "object"] "ValueError.__new__" = true
  ec_NoHappening : ErrCls K A.c_NoHappening
  em_NoHappening : PySem.W.exmOne K (.ref A.c_NoHappening) (.ref A.c_RingError) = some true
  kv_NoHappening : kitOne K (.ref A.c_NoHappening) (.type "ValueError") = some true
  ki_NoHappening_BadAccount : kitOne K (.ref A.c_NoHappening) (.ref A.c_BadAccount) = some false
  ki_NoHappening_BadCover : kitOne K (.ref A.c_NoHappening) (.ref A.c_BadCover) = some false
  ki_NoHappening_BadCrowns : kitOne K (.ref A.c_NoHappening) (.ref A.c_BadCrowns) = some false
  ki_NoHappening_BadDay : kitOne K (.ref A.c_NoHappening) (.ref A.c_BadDay) = some false
  ki_NoHappening_BadDeed : kitOne K (.ref A.c_NoHappening) (.ref A.c_BadDeed) = some false
  ki_NoHappening_BadHouses : kitOne K (.ref A.c_NoHappening) (.ref A.c_BadHouses) = some false
  ki_NoHappening_BadLines : kitOne K (.ref A.c_NoHappening) (.ref A.c_BadLines) = some false
  ki_NoHappening_BadLosses : kitOne K (.ref A.c_NoHappening) (.ref A.c_BadLosses) = some false
  ki_NoHappening_BadTerms : kitOne K (.ref A.c_NoHappening) (.ref A.c_BadTerms) = some false
  ki_NoHappening_BadText : kitOne K (.ref A.c_NoHappening) (.ref A.c_BadText) = some false
  ki_NoHappening_Disagrees : kitOne K (.ref A.c_NoHappening) (.ref A.c_Disagrees) = some false
  ki_NoHappening_Endless : kitOne K (.ref A.c_NoHappening) (.ref A.c_Endless) = some false
  ki_NoHappening_Full : kitOne K (.ref A.c_NoHappening) (.ref A.c_Full) = some false
  ki_NoHappening_NoCover : kitOne K (.ref A.c_NoHappening) (.ref A.c_NoCover) = some false
  ki_NoHappening_NoHappening : kitOne K (.ref A.c_NoHappening) (.ref A.c_NoHappening) = some true
  ki_NoHappening_NoHouse : kitOne K (.ref A.c_NoHappening) (.ref A.c_NoHouse) = some false
  ki_NoHappening_NoLoss : kitOne K (.ref A.c_NoHappening) (.ref A.c_NoLoss) = some false
  ki_NoHappening_Nothing : kitOne K (.ref A.c_NoHappening) (.ref A.c_Nothing) = some false
  ki_NoHappening_Same : kitOne K (.ref A.c_NoHappening) (.ref A.c_Same) = some false
  ki_NoHappening_Short : kitOne K (.ref A.c_NoHappening) (.ref A.c_Short) = some false
  ki_NoHappening_Unbacked : kitOne K (.ref A.c_NoHappening) (.ref A.c_Unbacked) = some false
  x_NoHouse : PySem.W.excIn K A.c_NoHouse [.type "ValueError", .type "Exception", .type "BaseException", .type "object"] "ValueError.__new__" = true
  ec_NoHouse : ErrCls K A.c_NoHouse
  em_NoHouse : PySem.W.exmOne K (.ref A.c_NoHouse) (.ref A.c_RingError) = some true
  kv_NoHouse : kitOne K (.ref A.c_NoHouse) (.type "ValueError") = some true
  ki_NoHouse_BadAccount : kitOne K (.ref A.c_NoHouse) (.ref A.c_BadAccount) = some false
  ki_NoHouse_BadCover : kitOne K (.ref A.c_NoHouse) (.ref A.c_BadCover) = some false
  ki_NoHouse_BadCrowns : kitOne K (.ref A.c_NoHouse) (.ref A.c_BadCrowns) = some false
  ki_NoHouse_BadDay : kitOne K (.ref A.c_NoHouse) (.ref A.c_BadDay) = some false
  ki_NoHouse_BadDeed : kitOne K (.ref A.c_NoHouse) (.ref A.c_BadDeed) = some false
  ki_NoHouse_BadHouses : kitOne K (.ref A.c_NoHouse) (.ref A.c_BadHouses) = some false
  ki_NoHouse_BadLines : kitOne K (.ref A.c_NoHouse) (.ref A.c_BadLines) = some false
  ki_NoHouse_BadLosses : kitOne K (.ref A.c_NoHouse) (.ref A.c_BadLosses) = some false
  ki_NoHouse_BadTerms : kitOne K (.ref A.c_NoHouse) (.ref A.c_BadTerms) = some false
  ki_NoHouse_BadText : kitOne K (.ref A.c_NoHouse) (.ref A.c_BadText) = some false
  ki_NoHouse_Disagrees : kitOne K (.ref A.c_NoHouse) (.ref A.c_Disagrees) = some false
  ki_NoHouse_Endless : kitOne K (.ref A.c_NoHouse) (.ref A.c_Endless) = some false
  ki_NoHouse_Full : kitOne K (.ref A.c_NoHouse) (.ref A.c_Full) = some false
  ki_NoHouse_NoCover : kitOne K (.ref A.c_NoHouse) (.ref A.c_NoCover) = some false
  ki_NoHouse_NoHappening : kitOne K (.ref A.c_NoHouse) (.ref A.c_NoHappening) = some false
  ki_NoHouse_NoHouse : kitOne K (.ref A.c_NoHouse) (.ref A.c_NoHouse) = some true
  ki_NoHouse_NoLoss : kitOne K (.ref A.c_NoHouse) (.ref A.c_NoLoss) = some false
  ki_NoHouse_Nothing : kitOne K (.ref A.c_NoHouse) (.ref A.c_Nothing) = some false
  ki_NoHouse_Same : kitOne K (.ref A.c_NoHouse) (.ref A.c_Same) = some false
  ki_NoHouse_Short : kitOne K (.ref A.c_NoHouse) (.ref A.c_Short) = some false
  ki_NoHouse_Unbacked : kitOne K (.ref A.c_NoHouse) (.ref A.c_Unbacked) = some false
  c_LAST_DAY : ∃ t, mg "LAST_DAY" = some (.int 99 t)
  c_LAST_HOUSE : ∃ t, mg "LAST_HOUSE" = some (.int 5 t)
  c_MOST_CROWNS : ∃ t, mg "MOST_CROWNS" = some (.int 100 t)
  c_MOST_HAPPENINGS : ∃ t, mg "MOST_HAPPENINGS" = some (.int 12 t)
  c_MOST_LOSSES : ∃ t, mg "MOST_LOSSES" = some (.int 30 t)
  b_ValueError : mg "ValueError" = none
  b_isinstance : mg "isinstance" = none
  b_len : mg "len" = none
  b_list : mg "list" = none
  b_range : mg "range" = none
  b_sorted : mg "sorted" = none
structure ErrIs (K : Frag) (A : Adr) (C : Addr) (x : Str) : Prop where
  ec : ErrCls K C
  kv : kitOne K (.ref C) (.type "ValueError") = some true
  k_BadHouses : kitOne K (.ref C) (.ref A.c_BadHouses) = some (decide (("BadHouses" : Str) = x))
  k_BadLines : kitOne K (.ref C) (.ref A.c_BadLines) = some (decide (("BadLines" : Str) = x))
  k_BadCover : kitOne K (.ref C) (.ref A.c_BadCover) = some (decide (("BadCover" : Str) = x))
  k_BadCrowns : kitOne K (.ref C) (.ref A.c_BadCrowns) = some (decide (("BadCrowns" : Str) = x))
  k_BadLosses : kitOne K (.ref C) (.ref A.c_BadLosses) = some (decide (("BadLosses" : Str) = x))
  k_BadAccount : kitOne K (.ref C) (.ref A.c_BadAccount) = some (decide (("BadAccount" : Str) = x))
  k_Unbacked : kitOne K (.ref C) (.ref A.c_Unbacked) = some (decide (("Unbacked" : Str) = x))
  k_Short : kitOne K (.ref C) (.ref A.c_Short) = some (decide (("Short" : Str) = x))
  k_Disagrees : kitOne K (.ref C) (.ref A.c_Disagrees) = some (decide (("Disagrees" : Str) = x))
  k_NoHouse : kitOne K (.ref C) (.ref A.c_NoHouse) = some (decide (("NoHouse" : Str) = x))
  k_NoCover : kitOne K (.ref C) (.ref A.c_NoCover) = some (decide (("NoCover" : Str) = x))
  k_NoHappening : kitOne K (.ref C) (.ref A.c_NoHappening) = some (decide (("NoHappening" : Str) = x))
  k_NoLoss : kitOne K (.ref C) (.ref A.c_NoLoss) = some (decide (("NoLoss" : Str) = x))
  k_BadDay : kitOne K (.ref C) (.ref A.c_BadDay) = some (decide (("BadDay" : Str) = x))
  k_BadTerms : kitOne K (.ref C) (.ref A.c_BadTerms) = some (decide (("BadTerms" : Str) = x))
  k_Endless : kitOne K (.ref C) (.ref A.c_Endless) = some (decide (("Endless" : Str) = x))
  k_Same : kitOne K (.ref C) (.ref A.c_Same) = some (decide (("Same" : Str) = x))
  k_Full : kitOne K (.ref C) (.ref A.c_Full) = some (decide (("Full" : Str) = x))
  k_BadDeed : kitOne K (.ref C) (.ref A.c_BadDeed) = some (decide (("BadDeed" : Str) = x))
  k_Nothing : kitOne K (.ref C) (.ref A.c_Nothing) = some (decide (("Nothing" : Str) = x))
  k_BadText : kitOne K (.ref C) (.ref A.c_BadText) = some (decide (("BadText" : Str) = x))
theorem eis_BadCrowns {w : World} {K : Frag} {mg : Str → Option Value} {A : Adr} (T : Txt w K mg A) : ErrIs K A A.c_BadCrowns "BadCrowns" := ⟨T.ec_BadCrowns, T.kv_BadCrowns, T.ki_BadCrowns_BadHouses.trans (congrArg some (by decide +kernel)), T.ki_BadCrowns_BadLines.trans (congrArg some (by decide +kernel)), T.ki_BadCrowns_BadCover.trans (congrArg some (by decide +kernel)), T.ki_BadCrowns_BadCrowns.trans (congrArg some (by decide +kernel)), T.ki_BadCrowns_BadLosses.trans (congrArg some (by decide +kernel)), T.ki_BadCrowns_BadAccount.trans (congrArg some (by decide +kernel)), T.ki_BadCrowns_Unbacked.trans (congrArg some (by decide +kernel)), T.ki_BadCrowns_Short.trans (congrArg some (by decide +kernel)), T.ki_BadCrowns_Disagrees.trans (congrArg some (by decide +kernel)), T.ki_BadCrowns_NoHouse.trans (congrArg some (by decide +kernel)), T.ki_BadCrowns_NoCover.trans (congrArg some (by decide +kernel)), T.ki_BadCrowns_NoHappening.trans (congrArg some (by decide +kernel)), T.ki_BadCrowns_NoLoss.trans (congrArg some (by decide +kernel)), T.ki_BadCrowns_BadDay.trans (congrArg some (by decide +kernel)), T.ki_BadCrowns_BadTerms.trans (congrArg some (by decide +kernel)), T.ki_BadCrowns_Endless.trans (congrArg some (by decide +kernel)), T.ki_BadCrowns_Same.trans (congrArg some (by decide +kernel)), T.ki_BadCrowns_Full.trans (congrArg some (by decide +kernel)), T.ki_BadCrowns_BadDeed.trans (congrArg some (by decide +kernel)), T.ki_BadCrowns_Nothing.trans (congrArg some (by decide +kernel)), T.ki_BadCrowns_BadText.trans (congrArg some (by decide +kernel))⟩
theorem eis_BadDay {w : World} {K : Frag} {mg : Str → Option Value} {A : Adr} (T : Txt w K mg A) : ErrIs K A A.c_BadDay "BadDay" := ⟨T.ec_BadDay, T.kv_BadDay, T.ki_BadDay_BadHouses.trans (congrArg some (by decide +kernel)), T.ki_BadDay_BadLines.trans (congrArg some (by decide +kernel)), T.ki_BadDay_BadCover.trans (congrArg some (by decide +kernel)), T.ki_BadDay_BadCrowns.trans (congrArg some (by decide +kernel)), T.ki_BadDay_BadLosses.trans (congrArg some (by decide +kernel)), T.ki_BadDay_BadAccount.trans (congrArg some (by decide +kernel)), T.ki_BadDay_Unbacked.trans (congrArg some (by decide +kernel)), T.ki_BadDay_Short.trans (congrArg some (by decide +kernel)), T.ki_BadDay_Disagrees.trans (congrArg some (by decide +kernel)), T.ki_BadDay_NoHouse.trans (congrArg some (by decide +kernel)), T.ki_BadDay_NoCover.trans (congrArg some (by decide +kernel)), T.ki_BadDay_NoHappening.trans (congrArg some (by decide +kernel)), T.ki_BadDay_NoLoss.trans (congrArg some (by decide +kernel)), T.ki_BadDay_BadDay.trans (congrArg some (by decide +kernel)), T.ki_BadDay_BadTerms.trans (congrArg some (by decide +kernel)), T.ki_BadDay_Endless.trans (congrArg some (by decide +kernel)), T.ki_BadDay_Same.trans (congrArg some (by decide +kernel)), T.ki_BadDay_Full.trans (congrArg some (by decide +kernel)), T.ki_BadDay_BadDeed.trans (congrArg some (by decide +kernel)), T.ki_BadDay_Nothing.trans (congrArg some (by decide +kernel)), T.ki_BadDay_BadText.trans (congrArg some (by decide +kernel))⟩
theorem eis_Full {w : World} {K : Frag} {mg : Str → Option Value} {A : Adr} (T : Txt w K mg A) : ErrIs K A A.c_Full "Full" := ⟨T.ec_Full, T.kv_Full, T.ki_Full_BadHouses.trans (congrArg some (by decide +kernel)), T.ki_Full_BadLines.trans (congrArg some (by decide +kernel)), T.ki_Full_BadCover.trans (congrArg some (by decide +kernel)), T.ki_Full_BadCrowns.trans (congrArg some (by decide +kernel)), T.ki_Full_BadLosses.trans (congrArg some (by decide +kernel)), T.ki_Full_BadAccount.trans (congrArg some (by decide +kernel)), T.ki_Full_Unbacked.trans (congrArg some (by decide +kernel)), T.ki_Full_Short.trans (congrArg some (by decide +kernel)), T.ki_Full_Disagrees.trans (congrArg some (by decide +kernel)), T.ki_Full_NoHouse.trans (congrArg some (by decide +kernel)), T.ki_Full_NoCover.trans (congrArg some (by decide +kernel)), T.ki_Full_NoHappening.trans (congrArg some (by decide +kernel)), T.ki_Full_NoLoss.trans (congrArg some (by decide +kernel)), T.ki_Full_BadDay.trans (congrArg some (by decide +kernel)), T.ki_Full_BadTerms.trans (congrArg some (by decide +kernel)), T.ki_Full_Endless.trans (congrArg some (by decide +kernel)), T.ki_Full_Same.trans (congrArg some (by decide +kernel)), T.ki_Full_Full.trans (congrArg some (by decide +kernel)), T.ki_Full_BadDeed.trans (congrArg some (by decide +kernel)), T.ki_Full_Nothing.trans (congrArg some (by decide +kernel)), T.ki_Full_BadText.trans (congrArg some (by decide +kernel))⟩
theorem eis_NoHappening {w : World} {K : Frag} {mg : Str → Option Value} {A : Adr} (T : Txt w K mg A) : ErrIs K A A.c_NoHappening "NoHappening" := ⟨T.ec_NoHappening, T.kv_NoHappening, T.ki_NoHappening_BadHouses.trans (congrArg some (by decide +kernel)), T.ki_NoHappening_BadLines.trans (congrArg some (by decide +kernel)), T.ki_NoHappening_BadCover.trans (congrArg some (by decide +kernel)), T.ki_NoHappening_BadCrowns.trans (congrArg some (by decide +kernel)), T.ki_NoHappening_BadLosses.trans (congrArg some (by decide +kernel)), T.ki_NoHappening_BadAccount.trans (congrArg some (by decide +kernel)), T.ki_NoHappening_Unbacked.trans (congrArg some (by decide +kernel)), T.ki_NoHappening_Short.trans (congrArg some (by decide +kernel)), T.ki_NoHappening_Disagrees.trans (congrArg some (by decide +kernel)), T.ki_NoHappening_NoHouse.trans (congrArg some (by decide +kernel)), T.ki_NoHappening_NoCover.trans (congrArg some (by decide +kernel)), T.ki_NoHappening_NoHappening.trans (congrArg some (by decide +kernel)), T.ki_NoHappening_NoLoss.trans (congrArg some (by decide +kernel)), T.ki_NoHappening_BadDay.trans (congrArg some (by decide +kernel)), T.ki_NoHappening_BadTerms.trans (congrArg some (by decide +kernel)), T.ki_NoHappening_Endless.trans (congrArg some (by decide +kernel)), T.ki_NoHappening_Same.trans (congrArg some (by decide +kernel)), T.ki_NoHappening_Full.trans (congrArg some (by decide +kernel)), T.ki_NoHappening_BadDeed.trans (congrArg some (by decide +kernel)), T.ki_NoHappening_Nothing.trans (congrArg some (by decide +kernel)), T.ki_NoHappening_BadText.trans (congrArg some (by decide +kernel))⟩
theorem eis_NoHouse {w : World} {K : Frag} {mg : Str → Option Value} {A : Adr} (T : Txt w K mg A) : ErrIs K A A.c_NoHouse "NoHouse" := ⟨T.ec_NoHouse, T.kv_NoHouse, T.ki_NoHouse_BadHouses.trans (congrArg some (by decide +kernel)), T.ki_NoHouse_BadLines.trans (congrArg some (by decide +kernel)), T.ki_NoHouse_BadCover.trans (congrArg some (by decide +kernel)), T.ki_NoHouse_BadCrowns.trans (congrArg some (by decide +kernel)), T.ki_NoHouse_BadLosses.trans (congrArg some (by decide +kernel)), T.ki_NoHouse_BadAccount.trans (congrArg some (by decide +kernel)), T.ki_NoHouse_Unbacked.trans (congrArg some (by decide +kernel)), T.ki_NoHouse_Short.trans (congrArg some (by decide +kernel)), T.ki_NoHouse_Disagrees.trans (congrArg some (by decide +kernel)), T.ki_NoHouse_NoHouse.trans (congrArg some (by decide +kernel)), T.ki_NoHouse_NoCover.trans (congrArg some (by decide +kernel)), T.ki_NoHouse_NoHappening.trans (congrArg some (by decide +kernel)), T.ki_NoHouse_NoLoss.trans (congrArg some (by decide +kernel)), T.ki_NoHouse_BadDay.trans (congrArg some (by decide +kernel)), T.ki_NoHouse_BadTerms.trans (congrArg some (by decide +kernel)), T.ki_NoHouse_Endless.trans (congrArg some (by decide +kernel)), T.ki_NoHouse_Same.trans (congrArg some (by decide +kernel)), T.ki_NoHouse_Full.trans (congrArg some (by decide +kernel)), T.ki_NoHouse_BadDeed.trans (congrArg some (by decide +kernel)), T.ki_NoHouse_Nothing.trans (congrArg some (by decide +kernel)), T.ki_NoHouse_BadText.trans (congrArg some (by decide +kernel))⟩
section
variable {P : Program} {w : World} {K : Frag} {mg : Str → Option Value} {base : Heap} {A : Adr}
def sp_require_houses (K : Frag) : Sp := fun vs H Q _ => ∃ h : Nat, vs = [.int h] ∧ 1 ≤ h ∧ h ≤ 6 ∧ Q .non H
theorem sc_require_houses : FnScope ["houses"] ["houses"] (defScope s_require_houses) := ⟨rfl, rfl, rfl, by decide +kernel, rfl, by decide +kernel, by decide +kernel⟩
set_option maxHeartbeats 4000000 in
theorem ok_require_houses (T : Txt w K mg A) (hB : BmAt mg base) : FnOk P w K mg base CX0 1 A.a_require_houses A.f_require_houses ["houses"] (sp_require_houses K) := by
  have nd := sc_require_houses.nd
  refine T.F_require_houses.ok sc_require_houses (fun vs H Q E h => ?_) (fun cdv Ar outer s H vs Q E hr h => ?_)
  · obtain ⟨h, rfl, _⟩ := h; rfl
  · skip
    obtain ⟨h, rfl, h1, h6, kk⟩ := h
    refine PSs.rd (pss_one (ps_if (pt_not (pt_chain op_leI op_leI pe_int (pvI 0) (pe_op op_addI (pe_globI rfl T.c_LAST_HOUSE) pe_int)))
      (pss_one ps_never)
      pss_nil)) ?_
    try dsimp only [L2.cxOf, L2.Cx.nox]
    refine ⟨_, rfl, _, _, rfl, rfl, _, rfl, iteD (fun _ => ?_) (fun h => absurd (by omega) h)⟩
    exact ⟨_, _, rfl, rfl, _, _, rfl, rfl, _, rfl, iteND (fun h => absurd (by omega) h) (fun _ => kk)⟩
def sp_require_house (K : Frag) (A : Adr) : Sp := fun vs H Q E => ∃ (h j : Int), vs = [.int h, .int j] ∧ h.natAbs < 2 ^ 100 ∧ j.natAbs < 2 ^ 100 ∧ (0 ≤ j → j < h → Q .non H) ∧ (¬ (0 ≤ j ∧ j < h) → E (.ref A.c_NoHouse) none H)
theorem sc_require_house : FnScope ["houses", "house"] ["houses", "house"] (defScope s_require_house) := ⟨rfl, rfl, rfl, by decide +kernel, rfl, by decide +kernel, by decide +kernel⟩
set_option maxHeartbeats 4000000 in
theorem ok_require_house (T : Txt w K mg A) (hB : BmAt mg base) : FnOk P w K mg base (CXW P w) 1 A.a_require_house A.f_require_house ["houses", "house"] (sp_require_house K A) := by
  have nd := sc_require_house.nd
  refine T.F_require_house.okW sc_require_house (fun vs H Q E h => ?_) (fun cdv Ar outer s H vs Q E hr h => ?_)
  · obtain ⟨h, j, rfl, _⟩ := h; rfl
  · skip
    obtain ⟨h, j, rfl, hh, hj, kk, ee⟩ := h
    have a0 : (Str.empty ++ ("there is no house " : Str)).length ≤ 18 := by decide +kernel
    have a1 := fs_len (i := j) hj a0 (by decide)
    have a2 : ((Str.empty ++ ("there is no house " : Str)) ++ (toString j : String) ++ (" among " : Str)).length ≤ 126 := by
      rw [str_app_len]
      have : (" among " : Str).length = 7 := by decide +kernel
      have := a1.2
      omega
    have a3 := fs_len (i := h) hh a2 (by decide)
    have z1 : (18 : Nat) ≤ sizeLine := by decide
    have z2 : (126 : Nat) ≤ sizeLine := by decide
    refine PSs.rd (pss_one (ps_if (pt_not (pt_chain op_leI op_ltI pe_int (pvI 1) (pvI 0)))
      (pss_one (ps_raise flies rfl rfl T.mc_NoHouse T.x_NoHouse PySem.F.excBase_ValueError (pa_cons (pe_fs (pj_str (pj_int (pvI 1) (pj_str (pj_int (pvI 0) pj_nil))))) pa_nil)))
      pss_nil)) ?_
    refine ⟨_, rfl, _, _, rfl, rfl, _, rfl, iteD (fun h0 => ?_) (fun h0 => ?_)⟩
    · refine ⟨_, rfl, _, _, rfl, rfl, _, rfl, iteND (fun h1 => ?_) (fun h1 => kk h0 h1)⟩
      exact ⟨Nat.le_trans a0 z1, _, rfl, j, rfl, fs_log hj, a1.1, Nat.le_trans a2 z2, _, rfl, h, rfl, fs_log hh, a3.1, a3.1, by show 1 ≤ sizeLine; decide, ee fun z => h1 z.2⟩
    · refine ⟨_, rfl, iteT ?_⟩
      exact ⟨Nat.le_trans a0 z1, _, rfl, j, rfl, fs_log hj, a1.1, Nat.le_trans a2 z2, _, rfl, h, rfl, fs_log hh, a3.1, a3.1, by show 1 ≤ sizeLine; decide, ee fun z => h0 z.1⟩
def sp_is_day (K : Frag) : Sp := fun vs H Q _ => ∃ d : Int, vs = [.int d] ∧ Q (.bl (decide (0 ≤ d ∧ d ≤ 99))) H
theorem sc_is_day : FnScope ["day"] ["day"] (defScope s_is_day) := ⟨rfl, rfl, rfl, by decide +kernel, rfl, by decide +kernel, by decide +kernel⟩
set_option maxHeartbeats 4000000 in
theorem ok_is_day (T : Txt w K mg A) (hB : BmAt mg base) : FnOk P w K mg base CX0 1 A.a_is_day A.f_is_day ["day"] (sp_is_day K) := by
  have nd := sc_is_day.nd
  refine T.F_is_day.ok sc_is_day (fun vs H Q E h => ?_) (fun cdv Ar outer s H vs Q E hr h => ?_)
  · obtain ⟨d, rfl, _⟩ := h; rfl
  · skip
    obtain ⟨d, rfl, kk⟩ := h
    refine PSs.rd (pss_one (ps_ret (pe_chain op_leI op_leI pe_int (pvI 0) (pe_globI rfl T.c_LAST_DAY)))) ?_
    try dsimp only [L2.cxOf, L2.Cx.nox]
    refine ⟨_, rfl, _, _, rfl, rfl, _, rfl, iteD (fun h0 => ?_) (fun h0 => ?_)⟩
    · refine ⟨_, _, rfl, rfl, ?_⟩
      have e : decide (d ≤ 99) = decide (0 ≤ d ∧ d ≤ 99) := by
        have h0' : (0 : Int) ≤ d := h0
        simp [h0']
      show Q (.bl (decide (d ≤ 99))) H
      rw [e]; exact kk
    · have e : false = decide (0 ≤ d ∧ d ≤ 99) := by
        have h0' : ¬ (0 : Int) ≤ d := h0
        simp [h0']
      rw [e]; exact kk
def sp_require_day (K : Frag) (A : Adr) : Sp := fun vs H Q E => ∃ d : Int, vs = [.int d] ∧ (0 ≤ d ∧ d ≤ 99 → Q .non H) ∧ (¬ (0 ≤ d ∧ d ≤ 99) → E (.ref A.c_BadDay) none H)
theorem sc_require_day : FnScope ["day"] ["day"] (defScope s_require_day) := ⟨rfl, rfl, rfl, by decide +kernel, rfl, by decide +kernel, by decide +kernel⟩
set_option maxHeartbeats 4000000 in
theorem ok_require_day (T : Txt w K mg A) (hB : BmAt mg base) : FnOk P w K mg base (CXW P w) 2 A.a_require_day A.f_require_day ["day"] (sp_require_day K A) := by
  have nd := sc_require_day.nd
  have G_is_day := ok_is_day (P := P) (w := w) (base := base) T hB
  refine T.F_require_day.okW sc_require_day (fun vs H Q E h => ?_) (fun cdv Ar outer s H vs Q E hr h => ?_)
  · obtain ⟨d, rfl, _⟩ := h; rfl
  · skip
    obtain ⟨d, rfl, kk, ee⟩ := h
    refine PSs.rd (pss_one (ps_if (pt_not (pt_truth (pe_call (G_is_day.mono (by decide)) hr rfl T.m_is_day T.k_is_day T.d_is_day .nil pass0 (pa_cons (pvI 0) pa_nil)) (fun _ => rfl)))
      (pss_one (ps_raise flies rfl rfl T.mc_BadDay T.x_BadDay PySem.F.excBase_ValueError (pa_cons (pe_fs (pj_str (pj_int (pe_globI rfl T.c_LAST_DAY) pj_nil))) pa_nil)))
      pss_nil)) ?_
    refine ⟨_, rfl, d, rfl, ⟨_, rfl, iteNB (fun e => ?_) (fun e => kk (of_decide_eq_true e))⟩⟩
    exact ⟨by decide +kernel, 99, rfl, by decide, by decide +kernel, by decide +kernel, by show 1 ≤ sizeLine; decide, ee (of_decide_eq_false e)⟩
def sp_require_crowns (K : Frag) (A : Adr) : Sp := fun vs H Q E => ∃ c : Int, vs = [.int c] ∧ (1 ≤ c ∧ c ≤ 100 → Q .non H) ∧ (¬ (1 ≤ c ∧ c ≤ 100) → E (.ref A.c_BadCrowns) none H)
theorem sc_require_crowns : FnScope ["crowns"] ["crowns"] (defScope s_require_crowns) := ⟨rfl, rfl, rfl, by decide +kernel, rfl, by decide +kernel, by decide +kernel⟩
set_option maxHeartbeats 4000000 in
theorem ok_require_crowns (T : Txt w K mg A) (hB : BmAt mg base) : FnOk P w K mg base (CXW P w) 1 A.a_require_crowns A.f_require_crowns ["crowns"] (sp_require_crowns K A) := by
  have nd := sc_require_crowns.nd
  refine T.F_require_crowns.okW sc_require_crowns (fun vs H Q E h => ?_) (fun cdv Ar outer s H vs Q E hr h => ?_)
  · obtain ⟨c, rfl, _⟩ := h; rfl
  · skip
    obtain ⟨c, rfl, kk, ee⟩ := h
    refine PSs.rd (pss_one (ps_if (pt_not (pt_chain op_leI op_leI pe_int (pvI 0) (pe_globI rfl T.c_MOST_CROWNS)))
      (pss_one (ps_raise flies rfl rfl T.mc_BadCrowns T.x_BadCrowns PySem.F.excBase_ValueError (pa_cons (pe_fs (pj_str (pj_int (pe_globI rfl T.c_MOST_CROWNS) (pj_str pj_nil)))) pa_nil)))
      pss_nil)) ?_
    refine ⟨_, rfl, _, _, rfl, rfl, _, rfl, iteD (fun h0 => ?_) (fun h0 => ?_)⟩
    · refine ⟨_, _, rfl, rfl, _, rfl, iteND (fun h1 => ?_) (fun h1 => kk ⟨h0, h1⟩)⟩
      exact ⟨by decide +kernel, 100, rfl, by decide, by decide +kernel, by decide +kernel, by decide +kernel, by show 1 ≤ sizeLine; decide, ee fun z => h1 z.2⟩
    · refine ⟨_, rfl, iteT ?_⟩
      exact ⟨by decide +kernel, 100, rfl, by decide, by decide +kernel, by decide +kernel, by decide +kernel, by show 1 ≤ sizeLine; decide, ee fun z => h0 z.1⟩
def sp_Ring___init__ (K : Frag) (A : Adr) : Sp := fun vs H Q _ => ∃ (x dx : Addr) (h : Nat), vs = [.ref x, .int (h : Nat)] ∧ 1 ≤ h ∧ h ≤ 6 ∧ H x = some (.ins A.c_Ring dx []) ∧ ∀ sg dy lr pp tc H', (∀ b o, b ≠ x → H b = some o → H' b = some o) → H sg = none → H dy = none → H lr = none → H pp = none → H tc = none → dy ≠ lr → Rg0 A.c_Ring K H' x h [] sg dy lr pp tc → Q .non H'
theorem sc_Ring___init__ : FnScope ["self", "houses"] ["self", "houses"] (defScope s_Ring___init__) := ⟨rfl, rfl, rfl, by decide +kernel, rfl, by decide +kernel, by decide +kernel⟩
set_option maxHeartbeats 4000000 in
theorem ok_Ring___init__ (T : Txt w K mg A) (hB : BmAt mg base) : FnOk P w K mg base CX0 2 A.a_Ring___init__ A.f_Ring___init__ ["self", "houses"] (sp_Ring___init__ K A) := by
  have nd := sc_Ring___init__.nd
  have G_require_houses := ok_require_houses (P := P) (w := w) (base := base) T hB
  refine T.F_Ring___init__.ok sc_Ring___init__ (fun vs H Q E h => ?_) (fun cdv Ar outer s H vs Q E hr h => ?_)
  · obtain ⟨x, dx, h, rfl, _⟩ := h; rfl
  · skip
    obtain ⟨x, dx, h, rfl, h1, h6, hx, kk⟩ := h
    refine PSs.rd (pss_cons (ps_expr (pe_call (G_require_houses.mono (by decide)) hr rfl T.m_require_houses T.k_require_houses T.d_require_houses .nil pass0 (pa_cons (pvI 1) pa_nil)))
    (pss_cons (ps_fld (pvI 0) (pvI 1) rfl)
    (pss_cons (ps_fld (pvI 0) (pe_lst pa_nil) rfl)
    (pss_cons (ps_fld (pvI 0) pe_dnewK rfl)
    (pss_cons (ps_fld (pvI 0) pe_dnewK rfl)
    (pss_cons (ps_fld (pvI 0) pe_int rfl)
    (pss_cons (ps_fld (pvI 0) pe_int rfl)
    (pss_cons (ps_fld (pvI 0) (pe_lst pa_nil) rfl)
    (pss_cons (ps_fld (pvI 0) (pe_lst pa_nil) rfl)
    (pss_one (ps_fld (pvI 0) pe_non rfl))))))))))) ?_
    try dsimp only [L2.cxOf, L2.Cx.nox]
    rw [show ∀ v0 v1 : V, L2.start ["self", "houses"] [v0, v1] = [some v0, some v1] from fun _ _ => rfl]
    refine ⟨_, rfl, h, rfl, h1, h6, ?_⟩
    have b0 : ∀ b o, b ≠ x → H b = some o → H b = some o := fun b o _ e => e
    have l0 : ([] : List (Str × V)).length ≤ 0 := Nat.le_refl 0
    have hx0 := hx
    refine ⟨_, rfl, _, rfl, x, _, dx, _, rfl, hx0, T.cl_Ring, T.na_Ring_house_count, Nat.lt_of_le_of_lt l0 (by decide), ?_⟩
    have l1 := Nat.le_trans (length_putF "house_count" (.int (h : Nat)) ([])) (Nat.succ_le_succ l0)
    have hx1 := upd_same (H := H) (a := x) (o := .ins A.c_Ring dx (putF "house_count" (.int (h : Nat)) ([])))
    have b1 : ∀ b o, b ≠ x → H b = some o → upd H x (.ins A.c_Ring dx (putF "house_count" (.int (h : Nat)) ([]))) b = some o := fun b o n e => by rw [upd_ne n]; exact b0 b o n e
    generalize upd H x (.ins A.c_Ring dx (putF "house_count" (.int (h : Nat)) ([]))) = M0 at *
    refine ⟨Nat.zero_le _, fun sg hsg => ?_⟩
    have usg := same_upd (o := .lst []) hsg
    have vsg := upd_same (H := M0) (a := sg) (o := .lst [])
    generalize upd M0 sg (.lst []) = N1 at *
    have hy1 := usg _ _ hx1
    have c1 : ∀ b o, b ≠ x → H b = some o → N1 b = some o := fun b o n e => usg _ _ (b1 b o n e)
    have fsg : H sg = none := by
      cases e : H sg with
      | none => rfl
      | some o => rw [b1 _ o (fun z => by rw [z, hx1] at hsg; cases hsg) e] at hsg; cases hsg
    have nxsg : sg ≠ x := fun z => by rw [z, hx1] at hsg; cases hsg
    refine ⟨_, rfl, x, _, dx, _, rfl, hy1, T.cl_Ring, T.na_Ring_signed, Nat.lt_of_le_of_lt l1 (by decide), ?_⟩
    have l2 := Nat.le_trans (length_putF "signed" (.ref sg) (putF "house_count" (.int (h : Nat)) ([]))) (Nat.succ_le_succ l1)
    have hx2 := upd_same (H := N1) (a := x) (o := .ins A.c_Ring dx (putF "signed" (.ref sg) (putF "house_count" (.int (h : Nat)) ([]))))
    have b2 : ∀ b o, b ≠ x → H b = some o → upd N1 x (.ins A.c_Ring dx (putF "signed" (.ref sg) (putF "house_count" (.int (h : Nat)) ([])))) b = some o := fun b o n e => by rw [upd_ne n]; exact c1 b o n e
    replace vsg : upd N1 x (.ins A.c_Ring dx (putF "signed" (.ref sg) (putF "house_count" (.int (h : Nat)) ([])))) sg = some (.lst []) := by rw [upd_ne nxsg]; exact vsg
    generalize upd N1 x (.ins A.c_Ring dx (putF "signed" (.ref sg) (putF "house_count" (.int (h : Nat)) ([])))) = M1 at *
    have nsg_2 : ∀ b, M1 b = none → sg ≠ b := fun b e z => by rw [← z, vsg] at e; cases e
    intro dy hdy
    have udy := same_upd (o := .dK []) hdy
    have vdy := upd_same (H := M1) (a := dy) (o := .dK [])
    generalize upd M1 dy (.dK []) = N2 at *
    have hy2 := udy _ _ hx2
    have c2 : ∀ b o, b ≠ x → H b = some o → N2 b = some o := fun b o n e => udy _ _ (b2 b o n e)
    replace vsg := udy _ _ vsg
    have fdy : H dy = none := by
      cases e : H dy with
      | none => rfl
      | some o => rw [b2 _ o (fun z => by rw [z, hx2] at hdy; cases hdy) e] at hdy; cases hdy
    have nxdy : dy ≠ x := fun z => by rw [z, hx2] at hdy; cases hdy
    have nsgdy := nsg_2 _ hdy
    refine ⟨_, rfl, x, _, dx, _, rfl, hy2, T.cl_Ring, T.na_Ring_day_of, Nat.lt_of_le_of_lt l2 (by decide), ?_⟩
    have l3 := Nat.le_trans (length_putF "day_of" (.ref dy) (putF "signed" (.ref sg) (putF "house_count" (.int (h : Nat)) ([])))) (Nat.succ_le_succ l2)
    have hx3 := upd_same (H := N2) (a := x) (o := .ins A.c_Ring dx (putF "day_of" (.ref dy) (putF "signed" (.ref sg) (putF "house_count" (.int (h : Nat)) ([])))))
    have b3 : ∀ b o, b ≠ x → H b = some o → upd N2 x (.ins A.c_Ring dx (putF "day_of" (.ref dy) (putF "signed" (.ref sg) (putF "house_count" (.int (h : Nat)) ([]))))) b = some o := fun b o n e => by rw [upd_ne n]; exact c2 b o n e
    replace vsg : upd N2 x (.ins A.c_Ring dx (putF "day_of" (.ref dy) (putF "signed" (.ref sg) (putF "house_count" (.int (h : Nat)) ([]))))) sg = some (.lst []) := by rw [upd_ne nxsg]; exact vsg
    replace vdy : upd N2 x (.ins A.c_Ring dx (putF "day_of" (.ref dy) (putF "signed" (.ref sg) (putF "house_count" (.int (h : Nat)) ([]))))) dy = some (.dK []) := by rw [upd_ne nxdy]; exact vdy
    generalize upd N2 x (.ins A.c_Ring dx (putF "day_of" (.ref dy) (putF "signed" (.ref sg) (putF "house_count" (.int (h : Nat)) ([]))))) = M2 at *
    have nsg_3 : ∀ b, M2 b = none → sg ≠ b := fun b e z => by rw [← z, vsg] at e; cases e
    have ndy_3 : ∀ b, M2 b = none → dy ≠ b := fun b e z => by rw [← z, vdy] at e; cases e
    try dsimp only [List.set_cons_zero, List.set_cons_succ]
    intro lr hlr
    have ulr := same_upd (o := .dK []) hlr
    have vlr := upd_same (H := M2) (a := lr) (o := .dK [])
    generalize upd M2 lr (.dK []) = N3 at *
    have hy3 := ulr _ _ hx3
    have c3 : ∀ b o, b ≠ x → H b = some o → N3 b = some o := fun b o n e => ulr _ _ (b3 b o n e)
    replace vsg := ulr _ _ vsg
    replace vdy := ulr _ _ vdy
    have flr : H lr = none := by
      cases e : H lr with
      | none => rfl
      | some o => rw [b3 _ o (fun z => by rw [z, hx3] at hlr; cases hlr) e] at hlr; cases hlr
    have nxlr : lr ≠ x := fun z => by rw [z, hx3] at hlr; cases hlr
    have nsglr := nsg_3 _ hlr
    have ndylr := ndy_3 _ hlr
    refine ⟨_, rfl, x, _, dx, _, rfl, hy3, T.cl_Ring, T.na_Ring_loss_rows, Nat.lt_of_le_of_lt l3 (by decide), ?_⟩
    have l4 := Nat.le_trans (length_putF "loss_rows" (.ref lr) (putF "day_of" (.ref dy) (putF "signed" (.ref sg) (putF "house_count" (.int (h : Nat)) ([]))))) (Nat.succ_le_succ l3)
    have hx4 := upd_same (H := N3) (a := x) (o := .ins A.c_Ring dx (putF "loss_rows" (.ref lr) (putF "day_of" (.ref dy) (putF "signed" (.ref sg) (putF "house_count" (.int (h : Nat)) ([]))))))
    have b4 : ∀ b o, b ≠ x → H b = some o → upd N3 x (.ins A.c_Ring dx (putF "loss_rows" (.ref lr) (putF "day_of" (.ref dy) (putF "signed" (.ref sg) (putF "house_count" (.int (h : Nat)) ([])))))) b = some o := fun b o n e => by rw [upd_ne n]; exact c3 b o n e
    replace vsg : upd N3 x (.ins A.c_Ring dx (putF "loss_rows" (.ref lr) (putF "day_of" (.ref dy) (putF "signed" (.ref sg) (putF "house_count" (.int (h : Nat)) ([])))))) sg = some (.lst []) := by rw [upd_ne nxsg]; exact vsg
    replace vdy : upd N3 x (.ins A.c_Ring dx (putF "loss_rows" (.ref lr) (putF "day_of" (.ref dy) (putF "signed" (.ref sg) (putF "house_count" (.int (h : Nat)) ([])))))) dy = some (.dK []) := by rw [upd_ne nxdy]; exact vdy
    replace vlr : upd N3 x (.ins A.c_Ring dx (putF "loss_rows" (.ref lr) (putF "day_of" (.ref dy) (putF "signed" (.ref sg) (putF "house_count" (.int (h : Nat)) ([])))))) lr = some (.dK []) := by rw [upd_ne nxlr]; exact vlr
    generalize upd N3 x (.ins A.c_Ring dx (putF "loss_rows" (.ref lr) (putF "day_of" (.ref dy) (putF "signed" (.ref sg) (putF "house_count" (.int (h : Nat)) ([])))))) = M3 at *
    have nsg_4 : ∀ b, M3 b = none → sg ≠ b := fun b e z => by rw [← z, vsg] at e; cases e
    have ndy_4 : ∀ b, M3 b = none → dy ≠ b := fun b e z => by rw [← z, vdy] at e; cases e
    have nlr_4 : ∀ b, M3 b = none → lr ≠ b := fun b e z => by rw [← z, vlr] at e; cases e
    refine ⟨_, rfl, x, _, dx, _, rfl, hx4, T.cl_Ring, T.na_Ring_next_happening, Nat.lt_of_le_of_lt l4 (by decide), ?_⟩
    have l5 := Nat.le_trans (length_putF "next_happening" (.int 0) (putF "loss_rows" (.ref lr) (putF "day_of" (.ref dy) (putF "signed" (.ref sg) (putF "house_count" (.int (h : Nat)) ([])))))) (Nat.succ_le_succ l4)
    have hx5 := upd_same (H := M3) (a := x) (o := .ins A.c_Ring dx (putF "next_happening" (.int 0) (putF "loss_rows" (.ref lr) (putF "day_of" (.ref dy) (putF "signed" (.ref sg) (putF "house_count" (.int (h : Nat)) ([])))))))
    have b5 : ∀ b o, b ≠ x → H b = some o → upd M3 x (.ins A.c_Ring dx (putF "next_happening" (.int 0) (putF "loss_rows" (.ref lr) (putF "day_of" (.ref dy) (putF "signed" (.ref sg) (putF "house_count" (.int (h : Nat)) ([]))))))) b = some o := fun b o n e => by rw [upd_ne n]; exact b4 b o n e
    replace vsg : upd M3 x (.ins A.c_Ring dx (putF "next_happening" (.int 0) (putF "loss_rows" (.ref lr) (putF "day_of" (.ref dy) (putF "signed" (.ref sg) (putF "house_count" (.int (h : Nat)) ([]))))))) sg = some (.lst []) := by rw [upd_ne nxsg]; exact vsg
    replace vdy : upd M3 x (.ins A.c_Ring dx (putF "next_happening" (.int 0) (putF "loss_rows" (.ref lr) (putF "day_of" (.ref dy) (putF "signed" (.ref sg) (putF "house_count" (.int (h : Nat)) ([]))))))) dy = some (.dK []) := by rw [upd_ne nxdy]; exact vdy
    replace vlr : upd M3 x (.ins A.c_Ring dx (putF "next_happening" (.int 0) (putF "loss_rows" (.ref lr) (putF "day_of" (.ref dy) (putF "signed" (.ref sg) (putF "house_count" (.int (h : Nat)) ([]))))))) lr = some (.dK []) := by rw [upd_ne nxlr]; exact vlr
    generalize upd M3 x (.ins A.c_Ring dx (putF "next_happening" (.int 0) (putF "loss_rows" (.ref lr) (putF "day_of" (.ref dy) (putF "signed" (.ref sg) (putF "house_count" (.int (h : Nat)) ([]))))))) = M4 at *
    have nsg_5 : ∀ b, M4 b = none → sg ≠ b := fun b e z => by rw [← z, vsg] at e; cases e
    have ndy_5 : ∀ b, M4 b = none → dy ≠ b := fun b e z => by rw [← z, vdy] at e; cases e
    have nlr_5 : ∀ b, M4 b = none → lr ≠ b := fun b e z => by rw [← z, vlr] at e; cases e
    refine ⟨_, rfl, x, _, dx, _, rfl, hx5, T.cl_Ring, T.na_Ring_next_loss, Nat.lt_of_le_of_lt l5 (by decide), ?_⟩
    have l6 := Nat.le_trans (length_putF "next_loss" (.int 0) (putF "next_happening" (.int 0) (putF "loss_rows" (.ref lr) (putF "day_of" (.ref dy) (putF "signed" (.ref sg) (putF "house_count" (.int (h : Nat)) ([]))))))) (Nat.succ_le_succ l5)
    have hx6 := upd_same (H := M4) (a := x) (o := .ins A.c_Ring dx (putF "next_loss" (.int 0) (putF "next_happening" (.int 0) (putF "loss_rows" (.ref lr) (putF "day_of" (.ref dy) (putF "signed" (.ref sg) (putF "house_count" (.int (h : Nat)) ([]))))))))
    have b6 : ∀ b o, b ≠ x → H b = some o → upd M4 x (.ins A.c_Ring dx (putF "next_loss" (.int 0) (putF "next_happening" (.int 0) (putF "loss_rows" (.ref lr) (putF "day_of" (.ref dy) (putF "signed" (.ref sg) (putF "house_count" (.int (h : Nat)) ([])))))))) b = some o := fun b o n e => by rw [upd_ne n]; exact b5 b o n e
    replace vsg : upd M4 x (.ins A.c_Ring dx (putF "next_loss" (.int 0) (putF "next_happening" (.int 0) (putF "loss_rows" (.ref lr) (putF "day_of" (.ref dy) (putF "signed" (.ref sg) (putF "house_count" (.int (h : Nat)) ([])))))))) sg = some (.lst []) := by rw [upd_ne nxsg]; exact vsg
    replace vdy : upd M4 x (.ins A.c_Ring dx (putF "next_loss" (.int 0) (putF "next_happening" (.int 0) (putF "loss_rows" (.ref lr) (putF "day_of" (.ref dy) (putF "signed" (.ref sg) (putF "house_count" (.int (h : Nat)) ([])))))))) dy = some (.dK []) := by rw [upd_ne nxdy]; exact vdy
    replace vlr : upd M4 x (.ins A.c_Ring dx (putF "next_loss" (.int 0) (putF "next_happening" (.int 0) (putF "loss_rows" (.ref lr) (putF "day_of" (.ref dy) (putF "signed" (.ref sg) (putF "house_count" (.int (h : Nat)) ([])))))))) lr = some (.dK []) := by rw [upd_ne nxlr]; exact vlr
    generalize upd M4 x (.ins A.c_Ring dx (putF "next_loss" (.int 0) (putF "next_happening" (.int 0) (putF "loss_rows" (.ref lr) (putF "day_of" (.ref dy) (putF "signed" (.ref sg) (putF "house_count" (.int (h : Nat)) ([])))))))) = M5 at *
    have nsg_6 : ∀ b, M5 b = none → sg ≠ b := fun b e z => by rw [← z, vsg] at e; cases e
    have ndy_6 : ∀ b, M5 b = none → dy ≠ b := fun b e z => by rw [← z, vdy] at e; cases e
    have nlr_6 : ∀ b, M5 b = none → lr ≠ b := fun b e z => by rw [← z, vlr] at e; cases e
    try dsimp only [List.set_cons_zero, List.set_cons_succ]
    refine ⟨Nat.zero_le _, fun pp hpp => ?_⟩
    have upp := same_upd (o := .lst []) hpp
    have vpp := upd_same (H := M5) (a := pp) (o := .lst [])
    generalize upd M5 pp (.lst []) = N6 at *
    have hy6 := upp _ _ hx6
    have c6 : ∀ b o, b ≠ x → H b = some o → N6 b = some o := fun b o n e => upp _ _ (b6 b o n e)
    replace vsg := upp _ _ vsg
    replace vdy := upp _ _ vdy
    replace vlr := upp _ _ vlr
    have fpp : H pp = none := by
      cases e : H pp with
      | none => rfl
      | some o => rw [b6 _ o (fun z => by rw [z, hx6] at hpp; cases hpp) e] at hpp; cases hpp
    have nxpp : pp ≠ x := fun z => by rw [z, hx6] at hpp; cases hpp
    have nsgpp := nsg_6 _ hpp
    have ndypp := ndy_6 _ hpp
    have nlrpp := nlr_6 _ hpp
    refine ⟨_, rfl, x, _, dx, _, rfl, hy6, T.cl_Ring, T.na_Ring_paid_parts, Nat.lt_of_le_of_lt l6 (by decide), ?_⟩
    have l7 := Nat.le_trans (length_putF "paid_parts" (.ref pp) (putF "next_loss" (.int 0) (putF "next_happening" (.int 0) (putF "loss_rows" (.ref lr) (putF "day_of" (.ref dy) (putF "signed" (.ref sg) (putF "house_count" (.int (h : Nat)) ([])))))))) (Nat.succ_le_succ l6)
    have hx7 := upd_same (H := N6) (a := x) (o := .ins A.c_Ring dx (putF "paid_parts" (.ref pp) (putF "next_loss" (.int 0) (putF "next_happening" (.int 0) (putF "loss_rows" (.ref lr) (putF "day_of" (.ref dy) (putF "signed" (.ref sg) (putF "house_count" (.int (h : Nat)) ([])))))))))
    have b7 : ∀ b o, b ≠ x → H b = some o → upd N6 x (.ins A.c_Ring dx (putF "paid_parts" (.ref pp) (putF "next_loss" (.int 0) (putF "next_happening" (.int 0) (putF "loss_rows" (.ref lr) (putF "day_of" (.ref dy) (putF "signed" (.ref sg) (putF "house_count" (.int (h : Nat)) ([]))))))))) b = some o := fun b o n e => by rw [upd_ne n]; exact c6 b o n e
    replace vsg : upd N6 x (.ins A.c_Ring dx (putF "paid_parts" (.ref pp) (putF "next_loss" (.int 0) (putF "next_happening" (.int 0) (putF "loss_rows" (.ref lr) (putF "day_of" (.ref dy) (putF "signed" (.ref sg) (putF "house_count" (.int (h : Nat)) ([]))))))))) sg = some (.lst []) := by rw [upd_ne nxsg]; exact vsg
    replace vdy : upd N6 x (.ins A.c_Ring dx (putF "paid_parts" (.ref pp) (putF "next_loss" (.int 0) (putF "next_happening" (.int 0) (putF "loss_rows" (.ref lr) (putF "day_of" (.ref dy) (putF "signed" (.ref sg) (putF "house_count" (.int (h : Nat)) ([]))))))))) dy = some (.dK []) := by rw [upd_ne nxdy]; exact vdy
    replace vlr : upd N6 x (.ins A.c_Ring dx (putF "paid_parts" (.ref pp) (putF "next_loss" (.int 0) (putF "next_happening" (.int 0) (putF "loss_rows" (.ref lr) (putF "day_of" (.ref dy) (putF "signed" (.ref sg) (putF "house_count" (.int (h : Nat)) ([]))))))))) lr = some (.dK []) := by rw [upd_ne nxlr]; exact vlr
    replace vpp : upd N6 x (.ins A.c_Ring dx (putF "paid_parts" (.ref pp) (putF "next_loss" (.int 0) (putF "next_happening" (.int 0) (putF "loss_rows" (.ref lr) (putF "day_of" (.ref dy) (putF "signed" (.ref sg) (putF "house_count" (.int (h : Nat)) ([]))))))))) pp = some (.lst []) := by rw [upd_ne nxpp]; exact vpp
    generalize upd N6 x (.ins A.c_Ring dx (putF "paid_parts" (.ref pp) (putF "next_loss" (.int 0) (putF "next_happening" (.int 0) (putF "loss_rows" (.ref lr) (putF "day_of" (.ref dy) (putF "signed" (.ref sg) (putF "house_count" (.int (h : Nat)) ([]))))))))) = M6 at *
    have nsg_7 : ∀ b, M6 b = none → sg ≠ b := fun b e z => by rw [← z, vsg] at e; cases e
    have ndy_7 : ∀ b, M6 b = none → dy ≠ b := fun b e z => by rw [← z, vdy] at e; cases e
    have nlr_7 : ∀ b, M6 b = none → lr ≠ b := fun b e z => by rw [← z, vlr] at e; cases e
    have npp_7 : ∀ b, M6 b = none → pp ≠ b := fun b e z => by rw [← z, vpp] at e; cases e
    refine ⟨Nat.zero_le _, fun tc htc => ?_⟩
    have utc := same_upd (o := .lst []) htc
    have vtc := upd_same (H := M6) (a := tc) (o := .lst [])
    generalize upd M6 tc (.lst []) = N7 at *
    have hy7 := utc _ _ hx7
    have c7 : ∀ b o, b ≠ x → H b = some o → N7 b = some o := fun b o n e => utc _ _ (b7 b o n e)
    replace vsg := utc _ _ vsg
    replace vdy := utc _ _ vdy
    replace vlr := utc _ _ vlr
    replace vpp := utc _ _ vpp
    have ftc : H tc = none := by
      cases e : H tc with
      | none => rfl
      | some o => rw [b7 _ o (fun z => by rw [z, hx7] at htc; cases htc) e] at htc; cases htc
    have nxtc : tc ≠ x := fun z => by rw [z, hx7] at htc; cases htc
    have nsgtc := nsg_7 _ htc
    have ndytc := ndy_7 _ htc
    have nlrtc := nlr_7 _ htc
    have npptc := npp_7 _ htc
    refine ⟨_, rfl, x, _, dx, _, rfl, hy7, T.cl_Ring, T.na_Ring_told_closings, Nat.lt_of_le_of_lt l7 (by decide), ?_⟩
    have l8 := Nat.le_trans (length_putF "told_closings" (.ref tc) (putF "paid_parts" (.ref pp) (putF "next_loss" (.int 0) (putF "next_happening" (.int 0) (putF "loss_rows" (.ref lr) (putF "day_of" (.ref dy) (putF "signed" (.ref sg) (putF "house_count" (.int (h : Nat)) ([]))))))))) (Nat.succ_le_succ l7)
    have hx8 := upd_same (H := N7) (a := x) (o := .ins A.c_Ring dx (putF "told_closings" (.ref tc) (putF "paid_parts" (.ref pp) (putF "next_loss" (.int 0) (putF "next_happening" (.int 0) (putF "loss_rows" (.ref lr) (putF "day_of" (.ref dy) (putF "signed" (.ref sg) (putF "house_count" (.int (h : Nat)) ([]))))))))))
    have b8 : ∀ b o, b ≠ x → H b = some o → upd N7 x (.ins A.c_Ring dx (putF "told_closings" (.ref tc) (putF "paid_parts" (.ref pp) (putF "next_loss" (.int 0) (putF "next_happening" (.int 0) (putF "loss_rows" (.ref lr) (putF "day_of" (.ref dy) (putF "signed" (.ref sg) (putF "house_count" (.int (h : Nat)) ([])))))))))) b = some o := fun b o n e => by rw [upd_ne n]; exact c7 b o n e
    replace vsg : upd N7 x (.ins A.c_Ring dx (putF "told_closings" (.ref tc) (putF "paid_parts" (.ref pp) (putF "next_loss" (.int 0) (putF "next_happening" (.int 0) (putF "loss_rows" (.ref lr) (putF "day_of" (.ref dy) (putF "signed" (.ref sg) (putF "house_count" (.int (h : Nat)) ([])))))))))) sg = some (.lst []) := by rw [upd_ne nxsg]; exact vsg
    replace vdy : upd N7 x (.ins A.c_Ring dx (putF "told_closings" (.ref tc) (putF "paid_parts" (.ref pp) (putF "next_loss" (.int 0) (putF "next_happening" (.int 0) (putF "loss_rows" (.ref lr) (putF "day_of" (.ref dy) (putF "signed" (.ref sg) (putF "house_count" (.int (h : Nat)) ([])))))))))) dy = some (.dK []) := by rw [upd_ne nxdy]; exact vdy
    replace vlr : upd N7 x (.ins A.c_Ring dx (putF "told_closings" (.ref tc) (putF "paid_parts" (.ref pp) (putF "next_loss" (.int 0) (putF "next_happening" (.int 0) (putF "loss_rows" (.ref lr) (putF "day_of" (.ref dy) (putF "signed" (.ref sg) (putF "house_count" (.int (h : Nat)) ([])))))))))) lr = some (.dK []) := by rw [upd_ne nxlr]; exact vlr
    replace vpp : upd N7 x (.ins A.c_Ring dx (putF "told_closings" (.ref tc) (putF "paid_parts" (.ref pp) (putF "next_loss" (.int 0) (putF "next_happening" (.int 0) (putF "loss_rows" (.ref lr) (putF "day_of" (.ref dy) (putF "signed" (.ref sg) (putF "house_count" (.int (h : Nat)) ([])))))))))) pp = some (.lst []) := by rw [upd_ne nxpp]; exact vpp
    replace vtc : upd N7 x (.ins A.c_Ring dx (putF "told_closings" (.ref tc) (putF "paid_parts" (.ref pp) (putF "next_loss" (.int 0) (putF "next_happening" (.int 0) (putF "loss_rows" (.ref lr) (putF "day_of" (.ref dy) (putF "signed" (.ref sg) (putF "house_count" (.int (h : Nat)) ([])))))))))) tc = some (.lst []) := by rw [upd_ne nxtc]; exact vtc
    generalize upd N7 x (.ins A.c_Ring dx (putF "told_closings" (.ref tc) (putF "paid_parts" (.ref pp) (putF "next_loss" (.int 0) (putF "next_happening" (.int 0) (putF "loss_rows" (.ref lr) (putF "day_of" (.ref dy) (putF "signed" (.ref sg) (putF "house_count" (.int (h : Nat)) ([])))))))))) = M7 at *
    have nsg_8 : ∀ b, M7 b = none → sg ≠ b := fun b e z => by rw [← z, vsg] at e; cases e
    have ndy_8 : ∀ b, M7 b = none → dy ≠ b := fun b e z => by rw [← z, vdy] at e; cases e
    have nlr_8 : ∀ b, M7 b = none → lr ≠ b := fun b e z => by rw [← z, vlr] at e; cases e
    have npp_8 : ∀ b, M7 b = none → pp ≠ b := fun b e z => by rw [← z, vpp] at e; cases e
    have ntc_8 : ∀ b, M7 b = none → tc ≠ b := fun b e z => by rw [← z, vtc] at e; cases e
    refine ⟨_, rfl, x, _, dx, _, rfl, hx8, T.cl_Ring, T.na_Ring_reckoning, Nat.lt_of_le_of_lt l8 (by decide), ?_⟩
    have l9 := Nat.le_trans (length_putF "reckoning" .non (putF "told_closings" (.ref tc) (putF "paid_parts" (.ref pp) (putF "next_loss" (.int 0) (putF "next_happening" (.int 0) (putF "loss_rows" (.ref lr) (putF "day_of" (.ref dy) (putF "signed" (.ref sg) (putF "house_count" (.int (h : Nat)) ([])))))))))) (Nat.succ_le_succ l8)
    have hx9 := upd_same (H := M7) (a := x) (o := .ins A.c_Ring dx (putF "reckoning" .non (putF "told_closings" (.ref tc) (putF "paid_parts" (.ref pp) (putF "next_loss" (.int 0) (putF "next_happening" (.int 0) (putF "loss_rows" (.ref lr) (putF "day_of" (.ref dy) (putF "signed" (.ref sg) (putF "house_count" (.int (h : Nat)) ([])))))))))))
    have b9 : ∀ b o, b ≠ x → H b = some o → upd M7 x (.ins A.c_Ring dx (putF "reckoning" .non (putF "told_closings" (.ref tc) (putF "paid_parts" (.ref pp) (putF "next_loss" (.int 0) (putF "next_happening" (.int 0) (putF "loss_rows" (.ref lr) (putF "day_of" (.ref dy) (putF "signed" (.ref sg) (putF "house_count" (.int (h : Nat)) ([]))))))))))) b = some o := fun b o n e => by rw [upd_ne n]; exact b8 b o n e
    replace vsg : upd M7 x (.ins A.c_Ring dx (putF "reckoning" .non (putF "told_closings" (.ref tc) (putF "paid_parts" (.ref pp) (putF "next_loss" (.int 0) (putF "next_happening" (.int 0) (putF "loss_rows" (.ref lr) (putF "day_of" (.ref dy) (putF "signed" (.ref sg) (putF "house_count" (.int (h : Nat)) ([]))))))))))) sg = some (.lst []) := by rw [upd_ne nxsg]; exact vsg
    replace vdy : upd M7 x (.ins A.c_Ring dx (putF "reckoning" .non (putF "told_closings" (.ref tc) (putF "paid_parts" (.ref pp) (putF "next_loss" (.int 0) (putF "next_happening" (.int 0) (putF "loss_rows" (.ref lr) (putF "day_of" (.ref dy) (putF "signed" (.ref sg) (putF "house_count" (.int (h : Nat)) ([]))))))))))) dy = some (.dK []) := by rw [upd_ne nxdy]; exact vdy
    replace vlr : upd M7 x (.ins A.c_Ring dx (putF "reckoning" .non (putF "told_closings" (.ref tc) (putF "paid_parts" (.ref pp) (putF "next_loss" (.int 0) (putF "next_happening" (.int 0) (putF "loss_rows" (.ref lr) (putF "day_of" (.ref dy) (putF "signed" (.ref sg) (putF "house_count" (.int (h : Nat)) ([]))))))))))) lr = some (.dK []) := by rw [upd_ne nxlr]; exact vlr
    replace vpp : upd M7 x (.ins A.c_Ring dx (putF "reckoning" .non (putF "told_closings" (.ref tc) (putF "paid_parts" (.ref pp) (putF "next_loss" (.int 0) (putF "next_happening" (.int 0) (putF "loss_rows" (.ref lr) (putF "day_of" (.ref dy) (putF "signed" (.ref sg) (putF "house_count" (.int (h : Nat)) ([]))))))))))) pp = some (.lst []) := by rw [upd_ne nxpp]; exact vpp
    replace vtc : upd M7 x (.ins A.c_Ring dx (putF "reckoning" .non (putF "told_closings" (.ref tc) (putF "paid_parts" (.ref pp) (putF "next_loss" (.int 0) (putF "next_happening" (.int 0) (putF "loss_rows" (.ref lr) (putF "day_of" (.ref dy) (putF "signed" (.ref sg) (putF "house_count" (.int (h : Nat)) ([]))))))))))) tc = some (.lst []) := by rw [upd_ne nxtc]; exact vtc
    generalize upd M7 x (.ins A.c_Ring dx (putF "reckoning" .non (putF "told_closings" (.ref tc) (putF "paid_parts" (.ref pp) (putF "next_loss" (.int 0) (putF "next_happening" (.int 0) (putF "loss_rows" (.ref lr) (putF "day_of" (.ref dy) (putF "signed" (.ref sg) (putF "house_count" (.int (h : Nat)) ([]))))))))))) = M8 at *
    have nsg_9 : ∀ b, M8 b = none → sg ≠ b := fun b e z => by rw [← z, vsg] at e; cases e
    have ndy_9 : ∀ b, M8 b = none → dy ≠ b := fun b e z => by rw [← z, vdy] at e; cases e
    have nlr_9 : ∀ b, M8 b = none → lr ≠ b := fun b e z => by rw [← z, vlr] at e; cases e
    have npp_9 : ∀ b, M8 b = none → pp ≠ b := fun b e z => by rw [← z, vpp] at e; cases e
    have ntc_9 : ∀ b, M8 b = none → tc ≠ b := fun b e z => by rw [← z, vtc] at e; cases e
    try dsimp only [List.set_cons_zero, List.set_cons_succ]
    exact kk sg dy lr pp tc M8 b9 fsg fdy flr fpp ftc ndylr ⟨⟨dx, _, [], [], hx9, RgO.mk9, vsg, .nil, vpp, rfl⟩, vdy, vlr, vtc, nsgpp, nsgtc⟩
def sp_Ring_require_happening (K : Frag) (A : Adr) : Sp := fun vs H Q E => ∃ (x : Addr) (n : Int) (h : Nat) (dz : List (Int × Int)) (lz : List Ls) (nh nl : Nat) (sg dy lr pp tc : Addr), vs = [.ref x, .int n] ∧ RgD A.c_Ring K H x h dz lz nh nl sg dy lr pp tc ∧ n.natAbs < 2 ^ 100 ∧ (n ∈ dz.map (·.1) → Q .non H) ∧ (¬ n ∈ dz.map (·.1) → E (.ref A.c_NoHappening) none H)
theorem sc_Ring_require_happening : FnScope ["self", "happening"] ["self", "happening"] (defScope s_Ring_require_happening) := ⟨rfl, rfl, rfl, by decide +kernel, rfl, by decide +kernel, by decide +kernel⟩
set_option maxHeartbeats 4000000 in
theorem ok_Ring_require_happening (T : Txt w K mg A) (hB : BmAt mg base) : FnOk P w K mg base (CXW P w) 1 A.a_Ring_require_happening A.f_Ring_require_happening ["self", "happening"] (sp_Ring_require_happening K A) := by
  have nd := sc_Ring_require_happening.nd
  refine T.F_Ring_require_happening.okW sc_Ring_require_happening (fun vs H Q E h => ?_) (fun cdv Ar outer s H vs Q E hr h => ?_)
  · obtain ⟨x, n, h, dz, lz, nh, nl, sg, dy, lr, pp, tc, rfl, _⟩ := h; rfl
  · skip
    obtain ⟨x, n, h, dz, lz, nh, nl, sg, dy, lr, pp, tc, rfl, R, hn, kk, ee⟩ := h
    obtain ⟨dx, fs, hx, O⟩ := R.obj
    have a0 : (Str.empty ++ ("no happening " : Str)).length ≤ 13 := by decide +kernel
    have a1 := fs_len (i := n) hn a0 (by decide)
    have a2 : ((Str.empty ++ ("no happening " : Str)) ++ (toString n : String) ++ (" stands" : Str)).length ≤ 126 := by
      rw [str_app_len]
      have : (" stands" : Str).length = 7 := by decide +kernel
      have := a1.2
      omega
    have z1 : (13 : Nat) ≤ sizeLine := by decide
    have z2 : (126 : Nat) ≤ sizeLine := by decide
    refine PSs.rd (pss_one (ps_if (pt_cmpR (op_dnotin hr.units) (pvI 1) (pe_fld (pvI 0) rfl) (by with_unfolding_all rfl))
      (pss_one (ps_raise flies rfl rfl T.mc_NoHappening T.x_NoHappening PySem.F.excBase_ValueError (pa_cons (pe_fs (pj_str (pj_int (pvI 1) (pj_str pj_nil)))) pa_nil)))
      pss_nil)) ?_
    refine ⟨_, rfl, _, rfl, x, _, dx, fs, _, rfl, hx, T.cl_Ring, T.na_Ring_day_of, O.dy_, dy, _, rfl, DGet.k (k := Sum.inl n) R.hdy, _, rfl, iteNB (fun z => ?_) (fun z => ?_)⟩
    · have hnn : ¬ n ∈ dz.map (·.1) := fun y => by rw [(key_mem (dayKV_keys dz)).mpr y] at z; cases z
      exact ⟨Nat.le_trans a0 z1, _, rfl, n, rfl, fs_log hn, a1.1, Nat.le_trans a2 z2, Nat.le_trans a2 z2, by show 1 ≤ sizeLine; decide, ee hnn⟩
    · exact kk ((key_mem (dayKV_keys dz)).mp z)
def sp_Ring_require_loss (K : Frag) (A : Adr) : Sp := fun vs H Q _ => ∃ (x : Addr) (n : Int) (h : Nat) (dz : List (Int × Int)) (lz : List Ls) (nh nl : Nat) (sg dy lr pp tc : Addr), vs = [.ref x, .int n] ∧ RgD A.c_Ring K H x h dz lz nh nl sg dy lr pp tc ∧ n ∈ lz.map (·.1) ∧ Q .non H
theorem sc_Ring_require_loss : FnScope ["self", "loss"] ["self", "loss"] (defScope s_Ring_require_loss) := ⟨rfl, rfl, rfl, by decide +kernel, rfl, by decide +kernel, by decide +kernel⟩
set_option maxHeartbeats 4000000 in
theorem ok_Ring_require_loss (T : Txt w K mg A) (hB : BmAt mg base) : FnOk P w K mg base CX0 1 A.a_Ring_require_loss A.f_Ring_require_loss ["self", "loss"] (sp_Ring_require_loss K A) := by
  have nd := sc_Ring_require_loss.nd
  refine T.F_Ring_require_loss.ok sc_Ring_require_loss (fun vs H Q E h => ?_) (fun cdv Ar outer s H vs Q E hr h => ?_)
  · obtain ⟨x, n, h, dz, lz, nh, nl, sg, dy, lr, pp, tc, rfl, _⟩ := h; rfl
  · skip
    obtain ⟨x, n, h, dz, lz, nh, nl, sg, dy, lr, pp, tc, rfl, R, hn, kk⟩ := h
    obtain ⟨dx, fs, hx, O⟩ := R.obj
    obtain ⟨kvs, hk, hL⟩ := R.hlr
    have ek : kvs.map (·.1) = (lz.map (·.1)).map (Sum.inl : Int → Key) := by rw [hL.keys, List.map_map]; rfl
    refine PSs.rd (pss_one (ps_if (pt_cmpR (op_dnotin hr.units) (pvI 1) (pe_fld (pvI 0) rfl) (by with_unfolding_all rfl))
      (pss_one ps_never)
      pss_nil)) ?_
    try dsimp only [L2.cxOf, L2.Cx.nox]
    refine ⟨_, rfl, _, rfl, x, _, dx, fs, _, rfl, hx, T.cl_Ring, T.na_Ring_loss_rows, O.lr_, lr, _, rfl, DGet.k (k := Sum.inl n) hk, _, rfl, iteNB (fun z => ?_) (fun z => ?_)⟩
    · rw [(key_mem ek).mpr hn] at z; cases z
    · exact kk
def sp_Ring_happen (K : Frag) (A : Adr) : Sp := fun vs H Q E => ∃ (x : Addr) (d : Int) (h : Nat) (dz : List (Int × Int)) (lz : List Ls) (nh nl : Nat) (sg dy lr pp tc : Addr), vs = [.ref x, .int d] ∧ RgD A.c_Ring K H x h dz lz nh nl sg dy lr pp tc ∧ nh ≤ 1000 ∧
  (¬ (0 ≤ d ∧ d ≤ 99) → E (.ref A.c_BadDay) none H) ∧ (0 ≤ d ∧ d ≤ 99 → dz.length = 12 → E (.ref A.c_Full) none H) ∧
  (0 ≤ d ∧ d ≤ 99 → dz.length < 12 → ∀ H', SameX [x, dy] H H' → SameU H H' → RgD A.c_Ring K H' x h (dz ++ [((nh : Int), d)]) lz (nh + 1) nl sg dy lr pp tc → Q (.int (nh : Nat)) H')
theorem sc_Ring_happen : FnScope ["self", "day", "happening"] ["self", "day"] (defScope s_Ring_happen) := ⟨rfl, rfl, rfl, by decide +kernel, rfl, by decide +kernel, by decide +kernel⟩
set_option maxHeartbeats 4000000 in
theorem ok_Ring_happen (T : Txt w K mg A) (hB : BmAt mg base) : FnOk P w K mg base (CXW P w) 3 A.a_Ring_happen A.f_Ring_happen ["self", "day"] (sp_Ring_happen K A) := by
  have nd := sc_Ring_happen.nd
  have G_require_day := ok_require_day (P := P) (w := w) (base := base) T hB
  refine T.F_Ring_happen.okW sc_Ring_happen (fun vs H Q E h => ?_) (fun cdv Ar outer s H vs Q E hr h => ?_)
  · obtain ⟨x, d, h, dz, lz, nh, nl, sg, dy, lr, pp, tc, rfl, _⟩ := h; rfl
  · skip
    obtain ⟨x, d, h, dz, lz, nh, nl, sg, dy, lr, pp, tc, rfl, R, hnh, eb, ef, kk⟩ := h
    obtain ⟨dx, fs, hx, O⟩ := R.obj
    obtain ⟨kvs, hk, hL⟩ := R.hlr
    refine PSs.rd (pss_cons (ps_expr (pe_call (G_require_day.mono (by decide)) hr rfl T.m_require_day T.k_require_day T.d_require_day .nil (passW flies (fun _ _ h => h)) (pa_cons (pvI 1) pa_nil)))
    (pss_cons (ps_if (pt_cmpR op_eq (pe_callB call_lenD rfl T.b_len PySem.boot_len (pa_cons (pe_fld (pvI 0) rfl) pa_nil)) (pe_globI rfl T.c_MOST_HAPPENINGS) (nomark _))
      (pss_one (ps_raise flies rfl rfl T.mc_Full T.x_Full PySem.F.excBase_ValueError (pa_cons (pe_fs (pj_str (pj_int (pe_globI rfl T.c_MOST_HAPPENINGS) (pj_str pj_nil)))) pa_nil)))
      pss_nil)
    (pss_cons (ps_set (i := 2) nd rfl (Or.inl rfl) (pe_fld (pvI 0) rfl))
    (pss_cons (ps_dput (lt1 hr.units) (pe_fld (pvI 0) rfl) (pvI 2) (pvI 1) rfl)
    (pss_cons (ps_fldaug (pvI 0) pe_int ip_add)
    (pss_cons (ps_fld (pvI 0) pe_non rfl)
    (pss_one (ps_ret (pvI 2))))))))) ?_
    rw [show ∀ v0 v1 : V, L2.start ["self", "day", "happening"] [v0, v1] = [some v0, some v1, none] from fun _ _ => rfl]
    refine ⟨_, rfl, d, rfl, fun hd => ?_, fun hd => eb hd⟩
    refine ⟨_, rfl, x, _, dx, fs, _, rfl, hx, T.cl_Ring, T.na_Ring_day_of, O.dy_, dy, _, rfl, R.hdy, rfl, _, rfl, iteD (fun z => ?_) (fun z => ?_)⟩
    · have hl : dz.length = 12 := by have := V.int.inj z; rw [dayKV_len] at this; omega
      exact ⟨by decide +kernel, 12, rfl, by decide, by decide +kernel, by decide +kernel, by decide +kernel, by show 1 ≤ sizeLine; decide, ef hd hl⟩
    have hl : dz.length < 12 := by
      have : dz.length ≠ 12 := fun y => z (by rw [dayKV_len, y]; rfl)
      have := R.d12
      omega
    refine ⟨_, rfl, x, _, dx, fs, _, rfl, hx, T.cl_Ring, T.na_Ring_next_happening, O.nh_, ?_⟩
    try dsimp only [List.set_cons_zero, List.set_cons_succ]
    have hkn : valV (dayKV dz) (Sum.inl (nh : Int)) = none := by
      cases e : valV (dayKV dz) (Sum.inl (nh : Int)) with
      | none => rfl
      | some v =>
        have := (key_mem (n := (nh : Int)) (dayKV_keys dz)).mp (by rw [e]; rfl)
        refine byC fun hG => ?_
        obtain ⟨q, hq, e2⟩ := List.mem_map.mp this
        have := (R.dlt q hq).2
        refine hG ?_
        omega
    refine ⟨_, rfl, _, rfl, x, _, dx, fs, _, rfl, hx, T.cl_Ring, T.na_Ring_day_of, O.dy_, _, rfl, dy, _, rfl, DPut.k (k := Sum.inl (nh : Int)) R.hdy (small_line (by rw [dayKV_len]; omega)), ?_⟩
    rw [putK_new _ hkn, ← dayKV_snoc]
    have nxd : x ≠ dy := fun z => by rw [z, R.hdy] at hx; cases hx
    have nxl : x ≠ lr := fun z => by rw [z, hk] at hx; cases hx
    have x1 : SameX [x, dy] H (upd H dy (.dK (dayKV (dz ++ [((nh : Int), d)])))) := SameX.upd (List.mem_cons_of_mem _ List.mem_cons_self)
    have r1 := upd_same (H := H) (a := dy) (o := .dK (dayKV (dz ++ [((nh : Int), d)])))
    have hx1 : upd H dy (.dK (dayKV (dz ++ [((nh : Int), d)]))) x = some (.ins A.c_Ring dx fs) := by rw [upd_ne nxd]; exact hx
    have hk1 : upd H dy (.dK (dayKV (dz ++ [((nh : Int), d)]))) lr = some (.dK kvs) := by rw [upd_ne R.ne.symm]; exact hk
    generalize upd H dy (.dK (dayKV (dz ++ [((nh : Int), d)]))) = H1 at *
    refine ⟨_, rfl, x, _, dx, fs, _, rfl, hx1, T.cl_Ring, T.na_Ring_next_happening, O.nh_, _, _, rfl, rfl, dx, fs, hx1, Nat.lt_of_le_of_lt O.len (by decide), ?_⟩
    have O1 := O.setNh ((nh : Int) + 1)
    refine ⟨_, rfl, x, _, dx, _, rfl, upd_same, T.cl_Ring, T.na_Ring_reckoning, Nat.lt_of_le_of_lt O1.len (by decide), ?_⟩
    have O2 := O1.setR .non
    have r2 := upd_same (H := upd H1 x (.ins A.c_Ring dx (putF "next_happening" (.int ((nh : Int) + 1)) fs))) (a := x) (o := .ins A.c_Ring dx (putF "reckoning" .non (putF "next_happening" (.int ((nh : Int) + 1)) fs)))
    have u2 : ∀ b o, b ≠ x → H1 b = some o → upd (upd H1 x (.ins A.c_Ring dx (putF "next_happening" (.int ((nh : Int) + 1)) fs))) x (.ins A.c_Ring dx (putF "reckoning" .non (putF "next_happening" (.int ((nh : Int) + 1)) fs))) b = some o := fun b o n e => by rw [upd_ne n, upd_ne n]; exact e
    generalize upd (upd H1 x (.ins A.c_Ring dx (putF "next_happening" (.int ((nh : Int) + 1)) fs))) x (.ins A.c_Ring dx (putF "reckoning" .non (putF "next_happening" (.int ((nh : Int) + 1)) fs))) = H2 at *
    refine ⟨_, rfl, ?_⟩
    have sx : SameX [x, dy] H H2 := fun b o n e => u2 b o (fun z => n (by rw [z]; exact List.mem_cons_self)) (x1 b o n e)
    have su : SameU H H2 := SameX.u sx fun b hb => by
      rcases List.mem_cons.mp hb with z | z
      · rw [z, hx]; exact ⟨(fun _ z => by cases z), (fun _ _ z => by cases z)⟩
      · rw [List.mem_singleton.mp z, R.hdy]; exact ⟨(fun _ z => by cases z), (fun _ _ z => by cases z)⟩
    have en : ((nh + 1 : Nat) : Int) = (nh : Int) + 1 := by omega
    refine kk hd hl H2 sx su ⟨⟨dx, _, r2, by rw [en]; exact O2⟩, u2 _ _ nxd.symm r1, ⟨kvs, u2 _ _ nxl.symm hk1, LossAt.u su hL⟩, fun q hq => ?_, R.llt, by rw [List.length_append, List.length_singleton]; omega, R.l30, R.ne, by rw [List.map_append]; exact nd_snoc R.dnd (fun m hm => by show m < (nh : Int); obtain ⟨q, hq, e⟩ := List.mem_map.mp hm; have := (R.dlt q hq).2; omega), R.lnd⟩
    rcases List.mem_append.mp hq with hq | hq
    · have := R.dlt q hq; omega
    · rw [List.mem_singleton.mp hq]; show 0 ≤ (nh : Int) ∧ (nh : Int) < ((nh + 1 : Nat) : Int); omega
def sp_Ring_lose (K : Frag) (A : Adr) : Sp := fun vs H Q E => ∃ (x : Addr) (a ho c : Int) (h : Nat) (dz : List (Int × Int)) (lz : List Ls) (nh nl : Nat) (sg dy lr pp tc : Addr), vs = [.ref x, .int a, .int ho, .int c] ∧ RgD A.c_Ring K H x h dz lz nh nl sg dy lr pp tc ∧ h ≤ 6 ∧ nl ≤ 1000 ∧ a.natAbs < 2 ^ 100 ∧ ho.natAbs < 2 ^ 100 ∧
  (¬ a ∈ dz.map (·.1) → E (.ref A.c_NoHappening) none H) ∧ (a ∈ dz.map (·.1) → ¬ (0 ≤ ho ∧ ho < (h : Int)) → E (.ref A.c_NoHouse) none H) ∧ (a ∈ dz.map (·.1) → 0 ≤ ho ∧ ho < (h : Int) → ¬ (1 ≤ c ∧ c ≤ 100) → E (.ref A.c_BadCrowns) none H) ∧
  (a ∈ dz.map (·.1) → 0 ≤ ho ∧ ho < (h : Int) → 1 ≤ c ∧ c ≤ 100 → lz.length = 30 → E (.ref A.c_Full) none H) ∧
  (a ∈ dz.map (·.1) → 0 ≤ ho ∧ ho < (h : Int) → 1 ≤ c ∧ c ≤ 100 → lz.length < 30 → ∀ H', SameX [x, lr] H H' → SameU H H' → RgD A.c_Ring K H' x h dz (lz ++ [((nl : Int), a, ho, c)]) nh (nl + 1) sg dy lr pp tc → Q (.int (nl : Nat)) H')
theorem sc_Ring_lose : FnScope ["self", "happening", "house", "crowns", "loss"] ["self", "happening", "house", "crowns"] (defScope s_Ring_lose) := ⟨rfl, rfl, rfl, by decide +kernel, rfl, by decide +kernel, by decide +kernel⟩
set_option maxHeartbeats 4000000 in
theorem ok_Ring_lose (T : Txt w K mg A) (hB : BmAt mg base) : FnOk P w K mg base (CXW P w) 2 A.a_Ring_lose A.f_Ring_lose ["self", "happening", "house", "crowns"] (sp_Ring_lose K A) := by
  have nd := sc_Ring_lose.nd
  have G_Ring_require_happening := ok_Ring_require_happening (P := P) (w := w) (base := base) T hB
  have G_require_crowns := ok_require_crowns (P := P) (w := w) (base := base) T hB
  have G_require_house := ok_require_house (P := P) (w := w) (base := base) T hB
  refine T.F_Ring_lose.okW sc_Ring_lose (fun vs H Q E h => ?_) (fun cdv Ar outer s H vs Q E hr h => ?_)
  · obtain ⟨x, a, ho, c, h, dz, lz, nh, nl, sg, dy, lr, pp, tc, rfl, _⟩ := h; rfl
  · skip
    obtain ⟨x, a, ho, c, h, dz, lz, nh, nl, sg, dy, lr, pp, tc, rfl, R, hh6, hnl, ha, hho, e1, e2, e3, e4, kk⟩ := h
    obtain ⟨dx, fs, hx, O⟩ := R.obj
    obtain ⟨kvs, hk, hL⟩ := R.hlr
    have hkl := hL.len
    refine PSs.rd (pss_cons (ps_expr (pe_meth (pvI 0) T.cl_Ring T.me_Ring_require_happening (G_Ring_require_happening.mono (by decide)) hr T.d_Ring_require_happening .nil (passW flies (fun _ _ h => h)) (pa_cons (pvI 1) pa_nil)))
    (pss_cons (ps_expr (pe_call (G_require_house.mono (by decide)) hr rfl T.m_require_house T.k_require_house T.d_require_house .nil (passW flies (fun _ _ h => h)) (pa_cons (pe_fld (pvI 0) rfl) (pa_cons (pvI 2) pa_nil))))
    (pss_cons (ps_expr (pe_call (G_require_crowns.mono (by decide)) hr rfl T.m_require_crowns T.k_require_crowns T.d_require_crowns .nil (passW flies (fun _ _ h => h)) (pa_cons (pvI 3) pa_nil)))
    (pss_cons (ps_if (pt_cmpR op_eq (pe_callB call_lenD rfl T.b_len PySem.boot_len (pa_cons (pe_fld (pvI 0) rfl) pa_nil)) (pe_globI rfl T.c_MOST_LOSSES) (nomark _))
      (pss_one (ps_raise flies rfl rfl T.mc_Full T.x_Full PySem.F.excBase_ValueError (pa_cons (pe_fs (pj_str (pj_int (pe_globI rfl T.c_MOST_LOSSES) (pj_str pj_nil)))) pa_nil)))
      pss_nil)
    (pss_cons (ps_set (i := 4) nd rfl (Or.inl rfl) (pe_fld (pvI 0) rfl))
    (pss_cons (ps_dput (lt1 hr.units) (pe_fld (pvI 0) rfl) (pvI 4) (pe_tup (pa_cons (pvI 1) (pa_cons (pvI 2) (pa_cons (pvI 3) pa_nil)))) rfl)
    (pss_cons (ps_fldaug (pvI 0) pe_int ip_add)
    (pss_cons (ps_fld (pvI 0) pe_non rfl)
    (pss_one (ps_ret (pvI 4))))))))))) ?_
    rw [show ∀ v0 v1 v2 v3 : V, L2.start ["self", "happening", "house", "crowns", "loss"] [v0, v1, v2, v3] = [some v0, some v1, some v2, some v3, none] from fun _ _ _ _ => rfl]
    refine ⟨_, rfl, x, dx, _, rfl, hx, O.no "require_happening" (by decide +kernel), _, rfl, x, a, h, dz, lz, nh, nl, sg, dy, lr, pp, tc, rfl, R, ha, fun ha1 => ?_, e1⟩
    refine ⟨_, rfl, x, _, dx, fs, _, rfl, hx, T.cl_Ring, T.na_Ring_house_count, O.hc, _, rfl, (h : Int), ho, rfl, by omega, hho, fun h0 h1 => ?_, fun z => e2 ha1 z⟩
    refine ⟨_, rfl, c, rfl, fun hc => ?_, fun z => e3 ha1 ⟨h0, h1⟩ z⟩
    refine ⟨_, rfl, x, _, dx, fs, _, rfl, hx, T.cl_Ring, T.na_Ring_loss_rows, O.lr_, lr, _, rfl, hk, rfl, _, rfl, iteD (fun z => ?_) (fun z => ?_)⟩
    · have hl : lz.length = 30 := by have := V.int.inj z; omega
      exact ⟨by decide +kernel, 30, rfl, by decide, by decide +kernel, by decide +kernel, by decide +kernel, by show 1 ≤ sizeLine; decide, e4 ha1 ⟨h0, h1⟩ hc hl⟩
    have hl : lz.length < 30 := by
      have : lz.length ≠ 30 := fun y => z (by rw [hkl, y]; rfl)
      have := R.l30
      omega
    refine ⟨_, rfl, x, _, dx, fs, _, rfl, hx, T.cl_Ring, T.na_Ring_next_loss, O.nl_, ?_⟩
    try dsimp only [List.set_cons_zero, List.set_cons_succ]
    have ek : kvs.map (·.1) = (lz.map (·.1)).map (Sum.inl : Int → Key) := by rw [hL.keys, List.map_map]; rfl
    have hkn : valV kvs (Sum.inl (nl : Int)) = none := by
      cases e : valV kvs (Sum.inl (nl : Int)) with
      | none => rfl
      | some v =>
        have := (key_mem (n := (nl : Int)) ek).mp (by rw [e]; rfl)
        refine byC fun hG => ?_
        obtain ⟨q, hq, e2⟩ := List.mem_map.mp this
        have := (R.llt q hq).2
        refine hG ?_
        omega
    refine ⟨_, rfl, _, rfl, _, rfl, by show 3 ≤ sizeLine; decide, fun q hq => ?_⟩
    have s0 := same_upd (o := .tup [.int a, .int ho, .int c]) hq
    have r0 := upd_same (H := H) (a := q) (o := .tup [.int a, .int ho, .int c])
    generalize upd H q (.tup [.int a, .int ho, .int c]) = H0 at *
    have hx0 := s0 _ _ hx
    have hk0 := s0 _ _ hk
    refine ⟨_, rfl, x, _, dx, fs, _, rfl, hx0, T.cl_Ring, T.na_Ring_loss_rows, O.lr_, _, rfl, lr, _, rfl, DPut.k (k := Sum.inl (nl : Int)) hk0 (small_line (by omega)), ?_⟩
    rw [putK_new _ hkn]
    have nxl : x ≠ lr := fun z => by rw [z, hk] at hx; cases hx
    have nxd : x ≠ dy := fun z => by rw [z, R.hdy] at hx; cases hx
    have nql : q ≠ lr := fun z => by rw [z, hk] at hq; cases hq
    have nqx : q ≠ x := fun z => by rw [z, hx] at hq; cases hq
    have r1 := upd_same (H := H0) (a := lr) (o := .dK (kvs ++ [(Sum.inl (nl : Int), V.ref q)]))
    have u1 : ∀ b o, b ≠ lr → H0 b = some o → upd H0 lr (.dK (kvs ++ [(Sum.inl (nl : Int), V.ref q)])) b = some o := fun b o n e => by rw [upd_ne n]; exact e
    generalize upd H0 lr (.dK (kvs ++ [(Sum.inl (nl : Int), V.ref q)])) = H1 at *
    have hx1 := u1 _ _ nxl hx0
    refine ⟨_, rfl, x, _, dx, fs, _, rfl, hx1, T.cl_Ring, T.na_Ring_next_loss, O.nl_, _, _, rfl, rfl, dx, fs, hx1, Nat.lt_of_le_of_lt O.len (by decide), ?_⟩
    have O1 := O.setNl ((nl : Int) + 1)
    refine ⟨_, rfl, x, _, dx, _, rfl, upd_same, T.cl_Ring, T.na_Ring_reckoning, Nat.lt_of_le_of_lt O1.len (by decide), ?_⟩
    have O2 := O1.setR .non
    have r2 := upd_same (H := upd H1 x (.ins A.c_Ring dx (putF "next_loss" (.int ((nl : Int) + 1)) fs))) (a := x) (o := .ins A.c_Ring dx (putF "reckoning" .non (putF "next_loss" (.int ((nl : Int) + 1)) fs)))
    have u2 : ∀ b o, b ≠ x → H1 b = some o → upd (upd H1 x (.ins A.c_Ring dx (putF "next_loss" (.int ((nl : Int) + 1)) fs))) x (.ins A.c_Ring dx (putF "reckoning" .non (putF "next_loss" (.int ((nl : Int) + 1)) fs))) b = some o := fun b o n e => by rw [upd_ne n, upd_ne n]; exact e
    generalize upd (upd H1 x (.ins A.c_Ring dx (putF "next_loss" (.int ((nl : Int) + 1)) fs))) x (.ins A.c_Ring dx (putF "reckoning" .non (putF "next_loss" (.int ((nl : Int) + 1)) fs))) = H2 at *
    refine ⟨_, rfl, ?_⟩
    have sx : SameX [x, lr] H H2 := fun b o n e => u2 b o (fun z => n (by rw [z]; exact List.mem_cons_self)) (u1 b o (fun z => n (by rw [z]; exact List.mem_cons_of_mem _ List.mem_cons_self)) (s0 _ _ e))
    have su : SameU H H2 := SameX.u sx fun b hb => by
      rcases List.mem_cons.mp hb with z | z
      · rw [z, hx]; exact ⟨(fun _ z => by cases z), (fun _ _ z => by cases z)⟩
      · rw [List.mem_singleton.mp z, hk]; exact ⟨(fun _ z => by cases z), (fun _ _ z => by cases z)⟩
    have en : ((nl + 1 : Nat) : Int) = (nl : Int) + 1 := by omega
    have hq2 : SqT K H2 q [.int a, .int ho, .int c] := SqT.of (u2 _ _ nqx (u1 _ _ nql r0))
    refine kk ha1 ⟨h0, h1⟩ hc hl H2 sx su ⟨⟨dx, _, r2, by rw [en]; exact O2⟩, u2 _ _ nxd.symm (u1 _ _ R.ne (s0 _ _ R.hdy)), ⟨_, u2 _ _ nxl.symm r1, (LossAt.u su hL).snoc hq2⟩, R.dlt, fun q hq => ?_, R.d12, by rw [List.length_append, List.length_singleton]; omega, R.ne, R.dnd, by rw [List.map_append]; exact nd_snoc R.lnd (fun m hm => by show m < (nl : Int); obtain ⟨q, hq, e⟩ := List.mem_map.mp hm; have := (R.llt q hq).2; omega)⟩
    rcases List.mem_append.mp hq with hq | hq
    · have := R.llt q hq; omega
    · rw [List.mem_singleton.mp hq]; show 0 ≤ (nl : Int) ∧ (nl : Int) < ((nl + 1 : Nat) : Int); omega
def sp_Ring_strike (K : Frag) (A : Adr) : Sp := fun vs H Q _ => ∃ (x : Addr) (n : Int) (h : Nat) (dz : List (Int × Int)) (lz : List Ls) (nh nl : Nat) (sg dy lr pp tc : Addr), vs = [.ref x, .int n] ∧ RgD A.c_Ring K H x h dz lz nh nl sg dy lr pp tc ∧ n ∈ lz.map (·.1) ∧
  ∀ H', SameX [x, lr] H H' → SameU H H' → RgD A.c_Ring K H' x h dz (lz.filter fun l => decide (l.1 ≠ n)) nh nl sg dy lr pp tc → Q .non H'
theorem sc_Ring_strike : FnScope ["self", "loss"] ["self", "loss"] (defScope s_Ring_strike) := ⟨rfl, rfl, rfl, by decide +kernel, rfl, by decide +kernel, by decide +kernel⟩
set_option maxHeartbeats 4000000 in
theorem ok_Ring_strike (T : Txt w K mg A) (hB : BmAt mg base) : FnOk P w K mg base CX0 2 A.a_Ring_strike A.f_Ring_strike ["self", "loss"] (sp_Ring_strike K A) := by
  have nd := sc_Ring_strike.nd
  have G_Ring_require_loss := ok_Ring_require_loss (P := P) (w := w) (base := base) T hB
  refine T.F_Ring_strike.ok sc_Ring_strike (fun vs H Q E h => ?_) (fun cdv Ar outer s H vs Q E hr h => ?_)
  · obtain ⟨x, n, h, dz, lz, nh, nl, sg, dy, lr, pp, tc, rfl, _⟩ := h; rfl
  · skip
    obtain ⟨x, n, h, dz, lz, nh, nl, sg, dy, lr, pp, tc, rfl, R, hn, kk⟩ := h
    obtain ⟨dx, fs, hx, O⟩ := R.obj
    obtain ⟨kvs, hk, hL⟩ := R.hlr
    obtain ⟨q, a, ho, c, hv, hq, hmem⟩ := hL.get hn
    refine PSs.rd (pss_cons (ps_expr (pe_meth (pvI 0) T.cl_Ring T.me_Ring_require_loss (G_Ring_require_loss.mono (by decide)) hr T.d_Ring_require_loss .nil pass0 (pa_cons (pvI 1) pa_nil)))
    (pss_cons (ps_expr (pe_dpop1 (pe_fld (pvI 0) rfl) (pvI 1) ⟨rfl, rfl, rfl, rfl⟩))
    (pss_one (ps_fld (pvI 0) pe_non rfl)))) ?_
    try dsimp only [L2.cxOf, L2.Cx.nox]
    refine ⟨_, rfl, x, dx, _, rfl, hx, O.no "require_loss" (by decide +kernel), _, rfl, x, n, h, dz, lz, nh, nl, sg, dy, lr, pp, tc, rfl, R, hn, ?_⟩
    refine ⟨_, rfl, x, _, dx, fs, _, rfl, hx, T.cl_Ring, T.na_Ring_loss_rows, O.lr_, lr, rfl, .inl ⟨_, .inl hk⟩, _, rfl, kvs, Sum.inl n, _, hk, rfl, hv, ?_⟩
    have nxl : x ≠ lr := fun z => by rw [z, hk] at hx; cases hx
    have nxd : x ≠ dy := fun z => by rw [z, R.hdy] at hx; cases hx
    have r1 := upd_same (H := H) (a := lr) (o := .dK (dropK kvs (Sum.inl n)))
    have u1 : ∀ b o, b ≠ lr → H b = some o → upd H lr (.dK (dropK kvs (Sum.inl n))) b = some o := fun b o n e => by rw [upd_ne n]; exact e
    generalize upd H lr (.dK (dropK kvs (Sum.inl n))) = H1 at *
    have hx1 := u1 _ _ nxl hx
    refine ⟨_, rfl, x, _, dx, fs, rfl, hx1, T.cl_Ring, T.na_Ring_reckoning, Nat.lt_of_le_of_lt O.len (by decide), ?_⟩
    have O2 := O.setR .non
    have r2 := upd_same (H := H1) (a := x) (o := .ins A.c_Ring dx (putF "reckoning" .non fs))
    have u2 : ∀ b o, b ≠ x → H1 b = some o → upd H1 x (.ins A.c_Ring dx (putF "reckoning" .non fs)) b = some o := fun b o n e => by rw [upd_ne n]; exact e
    generalize upd H1 x (.ins A.c_Ring dx (putF "reckoning" .non fs)) = H2 at *
    have sx : SameX [x, lr] H H2 := fun b o n e => u2 b o (fun z => n (by rw [z]; exact List.mem_cons_self)) (u1 b o (fun z => n (by rw [z]; exact List.mem_cons_of_mem _ List.mem_cons_self)) e)
    have su : SameU H H2 := SameX.u sx fun b hb => by
      rcases List.mem_cons.mp hb with z | z
      · rw [z, hx]; exact ⟨(fun _ z => by cases z), (fun _ _ z => by cases z)⟩
      · rw [List.mem_singleton.mp z, hk]; exact ⟨(fun _ z => by cases z), (fun _ _ z => by cases z)⟩
    exact kk H2 sx su ⟨⟨dx, _, r2, O2⟩, u2 _ _ nxd.symm (u1 _ _ R.ne R.hdy), ⟨_, u2 _ _ nxl.symm r1, (LossAt.u su hL).drop⟩, R.dlt, fun l hl => R.llt l (List.mem_filter.mp hl).1, R.d12, Nat.le_trans (List.length_filter_le _ _) R.l30, R.ne, R.dnd, R.lnd.sublist (List.filter_sublist.map _)⟩
def sp_Ring_move (K : Frag) (A : Adr) : Sp := fun vs H Q _ => ∃ (x : Addr) (n a : Int) (h : Nat) (dz : List (Int × Int)) (lz : List Ls) (nh nl : Nat) (sg dy lr pp tc : Addr), vs = [.ref x, .int n, .int a] ∧ RgD A.c_Ring K H x h dz lz nh nl sg dy lr pp tc ∧ n ∈ lz.map (·.1) ∧ a ∈ dz.map (·.1) ∧ nh ≤ 1000 ∧
  ∀ H' lz', SameX [x, lr] H H' → SameU H H' → RgD A.c_Ring K H' x h dz lz' nh nl sg dy lr pp tc → lz'.map (·.1) = lz.map (·.1) → Q .non H'
theorem sc_Ring_move : FnScope ["self", "loss", "happening", "before", "house", "crowns"] ["self", "loss", "happening"] (defScope s_Ring_move) := ⟨rfl, rfl, rfl, by decide +kernel, rfl, by decide +kernel, by decide +kernel⟩
set_option maxHeartbeats 4000000 in
theorem ok_Ring_move (T : Txt w K mg A) (hB : BmAt mg base) : FnOk P w K mg base (CXW P w) 2 A.a_Ring_move A.f_Ring_move ["self", "loss", "happening"] (sp_Ring_move K A) := by
  have nd := sc_Ring_move.nd
  have G_Ring_require_happening := ok_Ring_require_happening (P := P) (w := w) (base := base) T hB
  have G_Ring_require_loss := ok_Ring_require_loss (P := P) (w := w) (base := base) T hB
  refine T.F_Ring_move.okW sc_Ring_move (fun vs H Q E h => ?_) (fun cdv Ar outer s H vs Q E hr h => ?_)
  · obtain ⟨x, n, a, h, dz, lz, nh, nl, sg, dy, lr, pp, tc, rfl, _⟩ := h; rfl
  · skip
    obtain ⟨x, n, a, h, dz, lz, nh, nl, sg, dy, lr, pp, tc, rfl, R, hn, ha, hnh, kk⟩ := h
    obtain ⟨dx, fs, hx, O⟩ := R.obj
    obtain ⟨kvs, hk, hL⟩ := R.hlr
    have hkl := hL.len
    have hl30 := R.l30
    obtain ⟨q, b0, ho, c, hv, hq, hmem⟩ := hL.get hn
    have hab : a.natAbs < 2 ^ 100 := by
      obtain ⟨q, hq, e⟩ := List.mem_map.mp ha
      have := R.dlt q hq
      have : (1001 : Nat) < 2 ^ 100 := by decide
      omega
    refine PSs.rd (pss_cons (ps_expr (pe_meth (pvI 0) T.cl_Ring T.me_Ring_require_loss (G_Ring_require_loss.mono (by decide)) hr T.d_Ring_require_loss .nil pass0 (pa_cons (pvI 1) pa_nil)))
    (pss_cons (ps_expr (pe_meth (pvI 0) T.cl_Ring T.me_Ring_require_happening (G_Ring_require_happening.mono (by decide)) hr T.d_Ring_require_happening .nil (passW flies (fun _ _ h => h)) (pa_cons (pvI 2) pa_nil)))
    (pss_cons (ps_asg (pe_dget (lt1 hr.units) (pe_fld (pvI 0) rfl) (pvI 1) (fun _ _ => rfl)) (pg_tup (n := 3) rfl (pgs_cons (pg_name (i := 3) nd rfl (Or.inl rfl)) (pgs_cons (pg_name (i := 4) nd rfl (Or.inl rfl)) (pgs_cons (pg_name (i := 5) nd rfl (Or.inl rfl)) pgs_nil)))))
    (pss_cons (ps_dput (lt1 hr.units) (pe_fld (pvI 0) rfl) (pvI 1) (pe_tup (pa_cons (pvI 2) (pa_cons (pvI 4) (pa_cons (pvI 5) pa_nil)))) rfl)
    (pss_one (ps_fld (pvI 0) pe_non rfl)))))) ?_
    rw [show ∀ v0 v1 v2 : V, L2.start ["self", "loss", "happening", "before", "house", "crowns"] [v0, v1, v2] = [some v0, some v1, some v2, none, none, none] from fun _ _ _ => rfl]
    refine ⟨_, rfl, x, dx, _, rfl, hx, O.no "require_loss" (by decide +kernel), _, rfl, x, n, h, dz, lz, nh, nl, sg, dy, lr, pp, tc, rfl, R, hn, ?_⟩
    refine ⟨_, rfl, x, dx, _, rfl, hx, O.no "require_happening" (by decide +kernel), _, rfl, x, a, h, dz, lz, nh, nl, sg, dy, lr, pp, tc, rfl, R, hab, fun _ => ?_, fun z => absurd ha z⟩
    have dg : DGet H lr (.int n) (some (.ref q)) := by rw [← hv]; exact DGet.k (k := Sum.inl n) hk
    refine ⟨_, rfl, x, _, dx, fs, _, rfl, hx, T.cl_Ring, T.na_Ring_loss_rows, O.lr_, _, rfl, lr, _, rfl, dg, q, _, rfl, hq, rfl, _, _, rfl, _, _, rfl, _, _, rfl, rfl, ?_⟩
    try dsimp only [List.set_cons_zero, List.set_cons_succ]
    refine ⟨_, rfl, _, rfl, _, rfl, by show 3 ≤ sizeLine; decide, fun q2 hq2 => ?_⟩
    have s0 := same_upd (o := .tup [.int a, .int ho, .int c]) hq2
    have r0 := upd_same (H := H) (a := q2) (o := .tup [.int a, .int ho, .int c])
    generalize upd H q2 (.tup [.int a, .int ho, .int c]) = H0 at *
    have hx0 := s0 _ _ hx
    have hk0 := s0 _ _ hk
    refine ⟨_, rfl, x, _, dx, fs, _, rfl, hx0, T.cl_Ring, T.na_Ring_loss_rows, O.lr_, _, rfl, lr, _, rfl, DPut.k (k := Sum.inl n) hk0 (small_line (by omega)), ?_⟩
    have nxl : x ≠ lr := fun z => by rw [z, hk] at hx; cases hx
    have nxd : x ≠ dy := fun z => by rw [z, R.hdy] at hx; cases hx
    have nql : q2 ≠ lr := fun z => by rw [z, hk] at hq2; cases hq2
    have nqx : q2 ≠ x := fun z => by rw [z, hx] at hq2; cases hq2
    have r1 := upd_same (H := H0) (a := lr) (o := .dK (putK kvs (Sum.inl n) (V.ref q2)))
    have u1 : ∀ b o, b ≠ lr → H0 b = some o → upd H0 lr (.dK (putK kvs (Sum.inl n) (V.ref q2))) b = some o := fun b o n e => by rw [upd_ne n]; exact e
    generalize upd H0 lr (.dK (putK kvs (Sum.inl n) (V.ref q2))) = H1 at *
    have hx1 := u1 _ _ nxl hx0
    refine ⟨_, rfl, x, _, dx, fs, rfl, hx1, T.cl_Ring, T.na_Ring_reckoning, Nat.lt_of_le_of_lt O.len (by decide), ?_⟩
    have O2 := O.setR .non
    have r2 := upd_same (H := H1) (a := x) (o := .ins A.c_Ring dx (putF "reckoning" .non fs))
    have u2 : ∀ b o, b ≠ x → H1 b = some o → upd H1 x (.ins A.c_Ring dx (putF "reckoning" .non fs)) b = some o := fun b o n e => by rw [upd_ne n]; exact e
    generalize upd H1 x (.ins A.c_Ring dx (putF "reckoning" .non fs)) = H2 at *
    have sx : SameX [x, lr] H H2 := fun b o n e => u2 b o (fun z => n (by rw [z]; exact List.mem_cons_self)) (u1 b o (fun z => n (by rw [z]; exact List.mem_cons_of_mem _ List.mem_cons_self)) (s0 _ _ e))
    have su : SameU H H2 := SameX.u sx fun b hb => by
      rcases List.mem_cons.mp hb with z | z
      · rw [z, hx]; exact ⟨(fun _ z => by cases z), (fun _ _ z => by cases z)⟩
      · rw [List.mem_singleton.mp z, hk]; exact ⟨(fun _ z => by cases z), (fun _ _ z => by cases z)⟩
    have hq3 : SqT K H2 q2 [.int a, .int ho, .int c] := SqT.of (u2 _ _ nqx (u1 _ _ nql r0))
    have em : (lz.map fun l => if l.1 = n then (n, a, ho, c) else l).map (·.1) = lz.map (·.1) := by
      rw [List.map_map]
      refine List.map_congr_left fun l _ => ?_
      show (if l.1 = n then (n, a, ho, c) else l).1 = l.1
      split
      · rename_i e; exact e.symm
      · rfl
    refine kk H2 _ sx su ⟨⟨dx, _, r2, O2⟩, u2 _ _ nxd.symm (u1 _ _ R.ne (s0 _ _ R.hdy)), ⟨_, u2 _ _ nxl.symm r1, (LossAt.u su hL).put hn hq3⟩, R.dlt, fun l hl => ?_, R.d12, by rw [List.length_map]; exact R.l30, R.ne, R.dnd, by rw [em]; exact R.lnd⟩ em
    have : l.1 ∈ lz.map (·.1) := by rw [← em]; exact List.mem_map.mpr ⟨l, hl, rfl⟩
    refine byC fun hG => ?_
    obtain ⟨l0, hl0, e⟩ := List.mem_map.mp this
    refine hG ?_
    rw [← e]; exact R.llt l0 hl0
def sp_Ring_merge (K : Frag) (A : Adr) : Sp := fun vs H Q _ => ∃ (x : Addr) (a b : Int) (h : Nat) (dz : List (Int × Int)) (lz : List Ls) (nh nl : Nat) (sg dy lr pp tc : Addr), vs = [.ref x, .int a, .int b] ∧ RgD A.c_Ring K H x h dz lz nh nl sg dy lr pp tc ∧ a ∈ dz.map (·.1) ∧ b ∈ dz.map (·.1) ∧ a ≠ b ∧ nh ≤ 1000 ∧
  ∀ H' lz', SameX [x, lr, dy] H H' → SameU H H' → RgD A.c_Ring K H' x h (dz.filter fun q => decide (q.1 ≠ b)) lz' nh nl sg dy lr pp tc → lz'.map (·.1) = lz.map (·.1) → Q .non H'
theorem sc_Ring_merge : FnScope ["self", "one", "other", "loss"] ["self", "one", "other"] (defScope s_Ring_merge) := ⟨rfl, rfl, rfl, by decide +kernel, rfl, by decide +kernel, by decide +kernel⟩
set_option maxHeartbeats 4000000 in
theorem ok_Ring_merge (T : Txt w K mg A) (hB : BmAt mg base) : FnOk P w K mg base (CXW P w) 3 A.a_Ring_merge A.f_Ring_merge ["self", "one", "other"] (sp_Ring_merge K A) := by
  have nd := sc_Ring_merge.nd
  have G_Ring_move := ok_Ring_move (P := P) (w := w) (base := base) T hB
  have G_Ring_require_happening := ok_Ring_require_happening (P := P) (w := w) (base := base) T hB
  refine T.F_Ring_merge.okW sc_Ring_merge (fun vs H Q E h => ?_) (fun cdv Ar outer s H vs Q E hr h => ?_)
  · obtain ⟨x, a, b, h, dz, lz, nh, nl, sg, dy, lr, pp, tc, rfl, _⟩ := h; rfl
  · skip
    obtain ⟨x, a, b, h, dz, lz, nh, nl, sg, dy, lr, pp, tc, rfl, R, ha, hb, hab, hnh, kk⟩ := h
    obtain ⟨dx, fs, hx, O⟩ := R.obj
    obtain ⟨kvs, hk, hL⟩ := R.hlr
    have hkl := hL.len
    have hl30 := R.l30
    have big : ∀ {n : Int}, n ∈ dz.map (·.1) → n.natAbs < 2 ^ 100 := fun {n} hn => by
      obtain ⟨q, hq, e⟩ := List.mem_map.mp hn
      have := R.dlt q hq
      have : (1001 : Nat) < 2 ^ 100 := by decide
      omega
    refine PSs.rd (pss_cons (ps_expr (pe_meth (pvI 0) T.cl_Ring T.me_Ring_require_happening (G_Ring_require_happening.mono (by decide)) hr T.d_Ring_require_happening .nil (passW flies (fun _ _ h => h)) (pa_cons (pvI 1) pa_nil)))
    (pss_cons (ps_expr (pe_meth (pvI 0) T.cl_Ring T.me_Ring_require_happening (G_Ring_require_happening.mono (by decide)) hr T.d_Ring_require_happening .nil (passW flies (fun _ _ h => h)) (pa_cons (pvI 2) pa_nil)))
    (pss_cons (ps_if (pt_cmpR op_eq (pvI 1) (pvI 2) (nomark _))
      (pss_one ps_never)
      pss_nil)
    (pss_cons (ps_for PassesOwn.leaving rfl (pi_list (pe_callTy (call_listD rfl) rfl T.b_list boot_ty_list (pa_cons (pe_fld (pvI 0) rfl) pa_nil))) (pg_name (i := 3) nd rfl (Or.inl rfl))
      (pss_one (ps_if (pt_cmpR op_eq (pe_ix (ix_tupI K rfl) (pe_dget (lt1 hr.units) (pe_fld (pvI 0) rfl) (pvI 3) (fun _ _ => rfl)) pe_int (fun _ _ => rfl)) (pvI 2) (nomark _))
         (pss_one (ps_expr (pe_meth (pvI 0) T.cl_Ring T.me_Ring_move (G_Ring_move.mono (by decide)) hr T.d_Ring_move .nil (passW flies (fun _ _ h => h)) (pa_cons (pvI 3) (pa_cons (pvI 1) pa_nil)))))
         pss_nil)))
    (pss_cons (ps_expr (pe_dpop1 (pe_fld (pvI 0) rfl) (pvI 2) ⟨rfl, rfl, rfl, rfl⟩))
    (pss_one (ps_fld (pvI 0) pe_non rfl))))))) ?_
    rw [show ∀ v0 v1 v2 : V, L2.start ["self", "one", "other", "loss"] [v0, v1, v2] = [some v0, some v1, some v2, none] from fun _ _ _ => rfl]
    refine ⟨_, rfl, x, dx, _, rfl, hx, O.no "require_happening" (by decide +kernel), _, rfl, x, a, h, dz, lz, nh, nl, sg, dy, lr, pp, tc, rfl, R, big ha, fun _ => ?_, fun z => absurd ha z⟩
    refine ⟨_, rfl, x, dx, _, rfl, hx, O.no "require_happening" (by decide +kernel), _, rfl, x, b, h, dz, lz, nh, nl, sg, dy, lr, pp, tc, rfl, R, big hb, fun _ => ?_, fun z => absurd hb z⟩
    refine ⟨_, rfl, _, rfl, rfl, _, rfl, iteD (fun z => absurd (V.int.inj z) hab) (fun _ => ?_)⟩
    refine ⟨_, rfl, x, _, dx, fs, _, rfl, hx, T.cl_Ring, T.na_Ring_loss_rows, O.lr_, lr, kvs, rfl, hk, fun li hli => ?_⟩
    have s0 := same_upd (o := .lst (kvs.map fun kv => kV kv.1)) hli
    have r0 := upd_same (H := H) (a := li) (o := .lst (kvs.map fun kv => kV kv.1))
    generalize upd H li (.lst (kvs.map fun kv => kV kv.1)) = H0 at *
    have ekey : (kvs.map fun kv => kV kv.1) = (lz.map (·.1)).map V.int := by
      have := congrArg (List.map kV) hL.keys
      rw [List.map_map, List.map_map] at this
      rw [List.map_map]; exact this
    rw [ekey] at r0
    have nlx : li ≠ x := fun z => by rw [z, hx] at hli; cases hli
    have nll : li ≠ lr := fun z => by rw [z, hk] at hli; cases hli
    have nld : li ≠ dy := fun z => by rw [z, R.hdy] at hli; cases hli
    have nxl : x ≠ lr := fun z => by rw [z, hk] at hx; cases hx
    have nxd : x ≠ dy := fun z => by rw [z, R.hdy] at hx; cases hx
    refine ⟨li, rfl, ⟨_, SqL.of r0⟩, ?_⟩
    refine for_list (xs := (lz.map (·.1)).map V.int) (fun i σ H' => SameX [x, lr] H0 H' ∧ SameU H0 H' ∧ ∃ lz' x3, σ = [some (.ref x), some (.int a), some (.int b), x3] ∧ RgD A.c_Ring K H' x h dz lz' nh nl sg dy lr pp tc ∧ lz'.map (·.1) = lz.map (·.1))
      ⟨SameX.refl, Same.u (Same.refl _), lz, _, rfl, R.same s0, rfl⟩ (fun i σ H' _ q => SqL.of (q.1 _ _ (fun z => (List.mem_cons.mp z).elim nlx fun z => nll (List.mem_singleton.mp z)) r0)) ?_ ?_
    · intro i v σ H1 hv zz1
      refine byC fun hG => ?_
      obtain ⟨sx1, su1, lz1, x3, rfl, R1, em1⟩ := zz1
      refine hG ?_
      rw [List.getElem?_map] at hv
      refine byC fun hG => ?_
      obtain ⟨n, hn, rfl⟩ := Option.map_eq_some_iff.mp hv
      have hnm : n ∈ lz1.map (·.1) := by rw [em1]; exact List.mem_of_getElem? hn
      obtain ⟨dx1, fs1, hx1, O1⟩ := R1.obj
      obtain ⟨kvs1, hk1, hL1⟩ := R1.hlr
      obtain ⟨q, a0, ho, c, hv1, hq, hmem⟩ := hL1.get hnm
      have dg : DGet H1 lr (.int n) (some (.ref q)) := by rw [← hv1]; exact DGet.k (k := Sum.inl n) hk1
      refine hG ?_
      try dsimp only [List.set_cons_zero, List.set_cons_succ]
      refine ⟨_, rfl, x, _, dx1, fs1, _, rfl, hx1, T.cl_Ring, T.na_Ring_loss_rows, O1.lr_, _, rfl, lr, _, rfl, dg, q, _, 0, _, rfl, rfl, hq, rfl, _, rfl, rfl, _, rfl, iteD (fun z => ?_) (fun z => ⟨sx1, su1, lz1, _, rfl, R1, em1⟩)⟩
      refine ⟨_, rfl, x, dx1, _, rfl, hx1, O1.no "move" (by decide +kernel), _, rfl, _, rfl, x, n, a, h, dz, lz1, nh, nl, sg, dy, lr, pp, tc, rfl, R1, hnm, ha, hnh, fun H2 lz2 sx2 su2 R2 em2 => ?_⟩
      exact ⟨sx1.trans sx2, ⟨fun b xs e => su2.1 _ _ (su1.1 _ _ e), fun b o u e => su2.2 _ _ _ (su1.2 _ _ _ e)⟩, lz2, _, rfl, R2, em2.trans em1⟩
    intro σ H1 zz2
    refine byC fun hG => ?_
    obtain ⟨sx1, su1, lz1, x3, rfl, R1, em1⟩ := zz2
    obtain ⟨dx1, fs1, hx1, O1⟩ := R1.obj
    obtain ⟨kvs1, hk1, hL1⟩ := R1.hlr
    have hbs : ∃ v, valV (dayKV dz) (Sum.inl b) = some v := Option.isSome_iff_exists.mp ((key_mem (dayKV_keys dz)).mpr hb)
    obtain ⟨vb, hvb⟩ := hbs
    refine hG ?_
    refine ⟨_, rfl, x, _, dx1, fs1, _, rfl, hx1, T.cl_Ring, T.na_Ring_day_of, O1.dy_, dy, rfl, .inl ⟨_, .inl R1.hdy⟩, _, rfl, dayKV dz, Sum.inl b, vb, R1.hdy, rfl, hvb, ?_⟩
    have edrop : dropK (dayKV dz) (Sum.inl b : Key) = dayKV (dz.filter fun q => decide (q.1 ≠ b)) := by
      unfold dropK dayKV
      rw [List.filter_map]
      congr 1
      refine List.filter_congr fun q _ => ?_
      show decide ((Sum.inl q.1 : Key) ≠ Sum.inl b) = decide (q.1 ≠ b)
      by_cases e : q.1 = b
      · simp [e]
      · have : ¬ (Sum.inl q.1 : Key) = Sum.inl b := fun z => e (Sum.inl.inj z)
        simp [e, this]
    rw [edrop]
    have r2 := upd_same (H := H1) (a := dy) (o := .dK (dayKV (dz.filter fun q => decide (q.1 ≠ b))))
    have u2 : ∀ c o, c ≠ dy → H1 c = some o → upd H1 dy (.dK (dayKV (dz.filter fun q => decide (q.1 ≠ b)))) c = some o := fun c o n e => by rw [upd_ne n]; exact e
    generalize upd H1 dy (.dK (dayKV (dz.filter fun q => decide (q.1 ≠ b)))) = H2 at *
    have hx2 := u2 _ _ nxd hx1
    refine ⟨_, rfl, x, _, dx1, fs1, rfl, hx2, T.cl_Ring, T.na_Ring_reckoning, Nat.lt_of_le_of_lt O1.len (by decide), ?_⟩
    have O3 := O1.setR .non
    have r3 := upd_same (H := H2) (a := x) (o := .ins A.c_Ring dx1 (putF "reckoning" .non fs1))
    have u3 : ∀ c o, c ≠ x → H2 c = some o → upd H2 x (.ins A.c_Ring dx1 (putF "reckoning" .non fs1)) c = some o := fun c o n e => by rw [upd_ne n]; exact e
    generalize upd H2 x (.ins A.c_Ring dx1 (putF "reckoning" .non fs1)) = H3 at *
    have sx : SameX [x, lr, dy] H H3 := fun c o n e => u3 c o (fun z => n (by simp [z])) (u2 c o (fun z => n (by simp [z])) (sx1 c o (fun z => n ((List.mem_cons.mp z).elim (fun z => by rw [z]; exact List.mem_cons_self) (fun z => by rw [List.mem_singleton.mp z]; exact List.mem_cons_of_mem _ List.mem_cons_self))) (s0 _ _ e)))
    have su13 : SameU H1 H3 := SameX.u (E := [x, dy]) (fun c o n e => u3 c o (fun z => n (by simp [z])) (u2 c o (fun z => n (by simp [z])) e)) fun c hc => by
      rcases List.mem_cons.mp hc with z | z
      · rw [z, hx1]; exact ⟨(fun _ z => by cases z), (fun _ _ z => by cases z)⟩
      · rw [List.mem_singleton.mp z, R1.hdy]; exact ⟨(fun _ z => by cases z), (fun _ _ z => by cases z)⟩
    have su : SameU H H3 := ⟨fun b xs e => su13.1 _ _ (su1.1 _ _ (s0 _ _ e)), fun b o u e => su13.2 _ _ _ (su1.2 _ _ _ (s0 _ _ e))⟩
    exact kk H3 lz1 sx su ⟨⟨dx1, _, r3, O3⟩, u3 _ _ nxd.symm r2, ⟨kvs1, u3 _ _ nxl.symm (u2 _ _ R.ne.symm hk1), LossAt.u su13 hL1⟩, fun q hq => R.dlt q (List.mem_filter.mp hq).1, R1.llt, Nat.le_trans (List.length_filter_le _ _) R.d12, R1.l30, R.ne, R.dnd.sublist (List.filter_sublist.map _), R1.lnd⟩ em1
def sp_Ring_happenings (K : Frag) (A : Adr) : Sp := fun vs H Q _ => ∃ (x : Addr) (h : Nat) (dz : List (Int × Int)) (lz : List Ls) (nh nl : Nat) (sg dy lr pp tc : Addr), vs = [.ref x] ∧ RgD A.c_Ring K H x h dz lz nh nl sg dy lr pp tc ∧ nh ≤ 1000 ∧ H A.lp_Ring_happenings = some (.tbl #[]) ∧
  ∀ (l : Addr) (as : List Addr) (dz' : List (Int × Int)) (H' : Hp), dz'.Perm dz → dz'.Pairwise (fun a b => dayKey a < dayKey b) → SameX [A.lp_Ring_happenings] H H' → H' l = some (.lst (as.map V.ref)) → as.length = dz'.length → (∀ (j : Nat) (b : Addr) (q : Int × Int), as[j]? = some b → dz'[j]? = some q → H' b = some (.tup [.int q.1, .int q.2])) → Q (.ref l) H'
theorem sc_Ring_happenings : FnScope ["self"] ["self"] (defScope s_Ring_happenings) := ⟨rfl, rfl, rfl, by decide +kernel, rfl, by decide +kernel, by decide +kernel⟩
set_option maxHeartbeats 4000000 in
theorem ok_Ring_happenings (T : Txt w K mg A) (hB : BmAt mg base) : FnOk P w K mg base CX0 4 A.a_Ring_happenings A.f_Ring_happenings ["self"] (sp_Ring_happenings K A) := by
  have nd := sc_Ring_happenings.nd
  refine T.F_Ring_happenings.okL T.lam_Ring_happenings sc_Ring_happenings (fun vs H Q E h => ?_) (fun Ar outer s H vs Q E hr h => ?_)
  · obtain ⟨x, h, dz, lz, nh, nl, sg, dy, lr, pp, tc, rfl, _⟩ := h; rfl
  · skip
    obtain ⟨x, h, dz, lz, nh, nl, sg, dy, lr, pp, tc, rfl, R, hnh, hP, kk⟩ := h
    obtain ⟨dx, fs, hx, O⟩ := R.obj
    have d12 := R.d12
    refine PSs.rd (pss_one (ps_ret (pe_sortN (k := 0) (N := ["pair"]) (ps := ["pair"]) rfl rfl T.b_sorted (pe_fld (pvI 0) rfl) rfl T.lam_Ring_happenings.hd hB hr ⟨rfl, rfl, rfl, by decide +kernel, rfl, by decide +kernel, by decide +kernel⟩ rfl (fun _ _ _ _ => rfl) (fun _ _ _ _ _ _ => (pe_tup (pa_cons (pe_ix (ix_tupI K rfl) (pvI 0) pe_int (fun _ _ => rfl)) (pa_cons (pe_ix (ix_tupI K rfl) (pvI 0) pe_int (fun _ _ => rfl)) pa_nil)))) (fun b n d H Q hb hq => ⟨_, rfl, b, _, 1, _, rfl, rfl, SqT.of hb, rfl, _, rfl, b, _, 0, _, rfl, rfl, SqT.of hb, rfl, by show 2 ≤ sizeLine; decide, fun kk hkk => hq kk hkk⟩)))) ?_
    try dsimp only [L2.cxOf, L2.Cx.nox]
    refine ⟨_, rfl, x, _, dx, fs, _, rfl, hx, T.cl_Ring, T.na_Ring_day_of, O.dy_, dy, dz, rfl, R.hdy, by omega, fun q hq => by have := R.dlt q hq; omega, hP, fun l as dz' ps H' h1 h2 h3 h4 h5 h6 h7 h8 => ?_⟩
    exact kk l as dz' H' h1 h2 (fun b o n e => h4 b o (fun z => n (by rw [z]; exact List.mem_cons_self)) e) h6 h7 fun j b q e1 e2 => (h8 j b q e1 e2).1
def sp_Ring_losses (K : Frag) (A : Adr) : Sp := fun vs H Q _ => ∃ (x : Addr) (h : Nat) (dz : List (Int × Int)) (lz : List Ls) (nh nl : Nat) (sg dy lr pp tc : Addr), vs = [.ref x] ∧ RgD A.c_Ring K H x h dz lz nh nl sg dy lr pp tc ∧
  ∀ (l : Addr) (us : List V) (H' : Hp), H l = none → Same H H' → H' l = some (.lst us) → us.length = lz.length → Q (.ref l) H'
theorem sc_Ring_losses : FnScope ["self"] ["self"] (defScope s_Ring_losses) := ⟨rfl, rfl, rfl, by decide +kernel, rfl, by decide +kernel, by decide +kernel⟩
set_option maxHeartbeats 4000000 in
theorem ok_Ring_losses (T : Txt w K mg A) (hB : BmAt mg base) : FnOk P w K mg base CX0 1 A.a_Ring_losses A.f_Ring_losses ["self"] (sp_Ring_losses K A) := by
  have nd := sc_Ring_losses.nd
  refine T.F_Ring_losses.ok sc_Ring_losses (fun vs H Q E h => ?_) (fun cdv Ar outer s H vs Q E hr h => ?_)
  · obtain ⟨x, h, dz, lz, nh, nl, sg, dy, lr, pp, tc, rfl, _⟩ := h; rfl
  · skip
    obtain ⟨x, h, dz, lz, nh, nl, sg, dy, lr, pp, tc, rfl, R, kk⟩ := h
    obtain ⟨dx, fs, hx, O⟩ := R.obj
    obtain ⟨kvs, hk, hL⟩ := R.hlr
    have hkl := hL.len
    have hl30 := R.l30
    obtain ⟨kz, ekz, hkz, hrow⟩ := hL.kz
    refine PSs.rd (pss_one (ps_ret (lcA (defScope s_Ring_losses) (pi_list (pe_sortD rfl rfl T.b_sorted (pe_fld (pvI 0) rfl))) (fun _ _ _ _ _ => pgc2 1 2) (fun _ _ _ _ _ => pts_nil) (fun _ _ _ _ _ => (pe_tup (pa_cons (pvI 1) (pa_cons (pe_ix (ix_tupI K rfl) (pvI 2) pe_int (fun _ _ => rfl)) (pa_cons (pe_ix (ix_tupI K rfl) (pvI 2) pe_int (fun _ _ => rfl)) (pa_cons (pe_ix (ix_tupI K rfl) (pvI 2) pe_int (fun _ _ => rfl)) pa_nil))))))))) ?_
    try dsimp only [L2.cxOf, L2.Cx.nox]
    rw [ekz] at hk
    refine ⟨_, rfl, x, _, dx, fs, _, rfl, hx, T.cl_Ring, T.na_Ring_loss_rows, O.lr_, lr, kz, rfl, hk, by omega, fun l0 as kz' H1 hperm hpw hl0 s1 hl01 hit => ?_⟩
    have kl : kz'.length = lz.length := by rw [hperm.length_eq, hkz]
    have al : as.length = lz.length := by rw [hit.1, kl]
    refine ⟨l0, rfl, ⟨_, SqL.of hl01⟩, ?_⟩
    refine lc_growD (itG_of (itOf_list (SqL.of hl01))) (fun σ => ∃ x0 x1 x2, σ = [x0, x1, x2]) (fun D i ys H' => True) ⟨_, _, _, rfl⟩ (Nat.le_of_lt (small_line (by rw [List.length_map]; omega))) (fun D H2 => trivial) (fun D i ys H2 H3 q s => q) (fun D i ys zs H2 o e q => q) ?_ ?_
    · intro D i v ys σ2 H2 Qt Qf hi hyl hv hD s2 zz1 _ q
      refine byC fun hG => ?_
      obtain ⟨x0, x1, x2, rfl⟩ := zz1
      refine hG ?_
      rw [List.getElem?_map] at hv
      refine byC fun hG => ?_
      obtain ⟨b, hb, rfl⟩ := Option.map_eq_some_iff.mp hv
      have hbl := get_lt hb
      obtain ⟨p, hp⟩ := get_some (xs := kz') (i := i) (by omega)
      have hb2 := s2 _ _ (hit.2 i b p hb hp).1
      obtain ⟨r, a, ho, c, er, hr⟩ := hrow p (hperm.mem_iff.mp (List.mem_of_getElem? hp))
      refine hG ?_
      rw [er] at hb2
      have hr2 := (s1.trans s2).tupS hr
      refine ⟨b, _, rfl, SqT.of hb2, rfl, _, _, rfl, _, _, rfl, rfl, _, rfl, _, rfl, r, _, 0, _, rfl, rfl, hr2, rfl, _, rfl, r, _, 1, _, rfl, rfl, hr2, rfl, _, rfl, r, _, 2, _, rfl, rfl, hr2, rfl, by show 4 ≤ sizeLine; decide, fun u hu => ?_⟩
      exact q _ _ _ ⟨_, _, _, rfl⟩ (same_upd hu) trivial
    rintro D H2 ys hD s2 hD2 hyl _
    exact kk D ys H2 (s1.free hD) (s1.trans s2) hD2 (by rw [hyl, List.length_map, al])
def sp__law_draws (K : Frag) : Sp := fun vs H Q _ => ∃ (a : Addr) (ns : List Int) (n : Nat), vs = [.ref a, .int n] ∧ SqL K H a (ns.map V.int) ∧ ns.length ≤ 63 ∧ n ≤ 1000 ∧
  ∀ (p : Addr) (ds : List Int) (H' : Hp), H p = none → Same H H' → H' p = some (.lst (ds.map V.int)) → ds.length = n → InD ds → Q (.ref p) H'
theorem sc__law_draws : FnScope ["_law_script", "_law_many", "_law_row", "_law_seed", "_law_cell", "_law_rest", "_law_k"] ["_law_script", "_law_many"] (defScope s__law_draws) := ⟨rfl, rfl, rfl, by decide +kernel, rfl, by decide +kernel, by decide +kernel⟩
set_option maxHeartbeats 4000000 in
theorem ok__law_draws (T : Txt w K mg A) (hB : BmAt mg base) : FnOk P w K mg base CX0 1 A.a__law_draws A.f__law_draws ["_law_script", "_law_many"] (sp__law_draws K) := by
  have nd := sc__law_draws.nd
  refine T.F__law_draws.ok sc__law_draws (fun vs H Q E h => ?_) (fun cdv Ar outer s H vs Q E hr h => ?_)
  · obtain ⟨a, ns, n, rfl, _⟩ := h; rfl
  · skip
    obtain ⟨a, ns, n, rfl, hS, hl, hn, kk⟩ := h
    refine PSs.rd (pss_cons (ps_set (i := 2) nd rfl (Or.inl rfl) (pe_lst pa_nil))
    (pss_cons (ps_set (i := 3) nd rfl (Or.inl rfl) pe_int)
    (pss_cons (ps_for PassesOwn.never rfl (pi_list (pe_slice sl_list (pvI 0) po_none (po_some pe_int))) (pg_name (i := 4) nd rfl (Or.inl rfl))
      (pss_cons (ps_set (i := 3) nd rfl (Or.inl rfl) (pe_op op_modI (pe_op op_addI (pe_op op_addI (pe_op op_mulI (pvI 3) pe_int) (pe_op op_modI (pvI 4) pe_int)) pe_int) pe_int))
       (pss_cons (ps_set (i := 5) nd rfl (Or.inl rfl) (pe_op op_subI (pvI 4) (pe_op op_pow pe_int pe_int)))
       (pss_cons (ps_cut (ps_if (pt_cmpR op_ltI (pvI 5) pe_int (nomark _))
         (pss_one (ps_expr (pe_bm PySem.F.plainAttrs_list PySem.F.slot_list_append PySem.F.type_list_append mt_append (pvI 2) (pa_cons (pe_op op_modI (pvI 4) pe_int) pa_nil))))
         pss_nil))
       (pss_one (ps_for PassesOwn.never rfl (pi_range1 rfl T.b_range (pa_cons pe_int pa_nil)) (pg_name (i := 6) nd rfl (Or.inl rfl))
         (pss_one (ps_if (pt_cmpR op_gtI (pvI 5) pe_int (nomark _))
            (pss_cons (ps_expr (pe_bm PySem.F.plainAttrs_list PySem.F.slot_list_append PySem.F.type_list_append mt_append (pvI 2) (pa_cons (pe_op op_modI (pvI 5) pe_int) pa_nil)))
             (pss_one (ps_set (i := 5) nd rfl (Or.inl rfl) (pe_op op_fdivI (pvI 5) pe_int))))
            pss_nil))))))))
    (pss_cons (ps_for PassesOwn.never rfl (pi_range1 rfl T.b_range (pa_cons (pvI 1) pa_nil)) (pg_name (i := 6) nd rfl (Or.inl rfl))
      (pss_cons (ps_set (i := 3) nd rfl (Or.inl rfl) (pe_op op_modI (pe_op op_addI (pe_op op_addI (pe_op op_addI (pe_op op_mulI (pvI 3) (pvI 3)) (pe_op op_mulI pe_int (pvI 3))) (pe_op op_mulI pe_int (pvI 6))) pe_int) pe_int))
       (pss_one (ps_expr (pe_bm PySem.F.plainAttrs_list PySem.F.slot_list_append PySem.F.type_list_append mt_append (pvI 2) (pa_cons (pe_op op_modI (pe_op op_fdivI (pvI 3) pe_int) pe_int) pa_nil))))))
    (pss_one (ps_ret (pe_slice sl_list (pvI 2) po_none (po_some (pvI 1))))))))) ?_
    try dsimp only [L2.cxOf, L2.Cx.nox]
    refine ⟨Nat.zero_le _, fun r hr0 => ?_⟩
    refine ⟨_, rfl, _, rfl, a, _, rfl, (same_upd hr0).seq hS, fun sl hsl => ?_⟩
    have hrs : r ≠ sl := ne_of_none upd_same hsl
    refine ⟨sl, rfl, ⟨_, SqL.of upd_same⟩, ?_⟩
    have hlen : (cutV (ns.map V.int) none (some 63)).length ≤ 63 := by
      have := cutV_length (ns.map V.int) none (some 63)
      rw [List.length_map] at this; omega
    have hint : ∀ x ∈ cutV (ns.map V.int) none (some 63), ∃ i, x = V.int i := fun x hx => by
      have h1 : x ∈ ns.map V.int := List.mem_of_mem_drop (List.mem_of_mem_take hx)
      refine byC fun hG => ?_
      obtain ⟨i, _, e⟩ := List.mem_map.mp h1
      refine hG ?_
      exact ⟨i, e.symm⟩
    generalize cutV (ns.map V.int) none (some 63) = ys at hlen hint ⊢
    refine for_list (xs := ys) (fun i σ H' => DrawSt H H' a r sl n ys 0 (61 * i) σ) ?_ (fun i σ H' _ h => SqL.of h.slc) ?_ ?_
    · exact ⟨⟨[], 29, none, none, none, rfl, by decide, by decide, by rw [upd_ne hrs, upd_same]; rfl, Nat.zero_le _, Nat.zero_le _, fun _ h => nomatch h⟩, (same_upd hr0).trans (same_upd hsl), upd_same⟩
    · intro i x σ H' hx h
      refine byC fun hG => ?_
      obtain ⟨⟨row, seed, c, rest, k, rfl, s0, s1, hr', _, hrl, hd⟩, sm, hsl'⟩ := h
      obtain ⟨ce, rfl⟩ := hint x (List.mem_of_getElem? hx)
      have hi : i < 63 := by
        have : i < ys.length := by
          by_cases h : i < ys.length
          · exact h
          · rw [List.getElem?_eq_none (Nat.le_of_not_lt h)] at hx; cases hx
        omega
      refine hG ?_
      refine ⟨_, rfl, _, _, rfl, rfl, cmulR, _, rfl, _, _, rfl, rfl, pj, _, _, rfl, rfl, _, _, rfl, rfl, _, _, rfl, rfl, pj, ?_⟩
      refine ⟨_, rfl, _, _, rfl, rfl, ⟨by decide, by decide, by decide⟩, _, _, rfl, rfl, ?_⟩
      have s0' := Int.emod_nonneg (seed * 40009 + ce % 1000033 + 13) (by decide : (2147483629 : Int) ≠ 0)
      have s1' := Int.emod_lt_of_pos (seed * 40009 + ce % 1000033 + 13) (by decide : (0 : Int) < 2147483629)
      refine ⟨fun σ H'' => DrawSt H H'' a r sl n ys 0 (61 * i + 1) σ ∧ ∃ z, σ[5]? = some (some (V.int z)), ?_, ?_⟩
      · refine ⟨_, rfl, _, _, rfl, rfl, _, rfl, ite2 (fun _ => ?_) (fun _ => ?_)⟩
        · refine ⟨_, rfl, .inl ⟨rfl, _, SqL.of hr'⟩, _, rfl, _, _, rfl, rfl, pj, r, _, _, rfl, rfl, hr', small_line (by rw [List.length_map]; omega), ?_⟩
          rw [map_snoc]
          refine ⟨⟨⟨_, _, _, _, _, rfl, s0', s1', upd_same, Nat.zero_le _, ?_, hd.snoc (Int.emod_nonneg _ (by decide)) (Int.emod_lt_of_pos _ (by decide))⟩, ?_, by rw [upd_ne hrs.symm]; exact hsl'⟩, _, rfl⟩
          · rw [List.length_append, List.length_singleton]; omega
          · exact fun b o e => by rw [upd_ne (ne_of_none e hr0)]; exact sm b o e
        · exact ⟨⟨⟨row, _, _, _, _, rfl, s0', s1', hr', Nat.zero_le _, by omega, hd⟩, sm, hsl'⟩, _, rfl⟩
      · intro σ H'' zz1
        refine byC fun hG => ?_
        obtain ⟨h, z, hz⟩ := zz1
        refine hG ?_
        refine ⟨60, rfl, by decide, by decide, ?_⟩
        refine for_range (n := 60) (fun j σ H'' => DrawSt H H'' a r sl n ys 0 (61 * i + 1 + j) σ ∧ ∃ z, σ[5]? = some (some (V.int z))) ⟨h, z, hz⟩ ?_ ?_
        · intro j σ H'' hj zz2
          refine byC fun hG => ?_
          obtain ⟨⟨⟨row, seed, c, rest, k, rfl, s0, s1, hr', _, hrl, hd⟩, sm, hsl'⟩, z, hz⟩ := zz2
          refine hG ?_
          cases hz
          refine ⟨_, rfl, _, _, rfl, rfl, _, rfl, ite2 (fun hp => ?_) (fun _ => ?_)⟩
          · refine ⟨_, rfl, .inl ⟨rfl, _, SqL.of hr'⟩, _, rfl, _, _, rfl, rfl, pj, r, _, _, rfl, rfl, hr', small_line (by rw [List.length_map]; omega), ?_⟩
            rw [map_snoc]
            refine ⟨_, rfl, _, _, rfl, rfl, cdiv, ?_⟩
            refine ⟨⟨⟨_, seed, _, _, _, rfl, s0, s1, upd_same, Nat.zero_le _, ?_, hd.snoc (Int.emod_nonneg _ (by decide)) (Int.emod_lt_of_pos _ (by decide))⟩, ?_, by rw [upd_ne hrs.symm]; exact hsl'⟩, _, rfl⟩
            · rw [List.length_append, List.length_singleton]; omega
            · exact fun b o e => by rw [upd_ne (ne_of_none e hr0)]; exact sm b o e
          · exact ⟨⟨⟨row, seed, _, _, _, rfl, s0, s1, hr', Nat.zero_le _, by omega, hd⟩, sm, hsl'⟩, z, rfl⟩
        · intro σ H'' zz3
          refine byC fun hG => ?_
          obtain ⟨⟨⟨row, seed, c, rest, k, rfl, s0, s1, hr', _, hrl, hd⟩, sm, hsl'⟩, _⟩ := zz3
          refine hG ?_
          exact ⟨⟨row, seed, _, _, _, rfl, s0, s1, hr', Nat.zero_le _, by omega, hd⟩, sm, hsl'⟩
    · intro σ H' zz4
      refine byC fun hG => ?_
      obtain ⟨⟨row, seed, c, rest, k, rfl, s0, s1, hr', _, hrl, hd⟩, sm, hsl'⟩ := zz4
      refine hG ?_
      refine ⟨_, rfl, _, rfl, by omega, by omega, ?_⟩
      have en : ((n : Nat) : Int).toNat = n := by omega
      rw [en]
      refine for_range (n := n) (fun j σ H'' => DrawSt H H'' a r sl n ys j (61 * 63 + j) σ) ⟨⟨row, seed, _, _, _, rfl, s0, s1, hr', Nat.zero_le _, by omega, hd⟩, sm, hsl'⟩ ?_ ?_
      · intro j σ H'' hj zz5
        refine byC fun hG => ?_
        obtain ⟨⟨row, seed, c, rest, k, rfl, s0, s1, hr', hlo, hrl, hd⟩, sm, hsl'⟩ := zz5
        refine hG ?_
        refine ⟨_, rfl, _, rfl, _, _, rfl, rfl, .inl ⟨by omega, by omega⟩, _, rfl, _, _, rfl, rfl, cmulL, _, _, rfl, rfl, _, rfl, _, _, rfl, rfl, cmulL, _, _, rfl, rfl, _, _, rfl, rfl, _, _, rfl, rfl, pj, ?_⟩
        have s0' := Int.emod_nonneg (seed * seed + 69621 * seed + 7 * (0 + (j : Nat)) + 5) (by decide : (2147483629 : Int) ≠ 0)
        have s1' := Int.emod_lt_of_pos (seed * seed + 69621 * seed + 7 * (0 + (j : Nat)) + 5) (by decide : (0 : Int) < 2147483629)
        refine ⟨_, rfl, .inl ⟨rfl, _, SqL.of hr'⟩, _, rfl, _, _, rfl, rfl, cdiv, _, _, rfl, rfl, pj, r, _, _, rfl, rfl, hr', small_line (by rw [List.length_map]; omega), ?_⟩
        rw [map_snoc]
        refine ⟨⟨_, _, _, _, _, rfl, s0', s1', upd_same, ?_, ?_, hd.snoc (Int.emod_nonneg _ (by decide)) (Int.emod_lt_of_pos _ (by decide))⟩, ?_, by rw [upd_ne hrs.symm]; exact hsl'⟩
        · rw [List.length_append, List.length_singleton]; omega
        · rw [List.length_append, List.length_singleton]; omega
        · exact fun b o e => by rw [upd_ne (ne_of_none e hr0)]; exact sm b o e
      · intro σ H'' zz6
        refine byC fun hG => ?_
        obtain ⟨⟨row, seed, c, rest, k, rfl, s0, s1, hr', hlo, hrl, hd⟩, sm, hsl'⟩ := zz6
        refine hG ?_
        refine ⟨_, rfl, _, rfl, _, rfl, r, _, rfl, SqL.of hr', fun p hp => ?_⟩
        have ec : cutV (row.map V.int) none (some (n : Int)) = (row.take n).map V.int := by
          unfold cutV
          rw [HT.sIx_none, HT.sIx_nat, List.drop_zero, List.length_map, Nat.sub_zero, Nat.min_eq_left hlo, List.map_take]
        rw [ec]
        refine kk p (row.take n) _ (sm.free hp) (sm.trans (same_upd hp)) upd_same ?_ fun d hd' => hd d (List.mem_of_mem_take hd')
        rw [List.length_take]; omega
def sp__law_due (K : Frag) : Sp := fun vs H Q _ => ∃ w : Str, vs = [.str w] ∧ ∀ (r : Addr) (H' : Hp), H r = none → Same H H' → H' r = some (.lst ((seenL w).map V.bl)) → Q (.ref r) H'
theorem sc__law_due : FnScope ["_law_want", "_law_names"] ["_law_want"] (defScope s__law_due) := ⟨rfl, rfl, rfl, by decide +kernel, rfl, by decide +kernel, by decide +kernel⟩
set_option maxHeartbeats 4000000 in
theorem ok__law_due (T : Txt w K mg A) (hB : BmAt mg base) : FnOk P w K mg base CX0 1 A.a__law_due A.f__law_due ["_law_want"] (sp__law_due K) := by
  have nd := sc__law_due.nd
  refine T.F__law_due.ok sc__law_due (fun vs H Q E h => ?_) (fun cdv Ar outer s H vs Q E hr h => ?_)
  · obtain ⟨w, rfl, _⟩ := h; rfl
  · skip
    obtain ⟨w, rfl, kk⟩ := h
    refine PSs.rd (pss_cons (ps_set (i := 1) nd rfl (Or.inl rfl) (pe_lst (pa_cons pe_str (pa_cons pe_str (pa_cons pe_str (pa_cons pe_str (pa_cons pe_str (pa_cons pe_str (pa_cons pe_str (pa_cons pe_str pa_nil))))))))))
    (pss_cons (ps_set (i := 1) nd rfl (Or.inl rfl) (pe_op op_cat (pvI 1) (pe_lst (pa_cons pe_str (pa_cons pe_str (pa_cons pe_str (pa_cons pe_str (pa_cons pe_str (pa_cons pe_str (pa_cons pe_str (pa_cons pe_str pa_nil)))))))))))
    (pss_cons (ps_set (i := 1) nd rfl (Or.inl rfl) (pe_op op_cat (pvI 1) (pe_lst (pa_cons pe_str (pa_cons pe_str (pa_cons pe_str (pa_cons pe_str (pa_cons pe_str pa_nil))))))))
    (pss_one (ps_ret (pe_op op_cat (pe_lst (pa_cons pe_bl pa_nil)) (lcA (defScope s__law_due) (pi_list (pvI 1)) (fun _ _ _ _ _ => pgc 1) (fun _ _ _ _ _ => pts_nil) (fun _ _ _ _ _ => (pe_cmpR op_eq (pvI 1) (pvI 2) (nomark _)))))))))) ?_
    try dsimp only [L2.cxOf, L2.Cx.nox]
    refine ⟨by show 8 ≤ sizeLine; decide, fun a0 ha0 => ?_⟩
    have s0 := same_upd (o := .lst ((namesL.take 8).map V.str)) ha0
    refine ⟨_, rfl, by show 8 ≤ sizeLine; decide, fun b1 hb1 => ?_⟩
    have t1 := same_upd (o := .lst (((namesL.drop 8).take 8).map V.str)) hb1
    refine ⟨a0, b1, (namesL.take 8).map V.str, ((namesL.drop 8).take 8).map V.str, rfl, rfl, t1 _ _ upd_same, upd_same, by show 16 ≤ sizeLine; decide, fun a1 ha1 => ?_⟩
    have s1 := s0.trans (t1.trans (same_upd (o := .lst ((namesL.take 16).map V.str)) ha1))
    refine ⟨_, rfl, by show 5 ≤ sizeLine; decide, fun b2 hb2 => ?_⟩
    have t2 := same_upd (o := .lst ((namesL.drop 16).map V.str)) hb2
    refine ⟨a1, b2, (namesL.take 16).map V.str, (namesL.drop 16).map V.str, rfl, rfl, t2 _ _ upd_same, upd_same, by show 21 ≤ sizeLine; decide, fun a2 ha2 => ?_⟩
    have s2 := s1.trans (t2.trans (same_upd (o := .lst (namesL.map V.str)) ha2))
    refine ⟨by show 1 ≤ sizeLine; decide, fun z hz => ?_⟩
    have s3 := same_upd (o := .lst [V.bl true]) hz
    have h2 : (upd (upd (upd (upd (upd (upd H a0 (.lst ((namesL.take 8).map V.str))) b1 (.lst (((namesL.drop 8).take 8).map V.str))) a1 (.lst ((namesL.take 16).map V.str))) b2 (.lst ((namesL.drop 16).map V.str))) a2 (.lst (namesL.map V.str))) z (.lst [V.bl true])) a2 = some (.lst (namesL.map V.str)) := s3 _ _ upd_same
    refine ⟨_, rfl, a2, rfl, ⟨_, SqL.of h2⟩, ?_⟩
    refine lc_by (ws := (namesL.map fun n => decide (n = w)).map V.bl) (itOf_list (SqL.of h2)) (fun σ => ∃ x y, σ = [x, y, some (.str w)]) ⟨_, _, rfl⟩ (by rw [List.length_map, List.length_map, List.length_map]) (by show 21 ≤ sizeLine; decide) ?_ ?_
    · intro i x v σ2 H4 Qt Qf hx hk s4 zz1 q
      refine byC fun hG => ?_
      obtain ⟨x0, y0, rfl⟩ := zz1
      refine hG ?_
      rw [List.getElem?_map] at hx
      refine byC fun hG => ?_
      obtain ⟨n, hn, rfl⟩ := Option.map_eq_some_iff.mp hx
      refine hG ?_
      rw [List.map_map, List.getElem?_map, hn] at hk
      cases hk
      refine ⟨_, rfl, _, rfl, rfl, ?_⟩
      show Qt _ (V.bl (decide (V.str n = V.str w))) _
      rw [dec_strV]
      exact q _ ⟨_, _, rfl⟩
    intro D hD
    have s5 := same_upd (o := .lst ((namesL.map fun n => decide (n = w)).map V.bl)) hD
    refine ⟨z, D, [V.bl true], (namesL.map fun n => decide (n = w)).map V.bl, rfl, rfl, s5 _ _ upd_same, upd_same, by rw [List.length_map, List.length_map]; show 22 ≤ sizeLine; decide, fun r hr => ?_⟩
    exact kk r _ (s2.free (s3.free (s5.free hr))) (s2.trans (s3.trans (s5.trans (same_upd hr)))) upd_same
def sp__law_seen (K : Frag) (A : Adr) : Sp := fun vs H Q _ => ∃ (e C : Addr) (x : Str), vs = [.ref e] ∧ H e = some (ExcO e C) ∧ ErrIs K A C x ∧ ∀ (r : Addr) (H' : Hp), H r = none → Same H H' → H' r = some (.lst ((seenL x).map V.bl)) → Q (.ref r) H'
theorem sc__law_seen : FnScope ["_law_e", "_law_one"] ["_law_e"] (defScope s__law_seen) := ⟨rfl, rfl, rfl, by decide +kernel, rfl, by decide +kernel, by decide +kernel⟩
set_option maxHeartbeats 4000000 in
theorem ok__law_seen (T : Txt w K mg A) (hB : BmAt mg base) : FnOkH P w K mg base 1 A.a__law_seen A.f__law_seen ["_law_e"] (sp__law_seen K A) := by
  have nd := sc__law_seen.nd
  refine T.F__law_seen.okH sc__law_seen (fun vs H Q E h => ?_) (fun cdv Ar outer s H vs Q E hr h => ?_)
  · obtain ⟨e, C, x, rfl, _⟩ := h; rfl
  · skip
    obtain ⟨e, C, x, rfl, he, hE, kk⟩ := h
    obtain ⟨bBadHouses, eBadHouses, kBadHouses⟩ : ∃ b, b = decide (("BadHouses" : Str) = x) ∧ kitOne K (.ref C) (.ref A.c_BadHouses) = some b := ⟨_, rfl, hE.k_BadHouses⟩
    obtain ⟨bBadLines, eBadLines, kBadLines⟩ : ∃ b, b = decide (("BadLines" : Str) = x) ∧ kitOne K (.ref C) (.ref A.c_BadLines) = some b := ⟨_, rfl, hE.k_BadLines⟩
    obtain ⟨bBadCover, eBadCover, kBadCover⟩ : ∃ b, b = decide (("BadCover" : Str) = x) ∧ kitOne K (.ref C) (.ref A.c_BadCover) = some b := ⟨_, rfl, hE.k_BadCover⟩
    obtain ⟨bBadCrowns, eBadCrowns, kBadCrowns⟩ : ∃ b, b = decide (("BadCrowns" : Str) = x) ∧ kitOne K (.ref C) (.ref A.c_BadCrowns) = some b := ⟨_, rfl, hE.k_BadCrowns⟩
    obtain ⟨bBadLosses, eBadLosses, kBadLosses⟩ : ∃ b, b = decide (("BadLosses" : Str) = x) ∧ kitOne K (.ref C) (.ref A.c_BadLosses) = some b := ⟨_, rfl, hE.k_BadLosses⟩
    obtain ⟨bBadAccount, eBadAccount, kBadAccount⟩ : ∃ b, b = decide (("BadAccount" : Str) = x) ∧ kitOne K (.ref C) (.ref A.c_BadAccount) = some b := ⟨_, rfl, hE.k_BadAccount⟩
    obtain ⟨bUnbacked, eUnbacked, kUnbacked⟩ : ∃ b, b = decide (("Unbacked" : Str) = x) ∧ kitOne K (.ref C) (.ref A.c_Unbacked) = some b := ⟨_, rfl, hE.k_Unbacked⟩
    obtain ⟨bShort, eShort, kShort⟩ : ∃ b, b = decide (("Short" : Str) = x) ∧ kitOne K (.ref C) (.ref A.c_Short) = some b := ⟨_, rfl, hE.k_Short⟩
    obtain ⟨bDisagrees, eDisagrees, kDisagrees⟩ : ∃ b, b = decide (("Disagrees" : Str) = x) ∧ kitOne K (.ref C) (.ref A.c_Disagrees) = some b := ⟨_, rfl, hE.k_Disagrees⟩
    obtain ⟨bNoHouse, eNoHouse, kNoHouse⟩ : ∃ b, b = decide (("NoHouse" : Str) = x) ∧ kitOne K (.ref C) (.ref A.c_NoHouse) = some b := ⟨_, rfl, hE.k_NoHouse⟩
    obtain ⟨bNoCover, eNoCover, kNoCover⟩ : ∃ b, b = decide (("NoCover" : Str) = x) ∧ kitOne K (.ref C) (.ref A.c_NoCover) = some b := ⟨_, rfl, hE.k_NoCover⟩
    obtain ⟨bNoHappening, eNoHappening, kNoHappening⟩ : ∃ b, b = decide (("NoHappening" : Str) = x) ∧ kitOne K (.ref C) (.ref A.c_NoHappening) = some b := ⟨_, rfl, hE.k_NoHappening⟩
    obtain ⟨bNoLoss, eNoLoss, kNoLoss⟩ : ∃ b, b = decide (("NoLoss" : Str) = x) ∧ kitOne K (.ref C) (.ref A.c_NoLoss) = some b := ⟨_, rfl, hE.k_NoLoss⟩
    obtain ⟨bBadDay, eBadDay, kBadDay⟩ : ∃ b, b = decide (("BadDay" : Str) = x) ∧ kitOne K (.ref C) (.ref A.c_BadDay) = some b := ⟨_, rfl, hE.k_BadDay⟩
    obtain ⟨bBadTerms, eBadTerms, kBadTerms⟩ : ∃ b, b = decide (("BadTerms" : Str) = x) ∧ kitOne K (.ref C) (.ref A.c_BadTerms) = some b := ⟨_, rfl, hE.k_BadTerms⟩
    obtain ⟨bEndless, eEndless, kEndless⟩ : ∃ b, b = decide (("Endless" : Str) = x) ∧ kitOne K (.ref C) (.ref A.c_Endless) = some b := ⟨_, rfl, hE.k_Endless⟩
    obtain ⟨bSame, eSame, kSame⟩ : ∃ b, b = decide (("Same" : Str) = x) ∧ kitOne K (.ref C) (.ref A.c_Same) = some b := ⟨_, rfl, hE.k_Same⟩
    obtain ⟨bFull, eFull, kFull⟩ : ∃ b, b = decide (("Full" : Str) = x) ∧ kitOne K (.ref C) (.ref A.c_Full) = some b := ⟨_, rfl, hE.k_Full⟩
    obtain ⟨bBadDeed, eBadDeed, kBadDeed⟩ : ∃ b, b = decide (("BadDeed" : Str) = x) ∧ kitOne K (.ref C) (.ref A.c_BadDeed) = some b := ⟨_, rfl, hE.k_BadDeed⟩
    obtain ⟨bNothing, eNothing, kNothing⟩ : ∃ b, b = decide (("Nothing" : Str) = x) ∧ kitOne K (.ref C) (.ref A.c_Nothing) = some b := ⟨_, rfl, hE.k_Nothing⟩
    obtain ⟨bBadText, eBadText, kBadText⟩ : ∃ b, b = decide (("BadText" : Str) = x) ∧ kitOne K (.ref C) (.ref A.c_BadText) = some b := ⟨_, rfl, hE.k_BadText⟩
    have hseen : (seenL x).map V.bl = [.bl true, .bl bBadHouses, .bl bBadLines, .bl bBadCover, .bl bBadCrowns, .bl bBadLosses, .bl bBadAccount, .bl bUnbacked, .bl bShort, .bl bDisagrees, .bl bNoHouse, .bl bNoCover, .bl bNoHappening, .bl bNoLoss, .bl bBadDay, .bl bBadTerms, .bl bEndless, .bl bSame, .bl bFull, .bl bBadDeed, .bl bNothing, .bl bBadText] := by
      subst eBadHouses eBadLines eBadCover eBadCrowns eBadLosses eBadAccount eUnbacked eShort eDisagrees eNoHouse eNoCover eNoHappening eNoLoss eBadDay eBadTerms eEndless eSame eFull eBadDeed eNothing eBadText
      rfl
    refine PSs.rd (pss_cons (ps_set (i := 1) nd rfl (Or.inl rfl) (pe_lst (pa_cons (pe_callB call_isiE rfl T.b_isinstance boot_isinstance (pa_cons (pvI 0) (pa_cons (pe_bltn (v := .ty "ValueError") rfl T.b_ValueError boot_ty_ValueError rfl) pa_nil))) (pa_cons (pe_callB call_isiE rfl T.b_isinstance boot_isinstance (pa_cons (pvI 0) (pa_cons (pe_glob (v := .ref A.c_BadHouses) rfl T.mc_BadHouses rfl) pa_nil))) (pa_cons (pe_callB call_isiE rfl T.b_isinstance boot_isinstance (pa_cons (pvI 0) (pa_cons (pe_glob (v := .ref A.c_BadLines) rfl T.mc_BadLines rfl) pa_nil))) (pa_cons (pe_callB call_isiE rfl T.b_isinstance boot_isinstance (pa_cons (pvI 0) (pa_cons (pe_glob (v := .ref A.c_BadCover) rfl T.mc_BadCover rfl) pa_nil))) pa_nil))))))
    (pss_cons (ps_set (i := 1) nd rfl (Or.inl rfl) (pe_op op_cat (pvI 1) (pe_lst (pa_cons (pe_callB call_isiE rfl T.b_isinstance boot_isinstance (pa_cons (pvI 0) (pa_cons (pe_glob (v := .ref A.c_BadCrowns) rfl T.mc_BadCrowns rfl) pa_nil))) (pa_cons (pe_callB call_isiE rfl T.b_isinstance boot_isinstance (pa_cons (pvI 0) (pa_cons (pe_glob (v := .ref A.c_BadLosses) rfl T.mc_BadLosses rfl) pa_nil))) (pa_cons (pe_callB call_isiE rfl T.b_isinstance boot_isinstance (pa_cons (pvI 0) (pa_cons (pe_glob (v := .ref A.c_BadAccount) rfl T.mc_BadAccount rfl) pa_nil))) pa_nil))))))
    (pss_cons (ps_set (i := 1) nd rfl (Or.inl rfl) (pe_op op_cat (pvI 1) (pe_lst (pa_cons (pe_callB call_isiE rfl T.b_isinstance boot_isinstance (pa_cons (pvI 0) (pa_cons (pe_glob (v := .ref A.c_Unbacked) rfl T.mc_Unbacked rfl) pa_nil))) (pa_cons (pe_callB call_isiE rfl T.b_isinstance boot_isinstance (pa_cons (pvI 0) (pa_cons (pe_glob (v := .ref A.c_Short) rfl T.mc_Short rfl) pa_nil))) (pa_cons (pe_callB call_isiE rfl T.b_isinstance boot_isinstance (pa_cons (pvI 0) (pa_cons (pe_glob (v := .ref A.c_Disagrees) rfl T.mc_Disagrees rfl) pa_nil))) (pa_cons (pe_callB call_isiE rfl T.b_isinstance boot_isinstance (pa_cons (pvI 0) (pa_cons (pe_glob (v := .ref A.c_NoHouse) rfl T.mc_NoHouse rfl) pa_nil))) pa_nil)))))))
    (pss_cons (ps_set (i := 1) nd rfl (Or.inl rfl) (pe_op op_cat (pvI 1) (pe_lst (pa_cons (pe_callB call_isiE rfl T.b_isinstance boot_isinstance (pa_cons (pvI 0) (pa_cons (pe_glob (v := .ref A.c_NoCover) rfl T.mc_NoCover rfl) pa_nil))) (pa_cons (pe_callB call_isiE rfl T.b_isinstance boot_isinstance (pa_cons (pvI 0) (pa_cons (pe_glob (v := .ref A.c_NoHappening) rfl T.mc_NoHappening rfl) pa_nil))) (pa_cons (pe_callB call_isiE rfl T.b_isinstance boot_isinstance (pa_cons (pvI 0) (pa_cons (pe_glob (v := .ref A.c_NoLoss) rfl T.mc_NoLoss rfl) pa_nil))) (pa_cons (pe_callB call_isiE rfl T.b_isinstance boot_isinstance (pa_cons (pvI 0) (pa_cons (pe_glob (v := .ref A.c_BadDay) rfl T.mc_BadDay rfl) pa_nil))) pa_nil)))))))
    (pss_cons (ps_set (i := 1) nd rfl (Or.inl rfl) (pe_op op_cat (pvI 1) (pe_lst (pa_cons (pe_callB call_isiE rfl T.b_isinstance boot_isinstance (pa_cons (pvI 0) (pa_cons (pe_glob (v := .ref A.c_BadTerms) rfl T.mc_BadTerms rfl) pa_nil))) (pa_cons (pe_callB call_isiE rfl T.b_isinstance boot_isinstance (pa_cons (pvI 0) (pa_cons (pe_glob (v := .ref A.c_Endless) rfl T.mc_Endless rfl) pa_nil))) (pa_cons (pe_callB call_isiE rfl T.b_isinstance boot_isinstance (pa_cons (pvI 0) (pa_cons (pe_glob (v := .ref A.c_Same) rfl T.mc_Same rfl) pa_nil))) (pa_cons (pe_callB call_isiE rfl T.b_isinstance boot_isinstance (pa_cons (pvI 0) (pa_cons (pe_glob (v := .ref A.c_Full) rfl T.mc_Full rfl) pa_nil))) pa_nil)))))))
    (pss_one (ps_ret (pe_op op_cat (pvI 1) (pe_lst (pa_cons (pe_callB call_isiE rfl T.b_isinstance boot_isinstance (pa_cons (pvI 0) (pa_cons (pe_glob (v := .ref A.c_BadDeed) rfl T.mc_BadDeed rfl) pa_nil))) (pa_cons (pe_callB call_isiE rfl T.b_isinstance boot_isinstance (pa_cons (pvI 0) (pa_cons (pe_glob (v := .ref A.c_Nothing) rfl T.mc_Nothing rfl) pa_nil))) (pa_cons (pe_callB call_isiE rfl T.b_isinstance boot_isinstance (pa_cons (pvI 0) (pa_cons (pe_glob (v := .ref A.c_BadText) rfl T.mc_BadText rfl) pa_nil))) pa_nil)))))))))))) ?_
    rw [hseen] at kk
    refine ⟨_, rfl, e, _, _, _, _, rfl, he, hE.ec, (fun _ h => h), hE.kv, _, rfl, e, _, _, _, _, rfl, he, hE.ec, (fun _ h => h), kBadHouses, _, rfl, e, _, _, _, _, rfl, he, hE.ec, (fun _ h => h), kBadLines, _, rfl, e, _, _, _, _, rfl, he, hE.ec, (fun _ h => h), kBadCover, by show 4 ≤ sizeLine; decide, fun l0 hl0 => ?_⟩
    have s0 := same_upd (o := .lst [.bl true, .bl bBadHouses, .bl bBadLines, .bl bBadCover]) hl0
    have he0 := s0 _ _ he
    refine ⟨_, rfl, _, rfl, e, _, _, _, _, rfl, he0, hE.ec, (fun _ h => h), kBadCrowns, _, rfl, e, _, _, _, _, rfl, he0, hE.ec, (fun _ h => h), kBadLosses, _, rfl, e, _, _, _, _, rfl, he0, hE.ec, (fun _ h => h), kBadAccount, by show 3 ≤ sizeLine; decide, fun b1 hb1 => ?_⟩
    have t1 := same_upd (o := .lst [.bl bBadCrowns, .bl bBadLosses, .bl bBadAccount]) hb1
    refine ⟨l0, b1, [.bl true, .bl bBadHouses, .bl bBadLines, .bl bBadCover], [.bl bBadCrowns, .bl bBadLosses, .bl bBadAccount], rfl, rfl, t1 _ _ upd_same, upd_same, by show 7 ≤ sizeLine; decide, fun l1 hl1 => ?_⟩
    have s1 := s0.trans (t1.trans (same_upd (o := .lst [.bl true, .bl bBadHouses, .bl bBadLines, .bl bBadCover, .bl bBadCrowns, .bl bBadLosses, .bl bBadAccount]) hl1))
    have he1 := s1 _ _ he
    refine ⟨_, rfl, _, rfl, e, _, _, _, _, rfl, he1, hE.ec, (fun _ h => h), kUnbacked, _, rfl, e, _, _, _, _, rfl, he1, hE.ec, (fun _ h => h), kShort, _, rfl, e, _, _, _, _, rfl, he1, hE.ec, (fun _ h => h), kDisagrees, _, rfl, e, _, _, _, _, rfl, he1, hE.ec, (fun _ h => h), kNoHouse, by show 4 ≤ sizeLine; decide, fun b2 hb2 => ?_⟩
    have t2 := same_upd (o := .lst [.bl bUnbacked, .bl bShort, .bl bDisagrees, .bl bNoHouse]) hb2
    refine ⟨l1, b2, [.bl true, .bl bBadHouses, .bl bBadLines, .bl bBadCover, .bl bBadCrowns, .bl bBadLosses, .bl bBadAccount], [.bl bUnbacked, .bl bShort, .bl bDisagrees, .bl bNoHouse], rfl, rfl, t2 _ _ upd_same, upd_same, by show 11 ≤ sizeLine; decide, fun l2 hl2 => ?_⟩
    have s2 := s1.trans (t2.trans (same_upd (o := .lst [.bl true, .bl bBadHouses, .bl bBadLines, .bl bBadCover, .bl bBadCrowns, .bl bBadLosses, .bl bBadAccount, .bl bUnbacked, .bl bShort, .bl bDisagrees, .bl bNoHouse]) hl2))
    have he2 := s2 _ _ he
    refine ⟨_, rfl, _, rfl, e, _, _, _, _, rfl, he2, hE.ec, (fun _ h => h), kNoCover, _, rfl, e, _, _, _, _, rfl, he2, hE.ec, (fun _ h => h), kNoHappening, _, rfl, e, _, _, _, _, rfl, he2, hE.ec, (fun _ h => h), kNoLoss, _, rfl, e, _, _, _, _, rfl, he2, hE.ec, (fun _ h => h), kBadDay, by show 4 ≤ sizeLine; decide, fun b3 hb3 => ?_⟩
    have t3 := same_upd (o := .lst [.bl bNoCover, .bl bNoHappening, .bl bNoLoss, .bl bBadDay]) hb3
    refine ⟨l2, b3, [.bl true, .bl bBadHouses, .bl bBadLines, .bl bBadCover, .bl bBadCrowns, .bl bBadLosses, .bl bBadAccount, .bl bUnbacked, .bl bShort, .bl bDisagrees, .bl bNoHouse], [.bl bNoCover, .bl bNoHappening, .bl bNoLoss, .bl bBadDay], rfl, rfl, t3 _ _ upd_same, upd_same, by show 15 ≤ sizeLine; decide, fun l3 hl3 => ?_⟩
    have s3 := s2.trans (t3.trans (same_upd (o := .lst [.bl true, .bl bBadHouses, .bl bBadLines, .bl bBadCover, .bl bBadCrowns, .bl bBadLosses, .bl bBadAccount, .bl bUnbacked, .bl bShort, .bl bDisagrees, .bl bNoHouse, .bl bNoCover, .bl bNoHappening, .bl bNoLoss, .bl bBadDay]) hl3))
    have he3 := s3 _ _ he
    refine ⟨_, rfl, _, rfl, e, _, _, _, _, rfl, he3, hE.ec, (fun _ h => h), kBadTerms, _, rfl, e, _, _, _, _, rfl, he3, hE.ec, (fun _ h => h), kEndless, _, rfl, e, _, _, _, _, rfl, he3, hE.ec, (fun _ h => h), kSame, _, rfl, e, _, _, _, _, rfl, he3, hE.ec, (fun _ h => h), kFull, by show 4 ≤ sizeLine; decide, fun b4 hb4 => ?_⟩
    have t4 := same_upd (o := .lst [.bl bBadTerms, .bl bEndless, .bl bSame, .bl bFull]) hb4
    refine ⟨l3, b4, [.bl true, .bl bBadHouses, .bl bBadLines, .bl bBadCover, .bl bBadCrowns, .bl bBadLosses, .bl bBadAccount, .bl bUnbacked, .bl bShort, .bl bDisagrees, .bl bNoHouse, .bl bNoCover, .bl bNoHappening, .bl bNoLoss, .bl bBadDay], [.bl bBadTerms, .bl bEndless, .bl bSame, .bl bFull], rfl, rfl, t4 _ _ upd_same, upd_same, by show 19 ≤ sizeLine; decide, fun l4 hl4 => ?_⟩
    have s4 := s3.trans (t4.trans (same_upd (o := .lst [.bl true, .bl bBadHouses, .bl bBadLines, .bl bBadCover, .bl bBadCrowns, .bl bBadLosses, .bl bBadAccount, .bl bUnbacked, .bl bShort, .bl bDisagrees, .bl bNoHouse, .bl bNoCover, .bl bNoHappening, .bl bNoLoss, .bl bBadDay, .bl bBadTerms, .bl bEndless, .bl bSame, .bl bFull]) hl4))
    have he4 := s4 _ _ he
    refine ⟨_, rfl, _, rfl, e, _, _, _, _, rfl, he4, hE.ec, (fun _ h => h), kBadDeed, _, rfl, e, _, _, _, _, rfl, he4, hE.ec, (fun _ h => h), kNothing, _, rfl, e, _, _, _, _, rfl, he4, hE.ec, (fun _ h => h), kBadText, by show 3 ≤ sizeLine; decide, fun b5 hb5 => ?_⟩
    have t5 := same_upd (o := .lst [.bl bBadDeed, .bl bNothing, .bl bBadText]) hb5
    refine ⟨l4, b5, [.bl true, .bl bBadHouses, .bl bBadLines, .bl bBadCover, .bl bBadCrowns, .bl bBadLosses, .bl bBadAccount, .bl bUnbacked, .bl bShort, .bl bDisagrees, .bl bNoHouse, .bl bNoCover, .bl bNoHappening, .bl bNoLoss, .bl bBadDay, .bl bBadTerms, .bl bEndless, .bl bSame, .bl bFull], [.bl bBadDeed, .bl bNothing, .bl bBadText], rfl, rfl, t5 _ _ upd_same, upd_same, by show 22 ≤ sizeLine; decide, fun l5 hl5 => ?_⟩
    have s5 := s4.trans (t5.trans (same_upd (o := .lst [.bl true, .bl bBadHouses, .bl bBadLines, .bl bBadCover, .bl bBadCrowns, .bl bBadLosses, .bl bBadAccount, .bl bUnbacked, .bl bShort, .bl bDisagrees, .bl bNoHouse, .bl bNoCover, .bl bNoHappening, .bl bNoLoss, .bl bBadDay, .bl bBadTerms, .bl bEndless, .bl bSame, .bl bFull, .bl bBadDeed, .bl bNothing, .bl bBadText]) hl5))
    exact kk l5 _ (s4.free (t5.free hl5)) s5 upd_same
def RefH (A : Adr) (dz : List (Int × Int)) (d : Int) (C : Addr) : Prop := (¬ (0 ≤ d ∧ d ≤ 99) ∧ C = A.c_BadDay) ∨ ((0 ≤ d ∧ d ≤ 99) ∧ dz.length = 12 ∧ C = A.c_Full)
def RefL (A : Adr) (h : Nat) (dz : List (Int × Int)) (lz : List Ls) (a ho c : Int) (C : Addr) : Prop := (¬ a ∈ dz.map (·.1) ∧ C = A.c_NoHappening) ∨ (a ∈ dz.map (·.1) ∧ ¬ (0 ≤ ho ∧ ho < (h : Int)) ∧ C = A.c_NoHouse) ∨ (a ∈ dz.map (·.1) ∧ (0 ≤ ho ∧ ho < (h : Int)) ∧ ¬ (1 ≤ c ∧ c ≤ 100) ∧ C = A.c_BadCrowns) ∨ (a ∈ dz.map (·.1) ∧ (0 ≤ ho ∧ ho < (h : Int)) ∧ (1 ≤ c ∧ c ≤ 100) ∧ lz.length = 30 ∧ C = A.c_Full)
def RefD (K : Frag) (A : Adr) (H : Hp) (q : Addr) (h : Nat) (dz : List (Int × Int)) (lz : List Ls) (C : Addr) : Prop := (∃ d, SqT K H q [.str "happen", .int d] ∧ RefH A dz d C) ∨ ∃ a ho c, SqT K H q [.str "lose", .int a, .int ho, .int c] ∧ a.natAbs < 2 ^ 100 ∧ ho.natAbs < 2 ^ 100 ∧ RefL A h dz lz a ho c C
def sp__law_call (K : Frag) (A : Adr) : Sp := fun vs H Q E => ∃ (x q : Addr) (h : Nat) (dz : List (Int × Int)) (lz : List Ls) (nh nl : Nat) (sg dy lr pp tc C : Addr), vs = [.ref x, .ref q] ∧ RgD A.c_Ring K H x h dz lz nh nl sg dy lr pp tc ∧ h ≤ 6 ∧ nh ≤ 1000 ∧ nl ≤ 1000 ∧ RefD K A H q h dz lz C ∧ E (.ref C) none H
theorem sc__law_call : FnScope ["_law_ring", "_law_deed", "_law_head"] ["_law_ring", "_law_deed"] (defScope s__law_call) := ⟨rfl, rfl, rfl, by decide +kernel, rfl, by decide +kernel, by decide +kernel⟩
set_option maxHeartbeats 4000000 in
theorem ok__law_call (T : Txt w K mg A) (hB : BmAt mg base) : FnOk P w K mg base (CXW P w) 4 A.a__law_call A.f__law_call ["_law_ring", "_law_deed"] (sp__law_call K A) := by
  have nd := sc__law_call.nd
  have G_Ring_happen := ok_Ring_happen (P := P) (w := w) (base := base) T hB
  have G_Ring_lose := ok_Ring_lose (P := P) (w := w) (base := base) T hB
  refine T.F__law_call.okW sc__law_call (fun vs H Q E h => ?_) (fun cdv Ar outer s H vs Q E hr h => ?_)
  · obtain ⟨x, q, h, dz, lz, nh, nl, sg, dy, lr, pp, tc, C, rfl, _⟩ := h; rfl
  · skip
    obtain ⟨x, q, h, dz, lz, nh, nl, sg, dy, lr, pp, tc, C, rfl, R, h6, hnh, hnl, hD, ee⟩ := h
    obtain ⟨dx, fs, hx, O⟩ := R.obj
    refine PSs.rd (pss_cons (ps_set (i := 2) nd rfl (Or.inl rfl) (pe_ix (ix_tupI K rfl) (pvI 1) pe_int (fun _ _ => rfl)))
    (pss_cons (ps_if (pt_cmpR op_eq (pvI 2) pe_str (nomark _))
      (pss_one ps_never)
      pss_nil)
    (pss_cons (ps_if (pt_cmpR op_eq (pvI 2) pe_str (nomark _))
      (pss_one ps_never)
      pss_nil)
    (pss_cons (ps_if (pt_cmpR op_eq (pvI 2) pe_str (nomark _))
      (pss_one (ps_ret (pe_meth (pvI 0) T.cl_Ring T.me_Ring_happen (G_Ring_happen.mono (by decide)) hr T.d_Ring_happen .nil (passW flies (fun _ _ h => h)) (pa_cons (pe_ix (ix_tupI K rfl) (pvI 1) pe_int (fun _ _ => rfl)) pa_nil))))
      pss_nil)
    (pss_cons (ps_if (pt_cmpR op_eq (pvI 2) pe_str (nomark _))
      (pss_one ps_never)
      pss_nil)
    (pss_cons (ps_if (pt_cmpR op_eq (pvI 2) pe_str (nomark _))
      (pss_one (ps_ret (pe_meth (pvI 0) T.cl_Ring T.me_Ring_lose (G_Ring_lose.mono (by decide)) hr T.d_Ring_lose .nil (passW flies (fun _ _ h => h)) (pa_cons (pe_ix (ix_tupI K rfl) (pvI 1) pe_int (fun _ _ => rfl)) (pa_cons (pe_ix (ix_tupI K rfl) (pvI 1) pe_int (fun _ _ => rfl)) (pa_cons (pe_ix (ix_tupI K rfl) (pvI 1) pe_int (fun _ _ => rfl)) pa_nil))))))
      pss_nil)
    (pss_cons (ps_if (pt_cmpR op_eq (pvI 2) pe_str (nomark _))
      (pss_one ps_never)
      pss_nil)
    (pss_cons (ps_if (pt_cmpR op_eq (pvI 2) pe_str (nomark _))
      (pss_one ps_never)
      pss_nil)
    (pss_cons (ps_if (pt_cmpR op_eq (pvI 2) pe_str (nomark _))
      (pss_one ps_never)
      pss_nil)
    (pss_cons (ps_if (pt_cmpR op_eq (pvI 2) pe_str (nomark _))
      (pss_one ps_never)
      pss_nil)
    (pss_one ps_never))))))))))) ?_
    rw [show ∀ v0 v1 : V, L2.start ["_law_ring", "_law_deed", "_law_head"] [v0, v1] = [some v0, some v1, none] from fun _ _ => rfl]
    rcases hD with ⟨d, hq, hr'⟩ | ⟨a, ho, c, hq, hab, hhb, hr'⟩
    · refine ⟨_, rfl, q, _, 0, _, rfl, rfl, hq, rfl, ?_⟩
      try dsimp only [List.set_cons_zero, List.set_cons_succ]
      refine ⟨_, rfl, rfl, _, rfl, iteF' (by decide +kernel) ?_⟩
      refine ⟨_, rfl, rfl, _, rfl, iteF' (by decide +kernel) ?_⟩
      refine ⟨_, rfl, rfl, _, rfl, iteT' (by decide +kernel) ?_⟩
      refine ⟨_, rfl, x, dx, _, rfl, hx, O.no "happen" (by decide +kernel), _, rfl, q, _, 1, _, rfl, rfl, hq, rfl, x, d, h, dz, lz, nh, nl, sg, dy, lr, pp, tc, rfl, R, hnh, fun z => ?_, fun z1 z2 => ?_, fun z1 z2 => ?_⟩
      · rcases hr' with ⟨_, rfl⟩ | ⟨y, _⟩
        · exact ee
        · exact absurd y z
      · rcases hr' with ⟨y, _⟩ | ⟨_, _, rfl⟩
        · exact absurd z1 y
        · exact ee
      · exfalso
        rcases hr' with ⟨y, _⟩ | ⟨_, y, _⟩
        · exact y z1
        · omega
    · refine ⟨_, rfl, q, _, 0, _, rfl, rfl, hq, rfl, ?_⟩
      try dsimp only [List.set_cons_zero, List.set_cons_succ]
      refine ⟨_, rfl, rfl, _, rfl, iteF' (by decide +kernel) ?_⟩
      refine ⟨_, rfl, rfl, _, rfl, iteF' (by decide +kernel) ?_⟩
      refine ⟨_, rfl, rfl, _, rfl, iteF' (by decide +kernel) ?_⟩
      refine ⟨_, rfl, rfl, _, rfl, iteF' (by decide +kernel) ?_⟩
      refine ⟨_, rfl, rfl, _, rfl, iteT' (by decide +kernel) ?_⟩
      refine ⟨_, rfl, x, dx, _, rfl, hx, O.no "lose" (by decide +kernel), _, rfl, q, _, 1, _, rfl, rfl, hq, rfl, _, rfl, q, _, 2, _, rfl, rfl, hq, rfl, _, rfl, q, _, 3, _, rfl, rfl, hq, rfl, x, a, ho, c, h, dz, lz, nh, nl, sg, dy, lr, pp, tc, rfl, R, h6, hnl, hab, hhb, fun z => ?_, fun z1 z2 => ?_, fun z1 z2 z3 => ?_, fun z1 z2 z3 z4 => ?_, fun z1 z2 z3 z4 => ?_⟩
      · rcases hr' with ⟨_, rfl⟩ | ⟨y, _⟩ | ⟨y, _⟩ | ⟨y, _⟩
        · exact ee
        all_goals exact absurd y z
      · rcases hr' with ⟨y, _⟩ | ⟨_, _, rfl⟩ | ⟨_, y, _⟩ | ⟨_, y, _⟩
        · exact absurd z1 y
        · exact ee
        all_goals exact absurd y z2
      · rcases hr' with ⟨y, _⟩ | ⟨_, y, _⟩ | ⟨_, _, _, rfl⟩ | ⟨_, _, y, _⟩
        · exact absurd z1 y
        · exact absurd z2 y
        · exact ee
        · exact absurd y z3
      · rcases hr' with ⟨y, _⟩ | ⟨_, y, _⟩ | ⟨_, _, y, _⟩ | ⟨_, _, _, _, rfl⟩
        · exact absurd z1 y
        · exact absurd z2 y
        · exact absurd z3 y
        · exact ee
      · exfalso
        rcases hr' with ⟨y, _⟩ | ⟨_, y, _⟩ | ⟨_, _, y, _⟩ | ⟨_, _, _, y, _⟩
        · exact y z1
        · exact y z2
        · exact y z3
        · omega
def clsN (A : Adr) (nm : Str) (C : Addr) : Prop := (nm = "BadDay" ∧ C = A.c_BadDay) ∨ (nm = "Full" ∧ C = A.c_Full) ∨ (nm = "NoHappening" ∧ C = A.c_NoHappening) ∨ (nm = "NoHouse" ∧ C = A.c_NoHouse) ∨ (nm = "BadCrowns" ∧ C = A.c_BadCrowns)
def sp__law_acted (K : Frag) (A : Adr) : Sp := fun vs H Q _ => ∃ (x q : Addr) (h : Nat) (dz : List (Int × Int)) (lz : List Ls) (nh nl : Nat) (sg dy lr pp tc C : Addr) (nm : Str), vs = [.ref x, .ref q] ∧ RgD A.c_Ring K H x h dz lz nh nl sg dy lr pp tc ∧ h ≤ 6 ∧ nh ≤ 1000 ∧ nl ≤ 1000 ∧ RefD K A H q h dz lz C ∧ clsN A nm C ∧
  ∀ (r b : Addr) (H' : Hp), Same H H' → H' r = some (.tup [.non, .ref b]) → H' b = some (.lst ((seenL nm).map V.bl)) → Q (.ref r) H'
theorem sc__law_acted : FnScope ["_law_ring", "_law_deed", "_law_found", "_law_bad", "_law_e"] ["_law_ring", "_law_deed"] (defScope s__law_acted) := ⟨rfl, rfl, rfl, by decide +kernel, rfl, by decide +kernel, by decide +kernel⟩
set_option maxHeartbeats 4000000 in
theorem ok__law_acted (T : Txt w K mg A) (hB : BmAt mg base) : FnOk P w K mg base CX0 5 A.a__law_acted A.f__law_acted ["_law_ring", "_law_deed"] (sp__law_acted K A) := by
  have nd := sc__law_acted.nd
  have G__law_call := ok__law_call (P := P) (w := w) (base := base) T hB
  have G__law_seen := ok__law_seen (P := P) (w := w) (base := base) T hB
  refine T.F__law_acted.ok sc__law_acted (fun vs H Q E h => ?_) (fun cdv Ar outer s H vs Q E hr h => ?_)
  · obtain ⟨x, q, h, dz, lz, nh, nl, sg, dy, lr, pp, tc, C, nm, rfl, _⟩ := h; rfl
  · skip
    obtain ⟨x, q, h, dz, lz, nh, nl, sg, dy, lr, pp, tc, C, nm, rfl, R, h6, hnh, hnl, hD, hN, kk⟩ := h
    refine PSs.rd (pss_cons (ps_set (i := 2) nd rfl (Or.inl rfl) pe_non)
    (pss_cons (ps_set (i := 3) nd rfl (Or.inl rfl) (pe_lst pa_nil))
    (pss_cons (ps_cut (ps_try (i := 4) rfl rfl nd rfl rfl rfl T.mc_RingError
      (fun _ _ => (pss_one (ps_set (i := 2) nd rfl (Or.inl rfl) (pe_callX (G__law_call.mono (by decide)) hr rfl T.m__law_call T.k__law_call T.d__law_call (pa_cons (pvI 0) (pa_cons (pvI 1) pa_nil))))))
      (fun _ => (pss_one (ps_set (i := 3) nd rfl (Or.inl rfl) (pe_callH (G__law_seen.mono (by decide)) (hr.h _) rfl T.m__law_seen T.k__law_seen T.d__law_seen (pa_cons (pvI 4) pa_nil)))))))
    (pss_one (ps_ret (pe_tup (pa_cons (pvI 2) (pa_cons (pvI 3) pa_nil)))))))) ?_
    try dsimp only [L2.cxOf, L2.Cx.nox]
    rw [show ∀ v0 v1 : V, L2.start ["_law_ring", "_law_deed", "_law_found", "_law_bad", "_law_e"] [v0, v1] = [some v0, some v1, none, none, none] from fun _ _ => rfl]
    refine ⟨Nat.zero_le _, fun b0 hb0 => ?_⟩
    have s0 := same_upd (o := .lst []) hb0
    generalize upd H b0 (.lst []) = H0 at *
    try dsimp only [List.set_cons_zero, List.set_cons_succ]
    refine ⟨fun σ H' => ∃ r : Addr, σ = [some (.ref x), some (.ref q), some .non, some (.ref r), none] ∧ Same H H' ∧ H' r = some (.lst ((seenL nm).map V.bl)), ?_, ?_⟩
    case refine_2 =>
      intro σ H' hh
      refine byC fun hG => ?_
      obtain ⟨r, rfl, s, hr'⟩ := hh
      refine hG ?_
      refine ⟨_, rfl, _, rfl, by show 2 ≤ sizeLine; decide, fun a ha => ?_⟩
      have sa := same_upd (o := .tup [.non, .ref r]) ha
      exact kk a r _ (s.trans sa) upd_same (sa _ _ hr')
    have hD0 : RefD K A H0 q h dz lz C := by
      rcases hD with ⟨d, hq, hr'⟩ | ⟨a, ho, c, hq, hr'⟩
      · exact .inl ⟨d, s0.tupS hq, hr'⟩
      · exact .inr ⟨a, ho, c, s0.tupS hq, hr'⟩
    have eis : ErrIs K A C nm ∧ PySem.W.exmOne K (.ref C) (.ref A.c_RingError) = some true := by
      rcases hN with ⟨rfl, rfl⟩ | ⟨rfl, rfl⟩ | ⟨rfl, rfl⟩ | ⟨rfl, rfl⟩ | ⟨rfl, rfl⟩
      · exact ⟨eis_BadDay T, T.em_BadDay⟩
      · exact ⟨eis_Full T, T.em_Full⟩
      · exact ⟨eis_NoHappening T, T.em_NoHappening⟩
      · exact ⟨eis_NoHouse T, T.em_NoHouse⟩
      · exact ⟨eis_BadCrowns T, T.em_BadCrowns⟩
    refine ⟨_, rfl, _, rfl, x, q, h, dz, lz, nh, nl, sg, dy, lr, pp, tc, C, rfl, R.same s0, h6, hnh, hnl, hD0, ⟨_, rfl, eis.2, fun ex he => ?_⟩⟩
    exact ⟨_, rfl, ex, _, nm, rfl, upd_same, eis.1, fun l H3 hl3 s3 hl33 => ⟨l, rfl, s0.trans ((same_upd he).trans s3), hl33⟩⟩
def sp_law (K : Frag) (tl : List Addr) : Sp := fun vs H Q _ => ∃ (a : Addr) (ns : List Int), vs = [.ref a] ∧ SqL K H a (ns.map V.int) ∧ ns.length ≤ 63 ∧ (∀ P ∈ tl, H P = some (.tbl #[])) ∧ ∀ H', Q (.bl true) H'
theorem sc_law : FnScope ["_law_script", "_law_draws_here", "_law_houses", "_law_ring", "_law_k", "_law_full", "_law_house", "_law_one", "_law_other", "_law_gone"] ["_law_script"] (defScope s_law) := ⟨rfl, rfl, rfl, by decide +kernel, rfl, by decide +kernel, by decide +kernel⟩
set_option maxHeartbeats 0 in
theorem ok_law (T : Txt w K mg A) (hB : BmAt mg base) : FnOk P w K mg base CX0 6 A.a_law A.f_law ["_law_script"] (sp_law K (tabsA A)) := by
  have nd := sc_law.nd
  have G_Ring___init__ := ok_Ring___init__ (P := P) (w := w) (base := base) T hB
  have G_Ring_happen := ok_Ring_happen (P := P) (w := w) (base := base) T hB
  have G_Ring_happenings := ok_Ring_happenings (P := P) (w := w) (base := base) T hB
  have G_Ring_lose := ok_Ring_lose (P := P) (w := w) (base := base) T hB
  have G_Ring_losses := ok_Ring_losses (P := P) (w := w) (base := base) T hB
  have G_Ring_merge := ok_Ring_merge (P := P) (w := w) (base := base) T hB
  have G_Ring_strike := ok_Ring_strike (P := P) (w := w) (base := base) T hB
  have G__law_acted := ok__law_acted (P := P) (w := w) (base := base) T hB
  have G__law_draws := ok__law_draws (P := P) (w := w) (base := base) T hB
  have G__law_due := ok__law_due (P := P) (w := w) (base := base) T hB
  refine T.F_law.ok sc_law (fun vs H Q E h => ?_) (fun cdv Ar outer s H vs Q E hr h => ?_)
  · obtain ⟨a, ns, rfl, _⟩ := h; rfl
  · skip
    obtain ⟨a, ns, rfl, hS, hl, htb, kk⟩ := h
    have hP0 : H A.lp_Ring_happenings = some (.tbl #[]) := htb _ List.mem_cons_self
    refine PSs.rd (pss_cons (ps_set (i := 1) nd rfl (Or.inl rfl) (pe_call (G__law_draws.mono (by decide)) hr rfl T.m__law_draws T.k__law_draws T.d__law_draws .nil pass0 (pa_cons (pvI 0) (pa_cons pe_int pa_nil))))
    (pss_cons (ps_set (i := 2) nd rfl (Or.inl rfl) (pe_op op_addI pe_int (pe_op op_modI (pe_ix (ix_listI K rfl) (pvI 1) pe_int (fun _ _ => rfl)) pe_int)))
    (pss_cons (ps_set (i := 3) nd rfl (Or.inl rfl) (pe_make T.mk_Ring (G_Ring___init__.mono (by decide)) hr rfl T.mc_Ring T.d_Ring___init__ .nil pass0 (pa_cons (pvI 2) pa_nil)))
    (pss_cons (ps_for PassesOwn.never rfl (pi_range1 rfl T.b_range (pa_cons pe_int pa_nil)) (pg_name (i := 4) nd rfl (Or.inl rfl))
      (pss_one (ps_if (pt_cmpR op_ne (pe_meth (pvI 3) T.cl_Ring T.me_Ring_happen (G_Ring_happen.dn.mono (by decide)) hr T.d_Ring_happen .nil pass0 (pa_cons (pe_op op_modI (pe_ix (ix_listI K rfl) (pvI 1) (pe_op op_addI pe_int (pvI 4)) (fun _ _ => rfl)) pe_int) pa_nil)) (pvI 4) (nomark _))
         (pss_one (ps_ret pe_bl))
         pss_nil)))
    (pss_cons (ps_for PassesOwn.never rfl (pi_range1 rfl T.b_range (pa_cons pe_int pa_nil)) (pg_name (i := 4) nd rfl (Or.inl rfl))
      (pss_one (ps_if (pt_cmpR op_ne (pe_meth (pvI 3) T.cl_Ring T.me_Ring_lose (G_Ring_lose.dn.mono (by decide)) hr T.d_Ring_lose .nil pass0 (pa_cons (pe_op op_modI (pe_ix (ix_listI K rfl) (pvI 1) (pe_op op_addI pe_int (pvI 4)) (fun _ _ => rfl)) pe_int) (pa_cons (pe_op op_modI (pe_ix (ix_listI K rfl) (pvI 1) pe_int (fun _ _ => rfl)) (pvI 2)) (pa_cons (pe_op op_addI pe_int (pe_op op_modI (pe_ix (ix_listI K rfl) (pvI 1) (pe_op op_addI pe_int (pvI 4)) (fun _ _ => rfl)) pe_int)) pa_nil)))) (pvI 4) (nomark _))
         (pss_one (ps_ret pe_bl))
         pss_nil)))
    (pss_cons (ps_set (i := 5) nd rfl (Or.inl rfl) (pe_tup (pa_cons pe_non (pa_cons (pe_call (G__law_due.mono (by decide)) hr rfl T.m__law_due T.k__law_due T.d__law_due .nil pass0 (pa_cons pe_str pa_nil)) pa_nil))))
    (pss_cons (ps_if (PW.pt (pw_or (pt_cmpR (op_neD (u64 hr)) (pe_call (G__law_acted.mono (by decide)) hr rfl T.m__law_acted T.k__law_acted T.d__law_acted .nil pass0 (pa_cons (pvI 3) (pa_cons (pe_tup (pa_cons pe_str (pa_cons pe_int pa_nil))) pa_nil))) (pvI 5) (nomark _)) (pw_or1 (pt_cmpR (op_neD (u64 hr)) (pe_call (G__law_acted.mono (by decide)) hr rfl T.m__law_acted T.k__law_acted T.d__law_acted .nil pass0 (pa_cons (pvI 3) (pa_cons (pe_tup (pa_cons pe_str (pa_cons pe_int (pa_cons pe_int (pa_cons pe_int pa_nil))))) pa_nil))) (pvI 5) (nomark _)))))
      (pss_one (ps_ret pe_bl))
      pss_nil)
    (pss_cons (ps_if (pt_cmpR (op_neD (u64 hr)) (pe_call (G__law_acted.mono (by decide)) hr rfl T.m__law_acted T.k__law_acted T.d__law_acted .nil pass0 (pa_cons (pvI 3) (pa_cons (pe_tup (pa_cons pe_str (pa_cons pe_int pa_nil))) pa_nil))) (pe_tup (pa_cons pe_non (pa_cons (pe_call (G__law_due.mono (by decide)) hr rfl T.m__law_due T.k__law_due T.d__law_due .nil pass0 (pa_cons pe_str pa_nil)) pa_nil))) (nomark _))
      (pss_one (ps_ret pe_bl))
      pss_nil)
    (pss_cons (ps_if (pt_cmpR (op_neD (u64 hr)) (pe_call (G__law_acted.mono (by decide)) hr rfl T.m__law_acted T.k__law_acted T.d__law_acted .nil pass0 (pa_cons (pvI 3) (pa_cons (pe_tup (pa_cons pe_str (pa_cons pe_int (pa_cons pe_int (pa_cons pe_int pa_nil))))) pa_nil))) (pe_tup (pa_cons pe_non (pa_cons (pe_call (G__law_due.mono (by decide)) hr rfl T.m__law_due T.k__law_due T.d__law_due .nil pass0 (pa_cons pe_str pa_nil)) pa_nil))) (nomark _))
      (pss_one (ps_ret pe_bl))
      pss_nil)
    (pss_cons (ps_for PassesOwn.never rfl (pi_list (pe_lst (pa_cons (pvI 2) (pa_cons (pe_un un_neg pe_int) pa_nil)))) (pg_name (i := 6) nd rfl (Or.inl rfl))
      (pss_one (ps_if (pt_cmpR (op_neD (u64 hr)) (pe_call (G__law_acted.mono (by decide)) hr rfl T.m__law_acted T.k__law_acted T.d__law_acted .nil pass0 (pa_cons (pvI 3) (pa_cons (pe_tup (pa_cons pe_str (pa_cons pe_int (pa_cons (pvI 6) (pa_cons pe_int pa_nil))))) pa_nil))) (pe_tup (pa_cons pe_non (pa_cons (pe_call (G__law_due.mono (by decide)) hr rfl T.m__law_due T.k__law_due T.d__law_due .nil pass0 (pa_cons pe_str pa_nil)) pa_nil))) (nomark _))
         (pss_one (ps_ret pe_bl))
         pss_nil)))
    (pss_cons (ps_set (i := 7) nd rfl (Or.inl rfl) (pe_op op_modI (pe_ix (ix_listI K rfl) (pvI 1) pe_int (fun _ _ => rfl)) pe_int))
    (pss_cons (ps_set (i := 8) nd rfl (Or.inl rfl) (pe_op op_modI (pe_op op_addI (pe_op op_addI (pvI 7) pe_int) (pe_op op_modI (pe_ix (ix_listI K rfl) (pvI 1) pe_int (fun _ _ => rfl)) pe_int)) pe_int))
    (pss_cons (ps_set (i := 9) nd rfl (Or.inl rfl) (pe_op op_modI (pe_ix (ix_listI K rfl) (pvI 1) pe_int (fun _ _ => rfl)) pe_int))
    (pss_cons (ps_if (PW.pt (pw_and (pt_cmpR op_eq (pe_op op_modI (pe_ix (ix_listI K rfl) (pvI 1) pe_int (fun _ _ => rfl)) pe_int) pe_int (nomark _)) (pw_and1 (PW.pt (pw_or (pt_cmpR op_notN (pe_meth (pvI 3) T.cl_Ring T.me_Ring_strike (G_Ring_strike.mono (by decide)) hr T.d_Ring_strike .nil pass0 (pa_cons (pvI 9) pa_nil)) pe_non (nomark _)) (pw_or1 (pt_cmpR op_ne (pe_meth (pvI 3) T.cl_Ring T.me_Ring_lose (G_Ring_lose.dn.mono (by decide)) hr T.d_Ring_lose .nil pass0 (pa_cons (pvI 7) (pa_cons pe_int (pa_cons pe_int pa_nil)))) pe_int (nomark _))))))))
      (pss_one (ps_ret pe_bl))
      pss_nil)
    (pss_cons (ps_if (PW.pt (pw_or (pt_cmpR op_notN (pe_meth (pvI 3) T.cl_Ring T.me_Ring_merge (G_Ring_merge.dn.mono (by decide)) hr T.d_Ring_merge .nil pass0 (pa_cons (pvI 7) (pa_cons (pvI 8) pa_nil))) pe_non (nomark _)) (pw_or1 (pt_cmpR (op_neD (u64 hr)) (pe_ix (ix_tupI K rfl) (pe_call (G__law_acted.mono (by decide)) hr rfl T.m__law_acted T.k__law_acted T.d__law_acted .nil pass0 (pa_cons (pvI 3) (pa_cons (pe_tup (pa_cons pe_str (pa_cons (pvI 8) (pa_cons pe_int (pa_cons pe_int pa_nil))))) pa_nil))) pe_int (fun _ _ => rfl)) (pe_call (G__law_due.mono (by decide)) hr rfl T.m__law_due T.k__law_due T.d__law_due .nil pass0 (pa_cons pe_str pa_nil)) (nomark _)))))
      (pss_one (ps_ret pe_bl))
      pss_nil)
    (pss_cons (ps_if (PW.pt (pw_or (pt_cmpR (op_neD (u64 hr)) (pe_call (G__law_acted.mono (by decide)) hr rfl T.m__law_acted T.k__law_acted T.d__law_acted .nil pass0 (pa_cons (pvI 3) (pa_cons (pe_tup (pa_cons pe_str (pa_cons (pvI 7) (pa_cons pe_int (pa_cons pe_int pa_nil))))) pa_nil))) (pvI 5) (nomark _)) (pw_or1 (pt_cmpR op_ne (pe_meth (pvI 3) T.cl_Ring T.me_Ring_happen (G_Ring_happen.dn.mono (by decide)) hr T.d_Ring_happen .nil pass0 (pa_cons pe_int pa_nil)) pe_int (nomark _)))))
      (pss_one (ps_ret pe_bl))
      pss_nil)
    (pss_cons (ps_if (pt_cmpR (op_neD (u64 hr)) (pe_call (G__law_acted.mono (by decide)) hr rfl T.m__law_acted T.k__law_acted T.d__law_acted .nil pass0 (pa_cons (pvI 3) (pa_cons (pe_tup (pa_cons pe_str (pa_cons pe_int pa_nil))) pa_nil))) (pvI 5) (nomark _))
      (pss_one (ps_ret pe_bl))
      pss_nil)
    (pss_one (ps_ret (pe_and (pe_cmpR op_eq (pe_callB call_len_seq rfl T.b_len PySem.boot_len (pa_cons (pe_meth0 (pvI 3) T.cl_Ring T.me_Ring_losses (G_Ring_losses.mono (by decide)) hr T.d_Ring_losses .nil pass0) pa_nil)) pe_int (nomark _)) (pe_one (pe_cmpR op_eq (pe_callB call_len_seq rfl T.b_len PySem.boot_len (pa_cons (pe_meth0 (pvI 3) T.cl_Ring T.me_Ring_happenings (G_Ring_happenings.mono (by decide)) hr T.d_Ring_happenings .nil pass0) pa_nil)) pe_int (nomark _))))))))))))))))))))))) ?_
    try dsimp only [L2.cxOf, L2.Cx.nox]
    rw [show ∀ v0 : V, L2.start ["_law_script", "_law_draws_here", "_law_houses", "_law_ring", "_law_k", "_law_full", "_law_house", "_law_one", "_law_other", "_law_gone"] [v0] = [some v0, none, none, none, none, none, none, none, none, none] from fun _ => rfl]
    refine ⟨_, rfl, a, ns, 60, rfl, hS, hl, by decide, fun dh ds H1 _ s1 hd1 hdl hD => ?_⟩
    refine byC fun hG => ?_
    obtain ⟨d0, D0, i0⟩ := draw_at hD (i := 0) (by omega)
    refine hG ?_
    refine ⟨_, rfl, dh, _, 0, _, rfl, rfl, SqL.of hd1, i0, _, _, rfl, rfl, pj, _, _, rfl, rfl, ?_⟩
    have e1 : (1 : Int) + (d0 : Int) % 6 = ((1 + d0 % 6 : Nat) : Int) := by omega
    rw [e1]
    have hn1 : 1 ≤ 1 + d0 % 6 := by omega
    have hn6 : 1 + d0 % 6 ≤ 6 := by omega
    generalize 1 + d0 % 6 = h at hn1 hn6
    try dsimp only [List.set_cons_zero, List.set_cons_succ]
    refine ⟨_, rfl, fun x dx hx hdx ndx => ?_⟩
    have m2 := make_pre (o1 := .ins A.c_Ring dx []) (o2 := .own x) hx hdx
    refine ⟨x, dx, h, rfl, by omega, hn6, upd_same, fun sg dy lr pp tc H2 bx fsg fdy flr fpp ftc ndl R => ⟨rfl, ?_⟩⟩
    have s2 : Same H1 H2 := make_same hx hdx bx
    try dsimp only [List.set_cons_zero, List.set_cons_succ]
    have nold : ∀ {b : Addr} {o : HO}, H1 b = some o → b ∉ [x, lr, dy] := fun {b o} e z => by
      rcases List.mem_cons.mp z with z | z
      · rw [z, hx] at e; cases e
      rcases List.mem_cons.mp z with z | z
      · have := m2 _ _ e; rw [z, flr] at this; cases this
      · have := m2 _ _ e; rw [List.mem_singleton.mp z, fdy] at this; cases this
    have hP1 := s1 _ _ hP0
    have ndh := nold hd1
    have nPP := nold hP1
    have hd2 := s2 _ _ hd1
    have hP2 := s2 _ _ hP1
    have R0 := R.toD ndl
    clear R bx m2
    refine ⟨_, rfl, by decide, by decide, ?_⟩
    refine for_range (n := 12) (fun i σ H' => ∃ (dz : List (Int × Int)) (x4 : Option V), σ = [some (.ref a), some (.ref dh), some (.int h), some (.ref x), x4, none, none, none, none, none] ∧ SameX [x, lr, dy] H2 H' ∧ RgD A.c_Ring K H' x h dz [] i 0 sg dy lr pp tc ∧ dz.length = i ∧ ∀ k : Int, 0 ≤ k → k < (i : Int) → k ∈ dz.map (·.1))
      ⟨[], _, rfl, SameX.refl, R0, rfl, fun k h1 h2 => by omega⟩ ?_ ?_
    · intro i σ H3 hi zz1
      refine byC fun hG => ?_
      obtain ⟨dz, x4, rfl, sX, RR, hlen, hmem⟩ := zz1
      obtain ⟨dx', fs', ux, uO⟩ := RR.obj
      obtain ⟨dk, Dk, ik⟩ := draw_at hD (i := 1 + i) (by omega)
      have e2 : (1 : Int) + (0 + (i : Nat) : Int) = ((1 + i : Nat) : Int) := by omega
      refine hG ?_
      try dsimp only [List.set_cons_zero, List.set_cons_succ]
      refine ⟨_, rfl, x, dx', _, rfl, ux, uO.no "happen" (by decide +kernel), _, rfl, _, rfl, _, _, rfl, rfl, dh, _, _, _, rfl, rfl, SqL.of (sX _ _ ndh hd2), (by show atI _ ((1 : Int) + (0 + (i : Nat) : Int)) = _; rw [e2]; exact ik), _, _, rfl, rfl, pj, ?_⟩
      have hday : 0 ≤ (dk : Int) % 100 ∧ (dk : Int) % 100 ≤ 99 := by omega
      refine ⟨x, _, h, dz, [], i, 0, sg, dy, lr, pp, tc, rfl, RR, by omega, fun n => absurd hday n, fun _ z => by omega, fun _ _ H4 X4 U4 R4 => ?_⟩
      refine ⟨_, rfl, rfl, _, rfl, iteND (fun c => absurd (by show V.int _ = V.int _; congr 1; omega) c) (fun _ => ?_)⟩
      exact ⟨_, _, rfl, sX.trans (X4.sub fun b hb => by simp at hb ⊢; rcases hb with z | z; exact .inl z; exact .inr (.inr z)), R4, by rw [List.length_append, hlen]; rfl, fun k h1 h2 => by
        rw [List.map_append]
        by_cases c : k < (i : Int)
        · exact List.mem_append_left _ (hmem k h1 c)
        · exact List.mem_append_right _ (List.mem_singleton.mpr (by show k = (i : Int); omega))⟩
    intro σ H3 zz2
    refine byC fun hG => ?_
    obtain ⟨dz, x4, rfl, sX3, R3, hdl12, hdm⟩ := zz2
    obtain ⟨d43, D43, i43⟩ := draw_at hD (i := 43) (by omega)
    refine hG ?_
    try dsimp only [List.set_cons_zero, List.set_cons_succ]
    refine ⟨_, rfl, by decide, by decide, ?_⟩
    refine for_range (n := 30) (fun i σ H' => ∃ (lz : List Ls) (x4 : Option V), σ = [some (.ref a), some (.ref dh), some (.int h), some (.ref x), x4, none, none, none, none, none] ∧ SameX [x, lr, dy] H2 H' ∧ RgD A.c_Ring K H' x h dz lz 12 i sg dy lr pp tc ∧ lz.length = i ∧ ∀ k : Int, 0 ≤ k → k < (i : Int) → k ∈ lz.map (·.1))
      ⟨[], _, rfl, sX3, R3, rfl, fun k h1 h2 => by omega⟩ ?_ ?_
    · intro i σ H4 hi zz3
      refine byC fun hG => ?_
      obtain ⟨lz, x4, rfl, sX, RR, hlen, hmem⟩ := zz3
      obtain ⟨dx', fs', ux, uO⟩ := RR.obj
      obtain ⟨dk, Dk, ik⟩ := draw_at hD (i := 13 + i) (by omega)
      have e2 : (13 : Int) + (0 + (i : Nat) : Int) = ((13 + i : Nat) : Int) := by omega
      have hd4 := sX _ _ ndh hd2
      have hh0 : 0 < (h : Int) := by omega
      refine hG ?_
      try dsimp only [List.set_cons_zero, List.set_cons_succ]
      refine ⟨_, rfl, x, dx', _, rfl, ux, uO.no "lose" (by decide +kernel), _, rfl, _, rfl, _, _, rfl, rfl, dh, _, _, _, rfl, rfl, SqL.of hd4, (by show atI _ ((13 : Int) + (0 + (i : Nat) : Int)) = _; rw [e2]; exact ik), _, _, rfl, rfl, pj, _, rfl, dh, _, 43, _, rfl, rfl, SqL.of hd4, i43, _, rfl, _, _, rfl, rfl, hh0, _, rfl, _, rfl, _, _, rfl, rfl, dh, _, _, _, rfl, rfl, SqL.of hd4, (by show atI _ ((13 : Int) + (0 + (i : Nat) : Int)) = _; rw [e2]; exact ik), _, _, rfl, rfl, pj, _, _, rfl, rfl, ?_⟩
      have ha12 : (dk : Int) % 12 ∈ dz.map (·.1) := hdm _ (by omega) (by omega)
      have hho : 0 ≤ (d43 : Int) % (h : Int) ∧ (d43 : Int) % (h : Int) < (h : Int) := ⟨Int.emod_nonneg _ (by omega), Int.emod_lt_of_pos _ hh0⟩
      have hcr : 1 ≤ 1 + (dk : Int) % 100 ∧ 1 + (dk : Int) % 100 ≤ 100 := by omega
      refine ⟨x, _, _, _, h, dz, lz, 12, i, sg, dy, lr, pp, tc, rfl, RR, hn6, by omega, Nat.lt_of_lt_of_le (m := 12) (by omega) (by decide), Nat.lt_of_lt_of_le (m := 6) (by omega) (by decide), fun n => absurd ha12 n, fun _ n => absurd hho n, fun _ _ n => absurd hcr n, fun _ _ _ z => by omega, fun _ _ _ _ H5 X5 U5 R5 => ?_⟩
      refine ⟨_, rfl, rfl, _, rfl, iteND (fun c => absurd (by show V.int _ = V.int _; congr 1; omega) c) (fun _ => ?_)⟩
      exact ⟨_, _, rfl, sX.trans (X5.sub fun b hb => by simp at hb ⊢; rcases hb with z | z; exact .inl z; exact .inr (.inl z)), R5, by rw [List.length_append, hlen]; rfl, fun k h1 h2 => by
        rw [List.map_append]
        by_cases c : k < (i : Int)
        · exact List.mem_append_left _ (hmem k h1 c)
        · exact List.mem_append_right _ (List.mem_singleton.mpr (by show k = (i : Int); omega))⟩
    intro σ H4 zz4
    refine byC fun hG => ?_
    obtain ⟨lz, x4, rfl, sX4, R4, hll, hlm⟩ := zz4
    refine hG ?_
    try dsimp only [List.set_cons_zero, List.set_cons_succ]
    refine ⟨"Full", rfl, fun du H5 hdu s5 hdu5 => ⟨by show 2 ≤ sizeLine; decide, fun fl hfl => ?_⟩⟩
    have t6 := same_upd (o := .tup [.non, .ref du]) hfl
    have r6 := upd_same (H := H5) (a := fl) (o := .tup [.non, .ref du])
    generalize upd H5 fl (.tup [.non, .ref du]) = H6 at *
    have du6 := t6 _ _ hdu5
    have s6 := s5.trans t6
    have R6 := R4.same s6
    have sX6 := sX4.trans (SameX.of s6)
    have ndu : du ∉ [x, lr, dy] := fun z => by
      refine byC fun hG => ?_
      obtain ⟨dx', fs', ux, uO⟩ := R4.obj
      obtain ⟨kvs, ul, _⟩ := R4.hlr
      refine hG ?_
      rcases List.mem_cons.mp z with z | z
      · rw [z, ux] at hdu; cases hdu
      rcases List.mem_cons.mp z with z | z
      · rw [z, ul] at hdu; cases hdu
      · rw [List.mem_singleton.mp z, R4.hdy] at hdu; cases hdu
    clear s5 t6 hdu5 s6 sX4 R4 sX3 R3 hdu hfl
    have hz0 : 0 ≤ (0 : Int) ∧ (0 : Int) < (h : Int) := by omega
    refine ⟨_, rfl, by show 2 ≤ sizeLine; decide, fun q1 hq1 => ?_⟩
    have tq1 := same_upd (o := .tup [.str "happen", .int 5]) hq1
    have rq1 := upd_same (H := H6) (a := q1) (o := .tup [.str "happen", .int 5])
    generalize upd H6 q1 (.tup [.str "happen", .int 5]) = G1 at *
    have w1 := (Same.refl _).trans tq1
    refine ⟨x, q1, h, dz, lz, 12, 30, sg, dy, lr, pp, tc, A.c_Full, "Full", rfl, R6.same w1, hn6, by decide, by decide, .inl ⟨5, SqT.of rq1, .inr ⟨by decide, hdl12, rfl⟩⟩, .inr (.inl ⟨rfl, rfl⟩), fun u1 b1 J1 sj1 hu1 hb1 => ?_⟩
    have v1 := w1.trans sj1
    refine ⟨_, rfl, ne_seen (SqT.of hu1) (SqL.of hb1) (SqT.of (v1 _ _ r6)) (SqL.of (v1 _ _ du6)) ?_⟩
    refine ⟨false, rfl, ?_⟩
    show (if false = true then _ else _)
    rw [if_neg (by decide)]
    refine ⟨_, rfl, by show 4 ≤ sizeLine; decide, fun q2 hq2 => ?_⟩
    have tq2 := same_upd (o := .tup [.str "lose", .int 0, .int 0, .int 5]) hq2
    have rq2 := upd_same (H := J1) (a := q2) (o := .tup [.str "lose", .int 0, .int 0, .int 5])
    generalize upd J1 q2 (.tup [.str "lose", .int 0, .int 0, .int 5]) = G2 at *
    have w2 := v1.trans tq2
    refine ⟨x, q2, h, dz, lz, 12, 30, sg, dy, lr, pp, tc, A.c_Full, "Full", rfl, R6.same w2, hn6, by decide, by decide, .inr ⟨0, 0, 5, SqT.of rq2, by decide, by decide, .inr (.inr (.inr ⟨hdm _ (by decide) (by decide), hz0, by decide, hll, rfl⟩))⟩, .inr (.inl ⟨rfl, rfl⟩), fun u2 b2 J2 sj2 hu2 hb2 => ?_⟩
    have v2 := w2.trans sj2
    refine ⟨_, rfl, ne_seen (SqT.of hu2) (SqL.of hb2) (SqT.of (v2 _ _ r6)) (SqL.of (v2 _ _ du6)) ?_⟩
    refine ⟨false, rfl, ?_⟩
    show (if false = true then _ else _)
    rw [if_neg (by decide)]
    try dsimp only [List.set_cons_zero, List.set_cons_succ]
    refine ⟨_, rfl, by show 2 ≤ sizeLine; decide, fun q3 hq3 => ?_⟩
    have tq3 := same_upd (o := .tup [.str "happen", .int 100]) hq3
    have rq3 := upd_same (H := J2) (a := q3) (o := .tup [.str "happen", .int 100])
    generalize upd J2 q3 (.tup [.str "happen", .int 100]) = G3 at *
    have w3 := v2.trans tq3
    refine ⟨x, q3, h, dz, lz, 12, 30, sg, dy, lr, pp, tc, A.c_BadDay, "BadDay", rfl, R6.same w3, hn6, by decide, by decide, .inl ⟨100, SqT.of rq3, .inl ⟨by decide, rfl⟩⟩, .inl ⟨rfl, rfl⟩, fun u3 b3 J3 sj3 hu3 hb3 => ?_⟩
    have v3 := w3.trans sj3
    refine ⟨"BadDay", rfl, fun dz3 I3 hdz3 si3 hi3 => ⟨by show 2 ≤ sizeLine; decide, fun fq3 hfq3 => ?_⟩⟩
    have tf3 := same_upd (o := .tup [.non, .ref dz3]) hfq3
    have rf3 := upd_same (H := I3) (a := fq3) (o := .tup [.non, .ref dz3])
    generalize upd I3 fq3 (.tup [.non, .ref dz3]) = L3 at *
    have z3 := si3.trans tf3
    refine ne_seen (SqT.of (z3 _ _ hu3)) (SqL.of (z3 _ _ hb3)) (SqT.of rf3) (SqL.of (tf3 _ _ hi3)) ?_
    have v3 := v3.trans z3
    refine ⟨false, rfl, ?_⟩
    show (if false = true then _ else _)
    rw [if_neg (by decide)]
    try dsimp only [List.set_cons_zero, List.set_cons_succ]
    refine ⟨_, rfl, by show 4 ≤ sizeLine; decide, fun q4 hq4 => ?_⟩
    have tq4 := same_upd (o := .tup [.str "lose", .int 3, .int 0, .int 101]) hq4
    have rq4 := upd_same (H := L3) (a := q4) (o := .tup [.str "lose", .int 3, .int 0, .int 101])
    generalize upd L3 q4 (.tup [.str "lose", .int 3, .int 0, .int 101]) = G4 at *
    have w4 := v3.trans tq4
    refine ⟨x, q4, h, dz, lz, 12, 30, sg, dy, lr, pp, tc, A.c_BadCrowns, "BadCrowns", rfl, R6.same w4, hn6, by decide, by decide, .inr ⟨3, 0, 101, SqT.of rq4, by decide, by decide, .inr (.inr (.inl ⟨hdm _ (by decide) (by decide), hz0, by decide, rfl⟩))⟩, .inr (.inr (.inr (.inr ⟨rfl, rfl⟩))), fun u4 b4 J4 sj4 hu4 hb4 => ?_⟩
    have v4 := w4.trans sj4
    refine ⟨"BadCrowns", rfl, fun dz4 I4 hdz4 si4 hi4 => ⟨by show 2 ≤ sizeLine; decide, fun fq4 hfq4 => ?_⟩⟩
    have tf4 := same_upd (o := .tup [.non, .ref dz4]) hfq4
    have rf4 := upd_same (H := I4) (a := fq4) (o := .tup [.non, .ref dz4])
    generalize upd I4 fq4 (.tup [.non, .ref dz4]) = L4 at *
    have z4 := si4.trans tf4
    refine ne_seen (SqT.of (z4 _ _ hu4)) (SqL.of (z4 _ _ hb4)) (SqT.of rf4) (SqL.of (tf4 _ _ hi4)) ?_
    have v4 := v4.trans z4
    refine ⟨false, rfl, ?_⟩
    show (if false = true then _ else _)
    rw [if_neg (by decide)]
    try dsimp only [List.set_cons_zero, List.set_cons_succ]
    refine ⟨_, rfl, _, rfl, by show 2 ≤ sizeLine; decide, fun lh hlh => ?_⟩
    have tlh := same_upd (o := .lst [.int h, .int (-1)]) hlh
    have rlh := upd_same (H := L4) (a := lh) (o := .lst [.int h, .int (-1)])
    have vlh := v4.trans tlh
    refine ⟨lh, rfl, ⟨_, SqL.of upd_same⟩, ?_⟩
    generalize upd L4 lh (.lst [.int h, .int (-1)]) = N0 at *
    refine for_list (xs := [.int h, .int (-1)]) (fun i σ H' => Same N0 H' ∧ ∃ y : Option V, σ = [some (.ref a), some (.ref dh), some (.int h), some (.ref x), x4, some (.ref fl), y, none, none, none])
      ⟨Same.refl _, _, rfl⟩ (fun k σ H' _ p => SqL.of (p.1 _ _ rlh)) ?_ ?_
    · intro i y σ M0 hy zz5
      refine byC fun hG => ?_
      obtain ⟨sM, y0, rfl⟩ := zz5
      have hbad : ∃ ho : Int, y = .int ho ∧ ¬ (0 ≤ ho ∧ ho < (h : Int)) ∧ ho.natAbs < 2 ^ 100 := by
        match i with
        | 0 => cases hy; exact ⟨_, rfl, by omega, Nat.lt_of_lt_of_le (m := 7) (by omega) (by decide)⟩
        | 1 => cases hy; exact ⟨_, rfl, by omega, by decide⟩
        | n + 2 => simp at hy
      obtain ⟨ho, rfl, hho, hhb⟩ := hbad
      have vM := vlh.trans sM
      refine hG ?_
      try dsimp only [List.set_cons_zero, List.set_cons_succ]
      refine ⟨_, rfl, _, rfl, by show 4 ≤ sizeLine; decide, fun q5 hq5 => ?_⟩
      have tq5 := same_upd (o := .tup [.str "lose", .int 3, .int ho, .int 5]) hq5
      have rq5 := upd_same (H := M0) (a := q5) (o := .tup [.str "lose", .int 3, .int ho, .int 5])
      generalize upd M0 q5 (.tup [.str "lose", .int 3, .int ho, .int 5]) = G5 at *
      have w5 := vM.trans tq5
      refine ⟨x, q5, h, dz, lz, 12, 30, sg, dy, lr, pp, tc, A.c_NoHouse, "NoHouse", rfl, R6.same w5, hn6, by decide, by decide, .inr ⟨3, ho, 5, SqT.of rq5, by decide, hhb, .inr (.inl ⟨hdm _ (by decide) (by decide), hho, rfl⟩)⟩, .inr (.inr (.inr (.inl ⟨rfl, rfl⟩))), fun u5 b5 J5 sj5 hu5 hb5 => ?_⟩
      have v5 := w5.trans sj5
      refine ⟨"NoHouse", rfl, fun dz5 I5 hdz5 si5 hi5 => ⟨by show 2 ≤ sizeLine; decide, fun fq5 hfq5 => ?_⟩⟩
      have tf5 := same_upd (o := .tup [.non, .ref dz5]) hfq5
      have rf5 := upd_same (H := I5) (a := fq5) (o := .tup [.non, .ref dz5])
      generalize upd I5 fq5 (.tup [.non, .ref dz5]) = L5 at *
      have z5 := si5.trans tf5
      refine ne_seen (SqT.of (z5 _ _ hu5)) (SqL.of (z5 _ _ hb5)) (SqT.of rf5) (SqL.of (tf5 _ _ hi5)) ?_
      have v5 := v5.trans z5
      refine ⟨false, rfl, ?_⟩
      show (if false = true then _ else _)
      rw [if_neg (by decide)]
      exact ⟨sM.trans (tq5.trans (sj5.trans z5)), _, rfl⟩
    intro σ N1 zz6
    refine byC fun hG => ?_
    obtain ⟨sN, y0, rfl⟩ := zz6
    have vN := vlh.trans sN
    refine hG ?_
    try dsimp only [List.set_cons_zero, List.set_cons_succ]
    refine byC fun hG => ?_
    obtain ⟨d44, D44, i44⟩ := draw_at hD (i := 44) (by omega)
    obtain ⟨d45, D45, i45⟩ := draw_at hD (i := 45) (by omega)
    obtain ⟨d46, D46, i46⟩ := draw_at hD (i := 46) (by omega)
    obtain ⟨d47, D47, i47⟩ := draw_at hD (i := 47) (by omega)
    have hd6 := sX6 _ _ ndh hd2
    have hdN := vN _ _ hd6
    refine hG ?_
    refine ⟨_, rfl, dh, _, 44, _, rfl, rfl, SqL.of hdN, i44, _, _, rfl, rfl, pj, ?_⟩
    try dsimp only [List.set_cons_zero, List.set_cons_succ]
    refine ⟨_, rfl, _, _, rfl, rfl, _, rfl, dh, _, 45, _, rfl, rfl, SqL.of hdN, i45, _, _, rfl, rfl, pj, _, _, rfl, rfl, _, _, rfl, rfl, pj, ?_⟩
    try dsimp only [List.set_cons_zero, List.set_cons_succ]
    refine ⟨_, rfl, dh, _, 46, _, rfl, rfl, SqL.of hdN, i46, _, _, rfl, rfl, pj, ?_⟩
    try dsimp only [List.set_cons_zero, List.set_cons_succ]
    have on0 : 0 ≤ (d44 : Int) % 12 ∧ (d44 : Int) % 12 < 12 := by omega
    have ot0 : 0 ≤ ((d44 : Int) % 12 + 1 + (d45 : Int) % 11) % 12 ∧ ((d44 : Int) % 12 + 1 + (d45 : Int) % 11) % 12 < 12 ∧ (d44 : Int) % 12 ≠ ((d44 : Int) % 12 + 1 + (d45 : Int) % 11) % 12 := by omega
    have go0 : 0 ≤ (d46 : Int) % 30 ∧ (d46 : Int) % 30 < 30 := by omega
    generalize ((d44 : Int) % 12 + 1 + (d45 : Int) % 11) % 12 = other at *
    generalize (d44 : Int) % 12 = one at *
    generalize (d46 : Int) % 30 = gone at *
    have hone := hdm one on0.1 on0.2
    have hoth := hdm other ot0.1 ot0.2.1
    have hgm := hlm gone go0.1 go0.2
    have hob : one.natAbs < 2 ^ 100 := Nat.lt_of_lt_of_le (m := 12) (by omega) (by decide)
    have hotb : other.natAbs < 2 ^ 100 := Nat.lt_of_lt_of_le (m := 12) (by omega) (by decide)
    have RN := R6.same vN
    have hgl : (lz.filter fun l => decide (l.1 ≠ gone)).length = 29 := by
      have := filt_len R6.lnd hgm
      omega
    have to1 : ∀ b, b ∈ [x, lr] → b ∈ [x, lr, dy] := fun b hb => by simp at hb ⊢; rcases hb with z | z; exact .inl z; exact .inr (.inl z)
    have to2 : ∀ b, b ∈ [x, dy] → b ∈ [x, lr, dy] := fun b hb => by simp at hb ⊢; rcases hb with z | z; exact .inl z; exact .inr (.inr z)
    refine byC fun hG => ?_
    obtain ⟨dxn, fsn, uxn, uOn⟩ := RN.obj
    refine hG ?_
    refine (fun (key : ∀ (N2 : Hp) (lz' : List Ls) (nl' : Nat), SameX [x, lr, dy] N1 N2 → SameU N1 N2 → RgD A.c_Ring K N2 x h dz lz' 12 nl' sg dy lr pp tc → lz'.length = 30 → nl' ≤ 31 → _) =>
     ⟨_, rfl, dh, _, 47, _, rfl, rfl, SqL.of hdN, i47, _, _, rfl, rfl, pj, rfl, _, rfl, iteD (fun _ => ⟨_, rfl, x, dxn, _, rfl, uxn, uOn.no "strike" (by decide +kernel), _, rfl, x, gone, h, dz, lz, 12, 30, sg, dy, lr, pp, tc, rfl, RN, hgm, fun N2 X2 U2 R2 => ⟨rfl, _, rfl, iteND (fun c => absurd rfl c) (fun _ => R2.obj.elim fun dx2 h2 => h2.elim fun fs2 h3 => ⟨_, rfl, x, dx2, _, rfl, h3.1, h3.2.no "lose" (by decide +kernel), _, rfl, x, one, 0, 7, h, dz, _, 12, 30, sg, dy, lr, pp, tc, rfl, R2, hn6, by decide, hob, by decide, fun n => absurd hone n, fun _ n => absurd hz0 n, fun _ _ n => absurd (show (1 : Int) ≤ 7 ∧ (7 : Int) ≤ 100 by decide) n, fun _ _ _ z => absurd (hgl.symm.trans z) (by decide), fun _ _ _ _ N3 X3 U3 R3 => ⟨rfl, _, rfl, iteND (fun c => absurd rfl c) (fun _ => key N3 _ 31 ((X2.sub to1).trans (X3.sub to1)) ⟨fun b ys e => U3.1 _ _ (U2.1 _ _ e), fun b o u e => U3.2 _ _ _ (U2.2 _ _ _ e)⟩ R3 (by rw [List.length_append, hgl]; rfl) (by decide))⟩⟩)⟩⟩) (fun _ => iteF (key N1 lz 30 SameX.refl ⟨fun b ys e => e, fun b o u e => e⟩ RN hll (by decide)))⟩) ?_
    intro N2 lz' nl' X2 U2 R2 hl2 hnl2
    try dsimp only [List.set_cons_zero, List.set_cons_succ]
    refine byC fun hG => ?_
    obtain ⟨dx2, fs2, ux2, uO2⟩ := R2.obj
    refine hG ?_
    refine ⟨_, rfl, x, dx2, _, rfl, ux2, uO2.no "merge" (by decide +kernel), _, rfl, _, rfl, x, one, other, h, dz, lz', 12, nl', sg, dy, lr, pp, tc, rfl, R2, hone, hoth, ot0.2.2, by decide, fun N3 lz3 X3 U3 R3 ek => ?_⟩
    refine ⟨rfl, _, rfl, iteND (fun c => absurd rfl c) (fun _ => ?_)⟩
    have hl3 : lz3.length = 30 := by
      have := congrArg List.length ek
      rw [List.length_map, List.length_map] at this
      omega
    have hd11 : (dz.filter fun q => decide (q.1 ≠ other)).length = 11 := by
      have := filt_len R6.dnd hoth
      omega
    have nout : ¬ other ∈ (dz.filter fun q => decide (q.1 ≠ other)).map (·.1) := filt_out
    have hin : one ∈ (dz.filter fun q => decide (q.1 ≠ other)).map (·.1) := filt_in hone ot0.2.2
    generalize (dz.filter fun q => decide (q.1 ≠ other)) = dz3 at *
    have fl3 := U3.1 _ _ (U2.1 _ _ (vN _ _ r6))
    have du3 := X3 _ _ ndu (X2 _ _ ndu (vN _ _ du6))
    have hP3 := X3 _ _ nPP (X2 _ _ nPP (vN _ _ (sX6 _ _ nPP hP2)))
    refine ⟨_, rfl, _, rfl, by show 4 ≤ sizeLine; decide, fun q6 hq6 => ?_⟩
    have tq6 := same_upd (o := .tup [.str "lose", .int other, .int 0, .int 3]) hq6
    have rq6 := upd_same (H := N3) (a := q6) (o := .tup [.str "lose", .int other, .int 0, .int 3])
    generalize upd N3 q6 (.tup [.str "lose", .int other, .int 0, .int 3]) = G6 at *
    have w6 := (Same.refl _).trans tq6
    refine ⟨x, q6, h, dz3, lz3, 12, nl', sg, dy, lr, pp, tc, A.c_NoHappening, "NoHappening", rfl, R3.same w6, hn6, by decide, by omega, .inr ⟨other, 0, 3, SqT.of rq6, hotb, by decide, .inl ⟨nout, rfl⟩⟩, .inr (.inr (.inl ⟨rfl, rfl⟩)), fun u6 b6 J6 sj6 hu6 hb6 => ?_⟩
    have v6 := w6.trans sj6
    refine ⟨u6, _, 1, _, rfl, rfl, SqT.of hu6, rfl, "NoHappening", rfl, fun dn In hdn sn hin' => neD_bools (bs := seenL "NoHappening") (cs := seenL "NoHappening") (SqL.of (sn _ _ hb6)) (SqL.of hin') ⟨_, rfl, iteND (fun c => absurd rfl c) (fun _ => ?_)⟩⟩
    have vn := v6.trans sn
    try dsimp only [List.set_cons_zero, List.set_cons_succ]
    refine ⟨_, rfl, _, rfl, by show 4 ≤ sizeLine; decide, fun q7 hq7 => ?_⟩
    have tq7 := same_upd (o := .tup [.str "lose", .int one, .int 0, .int 5]) hq7
    have rq7 := upd_same (H := In) (a := q7) (o := .tup [.str "lose", .int one, .int 0, .int 5])
    generalize upd In q7 (.tup [.str "lose", .int one, .int 0, .int 5]) = G7 at *
    have w7 := vn.trans tq7
    refine ⟨x, q7, h, dz3, lz3, 12, nl', sg, dy, lr, pp, tc, A.c_Full, "Full", rfl, R3.same w7, hn6, by decide, by omega, .inr ⟨one, 0, 5, SqT.of rq7, hob, by decide, .inr (.inr (.inr ⟨hin, hz0, by decide, hl3, rfl⟩))⟩, .inr (.inl ⟨rfl, rfl⟩), fun u7 b7 J7 sj7 hu7 hb7 => ?_⟩
    have v7 := w7.trans sj7
    refine ⟨_, rfl, ne_seen (SqT.of hu7) (SqL.of hb7) (SqT.of (v7 _ _ fl3)) (SqL.of (v7 _ _ du3)) ?_⟩
    refine ⟨false, rfl, ?_⟩
    show (if false = true then _ else _)
    rw [if_neg (by decide)]
    have RJ := R3.same v7
    have flJ := v7 _ _ fl3
    have duJ := v7 _ _ du3
    have hPJ := v7 _ _ hP3
    refine byC fun hG => ?_
    obtain ⟨dxj, fsj, uxj, uOj⟩ := RJ.obj
    refine hG ?_
    refine ⟨_, rfl, x, dxj, _, rfl, uxj, uOj.no "happen" (by decide +kernel), x, 9, h, dz3, lz3, 12, nl', sg, dy, lr, pp, tc, rfl, RJ, by decide, fun n => absurd (show (0 : Int) ≤ 9 ∧ (9 : Int) ≤ 99 by decide) n, fun _ z => absurd (hd11.symm.trans z) (by decide), fun _ _ N4 X4 U4 R4 => ?_⟩
    refine ⟨rfl, _, rfl, iteND (fun c => absurd rfl c) (fun _ => ?_)⟩
    try dsimp only [List.set_cons_zero, List.set_cons_succ]
    have hd12 : (dz3 ++ [(((12 : Nat) : Int), (9 : Int))]).length = 12 := by rw [List.length_append, hd11]; rfl
    generalize dz3 ++ [(((12 : Nat) : Int), (9 : Int))] = dz4 at *
    have fl4 := U4.1 _ _ flJ
    have du4 := (X4.sub to2) _ _ ndu duJ
    have hP4 := (X4.sub to2) _ _ nPP hPJ
    refine ⟨_, rfl, by show 2 ≤ sizeLine; decide, fun q8 hq8 => ?_⟩
    have tq8 := same_upd (o := .tup [.str "happen", .int 5]) hq8
    have rq8 := upd_same (H := N4) (a := q8) (o := .tup [.str "happen", .int 5])
    generalize upd N4 q8 (.tup [.str "happen", .int 5]) = G8 at *
    have w8 := (Same.refl _).trans tq8
    refine ⟨x, q8, h, dz4, lz3, 13, nl', sg, dy, lr, pp, tc, A.c_Full, "Full", rfl, R4.same w8, hn6, by decide, by omega, .inl ⟨5, SqT.of rq8, .inr ⟨by decide, hd12, rfl⟩⟩, .inr (.inl ⟨rfl, rfl⟩), fun u8 b8 J8 sj8 hu8 hb8 => ?_⟩
    have v8 := w8.trans sj8
    refine ⟨_, rfl, ne_seen (SqT.of hu8) (SqL.of hb8) (SqT.of (v8 _ _ fl4)) (SqL.of (v8 _ _ du4)) ?_⟩
    refine ⟨false, rfl, ?_⟩
    show (if false = true then _ else _)
    rw [if_neg (by decide)]
    try dsimp only [List.set_cons_zero, List.set_cons_succ]
    have R5 := R4.same v8
    have hP5 := v8 _ _ hP4
    refine byC fun hG => ?_
    obtain ⟨dx5, fs5, ux5, uO5⟩ := R5.obj
    refine hG ?_
    refine ⟨_, rfl, x, dx5, _, rfl, ux5, uO5.no "losses" (by decide +kernel), x, h, dz4, lz3, 13, nl', sg, dy, lr, pp, tc, rfl, R5, fun l us O1 hl so hlo hus => ⟨l, us, rfl, .inl (SqL.of hlo), ?_⟩⟩
    refine ⟨rfl, _, rfl, iteD (fun _ => ?_) (fun c => absurd (by show V.int _ = V.int _; rw [hus, hl3]; rfl) c)⟩
    refine ⟨_, rfl, x, dx5, _, rfl, so _ _ ux5, uO5.no "happenings" (by decide +kernel), x, h, dz4, lz3, 13, nl', sg, dy, lr, pp, tc, rfl, R5.same so, by decide, so _ _ hP5, fun l2 as dz' O2 hp _ sx hl2 hal hat => ⟨l2, _, rfl, .inl (SqL.of hl2), rfl, ?_⟩⟩
    have hfin : decide (V.int (((as.map V.ref).length : Nat) : Int) = V.int 12) = true := decide_eq_true (by rw [List.length_map, hal, hp.length_eq, hd12]; rfl)
    refine (congrArg (fun b => Q (.bl b) O2) hfin).mpr (kk _)
end
set_option maxHeartbeats 0 in
theorem all_mk {l : PySem.W.OpenLaw} {w : World} {K : Frag} {h : Heap} {mg : Str → Option Value} {fa : Addr} (X : K.In h) (G : h.Ns mainGlobals mg) (hfa : mg "law" = some (.ref fa)) {C_Ring : Addr} (aC_Ring : nsIn K mainGlobals "Ring" = some (some (.ref C_Ring))) {C_BadAccount : Addr} (aC_BadAccount : nsIn K mainGlobals "BadAccount" = some (some (.ref C_BadAccount))) {C_BadCover : Addr} (aC_BadCover : nsIn K mainGlobals "BadCover" = some (some (.ref C_BadCover))) {C_BadCrowns : Addr} (aC_BadCrowns : nsIn K mainGlobals "BadCrowns" = some (some (.ref C_BadCrowns))) {C_BadDay : Addr} (aC_BadDay : nsIn K mainGlobals "BadDay" = some (some (.ref C_BadDay))) {C_BadDeed : Addr} (aC_BadDeed : nsIn K mainGlobals "BadDeed" = some (some (.ref C_BadDeed))) {C_BadHouses : Addr} (aC_BadHouses : nsIn K mainGlobals "BadHouses" = some (some (.ref C_BadHouses))) {C_BadLines : Addr} (aC_BadLines : nsIn K mainGlobals "BadLines" = some (some (.ref C_BadLines))) {C_BadLosses : Addr} (aC_BadLosses : nsIn K mainGlobals "BadLosses" = some (some (.ref C_BadLosses))) {C_BadTerms : Addr} (aC_BadTerms : nsIn K mainGlobals "BadTerms" = some (some (.ref C_BadTerms))) {C_BadText : Addr} (aC_BadText : nsIn K mainGlobals "BadText" = some (some (.ref C_BadText))) {C_Disagrees : Addr} (aC_Disagrees : nsIn K mainGlobals "Disagrees" = some (some (.ref C_Disagrees))) {C_Endless : Addr} (aC_Endless : nsIn K mainGlobals "Endless" = some (some (.ref C_Endless))) {C_Full : Addr} (aC_Full : nsIn K mainGlobals "Full" = some (some (.ref C_Full))) {C_NoCover : Addr} (aC_NoCover : nsIn K mainGlobals "NoCover" = some (some (.ref C_NoCover))) {C_NoHappening : Addr} (aC_NoHappening : nsIn K mainGlobals "NoHappening" = some (some (.ref C_NoHappening))) {C_NoHouse : Addr} (aC_NoHouse : nsIn K mainGlobals "NoHouse" = some (some (.ref C_NoHouse))) {C_NoLoss : Addr} (aC_NoLoss : nsIn K mainGlobals "NoLoss" = some (some (.ref C_NoLoss))) {C_Nothing : Addr} (aC_Nothing : nsIn K mainGlobals "Nothing" = some (some (.ref C_Nothing))) {C_RingError : Addr} (aC_RingError : nsIn K mainGlobals "RingError" = some (some (.ref C_RingError))) {C_Same : Addr} (aC_Same : nsIn K mainGlobals "Same" = some (some (.ref C_Same))) {C_Short : Addr} (aC_Short : nsIn K mainGlobals "Short" = some (some (.ref C_Short))) {C_Unbacked : Addr} (aC_Unbacked : nsIn K mainGlobals "Unbacked" = some (some (.ref C_Unbacked))) {f0 f1 f2 f3 f4 f5 f6 f7 f8 f9 f10 f11 f12 f13 f14 f15 f16 f17 f18 f19 f20 : Addr} (a0 : nsIn K mainGlobals "require_houses" = some (some (.ref f0))) (l0 : FL K "require_houses" "require_houses" s_require_houses f0) (a1 : nsIn K mainGlobals "require_house" = some (some (.ref f1))) (l1 : FL K "require_house" "require_house" s_require_house f1) (a2 : nsIn K mainGlobals "is_day" = some (some (.ref f2))) (l2 : FL K "is_day" "is_day" s_is_day f2) (a3 : nsIn K mainGlobals "require_day" = some (some (.ref f3))) (l3 : FL K "require_day" "require_day" s_require_day f3) (a4 : nsIn K mainGlobals "require_crowns" = some (some (.ref f4))) (l4 : FL K "require_crowns" "require_crowns" s_require_crowns f4) (a5 : findIn K (.ref C_Ring) "__init__" = some (some (.ref f5))) (i5 : PySem.W.isFn K (.ref f5) = true) (l5 : FL K "__init__" "Ring.__init__" s_Ring___init__ f5) (a6 : findIn K (.ref C_Ring) "require_happening" = some (some (.ref f6))) (i6 : PySem.W.isFn K (.ref f6) = true) (l6 : FL K "require_happening" "Ring.require_happening" s_Ring_require_happening f6) (a7 : findIn K (.ref C_Ring) "require_loss" = some (some (.ref f7))) (i7 : PySem.W.isFn K (.ref f7) = true) (l7 : FL K "require_loss" "Ring.require_loss" s_Ring_require_loss f7) (a8 : findIn K (.ref C_Ring) "happen" = some (some (.ref f8))) (i8 : PySem.W.isFn K (.ref f8) = true) (l8 : FL K "happen" "Ring.happen" s_Ring_happen f8) (a9 : findIn K (.ref C_Ring) "lose" = some (some (.ref f9))) (i9 : PySem.W.isFn K (.ref f9) = true) (l9 : FL K "lose" "Ring.lose" s_Ring_lose f9) (a10 : findIn K (.ref C_Ring) "strike" = some (some (.ref f10))) (i10 : PySem.W.isFn K (.ref f10) = true) (l10 : FL K "strike" "Ring.strike" s_Ring_strike f10) (a11 : findIn K (.ref C_Ring) "move" = some (some (.ref f11))) (i11 : PySem.W.isFn K (.ref f11) = true) (l11 : FL K "move" "Ring.move" s_Ring_move f11) (a12 : findIn K (.ref C_Ring) "merge" = some (some (.ref f12))) (i12 : PySem.W.isFn K (.ref f12) = true) (l12 : FL K "merge" "Ring.merge" s_Ring_merge f12) (a13 : findIn K (.ref C_Ring) "happenings" = some (some (.ref f13))) (i13 : PySem.W.isFn K (.ref f13) = true) (l13 : FL K "happenings" "Ring.happenings" s_Ring_happenings f13) (a14 : findIn K (.ref C_Ring) "losses" = some (some (.ref f14))) (i14 : PySem.W.isFn K (.ref f14) = true) (l14 : FL K "losses" "Ring.losses" s_Ring_losses f14) (a15 : nsIn K mainGlobals "_law_draws" = some (some (.ref f15))) (l15 : FL K "_law_draws" "_law_draws" s__law_draws f15) (a16 : nsIn K mainGlobals "_law_due" = some (some (.ref f16))) (l16 : FL K "_law_due" "_law_due" s__law_due f16) (a17 : nsIn K mainGlobals "_law_seen" = some (some (.ref f17))) (l17 : FL K "_law_seen" "_law_seen" s__law_seen f17) (a18 : nsIn K mainGlobals "_law_call" = some (some (.ref f18))) (l18 : FL K "_law_call" "_law_call" s__law_call f18) (a19 : nsIn K mainGlobals "_law_acted" = some (some (.ref f19))) (l19 : FL K "_law_acted" "_law_acted" s__law_acted f19) (a20 : nsIn K mainGlobals "law" = some (some (.ref f20))) (l20 : FL K "law" "law" s_law f20) {t_LAST_DAY : Tok} (v_LAST_DAY : nsIn K mainGlobals "LAST_DAY" = some (some (.int 99 t_LAST_DAY))) {t_LAST_HOUSE : Tok} (v_LAST_HOUSE : nsIn K mainGlobals "LAST_HOUSE" = some (some (.int 5 t_LAST_HOUSE))) {t_MOST_CROWNS : Tok} (v_MOST_CROWNS : nsIn K mainGlobals "MOST_CROWNS" = some (some (.int 100 t_MOST_CROWNS))) {t_MOST_HAPPENINGS : Tok} (v_MOST_HAPPENINGS : nsIn K mainGlobals "MOST_HAPPENINGS" = some (some (.int 12 t_MOST_HAPPENINGS))) {t_MOST_LOSSES : Tok} (v_MOST_LOSSES : nsIn K mainGlobals "MOST_LOSSES" = some (some (.int 30 t_MOST_LOSSES))) (pg_Ring : PySem.W.plainGet K C_Ring Str.empty = true) (hd_Ring : PySem.W.hasDictIn K C_Ring = true) (po_Ring : PySem.W.plainOver K C_Ring = true) (sa_Ring : findIn K (.ref C_Ring) "__setattr__" = some (some (.builtin "object.__setattr__"))) (mk_Ring : PySem.W.makesIn K C_Ring = true) (kc_Ring : keepIn K (.ref C_Ring) = true) (na_Ring_house_count : findIn K (.ref C_Ring) "house_count" = some none) (na_Ring_signed : findIn K (.ref C_Ring) "signed" = some none) (na_Ring_day_of : findIn K (.ref C_Ring) "day_of" = some none) (na_Ring_loss_rows : findIn K (.ref C_Ring) "loss_rows" = some none) (na_Ring_next_happening : findIn K (.ref C_Ring) "next_happening" = some none) (na_Ring_next_loss : findIn K (.ref C_Ring) "next_loss" = some none) (na_Ring_paid_parts : findIn K (.ref C_Ring) "paid_parts" = some none) (na_Ring_told_closings : findIn K (.ref C_Ring) "told_closings" = some none) (na_Ring_reckoning : findIn K (.ref C_Ring) "reckoning" = some none) (x_BadCrowns : PySem.W.excIn K C_BadCrowns [.type "ValueError", .type "Exception", .type "BaseException", .type "object"] "ValueError.__new__" = true) (ec_BadCrowns : ErrCls K C_BadCrowns) (em_BadCrowns : PySem.W.exmOne K (.ref C_BadCrowns) (.ref C_RingError) = some true) (kv_BadCrowns : kitOne K (.ref C_BadCrowns) (.type "ValueError") = some true) (ki_BadCrowns_BadAccount : kitOne K (.ref C_BadCrowns) (.ref C_BadAccount) = some false) (ki_BadCrowns_BadCover : kitOne K (.ref C_BadCrowns) (.ref C_BadCover) = some false) (ki_BadCrowns_BadCrowns : kitOne K (.ref C_BadCrowns) (.ref C_BadCrowns) = some true) (ki_BadCrowns_BadDay : kitOne K (.ref C_BadCrowns) (.ref C_BadDay) = some false) (ki_BadCrowns_BadDeed : kitOne K (.ref C_BadCrowns) (.ref C_BadDeed) = some false) (ki_BadCrowns_BadHouses : kitOne K (.ref C_BadCrowns) (.ref C_BadHouses) = some false) (ki_BadCrowns_BadLines : kitOne K (.ref C_BadCrowns) (.ref C_BadLines) = some false) (ki_BadCrowns_BadLosses : kitOne K (.ref C_BadCrowns) (.ref C_BadLosses) = some false) (ki_BadCrowns_BadTerms : kitOne K (.ref C_BadCrowns) (.ref C_BadTerms) = some false) (ki_BadCrowns_BadText : kitOne K (.ref C_BadCrowns) (.ref C_BadText) = some false) (ki_BadCrowns_Disagrees : kitOne K (.ref C_BadCrowns) (.ref C_Disagrees) = some false) (ki_BadCrowns_Endless : kitOne K (.ref C_BadCrowns) (.ref C_Endless) = some false) (ki_BadCrowns_Full : kitOne K (.ref C_BadCrowns) (.ref C_Full) = some false) (ki_BadCrowns_NoCover : kitOne K (.ref C_BadCrowns) (.ref C_NoCover) = some false) (ki_BadCrowns_NoHappening : kitOne K (.ref C_BadCrowns) (.ref C_NoHappening) = some false) (ki_BadCrowns_NoHouse : kitOne K (.ref C_BadCrowns) (.ref C_NoHouse) = some false) (ki_BadCrowns_NoLoss : kitOne K (.ref C_BadCrowns) (.ref C_NoLoss) = some false) (ki_BadCrowns_Nothing : kitOne K (.ref C_BadCrowns) (.ref C_Nothing) = some false) (ki_BadCrowns_Same : kitOne K (.ref C_BadCrowns) (.ref C_Same) = some false) (ki_BadCrowns_Short : kitOne K (.ref C_BadCrowns) (.ref C_Short) = some false) (ki_BadCrowns_Unbacked : kitOne K (.ref C_BadCrowns) (.ref C_Unbacked) = some false) (x_BadDay : PySem.W.excIn K C_BadDay [.type "ValueError", .type "Exception", .type "BaseException", .type "object"] "ValueError.__new__" = true) (ec_BadDay : ErrCls K C_BadDay) (em_BadDay : PySem.W.exmOne K (.ref C_BadDay) (.ref C_RingError) = some true) (kv_BadDay : kitOne K (.ref C_BadDay) (.type "ValueError") = some true) (ki_BadDay_BadAccount : kitOne K (.ref C_BadDay) (.ref C_BadAccount) = some false) (ki_BadDay_BadCover : kitOne K (.ref C_BadDay) (.ref C_BadCover) = some false) (ki_BadDay_BadCrowns : kitOne K (.ref C_BadDay) (.ref C_BadCrowns) = some false) (ki_BadDay_BadDay : kitOne K (.ref C_BadDay) (.ref C_BadDay) = some true) (ki_BadDay_BadDeed : kitOne K (.ref C_BadDay) (.ref C_BadDeed) = some false) (ki_BadDay_BadHouses : kitOne K (.ref C_BadDay) (.ref C_BadHouses) = some false) (ki_BadDay_BadLines : kitOne K (.ref C_BadDay) (.ref C_BadLines) = some false) (ki_BadDay_BadLosses : kitOne K (.ref C_BadDay) (.ref C_BadLosses) = some false) (ki_BadDay_BadTerms : kitOne K (.ref C_BadDay) (.ref C_BadTerms) = some false) (ki_BadDay_BadText : kitOne K (.ref C_BadDay) (.ref C_BadText) = some false) (ki_BadDay_Disagrees : kitOne K (.ref C_BadDay) (.ref C_Disagrees) = some false) (ki_BadDay_Endless : kitOne K (.ref C_BadDay) (.ref C_Endless) = some false) (ki_BadDay_Full : kitOne K (.ref C_BadDay) (.ref C_Full) = some false) (ki_BadDay_NoCover : kitOne K (.ref C_BadDay) (.ref C_NoCover) = some false) (ki_BadDay_NoHappening : kitOne K (.ref C_BadDay) (.ref C_NoHappening) = some false) (ki_BadDay_NoHouse : kitOne K (.ref C_BadDay) (.ref C_NoHouse) = some false) (ki_BadDay_NoLoss : kitOne K (.ref C_BadDay) (.ref C_NoLoss) = some false) (ki_BadDay_Nothing : kitOne K (.ref C_BadDay) (.ref C_Nothing) = some false) (ki_BadDay_Same : kitOne K (.ref C_BadDay) (.ref C_Same) = some false) (ki_BadDay_Short : kitOne K (.ref C_BadDay) (.ref C_Short) = some false) (ki_BadDay_Unbacked : kitOne K (.ref C_BadDay) (.ref C_Unbacked) = some false) (x_Full : PySem.W.excIn K C_Full [.type "ValueError", .type "Exception", .type "BaseException", .type "object"] "ValueError.__new__" = true) (ec_Full : ErrCls K C_Full) (em_Full : PySem.W.exmOne K (.ref C_Full) (.ref C_RingError) = some true) (kv_Full : kitOne K (.ref C_Full) (.type "ValueError") = some true) (ki_Full_BadAccount : kitOne K (.ref C_Full) (.ref C_BadAccount) = some false) (ki_Full_BadCover : kitOne K (.ref C_Full) (.ref C_BadCover) = some false) (ki_Full_BadCrowns : kitOne K (.ref C_Full) (.ref C_BadCrowns) = some false) (ki_Full_BadDay : kitOne K (.ref C_Full) (.ref C_BadDay) = some false) (ki_Full_BadDeed : kitOne K (.ref C_Full) (.ref C_BadDeed) = some false) (ki_Full_BadHouses : kitOne K (.ref C_Full) (.ref C_BadHouses) = some false) (ki_Full_BadLines : kitOne K (.ref C_Full) (.ref C_BadLines) = some false) (ki_Full_BadLosses : kitOne K (.ref C_Full) (.ref C_BadLosses) = some false) (ki_Full_BadTerms : kitOne K (.ref C_Full) (.ref C_BadTerms) = some false) (ki_Full_BadText : kitOne K (.ref C_Full) (.ref C_BadText) = some false) (ki_Full_Disagrees : kitOne K (.ref C_Full) (.ref C_Disagrees) = some false) (ki_Full_Endless : kitOne K (.ref C_Full) (.ref C_Endless) = some false) (ki_Full_Full : kitOne K (.ref C_Full) (.ref C_Full) = some true) (ki_Full_NoCover : kitOne K (.ref C_Full) (.ref C_NoCover) = some false) (ki_Full_NoHappening : kitOne K (.ref C_Full) (.ref C_NoHappening) = some false) (ki_Full_NoHouse : kitOne K (.ref C_Full) (.ref C_NoHouse) = some false) (ki_Full_NoLoss : kitOne K (.ref C_Full) (.ref C_NoLoss) = some false) (ki_Full_Nothing : kitOne K (.ref C_Full) (.ref C_Nothing) = some false) (ki_Full_Same : kitOne K (.ref C_Full) (.ref C_Same) = some false) (ki_Full_Short : kitOne K (.ref C_Full) (.ref C_Short) = some false) (ki_Full_Unbacked : kitOne K (.ref C_Full) (.ref C_Unbacked) = some false) (x_NoHappening : PySem.W.excIn K C_NoHappening [.type "ValueError", .type "Exception", .type "BaseException", .type "object"] "ValueError.__new__" = true) (ec_NoHappening : ErrCls K C_NoHappening) (em_NoHappening : PySem.W.exmOne K (.ref C_NoHappening) (.ref C_RingError) = some true) (kv_NoHappening : kitOne K (.ref C_NoHappening) (.type "ValueError") = some true) (ki_NoHappening_BadAccount : kitOne K (.ref C_NoHappening) (.ref C_BadAccount) = some false) (ki_NoHappening_BadCover : kitOne K (.ref C_NoHappening) (.ref C_BadCover) = some false) (ki_NoHappening_BadCrowns : kitOne K (.ref C_NoHappening) (.ref C_BadCrowns) = some false) (ki_NoHappening_BadDay : kitOne K (.ref C_NoHappening) (.ref C_BadDay) = some false) (ki_NoHappening_BadDeed : kitOne K (.ref C_NoHappening) (.ref C_BadDeed) = some false) (ki_NoHappening_BadHouses : kitOne K (.ref C_NoHappening) (.ref C_BadHouses) = some false) (ki_NoHappening_BadLines : kitOne K (.ref C_NoHappening) (.ref C_BadLines) = some false) (ki_NoHappening_BadLosses : kitOne K (.ref C_NoHappening) (.ref C_BadLosses) = some false) (ki_NoHappening_BadTerms : kitOne K (.ref C_NoHappening) (.ref C_BadTerms) = some false) (ki_NoHappening_BadText : kitOne K (.ref C_NoHappening) (.ref C_BadText) = some false) (ki_NoHappening_Disagrees : kitOne K (.ref C_NoHappening) (.ref C_Disagrees) = some false) (ki_NoHappening_Endless : kitOne K (.ref C_NoHappening) (.ref C_Endless) = some false) (ki_NoHappening_Full : kitOne K (.ref C_NoHappening) (.ref C_Full) = some false) (ki_NoHappening_NoCover : kitOne K (.ref C_NoHappening) (.ref C_NoCover) = some false) (ki_NoHappening_NoHappening : kitOne K (.ref C_NoHappening) (.ref C_NoHappening) = some true) (ki_NoHappening_NoHouse : kitOne K (.ref C_NoHappening) (.ref C_NoHouse) = some false) (ki_NoHappening_NoLoss : kitOne K (.ref C_NoHappening) (.ref C_NoLoss) = some false) (ki_NoHappening_Nothing : kitOne K (.ref C_NoHappening) (.ref C_Nothing) = some false) (ki_NoHappening_Same : kitOne K (.ref C_NoHappening) (.ref C_Same) = some false) (ki_NoHappening_Short : kitOne K (.ref C_NoHappening) (.ref C_Short) = some false) (ki_NoHappening_Unbacked : kitOne K (.ref C_NoHappening) (.ref C_Unbacked) = some false) (x_NoHouse : PySem.W.excIn K C_NoHouse [.type "ValueError", .type "Exception", .type "BaseException", .type "object"] "ValueError.__new__" = true) (ec_NoHouse : ErrCls K C_NoHouse) (em_NoHouse : PySem.W.exmOne K (.ref C_NoHouse) (.ref C_RingError) = some true) (kv_NoHouse : kitOne K (.ref C_NoHouse) (.type "ValueError") = some true) (ki_NoHouse_BadAccount : kitOne K (.ref C_NoHouse) (.ref C_BadAccount) = some false) (ki_NoHouse_BadCover : kitOne K (.ref C_NoHouse) (.ref C_BadCover) = some false) (ki_NoHouse_BadCrowns : kitOne K (.ref C_NoHouse) (.ref C_BadCrowns) = some false) (ki_NoHouse_BadDay : kitOne K (.ref C_NoHouse) (.ref C_BadDay) = some false) (ki_NoHouse_BadDeed : kitOne K (.ref C_NoHouse) (.ref C_BadDeed) = some false) (ki_NoHouse_BadHouses : kitOne K (.ref C_NoHouse) (.ref C_BadHouses) = some false) (ki_NoHouse_BadLines : kitOne K (.ref C_NoHouse) (.ref C_BadLines) = some false) (ki_NoHouse_BadLosses : kitOne K (.ref C_NoHouse) (.ref C_BadLosses) = some false) (ki_NoHouse_BadTerms : kitOne K (.ref C_NoHouse) (.ref C_BadTerms) = some false) (ki_NoHouse_BadText : kitOne K (.ref C_NoHouse) (.ref C_BadText) = some false) (ki_NoHouse_Disagrees : kitOne K (.ref C_NoHouse) (.ref C_Disagrees) = some false) (ki_NoHouse_Endless : kitOne K (.ref C_NoHouse) (.ref C_Endless) = some false) (ki_NoHouse_Full : kitOne K (.ref C_NoHouse) (.ref C_Full) = some false) (ki_NoHouse_NoCover : kitOne K (.ref C_NoHouse) (.ref C_NoCover) = some false) (ki_NoHouse_NoHappening : kitOne K (.ref C_NoHouse) (.ref C_NoHappening) = some false) (ki_NoHouse_NoHouse : kitOne K (.ref C_NoHouse) (.ref C_NoHouse) = some true) (ki_NoHouse_NoLoss : kitOne K (.ref C_NoHouse) (.ref C_NoLoss) = some false) (ki_NoHouse_Nothing : kitOne K (.ref C_NoHouse) (.ref C_Nothing) = some false) (ki_NoHouse_Same : kitOne K (.ref C_NoHouse) (.ref C_Same) = some false) (ki_NoHouse_Short : kitOne K (.ref C_NoHouse) (.ref C_Short) = some false) (ki_NoHouse_Unbacked : kitOne K (.ref C_NoHouse) (.ref C_Unbacked) = some false) (z_ValueError : nsIn K mainGlobals "ValueError" = some none) (z_isinstance : nsIn K mainGlobals "isinstance" = some none) (z_len : nsIn K mainGlobals "len" = some none) (z_list : nsIn K mainGlobals "list" = some none) (z_range : nsIn K mainGlobals "range" = some none) (z_sorted : nsIn K mainGlobals "sorted" = some none) {tl : List Addr} {lc_Ring_happenings lp_Ring_happenings : Addr} (lm_Ring_happenings : Lam K f13 lc_Ring_happenings lp_Ring_happenings) (htl : tl = [lp_Ring_happenings])
    : ∃ fd : FuncData, (∀ (s : Shared) (v : Value), BindsTo s fd ⟨[v], []⟩ [("_law_script", v)]) ∧ (∀ P ∈ tl, ∃ c, PySem.W.codeHdIn K c P = true) ∧ ∀ base : Heap, K.In base → base.Ns mainGlobals mg → BmAt mg base → FnOk l.prog w K mg base CX0 6 fa fd ["_law_script"] (sp_law K tl) := by
  subst htl
  have e := hfa.symm.trans (mg_of X G a20)
  cases e
  obtain ⟨e0, F0, k0, b0⟩ := l0.fn1 ["houses"] fun _ _ _ _ _ _ _ => rfl
  obtain ⟨e1, F1, k1, b1⟩ := l1.fn2 ["houses", "house"] fun _ _ _ _ _ _ _ _ => rfl
  obtain ⟨e2, F2, k2, b2⟩ := l2.fn1 ["day"] fun _ _ _ _ _ _ _ => rfl
  obtain ⟨e3, F3, k3, b3⟩ := l3.fn1 ["day"] fun _ _ _ _ _ _ _ => rfl
  obtain ⟨e4, F4, k4, b4⟩ := l4.fn1 ["crowns"] fun _ _ _ _ _ _ _ => rfl
  obtain ⟨e5, F5, k5, b5⟩ := l5.fn2 ["self", "houses"] fun _ _ _ _ _ _ _ _ => rfl
  obtain ⟨e6, F6, k6, b6⟩ := l6.fn2 ["self", "happening"] fun _ _ _ _ _ _ _ _ => rfl
  obtain ⟨e7, F7, k7, b7⟩ := l7.fn2 ["self", "loss"] fun _ _ _ _ _ _ _ _ => rfl
  obtain ⟨e8, F8, k8, b8⟩ := l8.fn2 ["self", "day"] fun _ _ _ _ _ _ _ _ => rfl
  obtain ⟨e9, F9, k9, b9⟩ := l9.fn4 ["self", "happening", "house", "crowns"] fun _ _ _ _ _ _ _ _ _ _ => rfl
  obtain ⟨e10, F10, k10, b10⟩ := l10.fn2 ["self", "loss"] fun _ _ _ _ _ _ _ _ => rfl
  obtain ⟨e11, F11, k11, b11⟩ := l11.fn3 ["self", "loss", "happening"] fun _ _ _ _ _ _ _ _ _ => rfl
  obtain ⟨e12, F12, k12, b12⟩ := l12.fn3 ["self", "one", "other"] fun _ _ _ _ _ _ _ _ _ => rfl
  obtain ⟨e13, F13, k13, b13⟩ := l13.fn1 ["self"] fun _ _ _ _ _ _ _ => rfl
  obtain ⟨e14, F14, k14, b14⟩ := l14.fn1 ["self"] fun _ _ _ _ _ _ _ => rfl
  obtain ⟨e15, F15, k15, b15⟩ := l15.fn2 ["_law_script", "_law_many"] fun _ _ _ _ _ _ _ _ => rfl
  obtain ⟨e16, F16, k16, b16⟩ := l16.fn1 ["_law_want"] fun _ _ _ _ _ _ _ => rfl
  obtain ⟨e17, F17, k17, b17⟩ := l17.fn1 ["_law_e"] fun _ _ _ _ _ _ _ => rfl
  obtain ⟨e18, F18, k18, b18⟩ := l18.fn2 ["_law_ring", "_law_deed"] fun _ _ _ _ _ _ _ _ => rfl
  obtain ⟨e19, F19, k19, b19⟩ := l19.fn2 ["_law_ring", "_law_deed"] fun _ _ _ _ _ _ _ _ => rfl
  obtain ⟨od, an, sl, oc, kV, dc, pm, cd, ct, l, c, k20⟩ := l20.ex
  have F20 := fun_mk (st := s_law) l c k20
  have b20 := F20.binds (ps := ["_law_script"]) fun _ _ _ _ _ _ us hl => len1 (p := fun us => bindArgs _ ⟨us, []⟩ = pure (List.zip (["_law_script"] : List Str) us)) (show us.length = 1 from hl) fun _ => rfl
  have T : Txt w K mg ⟨_, _, _, _, _, _, _, _, _, _, _, _, _, _, _, _, _, _, _, _, _, _, _, _, _, _, _, _, _, _, _, _, _, _, _, _, _, _, _, _, _, _, C_Ring, C_BadAccount, C_BadCover, C_BadCrowns, C_BadDay, C_BadDeed, C_BadHouses, C_BadLines, C_BadLosses, C_BadTerms, C_BadText, C_Disagrees, C_Endless, C_Full, C_NoCover, C_NoHappening, C_NoHouse, C_NoLoss, C_Nothing, C_RingError, C_Same, C_Short, C_Unbacked, lc_Ring_happenings, lp_Ring_happenings⟩ := ⟨F0, mg_of X G a0, k0, b0, F1, mg_of X G a1, k1, b1, F2, mg_of X G a2, k2, b2, F3, mg_of X G a3, k3, b3, F4, mg_of X G a4, k4, b4, F5, k5, b5, F6, ⟨a6, i6, k6⟩, k6, b6, F7, ⟨a7, i7, k7⟩, k7, b7, F8, ⟨a8, i8, k8⟩, k8, b8, F9, ⟨a9, i9, k9⟩, k9, b9, F10, ⟨a10, i10, k10⟩, k10, b10, F11, ⟨a11, i11, k11⟩, k11, b11, F12, ⟨a12, i12, k12⟩, k12, b12, F13, ⟨a13, i13, k13⟩, k13, b13, F14, ⟨a14, i14, k14⟩, k14, b14, F15, mg_of X G a15, k15, b15, F16, mg_of X G a16, k16, b16, F17, mg_of X G a17, k17, b17, F18, mg_of X G a18, k18, b18, F19, mg_of X G a19, k19, b19, F20, mg_of X G a20, k20, b20, lm_Ring_happenings, ⟨pg_Ring, hd_Ring, po_Ring, sa_Ring⟩, mg_of X G aC_Ring, ⟨mk_Ring, a5, i5, kc_Ring⟩, na_Ring_house_count, na_Ring_signed, na_Ring_day_of, na_Ring_loss_rows, na_Ring_next_happening, na_Ring_next_loss, na_Ring_paid_parts, na_Ring_told_closings, na_Ring_reckoning, mg_of X G aC_BadAccount, mg_of X G aC_BadCover, mg_of X G aC_BadCrowns, mg_of X G aC_BadDay, mg_of X G aC_BadDeed, mg_of X G aC_BadHouses, mg_of X G aC_BadLines, mg_of X G aC_BadLosses, mg_of X G aC_BadTerms, mg_of X G aC_BadText, mg_of X G aC_Disagrees, mg_of X G aC_Endless, mg_of X G aC_Full, mg_of X G aC_NoCover, mg_of X G aC_NoHappening, mg_of X G aC_NoHouse, mg_of X G aC_NoLoss, mg_of X G aC_Nothing, mg_of X G aC_RingError, mg_of X G aC_Same, mg_of X G aC_Short, mg_of X G aC_Unbacked, x_BadCrowns, ec_BadCrowns, em_BadCrowns, kv_BadCrowns, ki_BadCrowns_BadAccount, ki_BadCrowns_BadCover, ki_BadCrowns_BadCrowns, ki_BadCrowns_BadDay, ki_BadCrowns_BadDeed, ki_BadCrowns_BadHouses, ki_BadCrowns_BadLines, ki_BadCrowns_BadLosses, ki_BadCrowns_BadTerms, ki_BadCrowns_BadText, ki_BadCrowns_Disagrees, ki_BadCrowns_Endless, ki_BadCrowns_Full, ki_BadCrowns_NoCover, ki_BadCrowns_NoHappening, ki_BadCrowns_NoHouse, ki_BadCrowns_NoLoss, ki_BadCrowns_Nothing, ki_BadCrowns_Same, ki_BadCrowns_Short, ki_BadCrowns_Unbacked, x_BadDay, ec_BadDay, em_BadDay, kv_BadDay, ki_BadDay_BadAccount, ki_BadDay_BadCover, ki_BadDay_BadCrowns, ki_BadDay_BadDay, ki_BadDay_BadDeed, ki_BadDay_BadHouses, ki_BadDay_BadLines, ki_BadDay_BadLosses, ki_BadDay_BadTerms, ki_BadDay_BadText, ki_BadDay_Disagrees, ki_BadDay_Endless, ki_BadDay_Full, ki_BadDay_NoCover, ki_BadDay_NoHappening, ki_BadDay_NoHouse, ki_BadDay_NoLoss, ki_BadDay_Nothing, ki_BadDay_Same, ki_BadDay_Short, ki_BadDay_Unbacked, x_Full, ec_Full, em_Full, kv_Full, ki_Full_BadAccount, ki_Full_BadCover, ki_Full_BadCrowns, ki_Full_BadDay, ki_Full_BadDeed, ki_Full_BadHouses, ki_Full_BadLines, ki_Full_BadLosses, ki_Full_BadTerms, ki_Full_BadText, ki_Full_Disagrees, ki_Full_Endless, ki_Full_Full, ki_Full_NoCover, ki_Full_NoHappening, ki_Full_NoHouse, ki_Full_NoLoss, ki_Full_Nothing, ki_Full_Same, ki_Full_Short, ki_Full_Unbacked, x_NoHappening, ec_NoHappening, em_NoHappening, kv_NoHappening, ki_NoHappening_BadAccount, ki_NoHappening_BadCover, ki_NoHappening_BadCrowns, ki_NoHappening_BadDay, ki_NoHappening_BadDeed, ki_NoHappening_BadHouses, ki_NoHappening_BadLines, ki_NoHappening_BadLosses, ki_NoHappening_BadTerms, ki_NoHappening_BadText, ki_NoHappening_Disagrees, ki_NoHappening_Endless, ki_NoHappening_Full, ki_NoHappening_NoCover, ki_NoHappening_NoHappening, ki_NoHappening_NoHouse, ki_NoHappening_NoLoss, ki_NoHappening_Nothing, ki_NoHappening_Same, ki_NoHappening_Short, ki_NoHappening_Unbacked, x_NoHouse, ec_NoHouse, em_NoHouse, kv_NoHouse, ki_NoHouse_BadAccount, ki_NoHouse_BadCover, ki_NoHouse_BadCrowns, ki_NoHouse_BadDay, ki_NoHouse_BadDeed, ki_NoHouse_BadHouses, ki_NoHouse_BadLines, ki_NoHouse_BadLosses, ki_NoHouse_BadTerms, ki_NoHouse_BadText, ki_NoHouse_Disagrees, ki_NoHouse_Endless, ki_NoHouse_Full, ki_NoHouse_NoCover, ki_NoHouse_NoHappening, ki_NoHouse_NoHouse, ki_NoHouse_NoLoss, ki_NoHouse_Nothing, ki_NoHouse_Same, ki_NoHouse_Short, ki_NoHouse_Unbacked, ⟨_, mg_of X G v_LAST_DAY⟩, ⟨_, mg_of X G v_LAST_HOUSE⟩, ⟨_, mg_of X G v_MOST_CROWNS⟩, ⟨_, mg_of X G v_MOST_HAPPENINGS⟩, ⟨_, mg_of X G v_MOST_LOSSES⟩, mg_none_of X G z_ValueError, mg_none_of X G z_isinstance, mg_none_of X G z_len, mg_none_of X G z_list, mg_none_of X G z_range, mg_none_of X G z_sorted⟩
  exact ⟨_, fun s v => .of_eq rfl, fun P hP => ⟨lc_Ring_happenings, by rw [List.mem_singleton.mp hP]; exact lm_Ring_happenings.hd⟩, fun base _ _ hB => ok_law T hB⟩
theorem walk {l : PySem.W.OpenLaw} {q : Program} {loose : List Str} {XP : (Str → Option Value) → Heap → Prop} {YP : World → Heap → Prop} {d : DefRec} {K : Params → Frag} {tl : List Addr} (hn : l.most = some 63) (hdf : d.params.defaults = [])
    (hY : ∀ (w : World) (h : Heap), YP w h → (K w.params).In h) (hYT : ∀ (w : World) (h : Heap), YP w h → ∀ P ∈ tl, h.get? P = some (PySem.W.tabObj #[])) (hnT : ∀ w : World, PySem.W.noTabs (K w.params) = true)
    (F : ∀ (w : World) (mg : Str → Option Value) (fa : Addr) (h : Heap), (K w.params).In h → h.Ns mainGlobals mg → mg d.name = some (.ref fa) →
      ∃ fd : FuncData, (∀ (s : Shared) (u : Value), BindsTo s fd ⟨[u], []⟩ [("_law_script", u)]) ∧ (∀ P ∈ tl, ∃ c, PySem.W.codeHdIn (K w.params) c P = true) ∧ ∀ base : Heap, (K w.params).In base → base.Ns mainGlobals mg → BmAt mg base → FnOk l.prog w (K w.params) mg base CX0 6 fa fd ["_law_script"] (sp_law (K w.params) tl)) :
    PySem.W.WalkO q loose XP YP l.row.toRowW d [] (fun f vs => PySem.call f vs) :=
  L2.walk_ofT (n := 63) (k := 6) (x := "_law_script") (ts := tl) (CX := fun _ => CX0) (sp := fun w => sp_law (K w.params) tl) hn (by decide) hdf ⟨rfl, by decide, by decide⟩ hY hYT hnT F (fun _ _ a ns hl hS hT => ⟨a, ns, rfl, hS, hl, hT, fun _ => rfl⟩) fun _ _ _ _ _ z => z
end Rc
open PySem PySem.W PyProof.Rows
set_option maxRecDepth 100000 in
set_option maxHeartbeats 0 in
theorem PySem.Challenge.cw_ringcede_k44_room_in_a_ring_holds : PySem.Challenge.rw_ringcede_k44_room_in_a_ring.Holds := by
  w_on; o_law; k_head; (case hw => w_witness2)
  k_fill
  refine Rc.walk (l := PySem.Challenge.rw_ringcede_k44_room_in_a_ring) rfl rfl (fun w h Y => PySem.W.km_in_of Y) (fun w h Y => PySem.W.km_tabs_of Y) (fun w => by kernel_rfl) ?F
  case F =>
    intro w mg fa h KX G hmg
    refine' Rc.all_mk KX G hmg ?aC_Ring ?aC_BadAccount ?aC_BadCover ?aC_BadCrowns ?aC_BadDay ?aC_BadDeed ?aC_BadHouses ?aC_BadLines ?aC_BadLosses ?aC_BadTerms ?aC_BadText ?aC_Disagrees ?aC_Endless ?aC_Full ?aC_NoCover ?aC_NoHappening ?aC_NoHouse ?aC_NoLoss ?aC_Nothing ?aC_RingError ?aC_Same ?aC_Short ?aC_Unbacked ?a0 ?l0 ?a1 ?l1 ?a2 ?l2 ?a3 ?l3 ?a4 ?l4 ?a5 ?i5 ?l5 ?a6 ?i6 ?l6 ?a7 ?i7 ?l7 ?a8 ?i8 ?l8 ?a9 ?i9 ?l9 ?a10 ?i10 ?l10 ?a11 ?i11 ?l11 ?a12 ?i12 ?l12 ?a13 ?i13 ?l13 ?a14 ?i14 ?l14 ?a15 ?l15 ?a16 ?l16 ?a17 ?l17 ?a18 ?l18 ?a19 ?l19 ?a20 ?l20 ?v_LAST_DAY ?v_LAST_HOUSE ?v_MOST_CROWNS ?v_MOST_HAPPENINGS ?v_MOST_LOSSES ?pg_Ring ?hd_Ring ?po_Ring ?sa_Ring ?mk_Ring ?kc_Ring ?na_Ring_house_count ?na_Ring_signed ?na_Ring_day_of ?na_Ring_loss_rows ?na_Ring_next_happening ?na_Ring_next_loss ?na_Ring_paid_parts ?na_Ring_told_closings ?na_Ring_reckoning ?x_BadCrowns ?ec_BadCrowns ?em_BadCrowns ?kv_BadCrowns ?ki_BadCrowns_BadAccount ?ki_BadCrowns_BadCover ?ki_BadCrowns_BadCrowns ?ki_BadCrowns_BadDay ?ki_BadCrowns_BadDeed ?ki_BadCrowns_BadHouses ?ki_BadCrowns_BadLines ?ki_BadCrowns_BadLosses ?ki_BadCrowns_BadTerms ?ki_BadCrowns_BadText ?ki_BadCrowns_Disagrees ?ki_BadCrowns_Endless ?ki_BadCrowns_Full ?ki_BadCrowns_NoCover ?ki_BadCrowns_NoHappening ?ki_BadCrowns_NoHouse ?ki_BadCrowns_NoLoss ?ki_BadCrowns_Nothing ?ki_BadCrowns_Same ?ki_BadCrowns_Short ?ki_BadCrowns_Unbacked ?x_BadDay ?ec_BadDay ?em_BadDay ?kv_BadDay ?ki_BadDay_BadAccount ?ki_BadDay_BadCover ?ki_BadDay_BadCrowns ?ki_BadDay_BadDay ?ki_BadDay_BadDeed ?ki_BadDay_BadHouses ?ki_BadDay_BadLines ?ki_BadDay_BadLosses ?ki_BadDay_BadTerms ?ki_BadDay_BadText ?ki_BadDay_Disagrees ?ki_BadDay_Endless ?ki_BadDay_Full ?ki_BadDay_NoCover ?ki_BadDay_NoHappening ?ki_BadDay_NoHouse ?ki_BadDay_NoLoss ?ki_BadDay_Nothing ?ki_BadDay_Same ?ki_BadDay_Short ?ki_BadDay_Unbacked ?x_Full ?ec_Full ?em_Full ?kv_Full ?ki_Full_BadAccount ?ki_Full_BadCover ?ki_Full_BadCrowns ?ki_Full_BadDay ?ki_Full_BadDeed ?ki_Full_BadHouses ?ki_Full_BadLines ?ki_Full_BadLosses ?ki_Full_BadTerms ?ki_Full_BadText ?ki_Full_Disagrees ?ki_Full_Endless ?ki_Full_Full ?ki_Full_NoCover ?ki_Full_NoHappening ?ki_Full_NoHouse ?ki_Full_NoLoss ?ki_Full_Nothing ?ki_Full_Same ?ki_Full_Short ?ki_Full_Unbacked ?x_NoHappening ?ec_NoHappening ?em_NoHappening ?kv_NoHappening ?ki_NoHappening_BadAccount ?ki_NoHappening_BadCover ?ki_NoHappening_BadCrowns ?ki_NoHappening_BadDay ?ki_NoHappening_BadDeed ?ki_NoHappening_BadHouses ?ki_NoHappening_BadLines ?ki_NoHappening_BadLosses ?ki_NoHappening_BadTerms ?ki_NoHappening_BadText ?ki_NoHappening_Disagrees ?ki_NoHappening_Endless ?ki_NoHappening_Full ?ki_NoHappening_NoCover ?ki_NoHappening_NoHappening ?ki_NoHappening_NoHouse ?ki_NoHappening_NoLoss ?ki_NoHappening_Nothing ?ki_NoHappening_Same ?ki_NoHappening_Short ?ki_NoHappening_Unbacked ?x_NoHouse ?ec_NoHouse ?em_NoHouse ?kv_NoHouse ?ki_NoHouse_BadAccount ?ki_NoHouse_BadCover ?ki_NoHouse_BadCrowns ?ki_NoHouse_BadDay ?ki_NoHouse_BadDeed ?ki_NoHouse_BadHouses ?ki_NoHouse_BadLines ?ki_NoHouse_BadLosses ?ki_NoHouse_BadTerms ?ki_NoHouse_BadText ?ki_NoHouse_Disagrees ?ki_NoHouse_Endless ?ki_NoHouse_Full ?ki_NoHouse_NoCover ?ki_NoHouse_NoHappening ?ki_NoHouse_NoHouse ?ki_NoHouse_NoLoss ?ki_NoHouse_Nothing ?ki_NoHouse_Same ?ki_NoHouse_Short ?ki_NoHouse_Unbacked ?z_ValueError ?z_isinstance ?z_len ?z_list ?z_range ?z_sorted ?lm_Ring_happenings ?htl
    (case aC_Ring | aC_BadAccount | aC_BadCover | aC_BadCrowns | aC_BadDay | aC_BadDeed | aC_BadHouses | aC_BadLines | aC_BadLosses | aC_BadTerms | aC_BadText | aC_Disagrees | aC_Endless | aC_Full | aC_NoCover | aC_NoHappening | aC_NoHouse | aC_NoLoss | aC_Nothing | aC_RingError | aC_Same | aC_Short | aC_Unbacked | a0 | a1 | a2 | a3 | a4 | a5 | i5 | a6 | i6 | a7 | i7 | a8 | i8 | a9 | i9 | a10 | i10 | a11 | i11 | a12 | i12 | a13 | i13 | a14 | i14 | a15 | a16 | a17 | a18 | a19 | a20 => k_is)
    (case lm_Ring_happenings => refine' L2.lam_mk ?zqa ?zqb ?zqc ?zqd ?zqe; (case zqa => k_is); (case zqb => rfl); (case zqc => k_is); (case zqd => rfl); (case zqe => kernel_rfl))
    (case htl => rfl)
    (case l0 | l1 | l2 | l3 | l4 | l5 | l6 | l7 | l8 | l9 | l10 | l11 | l12 | l13 | l14 | l15 | l16 | l17 | l18 | l19 | l20 => refine' Rc.fl_mk ?l ?c ?k; (case l => k_is); (case c => k_is); (case k => k_is))
    (case em_BadCrowns | kv_BadCrowns | ki_BadCrowns_BadAccount | ki_BadCrowns_BadCover | ki_BadCrowns_BadCrowns | ki_BadCrowns_BadDay | ki_BadCrowns_BadDeed | ki_BadCrowns_BadHouses | ki_BadCrowns_BadLines | ki_BadCrowns_BadLosses | ki_BadCrowns_BadTerms | ki_BadCrowns_BadText | ki_BadCrowns_Disagrees | ki_BadCrowns_Endless | ki_BadCrowns_Full | ki_BadCrowns_NoCover | ki_BadCrowns_NoHappening | ki_BadCrowns_NoHouse | ki_BadCrowns_NoLoss | ki_BadCrowns_Nothing | ki_BadCrowns_Same | ki_BadCrowns_Short | ki_BadCrowns_Unbacked | em_BadDay | kv_BadDay | ki_BadDay_BadAccount | ki_BadDay_BadCover | ki_BadDay_BadCrowns | ki_BadDay_BadDay | ki_BadDay_BadDeed | ki_BadDay_BadHouses | ki_BadDay_BadLines | ki_BadDay_BadLosses | ki_BadDay_BadTerms | ki_BadDay_BadText | ki_BadDay_Disagrees | ki_BadDay_Endless | ki_BadDay_Full | ki_BadDay_NoCover | ki_BadDay_NoHappening | ki_BadDay_NoHouse | ki_BadDay_NoLoss | ki_BadDay_Nothing | ki_BadDay_Same | ki_BadDay_Short | ki_BadDay_Unbacked | em_Full | kv_Full | ki_Full_BadAccount | ki_Full_BadCover | ki_Full_BadCrowns | ki_Full_BadDay | ki_Full_BadDeed | ki_Full_BadHouses | ki_Full_BadLines | ki_Full_BadLosses | ki_Full_BadTerms | ki_Full_BadText | ki_Full_Disagrees | ki_Full_Endless | ki_Full_Full | ki_Full_NoCover | ki_Full_NoHappening | ki_Full_NoHouse | ki_Full_NoLoss | ki_Full_Nothing | ki_Full_Same | ki_Full_Short | ki_Full_Unbacked | em_NoHappening | kv_NoHappening | ki_NoHappening_BadAccount | ki_NoHappening_BadCover | ki_NoHappening_BadCrowns | ki_NoHappening_BadDay | ki_NoHappening_BadDeed | ki_NoHappening_BadHouses | ki_NoHappening_BadLines | ki_NoHappening_BadLosses | ki_NoHappening_BadTerms | ki_NoHappening_BadText | ki_NoHappening_Disagrees | ki_NoHappening_Endless | ki_NoHappening_Full | ki_NoHappening_NoCover | ki_NoHappening_NoHappening | ki_NoHappening_NoHouse | ki_NoHappening_NoLoss | ki_NoHappening_Nothing | ki_NoHappening_Same | ki_NoHappening_Short | ki_NoHappening_Unbacked | em_NoHouse | kv_NoHouse | ki_NoHouse_BadAccount | ki_NoHouse_BadCover | ki_NoHouse_BadCrowns | ki_NoHouse_BadDay | ki_NoHouse_BadDeed | ki_NoHouse_BadHouses | ki_NoHouse_BadLines | ki_NoHouse_BadLosses | ki_NoHouse_BadTerms | ki_NoHouse_BadText | ki_NoHouse_Disagrees | ki_NoHouse_Endless | ki_NoHouse_Full | ki_NoHouse_NoCover | ki_NoHouse_NoHappening | ki_NoHouse_NoHouse | ki_NoHouse_NoLoss | ki_NoHouse_Nothing | ki_NoHouse_Same | ki_NoHouse_Short | ki_NoHouse_Unbacked => rfl)
    (case x_BadCrowns | x_BadDay | x_Full | x_NoHappening | x_NoHouse => kernel_rfl)
    (case ec_BadCrowns | ec_BadDay | ec_Full | ec_NoHappening | ec_NoHouse => exact ⟨rfl, rfl, rfl, rfl, rfl, rfl, rfl, rfl⟩)
    (case v_LAST_DAY | v_LAST_HOUSE | v_MOST_CROWNS | v_MOST_HAPPENINGS | v_MOST_LOSSES | pg_Ring | hd_Ring | po_Ring | sa_Ring | mk_Ring | kc_Ring | na_Ring_house_count | na_Ring_signed | na_Ring_day_of | na_Ring_loss_rows | na_Ring_next_happening | na_Ring_next_loss | na_Ring_paid_parts | na_Ring_told_closings | na_Ring_reckoning | z_ValueError | z_isinstance | z_len | z_list | z_range | z_sorted => k_is)
#print axioms PySem.Challenge.cw_ringcede_k44_room_in_a_ring_holds
