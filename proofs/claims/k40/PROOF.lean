import PyProof.Rows.All
import Wide.All
import OpenK.AllK
import Wide.FinOn
import Lean
import PyProof.EqAt
import PyProof.EqKinds
import PyProof.TupleCall
import PySem.Challenge.RW_ringcede_k40_terms_signed
set_option Elab.async false
set_option linter.all false
set_option maxRecDepth 100000
open PySem.W (Frag nsIn keepIn kitOne mg_of findIn fnOf mg_none_of)
namespace L2
open PySem PySem.Spec PyProof.Rows
abbrev Key := Sum Int Str
def keyIs : Key → Value → Bool
  | .inl k, v => Value.isInt k v
  | .inr x, v => Value.isStrOf x v
def keyH (w : World) : Key → Int
  | .inl k => hashInt k
  | .inr x => hashStr w x
theorem keyIs_shape : ∀ {k : Key} {v : Value}, keyIs k v = true → (∃ i t, k = Sum.inl i ∧ v = Value.int i t) ∨ (∃ x t, k = Sum.inr x ∧ v = Value.str x t)
  | .inl i, v, h => by
    obtain ⟨t, e⟩ := Value.isInt_shape (k := i) (v := v) h
    exact .inl ⟨i, t, rfl, e⟩
  | .inr x, v, h => by
    obtain ⟨t, e⟩ := Value.isStrOf_shape (x := x) (v := v) h
    exact .inr ⟨x, t, rfl, e⟩
theorem keyIs_int (i : Int) (t : Tok) : keyIs (.inl i) (.int i t) = true := by simp [keyIs, Value.isInt]
theorem keyIs_str (x : Str) (t : Tok) : keyIs (.inr x) (.str x t) = true := by simp [keyIs, Value.isStrOf]
theorem key_ll (a b : Int) : decide ((Sum.inl a : Key) = Sum.inl b) = (a == b) := by
  by_cases e : a = b
  · subst e; simp
  · have h : ¬ (Sum.inl a : Key) = Sum.inl b := fun q => e (Sum.inl.inj q)
    rw [decide_eq_false h]
    exact (beq_eq_false_iff_ne.mpr e).symm
theorem key_rr (a b : Str) : decide ((Sum.inr a : Key) = Sum.inr b) = decide (a = b) := by
  by_cases e : a = b
  · subst e; simp
  · have h : ¬ (Sum.inr a : Key) = Sum.inr b := fun q => e (Sum.inr.inj q)
    rw [decide_eq_false h, decide_eq_false e]
theorem key_lr (a : Int) (b : Str) : decide ((Sum.inl a : Key) = Sum.inr b) = false := decide_eq_false (fun q => nomatch q)
theorem key_rl (a : Str) (b : Int) : decide ((Sum.inr a : Key) = Sum.inl b) = false := decide_eq_false (fun q => nomatch q)
def mixKind (prog : Program) (w : World) : PySem.KeyKind prog w Key where
  is := keyIs
  hash := keyH w
  inj := fun v a b ha hb => by
    rcases keyIs_shape ha with ⟨i, t, rfl, rfl⟩ | ⟨x, t, rfl, rfl⟩
    · rcases keyIs_shape hb with ⟨j, u, rfl, e⟩ | ⟨y, u, rfl, e⟩
      · injection e with e1 _; rw [e1]
      · exact nomatch e
    · rcases keyIs_shape hb with ⟨j, u, rfl, e⟩ | ⟨y, u, rfl, e⟩
      · exact nomatch e
      · injection e with e1 _; rw [e1]
  byValue := fun k v h => by
    rcases keyIs_shape h with ⟨i, t, rfl, rfl⟩ | ⟨x, t, rfl, rfl⟩ <;> rfl
  pyHash := fun hv h => by
    rcases keyIs_shape hv with ⟨i, t, rfl, rfl⟩ | ⟨x, t, rfl, rfl⟩
    · exact wpAny_pyHash_int h
    · exact wpAny_pyHash_str h
  eqBool := fun hu hv h => by
    rcases keyIs_shape hu with ⟨i, t, rfl, rfl⟩ | ⟨x, t, rfl, rfl⟩
    · rcases keyIs_shape hv with ⟨j, u, rfl, rfl⟩ | ⟨y, u, rfl, rfl⟩
      · rw [key_ll] at h; exact wpAny_eqBool_int h
      · rw [key_lr] at h; exact SeqAt.EqAt.int_str i t y u _ _ _ _ h
    · rcases keyIs_shape hv with ⟨j, u, rfl, rfl⟩ | ⟨y, u, rfl, rfl⟩
      · rw [key_rl] at h; exact SeqAt.EqAt.str_int x t j u _ _ _ _ h
      · rw [key_rr] at h; exact wpAny_eqBool_str h
  «strs» := fun k x t v h => by
    rcases keyIs_shape h with ⟨i, u, rfl, e⟩ | ⟨y, u, rfl, e⟩
    · exact nomatch e
    · injection e with e1 _
      subst e1
      cases v <;> rfl
theorem mixKind_int (prog : Program) (w : World) (i : Int) (t : Tok) : (mixKind prog w).is (.inl i) (.int i t) = true := keyIs_int i t
theorem mixKind_str (prog : Program) (w : World) (x : Str) (t : Tok) : (mixKind prog w).is (.inr x) (.str x t) = true := keyIs_str x t
end L2
namespace L2
open PySem PySem.Spec PyProof.Rows
inductive V where
  | non | bl (b : Bool) | int (i : Int) | str (x : Str) | byt (b : Array UInt8) | flt (b : UInt64) | ref (a : Addr) | ty (n : String)
  deriving DecidableEq
def RelV : V → Value → Prop
  | .non, u => u = Value.none
  | .bl b, u => u = Value.bool b
  | .int i, u => ∃ t, u = Value.int i t
  | .str x, u => ∃ t, u = Value.str x t
  | .byt b, u => ∃ t, u = Value.bytes b t
  | .flt b, u => ∃ t, u = Value.float b t
  | .ref a, u => u = Value.ref a
  | .ty n, u => u = Value.type n
abbrev Vals : List V → List Value → Prop := Paired RelV
theorem Vals.length {xs : List V} {us : List Value} (r : Vals xs us) : xs.length = us.length := Paired.length r
theorem Vals.get : ∀ {xs : List V} {us : List Value} {i : Nat} {x : V}, Vals xs us → xs[i]? = some x → ∃ u, us[i]? = some u ∧ RelV x u
  | _, _, _, _, .nil, e => by simp at e
  | _, _, 0, _, .cons r _, e => by simp at e; subst e; exact ⟨_, rfl, r⟩
  | _, _, i + 1, x, .cons _ t, e => by
    obtain ⟨u, h1, h2⟩ := Vals.get (i := i) (x := x) t (by simpa using e)
    exact ⟨u, by simpa using h1, h2⟩
theorem Vals.append : ∀ {xs ys : List V} {us ws : List Value}, Vals xs us → Vals ys ws → Vals (xs ++ ys) (us ++ ws)
  | _, _, _, _, .nil, s => s
  | _, _, _, _, .cons r t, s => .cons r (Vals.append t s)
theorem Vals.take : ∀ {xs : List V} {us : List Value} (n : Nat), Vals xs us → Vals (xs.take n) (us.take n)
  | _, _, 0, _ => .nil
  | _, _, _ + 1, .nil => .nil
  | _, _, n + 1, .cons r t => .cons r (Vals.take n t)
theorem Vals.drop : ∀ {xs : List V} {us : List Value} (n : Nat), Vals xs us → Vals (xs.drop n) (us.drop n)
  | _, _, 0, r => r
  | _, _, _ + 1, .nil => .nil
  | _, _, n + 1, .cons _ t => Vals.drop n t
def RelO : Option V → Option Value → Prop
  | some v, some u => RelV v u
  | none, none => True
  | _, _ => False
def KV {κ : Type} : List (κ × V) → List (κ × Value) → Prop := Paired fun (p : κ × V) (q : κ × Value) => p.1 = q.1 ∧ RelV p.2 q.2
def kV : Key → V
  | .inl i => .int i
  | .inr x => .str x
inductive HO where
  | lst (xs : List V)
  | tup (xs : List V)
  | dK (kvs : List (Key × V)) | dT (kvs : List (List Key × V))
  | set (S : Int → Bool) (n : Nat)
  | ins (C dx : Addr) (fs : List (Str × V))
  | own (x : Addr)
  | xd (fs : List (Str × V))
  | met (f x : Addr)
  | rng (lo hi : Int)
  | frz (o : Obj) (u : HO)
  | tbl (ps : Array Value)
  | ext (φ : Heap → Prop)
abbrev Hp := Addr → Option HO
def upd (H : Hp) (a : Addr) (o : HO) : Hp := fun b => if b = a then some o else H b
theorem upd_same {H : Hp} {a : Addr} {o : HO} : upd H a o a = some o := by unfold upd; rw [if_pos rfl]
theorem upd_ne {H : Hp} {a b : Addr} {o : HO} (h : b ≠ a) : upd H a o b = H b := by unfold upd; rw [if_neg h]
theorem upd_upd {H : Hp} {a : Addr} {o u : HO} : upd (upd H a o) a u = upd H a u := by
  funext b; unfold upd; split <;> rfl
theorem ne_of {H : Hp} {a b : Addr} {o u : HO} (h : H a = some o) (h' : H b = some u) (d : o ≠ u) : a ≠ b := by
  intro e; subst e; rw [h] at h'; exact d (Option.some.inj h')
theorem ne_of_none {H : Hp} {a b : Addr} {o : HO} (h : H a = some o) (h' : H b = none) : a ≠ b := by
  intro e; subst e; rw [h] at h'; cases h'
section
variable (P : Program) (w : World)
def ObjOk (H : Hp) (h : Heap) (a : Addr) : HO → Prop
  | .lst xs => xs.length ≤ sizeLine ∧ ∃ (its : List Value) (n : Nat), Vals xs its ∧ h.get? a = some { cls := .type "list", data := .seq its.toArray n }
  | .tup xs => xs.length ≤ sizeLine ∧ ∃ its : List Value, Vals xs its ∧ IsTup h a its.toArray
  | .dK kvs => kvs.length ≤ sizeLine ∧ (a == sysModules) = false ∧ ∃ vs, KV kvs vs ∧ h.DictOf (mixKind P w) a vs
  | .dT kvs => kvs.length ≤ sizeLine ∧ (a == sysModules) = false ∧ ∃ xs : List (List Key × Addr × Value),
      Paired (fun (p : List Key × V) (q : List Key × Addr × Value) => p.1 = q.1 ∧ H q.2.1 = some (.tup (p.1.map kV)) ∧ RelV p.2 q.2.2) kvs xs ∧
      ∃ o es ep, h.get? a = some o ∧ o.ExactDict ∧ o.data = .dict es ep ∧ es.toList = xs.map (entryOfKey (tupleKind (mixKind P w))) ∧ (xs.map (·.1)).Nodup
  | .set S n => h.SetOf (intKind P w) a S n
  | .ins C dx fs => H dx = some (.own a) ∧ fs.length ≤ 1000 ∧ dx ≠ a ∧ h.get? a = some (PySem.W.instObj C dx) ∧
      ∃ mA, h.Ns1 dx mA ∧ (∀ f, RelO (fs.lookup f) (mA f)) ∧ PySem.Within mA (fs.map (·.1))
  | .own _ => ∃ o, h.get? a = some o
  | .xd fs => ∃ mA, h.Ns1 a mA ∧ ∀ f, RelO (fs.lookup f) (mA f)
  | .rng lo hi => ∃ t u v, h.get? a = some { cls := .type "range", data := .fields #[.int lo t, .int hi u, .int 1 v] }
  | .frz o u => h.get? a = some o ∧ ObjOk H h a u
  | .tbl ps => h.get? a = some { cls := .none, data := .fields ps }
  | .met f x => h.get? a = some (PySem.W.methodObj (.ref f) (.ref x))
  | .ext φ => φ h ∧ (∃ o, h.get? a = some o) ∧ ∀ h1 h2 : Heap, φ h1 → (∀ o, h1.get? a = some o → h2.get? a = some o) → φ h2
def HOk (H : Hp) (h : Heap) : Prop := ∀ a o, H a = some o → ObjOk P w H h a o
end
section
variable {P : Program} {w : World} {H H' : Hp} {h h' : Heap} {a : Addr} {o : HO}
theorem ObjOk.lt (x : ObjOk P w H h a o) : a < h.objs.size := by
  cases o with
  | lst xs => obtain ⟨_, _, _, _, e⟩ := x; exact Heap.lt_size e
  | tup xs => obtain ⟨_, _, _, p⟩ := x; exact p.lt
  | dK kvs => obtain ⟨_, _, _, _, o, _, _, e, _⟩ := x; exact Heap.lt_size e
  | dT kvs => obtain ⟨_, _, _, _, o, _, _, e, _⟩ := x; exact Heap.lt_size e
  | set S n => obtain ⟨o, _, _, _, e, _⟩ := x; exact Heap.lt_size e
  | ins C dx fs => obtain ⟨_, _, _, e, _⟩ := x; exact Heap.lt_size e
  | own y => obtain ⟨_, e⟩ := x; exact Heap.lt_size e
  | xd fs => obtain ⟨_, ⟨_, _, _, e, _⟩, _⟩ := x; exact Heap.lt_size e
  | rng lo hi => obtain ⟨_, _, _, e⟩ := x; exact Heap.lt_size e
  | frz ob u => obtain ⟨e, _⟩ := x; exact Heap.lt_size e
  | tbl ps => exact Heap.lt_size (show h.get? a = some _ from x)
  | met f y => exact Heap.lt_size (show h.get? a = some _ from x)
  | ext φ => obtain ⟨_, ⟨_, e⟩, _⟩ := x; exact Heap.lt_size e
theorem Paired.mapP {α β : Type} {F G : α → β → Prop} : ∀ {l₁ : List α} {l₂ : List β}, Paired F l₁ l₂ → (∀ a b, F a b → G a b) → Paired G l₁ l₂
  | _, _, .nil, _ => .nil
  | _, _, .cons r t, f => .cons (f _ _ r) (Paired.mapP t f)
theorem ObjOk.stay (x : ObjOk P w H h a o) (k : ∀ b u, (b = a ∨ H b = some (.own a)) → h.get? b = some u → h'.get? b = some u)
    (ho : ∀ b, H b = some (.own a) → H' b = some (.own a)) (ht : ∀ b xs, H b = some (.tup xs) → H' b = some (.tup xs)) : ObjOk P w H' h' a o := by
  induction o with
  | lst xs => obtain ⟨z, its, n, r, e⟩ := x; exact ⟨z, its, n, r, k _ _ (.inl rfl) e⟩
  | tup xs => obtain ⟨z, its, r, ob, e, c⟩ := x; exact ⟨z, its, r, ob, k _ _ (.inl rfl) e, c⟩
  | dK kvs => obtain ⟨z, y, vs, r, ob, es, ep, e, c⟩ := x; exact ⟨z, y, vs, r, ob, es, ep, k _ _ (.inl rfl) e, c⟩
  | dT kvs =>
    obtain ⟨z, y, xs, r, ob, es, ep, e, c⟩ := x
    exact ⟨z, y, xs, Paired.mapP r fun p q z => ⟨z.1, ht _ _ z.2.1, z.2.2⟩, ob, es, ep, k _ _ (.inl rfl) e, c⟩
  | set S n => obtain ⟨ob, es, ep, t, e, c⟩ := x; exact ⟨ob, es, ep, t, k _ _ (.inl rfl) e, c⟩
  | ins C dx fs =>
    obtain ⟨d, z, ne, e, mA, ⟨od, es, ep, e2, c⟩, r⟩ := x
    exact ⟨ho _ d, z, ne, k _ _ (.inl rfl) e, mA, ⟨od, es, ep, k _ _ (.inr d) e2, c⟩, r⟩
  | own y => obtain ⟨ob, e⟩ := x; exact ⟨ob, k _ _ (.inl rfl) e⟩
  | xd fs => obtain ⟨mA, ⟨od, es, ep, e, c⟩, r⟩ := x; exact ⟨mA, ⟨od, es, ep, k _ _ (.inl rfl) e, c⟩, r⟩
  | rng lo hi => obtain ⟨t, u, v, e⟩ := x; exact ⟨t, u, v, k _ _ (.inl rfl) e⟩
  | frz ob u ih => obtain ⟨e, q⟩ := x; exact ⟨k _ _ (.inl rfl) e, ih q⟩
  | tbl ps =>
    have e : h.get? a = some { cls := .none, data := .fields ps } := x
    show h'.get? a = some { cls := .none, data := .fields ps }
    exact k a _ (.inl rfl) e
  | met f y =>
    have e : h.get? a = some (PySem.W.methodObj (.ref f) (.ref y)) := x
    show h'.get? a = some (PySem.W.methodObj (.ref f) (.ref y))
    exact k a _ (.inl rfl) e
  | ext φ => obtain ⟨p, ⟨o, e⟩, st⟩ := x; exact ⟨st _ _ p fun o q => k _ _ (.inl rfl) q, ⟨o, k _ _ (.inl rfl) e⟩, st⟩
theorem HOk.lt (x : HOk P w H h) (e : H a = some o) : a < h.objs.size := (x a o e).lt
theorem HOk.fresh (x : HOk P w H h) (e : h.objs.size ≤ a) : H a = none := by
  cases q : H a with
  | none => rfl
  | some u => exact absurd (Nat.lt_of_lt_of_le (x.lt q) e) (Nat.lt_irrefl _)
theorem HOk.kept (x : HOk P w H h) (k : ∀ b u, h.get? b = some u → h'.get? b = some u) : HOk P w H h' := fun a o e =>
  (x a o e).stay (fun b u _ q => k b u q) (fun _ q => q) fun _ _ q => q
theorem HOk.laid (x : HOk P w H h) (k : ∀ b u, h.get? b = some u → h'.get? b = some u) (hp : h.objs.size ≤ a) (new : ObjOk P w (upd H a o) h' a o) : HOk P w (upd H a o) h' := fun b u e => by
  have hn := x.fresh hp
  by_cases hb : b = a
  · subst hb; rw [upd_same] at e; cases e; exact new
  · rw [upd_ne hb] at e
    exact (x b u e).stay (fun c v _ q => k c v q) (fun c q => by rw [upd_ne (ne_of_none q hn)]; exact q) fun c xs q => by rw [upd_ne (ne_of_none q hn)]; exact q
end
def Rd (H : Hp) (a : Addr) (u : HO) : Prop := H a = some u ∨ ∃ o, H a = some (.frz o u)
theorem Rd.ok {P : Program} {w : World} {H : Hp} {h : Heap} {a : Addr} {u : HO} (r : Rd H a u) (x : HOk P w H h) : ObjOk P w H h a u := by
  rcases r with r | ⟨o, r⟩
  · exact x a u r
  · obtain ⟨_, q⟩ := x a _ r
    exact q
def Mut : Option HO → Prop
  | some (.lst _) => True
  | some (.dK _) => True
  | some (.dT _) => True
  | some (.set _ _) => True
  | some (.ins _ _ _) => True
  | some (.ext _) => True
  | _ => False
section
variable {P : Program} {w : World} {H : Hp} {h h' : Heap} {x e : Addr} {o' : HO}
theorem HOk.write (ok : HOk P w H h) (mu : Mut (H x)) (he : e = x ∨ H e = some (.own x)) (k : ∀ b u, b ≠ e → h.get? b = some u → h'.get? b = some u) (heo : ∃ u, h'.get? e = some u)
    (new : ObjOk P w (upd H x o') h' x o') : HOk P w (upd H x o') h' := fun b u q => by
  have nown : ∀ c y, H c = some (.own y) → c ≠ x := fun c y r z => by subst z; rw [r] at mu; exact mu
  have ntup : ∀ c xs, H c = some (.tup xs) → c ≠ x := fun c xs r z => by subst z; rw [r] at mu; exact mu
  by_cases hb : b = x
  · subst hb; rw [upd_same] at q; cases q; exact new
  · rw [upd_ne hb] at q
    by_cases hbe : b = e
    · have q' : H b = some (.own x) := by
        rcases he with z | z
        · exact absurd (hbe.trans z) hb
        · rw [hbe]; exact z
      rw [q] at q'; cases q'
      obtain ⟨v, hv⟩ := heo
      exact ⟨v, by rw [hbe]; exact hv⟩
    · refine (ok b u q).stay (fun c v hc r => k c v ?_ r) (fun c r => by rw [upd_ne (nown c b r)]; exact r) fun c xs r => by rw [upd_ne (ntup c xs r)]; exact r
      rcases hc with rfl | hc
      · exact hbe
      · rintro rfl
        rcases he with z | z
        · exact nown c b hc z
        · rw [hc] at z; cases z; exact hb rfl
end
structure Un (fs ex : List Addr) (H H' : Hp) (h h' : Heap) : Prop where
  keep : ∀ b o, h.get? b = some o → H b = none → b ∉ fs → b ∉ ex → h'.get? b = some o
  slot : ∀ b o, h.get? b = some o → H b = none → b ∈ fs → b ∉ ex → ∃ sl, h'.get? b = some { o with slots := sl }
  free : ∀ b o, h.get? b = some o → H b = none → b ∉ ex → H' b = none
  there : ∀ b o, h.get? b = some o → b ∉ ex → ∃ o', h'.get? b = some o'
  tups : ∀ b xs, H b = some (.tup xs) → H' b = some (.tup xs)
  frzs : ∀ b o u, H b = some (.frz o u) → H' b = some (.frz o u)
  tbls : ∀ b ps, H b = some (.tbl ps) → ∃ more, H' b = some (.tbl (ps ++ more))
section
variable {fs fs' ex ex' : List Addr} {H H1 H2 : Hp} {h h1 h2 h' : Heap} {a x e : Addr} {o : HO}
theorem Un.any (u : Un fs ex H H1 h h1) {b : Addr} {ob : Obj} (q : h.get? b = some ob) (n : H b = none) (hx : b ∉ ex) : ∃ sl, h1.get? b = some { ob with slots := sl } := by
  by_cases hb : b ∈ fs
  · exact u.slot b ob q n hb hx
  · exact ⟨ob.slots, u.keep b ob q n hb hx⟩
theorem Un.kept (k : ∀ b u, h.get? b = some u → h'.get? b = some u) : Un fs ex H H h h' :=
  ⟨fun b ob q _ _ _ => k b ob q, fun b ob q _ _ _ => ⟨ob.slots, k b ob q⟩, fun _ _ _ n _ => n, fun b ob q _ => ⟨ob, k b ob q⟩, fun _ _ q => q, fun _ _ _ q => q, fun _ ps q => ⟨#[], by rw [q]; simp⟩⟩
theorem Un.refl : Un fs ex H H h h := Un.kept fun _ _ q => q
theorem Un.laid (k : ∀ b u, h.get? b = some u → h'.get? b = some u) (hp : h.objs.size ≤ a) (hn : H a = none) : Un fs ex H (upd H a o) h h' where
  keep := fun b u q _ _ _ => k b u q
  slot := fun b u q _ _ _ => ⟨u.slots, k b u q⟩
  free := fun b u q n _ => by rw [upd_ne (Nat.ne_of_lt (Nat.lt_of_lt_of_le (Heap.lt_size q) hp))]; exact n
  there := fun b u q _ => ⟨u, k b u q⟩
  tups := fun b xs q => by rw [upd_ne (ne_of_none q hn)]; exact q
  frzs := fun b u xs q => by rw [upd_ne (ne_of_none q hn)]; exact q
  tbls := fun b ps q => ⟨#[], by rw [upd_ne (ne_of_none q hn), q]; simp⟩
theorem Un.write (mu : Mut (H x)) (he : e = x ∨ H e = some (.own x)) (k : ∀ b u, b ≠ e → h.get? b = some u → h'.get? b = some u) (heo : ∃ u, h'.get? e = some u) : Un fs ex H (upd H x o) h h' := by
  have hx : ∀ b, H b = none → b ≠ x := fun b n z => by subst z; rw [n] at mu; exact mu
  have hb : ∀ b, H b = none → b ≠ e := fun b n z => by
    subst z
    rcases he with r | r
    · exact hx b n r
    · rw [n] at r; cases r
  have hm : ∀ b u, H b = some u → ¬ Mut (some u) → b ≠ x := fun b u q nm z => by subst z; rw [q] at mu; exact nm mu
  refine ⟨fun b u q n _ _ => k b u (hb b n) q, fun b u q n _ _ => ⟨u.slots, k b u (hb b n) q⟩, fun b u q n _ => by rw [upd_ne (hx b n)]; exact n, fun b u q _ => ?_,
    fun b xs q => by rw [upd_ne (hm b _ q fun z => z)]; exact q, fun b u xs q => by rw [upd_ne (hm b _ q fun z => z)]; exact q, fun b ps q => ⟨#[], by rw [upd_ne (hm b _ q fun z => z), q]; simp⟩⟩
  by_cases hbe : b = e
  · subst hbe; exact heo
  · exact ⟨u, k b u hbe q⟩
end
def trk (h : Heap) (H : Hp) : List Addr := (List.range h.objs.size).filter fun a => (H a).isSome
def hidT (h : Heap) (H : Hp) : Heap := PySem.W.hideAll h (trk h H)
theorem hidT_size (h : Heap) (H : Hp) : (hidT h H).objs.size = h.objs.size := PySem.W.hideAll_size _ _
theorem hidT_get {h : Heap} {H : Hp} {b : Addr} {o : Obj} (e : h.get? b = some o) (n : H b = none) : (hidT h H).get? b = some o :=
  PySem.W.hideAll_get _ e fun hm => by
    have q : (H b).isSome = true := (List.mem_filter.mp hm).2
    rw [n] at q; simp at q
theorem of_hidT {h : Heap} {H : Hp} {b : Addr} {o : Obj} (e : (hidT h H).get? b = some o) : h.get? b = some o ∧ H b = none := by
  have e' : h.get? b = some o := PySem.W.of_hideAll (trk h H) e
  refine ⟨e', ?_⟩
  cases q : H b with
  | none => rfl
  | some x =>
    have hm : b ∈ trk h H := List.mem_filter.mpr ⟨List.mem_range.mpr (Heap.lt_size e'), by simp [q]⟩
    have z : (hidT h H).get? b = none := PySem.W.hideAll_none (trk h H) hm
    rw [z] at e; cases e
end L2
namespace L2
open PySem PySem.Spec PyProof.Rows
structure Mod (K : Frag) (mg : Str → Option Value) (base : Heap) : Prop where
  kin : K.In base
  glob : base.Ns mainGlobals mg
  blt : ∃ mb, base.Ns builtinsNs mb ∧ ∀ x : Str, x ≠ "__name__" → mb x = bootBuiltins x
  nolimit : base.NoLimit
structure Cx where
  prog : Program
  w : World
  K : Frag
  mg : Str → Option Value
  base : Heap
  A : Around
  N : List Str
  s₀ : Shared
  H₀ : Hp
  env : Env
  outer : List Env
  stack : List Env
  ex : List Addr
  fn : Str → Bool
  calm : Bool
  pn : List (Addr × Obj)
  xe : Value → Shared → Prop
def frs (l : List Env) : List Addr := l.filterMap (·.frame)
abbrev Cx.fs (X : Cx) : List Addr := frs X.outer
def Vis (sc : Scope) (x : Str) : Prop := sc.names.lookup x = some .local ∨ sc.names.lookup x = some .cell ∨ sc.names.lookup x = some .free
def Loc (sc : Scope) (x : Str) : Prop := sc.names.lookup x = some .local ∨ sc.names.lookup x = some .cell
def Look (env : Env) (h : Heap) (m : Str → Option Value) (x : Str) (u : Value) : Prop :=
  (env.kindOf x = some .local ∧ m x = some u) ∨ ((env.kindOf x = some .cell ∨ env.kindOf x = some .free) ∧ ∃ c, env.cells.lookup x = some c ∧ h.IsCell c (some u))
structure Cx.Ok (X : Cx) : Prop where
  mod : Mod X.K X.mg X.base
  kind : X.env.scope.kind = .function
  glob : X.env.globals = mainGlobals
  blt : X.env.builtins = builtinsNs
  above : X.s₀.heap.objs.size ≤ X.env.locals
  inj : ∀ x y c, X.env.cells.lookup x = some c → X.env.cells.lookup y = some c → x = y
  has : ∀ x, (X.env.kindOf x = some .cell ∨ X.env.kindOf x = some .free) → ∃ c, X.env.cells.lookup x = some c
  cab : ∀ x c, X.fn x = true → X.env.cells.lookup x = some c → X.s₀.heap.objs.size ≤ c
  hd : X.calm = true → X.A.handled = none
  frames : X.A.frames = some X.stack
  stk : X.stack = X.outer ∨ (X.stack = X.env :: X.outer ∧ X.env.frame = some X.env.locals)
  exf : ∀ b ∈ X.ex, b ≠ X.env.locals ∧ ∀ x c, X.env.cells.lookup x = some c → c ≠ b
  bs : ∀ b o, X.base.get? b = some o → X.s₀.heap.get? b = some o ∧ X.H₀ b = none
  bsz : X.base.objs.size ≤ X.s₀.heap.objs.size
  noex : ∀ b o, X.base.get? b = some o → b ∉ X.ex
  exfs : ∀ b ∈ X.ex, b ∉ X.fs
  funs : X.s₀.heap.FunFrames X.base X.outer
  frf : ∀ b ∈ X.fs, X.H₀ b = none
structure Inv (X : Cx) (pins : List (Addr × Obj)) (σ : List (Option V)) (H : Hp) (s : Shared) : Prop where
  ok : X.Ok
  os : s.os = X.s₀.os
  bare : AllBare s.gens
  base : Un X.fs X.ex X.H₀ H X.s₀.heap s.heap
  loc : ∃ m, s.heap.Ns X.env.locals m ∧ ∀ (i : Nat) (x : Str) (v : V), X.N[i]? = some x → σ[i]? = some (some v) → Vis X.env.scope x → ∃ u, RelV v u ∧ Look X.env s.heap m x u
  cell : ∀ x c, X.env.cells.lookup x = some c → ∃ v, s.heap.IsCell c v
  free : H X.env.locals = none
  freeC : ∀ x c, X.env.cells.lookup x = some c → H c = none
  pin : ∀ p ∈ X.pn ++ pins, s.heap.get? p.1 = some p.2 ∧ H p.1 = none ∧ p.1 ≠ X.env.locals ∧ p.1 ∉ X.fs ∧ ∀ v, p.2.data ≠ .cell v
  hok : HOk X.prog X.w H s.heap
  len : σ.length = X.N.length
section
variable {X : Cx} {pins : List (Addr × Obj)} {σ : List (Option V)} {H H' : Hp} {s : Shared} {h' : Heap}
theorem Cx.Ok.nofr (ok : X.Ok) {b : Addr} {o : Obj} (e : X.base.get? b = some o) : b ∉ X.fs := fun hb => by
  have := (ok.funs.mem hb).1
  rw [e] at this; cases this
theorem Inv.bs (I : Inv X pins σ H s) : ∀ b o, X.base.get? b = some o → s.heap.get? b = some o ∧ H b = none := fun b o e =>
  ⟨I.base.keep b o (I.ok.bs b o e).1 (I.ok.bs b o e).2 (I.ok.nofr e) (I.ok.noex b o e), I.base.free b o (I.ok.bs b o e).1 (I.ok.bs b o e).2 (I.ok.noex b o e)⟩
theorem Inv.bk (I : Inv X pins σ H s) : ∀ b o, X.base.get? b = some o → s.heap.get? b = some o := fun b o e => (I.bs b o e).1
theorem Inv.mod (I : Inv X pins σ H s) : Mod X.K X.mg X.base := I.ok.mod
theorem Inv.kIn (I : Inv X pins σ H s) : X.K.In s.heap := I.ok.mod.kin.keeps I.bk
theorem Inv.lt (I : Inv X pins σ H s) : X.env.locals < s.heap.objs.size := let ⟨_, hn, _⟩ := I.loc; hn.lt
theorem Inv.sz (I : Inv X pins σ H s) : X.s₀.heap.objs.size ≤ s.heap.objs.size := Nat.le_trans I.ok.above (Nat.le_of_lt I.lt)
theorem Inv.nofs (I : Inv X pins σ H s) {a : Addr} (h : s.heap.objs.size ≤ a) : a ∉ X.fs := fun hb => by
  obtain ⟨_, o, ho, _⟩ := I.ok.funs.mem hb
  exact absurd (Nat.lt_of_lt_of_le (Heap.lt_size ho) (Nat.le_trans I.sz h)) (Nat.lt_irrefl _)
theorem Inv.cne (I : Inv X pins σ H s) : ∀ x c, X.env.cells.lookup x = some c → c ≠ X.env.locals := fun x c e z => by
  obtain ⟨v, o, ho, hd⟩ := I.cell x c e
  obtain ⟨m, ⟨o', es, ep, ho', hd', _⟩, _⟩ := I.loc
  rw [z, ho'] at ho; cases ho; rw [hd'] at hd; cases hd
theorem Inv.funs (I : Inv X pins σ H s) : s.heap.FunFrames X.base X.outer := by
  have all : ∀ (l : List Env), (∀ b ∈ frs l, b ∈ X.fs) → X.s₀.heap.FunFrames X.base l → s.heap.FunFrames X.base l := by
    intro l
    induction l with
    | nil => intro _ _; trivial
    | cons env r ih =>
      intro hs hl
      obtain ⟨hk, ⟨L, o, hf, hn, ho, hd⟩, hr⟩ := hl
      have hL : L ∈ X.fs := hs L (by unfold frs; rw [List.filterMap_cons, hf]; exact List.mem_cons_self)
      obtain ⟨sl, e⟩ := I.base.slot L o ho (I.ok.frf L hL) hL fun z => I.ok.exfs L z hL
      exact ⟨hk, ⟨L, _, hf, hn, e, hd⟩, ih (fun b hb => hs b (by unfold frs; rw [List.filterMap_cons, hf]; exact List.mem_cons_of_mem _ hb)) hr⟩
  exact all X.outer (fun _ hb => hb) I.ok.funs
theorem Inv.stack (I : Inv X pins σ H s) : s.heap.FunFrames X.base X.stack := by
  rcases I.ok.stk with e | ⟨e, hf⟩
  · rw [e]; exact I.funs
  · rw [e]
    obtain ⟨m, hn, _⟩ := I.loc
    refine .cons (by rw [I.ok.kind]; decide) hf hn ?_ I.funs
    exact Heap.get?_none_of_le (Nat.le_trans I.ok.bsz I.ok.above)
theorem Inv.stkSub (I : Inv X pins σ H s) : ∀ b ∈ frs X.stack, b ∈ X.env.locals :: X.fs := fun b hb => by
  rcases I.ok.stk with e | ⟨e, hf⟩
  · rw [e] at hb; exact List.mem_cons_of_mem _ hb
  · rw [e] at hb
    unfold frs at hb
    rw [List.filterMap_cons, hf] at hb
    exact hb
theorem Inv.stkFree (I : Inv X pins σ H s) : ∀ b ∈ frs X.stack, H b = none := fun b hb => by
  rcases List.mem_cons.mp (I.stkSub b hb) with e | hb
  · rw [e]; exact I.free
  · obtain ⟨_, o, ho, _⟩ := I.ok.funs.mem hb
    exact I.base.free b o ho (I.ok.frf b hb) fun z => I.ok.exfs b z hb
theorem Inv.step {g' : Array GenState} {t' : Nat} {d' : Drawn} {ch : List Addr} (I : Inv X pins σ H s)
    (hch : ∀ b ∈ ch, (b ∈ X.ex ∨ X.s₀.heap.objs.size ≤ b) ∧ b ≠ X.env.locals ∧ (∀ x c, X.env.cells.lookup x = some c → c ≠ b) ∧ ∀ p ∈ X.pn ++ pins, p.1 ≠ b)
    (keep : ∀ b o, b ≠ X.env.locals → b ∉ X.fs → b ∉ ch → s.heap.get? b = some o → H b = none → h'.get? b = some o)
    (slot : ∀ b o, b ≠ X.env.locals → b ∈ X.fs → b ∉ ch → s.heap.get? b = some o → H b = none → ∃ sl, h'.get? b = some { o with slots := sl }) (free : ∀ b o, b ∉ ch → s.heap.get? b = some o → H b = none → H' b = none)
    (there : ∀ b o, b ∉ ch → s.heap.get? b = some o → ∃ o', h'.get? b = some o')
    (tups : ∀ b xs, H b = some (.tup xs) → H' b = some (.tup xs)) (frzs : ∀ b o u, H b = some (.frz o u) → H' b = some (.frz o u)) (tbls : ∀ b ps, H b = some (.tbl ps) → ∃ more, H' b = some (.tbl (ps ++ more)))
    (ns : ∀ m, s.heap.Ns X.env.locals m → h'.Ns X.env.locals m) (hok : HOk X.prog X.w H' h') (hg : AllBare g') :
    Inv X pins σ H' { s with heap := h', gens := g', drawn := d', toks := t' } := by
  have neL : ∀ b o, X.s₀.heap.get? b = some o → b ≠ X.env.locals := fun b o e => Nat.ne_of_lt (Nat.lt_of_lt_of_le (Heap.lt_size e) I.ok.above)
  have neC : ∀ b o, X.s₀.heap.get? b = some o → b ∉ X.ex → b ∉ ch := fun b o e hx hb => by
    rcases (hch b hb).1 with z | z
    · exact hx z
    · exact absurd (Nat.lt_of_lt_of_le (Heap.lt_size e) z) (Nat.lt_irrefl _)
  have cellK : ∀ x c, X.env.cells.lookup x = some c → ∀ v, s.heap.IsCell c v → h'.IsCell c v := fun x c e v ⟨o, ho, hd⟩ => by
    have nch : c ∉ ch := fun z => (hch c z).2.2.1 x c e rfl
    by_cases hc : c ∈ X.fs
    · obtain ⟨sl, q⟩ := slot c o (I.cne x c e) hc nch ho (I.freeC x c e)
      exact ⟨_, q, hd⟩
    · exact ⟨o, keep c o (I.cne x c e) hc nch ho (I.freeC x c e), hd⟩
  refine ⟨I.ok, I.os, hg, ⟨fun b o e n hb hx => ?_, fun b o e n hb hx => ?_, fun b o e n hx => ?_, fun b o e hx => ?_, fun b xs e => tups b xs (I.base.tups b xs e), fun b o xs e => frzs b o xs (I.base.frzs b o xs e), fun b ps e => ?_⟩, ?_, fun x c e => ?_, ?_, fun x c e => ?_, fun p hp => ?_, hok, I.len⟩
  · exact keep b o (neL b o e) hb (neC b o e hx) (I.base.keep b o e n hb hx) (I.base.free b o e n hx)
  · obtain ⟨sl, e1⟩ := I.base.slot b o e n hb hx
    obtain ⟨sl', e2⟩ := slot b _ (neL b o e) hb (neC b o e hx) e1 (I.base.free b o e n hx)
    exact ⟨sl', e2⟩
  · obtain ⟨o', e1⟩ := I.base.there b o e hx
    exact free b o' (neC b o e hx) e1 (I.base.free b o e n hx)
  · obtain ⟨o', e1⟩ := I.base.there b o e hx
    exact there b o' (neC b o e hx) e1
  · obtain ⟨m1, e1⟩ := I.base.tbls b ps e
    obtain ⟨m2, e2⟩ := tbls b _ e1
    exact ⟨m1 ++ m2, by rw [e2, Array.append_assoc]⟩
  · obtain ⟨m, hn, hl⟩ := I.loc
    refine ⟨m, ns m hn, fun i x v e1 e2 e3 => ?_⟩
    obtain ⟨u, r, l⟩ := hl i x v e1 e2 e3
    refine ⟨u, r, ?_⟩
    rcases l with l | ⟨k, c, e, z⟩
    · exact .inl l
    · exact .inr ⟨k, c, e, cellK x c e _ z⟩
  · obtain ⟨v, z⟩ := I.cell x c e
    exact ⟨v, cellK x c e v z⟩
  · obtain ⟨m, ⟨o, _, _, ho, _⟩, _⟩ := I.loc
    exact free _ o (fun z => (hch _ z).2.1 rfl) ho I.free
  · obtain ⟨v, o, ho, hd⟩ := I.cell x c e
    exact free c o (fun z => (hch c z).2.2.1 x c e rfl) ho (I.freeC x c e)
  · obtain ⟨e, n, ne, nf, d⟩ := I.pin p hp
    have nch : p.1 ∉ ch := fun z => (hch p.1 z).2.2.2 p hp rfl
    exact ⟨keep p.1 p.2 ne nf nch e n, free p.1 p.2 nch e n, ne, nf, d⟩
theorem Inv.un {t' : Nat} (I : Inv X pins σ H s) (u : Un X.fs [] H H' s.heap h') (hok : HOk X.prog X.w H' h') : Inv X pins σ H' { s with heap := h', toks := t' } := by
  obtain ⟨m, ⟨o, es, ep, ho, r⟩, _⟩ := id I.loc
  obtain ⟨sl, hL⟩ := u.any ho I.free (by simp)
  exact I.step (g' := s.gens) (d' := s.drawn) (ch := []) (fun _ z => nomatch z) (fun b o _ hb _ e n => u.keep b o e n hb (by simp)) (fun b o _ hb _ e n => u.slot b o e n hb (by simp)) (fun b o _ e n => u.free b o e n (by simp)) (fun b o _ e => u.there b o e (by simp)) u.tups u.frzs u.tbls (fun m' hm => by
    obtain ⟨o', es', ep', ho', r'⟩ := hm
    rw [ho] at ho'; cases ho'
    exact ⟨_, es', ep', hL, r'⟩) hok I.bare
theorem Inv.call {g' : Array GenState} {t' : Nat} {d' : Drawn} {ch : List Addr} (I : Inv X pins σ H s) (u : Un (frs X.stack) ch H H' s.heap h') (hok : HOk X.prog X.w H' h') (hg : AllBare g')
    (hch : ∀ b ∈ ch, (b ∈ X.ex ∨ X.s₀.heap.objs.size ≤ b) ∧ b ≠ X.env.locals ∧ (∀ x c, X.env.cells.lookup x = some c → c ≠ b) ∧ ∀ p ∈ X.pn ++ pins, p.1 ≠ b) :
    Inv X pins σ H' { s with heap := h', gens := g', drawn := d', toks := t' } := by
  obtain ⟨m, ⟨o, es, ep, ho, r⟩, _⟩ := id I.loc
  obtain ⟨sl, hL⟩ := u.any ho I.free fun z => (hch _ z).2.1 rfl
  exact I.step (ch := ch) hch (fun b o hL hb hc e n => u.keep b o e n (fun z => (List.mem_cons.mp (I.stkSub b z)).elim hL hb) hc) (fun b o _ _ hc e n => u.any e n hc) (fun b o hc e n => u.free b o e n hc) (fun b o hc e => u.there b o e hc) u.tups u.frzs u.tbls (fun m' hm => by
    obtain ⟨o', es', ep', ho', r'⟩ := hm
    rw [ho] at ho'; cases ho'
    exact ⟨_, es', ep', hL, r'⟩) hok hg
theorem Inv.turned {t' : Nat} {it : Addr} (I : Inv X pins σ H s) (k : ∀ b o, b ≠ it → s.heap.get? b = some o → h'.get? b = some o) (hn : H it = none) (hL : it ≠ X.env.locals)
    (h1 : it ∈ X.ex ∨ X.s₀.heap.objs.size ≤ it) (h2 : ∀ x c, X.env.cells.lookup x = some c → c ≠ it) (h3 : ∀ p ∈ X.pn ++ pins, p.1 ≠ it) : Inv X pins σ H { s with heap := h', toks := t' } := by
  have nit : ∀ b u, H b = some u → b ≠ it := fun b u e z => by rw [z, hn] at e; cases e
  refine I.step (g' := s.gens) (d' := s.drawn) (ch := [it]) (fun b hb => ?_) (fun b o _ _ hc e _ => k b o (fun z => hc (by simp [z])) e) (fun b o _ _ hc e _ => ⟨o.slots, k b o (fun z => hc (by simp [z])) e⟩) (fun _ _ _ _ n => n)
    (fun b o hc e => ⟨o, k b o (fun z => hc (by simp [z])) e⟩) (fun _ _ e => e) (fun _ _ _ e => e) (fun b ps e => ⟨#[], by rw [e]; simp⟩) (fun m hm => ?_) (fun b u e => ?_) I.bare
  · have e : b = it := by simpa using hb
    subst e
    exact ⟨h1, hL, h2, h3⟩
  · obtain ⟨o, es, ep, ho, r⟩ := hm
    exact ⟨o, es, ep, k _ o (Ne.symm hL) ho, r⟩
  · refine (I.hok b u e).stay (fun c v hc q => k c v ?_ q) (fun _ q => q) fun _ _ q => q
    rcases hc with z | z
    · rw [z]; exact nit b u e
    · exact nit c _ z
theorem Inv.tok (I : Inv X pins σ H s) (t : Nat) : Inv X pins σ H { s with toks := t } := I.un (h' := s.heap) (t' := t) Un.refl I.hok
theorem Inv.kept {t' : Nat} (I : Inv X pins σ H s) (k : ∀ b u, s.heap.get? b = some u → h'.get? b = some u) : Inv X pins σ H { s with heap := h', toks := t' } := I.un (Un.kept k) (I.hok.kept k)
theorem Inv.laid {a : Addr} {o : HO} {t' : Nat} (I : Inv X pins σ H s) (k : ∀ b u, s.heap.get? b = some u → h'.get? b = some u) (hp : s.heap.objs.size ≤ a) (new : ObjOk X.prog X.w (upd H a o) h' a o) :
    Inv X pins σ (upd H a o) { s with heap := h', toks := t' } := I.un (Un.laid k hp (I.hok.fresh hp)) (I.hok.laid k hp new)
theorem Inv.write {x e : Addr} {o : HO} {t' : Nat} (I : Inv X pins σ H s) (mu : Mut (H x)) (he : e = x ∨ H e = some (.own x)) (k : ∀ b u, b ≠ e → s.heap.get? b = some u → h'.get? b = some u) (heo : ∃ u, h'.get? e = some u)
    (new : ObjOk X.prog X.w (upd H x o) h' x o) : Inv X pins σ (upd H x o) { s with heap := h', toks := t' } := I.un (Un.write mu he k heo) (I.hok.write mu he k heo new)
theorem Inv.pins_of {pins' : List (Addr × Obj)} (I : Inv X pins σ H s) (h : ∀ p ∈ pins', s.heap.get? p.1 = some p.2 ∧ H p.1 = none ∧ p.1 ≠ X.env.locals ∧ p.1 ∉ X.fs ∧ ∀ v, p.2.data ≠ .cell v) : Inv X pins' σ H s :=
  ⟨I.ok, I.os, I.bare, I.base, I.loc, I.cell, I.free, I.freeC, fun p hp => (List.mem_append.mp hp).elim (fun z => I.pin p (List.mem_append_left _ z)) (h p), I.hok, I.len⟩
theorem nodup_ix {N : List Str} (hN : N.Nodup) {i j : Nat} {x : Str} (a : N[i]? = some x) (b : N[j]? = some x) : i = j := by
  obtain ⟨h1, e1⟩ := List.getElem?_eq_some_iff.mp a
  obtain ⟨h2, e2⟩ := List.getElem?_eq_some_iff.mp b
  exact (List.getElem_inj hN).mp (e1.trans e2.symm)
theorem store_ok2 {M : Model} {A : Around} {E : Value → Shared → Prop} {i : Nat} {x : Str} {v : V} {u : Value} {Q : Unit → Shared → Prop} (I : Inv X pins σ H s) (hN : X.N.Nodup) (hi : X.N[i]? = some x) (hx : Loc X.env.scope x) (r : RelV v u)
    (h : ∀ s', Inv X pins (σ.set i (some v)) H s' → (∃ a, Heap.SameBut a s.heap s'.heap ∧ (a = X.env.locals ∨ X.env.cells.lookup x = some a)) → Q () s') (hf : X.fn x = true ∨ X.env.scope.names.lookup x = some .local := by first | exact .inl rfl | exact .inr rfl | assumption) : wpAny M A (storeName X.env x u) Q E s := by
  obtain ⟨m, hn, hl⟩ := id I.loc
  have hcls : (X.env.scope.kind == .class || (X.env.scope.kind == .module && X.env.locals != X.env.globals)) = false := by rw [I.ok.kind]; rfl
  have hiσ : i < σ.length := by rw [I.len]; exact (List.getElem?_eq_some_iff.mp hi).1
  have cne := I.cne
  have tracked : ∀ {a : Addr} {h' : Heap}, (∃ o, s.heap.get? a = some o ∧ H a = none) → Heap.SameBut a s.heap h' → HOk X.prog X.w H h' := fun {a h'} ha hs b ob e => by
    obtain ⟨_, _, hfree⟩ := ha
    refine (I.hok b ob e).stay (fun c w' hc q => (hs.2 c ?_).trans q) (fun _ q => q) fun _ _ q => q
    rintro rfl
    rcases hc with rfl | hc
    · rw [hfree] at e; cases e
    · rw [hfree] at hc; cases hc
  rcases hx with hk | hk
  · refine wpAny_storeName_local hk hn (fun h' hn' hs => ?_) hcls
    obtain ⟨oL, _, _, hoL, _⟩ := id hn
    refine h _ ⟨I.ok, I.os, I.bare, ⟨fun b o e n hb hx => ?_, fun b o e n hb hx => ?_, I.base.free, fun b o e hx => ?_, I.base.tups, I.base.frzs, I.base.tbls⟩, ⟨_, hn', fun j y v' e1 e2 e3 => ?_⟩, fun y c e => ?_, I.free, I.freeC, fun p hp => ?_, tracked ⟨oL, hoL, I.free⟩ hs, by simpa using I.len⟩ ⟨_, hs, .inl rfl⟩
    · exact (hs.2 b (Nat.ne_of_lt (Nat.lt_of_lt_of_le (Heap.lt_size e) I.ok.above))).trans (I.base.keep b o e n hb hx)
    · obtain ⟨sl, e1⟩ := I.base.slot b o e n hb hx
      exact ⟨sl, (hs.2 b (Nat.ne_of_lt (Nat.lt_of_lt_of_le (Heap.lt_size e) I.ok.above))).trans e1⟩
    · obtain ⟨o', e1⟩ := I.base.there b o e hx
      exact ⟨o', (hs.2 b (Nat.ne_of_lt (Nat.lt_of_lt_of_le (Heap.lt_size e) I.ok.above))).trans e1⟩
    · by_cases hj : j = i
      · subst hj
        rw [hi] at e1; cases e1
        rw [List.getElem?_set_self hiσ] at e2
        cases e2
        exact ⟨u, r, .inl ⟨hk, by simp⟩⟩
      · rw [List.getElem?_set_ne (Ne.symm hj)] at e2
        obtain ⟨u', r', q⟩ := hl j y v' e1 e2 e3
        refine ⟨u', r', ?_⟩
        rcases q with ⟨k, e⟩ | ⟨k, c, e, z⟩
        · refine .inl ⟨k, ?_⟩
          have : y ≠ x := fun e => hj (nodup_ix hN e1 (e ▸ hi))
          simp [this, e]
        · exact .inr ⟨k, c, e, z.sameBut hs (cne y c e)⟩
    · obtain ⟨w', z⟩ := I.cell y c e
      exact ⟨w', z.sameBut hs (cne y c e)⟩
    · obtain ⟨e, n, ne, nf, d⟩ := I.pin p hp
      exact ⟨(hs.2 p.1 ne).trans e, n, ne, nf, d⟩
  · have hfn : X.fn x = true := by
      rcases hf with z | z
      · exact z
      · rw [z] at hk; cases hk
    obtain ⟨c, hc⟩ := I.ok.has x (.inl hk)
    obtain ⟨w', z⟩ := I.cell x c hc
    refine wpAny_storeName_cell I.ok.kind hk hc z (fun h' hc' hs => ?_)
    obtain ⟨oc, hoc, hocd⟩ := id z
    refine h { s with heap := h' } ⟨I.ok, I.os, I.bare, ⟨fun b o e n hb hx => ?_, fun b o e n hb hx => ?_, I.base.free, fun b o e hx => ?_, I.base.tups, I.base.frzs, I.base.tbls⟩, ⟨m, hn.sameBut hs (Ne.symm (cne x c hc)), fun j y v' e1 e2 e3 => ?_⟩, fun y c' e => ?_, I.free, I.freeC, fun p hp => ?_, tracked ⟨oc, hoc, I.freeC x c hc⟩ hs, by simpa using I.len⟩ ⟨c, hs, .inr hc⟩
    · exact (hs.2 b (Nat.ne_of_lt (Nat.lt_of_lt_of_le (Heap.lt_size e) (I.ok.cab x c hfn hc)))).trans (I.base.keep b o e n hb hx)
    · obtain ⟨sl, e1⟩ := I.base.slot b o e n hb hx
      exact ⟨sl, (hs.2 b (Nat.ne_of_lt (Nat.lt_of_lt_of_le (Heap.lt_size e) (I.ok.cab x c hfn hc)))).trans e1⟩
    · obtain ⟨o', e1⟩ := I.base.there b o e hx
      exact ⟨o', (hs.2 b (Nat.ne_of_lt (Nat.lt_of_lt_of_le (Heap.lt_size e) (I.ok.cab x c hfn hc)))).trans e1⟩
    · by_cases hj : j = i
      · subst hj
        rw [hi] at e1; cases e1
        rw [List.getElem?_set_self hiσ] at e2
        cases e2
        exact ⟨u, r, .inr ⟨.inl hk, c, hc, hc'⟩⟩
      · rw [List.getElem?_set_ne (Ne.symm hj)] at e2
        obtain ⟨u', r', q⟩ := hl j y v' e1 e2 e3
        refine ⟨u', r', ?_⟩
        rcases q with q | ⟨k, c', e, z'⟩
        · exact .inl q
        · refine .inr ⟨k, c', e, z'.sameBut hs ?_⟩
          rintro rfl
          exact hj (nodup_ix hN e1 (I.ok.inj _ _ _ e hc ▸ hi))
    · by_cases hcc : c' = c
      · subst hcc; exact ⟨_, hc'⟩
      · obtain ⟨w2, z2⟩ := I.cell y c' e
        exact ⟨w2, z2.sameBut hs hcc⟩
    · obtain ⟨e, n, ne, nf, d⟩ := I.pin p hp
      refine ⟨(hs.2 p.1 ?_).trans e, n, ne, nf, d⟩
      intro q
      rw [q, hoc] at e
      have q' : oc = p.2 := Option.some.inj e
      exact d w' (by rw [← q']; exact hocd)
theorem store_ok {M : Model} {A : Around} {E : Value → Shared → Prop} {i : Nat} {x : Str} {v : V} {u : Value} {Q : Unit → Shared → Prop} (I : Inv X pins σ H s) (hN : X.N.Nodup) (hi : X.N[i]? = some x) (hx : Loc X.env.scope x) (r : RelV v u)
    (h : ∀ s', Inv X pins (σ.set i (some v)) H s' → Q () s') (hf : X.fn x = true ∨ X.env.scope.names.lookup x = some .local := by first | exact .inl rfl | exact .inr rfl | assumption) : wpAny M A (storeName X.env x u) Q E s :=
  store_ok2 I hN hi hx r (fun s' I' _ => h s' I') hf
theorem Inv.call' {s' : Shared} {ch : List Addr} (I : Inv X pins σ H s) (ho : s'.os = s.os) (u : Un (frs X.stack) ch H H' s.heap s'.heap) (hok : HOk X.prog X.w H' s'.heap) (hg : AllBare s'.gens)
    (hch : ∀ b ∈ ch, (b ∈ X.ex ∨ X.s₀.heap.objs.size ≤ b) ∧ b ≠ X.env.locals ∧ (∀ x c, X.env.cells.lookup x = some c → c ≠ b) ∧ ∀ p ∈ X.pn ++ pins, p.1 ≠ b) : Inv X pins σ H' s' := by
  obtain ⟨h', g', d', t', o'⟩ := s'
  have e : o' = s.os := ho
  subst e
  exact I.call (g' := g') (t' := t') (d' := d') u hok hg hch
end
abbrev XK := Value → Option Addr → Hp → Prop
abbrev St := List (Option V)
abbrev VK := V → Hp → Prop
abbrev TE := St → Hp → VK → Prop
abbrev TT := St → Hp → (Bool → Hp → Prop) → Prop
abbrev TA := St → Hp → (List V → Hp → Prop) → Prop
structure Ends where
  nx : St → Hp → Prop
  rt : VK
  bk : St → Hp → Prop := fun _ _ => False
  ct : St → Hp → Prop := fun _ _ => False
abbrev TS := Ends → St → Hp → Prop
def EP (X : Cx) (pins : List (Addr × Obj)) (σ : St) (Q : VK) (u : Value) (s' : Shared) : Prop := ∃ v H', Inv X pins σ H' s' ∧ RelV v u ∧ Q v H'
def TP (X : Cx) (pins : List (Addr × Obj)) (σ : St) (Q : Bool → Hp → Prop) (b : Bool) (s' : Shared) : Prop := ∃ H', Inv X pins σ H' s' ∧ Q b H'
def AP (X : Cx) (pins : List (Addr × Obj)) (σ : St) (Q : List V → Hp → Prop) (us : List Value) (s' : Shared) : Prop := ∃ vs H', Inv X pins σ H' s' ∧ Vals vs us ∧ Q vs H'
def SP (X : Cx) (pins : List (Addr × Obj)) (D : Ends) (f : Flow) (s' : Shared) : Prop :=
  match f with
  | .next => ∃ σ' H', Inv X pins σ' H' s' ∧ D.nx σ' H'
  | .brk => ∃ σ' H', Inv X pins σ' H' s' ∧ D.bk σ' H'
  | .cont => ∃ σ' H', Inv X pins σ' H' s' ∧ D.ct σ' H'
  | .ret u => ∃ v σ' H', Inv X pins σ' H' s' ∧ RelV v u ∧ D.rt v H'
def PE (X : Cx) (e : Expr) (t : TE) : Prop :=
  ∀ (pins : List (Addr × Obj)) (s : Shared) (σ : St) (H : Hp) (Q : VK), Inv X pins σ H s → t σ H Q → wpAny (model X.prog X.w) X.A (eval e X.env) (EP X pins σ Q) X.xe s
def PT (X : Cx) (e : Expr) (t : TT) : Prop :=
  ∀ (pins : List (Addr × Obj)) (s : Shared) (σ : St) (H : Hp) (Q : Bool → Hp → Prop), Inv X pins σ H s → t σ H Q → wpAny (model X.prog X.w) X.A (isTrue e X.env (eval e X.env)) (TP X pins σ Q) X.xe s
def PW (X : Cx) (e : Expr) (t : TT) : Prop :=
  ∀ (whole : Sem Value) (pins : List (Addr × Obj)) (s : Shared) (σ : St) (H : Hp) (Q : Bool → Hp → Prop), Inv X pins σ H s → t σ H Q → wpAny (model X.prog X.w) X.A (isTrue e X.env whole) (TP X pins σ Q) X.xe s
theorem PW.pt {X : Cx} {e : Expr} {t : TT} (h : PW X e t) : PT X e t := h _
def PA (X : Cx) (es : List Expr) (t : TA) : Prop :=
  ∀ (pos : Pos) (pins : List (Addr × Obj)) (s : Shared) (σ : St) (H : Hp) (Q : List V → Hp → Prop), Inv X pins σ H s → t σ H Q → wpAny (model X.prog X.w) X.A (spliced (backTo pos (starEach es X.env))) (AP X pins σ Q) X.xe s
def PS (X : Cx) (st : Stmt) (t : TS) : Prop :=
  ∀ (pins : List (Addr × Obj)) (s : Shared) (σ : St) (H : Hp) (D : Ends), Inv X pins σ H s → t D σ H → wpAny (model X.prog X.w) X.A (exec st X.env) (SP X pins D) X.xe s
def PSs (X : Cx) (st : List Stmt) (t : TS) : Prop :=
  ∀ (pins : List (Addr × Obj)) (s : Shared) (σ : St) (H : Hp) (D : Ends), Inv X pins σ H s → t D σ H → wpAny (model X.prog X.w) X.A (execs st X.env) (SP X pins D) X.xe s
theorem thn {α : Type} {t : Sem α} {Q Q' : α → Shared → Prop} {M : Model} {A : Around} {E : Value → Shared → Prop} {s : Shared} (h : wpAny M A t Q E s) (hQ : ∀ a s, Q a s → Q' a s) : wpAny M A t Q' E s := wpAny_mono h hQ fun _ _ x => x
end L2
namespace L2
open PySem PySem.Spec PyProof.Rows
section
variable {X : Cx}
def tVar (i : Nat) : TE := fun σ H Q => ∃ v, σ[i]? = some (some v) ∧ Q v H
def tC (v : V) : TE := fun _ H Q => Q v H
theorem pe_var {i : Nat} {x : Str} {pos : Pos} (hN : X.N[i]? = some x) (hv : Vis X.env.scope x) (hd : (x == ("__debug__" : Str)) = false := by decide) (hcd : (x == ("__classdict__" : Str)) = false := by decide) : PE X (.Name x pos) (tVar i) := by
  intro pins s σ H Q I h
  obtain ⟨v, e, h⟩ := h
  obtain ⟨m, hn, hl⟩ := I.loc
  obtain ⟨u, r, l⟩ := hl i x v hN e hv
  have fin : EP X pins σ Q u s := ⟨v, H, I, r, h⟩
  rcases l with ⟨hk, hm⟩ | ⟨hk, c, hc, hcell⟩
  · exact wpAny_Name (wpAny_loadName_local I.ok.kind hk hn hm fin) hd
  · rcases hk with hk | hk
    · exact wpAny_Name (wpAny_loadName_cell I.ok.kind hk hc hcell fin) hd
    · exact wpAny_Name (wpAny_loadName_free I.ok.kind hk hc hcell fin hcd) hd
theorem pe_int {i j pos} : PE X (.Constant (.int i) j pos) (tC (.int i)) := fun _ _ _ H _ I h => wpAny_Constant_int ⟨.int i, H, I.tok _, ⟨_, rfl⟩, h⟩
theorem pe_bl {b j pos} : PE X (.Constant (.bool b) j pos) (tC (.bl b)) := fun _ _ _ H _ I h => Constant_bool ⟨.bl b, H, I, rfl, h⟩
theorem pe_non {j pos} : PE X (.Constant .none j pos) (tC .non) := fun _ _ _ H _ I h => Constant_none ⟨.non, H, I, rfl, h⟩
theorem pe_str {x j pos} : PE X (.Constant (.str x) j pos) (tC (.str x)) := fun _ _ _ H _ I h => Calls.Constant_str ⟨.str x, H, I.tok _, ⟨_, rfl⟩, h⟩
def Gl (X : Cx) (x : Str) : Prop := X.env.kindOf x = some .globalImplicit
theorem ld_glob {E : Value → Shared → Prop} {pins : List (Addr × Obj)} {s : Shared} {σ : St} {H : Hp} {x : Str} {u : Value} {pos : Pos} {Q : Value → Shared → Prop} (I : Inv X pins σ H s) (hg : Gl X x) (hm : X.mg x = some u) (h : Q u s)
    (hd : (x == ("__debug__" : Str)) = false := by decide) : wpAny (model X.prog X.w) X.A (eval (.Name x pos) X.env) Q E s :=
  Calls.Name_function_global I.ok.kind hg (Calls.loadGlobal_global (by rw [I.ok.glob]; exact I.mod.glob.keeps I.bk) hm h) hd
theorem ld_blt {E : Value → Shared → Prop} {pins : List (Addr × Obj)} {s : Shared} {σ : St} {H : Hp} {x : Str} {u : Value} {pos : Pos} {Q : Value → Shared → Prop} (I : Inv X pins σ H s) (hg : Gl X x) (hm : X.mg x = none) (hv : bootBuiltins x = some u) (h : Q u s)
    (hn : x ≠ "__name__" := by decide) (hd : (x == ("__debug__" : Str)) = false := by decide) : wpAny (model X.prog X.w) X.A (eval (.Name x pos) X.env) Q E s := by
  obtain ⟨mb, h1, h2⟩ := I.mod.blt
  exact Calls.Name_function_global I.ok.kind hg (Calls.loadGlobal_builtin (by rw [I.ok.glob]; exact I.mod.glob.keeps I.bk) hm (by rw [I.ok.blt]; exact h1.keeps I.bk) ((h2 x hn).trans hv) h) hd
theorem pe_glob {x : Str} {v : V} {u : Value} {pos : Pos} (hg : Gl X x) (hm : X.mg x = some u) (r : RelV v u) (hd : (x == ("__debug__" : Str)) = false := by decide) : PE X (.Name x pos) (tC v) :=
  fun _ _ _ H _ I h => ld_glob I hg hm ⟨v, H, I, r, h⟩ hd
theorem pe_bltn {x : Str} {v : V} {u : Value} {pos : Pos} (hg : Gl X x) (hm : X.mg x = none) (hv : bootBuiltins x = some u) (r : RelV v u) (hn : x ≠ "__name__" := by decide) (hd : (x == ("__debug__" : Str)) = false := by decide) : PE X (.Name x pos) (tC v) :=
  fun _ _ _ H _ I h => ld_blt I hg hm hv ⟨v, H, I, r, h⟩ hn hd
variable {a b : Expr} {ta tb : TE} {pos : Pos}
variable {tA tB' : TT} {rest : List Expr}
def tAnd (t u : TT) : TT := fun σ H Q => t σ H fun c H1 => if c = true then u σ H1 Q else Q false H1
def tOr (t u : TT) : TT := fun σ H Q => t σ H fun c H1 => if c = true then Q true H1 else u σ H1 Q
def tNot (t : TT) : TT := fun σ H Q => t σ H fun c H1 => Q (!c) H1
theorem pw_and1 (ha : PT X a tA) : PW X (.BoolOp .And [a] pos) tA := by
  intro wh pins s σ H Q I h
  refine isTrue_and (thn (ha pins s σ H Q I h) fun c s1 e => ?_)
  cases c with
  | true => exact isTrue_and_nil e
  | false => exact e
theorem pw_or1 (ha : PT X a tA) : PW X (.BoolOp .Or [a] pos) tA := by
  intro wh pins s σ H Q I h
  refine isTrue_or (thn (ha pins s σ H Q I h) fun c s1 e => ?_)
  cases c with
  | false => exact isTrue_or_nil e
  | true => exact e
theorem pw_and (ha : PT X a tA) (hb : PW X (.BoolOp .And (b :: rest) pos) tB') : PW X (.BoolOp .And (a :: b :: rest) pos) (tAnd tA tB') := by
  intro wh pins s σ H Q I h
  refine isTrue_and (thn (ha pins s σ H _ I h) fun c s1 ⟨H1, I1, q1⟩ => ?_)
  cases c with
  | true => exact hb wh pins s1 σ H1 Q I1 q1
  | false => exact ⟨H1, I1, q1⟩
theorem pw_or (ha : PT X a tA) (hb : PW X (.BoolOp .Or (b :: rest) pos) tB') : PW X (.BoolOp .Or (a :: b :: rest) pos) (tOr tA tB') := by
  intro wh pins s σ H Q I h
  refine isTrue_or (thn (ha pins s σ H _ I h) fun c s1 ⟨H1, I1, q1⟩ => ?_)
  cases c with
  | true => exact ⟨H1, I1, q1⟩
  | false => exact hb wh pins s1 σ H1 Q I1 q1
theorem pt_not (ha : PT X a tA) : PT X (.UnaryOp .Not a pos) (tNot tA) := by
  intro pins s σ H Q I h
  exact isTrue_not (ha pins s σ H (fun c H1 => Q (!c) H1) I h)
def tAndV (ta tb : TE) : TE := fun σ H Q => ta σ H fun x H1 => ∃ c, x = .bl c ∧ if c = true then tb σ H1 Q else Q (.bl false) H1
def tOrV (ta tb : TE) : TE := fun σ H Q => ta σ H fun x H1 => ∃ c, x = .bl c ∧ if c = true then Q (.bl true) H1 else tb σ H1 Q
def tNotV (ta : TE) : TE := fun σ H Q => ta σ H fun x H1 => ∃ c, x = .bl c ∧ Q (.bl (!c)) H1
theorem pe_one {op} {t : TE} (h : PE X a t) : PE X (.BoolOp op [a] pos) t := fun pins s σ H Q I hw => BoolOp_one (h pins s σ H Q I hw)
theorem pe_and (ha : PE X a ta) (hb : PE X (.BoolOp .And (b :: rest) pos) tb) : PE X (.BoolOp .And (a :: b :: rest) pos) (tAndV ta tb) := by
  intro pins s σ H Q I h
  refine BoolOp_and (thn (ha pins s σ H _ I h) fun v s1 ⟨x, H1, I1, r1, q1⟩ => ?_)
  obtain ⟨c, rfl, q1⟩ := q1
  cases r1
  refine wpAny_truthy_bool ?_
  cases c with
  | true => exact hb pins s1 σ H1 Q I1 q1
  | false => exact ⟨.bl false, H1, I1, rfl, q1⟩
theorem pe_or (ha : PE X a ta) (hb : PE X (.BoolOp .Or (b :: rest) pos) tb) : PE X (.BoolOp .Or (a :: b :: rest) pos) (tOrV ta tb) := by
  intro pins s σ H Q I h
  refine BoolOp_or (thn (ha pins s σ H _ I h) fun v s1 ⟨x, H1, I1, r1, q1⟩ => ?_)
  obtain ⟨c, rfl, q1⟩ := q1
  cases r1
  refine wpAny_truthy_bool ?_
  cases c with
  | false => exact hb pins s1 σ H1 Q I1 q1
  | true => exact ⟨.bl true, H1, I1, rfl, q1⟩
theorem pe_not (ha : PE X a ta) : PE X (.UnaryOp .Not a pos) (tNotV ta) := by
  intro pins s σ H Q I h
  refine UnaryOp_ (thn (ha pins s σ H _ I h) fun v s1 ⟨x, H1, I1, r1, q1⟩ => ?_)
  obtain ⟨c, rfl, q1⟩ := q1
  cases r1
  exact not_of (wpAny_truthy_bool ⟨.bl (!c), H1, I1, rfl, q1⟩)
def tIf (t : TT) (ta tb : TE) : TE := fun σ H Q => t σ H fun c H1 => if c = true then ta σ H1 Q else tb σ H1 Q
theorem pe_ifExp {c : Expr} (hc : PT X c tA) (ha : PE X a ta) (hb : PE X b tb) : PE X (.IfExp c a b pos) (tIf tA ta tb) := by
  intro pins s σ H Q I h
  refine wpAny_IfExp (thn (hc pins s σ H _ I h) fun d s1 ⟨H1, I1, q1⟩ => ?_)
  cases d with
  | true => exact ha pins s1 σ H1 Q I1 q1
  | false => exact hb pins s1 σ H1 Q I1 q1
end
end L2
namespace L2
open PySem PySem.Spec PyProof.Rows
def SqL (K : Frag) (H : Hp) (a : Addr) (xs : List V) : Prop :=
  Rd H a (.lst xs) ∨
    ∃ (o : Obj) (its : Array Value) (n : Nat), K.lookup a = some o ∧ o.cls = .type "list" ∧ o.dict = none ∧ o.data = .seq its n ∧ its.size ≤ sizeLine ∧ Vals xs its.toList
def SqT (K : Frag) (H : Hp) (a : Addr) (xs : List V) : Prop :=
  Rd H a (.tup xs) ∨
    ∃ (o : Obj) (its : Array Value) (n : Nat), K.lookup a = some o ∧ o.cls = .type "tuple" ∧ o.data = .seq its n ∧ its.size ≤ sizeLine ∧ Vals xs its.toList
def absV : Value → Option V
  | .none => some .non
  | .bool b => some (.bl b)
  | .int i _ => some (.int i)
  | .str x _ => some (.str x)
  | .bytes b _ => some (.byt b)
  | .float b _ => some (.flt b)
  | .ref a => some (.ref a)
  | .type n => some (.ty n)
  | _ => none
theorem RelV.abs {x : V} {u : Value} (r : RelV x u) : absV u = some x := by
  cases x with
  | non => cases r; rfl
  | bl _ => cases r; rfl
  | int _ => obtain ⟨t, rfl⟩ := r; rfl
  | str _ => obtain ⟨t, rfl⟩ := r; rfl
  | byt _ => obtain ⟨t, rfl⟩ := r; rfl
  | flt _ => obtain ⟨t, rfl⟩ := r; rfl
  | ref _ => cases r; rfl
  | ty _ => cases r; rfl
theorem RelV.inj {x y : V} {u : Value} (r : RelV x u) (q : RelV y u) : x = y := Option.some.inj (r.abs.symm.trans q.abs)
theorem Vals.inj : ∀ {xs ys : List V} {us : List Value}, Vals xs us → Vals ys us → xs = ys
  | _, _, _, .nil, .nil => rfl
  | _, _, _, .cons r t, .cons r' t' => by rw [r.inj r', Vals.inj t t']
section
variable {X : Cx} {pins : List (Addr × Obj)} {σ : St} {H : Hp} {s : Shared} {a : Addr} {xs ys : List V}
theorem SqL.of {K : Frag} (h : H a = some (.lst xs)) : SqL K H a xs := .inl (.inl h)
theorem SqT.of {K : Frag} (h : H a = some (.tup xs)) : SqT K H a xs := .inl (.inl h)
theorem Inv.list (I : Inv X pins σ H s) (h : SqL X.K H a xs) : ∃ its : List Value, Vals xs its ∧ PlainL s.heap a its.toArray ∧ xs.length ≤ sizeLine := by
  rcases h with h | ⟨o, its, n, hk, hc, hd, hs, hz, r⟩
  · obtain ⟨z, its, n, r, e⟩ := h.ok I.hok
    exact ⟨its, r, ⟨_, n, e, rfl, rfl, rfl⟩, z⟩
  · refine ⟨its.toList, r, ⟨o, n, I.kIn a o hk, hc, hd, by simpa using hs⟩, ?_⟩
    have e := r.length
    simp only [Array.length_toList] at e
    omega
theorem Inv.tuple (I : Inv X pins σ H s) (h : SqT X.K H a xs) : ∃ its : List Value, Vals xs its ∧ IsTup s.heap a its.toArray ∧ xs.length ≤ sizeLine := by
  rcases h with h | ⟨o, its, n, hk, hc, hs, hz, r⟩
  · obtain ⟨z, its, r, p⟩ := h.ok I.hok
    exact ⟨its, r, p, z⟩
  · refine ⟨its.toList, r, ⟨o, I.kIn a o hk, hc, n, by simpa using hs⟩, ?_⟩
    have e := r.length
    simp only [Array.length_toList] at e
    omega
theorem Inv.list_inj (I : Inv X pins σ H s) (h : SqL X.K H a xs) (h' : SqL X.K H a ys) : xs = ys := by
  obtain ⟨its, r, ⟨o, n, e, _, _, d⟩, _⟩ := I.list h
  obtain ⟨its', r', ⟨o', n', e', _, _, d'⟩, _⟩ := I.list h'
  rw [e] at e'; cases e'
  rw [d] at d'
  injection d' with d1 _
  have : its = its' := by simpa using congrArg Array.toList d1
  subst this
  exact r.inj r'
theorem Inv.tuple_inj (I : Inv X pins σ H s) (h : SqT X.K H a xs) (h' : SqT X.K H a ys) : xs = ys := by
  obtain ⟨its, r, ⟨o, e, _, n, d⟩, _⟩ := I.tuple h
  obtain ⟨its', r', ⟨o', e', _, n', d'⟩, _⟩ := I.tuple h'
  rw [e] at e'; cases e'
  rw [d] at d'
  injection d' with d1 _
  have : its = its' := by simpa using congrArg Array.toList d1
  subst this
  exact r.inj r'
end
abbrev Cx.wish (X : Cx) (E : Value → Shared → Prop) : Cx := { X with xe := E }
abbrev Cx.nox (X : Cx) : Cx := X.wish fun _ _ => False
theorem Cx.Ok.wish {X : Cx} (ok : X.Ok) (E : Value → Shared → Prop) : (X.wish E).Ok :=
  ⟨ok.mod, ok.kind, ok.glob, ok.blt, ok.above, ok.inj, ok.has, ok.cab, ok.hd, ok.frames, ok.stk, ok.exf, ok.bs, ok.bsz, ok.noex, ok.exfs, ok.funs, ok.frf⟩
theorem Cx.Ok.unwish {X : Cx} {E : Value → Shared → Prop} (ok : (X.wish E).Ok) : X.Ok :=
  ⟨ok.mod, ok.kind, ok.glob, ok.blt, ok.above, ok.inj, ok.has, ok.cab, ok.hd, ok.frames, ok.stk, ok.exf, ok.bs, ok.bsz, ok.noex, ok.exfs, ok.funs, ok.frf⟩
section
variable {X : Cx} {pins : List (Addr × Obj)} {σ : St} {H : Hp} {s : Shared} {E : Value → Shared → Prop}
theorem Inv.wish (I : Inv X pins σ H s) (E : Value → Shared → Prop) : Inv (X.wish E) pins σ H s := ⟨I.ok.wish E, I.os, I.bare, I.base, I.loc, I.cell, I.free, I.freeC, I.pin, I.hok, I.len⟩
theorem Inv.unwish (I : Inv (X.wish E) pins σ H s) : Inv X pins σ H s := ⟨I.ok.unwish, I.os, I.bare, I.base, I.loc, I.cell, I.free, I.freeC, I.pin, I.hok, I.len⟩
theorem SP.unwish {D : Ends} {f : Flow} {s' : Shared} (h : SP (X.wish E) pins D f s') : SP X pins D f s' := by
  cases f with
  | next => obtain ⟨σ', H', I, q⟩ := h; exact ⟨σ', H', I.unwish, q⟩
  | brk => obtain ⟨σ', H', I, q⟩ := h; exact ⟨σ', H', I.unwish, q⟩
  | cont => obtain ⟨σ', H', I, q⟩ := h; exact ⟨σ', H', I.unwish, q⟩
  | ret u => obtain ⟨v, σ', H', I, r, q⟩ := h; exact ⟨v, σ', H', I.unwish, r, q⟩
theorem PSs.nox {st : List Stmt} {t : TS} (h : PSs X.nox st t) : PSs X st t := fun pins s σ H D I hw =>
  wpAny_mono (h pins s σ H D (I.wish _) hw) (fun _ _ q => q.unwish) fun _ _ z => False.elim z
end
section
variable {X : Cx} {st : Stmt} {rest : List Stmt} {t u : TS} {e : Expr} {te : TE} {pos : Pos}
def tNext : TS := fun D σ H => D.nx σ H
def tSeq (t u : TS) : TS := fun D σ H => t { D with nx := u D } σ H
theorem pss_nil : PSs X [] tNext := fun _ _ σ H _ I h => wpAny_execs_nil ⟨σ, H, I, h⟩
theorem pss_cons (h1 : PS X st t) (h2 : PSs X rest u) : PSs X (st :: rest) (tSeq t u) := by
  intro pins s σ H D I h
  refine wpAny_execs_cons (thn (h1 pins s σ H { D with nx := u D } I h) fun f s1 q => ?_)
  cases f with
  | next =>
    obtain ⟨σ', H', I', q⟩ := q
    exact h2 pins s1 σ' H' D I' q
  | ret v => exact q
  | brk => exact q
  | cont => exact q
theorem pss_one (h1 : PS X st t) : PSs X [st] t := by
  intro pins s σ H D I h
  refine wpAny_execs_cons (thn (h1 pins s σ H D I h) fun f s1 q => ?_)
  cases f with
  | next => exact wpAny_execs_nil q
  | ret v => exact q
  | brk => exact q
  | cont => exact q
theorem Inv.quiet {pins : List (Addr × Obj)} {σ : St} {H : Hp} {s : Shared} (I : Inv X pins σ H s) : interactive X.env = false := by simp [interactive, I.ok.kind]
def tDrop (te : TE) : TS := fun D σ H => te σ H fun _ H1 => D.nx σ H1
theorem ps_expr (he : PE X e te) (hs : swapsWith e none pos.line X.env = pure false := by rfl) : PS X (.Expr e pos) (tDrop te) := by
  intro pins s σ H D I h
  exact wpAny_Expr_any (thn (he pins s σ H _ I h) fun v s1 ⟨x, H1, I1, r1, q1⟩ => ⟨σ, H1, I1, q1⟩) I.quiet hs
def tRet (te : TE) : TS := fun D σ H => te σ H D.rt
theorem ps_ret (he : PE X e te) : PS X (.Return (some e) pos) (tRet te) := by
  intro pins s σ H D I h
  exact wpAny_Return_some (thn (he pins s σ H _ I h) fun v s1 ⟨x, H1, I1, r1, q1⟩ => ⟨x, σ, H1, I1, r1, q1⟩)
def tIfS (c : TT) (t u : TS) : TS := fun D σ H => c σ H fun b H1 => if b = true then t D σ H1 else u D σ H1
theorem ps_if {c : Expr} {a b : List Stmt} {tc : TT} (hc : PT X c tc) (ha : PSs X a t) (hb : PSs X b u) : PS X (.If c a b pos) (tIfS tc t u) := by
  intro pins s σ H D I h
  refine wpAny_If (thn (hc pins s σ H _ I h) fun d s1 ⟨H1, I1, q1⟩ => ?_)
  cases d with
  | true => exact ha pins s1 σ H1 D I1 q1
  | false => exact hb pins s1 σ H1 D I1 q1
def tNever : TS := fun _ _ _ => False
theorem ps_never : PS X st tNever := fun _ _ _ _ _ _ h => h.elim
end
abbrev TG := V → St → Hp → (St → Hp → Prop) → Prop
abbrev TGs := List V → St → Hp → (St → Hp → Prop) → Prop
def PG (X : Cx) (target : Expr) (t : TG) : Prop :=
  ∀ (pins : List (Addr × Obj)) (s : Shared) (σ : St) (H : Hp) (v : V) (u : Value) (Q : St → Hp → Prop), Inv X pins σ H s → RelV v u → t v σ H Q →
    wpAny (model X.prog X.w) X.A (assign target X.env u) (fun _ s' => ∃ σ' H', Inv X pins σ' H' s' ∧ Q σ' H') X.xe s
def PGs (X : Cx) (ts : List Expr) (t : TGs) : Prop :=
  ∀ (pins : List (Addr × Obj)) (s : Shared) (σ : St) (H : Hp) (vs : List V) (us : List Value) (Q : St → Hp → Prop), Inv X pins σ H s → Vals vs us → t vs σ H Q →
    wpAny (model X.prog X.w) X.A (assignInOrder ((assignEach ts X.env).map (·.2)) us) (fun _ s' => ∃ σ' H', Inv X pins σ' H' s' ∧ Q σ' H') X.xe s
section
variable {X : Cx} {pos : Pos}
def gName (i : Nat) : TG := fun v σ H Q => Q (σ.set i (some v)) H
theorem pg_name {i : Nat} {x : Str} (hN : X.N.Nodup) (hi : X.N[i]? = some x) (hx : Loc X.env.scope x) (hf : X.fn x = true ∨ X.env.scope.names.lookup x = some .local := by first | exact .inl rfl | exact .inr rfl | assumption) : PG X (.Name x pos) (gName i) := by
  intro pins s σ H v u Q I r h
  exact wpAny_assign_Name (store_ok I hN hi hx r (fun s' I' => ⟨_, H, I', h⟩) hf)
def gNil : TGs := fun vs σ H Q => vs = [] ∧ Q σ H
def gCons (t : TG) (u : TGs) : TGs := fun vs σ H Q => ∃ v r, vs = v :: r ∧ t v σ H fun σ' H' => u r σ' H' Q
theorem pgs_nil : PGs X [] gNil := by
  intro pins s σ H vs us Q I r h
  obtain ⟨e, h⟩ := h
  subst e
  cases r
  exact assignInOrder_nil ⟨σ, H, I, h⟩
theorem pgs_cons {e : Expr} {es : List Expr} {t : TG} {u : TGs} (h1 : PG X e t) (h2 : PGs X es u)
    (hs : (assignEach (e :: es) X.env).map (·.2) = assign e X.env :: (assignEach es X.env).map (·.2) := by rfl) : PGs X (e :: es) (gCons t u) := by
  intro pins s σ H vs us Q I r h
  obtain ⟨v, vr, e1, h⟩ := h
  subst e1
  cases r with
  | cons r rr =>
    rw [hs]
    refine assignInOrder_cons (thn (h1 pins s σ H _ _ _ I r h) fun _ s1 ⟨σ1, H1, I1, q1⟩ => ?_)
    exact h2 pins s1 σ1 H1 _ _ Q I1 rr q1
def gTup (K : Frag) (n : Nat) (t : TGs) : TG := fun v σ H Q => ∃ a xs, v = .ref a ∧ SqT K H a xs ∧ xs.length = n ∧ t xs σ H Q
theorem pg_tup {es : List Expr} {k : Nat} {t : TGs} {n : Nat} (hc : X.calm = true) (h : PGs X es t)
    (hn : (assignEach es X.env).length = n := by rfl) (hst : (assignEach es X.env).findIdx? (·.1) = none := by rfl) : PG X (.Tuple es k pos) (gTup X.K n t) := by
  intro pins s σ H v u Q I r hw
  obtain ⟨a, xs, e1, hq, hl, hw⟩ := hw
  subst e1
  cases r
  obtain ⟨its, rv, ht, hz⟩ := I.tuple hq
  refine assign_Tuple_tuple (I.ok.hd hc) ht (by simp [hn, ← hl, rv.length]) hst fun h' hx => ?_
  have I1 : Inv X pins σ H { s with heap := h' } := I.kept (t' := s.toks) fun b o e => hx b o (Nat.ne_of_lt (Heap.lt_size e)) e
  exact h pins _ σ H xs _ Q I1 (by simpa using rv) hw
def tAsg (te : TE) (g : TG) : TS := fun D σ H => te σ H fun x H1 => g x σ H1 D.nx
theorem ps_asg {tg e : Expr} {te : TE} {g : TG} (he : PE X e te) (hg : PG X tg g) (hs : swapsWithSole [tg] e pos.line X.env = pure false := by rfl) (hw : swappedStores [tg] e X.env = pure none := by rfl)
    (h1 : (assignEach [tg] X.env).map (·.2) = [assign tg X.env] := by rfl) : PS X (.Assign [tg] e pos) (tAsg te g) := by
  intro pins s σ H D I h
  refine wpAny_Assign_stores (thn (he pins s σ H _ I h) fun v s1 ⟨x, H1, I1, r1, q1⟩ => ?_) hs hw
  rw [h1]
  exact thn (hg pins s1 σ H1 x v _ I1 r1 q1) fun _ s2 q => q
theorem ps_set {i : Nat} {x : Str} {e : Expr} {te : TE} {pos' : Pos} (hN : X.N.Nodup) (hi : X.N[i]? = some x) (hx : Loc X.env.scope x) (he : PE X e te) (hs : swapsWith e (some (.Name x pos')) pos.line X.env = pure false := by rfl) (hf : X.fn x = true ∨ X.env.scope.names.lookup x = some .local := by first | exact .inl rfl | exact .inr rfl | assumption) :
    PS X (.Assign [.Name x pos'] e pos) (tAsg te (gName i)) := by
  intro pins s σ H D I h
  refine wpAny_Assign_Name (thn (he pins s σ H _ I h) fun v s1 ⟨y, H1, I1, r1, q1⟩ => ?_) hs
  exact store_ok I1 hN hi hx r1 (fun s2 I2 => ⟨_, H1, I2, q1⟩) hf
end
section
variable {X : Cx} {pos : Pos}
end
structure It where
  go : Nat → Hp → Prop
  yld : Nat → Hp → V → Hp → Prop
  stop : Nat → Hp → Prop
def FpOk (X : Cx) (pins : List (Addr × Obj)) (H : Hp) (b : Addr) : Prop :=
  H b = none ∧ b ≠ X.env.locals ∧ b ∉ X.fs ∧ (b ∈ X.ex ∨ X.s₀.heap.objs.size ≤ b) ∧ (∀ x c, X.env.cells.lookup x = some c → c ≠ b) ∧ ∀ p ∈ X.pn ++ pins, p.1 ≠ b
theorem Inv.fpOk {X : Cx} {pins : List (Addr × Obj)} {σ : St} {H H' : Hp} {s : Shared} {b : Addr} (I : Inv X pins σ H s) (hb : s.heap.objs.size ≤ b) (hn : H' b = none) : FpOk X pins H' b := by
  refine ⟨hn, Nat.ne_of_gt (Nat.lt_of_lt_of_le I.lt hb), I.nofs hb, .inr (Nat.le_trans I.sz hb), fun x c e z => ?_, fun p hp z => ?_⟩
  · obtain ⟨v, q⟩ := I.cell x c e
    exact absurd (Nat.lt_of_lt_of_le q.lt (by rw [z]; exact hb)) (Nat.lt_irrefl _)
  · exact absurd (Nat.lt_of_lt_of_le (Heap.lt_size (I.pin p hp).1) (by rw [z]; exact hb)) (Nat.lt_irrefl _)
structure Turn (P : Program) (w : World) (K : Frag) (tg : Expr) (J : It) (fp : List Addr) (it : Addr) (tn : Nat → Heap → Prop) : Prop where
  mem : it ∈ fp
  obj : ∀ i h, tn i h → ∀ b ∈ fp, ∃ o, h.get? b = some o ∧ ∀ v, o.data ≠ .cell v
  keep : ∀ i h h', tn i h → (∀ b ∈ fp, ∀ o, h.get? b = some o → h'.get? b = some o) → tn i h'
  item : ∀ (X : Cx), X.prog = P → X.w = w → X.K = K → X.calm = true → ∀ (i : Nat) (pins : List (Addr × Obj)) (s : Shared) (σ : St) (H : Hp) (E : Value → Shared → Prop), Inv X pins σ H s → (∀ b ∈ fp, FpOk X pins H b) → tn i s.heap → J.go i H →
    wpAny (model P w) X.A (pyNext (.ref it)) (fun r s1 => ∃ u, r = some u ∧
      wpAny (model P w) X.A (letOwnedTupleGo tg (.ref it) u) (fun _ s2 => ∃ x H', Inv X pins σ H' s2 ∧ RelV x u ∧ J.yld i H x H' ∧ tn (i + 1) s2.heap ∧ ∀ b ∈ fp, H' b = none) E s1) E s
  done : ∀ (X : Cx), X.prog = P → X.w = w → X.K = K → X.calm = true → ∀ (i : Nat) (pins : List (Addr × Obj)) (s : Shared) (σ : St) (H : Hp) (E : Value → Shared → Prop), Inv X pins σ H s → (∀ b ∈ fp, FpOk X pins H b) → tn i s.heap → J.stop i H →
    wpAny (model P w) X.A (pyNext (.ref it)) (fun r s1 => r = none ∧ Inv X pins σ H s1) E s
  self : ∀ (A : Around) (i : Nat) (s : Shared) (Q : Value → Shared → Prop) (E : Value → Shared → Prop), tn i s.heap → Q (.ref it) s → wpAny (model P w) A (pyIter (.ref it)) Q E s
abbrev TI := St → Hp → (It → Hp → Prop) → Prop
def PIE (X : Cx) (pins : List (Addr × Obj)) (σ : St) (tg : Expr) (R : It → Hp → Prop) (itv : Value) (s2 : Shared) : Prop :=
  ∃ (it : Addr) (fp : List Addr) (tn : Nat → Heap → Prop) (J : It) (H' : Hp), itv = .ref it ∧ Inv X pins σ H' s2 ∧ Turn X.prog X.w X.K tg J fp it tn ∧ tn 0 s2.heap ∧ (∀ b ∈ fp, FpOk X pins H' b) ∧ R J H'
def PI (X : Cx) (tg iter : Expr) (wi : TI) : Prop :=
  ∀ (pins : List (Addr × Obj)) (s : Shared) (σ : St) (H : Hp) (R : It → Hp → Prop), Inv X pins σ H s → wi σ H R →
    wpAny (model X.prog X.w) X.A (eval iter X.env) (fun v s1 => wpAny (model X.prog X.w) X.A (pyIter v) (PIE X pins σ tg R) X.xe s1) X.xe s
theorem go_of {M : Model} {A : Around} {E : Value → Shared → Prop} {s : Shared} {tg : Expr} {it : Addr} {u : Value} {o : Obj} {n : String} {vs : Array Value} {Q : Unit → Shared → Prop} (ho : s.heap.get? it = some o) (hc : o.cls = .type n) (hd : o.data = .fields vs)
    (hn : ["enumerate", "zip", "dict_itemiterator", "dict_reverseitemiterator", "odict_iterator", "itertools.zip_longest", "itertools.pairwise"].contains n = false) (hQ : Q () s) : wpAny M A (letOwnedTupleGo tg (.ref it) u) Q E s := by
  unfold letOwnedTupleGo
  cases tg <;> first
    | exact wpAny_pure hQ
    | (cases u <;> first
        | exact wpAny_pure hQ
        | (refine wpAny_bind (wpAny_load ho ?_)
           rw [hc, hd]
           show wpAny M A (if (["enumerate", "zip", "dict_itemiterator", "dict_reverseitemiterator", "odict_iterator", "itertools.zip_longest", "itertools.pairwise"].contains n && vs[0]? == some (rawInt _)) = true then _ else _) Q E s
           rw [if_neg (by intro h; rw [hn, Bool.false_and] at h; cases h)]
           exact wpAny_pure hQ))
def Itl (K : Frag) (a : Addr) : It :=
  ⟨fun i H => ∃ xs x, SqL K H a xs ∧ xs[i]? = some x, fun i H x H' => H' = H ∧ ∀ xs, SqL K H a xs → xs[i]? = some x, fun i H => ∃ xs, SqL K H a xs ∧ xs.length ≤ i⟩
def Itt (K : Frag) (a : Addr) : It :=
  ⟨fun i H => ∃ xs x, SqT K H a xs ∧ xs[i]? = some x, fun i H x H' => H' = H ∧ ∀ xs, SqT K H a xs → xs[i]? = some x, fun i H => ∃ xs, SqT K H a xs ∧ xs.length ≤ i⟩
def Itr (lo : Int) (n : Nat) : It := ⟨fun i _ => i < n, fun i H x H' => H' = H ∧ x = .int (lo + i), fun i _ => n ≤ i⟩
theorem turn_list {P : Program} {w : World} {K : Frag} {tg : Expr} (a it : Addr) : Turn P w K tg (Itl K a) [it] it (fun i h => h.IsListIter it a i) where
  mem := by simp
  obj := fun i h st b hb => by
    have e : b = it := by simpa using hb
    subst e
    obtain ⟨o, e, c, d⟩ := st
    exact ⟨o, e, fun v z => by rw [d] at z; cases z⟩
  keep := fun i h h' st k => st.at fun o e => k it (by simp) o e
  item := by
    intro X hP hw hK hc i pins s σ H E I hf st hg
    subst hP hw hK
    obtain ⟨xs, x, hq, hx⟩ := hg
    obtain ⟨its, rv, p, hz⟩ := I.list hq
    obtain ⟨u, hu, ru⟩ := rv.get hx
    obtain ⟨f0, f1, f2, f3, f4, f5⟩ := hf it (by simp)
    refine wpAny_pyNext_list_item st p.isList (x := u) (by simpa using hu) fun h' st' sb => ?_
    have I1 : Inv X pins σ H { s with heap := h' } := I.turned (t' := s.toks) (fun b o hb e => (sb.2 b hb).trans e) f0 f1 f3 f4 f5
    obtain ⟨o, e, c, d⟩ := id st'
    exact ⟨u, rfl, go_of (s := { s with heap := h' }) e c d (by decide) ⟨x, H, I1, ru, ⟨rfl, fun ys hy => by rw [I.list_inj hy hq]; exact hx⟩, st', fun b hb => (hf b hb).1⟩⟩
  done := by
    intro X hP hw hK hc i pins s σ H E I hf st hg
    subst hP hw hK
    obtain ⟨xs, hq, hx⟩ := hg
    obtain ⟨its, rv, p, hz⟩ := I.list hq
    obtain ⟨f0, f1, f2, f3, f4, f5⟩ := hf it (by simp)
    have hl := rv.length
    exact wpAny_pyNext_list_end (I.ok.hd hc) st p.isList (by simp; omega) fun h' eb => ⟨rfl, I.turned (t' := s.toks) (fun b o hb e => eb b o hb e) f0 f1 f3 f4 f5⟩
  self := fun _ _ _ _ _ st h => wpAny_pyIter_listiter st h
theorem turn_tuple {P : Program} {w : World} {K : Frag} {tg : Expr} (a it : Addr) : Turn P w K tg (Itt K a) [it] it (fun i h => h.IsTupleIter it a i) where
  mem := by simp
  obj := fun i h st b hb => by
    have e : b = it := by simpa using hb
    subst e
    obtain ⟨o, e, c, d⟩ := st
    exact ⟨o, e, fun v z => by rw [d] at z; cases z⟩
  keep := fun i h h' st k => st.at fun o e => k it (by simp) o e
  item := by
    intro X hP hw hK hc i pins s σ H E I hf st hg
    subst hP hw hK
    obtain ⟨xs, x, hq, hx⟩ := hg
    obtain ⟨its, rv, p, hz⟩ := I.tuple hq
    obtain ⟨u, hu, ru⟩ := rv.get hx
    obtain ⟨f0, f1, f2, f3, f4, f5⟩ := hf it (by simp)
    refine wpAny_pyNext_tuple_item st (show s.heap.IsTuple a its.toArray from p) (x := u) (by simpa using hu) fun h' st' sb => ?_
    have I1 : Inv X pins σ H { s with heap := h' } := I.turned (t' := s.toks) (fun b o hb e => (sb.2 b hb).trans e) f0 f1 f3 f4 f5
    obtain ⟨o, e, c, d⟩ := id st'
    exact ⟨u, rfl, go_of (s := { s with heap := h' }) e c d (by decide) ⟨x, H, I1, ru, ⟨rfl, fun ys hy => by rw [I.tuple_inj hy hq]; exact hx⟩, st', fun b hb => (hf b hb).1⟩⟩
  done := by
    intro X hP hw hK hc i pins s σ H E I hf st hg
    subst hP hw hK
    obtain ⟨xs, hq, hx⟩ := hg
    obtain ⟨its, rv, p, hz⟩ := I.tuple hq
    obtain ⟨f0, f1, f2, f3, f4, f5⟩ := hf it (by simp)
    have hl := rv.length
    exact wpAny_pyNext_tuple_end (I.ok.hd hc) st (show s.heap.IsTuple a its.toArray from p) (by simp; omega) fun h' eb => ⟨rfl, I.turned (t' := s.toks) (fun b o hb e => eb b o hb e) f0 f1 f3 f4 f5⟩
  self := fun _ _ _ _ _ st h => wpAny_pyIter_tupleiter st h
theorem turn_range {P : Program} {w : World} {K : Frag} {tg : Expr} (it : Addr) (lo : Int) (n : Nat) : Turn P w K tg (Itr lo n) [it] it (fun i h => IsRangeIter h it (lo + (i : Nat) * 1) ((n : Int) - (i : Nat)) 1) where
  mem := by simp
  obj := fun i h st b hb => by
    have e : b = it := by simpa using hb
    subst e
    exact ⟨_, st, fun v z => by
      have z' : Data.fields _ = Data.cell v := z
      cases z'⟩
  keep := fun i h h' st k => k it (by simp) _ st
  item := by
    intro X hP hw hK hc i pins s σ H E I hf st hg
    subst hP hw hK
    obtain ⟨f0, f1, f2, f3, f4, f5⟩ := hf it (by simp)
    have W := Walks.range (prog := X.prog) (w := X.w) (I.ok.hd hc) it lo 1 n
    refine W.item i s _ _ hg st fun v h' tk hv st' kk => ?_
    obtain ⟨t, rfl⟩ := hv
    have I1 : Inv X pins σ H { s with heap := h', toks := tk } := I.turned (fun b o hb e => kk b o (by simpa using hb) e) f0 f1 f3 f4 f5
    refine ⟨_, rfl, go_of (s := { s with heap := h', toks := tk }) (n := "range_iterator") st' rfl rfl (by decide) ⟨.int (lo + i), H, I1, ⟨t, ?_⟩, ⟨rfl, rfl⟩, st', fun b hb => (hf b hb).1⟩⟩
    rw [Int.mul_one]
  done := by
    intro X hP hw hK hc i pins s σ H E I hf st hg
    subst hP hw hK
    obtain ⟨f0, f1, f2, f3, f4, f5⟩ := hf it (by simp)
    exact wpAny_pyNext_range_end (I.ok.hd hc) st (by have : n ≤ i := hg; omega) fun h' eb => ⟨rfl, I.turned (t' := s.toks) (fun b o hb e => eb b o hb e) f0 f1 f3 f4 f5⟩
  self := fun _ _ _ _ _ st h => wpAny_pyIter_rangeiter st h
end L2
namespace L2
open PySem PySem.Spec PyProof.Rows
section
variable {X : Cx} {tg : Expr}
def iList (K : Frag) (tl : TE) : TI := fun σ H R => tl σ H fun x H1 => ∃ a, x = .ref a ∧ (∃ xs, SqL K H1 a xs) ∧ R (Itl K a) H1
def iTup (K : Frag) (tl : TE) : TI := fun σ H R => tl σ H fun x H1 => ∃ a, x = .ref a ∧ (∃ xs, SqT K H1 a xs) ∧ R (Itt K a) H1
theorem pi_list {l : Expr} {tl : TE} (hl : PE X l tl) : PI X tg l (iList X.K tl) := by
  intro pins s σ H R I h
  refine thn (hl pins s σ H _ I h) fun v s1 ⟨x, H1, I1, r1, q1⟩ => ?_
  obtain ⟨a, e, ⟨xs, hq⟩, q⟩ := q1
  subst e
  cases r1
  obtain ⟨its, rv, p, hz⟩ := I1.list hq
  refine wpAny_pyIter_list p.isList ?_
  refine ⟨s1.heap.objs.size, [s1.heap.objs.size], _, _, H1, rfl, I1.kept (t' := s1.toks) fun b o e => Heap.get?_push_of_some _ e, turn_list a _, ⟨_, Heap.get?_push_size _ rfl, rfl, rfl⟩, fun b hb => ?_, q⟩
  have e : b = s1.heap.objs.size := by simpa using hb
  subst e
  exact I1.fpOk (Nat.le_refl _) (I1.hok.fresh (Nat.le_refl _))
theorem pi_tup {l : Expr} {tl : TE} (hl : PE X l tl) : PI X tg l (iTup X.K tl) := by
  intro pins s σ H R I h
  refine thn (hl pins s σ H _ I h) fun v s1 ⟨x, H1, I1, r1, q1⟩ => ?_
  obtain ⟨a, e, ⟨xs, hq⟩, q⟩ := q1
  subst e
  cases r1
  obtain ⟨its, rv, p, hz⟩ := I1.tuple hq
  refine wpAny_pyIter_tuple (show s1.heap.IsTuple a its.toArray from p) ?_
  refine ⟨s1.heap.objs.size, [s1.heap.objs.size], _, _, H1, rfl, I1.kept (t' := s1.toks) fun b o e => Heap.get?_push_of_some _ e, turn_tuple a _, ⟨_, Heap.get?_push_size _ rfl, rfl, rfl⟩, fun b hb => ?_, q⟩
  have e : b = s1.heap.objs.size := by simpa using hb
  subst e
  exact I1.fpOk (Nat.le_refl _) (I1.hok.fresh (Nat.le_refl _))
theorem range_it {pins : List (Addr × Obj)} {σ : St} {H : Hp} {s : Shared} {R : It → Hp → Prop} {E : Value → Shared → Prop} {lo hi : Int} {t u v : Tok} {tk : Nat} (I : Inv X pins σ H s) (h1 : -(2 ^ 62) ≤ lo) (h2 : lo < 2 ^ 62) (h3 : -(2 ^ 62) ≤ hi) (h4 : hi < 2 ^ 62)
    (q : R (Itr lo (hi - lo).toNat) H) : wpAny (model X.prog X.w) X.A (pyIter (.ref s.heap.objs.size)) (PIE X pins σ tg R) E { s with heap := s.heap.push { cls := .type "range", data := .fields #[.int lo t, .int hi u, .int 1 v] }, toks := tk } := by
  refine wpAny_pyIter_range (IsRange.new ..) (small_one h1 h2 h3 h4) ?_
  have I1 : Inv X pins σ H { s with heap := s.heap.push { cls := .type "range", data := .fields #[.int lo t, .int hi u, .int 1 v] }, toks := tk } := I.kept fun b o e => Heap.get?_push_of_some _ e
  refine ⟨(s.heap.push { cls := .type "range", data := .fields #[.int lo t, .int hi u, .int 1 v] }).objs.size, [(s.heap.push { cls := .type "range", data := .fields #[.int lo t, .int hi u, .int 1 v] }).objs.size], _, _, H, rfl,
    I1.kept (t' := tk) fun b o e => Heap.get?_push_of_some _ e, turn_range _ lo (hi - lo).toNat, ?_, fun b hb => ?_, q⟩
  · have e1 : lo + ((0 : Nat) : Int) * 1 = lo := by simp
    have e2 : (((hi - lo).toNat : Nat) : Int) - ((0 : Nat) : Int) = Builtin.Range.rangeSize lo hi 1 := by rw [rangeSize_one]; split <;> omega
    show IsRangeIter _ _ (lo + ((0 : Nat) : Int) * 1) ((((hi - lo).toNat : Nat) : Int) - ((0 : Nat) : Int)) 1
    rw [e1, e2]
    exact Heap.get?_push_size _ rfl
  · have e : b = (s.heap.push { cls := .type "range", data := .fields #[.int lo t, .int hi u, .int 1 v] }).objs.size := by simpa using hb
    subst e
    exact I1.fpOk (Nat.le_refl _) (I1.hok.fresh (Nat.le_refl _))
def iRng1 (ta : TA) : TI := fun σ H R => ta σ H fun vs H1 => ∃ j : Int, vs = [.int j] ∧ -(2 ^ 62) ≤ j ∧ j < 2 ^ 62 ∧ R (Itr 0 j.toNat) H1
theorem pi_range1 {a : Expr} {ta : TA} {p pos : Pos} (hg : Gl X "range") (hm : X.mg "range" = none) (ha : PA X [a] ta) (hs : starEach [a] X.env = [(false, eval a X.env)] := by rfl) : PI X tg (.Call (.Name "range" p) [a] [] pos) (iRng1 ta) := by
  intro pins s σ H R I h
  refine Call_ (ld_blt I hg hm boot_range (PyProof.Rows.callWith_type1 (thn (ha pos pins s σ H _ I h) fun us s1 ⟨vs, H1, I1, r1, q1⟩ => ?_) hs rfl))
  obtain ⟨j, e, q1, q2, q⟩ := q1
  subst e
  cases r1 with
  | cons r rr =>
    cases rr
    obtain ⟨t, rfl⟩ := r
    exact call_range_1 (range_it I1 (by omega) (by omega) q1 q2 (by simpa using q))
def tFor (wi : TI) (g : TG) (tb : TS) : TS := fun D σ H => wi σ H fun J H1 => ∃ W : Nat → Nat → St → Hp → Prop, (∃ m, W 0 m σ H1) ∧ ∀ i m σ H, W i m σ H →
  (J.stop i H ∧ D.nx σ H) ∨ (J.go i H ∧ ∃ N : St → Hp → Prop, (∀ σ' H', N σ' H' → ∃ m', m' < m ∧ W (i + 1) m' σ' H') ∧ ∀ x H', J.yld i H x H' → g x σ H' fun σ2 H2 => tb { D with nx := N, ct := N, bk := D.nx } σ2 H2)
def pinsAt (fp : List Addr) (h : Heap) : List (Addr × Obj) := fp.filterMap fun b => (h.get? b).map fun o => (b, o)
theorem mem_pinsAt {fp : List Addr} {h : Heap} {b : Addr} {o : Obj} (hb : b ∈ fp) (e : h.get? b = some o) : (b, o) ∈ pinsAt fp h := List.mem_filterMap.mpr ⟨b, hb, by rw [e]; rfl⟩
theorem of_pinsAt {fp : List Addr} {h : Heap} {p : Addr × Obj} (hp : p ∈ pinsAt fp h) : p.1 ∈ fp ∧ h.get? p.1 = some p.2 := by
  obtain ⟨b, hb, e⟩ := List.mem_filterMap.mp hp
  cases q : h.get? b with
  | none => rw [q] at e; cases e
  | some o =>
    rw [q] at e
    have e' : (b, o) = p := Option.some.inj e
    subst e'
    exact ⟨hb, q⟩
theorem Inv.pinned {pins : List (Addr × Obj)} {σ : St} {H : Hp} {s : Shared} {fp : List Addr} (I : Inv X pins σ H s) (hf : ∀ b ∈ fp, FpOk X pins H b) (ho : ∀ b ∈ fp, ∃ o, s.heap.get? b = some o ∧ ∀ v, o.data ≠ .cell v) : Inv X (pins ++ pinsAt fp s.heap) σ H s :=
  I.pins_of fun p hp => (List.mem_append.mp hp).elim (fun z => I.pin p (List.mem_append_right _ z)) fun z => by
    obtain ⟨hb, e⟩ := of_pinsAt z
    obtain ⟨f0, f1, f2, _⟩ := hf p.1 hb
    obtain ⟨o, e', d⟩ := ho p.1 hb
    rw [e] at e'; cases e'
    exact ⟨e, f0, f1, f2, d⟩
theorem Inv.unpinned {pins pl : List (Addr × Obj)} {σ : St} {H : Hp} {s : Shared} (I : Inv X (pins ++ pl) σ H s) : Inv X pins σ H s := I.pins_of fun p hp => I.pin p (List.mem_append_right _ (List.mem_append_left _ hp))
theorem ps_for {iter : Expr} {body : List Stmt} {wi : TI} {g : TG} {tb : TS} {pos : Pos} (hp : PassesOwn (model X.prog X.w) X.A X.env X.xe) (hc : X.calm = true) (hi : PI X tg iter wi) (hg : PG X tg g) (hb : PSs X body tb)
    (hs : ∀ x, foldedSetIterable iter X.env x = pure x := by intro _; rfl) : PS X (.For tg iter body [] pos) (tFor wi g tb) := by
  intro pins s σ H D I h
  refine wpAny_For (thn (hi pins s σ H _ I h) fun v s1 h1 => thn h1 fun itv s2 h2 => ?_) hs
  obtain ⟨it, fp, tn, J, H2, e, I2, T, st2, f2, W, ⟨m0, w0⟩, turn⟩ := h2
  subst e
  have stat : ∀ {H' : Hp}, (∀ b ∈ fp, H' b = none) → ∀ b ∈ fp, FpOk X pins H' b := fun hn b hb => ⟨hn b hb, (f2 b hb).2⟩
  refine codeAny_forLoop_any (fun n s' => ∃ i σ' H', Inv X pins σ' H' s' ∧ tn i s'.heap ∧ (∀ b ∈ fp, H' b = none) ∧ W i n σ' H') ?_ m0 ⟨0, σ, H2, I2, st2, fun b hb => (f2 b hb).1, w0⟩
  rintro n s3 ⟨i, σ3, H3, I3, st3, fr3, w3⟩
  rcases turn i n σ3 H3 w3 with ⟨stop, qn⟩ | ⟨go, N, hN, step⟩
  · refine wpAny_passesOwn hp (thn (T.done X rfl rfl rfl hc i pins s3 σ3 H3 X.xe I3 (stat fr3) st3 stop) fun r s4 ⟨hr, I4⟩ => ?_)
    subst hr
    exact wpAny_execs_nil ⟨σ3, H3, I4, qn⟩
  · refine wpAny_passesOwn hp (thn (T.item X rfl rfl rfl hc i pins s3 σ3 H3 X.xe I3 (stat fr3) st3 go) fun r s4 ⟨u, hr, h4⟩ => ?_)
    subst hr
    refine wpAny_passesOwn hp (thn h4 fun _ s5 ⟨x, H5, I5, r5, y5, st5, fr5⟩ => ?_)
    have I5' := I5.pinned (stat fr5) (T.obj _ _ st5)
    refine wpAny_passesOwn hp (thn (hg _ s5 σ3 H5 x u _ I5' r5 (step x H5 y5)) fun _ s6 ⟨σ6, H6, I6, q6⟩ => ?_)
    refine wpAny_passesOwn hp (thn (hb _ s6 σ6 H6 _ I6 q6) fun f s7 q7 => ?_)
    have again : ∀ {σ7 : St} {H7 : Hp}, Inv X (pins ++ pinsAt fp s5.heap) σ7 H7 s7 → N σ7 H7 → ∃ m, m < n ∧ ∃ i σ' H', Inv X pins σ' H' s7 ∧ tn i s7.heap ∧ (∀ b ∈ fp, H' b = none) ∧ W i m σ' H' := fun {σ7 H7} I7 n7 => by
      obtain ⟨m', hm, w7⟩ := hN σ7 H7 n7
      refine ⟨m', hm, i + 1, σ7, H7, I7.unpinned, T.keep _ _ _ st5 fun b hb o e => (I7.pin (b, o) (List.mem_append_right _ (List.mem_append_right _ (mem_pinsAt hb e)))).1, fun b hb => ?_, w7⟩
      obtain ⟨o, e, d⟩ := T.obj _ _ st5 b hb
      exact (I7.pin (b, o) (List.mem_append_right _ (List.mem_append_right _ (mem_pinsAt hb e)))).2.1
    cases f with
    | next => obtain ⟨σ7, H7, I7, n7⟩ := q7; exact again I7 n7
    | cont => obtain ⟨σ7, H7, I7, n7⟩ := q7; exact again I7 n7
    | brk => obtain ⟨σ7, H7, I7, q7⟩ := q7; exact ⟨σ7, H7, I7.unpinned, q7⟩
    | ret v => obtain ⟨x7, σ7, H7, I7, r7, q7⟩ := q7; exact ⟨x7, σ7, H7, I7.unpinned, r7, q7⟩
end
theorem for_list {K : Frag} {a : Addr} {xs : List V} {g : TG} {tb : TS} {D : Ends} {σ : St} {H : Hp} (Pv : Nat → St → Hp → Prop) (h0 : Pv 0 σ H) (hl : ∀ i σ H, i ≤ xs.length → Pv i σ H → SqL K H a xs)
    (hs : ∀ i x σ H, xs[i]? = some x → Pv i σ H → g x σ H fun σ2 H2 => tb { D with nx := Pv (i + 1), ct := Pv (i + 1), bk := D.nx } σ2 H2) (hd : ∀ σ H, Pv xs.length σ H → D.nx σ H) :
    ∃ W : Nat → Nat → St → Hp → Prop, (∃ m, W 0 m σ H) ∧ ∀ i m σ H, W i m σ H →
      ((Itl K a).stop i H ∧ D.nx σ H) ∨ ((Itl K a).go i H ∧ ∃ N : St → Hp → Prop, (∀ σ' H', N σ' H' → ∃ m', m' < m ∧ W (i + 1) m' σ' H') ∧ ∀ x H', (Itl K a).yld i H x H' → g x σ H' fun σ2 H2 => tb { D with nx := N, ct := N, bk := D.nx } σ2 H2) := by
  refine ⟨fun i m σ H => m = xs.length - i ∧ i ≤ xs.length ∧ Pv i σ H, ⟨xs.length, by simp, Nat.zero_le _, h0⟩, ?_⟩
  rintro i m σ H ⟨rfl, hi, p⟩
  have q := hl i σ H hi p
  by_cases hlt : i < xs.length
  · refine .inr ⟨⟨xs, xs[i], q, by simp [hlt]⟩, Pv (i + 1), fun σ' H' p' => ⟨xs.length - (i + 1), by omega, rfl, hlt, p'⟩, fun x H' y => ?_⟩
    obtain ⟨e, y⟩ := y
    subst e
    exact hs i x σ _ (y xs q) p
  · have e : i = xs.length := by omega
    subst e
    exact .inl ⟨⟨xs, q, Nat.le_refl _⟩, hd σ H p⟩
theorem for_range {lo : Int} {n : Nat} {g : TG} {tb : TS} {D : Ends} {σ : St} {H : Hp} (Pv : Nat → St → Hp → Prop) (h0 : Pv 0 σ H)
    (hs : ∀ i σ H, i < n → Pv i σ H → g (.int (lo + i)) σ H fun σ2 H2 => tb { D with nx := Pv (i + 1), ct := Pv (i + 1), bk := D.nx } σ2 H2) (hd : ∀ σ H, Pv n σ H → D.nx σ H) :
    ∃ W : Nat → Nat → St → Hp → Prop, (∃ m, W 0 m σ H) ∧ ∀ i m σ H, W i m σ H →
      ((Itr lo n).stop i H ∧ D.nx σ H) ∨ ((Itr lo n).go i H ∧ ∃ N : St → Hp → Prop, (∀ σ' H', N σ' H' → ∃ m', m' < m ∧ W (i + 1) m' σ' H') ∧ ∀ x H', (Itr lo n).yld i H x H' → g x σ H' fun σ2 H2 => tb { D with nx := N, ct := N, bk := D.nx } σ2 H2) := by
  refine ⟨fun i m σ H => m = n - i ∧ i ≤ n ∧ Pv i σ H, ⟨n, by simp, Nat.zero_le _, h0⟩, ?_⟩
  rintro i m σ H ⟨rfl, hi, p⟩
  by_cases hlt : i < n
  · refine .inr ⟨hlt, Pv (i + 1), fun σ' H' p' => ⟨n - (i + 1), by omega, rfl, hlt, p'⟩, fun x H' y => ?_⟩
    obtain ⟨e, y⟩ := y
    subst e y
    exact hs i σ _ hlt p
  · have e : i = n := by omega
    subst e
    exact .inl ⟨Nat.le_refl _, hd σ H p⟩
end L2
namespace L2
open PySem PySem.Spec PyProof.Rows
abbrev R2 := V → V → Hp → VK → Prop
def OpR (X : Cx) (f : Value → Value → Sem Value) (r : R2) : Prop :=
  ∀ (pins : List (Addr × Obj)) (s : Shared) (σ : St) (H : Hp) (x y : V) (v u : Value) (Q : VK), Inv X pins σ H s → RelV x v → RelV y u → r x y H Q →
    wpAny (model X.prog X.w) X.A (f v u) (EP X pins σ Q) X.xe s
def UnR (X : Cx) (f : Value → Sem Value) (r : V → Hp → VK → Prop) : Prop :=
  ∀ (pins : List (Addr × Obj)) (s : Shared) (σ : St) (H : Hp) (x : V) (v : Value) (Q : VK), Inv X pins σ H s → RelV x v → r x H Q →
    wpAny (model X.prog X.w) X.A (f v) (EP X pins σ Q) X.xe s
def CallR (X : Cx) (f : Value) (r : List V → Hp → VK → Prop) : Prop :=
  ∀ (pins : List (Addr × Obj)) (s : Shared) (σ : St) (H : Hp) (xs : List V) (us : List Value) (Q : VK), Inv X pins σ H s → Vals xs us → r xs H Q →
    wpAny (model X.prog X.w) X.A (call f us) (EP X pins σ Q) X.xe s
def TruR (X : Cx) (r : V → Hp → (Bool → Hp → Prop) → Prop) : Prop :=
  ∀ (pins : List (Addr × Obj)) (s : Shared) (σ : St) (H : Hp) (x : V) (v : Value) (Q : Bool → Hp → Prop), Inv X pins σ H s → RelV x v → r x H Q →
    wpAny (model X.prog X.w) X.A (truthy v) (TP X pins σ Q) X.xe s
def tOp (r : R2) (ta tb : TE) : TE := fun σ H Q => ta σ H fun x H1 => tb σ H1 fun y H2 => r x y H2 Q
def tUn (r : V → Hp → VK → Prop) (ta : TE) : TE := fun σ H Q => ta σ H fun x H1 => r x H1 Q
def rI (C : Int → Int → Prop) (g : Int → Int → V) : R2 := fun x y H Q => ∃ i j, x = .int i ∧ y = .int j ∧ C i j ∧ Q (g i j) H
def rI0 (g : Int → Int → V) : R2 := fun x y H Q => ∃ i j, x = .int i ∧ y = .int j ∧ Q (g i j) H
def rU (g : Int → V) : V → Hp → VK → Prop := fun x H Q => ∃ i, x = .int i ∧ Q (g i) H
section
variable {X : Cx} {a b c : Expr} {ta tb tc : TE} {pos : Pos}
theorem binT (ha : PE X a ta) (hb : PE X b tb) {pins : List (Addr × Obj)} {s : Shared} {σ : St} {H : Hp} {R : V → V → Hp → Prop} (I : Inv X pins σ H s)
    (h : ta σ H fun x H1 => tb σ H1 fun y H2 => R x y H2) {Q : Value → Shared → Prop} {f : Value → Value → Sem Value}
    (hf : ∀ v u s2 x y H2, Inv X pins σ H2 s2 → RelV x v → RelV y u → R x y H2 → wpAny (model X.prog X.w) X.A (f v u) Q X.xe s2) :
    wpAny (model X.prog X.w) X.A (eval a X.env) (fun v s₁ => wpAny (model X.prog X.w) X.A (eval b X.env) (fun u s₂ => wpAny (model X.prog X.w) X.A (f v u) Q X.xe s₂) X.xe s₁) X.xe s := by
  refine thn (ha pins s σ H _ I h) fun v s1 ⟨x, H1, I1, r1, q1⟩ => ?_
  refine thn (hb pins s1 σ H1 _ I1 q1) fun u s2 ⟨y, H2, I2, r2, q2⟩ => ?_
  exact hf v u s2 x y H2 I2 r1 r2 q2
theorem pe_op {op : Operator} {r : R2} (ho : OpR X (binaryOp op) r) (ha : PE X a ta) (hb : PE X b tb) : PE X (.BinOp a op b pos) (tOp r ta tb) := by
  intro pins s σ H Q I h
  exact wpAny_BinOp (binT ha hb I h fun v u s2 x y H2 I2 rx ry q => ho pins s2 σ H2 x y v u Q I2 rx ry q)
theorem pe_un {op : UnaryOp} {r : V → Hp → VK → Prop} (ho : UnR X (unaryOp op) r) (ha : PE X a ta) : PE X (.UnaryOp op a pos) (tUn r ta) := by
  intro pins s σ H Q I h
  exact UnaryOp_ (thn (ha pins s σ H _ I h) fun v s1 ⟨x, H1, I1, r1, q1⟩ => ho pins s1 σ H1 x v Q I1 r1 q1)
theorem opI {f : Value → Value → Sem Value} {C : Int → Int → Prop} {g : Int → Int → Int}
    (rule : ∀ (i j : Int) (t u : Tok) (s : Shared) (Q : Value → Shared → Prop) (E : Value → Shared → Prop), C i j → Q (.int (g i j) s.toks) { s with toks := s.toks + 1 } → wpAny (model X.prog X.w) X.A (f (.int i t) (.int j u)) Q E s) :
    OpR X f (rI C fun i j => .int (g i j)) := by
  intro pins s σ H x y v u Q I rx ry h
  obtain ⟨i, j, rfl, rfl, hc, q⟩ := h
  obtain ⟨t, rfl⟩ := rx
  obtain ⟨t', rfl⟩ := ry
  exact rule i j t t' s _ _ hc ⟨.int (g i j), H, I.tok _, ⟨_, rfl⟩, q⟩
theorem opI0 {f : Value → Value → Sem Value} {g : Int → Int → Int}
    (rule : ∀ (i j : Int) (t u : Tok) (s : Shared) (Q : Value → Shared → Prop) (E : Value → Shared → Prop), Q (.int (g i j) s.toks) { s with toks := s.toks + 1 } → wpAny (model X.prog X.w) X.A (f (.int i t) (.int j u)) Q E s) :
    OpR X f (rI0 fun i j => .int (g i j)) := by
  intro pins s σ H x y v u Q I rx ry h
  obtain ⟨i, j, rfl, rfl, q⟩ := h
  obtain ⟨t, rfl⟩ := rx
  obtain ⟨t', rfl⟩ := ry
  exact rule i j t t' s _ _ ⟨.int (g i j), H, I.tok _, ⟨_, rfl⟩, q⟩
theorem opB0 {f : Value → Value → Sem Value} {g : Int → Int → Bool}
    (rule : ∀ (i j : Int) (t u : Tok) (s : Shared) (Q : Value → Shared → Prop) (E : Value → Shared → Prop), Q (.bool (g i j)) s → wpAny (model X.prog X.w) X.A (f (.int i t) (.int j u)) Q E s) :
    OpR X f (rI0 fun i j => .bl (g i j)) := by
  intro pins s σ H x y v u Q I rx ry h
  obtain ⟨i, j, rfl, rfl, q⟩ := h
  obtain ⟨t, rfl⟩ := rx
  obtain ⟨t', rfl⟩ := ry
  exact rule i j t t' s _ _ ⟨.bl (g i j), H, I, rfl, q⟩
def CDiv (i j : Int) : Prop := 0 < j ∧ j < 1073741824
def CPow (i j : Int) : Prop := 0 ≤ j ∧ j ≤ 1000000 ∧ i.natAbs < 2 ^ 64
def CMul (i j : Int) : Prop := (-(2 ^ 64) < i ∧ i < 2 ^ 64) ∨ (-(2 ^ 64) < j ∧ j < 2 ^ 64)
theorem CMul.ok {i j : Int} (h : CMul i j) : IntMulOk i j := by
  rcases h with ⟨h1, h2⟩ | ⟨h1, h2⟩
  · exact .of_left (intBits_le_64 h1 h2)
  · exact .of_right (intBits_le_64 h1 h2)
theorem op_add : OpR X (binaryOp .Add) (rI0 fun i j => .int (i + j)) := opI0 fun _ _ _ _ _ _ _ q => add_int q
theorem op_sub : OpR X (binaryOp .Sub) (rI0 fun i j => .int (i - j)) := opI0 fun _ _ _ _ _ _ _ q => sub_int q
theorem op_mul : OpR X (binaryOp .Mult) (rI CMul fun i j => .int (i * j)) := opI fun _ _ _ _ _ _ _ hc q => mul_int q hc.ok
theorem op_fdiv : OpR X (binaryOp .FloorDiv) (rI CDiv fun i j => .int (i / j)) := opI fun i j _ _ _ _ _ hc q => by
  have h1 : (0 : Int) < j := hc.1
  have h2 : j < 1073741824 := hc.2
  exact floordiv_int (by omega) (by rw [Int.fdiv_eq_ediv_of_nonneg i (by omega)]; exact q) (.inl (PyProof.noPylong_small (by omega)))
theorem op_mod : OpR X (binaryOp .Mod) (rI (fun _ j => 0 < j) fun i j => .int (i % j)) := opI fun i j _ _ _ _ _ hc q => by
  have h1 : (0 : Int) < j := hc
  exact mod_int' (by omega) (by rw [Int.fmod_eq_emod_of_nonneg i (by omega)]; exact q)
theorem op_pow : OpR X (binaryOp .Pow) (rI CPow fun i j => .int (i ^ j.toNat)) := opI fun _ _ _ _ _ _ _ hc q => pow_int_small hc.1 hc.2.1 hc.2.2 q
theorem unI {f : Value → Sem Value} {g : Int → Int}
    (rule : ∀ (i : Int) (t : Tok) (s : Shared) (Q : Value → Shared → Prop) (E : Value → Shared → Prop), Q (.int (g i) s.toks) { s with toks := s.toks + 1 } → wpAny (model X.prog X.w) X.A (f (.int i t)) Q E s) :
    UnR X f (rU fun i => .int (g i)) := by
  intro pins s σ H x v Q I rx h
  obtain ⟨i, rfl, q⟩ := h
  obtain ⟨t, rfl⟩ := rx
  exact rule i t s _ _ ⟨.int (g i), H, I.tok _, ⟨_, rfl⟩, q⟩
theorem un_neg : UnR X (unaryOp .USub) (rU fun i => .int (-i)) := unI fun _ _ _ _ _ q => neg_int q
end
def scal : V → V → Bool
  | .non, .non => true | .non, .int _ => true | .int _, .non => true | .non, .bl _ => true | .bl _, .non => true | .non, .str _ => true | .str _, .non => true
  | .int _, .int _ => true | .bl _, .bl _ => true | .str _, .str _ => true | .byt _, .byt _ => true
  | .int _, .str _ => true | .str _, .int _ => true | .bl _, .str _ => true | .str _, .bl _ => true
  | _, _ => false
def rEq : R2 := fun x y H Q => scal x y = true ∧ Q (.bl (decide (x = y))) H
def rNe : R2 := fun x y H Q => scal x y = true ∧ Q (.bl (!decide (x = y))) H
theorem dec_int {i j : Int} : decide (V.int i = V.int j) = (i == j) := by
  rw [Bool.eq_iff_iff]
  simp
theorem dec_bl {i j : Bool} : decide (V.bl i = V.bl j) = (i == j) := by
  rw [Bool.eq_iff_iff]
  simp
theorem dec_str {i j : Str} : decide (V.str i = V.str j) = (i == j) := by
  rw [Bool.eq_iff_iff]
  simp
theorem dec_byt {i j : Array UInt8} : decide (V.byt i = V.byt j) = (i.toList == j.toList) := by
  rw [Bool.eq_iff_iff]
  cases i
  cases j
  simp
section
variable {X : Cx} {a b c : Expr} {ta tb tc : TE} {pos : Pos}
theorem fin_bl {pins : List (Addr × Obj)} {σ : St} {H : Hp} {s : Shared} {Q : VK} {k k' : Bool} (I : Inv X pins σ H s) (q : Q (.bl k) H) (e : k = k') : EP X pins σ Q (.bool k') s := by
  subst e
  exact ⟨.bl k, H, I, rfl, q⟩
theorem op_eq : OpR X (compareOp .Eq) rEq := by
  intro pins s σ H x y v u Q I rx ry h
  obtain ⟨hs, q⟩ := h
  cases x with
  | non =>
    cases rx
    cases y with
    | non => cases ry; exact PySem.EqNone.eq_none_none (fin_bl I q (by simp))
    | bl j => cases ry; exact PySem.EqNone.eq_none_bool (fin_bl I q (by simp))
    | int j => obtain ⟨t', rfl⟩ := ry; exact PySem.EqNone.eq_none_int (fin_bl I q (by simp))
    | str j => obtain ⟨t', rfl⟩ := ry; exact PySem.EqNone.eq_none_str (fin_bl I q (by simp))
    | _ => exact absurd (show false = true from hs) Bool.false_ne_true
  | bl i =>
    cases rx
    cases y with
    | non => cases ry; exact PySem.EqNone.eq_bool_none (fin_bl I q (by simp))
    | bl j => cases ry; exact eq_bool (fin_bl I q dec_bl)
    | str j => obtain ⟨t', rfl⟩ := ry; exact PySem.EqMixed.eq_bool_str (fin_bl I q (by simp))
    | _ => exact absurd (show false = true from hs) Bool.false_ne_true
  | int i =>
    obtain ⟨t, rfl⟩ := rx
    cases y with
    | non => cases ry; exact PySem.EqNone.eq_int_none (fin_bl I q (by simp))
    | int j => obtain ⟨t', rfl⟩ := ry; exact eq_int (fin_bl I q dec_int)
    | str j => obtain ⟨t', rfl⟩ := ry; exact PySem.EqMixed.eq_int_str (fin_bl I q (by simp))
    | _ => exact absurd (show false = true from hs) Bool.false_ne_true
  | str i =>
    obtain ⟨t, rfl⟩ := rx
    cases y with
    | non => cases ry; exact PySem.EqNone.eq_str_none (fin_bl I q (by simp))
    | bl j => cases ry; exact PySem.EqMixed.eq_str_bool (fin_bl I q (by simp))
    | int j => obtain ⟨t', rfl⟩ := ry; exact PySem.EqMixed.eq_str_int (fin_bl I q (by simp))
    | str j => obtain ⟨t', rfl⟩ := ry; exact eq_str (fin_bl I q dec_str)
    | _ => exact absurd (show false = true from hs) Bool.false_ne_true
  | byt i =>
    obtain ⟨t, rfl⟩ := rx
    cases y with
    | byt j => obtain ⟨t', rfl⟩ := ry; exact PySem.W.eq_bytes (fin_bl I q dec_byt)
    | _ => exact absurd (show false = true from hs) Bool.false_ne_true
  | _ => cases y <;> exact absurd (show false = true from hs) Bool.false_ne_true
theorem op_ne : OpR X (compareOp .NotEq) rNe := by
  intro pins s σ H x y v u Q I rx ry h
  obtain ⟨hs, q⟩ := h
  cases x with
  | non =>
    cases rx
    cases y with
    | non => cases ry; exact PySem.EqNone.ne_none_none (fin_bl I q (by simp))
    | bl j => cases ry; exact PySem.EqNone.ne_none_bool (fin_bl I q (by simp))
    | int j => obtain ⟨t', rfl⟩ := ry; exact PySem.EqNone.ne_none_int (fin_bl I q (by simp))
    | str j => obtain ⟨t', rfl⟩ := ry; exact PySem.EqNone.ne_none_str (fin_bl I q (by simp))
    | _ => exact absurd (show false = true from hs) Bool.false_ne_true
  | bl i =>
    cases rx
    cases y with
    | non => cases ry; exact PySem.EqNone.ne_bool_none (fin_bl I q (by simp))
    | bl j => cases ry; exact ne_bool (fin_bl I q (congrArg not dec_bl))
    | str j => obtain ⟨t', rfl⟩ := ry; exact PySem.EqMixed.ne_bool_str (fin_bl I q (by simp))
    | _ => exact absurd (show false = true from hs) Bool.false_ne_true
  | int i =>
    obtain ⟨t, rfl⟩ := rx
    cases y with
    | non => cases ry; exact PySem.EqNone.ne_int_none (fin_bl I q (by simp))
    | int j => obtain ⟨t', rfl⟩ := ry; exact ne_int (fin_bl I q (congrArg not dec_int))
    | str j => obtain ⟨t', rfl⟩ := ry; exact PySem.EqMixed.ne_int_str (fin_bl I q (by simp))
    | _ => exact absurd (show false = true from hs) Bool.false_ne_true
  | str i =>
    obtain ⟨t, rfl⟩ := rx
    cases y with
    | non => cases ry; exact PySem.EqNone.ne_str_none (fin_bl I q (by simp))
    | bl j => cases ry; exact PySem.EqMixed.ne_str_bool (fin_bl I q (by simp))
    | int j => obtain ⟨t', rfl⟩ := ry; exact PySem.EqMixed.ne_str_int (fin_bl I q (by simp))
    | str j => obtain ⟨t', rfl⟩ := ry; exact ne_str (fin_bl I q (congrArg not dec_str))
    | _ => exact absurd (show false = true from hs) Bool.false_ne_true
  | byt i =>
    obtain ⟨t, rfl⟩ := rx
    cases y with
    | byt j => obtain ⟨t', rfl⟩ := ry; exact PySem.W.ne_bytes (fin_bl I q (congrArg not dec_byt))
    | _ => exact absurd (show false = true from hs) Bool.false_ne_true
  | _ => cases y <;> exact absurd (show false = true from hs) Bool.false_ne_true
theorem op_lt : OpR X (compareOp .Lt) (rI0 fun i j => .bl (decide (i < j))) := opB0 fun _ _ _ _ _ _ _ q => lt_int q
theorem op_le : OpR X (compareOp .LtE) (rI0 fun i j => .bl (decide (i ≤ j))) := opB0 fun _ _ _ _ _ _ _ q => le_int q
theorem op_gt : OpR X (compareOp .Gt) (rI0 fun i j => .bl (decide (j < i))) := opB0 fun _ _ _ _ _ _ _ q => gt_int q
theorem op_notN : OpR X (compareOp .IsNot) (fun x y H Q => y = .non ∧ Q (.bl (!decide (x = .non))) H) := by
  intro pins s σ H x y v u Q I rx ry h
  obtain ⟨rfl, q⟩ := h
  cases ry
  refine isnot_none_gen (fin_bl I q ?_)
  cases x <;> first
    | (cases rx; rfl)
    | (obtain ⟨t, rfl⟩ := rx; rfl)
theorem nomark (b : Expr) {op : CmpOp} (h : op ≠ .In := by decide) (h2 : op ≠ .NotIn := by decide) : behindInMarks op b = false := by
  have e1 : (op == CmpOp.In) = false := by cases op <;> first | rfl | exact absurd rfl h
  have e2 : (op == CmpOp.NotIn) = false := by cases op <;> first | rfl | exact absurd rfl h2
  cases b <;> simp [behindInMarks, e1, e2]
theorem pe_cmpR {op : CmpOp} {r : R2} (ho : OpR X (compareOp op) r) (ha : PE X a ta) (hb : PE X b tb) (hm : behindInMarks op b = false) : PE X (.Compare a [op] [b] pos) (tOp r ta tb) := by
  intro pins s σ H Q I h
  exact wpAny_Compare1 (binT ha hb I h fun v u s2 x y H2 I2 rx ry q => ho pins s2 σ H2 x y v u Q I2 rx ry q) hm
def tTest (t : TE) : TT := fun σ H Q => t σ H fun x H' => ∃ k, x = .bl k ∧ Q k H'
theorem pt_cmpR {op : CmpOp} {r : R2} (ho : OpR X (compareOp op) r) (ha : PE X a ta) (hb : PE X b tb) (hm : behindInMarks op b = false) : PT X (.Compare a [op] [b] pos) (tTest (tOp r ta tb)) := by
  intro pins s σ H Q I h
  refine wpAny_isTrue_Compare1 (thn (ha pins s σ H _ I h) fun v s1 ⟨x, H1, I1, r1, q1⟩ => thn (hb pins s1 σ H1 _ I1 q1) fun u s2 ⟨y, H2, I2, r2, q2⟩ =>
    thn (ho pins s2 σ H2 x y v u _ I2 r1 r2 q2) fun c s3 ⟨z, H3, I3, r3, k, e, q3⟩ => ?_) hm
  subst e
  cases r3
  exact wpAny_truthy_bool ⟨H3, I3, q3⟩
def tChain (r r' : R2) (ta tb tc : TE) : TE := fun σ H Q => ta σ H fun x H1 => tb σ H1 fun y H2 => r x y H2 fun z H3 => ∃ k, z = .bl k ∧
  (if k = true then tc σ H3 fun w' H4 => r' y w' H4 Q else Q (.bl false) H3)
theorem pe_chain {op op' : CmpOp} {r r' : R2} (ho : OpR X (compareOp op) r) (ho' : OpR X (compareOp op') r') (ha : PE X a ta) (hb : PE X b tb) (hc : PE X c tc)
    (hm : lastMarks [op, op'] [b, c] = false := by with_unfolding_all rfl) : PE X (.Compare a [op, op'] [b, c] pos) (tChain r r' ta tb tc) := by
  intro pins s σ H Q I h
  refine Compare_chain (thn (ha pins s σ H _ I h) fun v s1 ⟨x, H1, I1, r1, q1⟩ => chain_link (thn (hb pins s1 σ H1 _ I1 q1) fun u s2 ⟨y, H2, I2, r2, q2⟩ =>
    thn (ho pins s2 σ H2 x y v u _ I2 r1 r2 q2) fun d s3 ⟨z, H3, I3, r3, k, e, q3⟩ => ?_)) hm
  subst e
  cases r3
  refine wpAny_truthy_bool ?_
  cases k with
  | false => exact ite_ff ⟨.bl false, H3, I3, rfl, q3⟩
  | true => exact ite_tt (chain_last (thn (hc pins s3 σ H3 _ I3 q3) fun w' s4 ⟨z', H4, I4, r4, q4⟩ => ho' pins s4 σ H4 y z' u w' Q I4 r2 r4 q4))
theorem pt_chain {op op' : CmpOp} {r r' : R2} (ho : OpR X (compareOp op) r) (ho' : OpR X (compareOp op') r') (ha : PE X a ta) (hb : PE X b tb) (hc : PE X c tc)
    (hm : lastMarks [op, op'] [b, c] = false := by with_unfolding_all rfl) : PT X (.Compare a [op, op'] [b, c] pos) (tTest (tChain r r' ta tb tc)) := by
  intro pins s σ H Q I h
  refine isTrue_chain (thn (ha pins s σ H _ I h) fun v s1 ⟨x, H1, I1, r1, q1⟩ => test_link (thn (hb pins s1 σ H1 _ I1 q1) fun u s2 ⟨y, H2, I2, r2, q2⟩ =>
    thn (ho pins s2 σ H2 x y v u _ I2 r1 r2 q2) fun d s3 ⟨z, H3, I3, r3, k, e, q3⟩ => ?_)) hm
  subst e
  cases r3
  refine wpAny_truthy_bool ?_
  cases k with
  | false =>
    obtain ⟨k', e', q'⟩ := q3
    cases e'
    exact ite_ff ⟨H3, I3, q'⟩
  | true =>
    refine ite_tt (test_last (thn (hc pins s3 σ H3 _ I3 q3) fun w' s4 ⟨z', H4, I4, r4, q4⟩ => thn (ho' pins s4 σ H4 y z' u w' _ I4 r2 r4 q4) fun d' s5 ⟨z2, H5, I5, r5, k2, e2, q5⟩ => ?_))
    subst e2
    cases r5
    exact wpAny_truthy_bool ⟨H5, I5, q5⟩
def TruV (K : Frag) (x : V) (H : Hp) (k : Bool) : Prop :=
  match x with
  | .non => k = false
  | .bl b => k = b
  | .int i => k = (i != 0)
  | .str y => y.length ≤ sizeLine ∧ k = ((y.length : Int) != 0)
  | .byt y => y.size ≤ sizeLine ∧ k = ((y.size : Int) != 0)
  | .ref p => (∃ xs, SqL K H p xs ∧ k = !xs.isEmpty) ∨ (∃ xs, SqT K H p xs ∧ k = !xs.isEmpty) ∨ ∃ kvs, H p = some (.dK kvs) ∧ k = !kvs.isEmpty
  | _ => False
theorem isEmpty_kv {κ : Type} {kvs : List (κ × V)} {vs : List (κ × Value)} (r : KV kvs vs) : (!vs.isEmpty) = !kvs.isEmpty := by
  cases r <;> rfl
theorem isEmpty_of {xs : List V} {its : List Value} (r : Vals xs its) : (!its.toArray.isEmpty) = !xs.isEmpty := by
  cases r <;> simp
theorem line63 : (sizeLine : Nat) < 2 ^ 63 := by rw [sizeLine_eq]; decide
theorem tru_ok : TruR X (fun x H Q => ∃ k, TruV X.K x H k ∧ Q k H) := by
  intro pins s σ H x v Q I rx h
  obtain ⟨k, e, q⟩ := h
  have hl := line63
  have hs : sizeLine = 16777216 := sizeLine_eq
  cases x with
  | non =>
    cases rx
    have e' : k = false := e
    subst e'
    exact truthy_none ⟨H, I, q⟩
  | bl b =>
    cases rx
    have e' : k = b := e
    subst e'
    exact wpAny_truthy_bool ⟨H, I, q⟩
  | int i =>
    obtain ⟨t, rfl⟩ := rx
    have e' : k = (i != 0) := e
    subst e'
    exact PySem.P.truthy_int ⟨H, I, q⟩
  | str y =>
    obtain ⟨t, rfl⟩ := rx
    obtain ⟨hy, e'⟩ : y.length ≤ sizeLine ∧ k = ((y.length : Int) != 0) := e
    subst e'
    exact PySem.P.truthy_str (by omega) ⟨H, I.tok _, q⟩
  | byt y =>
    obtain ⟨t, rfl⟩ := rx
    obtain ⟨hy, e'⟩ : y.size ≤ sizeLine ∧ k = ((y.size : Int) != 0) := e
    subst e'
    exact PySem.W.truthy_bytes (by omega) ⟨H, I.tok _, q⟩
  | ref p =>
    cases rx
    have e' : (∃ xs, SqL X.K H p xs ∧ k = !xs.isEmpty) ∨ (∃ xs, SqT X.K H p xs ∧ k = !xs.isEmpty) ∨ ∃ kvs, H p = some (.dK kvs) ∧ k = !kvs.isEmpty := e
    rcases e' with ⟨xs, hx, e'⟩ | ⟨xs, hx, e'⟩ | ⟨kvs, hx, e'⟩
    · subst e'
      obtain ⟨its, r, pl, hz⟩ := I.list hx
      have hlen := r.length
      exact wpAny_truthy_list pl.isList (by simp only [List.size_toArray]; omega) ⟨H, I.tok _, by rw [isEmpty_of r]; exact q⟩
    · subst e'
      obtain ⟨its, r, pl, hz⟩ := I.tuple hx
      have hlen := r.length
      exact truthy_tuple pl (by simp only [List.size_toArray]; omega) ⟨H, I.tok _, by rw [isEmpty_of r]; exact q⟩
    · subst e'
      obtain ⟨hz, hS, vs, r, m⟩ : kvs.length ≤ sizeLine ∧ (p == sysModules) = false ∧ ∃ vs, KV kvs vs ∧ s.heap.DictOf (mixKind X.prog X.w) p vs := I.hok p _ hx
      have hlen : kvs.length = vs.length := Paired.length r
      exact wpAny_truthy_dict hS m (by omega) ⟨H, I.tok _, by rw [isEmpty_kv r]; exact q⟩
  | _ => exact (show False from e).elim
theorem pt_truth (ha : PE X a ta) (he : ∀ whole, isTrue a X.env whole = (do let v ← whole; standAt a.pos; holding [v] (truthy v))) :
    PT X a (fun σ H Q => ta σ H fun x H' => ∃ k, TruV X.K x H' k ∧ Q k H') := by
  intro pins s σ H Q I h
  exact isTrue_plain (thn (ha pins s σ H _ I h) fun v s1 ⟨x, H1, I1, r1, q1⟩ => tru_ok pins s1 σ H1 x v Q I1 r1 q1) (he _)
theorem vals1 {x : V} {us : List Value} (r : Vals [x] us) : ∃ u, us = [u] ∧ RelV x u := by
  cases r with
  | cons r1 r2 => cases r2; exact ⟨_, rfl, r1⟩
theorem vals2 {x y : V} {us : List Value} (r : Vals [x, y] us) : ∃ u w', us = [u, w'] ∧ RelV x u ∧ RelV y w' := by
  cases r with
  | cons r1 r2 =>
    cases r2 with
    | cons r3 r4 => cases r4; exact ⟨_, _, rfl, r1, r3⟩
theorem call_min2 (hc : X.calm = true) : CallR X (.builtin "min") (fun xs H Q => ∃ i j, xs = [.int i, .int j] ∧ Q (.int (if j < i then j else i)) H) := by
  intro pins s σ H xs us Q I r h
  obtain ⟨i, j, rfl, q⟩ := h
  obtain ⟨u, w', rfl, ⟨t, rfl⟩, ⟨t', rfl⟩⟩ := vals2 r
  refine min_two_ints (I.ok.hd hc) fun h' tk k => ⟨_, H, I.kept k, ?_, q⟩
  by_cases hj : j < i
  · rw [if_pos hj, if_pos hj]; exact ⟨_, rfl⟩
  · rw [if_neg hj, if_neg hj]; exact ⟨_, rfl⟩
end
end L2
namespace L2
open PySem PySem.Spec PyProof.Rows
structure ObjM (h : Heap) (x dx C : Addr) (mA : Str → Option Value) : Prop where
  obj : h.get? x = some (PySem.W.instObj C dx)
  ns : h.Ns1 dx mA
  ne : dx ≠ x
theorem lookIn_ns {h : Heap} {dx : Addr} {mA : Str → Option Value} (n : h.Ns1 dx mA) : ∃ od, h.get? dx = some od ∧ ∀ name, PySem.W.lookIn name od = some (mA name) := by
  obtain ⟨o, es, ep, ho, hd, hk, _, hm⟩ := n
  refine ⟨o, ho, fun name => ?_⟩
  have e := hm name
  unfold nsFind findBy at e
  rw [← Array.find?_toList] at e
  unfold PySem.W.lookIn
  rw [hd]
  dsimp only
  split
  · rename_i y q
    rw [q] at e
    exact congrArg some e
  · rename_i q
    rw [q] at e
    have a : es.toList.any (·.refKey) = false := by
      rw [List.any_eq_false]
      intro y hy
      obtain ⟨z, t, hkey⟩ := hk y (Array.mem_toList_iff.mp hy)
      simp [DictEntry.refKey, hkey]
    have a' : ¬ es.toList.any (·.refKey) = true := by rw [a]; exact Bool.false_ne_true
    rw [if_neg a']
    exact congrArg some e
theorem ObjM.look {h : Heap} {x dx C : Addr} {mA : Str → Option Value} (I : ObjM h x dx C mA) : ∃ od, PySem.W.InstAt h x (PySem.W.instObj C dx) C (some od) ∧ ∀ name, PySem.W.lookIn name od = some (mA name) :=
  let ⟨od, ho, hl⟩ := lookIn_ns I.ns
  ⟨od, ⟨I.obj, rfl, rfl, ho⟩, hl⟩
section
variable {prog : Program} {w : World} {A : Around} {E : Value → Shared → Prop} {s : Shared} {K : Frag} {x dx C f : Addr} {mA : Str → Option Value} {name : Str} {v : Value}
theorem get_map {expr : Bool} {Q : Value → Shared → Prop} (X : K.In s.heap) (I : ObjM s.heap x dx C mA) (hg : PySem.W.plainGet K C name = true) (hh : PySem.W.hasDictIn K C = true)
    (ha : findIn K (.ref C) name = some none) (hv : mA name = some v) (hv' : PySem.W.handedIn v = true) (h : Q v { s with toks := s.toks + 1 }) :
    wpAny (model prog w) A (getAttr (.ref x) name expr) Q E s := by
  obtain ⟨od, J, hl⟩ := I.look
  exact PySem.W.get_value X J (PySem.W.plainGet_of hg).1 (PySem.W.findObj_own hh ha rfl (by rw [hl, hv])) hv' h
theorem get_meth {pl : Sem Bool} {Q : Value × List Value → Shared → Prop} (X : K.In s.heap) (I : ObjM s.heap x dx C mA) (hg : PySem.W.plainGet K C name = true)
    (hf : findIn K (.ref C) name = some (some (.ref f))) (ht : PySem.W.isFn K (.ref f) = true) (hv : mA name = none) (h : Q (.ref f, [.ref x]) s) :
    wpAny (model prog w) A (getMethod (.ref x) name pl) Q E s := by
  obtain ⟨od, J, hl⟩ := I.look
  exact PySem.W.method_fn X J (PySem.W.plainGet_of hg).1 (PySem.W.plainGet_of hg).2 hf (beq_iff_eq.mp ht) (by show (PySem.W.lookIn name od).map (·.isSome) = some false; rw [hl, hv]; rfl) h
theorem set_map {ns : List Str} {Q : Unit → Shared → Prop} (X : K.In s.heap) (I : ObjM s.heap x dx C mA)
    (hs : findIn K (.ref C) "__setattr__" = some (some (.builtin "object.__setattr__"))) (hp : PySem.W.plainOver K C = true) (ht : PySem.W.takerIn K C name = some none) (hh : PySem.W.hasDictIn K C = true)
    (hw : PySem.Within mA ns) (hsz : ns.length ≤ sizeLine)
    (h : ∀ h', ObjM h' x dx C (fun y => if y = name then some v else mA y) → Heap.SameBut dx s.heap h' → Q () { s with heap := h', toks := s.toks + 2 }) :
    wpAny (model prog w) A (setAttr (.ref x) name v) Q E s := by
  obtain ⟨od, J, hl⟩ := I.look
  refine PySem.W.set_plain X J hs (PySem.W.osa_open (s := { s with toks := s.toks + 1 }) (r := none) X J hp ht fun b => ?_)
  obtain ⟨cd, hc, hd'⟩ := PySem.W.any_some hh
  have hx : s.heap.get? x = some ⟨.ref C, some dx, .plain, #[]⟩ := I.obj
  refine wpAny_bind (wpAny_pure (wpAny_bind (wpAny_bind (wpAny_loadPart hx (wpAny_bind (PySem.W.Looks.here (s := { s with toks := s.toks + 1 }) (PySem.W.looks_clsIn X hc) ?_))))))
  rw [hd']
  refine wpAny_pure (a := some dx) (wpAny_bind (wpAny_pure (wpAny_bind ?_)))
  refine wpAny_nsSet1 (s := { s with toks := s.toks + 1 }) I.ns fun h' hn2 hs2 => ?_
  obtain ⟨oD, esD, epD, hoD, hdD, hcD⟩ := hn2.count (PySem.Within.cons name v hw)
  refine wpAny_bind (wpAny_lookBehind hoD (by rw [hdD]; exact pastItsLine_dict (Nat.le_trans hcD (by rw [List.length_cons]; omega))) ?_)
  exact wpAny_pure (h _ ⟨(hs2.2 _ (Ne.symm I.ne)).trans I.obj, hn2, I.ne⟩ hs2)
theorem make_map {R : Result → Shared → Prop} {vs : List Value} {kw : List (Str × Value)} (X : K.In s.heap) (hm : PySem.W.makesIn K C = true)
    (hi : findIn K (.ref C) "__init__" = some (some (.ref f))) (hf : PySem.W.typeIn K (.ref f) = some (.type "function"))
    (h : codeAny (model prog w) (A.under (.builtin "type.__call__" ⟨.ref C :: vs, kw⟩)) (.call (.ref f) ⟨.ref (s.heap.objs.size + 1) :: vs, kw⟩) (PySem.W.InitBack (s.heap.objs.size + 1) R)
      { s with heap := (s.heap.push PySem.W.emptyDict).push (PySem.W.instObj C s.heap.objs.size) }) :
    codeAny (model prog w) A (.call (.ref C) ⟨vs, kw⟩) R s := by
  obtain ⟨hh, g, d, t, os⟩ := s
  exact PySem.W.make_core (PySem.W.makes_of X hm) (PySem.W.looks_findIn X hi) (fun self => PySem.W.bind_fn X self hf) (.inl rfl) h
end
def putF (f : Str) (v : V) : List (Str × V) → List (Str × V)
  | [] => [(f, v)]
  | (g, x) :: r => if g = f then (g, v) :: r else (g, x) :: putF f v r
theorem lookup_putF (f g : Str) (v : V) : ∀ fs : List (Str × V), (putF f v fs).lookup g = if g = f then some v else fs.lookup g
  | [] => by
    show List.lookup g [(f, v)] = _
    by_cases h : g = f
    · have hb : (g == f) = true := beq_iff_eq.mpr h
      simp only [List.lookup, hb, if_pos h]
    · have hb : (g == f) = false := beq_eq_false_iff_ne.mpr h
      simp only [List.lookup, hb, if_neg h]
  | (k, x) :: r => by
    have ih := lookup_putF f g v r
    rw [show putF f v ((k, x) :: r) = (if k = f then (k, v) :: r else (k, x) :: putF f v r) from rfl]
    by_cases hk : k = f
    · rw [if_pos hk]
      by_cases h : g = k
      · have hb : (g == k) = true := beq_iff_eq.mpr h
        simp only [List.lookup, hb, if_pos (h.trans hk)]
      · have hb : (g == k) = false := beq_eq_false_iff_ne.mpr h
        simp only [List.lookup, hb, if_neg (fun e : g = f => h (e.trans hk.symm))]
    · rw [if_neg hk]
      by_cases h : g = k
      · have hb : (g == k) = true := beq_iff_eq.mpr h
        simp only [List.lookup, hb, if_neg (fun e : g = f => hk (h.symm.trans e))]
      · have hb : (g == k) = false := beq_eq_false_iff_ne.mpr h
        simp only [List.lookup, hb]
        exact ih
theorem keys_putF (f : Str) (v : V) : ∀ fs : List (Str × V), f ∈ (putF f v fs).map (·.1) ∧ ∀ g, g ∈ fs.map (·.1) → g ∈ (putF f v fs).map (·.1)
  | [] => ⟨by simp [putF], fun g h => by simp at h⟩
  | (k, x) :: r => by
    obtain ⟨i1, i2⟩ := keys_putF f v r
    rw [show putF f v ((k, x) :: r) = (if k = f then (k, v) :: r else (k, x) :: putF f v r) from rfl]
    by_cases hk : k = f
    · rw [if_pos hk]
      subst hk
      exact ⟨by simp, fun g h => by simpa using h⟩
    · rw [if_neg hk]
      refine ⟨?_, fun g h => ?_⟩
      · rw [List.map_cons]
        exact List.mem_cons_of_mem _ i1
      · rw [List.map_cons] at h ⊢
        rcases List.mem_cons.mp h with e | e
        · exact List.mem_cons.mpr (.inl e)
        · exact List.mem_cons_of_mem _ (i2 g e)
theorem length_putF (f : Str) (v : V) : ∀ fs : List (Str × V), (putF f v fs).length ≤ fs.length + 1
  | [] => by simp [putF]
  | (k, x) :: r => by
    have ih := length_putF f v r
    rw [show putF f v ((k, x) :: r) = (if k = f then (k, v) :: r else (k, x) :: putF f v r) from rfl]
    by_cases hk : k = f
    · rw [if_pos hk, List.length_cons, List.length_cons]; omega
    · rw [if_neg hk, List.length_cons, List.length_cons]; omega
theorem RelO.some_of {v : V} {o : Option Value} (r : RelO (some v) o) : ∃ u, o = some u ∧ RelV v u := by
  cases o with
  | none => exact (show False from r).elim
  | some u => exact ⟨u, rfl, r⟩
theorem RelO.none_of {o : Option Value} (r : RelO none o) : o = none := by
  cases o with
  | none => rfl
  | some u => exact (show False from r).elim
theorem handed_of {v : V} {u : Value} (r : RelV v u) : PySem.W.handedIn u = true := by
  cases v with
  | non => cases (show u = Value.none from r); rfl
  | bl b => cases (show u = Value.bool b from r); rfl
  | int i => obtain ⟨t, e⟩ := (show ∃ t, u = Value.int i t from r); cases e; rfl
  | str x => obtain ⟨t, e⟩ := (show ∃ t, u = Value.str x t from r); cases e; rfl
  | byt b => obtain ⟨t, e⟩ := (show ∃ t, u = Value.bytes b t from r); cases e; rfl
  | flt b => obtain ⟨t, e⟩ := (show ∃ t, u = Value.float b t from r); cases e; rfl
  | ref a => cases (show u = Value.ref a from r); rfl
  | ty n => cases (show u = Value.type n from r); rfl
section
variable {P : Program} {w : World} {H H' : Hp} {h h' : Heap} {a C dx : Addr} {fs fs' : List (Str × V)}
theorem ins_get (hok : HOk P w H h) (e : H a = some (.ins C dx fs)) : ∃ mA, ObjM h a dx C mA ∧ (∀ f, RelO (fs.lookup f) (mA f)) ∧ PySem.Within mA (fs.map (·.1)) ∧ fs.length ≤ 1000 ∧ H dx = some (.own a) := by
  obtain ⟨d, z, ne, ob, mA, n, r, q⟩ := (show ObjOk P w H h a (.ins C dx fs) from hok a _ e)
  exact ⟨mA, ⟨ob, n, ne⟩, r, q, z, d⟩
end
structure Cls (K : Frag) (C : Addr) : Prop where
  pg : PySem.W.plainGet K C Str.empty = true
  hd : PySem.W.hasDictIn K C = true
  po : PySem.W.plainOver K C = true
  sa : findIn K (.ref C) "__setattr__" = some (some (.builtin "object.__setattr__"))
theorem Cls.get {K : Frag} {C : Addr} (c : Cls K C) (f : Str) : PySem.W.plainGet K C f = true := c.pg
def NoAttr (K : Frag) (C : Addr) (f : Str) : Prop := findIn K (.ref C) f = some none
theorem NoAttr.taker {K : Frag} {C : Addr} {f : Str} (n : NoAttr K C f) : PySem.W.takerIn K C f = some none := by
  unfold PySem.W.takerIn
  rw [show findIn K (.ref C) f = some none from n]
  rfl
structure Meth (K : Frag) (C : Addr) (m : Str) (f : Addr) : Prop where
  at_ : findIn K (.ref C) m = some (some (.ref f))
  fn : PySem.W.isFn K (.ref f) = true
  kp : keepIn K (.ref f) = true
section
variable {X : Cx} {pins : List (Addr × Obj)} {σ : St} {H : Hp} {s : Shared} {a C dx : Addr} {fs : List (Str × V)} {f : Str} {v : V} {A : Around} {E : Value → Shared → Prop}
theorem getattr_ok {b : Bool} {Q : Value → Shared → Prop} (I : Inv X pins σ H s) (e : H a = some (.ins C dx fs)) (c : Cls X.K C) (n : NoAttr X.K C f) (l : fs.lookup f = some v)
    (h : ∀ u s', Inv X pins σ H s' → RelV v u → Q u s') : wpAny (model X.prog X.w) A (getAttr (.ref a) f b) Q E s := by
  obtain ⟨mA, O, r, _, _, _⟩ := ins_get I.hok e
  obtain ⟨u, hu, ru⟩ := RelO.some_of (v := v) (o := mA f) (by rw [← l]; exact r f)
  exact get_map I.kIn O (c.get f) c.hd n hu (handed_of ru) (h u _ (I.tok _) ru)
theorem getmeth_ok {m : Str} {g : Addr} {pl : Sem Bool} {Q : Value × List Value → Shared → Prop} (I : Inv X pins σ H s) (e : H a = some (.ins C dx fs)) (c : Cls X.K C) (k : Meth X.K C m g) (l : fs.lookup m = none)
    (h : Q (.ref g, [.ref a]) s) : wpAny (model X.prog X.w) A (getMethod (.ref a) m pl) Q E s := by
  obtain ⟨mA, O, r, _, _, _⟩ := ins_get I.hok e
  have hn : mA m = none := RelO.none_of (by rw [← l]; exact r m)
  exact get_meth I.kIn O (c.get m) k.at_ k.fn hn h
theorem setattr_ok {y : V} {u : Value} {Q : Unit → Shared → Prop} (I : Inv X pins σ H s) (e : H a = some (.ins C dx fs)) (c : Cls X.K C) (n : NoAttr X.K C f) (hl : fs.length < 1000) (ry : RelV y u)
    (h : ∀ s', Inv X pins σ (upd H a (.ins C dx (putF f y fs))) s' → Q () s') : wpAny (model X.prog X.w) A (setAttr (.ref a) f u) Q E s := by
  obtain ⟨mA, O, r, wi, _, ho⟩ := ins_get I.hok e
  have hz : (fs.map (·.1)).length ≤ sizeLine := by rw [List.length_map, sizeLine_eq]; omega
  refine set_map I.kIn O c.sa c.po n.taker c.hd wi hz fun h' O' sb => h _ ?_
  have hd : ∃ o, h'.get? dx = some o := let ⟨o, _, _, e', _⟩ := O'.ns; ⟨o, e'⟩
  refine I.write (x := a) (e := dx) (by rw [e]; exact True.intro) (.inr ho) (fun b q hb z => (sb.2 b hb).trans z) hd ?_
  refine ⟨by rw [upd_ne O.ne]; exact ho, ?_, O.ne, O'.obj, _, O'.ns, fun g => ?_, fun g hg => ?_⟩
  · have := length_putF f y fs; omega
  · show RelO ((putF f y fs).lookup g) (if g = f then some u else mA g)
    rw [lookup_putF]
    by_cases q : g = f
    · rw [if_pos q, if_pos q]; exact ry
    · rw [if_neg q, if_neg q]; exact r g
  · by_cases q : g = f
    · rw [q]; exact (keys_putF f y fs).1
    · refine (keys_putF f y fs).2 g (wi g fun z => hg ?_)
      show (if g = f then some u else mA g) = none
      rw [if_neg q]; exact z
theorem Inv.made (I : Inv X pins σ H s) : Inv X pins σ (upd (upd H s.heap.objs.size (.own (s.heap.objs.size + 1))) (s.heap.objs.size + 1) (.ins C s.heap.objs.size []))
    { s with heap := (s.heap.push PySem.W.emptyDict).push (PySem.W.instObj C s.heap.objs.size) } := by
  have e1 : (s.heap.push PySem.W.emptyDict).get? s.heap.objs.size = some PySem.W.emptyDict := Heap.get?_push_size s.heap rfl
  have e2 : ((s.heap.push PySem.W.emptyDict).push (PySem.W.instObj C s.heap.objs.size)).get? (s.heap.objs.size + 1) = some (PySem.W.instObj C s.heap.objs.size) := by
    have := Heap.get?_push_size (s.heap.push PySem.W.emptyDict) (o := PySem.W.instObj C s.heap.objs.size) rfl
    rwa [Heap.size_push] at this
  have e3 : (s.heap.push PySem.W.emptyDict).Ns s.heap.objs.size (fun _ => none) := ⟨PySem.W.emptyDict, #[], _, e1, rfl, (fun e he => absurd he (by simp)), fun _ => rfl⟩
  have I1 := I.laid (a := s.heap.objs.size) (o := .own (s.heap.objs.size + 1)) (h' := s.heap.push PySem.W.emptyDict) (t' := s.toks) (fun b u q => Heap.get?_push_of_some _ q) (Nat.le_refl _) ⟨_, e1⟩
  refine I1.laid (a := s.heap.objs.size + 1) (o := .ins C s.heap.objs.size []) (t' := s.toks) (fun b u q => Heap.get?_push_of_some _ q) (Nat.le_of_eq (Heap.size_push _ _)) ?_
  have ne : s.heap.objs.size ≠ s.heap.objs.size + 1 := Nat.ne_of_lt (Nat.lt_succ_self _)
  refine ⟨by rw [upd_ne ne, upd_same], Nat.zero_le _, ne, e2, fun _ => none, (Heap.Ns1.of_empty e3).at fun o q => Heap.get?_push_of_some _ q, fun _ => True.intro, fun y hy => absurd rfl hy⟩
theorem attr_of {prog : Program} {w : World} {env : Env} {e : Expr} {f : Str} {pos : Pos} {s : Shared} {Q : Value → Shared → Prop} (hb : attributeBase e f env (eval e env) = eval e env)
    (h : wpAny (model prog w) A (eval e env) (fun o s₁ => wpAny (model prog w) A (getAttr o f true) Q E s₁) E s) : wpAny (model prog w) A (eval (.Attribute e f pos) env) Q E s :=
  Attribute_any_ h (by rw [arm_eval_Attribute, hb])
end
def tFld (K : Frag) (ta : TE) (f : Str) : TE := fun σ H Q => ta σ H fun x H1 => ∃ a C dx fs v, x = .ref a ∧ H1 a = some (.ins C dx fs) ∧ Cls K C ∧ NoAttr K C f ∧ fs.lookup f = some v ∧ Q v H1
def sFld (K : Frag) (ta tv : TE) (f : Str) : TS := fun D σ H => tv σ H fun y H1 => ta σ H1 fun x H2 => ∃ a C dx fs, x = .ref a ∧ H2 a = some (.ins C dx fs) ∧ Cls K C ∧ NoAttr K C f ∧ fs.length < 1000 ∧
  D.nx σ (upd H2 a (.ins C dx (putF f y fs)))
section
variable {X : Cx} {o e value : Expr} {f : Str} {pos pos' tpos : Pos} {ta tv : TE}
theorem pe_fld (he : PE X e ta) (hb : attributeBase e f X.env (eval e X.env) = eval e X.env) : PE X (.Attribute e f pos) (tFld X.K ta f) := by
  intro pins s σ H Q I h
  refine attr_of hb (thn (he pins s σ H _ I h) fun u s1 ⟨x, H1, I1, rx, a, C, dx, fs, v, ex, ea, c, n, l, q⟩ => ?_)
  subst ex
  obtain rfl : u = Value.ref a := rx
  exact getattr_ok I1 ea c n l fun u' s2 I2 ru => ⟨v, H1, I2, ru, q⟩
theorem ps_fld (ha : PE X o ta) (hv : PE X value tv) (hs : swapsWith value (some (.Attribute o f pos')) pos.line X.env = pure false) : PS X (.Assign [.Attribute o f pos'] value pos) (sFld X.K ta tv f) := by
  intro pins s σ H D I h
  refine plainObj_wpAny_Assign_Attribute (thn (hv pins s σ H _ I h) fun u s1 ⟨y, H1, I1, ry, q⟩ => thn (ha pins s1 σ H1 _ I1 q) fun ov s2 ⟨x, H2, I2, rx, a, C, dx, fs, ex, ea, c, n, l, q2⟩ => ?_) hs
  subst ex
  obtain rfl : ov = Value.ref a := rx
  exact setattr_ok I2 ea c n l ry fun s3 I3 => ⟨σ, _, I3, q2⟩
end
section
variable {X : Cx} {pins : List (Addr × Obj)} {σ : St} {H : Hp} {s : Shared} {A : Around} {E : Value → Shared → Prop} {Q : Value → Shared → Prop} {c : Value} {b : Bool}
inductive TyOf (K : Frag) (H : Hp) : V → Value → Prop where
  | non : TyOf K H .non (.type "NoneType")
  | bl (x : Bool) : TyOf K H (.bl x) (.type "bool")
  | int (i : Int) : TyOf K H (.int i) (.type "int")
  | str (x : Str) : TyOf K H (.str x) (.type "str")
  | flt (x : UInt64) : TyOf K H (.flt x) (.type "float")
  | lst {a : Addr} {xs : List V} (e : H a = some (.lst xs)) : TyOf K H (.ref a) (.type "list")
  | frz {a : Addr} {o : Obj} {xs : List V} (e : H a = some (.frz o (.lst xs))) : TyOf K H (.ref a) (.type "list")
  | tup {a : Addr} {xs : List V} (e : H a = some (.tup xs)) : TyOf K H (.ref a) (.type "tuple")
  | dK {a : Addr} {kvs : List (Key × V)} (e : H a = some (.dK kvs)) : TyOf K H (.ref a) (.type "dict")
  | dT {a : Addr} {kvs : List (List Key × V)} (e : H a = some (.dT kvs)) : TyOf K H (.ref a) (.type "dict")
  | ins {a C dx : Addr} {fs : List (Str × V)} (e : H a = some (.ins C dx fs)) (cl : Cls K C) (ha : findIn K (.ref C) "__class__" = some (some (.builtin "object.__class__")))
      (hn : PySem.W.specialIn K (.builtin "object.__class__") "__get__" = some (some (.builtin "getset_descriptor.__get__"))) (htk : PySem.W.takesIn K (.builtin "object.__class__") = some true)
      (hm : PySem.W.mroIn K C (.type "object") = some true) : TyOf K H (.ref a) (.ref C)
theorem isinst_ok {x : V} {u t : Value} (I : Inv X pins σ H s) (rx : RelV x u) (ty : TyOf X.K H x t) (e : kitOne X.K t c = some b) (h : ∀ tk, Q (.bool b) { s with toks := tk }) :
    wpAny (model X.prog X.w) A (call (.builtin "isinstance") [u, c]) Q E s := by
  cases ty with
  | non => cases (show u = Value.none from rx); exact PySem.W.kia_one PySem.W.kitx_none I.kIn True.intro e (fun z => nomatch z) h
  | bl y => cases (show u = Value.bool y from rx); exact PySem.W.kia_one PySem.W.kitx_bool I.kIn True.intro e (fun z => nomatch z) h
  | int i => obtain ⟨t, q⟩ := (show ∃ t, u = Value.int i t from rx); cases q; exact PySem.W.kia_one PySem.W.kitx_int I.kIn True.intro e (fun z => nomatch z) h
  | str y => obtain ⟨t, q⟩ := (show ∃ t, u = Value.str y t from rx); cases q; exact PySem.W.kia_one PySem.W.kitx_str I.kIn True.intro e (fun z => nomatch z) h
  | flt y => obtain ⟨t, q⟩ := (show ∃ t, u = Value.float y t from rx); cases q; exact PySem.W.kia_one PySem.W.kitx_float I.kIn True.intro e (fun z => nomatch z) h
  | @lst a xs ea =>
    cases (show u = Value.ref a from rx)
    obtain ⟨_, _, n, _, h1⟩ := (show ObjOk X.prog X.w H s.heap a (.lst xs) from I.hok a _ ea)
    exact PySem.W.kia_one PySem.W.kitx_list I.kIn ⟨_, h1, rfl⟩ e (fun z => nomatch z) h
  | @frz a ob xs ea =>
    cases (show u = Value.ref a from rx)
    obtain ⟨_, _, _, n, _, h1⟩ := (show ObjOk X.prog X.w H s.heap a (.frz ob (.lst xs)) from I.hok a _ ea)
    exact PySem.W.kia_one PySem.W.kitx_list I.kIn ⟨_, h1, rfl⟩ e (fun z => nomatch z) h
  | @tup a xs ea =>
    cases (show u = Value.ref a from rx)
    obtain ⟨_, _, _, p⟩ := (show ObjOk X.prog X.w H s.heap a (.tup xs) from I.hok a _ ea)
    obtain ⟨o, h1, h2, _⟩ := p
    exact PySem.W.kia_one PySem.W.kitx_tuple I.kIn ⟨o, h1, h2⟩ e (fun z => nomatch z) h
  | @dK a kvs ea =>
    cases (show u = Value.ref a from rx)
    obtain ⟨_, _, vs, _, p⟩ := (show ObjOk X.prog X.w H s.heap a (.dK kvs) from I.hok a _ ea)
    obtain ⟨o, es, ep, h1, h2, _⟩ := p
    exact PySem.W.kia_one PySem.W.kitx_dict I.kIn ⟨o, h1, h2.1⟩ e (fun z => nomatch z) h
  | @dT a kvs ea =>
    cases (show u = Value.ref a from rx)
    obtain ⟨_, _, xs, _, o, es, ep, h1, h2, _⟩ := (show ObjOk X.prog X.w H s.heap a (.dT kvs) from I.hok a _ ea)
    exact PySem.W.kia_one PySem.W.kitx_dict I.kIn ⟨o, h1, h2.1⟩ e (fun z => nomatch z) h
  | @ins a C dx fs ea cl ha hn htk hm =>
    cases (show u = Value.ref a from rx)
    obtain ⟨mA, O, _⟩ := ins_get I.hok ea
    obtain ⟨od, J, _⟩ := O.look
    exact PySem.W.kia_one (PySem.W.kitx_own (cl.get _) cl.hd ha hn htk hm) I.kIn J e (fun z => nomatch z) h
end
end L2
namespace L2
open PySem PySem.Spec PyProof.Rows
structure Room (k : Nat) (A : Around) : Prop where
  hd : A.handled = none
  dp : A.depth + 3 * k + 5 < recursionLimit
  un : A.units + 16 * k + 200 < cLine
theorem Room.mono {j k : Nat} {A : Around} (r : Room k A) (h : j ≤ k) : Room j A := ⟨r.hd, by have := r.dp; omega, by have := r.un; omega⟩
theorem Room.deeper {k : Nat} {A : Around} (r : Room (k + 1) A) (env : Env) : Room k (A.deeper env) :=
  ⟨r.hd, by have := r.dp; show A.depth + 1 + 3 * k + 5 < _; omega, by have := r.un; show A.units + 3 + 16 * k + 200 < _; omega⟩
theorem make_depth {A : Around} {C : Addr} {us : List Value} {kw : List (Str × Value)} : (A.under (.builtin "type.__call__" ⟨.ref C :: us, kw⟩)).depth = A.depth + 1 := by
  first | rfl | simp [Around.under, Code.weight, Code.isCreation, Code.isGuard, Code.isCaller, Code.frames, Code.isFrame, guardIds]
theorem make_units {A : Around} {C : Addr} {us : List Value} {kw : List (Str × Value)} : (A.under (.builtin "type.__call__" ⟨.ref C :: us, kw⟩)).units = A.units + 1 := by
  first | rfl | simp [Around.under, Code.cUnits, Code.frames, Code.isFrame]
theorem Room.make {k : Nat} {A : Around} (r : Room (k + 1) A) (C : Addr) (us : List Value) (kw : List (Str × Value)) : Room k (A.under (.builtin "type.__call__" ⟨.ref C :: us, kw⟩)) :=
  ⟨r.hd, by have := r.dp; rw [make_depth]; omega, by have := r.un; rw [make_units]; omega⟩
theorem Room.depth {k : Nat} {A : Around} (r : Room k A) : A.depth < recursionLimit := by have := r.dp; omega
theorem Room.units {k : Nat} {A : Around} (r : Room k A) : A.units + 64 < cLine := by have := r.un; omega
def tNil : TA := fun _ H Q => Q [] H
def tCons (ta : TE) (tr : TA) : TA := fun σ H Q => ta σ H fun x H1 => tr σ H1 fun xs H2 => Q (x :: xs) H2
section
variable {X : Cx} {e : Expr} {es : List Expr} {te : TE} {t : TA} {pos : Pos}
theorem pa_nil : PA X [] tNil := fun _ _ _ _ H Q I h => Calls.spliced_nil ⟨[], H, I, .nil, h⟩
theorem pa_cons (ha : PE X e te) (hr : PA X es t) (hs : starEach (e :: es) X.env = (false, eval e X.env) :: starEach es X.env := by rfl) : PA X (e :: es) (tCons te t) := by
  intro pos pins s σ H Q I h
  rw [hs]
  show wpAny _ _ (spliced ((false, eval e X.env) :: backTo pos (starEach es X.env))) _ _ s
  refine Calls.spliced_cons (thn (ha pins s σ H _ I h) fun u s1 ⟨x, H1, I1, r1, q1⟩ => ?_)
  exact thn (hr pos pins s1 σ H1 _ I1 q1) fun us s2 ⟨xs, H2, I2, r2, q2⟩ => ⟨x :: xs, H2, I2, .cons r1 r2, q2⟩
def tTup (t : TA) : TE := fun σ H Q => t σ H fun xs H1 => xs.length ≤ sizeLine ∧ ∀ p, H1 p = none → Q (.ref p) (upd H1 p (.tup xs))
def tLst (t : TA) : TE := fun σ H Q => t σ H fun xs H1 => xs.length ≤ sizeLine ∧ ∀ p, H1 p = none → Q (.ref p) (upd H1 p (.lst xs))
theorem pe_tup {x1} (h : PA X es t) : PE X (.Tuple es x1 pos) (tTup t) := by
  intro pins s σ H Q I hq
  refine wpAny_Tuple_spliced (thn (h pos pins s σ H _ I hq) fun us s1 ⟨xs, H1, I1, r, z, q⟩ => ⟨by rw [← r.length]; exact z, ?_⟩)
  have hf : H1 s1.heap.objs.size = none := I1.hok.fresh (Nat.le_refl _)
  refine ⟨.ref s1.heap.objs.size, upd H1 s1.heap.objs.size (.tup xs), I1.laid (t' := s1.toks) (fun b u e => Heap.get?_push_of_some _ e) (Nat.le_refl _) ?_, rfl, q _ hf⟩
  exact ⟨z, us, r, ⟨_, Heap.get?_push_size _ rfl, rfl, _, rfl⟩⟩
theorem pe_lst (h : PA X es t) : PE X (.List es pos) (tLst t) := by
  intro pins s σ H Q I hq
  refine wpAny_List_spliced (thn (h pos pins s σ H _ I hq) fun us s1 ⟨xs, H1, I1, r, z, q⟩ => ⟨by rw [← r.length]; exact z, ?_⟩)
  have hf : H1 s1.heap.objs.size = none := I1.hok.fresh (Nat.le_refl _)
  refine ⟨.ref s1.heap.objs.size, upd H1 s1.heap.objs.size (.lst xs), I1.laid (t' := s1.toks) (fun b u e => Heap.get?_push_of_some _ e) (Nat.le_refl _) ?_, rfl, q _ hf⟩
  exact ⟨z, us, 0, r, Heap.get?_push_size _ rfl⟩
end
abbrev Sp := List V → Hp → VK → XK → Prop
abbrev CXT := List Env → Hp → Shared → XK → Value → Shared → Prop
structure Env0 (P : Program) (w : World) (K : Frag) (mg : Str → Option Value) (base : Heap) (A : Around) (outer : List Env) (s : Shared) (H : Hp) : Prop where
  frames : A.frames = some outer
  mod : Mod K mg base
  bs : ∀ b o, base.get? b = some o → s.heap.get? b = some o ∧ H b = none
  bsz : base.objs.size ≤ s.heap.objs.size
  funs : s.heap.FunFrames base outer
  frf : ∀ b ∈ frs outer, H b = none
  hok : HOk P w H s.heap
  bare : AllBare s.gens
def CE (outer : List Env) (P : Program) (w : World) (H : Hp) (s : Shared) (Q : VK) (u : Value) (s' : Shared) : Prop :=
  ∃ v H', s'.os = s.os ∧ AllBare s'.gens ∧ Un (frs outer) [] H H' s.heap s'.heap ∧ HOk P w H' s'.heap ∧ RelV v u ∧ Q v H'
def CR (CX : CXT) (outer : List Env) (P : Program) (w : World) (H : Hp) (s : Shared) (Q : VK) (E : XK) (r : Result) (s' : Shared) : Prop :=
  match r with
  | .ok (.ret u) => CE outer P w H s Q u s'
  | .ok _ => False
  | .error e => CX outer H s E e s'
structure FnOk (P : Program) (w : World) (K : Frag) (mg : Str → Option Value) (base : Heap) (CX : CXT) (k : Nat) (f : Addr) (fd : FuncData) (ps : List Str) (sp : Sp) : Prop where
  len : ∀ vs H Q E, sp vs H Q E → vs.length = ps.length
  run : ∀ (A : Around) (outer : List Env) (s : Shared) (H : Hp) (args : Args) (us : List Value) (vs : List V) (Q : VK) (E : XK), Room k A → Env0 P w K mg base A outer s H → BindsTo s fd args (ps.zip us) → Vals vs us → sp vs H Q E →
    codeAny (model P w) A (.call (.ref f) args) (CR CX outer P w H s Q E) s
theorem FnOk.mono {P : Program} {w : World} {K : Frag} {mg : Str → Option Value} {base : Heap} {CX : CXT} {j k : Nat} {f : Addr} {fd : FuncData} {ps : List Str} {sp : Sp} (F : FnOk P w K mg base CX j f fd ps sp) (h : j ≤ k) :
    FnOk P w K mg base CX k f fd ps sp := ⟨F.len, fun A outer s H args us vs Q E hr => F.run A outer s H args us vs Q E (hr.mono h)⟩
theorem Env0.make {P : Program} {w : World} {K : Frag} {mg : Str → Option Value} {base : Heap} {A : Around} {outer : List Env} {s : Shared} {H : Hp} (e : Env0 P w K mg base A outer s H) (C : Addr) (us : List Value) (kw : List (Str × Value)) :
    Env0 P w K mg base (A.under (.builtin "type.__call__" ⟨.ref C :: us, kw⟩)) outer s H := ⟨by first | exact e.frames | (simpa [Around.under, Code.envs, Code.isFrame, pushEnvs] using e.frames), e.mod, e.bs, e.bsz, e.funs, e.frf, e.hok, e.bare⟩
section
variable {X : Cx} {pins : List (Addr × Obj)} {σ : St} {H : Hp} {s s' : Shared}
theorem Inv.env0 (I : Inv X pins σ H s) : Env0 X.prog X.w X.K X.mg X.base X.A X.stack s H :=
  ⟨I.ok.frames, I.ok.mod, I.bs, Nat.le_trans I.ok.bsz I.sz, I.stack, I.stkFree, I.hok, I.bare⟩
theorem Inv.after {Q : VK} {u : Value} (I : Inv X pins σ H s) (h : CE X.stack X.prog X.w H s Q u s') : EP X pins σ Q u s' := by
  obtain ⟨v, H', os, bare, un, hok, r, q⟩ := h
  obtain ⟨hh, g, d, t, os'⟩ := s'
  obtain rfl : os' = s.os := os
  exact ⟨v, H', I.call (h' := hh) (g' := g) (d' := d) (t' := t) (ch := []) un hok bare (fun b z => absurd z (by simp)), r, q⟩
end
def tCall (sp : Sp) (dvs : List V) (E : XK) (t : TA) : TE := fun σ H Q => t σ H fun vs H1 => sp (vs ++ dvs) H1 Q E
def tMeth (C : Addr) (m : Str) (sp : Sp) (dvs : List V) (E : XK) (ta : TE) (t : TA) : TE := fun σ H Q => ta σ H fun x H1 => ∃ a dx fs, x = .ref a ∧ H1 a = some (.ins C dx fs) ∧ fs.lookup m = none ∧
  t σ H1 fun vs H2 => sp (x :: (vs ++ dvs)) H2 Q E
def tMake (C : Addr) (sp : Sp) (dvs : List V) (E : XK) (t : TA) : TE := fun σ H Q => t σ H fun vs H1 => ∀ x dx, H1 x = none → H1 dx = none → dx ≠ x →
  sp (.ref x :: (vs ++ dvs)) (upd (upd H1 dx (.own x)) x (.ins C dx [])) (fun v H2 => v = .non ∧ Q (.ref x) H2) E
def Binds (K : Frag) (fd : FuncData) (ps : List Str) (ds : List Value) : Prop :=
  ∀ (s : Shared) (us : List Value), K.In s.heap → (us ++ ds).length = ps.length → BindsTo s fd ⟨us, []⟩ (ps.zip (us ++ ds))
theorem Binds.all {K : Frag} {fd : FuncData} {ps : List Str} (h : ∀ us : List Value, us.length = ps.length → bindArgs fd ⟨us, []⟩ = pure (ps.zip us)) : Binds K fd ps [] := fun s us _ hl => by
  rw [List.append_nil] at hl ⊢
  exact .of_eq (h us hl)
def Passes (CX : CXT) (X : Cx) (E : XK) : Prop := ∀ (pins : List (Addr × Obj)) (σ : St) (H : Hp) (s : Shared) (e : Value) (s' : Shared), Inv X pins σ H s → CX X.stack H s E e s' → X.xe e s'
section
variable {X : Cx} {CX : CXT} {k : Nat} {f C : Addr} {fd : FuncData} {ps : List Str} {sp : Sp} {dvs : List V} {ds : List Value} {E : XK} {x m : Str} {p pos apos : Pos} {e o : Expr} {es : List Expr} {ta : TE} {t : TA}
theorem run_fn {pins : List (Addr × Obj)} {σ : St} {H : Hp} {s : Shared} {Q : VK} {us : List Value} {vs : List V} (F : FnOk X.prog X.w X.K X.mg X.base CX k f fd ps sp) (hr : Room k X.A) (hb : Binds X.K fd ps ds) (hd : Vals dvs ds) (hx : Passes CX X E)
    (I : Inv X pins σ H s) (r : Vals vs us) (h : sp (vs ++ dvs) H Q E) : wpAny (model X.prog X.w) X.A (call (.ref f) us) (EP X pins σ Q) X.xe s := by
  have r2 : Vals (vs ++ dvs) (us ++ ds) := r.append hd
  have hl : (us ++ ds).length = ps.length := by rw [← r2.length]; exact F.len _ _ _ _ h
  refine wpAny_call (codeAny_mono (F.run X.A X.stack s H ⟨us, []⟩ (us ++ ds) (vs ++ dvs) Q E hr I.env0 (hb s us I.kIn hl) r2 h) fun r s' hq => ?_)
  cases r with
  | error e => exact hx pins σ H s e s' I hq
  | ok fl =>
    cases fl with
    | ret u => exact I.after hq
    | next => exact False.elim hq
    | brk => exact False.elim hq
    | cont => exact False.elim hq
theorem pe_call (F : FnOk X.prog X.w X.K X.mg X.base CX k f fd ps sp) (hr : Room k X.A) (hg : Gl X x) (hm : X.mg x = some (.ref f)) (hk : keepIn X.K (.ref f) = true) (hb : Binds X.K fd ps ds) (hd : Vals dvs ds) (hx : Passes CX X E)
    (ha : PA X (e :: es) t) (hdb : (x == ("__debug__" : Str)) = false := by decide) (he : starEach (e :: es) X.env = (false, eval e X.env) :: starEach es X.env := by rfl) (hpl : (backTo pos (starEach es X.env)).any (·.1) = false := by rfl) :
    PE X (.Call (.Name x p) (e :: es) [] pos) (tCall sp dvs E t) := by
  intro pins s σ H Q I h
  refine wpAny_Call_Name_kw (ld_glob I hg hm ?_ hdb)
  refine PySem.W.callWith_K (h₀ := X.base) I.ok.mod.kin hk (thn (ha pos pins s σ H _ I h) fun us s1 ⟨vs, H1, I1, r, q⟩ => ⟨I1.kIn, ?_⟩) he hpl
  exact run_fn F hr hb hd hx I1 r q
theorem pe_meth {pl : Sem Bool} (he : PE X o ta) (c : Cls X.K C) (hm : Meth X.K C m f) (F : FnOk X.prog X.w X.K X.mg X.base CX k f fd ps sp) (hr : Room k X.A) (hb : Binds X.K fd ps ds) (hd : Vals dvs ds) (hx : Passes CX X E) (ha : PA X (e :: es) t)
    (hst : starEach (e :: es) X.env = (false, eval e X.env) :: starEach es X.env := by rfl) (hpl : (backTo pos (starEach es X.env)).any (·.1) = false := by rfl)
    (ht : eval (.Call (.Attribute o m apos) (e :: es) [] pos) X.env = (do
      let ov ← eval o X.env
      standAt apos.atName
      let (f, first) ← holding [ov] (getMethod ov m pl)
      callWith pos f first (backTo pos (starEach (e :: es) X.env)) (backToKw pos (keywordEach [] X.env))) := by rfl) :
    PE X (.Call (.Attribute o m apos) (e :: es) [] pos) (tMeth C m sp dvs E ta t) := by
  intro pins s σ H Q I h
  refine PySem.W.methodCall_KW (pl := pl) (thn (he pins s σ H _ I h) fun u s1 ⟨x, H1, I1, rx, a, dx, fs, ex, ea, l, q⟩ => ?_) ht
  subst ex
  obtain rfl : u = Value.ref a := rx
  refine getmeth_ok I1 ea c hm l ?_
  refine PySem.W.callWith_K (first := [.ref a]) (h₀ := X.base) I.ok.mod.kin hm.kp (thn (ha pos pins s1 σ H1 _ I1 q) fun us s2 ⟨vs, H2, I2, r, q2⟩ => ⟨I2.kIn, ?_⟩) hst hpl
  exact run_fn (us := .ref a :: us) (vs := .ref a :: vs) F hr hb hd hx I2 (.cons rfl r) q2
theorem pe_meth0 {pl : Sem Bool} (he : PE X o ta) (c : Cls X.K C) (hm : Meth X.K C m f) (F : FnOk X.prog X.w X.K X.mg X.base CX k f fd ps sp) (hr : Room k X.A) (hb : Binds X.K fd ps ds) (hd : Vals dvs ds) (hx : Passes CX X E)
    (ht : eval (.Call (.Attribute o m apos) [] [] pos) X.env = (do
      let ov ← eval o X.env
      standAt apos.atName
      let (f, first) ← holding [ov] (getMethod ov m pl)
      callWith pos f first (backTo pos (starEach [] X.env)) (backToKw pos (keywordEach [] X.env))) := by rfl) :
    PE X (.Call (.Attribute o m apos) [] [] pos) (tMeth C m sp dvs E ta tNil) := by
  intro pins s σ H Q I h
  refine PySem.W.methodCall_KW (pl := pl) (thn (he pins s σ H _ I h) fun u s1 ⟨x, H1, I1, rx, a, dx, fs, ex, ea, l, q⟩ => ?_) ht
  subst ex
  obtain rfl : u = Value.ref a := rx
  refine getmeth_ok I1 ea c hm l ?_
  exact PySem.W.callWith_K0 (first := [.ref a]) I1.kIn hm.kp (run_fn (us := [.ref a]) (vs := [.ref a]) F hr hb hd hx I1 (.cons rfl .nil) q)
structure Mk (K : Frag) (C f : Addr) : Prop where
  makes : PySem.W.makesIn K C = true
  init : findIn K (.ref C) "__init__" = some (some (.ref f))
  fn : PySem.W.isFn K (.ref f) = true
  kp : keepIn K (.ref C) = true
theorem run_make {pins : List (Addr × Obj)} {σ : St} {H : Hp} {s : Shared} {Q : VK} {us : List Value} {vs : List V} (M : Mk X.K C f) (F : FnOk X.prog X.w X.K X.mg X.base CX k f fd ps sp) (hr : Room (k + 1) X.A) (hb : Binds X.K fd ps ds) (hd : Vals dvs ds)
    (hx : Passes CX X E) (I : Inv X pins σ H s) (r : Vals vs us)
    (h : ∀ x dx, H x = none → H dx = none → dx ≠ x → sp (.ref x :: (vs ++ dvs)) (upd (upd H dx (.own x)) x (.ins C dx [])) (fun v H2 => v = .non ∧ Q (.ref x) H2) E) :
    wpAny (model X.prog X.w) X.A (call (.ref C) us) (EP X pins σ Q) X.xe s := by
  have hq := h (s.heap.objs.size + 1) s.heap.objs.size (I.hok.fresh (Nat.le_succ _)) (I.hok.fresh (Nat.le_refl _)) (Nat.ne_of_lt (Nat.lt_succ_self _))
  have I2 := Inv.made (C := C) I
  have r2 : Vals (V.ref (s.heap.objs.size + 1) :: (vs ++ dvs)) (Value.ref (s.heap.objs.size + 1) :: (us ++ ds)) := .cons rfl (r.append hd)
  have hl : (Value.ref (s.heap.objs.size + 1) :: us ++ ds).length = ps.length := by
    have e := r2.length
    rw [F.len _ _ _ _ hq] at e
    exact e.symm
  refine wpAny_call (make_map (f := f) I.kIn M.makes M.init (beq_iff_eq.mp M.fn) (codeAny_mono (F.run _ X.stack _ _ ⟨Value.ref (s.heap.objs.size + 1) :: us, []⟩ (Value.ref (s.heap.objs.size + 1) :: (us ++ ds)) _ _ E (hr.make C us [])
    (I2.env0.make C us []) (hb _ (Value.ref (s.heap.objs.size + 1) :: us) I2.kIn hl) r2 hq) fun r s' hq' => ?_))
  cases r with
  | error e => exact hx pins σ _ _ e s' I2 hq'
  | ok fl =>
    cases fl with
    | ret u =>
      obtain ⟨v, H', I3, rv, ev, q3⟩ := I2.after hq'
      subst ev
      exact ⟨rv, ⟨V.ref (s.heap.objs.size + 1), H', I3, rfl, q3⟩⟩
    | next => exact False.elim hq'
    | brk => exact False.elim hq'
    | cont => exact False.elim hq'
theorem pe_make (M : Mk X.K C f) (F : FnOk X.prog X.w X.K X.mg X.base CX k f fd ps sp) (hr : Room (k + 1) X.A) (hg : Gl X x) (hm : X.mg x = some (.ref C)) (hb : Binds X.K fd ps ds) (hd : Vals dvs ds) (hx : Passes CX X E)
    (ha : PA X (e :: es) t) (hdb : (x == ("__debug__" : Str)) = false := by decide) (he : starEach (e :: es) X.env = (false, eval e X.env) :: starEach es X.env := by rfl) (hpl : (backTo pos (starEach es X.env)).any (·.1) = false := by rfl) :
    PE X (.Call (.Name x p) (e :: es) [] pos) (tMake C sp dvs E t) := by
  intro pins s σ H Q I h
  refine wpAny_Call_Name_kw (ld_glob I hg hm ?_ hdb)
  refine PySem.W.callWith_K (h₀ := X.base) I.ok.mod.kin M.kp (thn (ha pos pins s σ H _ I h) fun us s1 ⟨vs, H1, I1, r, q⟩ => ⟨I1.kIn, ?_⟩) he hpl
  exact run_make M F hr hb hd hx I1 r q
end
section
variable {X : Cx} {CX : CXT} {k : Nat} {f C : Addr} {fd : FuncData} {ps ks : List Str} {sp : Sp} {E : XK} {x m : Str} {p pos apos kpos : Pos} {e o : Expr} {es : List Expr} {kws : List Keyword} {te ta : TE} {t tk : TA} {nm : Option Str}
variable {g : List Value → List Value → List Value} {gV : List V → List V → List V}
end
structure FnScope (N P : List Str) (sc : Scope) : Prop where
  kind : sc.kind = .function
  co : sc.isCoroutine = false
  gen : sc.isGenerator = false
  nd : N.Nodup
  pre : N.take P.length = P
  par : ∀ x ∈ P, sc.names.lookup x = some .local ∨ sc.names.lookup x = some .cell
  nofree : ∀ y ∈ sc.names, y.2 ≠ .free
theorem bindL_out {kindOf : Str → Option NameKind} {x : Str} : ∀ {binds : List (Str × Value)} {m : Str → Option Value}, (∀ v, (x, v) ∉ binds) → bindL kindOf binds m x = m x
  | [], _, _ => rfl
  | (n, v) :: r, m, h => by
    unfold bindL
    rw [bindL_out fun w hw => h w (List.mem_cons_of_mem _ hw)]
    split
    · have : x ≠ n := by rintro rfl; exact h v List.mem_cons_self
      simp [this]
    · rfl
theorem bindC_out {kindOf : Str → Option NameKind} {x : Str} : ∀ {binds : List (Str × Value)} {m : Str → Option Value}, (∀ v, (x, v) ∉ binds) → bindC kindOf binds m x = m x
  | [], _, _ => rfl
  | (n, v) :: r, m, h => by
    unfold bindC
    rw [bindC_out fun w hw => h w (List.mem_cons_of_mem _ hw)]
    split
    · rfl
    · have : x ≠ n := by rintro rfl; exact h v List.mem_cons_self
      simp [this]
theorem bindL_get {kindOf : Str → Option NameKind} {x : Str} {v : Value} : ∀ {P : List Str} {vs : List Value} {i : Nat} {m : Str → Option Value}, P.Nodup → P[i]? = some x → vs[i]? = some v → kindOf x = some .local →
    bindL kindOf (P.zip vs) m x = some v
  | [], _, _, _, _, h, _, _ => by simp at h
  | _ :: _, [], _, _, _, _, h, _ => by simp at h
  | p :: P, w :: vs, 0, m, nd, h1, h2, hk => by
    simp at h1 h2; subst h1; subst h2
    show bindL kindOf ((p, w) :: P.zip vs) m p = _
    unfold bindL
    rw [bindL_out fun v hv => (List.nodup_cons.mp nd).1 (List.of_mem_zip hv).1, if_pos hk]
    simp
  | p :: P, w :: vs, i + 1, m, nd, h1, h2, hk => by
    show bindL kindOf ((p, w) :: P.zip vs) m x = _
    unfold bindL
    exact bindL_get (i := i) (List.nodup_cons.mp nd).2 (by simpa using h1) (by simpa using h2) hk
theorem bindC_get {kindOf : Str → Option NameKind} {x : Str} {v : Value} : ∀ {P : List Str} {vs : List Value} {i : Nat} {m : Str → Option Value}, P.Nodup → P[i]? = some x → vs[i]? = some v → kindOf x ≠ some .local →
    bindC kindOf (P.zip vs) m x = some v
  | [], _, _, _, _, h, _, _ => by simp at h
  | _ :: _, [], _, _, _, _, h, _ => by simp at h
  | p :: P, w :: vs, 0, m, nd, h1, h2, hk => by
    simp at h1 h2; subst h1; subst h2
    show bindC kindOf ((p, w) :: P.zip vs) m p = _
    unfold bindC
    rw [bindC_out fun v hv => (List.nodup_cons.mp nd).1 (List.of_mem_zip hv).1, if_neg hk]
    simp
  | p :: P, w :: vs, i + 1, m, nd, h1, h2, hk => by
    show bindC kindOf ((p, w) :: P.zip vs) m x = _
    unfold bindC
    exact bindC_get (i := i) (List.nodup_cons.mp nd).2 (by simpa using h1) (by simpa using h2) hk
def start (N : List Str) (vs : List V) : St := vs.map some ++ List.replicate (N.length - vs.length) none
def cxOf (CX : CXT) (P : Program) (w : World) (K : Frag) (mg : Str → Option Value) (base : Heap) (N : List Str) (qual : Str) (scope : Scope) (f : Addr) (cd : Value) (A : Around) (outer : List Env) (s : Shared) (H : Hp) (E : XK) : Cx where
  prog := P
  w := w
  K := K
  mg := mg
  base := base
  A := A.deeper (envOfC qual scope s.heap.objs.size f cd)
  N := N
  s₀ := s
  H₀ := H
  env := envOfC qual scope s.heap.objs.size f cd
  outer := outer
  stack := envOfC qual scope s.heap.objs.size f cd :: outer
  ex := []
  calm := true
  fn := fun _ => true
  pn := []
  xe := fun e s' => wpAny (model P w) (A.deeper (envOfC qual scope s.heap.objs.size f cd)) (leaving (envOfC qual scope s.heap.objs.size f cd) e) (fun _ s'' => CX outer H s E e s'') (fun e' s'' => CX outer H s E e' s'') s'
theorem cell_has {sc : Scope} {n : Nat} {x : Str} (h : sc.names.lookup x = some .cell) : ∃ c, (cellsFrom n sc.names []).lookup x = some c := by
  have q := PySem.W.cellsFrom_some sc.names n [] (.inl h)
  exact Option.isSome_iff_exists.mp q
theorem inv_start {CX : CXT} {P : Program} {w : World} {K : Frag} {mg : Str → Option Value} {base : Heap} {N ps : List Str} {qual : Str} {scope : Scope} {f : Addr} {cd : Value} {A : Around} {outer : List Env} {s s1 : Shared} {H : Hp} {E : XK} {us : List Value} {vs : List V}
    (S : FnScope N ps scope) (hd : A.handled = none) (e0 : Env0 P w K mg base A outer s H) (hl : vs.length = ps.length) (r : Vals vs us)
    (x : InCallC s s.heap.objs.size (bindL (envOfC qual scope s.heap.objs.size f cd).kindOf (ps.zip us) fun _ => none) (cellsFrom (s.heap.objs.size + 1) scope.names []) (bindC (envOfC qual scope s.heap.objs.size f cd).kindOf (ps.zip us) fun _ => none) s1) :
    Inv (cxOf CX P w K mg base N qual scope f cd A outer s H E) [] (start N vs) H s1 := by
  have hpl : ps.length ≤ N.length := by have := congrArg List.length S.pre; rw [List.length_take] at this; omega
  obtain ⟨h1, tk, rfl, hk⟩ := x.done
  have noA : ∀ b : Addr, b ∉ (cxOf CX P w K mg base N qual scope f cd A outer s H E).ex := fun b z => absurd (show b ∈ ([] : List Addr) from z) (by simp)
  refine ⟨⟨e0.mod, S.kind, rfl, rfl, Nat.le_refl _, fun y z c h1 h2 => ?_, fun y hy => ?_, fun y c _ h => ?_, fun _ => hd, Around.frames_deeper e0.frames, .inr ⟨rfl, rfl⟩, fun b z => absurd z (noA b), e0.bs, e0.bsz, fun b _ _ => noA b, fun b z => absurd z (noA b), e0.funs, e0.frf⟩,
    rfl, e0.bare, Un.kept hk, ⟨_, x.toInCall.ns, fun i y v h1 h2 h3 => ?_⟩, fun y c h => ⟨_, x.cell y c h⟩, e0.hok.fresh (Nat.le_refl _), fun y c h => ?_, fun p hp => absurd (show p ∈ ([] : List (Addr × Obj)) from hp) (by simp), e0.hok.kept hk, ?_⟩
  · exact name_of_addr x.apart (PySem.mem_of_lookup h1) (PySem.mem_of_lookup h2)
  · have hy : scope.names.lookup y = some .cell ∨ scope.names.lookup y = some .free := hy
    rcases hy with hy | hy
    · exact cell_has hy
    · exact absurd rfl (S.nofree _ (PySem.mem_of_lookup hy))
  · exact Nat.le_of_lt (x.above y c (PySem.mem_of_lookup h))
  · have hi : i < vs.length := by
      unfold start at h2
      by_cases hi : i < vs.length
      · exact hi
      · rw [List.getElem?_append_right (by simpa using hi)] at h2
        rw [List.getElem?_replicate] at h2
        split at h2 <;> cases h2
    have ha : vs[i]? = some v := by
      unfold start at h2
      rw [List.getElem?_append_left (by simpa using hi), List.getElem?_map] at h2
      cases e : vs[i]? with
      | none => rw [e] at h2; cases h2
      | some a => rw [e] at h2; cases h2; rfl
    obtain ⟨u, hu, rv⟩ := r.get ha
    have hp : ps[i]? = some y := by
      rw [← S.pre, List.getElem?_take_of_lt (by omega)]; exact h1
    have ndP : ps.Nodup := by rw [← S.pre]; exact S.nd.sublist (List.take_sublist _ _)
    refine ⟨u, rv, ?_⟩
    rcases S.par y (List.mem_of_getElem? hp) with k | k
    · exact .inl ⟨k, bindL_get ndP hp hu k⟩
    · obtain ⟨c, e⟩ := cell_has (n := s.heap.objs.size + 1) k
      refine .inr ⟨.inl k, c, e, ?_⟩
      have q := x.cell y c e
      rw [bindC_get ndP hp hu (by show scope.names.lookup y ≠ _; rw [k]; decide)] at q
      exact q
  · exact e0.hok.fresh (Nat.le_of_lt (x.above y c (PySem.mem_of_lookup h)))
  · unfold start
    show _ = N.length
    rw [List.length_append, List.length_map, List.length_replicate]
    omega
theorem fn_of {CX : CXT} {P : Program} {w : World} {K : Frag} {mg : Str → Option Value} {base : Heap} {k : Nat} {f : Addr} {name qual : Str} {params : Arguments} {body : List Stmt} {scope : Scope} {dV kV doc pm cdv ct oc : Value} {an od : Option Addr}
    {osl : Array (Option Value)} {N ps : List Str} {sp : Sp} (lk : K.lookup f = some ⟨oc, od, .func (fnOf name qual params body scope dV kV doc pm an cdv ct), osl⟩) (hcd : PySem.W.codeIn K cdv qual = true) (S : FnScope N ps scope)
    (len : ∀ vs H Q E, sp vs H Q E → vs.length = ps.length)
    (hbody : ∀ (A : Around) (outer : List Env) (s : Shared) (H : Hp) (vs : List V) (Q : VK) (E : XK), Room k (A.deeper (envOfC qual scope s.heap.objs.size f cdv)) → sp vs H Q E →
      ∃ t, PSs (cxOf CX P w K mg base N qual scope f cdv A outer s H E) body t ∧ t { nx := fun _ H' => Q .non H', rt := Q } (start N vs) H) :
    FnOk P w K mg base CX (k + 1) f (fnOf name qual params body scope dV kV doc pm an cdv ct) ps sp := by
  refine ⟨len, fun A outer s H args us vs Q E hr e0 hb r hsp => ?_⟩
  have hl := len _ _ _ _ hsp
  have KX : K.In s.heap := e0.mod.kin.keeps fun b o e => (e0.bs b o e).1
  have lim : s.heap.NoLimit := e0.mod.nolimit.keeps fun b o e => (e0.bs b o e).1
  have hkind : ∀ y ∈ ps.zip us, scope.names.lookup y.1 = some .local ∨ (scope.names.lookup y.1 = some .cell ∧ ((cellsFrom (s.heap.objs.size + 1) scope.names []).lookup y.1).isSome = true) := fun ⟨n, v⟩ hy => by
    rcases S.par n (List.of_mem_zip hy).1 with q | q
    · exact .inl q
    · exact .inr ⟨q, PySem.W.cellsFrom_some _ _ _ (.inl q)⟩
  refine codeAny_call_function hr.depth (KX _ _ lk) rfl S.co S.gen rfl (PySem.W.codeRec_of KX hcd) (hb _ _ _ _ ?_)
  refine wpAny_newFunctionEnv_cells S.kind hkind fun env he s1 x => ?_
  subst he
  refine ⟨lim.keeps x.toInCall.keep, codeAny_func ?_⟩
  obtain ⟨t, ht, hq⟩ := hbody A outer s H vs Q E (hr.deeper _) hsp
  have I : Inv (cxOf CX P w K mg base N qual scope f cdv A outer s H E) [] (start N vs) H s1 := inv_start S hr.hd e0 hl r x
  refine wpAny_mono (ht [] s1 (start N vs) H _ I hq) (fun fl s' hs => ?_) fun e s' hs => hs
  have fin : ∀ {σ' : St} {H' : Hp} {v : V} {u : Value}, Inv (cxOf CX P w K mg base N qual scope f cdv A outer s H E) [] σ' H' s' → RelV v u → Q v H' → CE outer P w H s Q u s' :=
    fun {σ' H' v u} J rv q => ⟨v, H', J.os, J.bare, J.base, J.hok, rv, q⟩
  cases fl with
  | ret u =>
    obtain ⟨v, σ', H', J, rv, q⟩ := hs
    exact fin J rv q
  | next =>
    obtain ⟨σ', H', J, q⟩ := hs
    exact fin (v := V.non) (u := Value.none) J rfl q
  | brk =>
    obtain ⟨_, _, _, q⟩ := hs
    exact False.elim q
  | cont =>
    obtain ⟨_, _, _, q⟩ := hs
    exact False.elim q
end L2
namespace L2
open PySem PySem.Spec PyProof.Rows
section
variable {X : Cx} {x : Str} {p pos : Pos} {e : Expr} {es : List Expr} {t : TA} {id T : String} {r : List V → Hp → VK → Prop}
def tCB (r : List V → Hp → VK → Prop) (t : TA) : TE := fun σ H Q => t σ H fun vs H1 => r vs H1 Q
theorem pe_callB (hc : CallR X (.builtin id) r) (hg : Gl X x) (hm : X.mg x = none) (hv : bootBuiltins x = some (.builtin id)) (ha : PA X (e :: es) t) (hn : x ≠ "__name__" := by decide) (hdb : (x == ("__debug__" : Str)) = false := by decide)
    (he : starEach (e :: es) X.env = (false, eval e X.env) :: starEach es X.env := by rfl) (hpl : (backTo pos (starEach es X.env)).any (·.1) = false := by rfl) : PE X (.Call (.Name x p) (e :: es) [] pos) (tCB r t) := by
  intro pins s σ H Q I h
  refine wpAny_Call_Name_kw (ld_blt I hg hm hv ?_ hn hdb)
  exact PyProof.Rows.callWith_builtin1 (thn (ha pos pins s σ H _ I h) fun us s1 ⟨vs, H1, I1, r1, q1⟩ => hc pins s1 σ H1 vs us Q I1 r1 q1) he hpl
theorem pe_callTy (hc : CallR X (.type T) r) (hg : Gl X x) (hm : X.mg x = none) (hv : bootBuiltins x = some (.type T)) (ha : PA X (e :: es) t) (hn : x ≠ "__name__" := by decide) (hdb : (x == ("__debug__" : Str)) = false := by decide)
    (he : starEach (e :: es) X.env = (false, eval e X.env) :: starEach es X.env := by rfl) (hpl : (backTo pos (starEach es X.env)).any (·.1) = false := by rfl) : PE X (.Call (.Name x p) (e :: es) [] pos) (tCB r t) := by
  intro pins s σ H Q I h
  refine wpAny_Call_Name_kw (ld_blt I hg hm hv ?_ hn hdb)
  exact PyProof.Rows.callWith_type1 (thn (ha pos pins s σ H _ I h) fun us s1 ⟨vs, H1, I1, r1, q1⟩ => hc pins s1 σ H1 vs us Q I1 r1 q1) he hpl
end
end L2
namespace HT
open PySem PyProof.Rows
section
open PySem.SeqAt
open PySem.AutoSeq1 (wpAny_loadPart')
open PySem.MeetsSeq PySem.MeetsSeq2 PySem.MeetsSeq3
end
section
variable {prog : Program} {w : World} {A : Around} {E : Value → Shared → Prop} {s : Shared}
theorem cat_tup {t b : Addr} {vs ws : List Value} {Q : Value → Shared → Prop} (ht : IsTup s.heap t vs.toArray) (hb : IsTup s.heap b ws.toArray) (hv : vs ≠ [])
    (h1 : ws = [] → Q (.ref t) s) (h2 : ws ≠ [] → Q (.ref s.heap.objs.size) { s with heap := s.heap.push { cls := .type "tuple", data := .seq (vs ++ ws).toArray } })
    (hsz : vs.length + ws.length ≤ sizeLine) : wpAny (model prog w) A (binaryOp .Add (.ref t) (.ref b)) Q E s := by
  obtain ⟨⟨cls, dd, data, sl⟩, ho, hc, n, hd⟩ := id ht
  obtain ⟨⟨cls2, dd2, data2, sl2⟩, ho2, hc2, n2, hd2⟩ := id hb
  simp only at hc hd hc2 hd2
  subst hc hd hc2 hd2
  have e : vs.toArray ++ ws.toArray = (vs ++ ws).toArray := by simp
  by_cases hw : ws = []
  · exact concat_meets ⟨_, ho, rfl⟩ ⟨_, ho2, rfl⟩ noFill_tuple_add seq_tuple_add PySem.F.slot_tuple_add PySem.F.entry_tuple_add (PySem.F.args_tuple_add_2 _ _)
      (tuple_addW1 t b vs.toArray ws.toArray n n2 dd dd2 sl sl2 (by simpa using hv) (by simp [hw])) ⟨ho, ho2, h1 hw⟩
  · refine concat_meets ⟨_, ho, rfl⟩ ⟨_, ho2, rfl⟩ noFill_tuple_add seq_tuple_add PySem.F.slot_tuple_add PySem.F.entry_tuple_add (PySem.F.args_tuple_add_2 _ _)
      (tuple_addW2 t b vs.toArray ws.toArray n n2 dd dd2 sl sl2 (by simpa using hv) (by simpa using hw) (by rw [List.size_toArray, List.size_toArray]; exact hsz)) ⟨ho, ho2, ?_⟩
    rw [e]
    exact h2 hw
def sIx (n d : Nat) : Option Int → Nat
  | none => d
  | some v => if v < 0 then (v + (n : Int)).toNat else min v.toNat n
theorem sIx_none (n d : Nat) : sIx n d none = d := rfl
theorem sIx_nat (n d k : Nat) : sIx n d (some (k : Int)) = min k n := by
  show (if (k : Int) < 0 then ((k : Int) + (n : Int)).toNat else min (k : Int).toNat n) = min k n
  rw [if_neg (by omega), Int.toNat_natCast]
theorem sIx_le (n d : Nat) (hd : d ≤ n) (o : Option Int) : sIx n d o ≤ n := by
  cases o with
  | none => exact hd
  | some v =>
    show (if v < 0 then (v + (n : Int)).toNat else min v.toNat n) ≤ n
    by_cases hv : v < 0
    · rw [if_pos hv]; omega
    · rw [if_neg hv]; exact Nat.min_le_right _ _
theorem clip_eq (v : Int) (n d : Nat) : (if v < 0 then max (v + (n : Int)) 0 else min v (n : Int)) = ((sIx n d (some v) : Nat) : Int) := by
  show (if v < 0 then max (v + (n : Int)) 0 else min v (n : Int)) = (((if v < 0 then (v + (n : Int)).toNat else min v.toNat n) : Nat) : Int)
  by_cases hv : v < 0
  · simp only [if_pos hv]; omega
  · simp only [if_neg hv]; omega
theorem adjust_gen (lo hi : Option Int) (n : Nat) : Builtin.Slice.sliceAdjust lo hi 1 (n : Int) = (((sIx n 0 lo : Nat) : Int), ((sIx n n hi : Nat) : Int)) := by
  have h1 : ¬ ((1 : Int) < 0) := by omega
  unfold Builtin.Slice.sliceAdjust
  simp only [h1, if_false]
  refine Prod.ext ?_ ?_
  · cases lo with
    | none => rfl
    | some v => exact clip_eq v n 0
  · cases hi with
    | none => rfl
    | some v => exact clip_eq v n n
theorem places_gen (i j : Nat) : Builtin.Slice.slicePlaces (i : Int) (j : Int) 1 = j - i := by
  unfold Builtin.Slice.slicePlaces
  have h1 : (1 : Int) > 0 := by omega
  simp only [h1, if_true, Int.ediv_one]
  split <;> omega
theorem slicePart_ {v : Value} {o : Option Int} {Q : Option Int → Shared → Prop} (p : IsPart v o) (h : Q o s) : wpAny (model prog w) A (Builtin.Slice.slicePartIndex v) Q E s := by
  cases p with
  | none => exact slicePart_none h
  | int i t => exact slicePart_int h
theorem sliceApplied_gen {sl : Addr} {vl vu : Value} {lo hi : Option Int} {n : Nat} {Q : Int × Int × Nat → Shared → Prop} (hs : s.heap.IsSliceOf sl vl vu .none) (pl : IsPart vl lo) (pu : IsPart vu hi)
    (h : Q (((sIx n 0 lo : Nat) : Int), 1, sIx n n hi - sIx n 0 lo) s) : wpAny (model prog w) A (Builtin.Slice.sliceApplied (.ref sl) (pure (n : Int))) Q E s := by
  obtain ⟨os, hos, hcs, hds⟩ := id hs
  unfold Builtin.Slice.sliceApplied Builtin.Slice.sliceFields
  refine wpAny_bind (wpAny_bind (wpAny_field hos hds (x := vl) rfl (wpAny_bind (wpAny_field hos hds (x := vu) rfl (wpAny_bind (wpAny_field hos hds (x := .none) rfl (wpAny_pure ?_)))))))
  refine wpAny_bind (slicePart_none ?_)
  show wpAny _ _ (if ((1 : Int) == 0) = true then _ else _) _ _ s
  rw [if_neg (by decide)]
  refine wpAny_bind (slicePart_ pl (wpAny_bind (slicePart_ pu (wpAny_bind (wpAny_pure ?_)))))
  show wpAny _ _ (match Builtin.Slice.sliceAdjust lo hi 1 (n : Int) with | (lo, hi) => pure (lo, (1 : Int), Builtin.Slice.slicePlaces lo hi 1)) _ _ s
  rw [adjust_gen lo hi n]
  show wpAny _ _ (pure (((sIx n 0 lo : Nat) : Int), (1 : Int), Builtin.Slice.slicePlaces ((sIx n 0 lo : Nat) : Int) ((sIx n n hi : Nat) : Int) 1)) _ _ s
  rw [places_gen]
  exact wpAny_pure h
theorem pick_gen (xs : Array Value) (i k : Nat) : ((List.range k).filterMap fun (m : Nat) => xs[((i : Int) + (m : Int) * 1).toNat]?).toArray = ((xs.toList.drop i).take k).toArray := by
  have e : (fun (m : Nat) => xs[((i : Int) + (m : Int) * 1).toNat]?) = fun m => xs[i + m]? := by
    funext m
    have : ((i : Int) + (m : Int) * 1).toNat = i + m := by omega
    rw [this]
  rw [e]
  have := pick_run xs i k
  rw [List.filterMap_map] at this
  have e2 : ((fun x => xs[x]?) ∘ fun x => i + x) = fun m => xs[i + m]? := rfl
  rw [e2] at this
  rw [this]
theorem getItem_tuple_cut {t sl : Addr} {items : Array Value} {vl vu : Value} {lo hi : Option Int} {Q : Value → Shared → Prop} (ht : IsTup s.heap t items) (hs : s.heap.IsSliceOf sl vl vu .none) (pl : IsPart vl lo) (pu : IsPart vu hi)
    (hw : ¬ (sIx items.size 0 lo = 0 ∧ sIx items.size items.size hi = items.size))
    (h : Q (.ref s.heap.objs.size) { s with heap := s.heap.push { cls := .type "tuple", data := .seq ((items.toList.drop (sIx items.size 0 lo)).take (sIx items.size items.size hi - sIx items.size 0 lo)).toArray } })
    (hsz : items.size ≤ sizeLine) : wpAny (model prog w) A (getItem (.ref t) (.ref sl)) Q E s := by
  have htake : sizeOk (.seq ((items.toList.drop (sIx items.size 0 lo)).take (sIx items.size items.size hi - sIx items.size 0 lo)).toArray) := by
    show ((items.toList.drop (sIx items.size 0 lo)).take (sIx items.size items.size hi - sIx items.size 0 lo)).toArray.size ≤ sizeLine
    rw [List.size_toArray, List.length_take, List.length_drop, Array.length_toList]
    omega
  have hj : sIx items.size items.size hi ≤ items.size := sIx_le _ _ (Nat.le_refl _) hi
  obtain ⟨os, hos, hcs, hds⟩ := id hs
  have hTs : s.TypeIs (.ref sl) "slice" := ⟨os, hos, hcs⟩
  unfold getItem
  try with_reducible refine wpAny_holding ?_
  first | refine wpAny_bind (wpAny_pure ?_) | skip
  refine wpAny_bind (wpAny_sequenceKey ht.typeIs (by decide) ?_)
  refine wpAny_bind (wpAny_callSpecial?_slot (name := Str.ofString "__getitem__") ht.typeIs PyProof.Rows.slot_tuple_getitem
    (wpAny_call_entry PyProof.Rows.slot_tuple_getitem ht.typeIs entry_tuple_getitem ?_ (args_tuple_getitem _ _)))
  show wpAny _ _ (Builtin.Tuple.tupleItemsOf (.ref t) >>= _) _ _ s
  refine wpAny_bind (tupleItemsOf_ ht ?_)
  refine wpAny_bind (wpAny_typeOf hTs ?_)
  rw [if_pos (by decide)]
  refine wpAny_bind (sliceApplied_gen hs pl pu ?_)
  have hno : ¬ ((((sIx items.size 0 lo : Nat) : Int) == 0 && (1 : Int) == 1 && (sIx items.size items.size hi - sIx items.size 0 lo) == items.size) = true) := by
    intro q
    rw [Bool.and_eq_true, Bool.and_eq_true] at q
    have q1 : ((sIx items.size 0 lo : Nat) : Int) = 0 := eq_of_beq q.1.1
    have q2 : sIx items.size items.size hi - sIx items.size 0 lo = items.size := eq_of_beq q.2
    exact hw ⟨by omega, by omega⟩
  show wpAny _ _ (if (((sIx items.size 0 lo : Nat) : Int) == 0 && (1 : Int) == 1 && (sIx items.size items.size hi - sIx items.size 0 lo) == items.size) = true then _ else _) _ _ s
  rw [if_neg hno, pick_gen]
  first
    | exact wpAny_bind (m := Builtin.Tuple.tupleExact _) (wpAny_newObj_type (wpAny_pure ⟨_, rfl, wpAny_pure h⟩) htake)
    | exact wpAny_bind (m := Builtin.Tuple.tupleExact _) (wpAny_newObj_type (wpAny_bind (wpAny_pure (wpAny_pure ⟨_, rfl, wpAny_pure h⟩))) htake)
    | exact wpAny_bind (wpAny_bind (m := Builtin.Tuple.tupleExact _) (wpAny_newObj_type (wpAny_pure (wpAny_pure ⟨_, rfl, wpAny_pure h⟩)) htake))
    | exact wpAny_bind (wpAny_bind (m := Builtin.Tuple.tupleExact _) (wpAny_newObj_type (wpAny_pure ⟨_, rfl, wpAny_pure h⟩) htake))
end
end HT
namespace L2
open PySem PySem.Spec PyProof.Rows
abbrev TO := St → Hp → (Option Int → Hp → Prop) → Prop
def PO (X : Cx) (e : Option Expr) (t : TO) : Prop :=
  ∀ (pins : List (Addr × Obj)) (s : Shared) (σ : St) (H : Hp) (Q : Option Int → Hp → Prop), Inv X pins σ H s → t σ H Q →
    wpAny (model X.prog X.w) X.A (evalPart e X.env) (fun u s' => ∃ o H', Inv X pins σ H' s' ∧ IsPart u o ∧ Q o H') X.xe s
def tNoPart : TO := fun _ H Q => Q none H
def tPart (t : TE) : TO := fun σ H Q => t σ H fun x H1 => ∃ i, x = .int i ∧ Q (some i) H1
theorem intsAre_of {ns : List Int} : ∀ {us : List Value}, Vals (ns.map V.int) us → IntsAre us ns := by
  induction ns with
  | nil => intro us r; rw [List.map_nil] at r; cases r; exact .nil
  | cons n ns ih =>
    intro us r
    rw [List.map_cons] at r
    cases r with
    | cons r1 r2 =>
      obtain ⟨t, e⟩ := r1
      subst e
      exact .cons n t (ih r2)
section
variable {X : Cx} {e : Expr} {te : TE} {lo hi : Option Expr} {tl th : TO} {pos p2 : Pos}
theorem po_none : PO X none tNoPart := by
  intro pins s σ H Q I h
  rw [evalPart_none]
  exact wpAny_pure ⟨none, H, I, .none, h⟩
theorem po_some (h : PE X e te) : PO X (some e) (tPart te) := by
  intro pins s σ H Q I hw
  rw [evalPart_some]
  refine thn (h pins s σ H _ I hw) fun u s1 ⟨x, H1, I1, r1, q1⟩ => ?_
  obtain ⟨i, rfl, q⟩ := q1
  obtain ⟨t, rfl⟩ := r1
  exact ⟨some i, H1, I1, .int i t, q⟩
def SlR (X : Cx) (r : V → Option Int → Option Int → Hp → VK → Prop) : Prop :=
  ∀ (pins : List (Addr × Obj)) (s : Shared) (σ : St) (H : Hp) (x : V) (v vl vu : Value) (lo hi : Option Int) (sl : Addr) (Q : VK), Inv X pins σ H s → RelV x v → s.heap.IsSliceOf sl vl vu .none → IsPart vl lo → IsPart vu hi → r x lo hi H Q →
    ∃ T id, typeLookup (.type T) "__getitem__" = pure (some (.builtin id)) ∧ s.TypeIs v T ∧ wpAny (model X.prog X.w) X.A (getItem v (.ref sl)) (EP X pins σ Q) X.xe s
def tSl (r : V → Option Int → Option Int → Hp → VK → Prop) (te : TE) (tl th : TO) : TE := fun σ H Q => te σ H fun x H1 => tl σ H1 fun l H2 => th σ H2 fun u H3 => r x l u H3 Q
theorem pe_slice {r : V → Option Int → Option Int → Hp → VK → Prop} (hr : SlR X r) (he : PE X e te) (hl : PO X lo tl) (hu : PO X hi th) : PE X (.Subscript e (.Slice lo hi none p2) pos) (tSl r te tl th) := by
  intro pins s σ H Q I h
  refine Subscript_ (thn (he pins s σ H _ I h) fun v s1 ⟨x, H1, I1, r1, q1⟩ => ?_)
  refine wpAny_Slice (thn (hl pins s1 σ H1 _ I1 q1) fun vl s2 ⟨l, H2, I2, pl, q2⟩ => thn (hu pins s2 σ H2 _ I2 q2) fun vu s3 ⟨u, H3, I3, pu, q3⟩ => ?_)
  rw [evalPart_none]
  refine wpAny_pure ?_
  have I4 : Inv X pins σ H3 { s3 with heap := s3.heap.push { cls := .type "slice", data := .fields #[vl, vu, .none] } } := I3.kept (t' := s3.toks) fun b ob q => Heap.get?_push_of_some _ q
  obtain ⟨T, id, hT, ht, hg⟩ := hr pins { s3 with heap := s3.heap.push { cls := .type "slice", data := .fields #[vl, vu, .none] } } σ H3 x v vl vu l u s3.heap.objs.size Q I4 r1 (Heap.IsSliceOf.new ..) pl pu q3
  show wpAny (model X.prog X.w) X.A (subscriptTail e (.Slice lo hi none p2) v (.ref s3.heap.objs.size)) (EP X pins σ Q) X.xe { s3 with heap := s3.heap.push { cls := .type "slice", data := .fields #[vl, vu, .none] } }
  exact tail_any (ops := [.ref s3.heap.objs.size, v]) ht hT hg (by with_unfolding_all rfl)
def cutV (xs : List V) (lo hi : Option Int) : List V := (xs.drop (HT.sIx xs.length 0 lo)).take (HT.sIx xs.length xs.length hi - HT.sIx xs.length 0 lo)
theorem cutV_length (xs : List V) (lo hi : Option Int) : (cutV xs lo hi).length ≤ xs.length := by
  unfold cutV
  rw [List.length_take, List.length_drop]
  omega
def rSlT (K : Frag) : V → Option Int → Option Int → Hp → VK → Prop := fun x lo hi H Q => ∃ a xs, x = .ref a ∧ SqT K H a xs ∧
  ¬ (HT.sIx xs.length 0 lo = 0 ∧ HT.sIx xs.length xs.length hi = xs.length) ∧ ∀ p, H p = none → Q (.ref p) (upd H p (.tup (cutV xs lo hi)))
theorem sl_tup : SlR X (rSlT X.K) := by
  intro pins s σ H x v vl vu lo hi sl Q I rx hs pl pu h
  obtain ⟨a, xs, rfl, hx, hw, q⟩ := h
  cases rx
  obtain ⟨its, r, ht, hz⟩ := I.tuple hx
  have hlen : its.toArray.size = xs.length := by rw [List.size_toArray]; exact r.length.symm
  refine ⟨"tuple", _, PyProof.Rows.slot_tuple_getitem.lookup, ht.typeIs, ?_⟩
  refine HT.getItem_tuple_cut ht hs pl pu (by rw [hlen]; exact hw) ?_ (by rw [hlen]; exact hz)
  rw [hlen]
  refine ⟨.ref s.heap.objs.size, _, I.laid (t' := s.toks) (o := .tup (cutV xs lo hi)) (fun b ob q => Heap.get?_push_of_some _ q) (Nat.le_refl _) ?_, rfl, q _ (I.hok.fresh (Nat.le_refl _))⟩
  exact ⟨Nat.le_trans (cutV_length xs lo hi) hz, _, (r.drop (HT.sIx xs.length 0 lo)).take (HT.sIx xs.length xs.length hi - HT.sIx xs.length 0 lo), IsTup.new _ _⟩
def rCatT (K : Frag) : R2 := fun x y H Q => ∃ a b xs ys, x = .ref a ∧ y = .ref b ∧ SqT K H a xs ∧ SqT K H b ys ∧ xs ≠ [] ∧ xs.length + ys.length ≤ sizeLine ∧
  (ys = [] → Q (.ref a) H) ∧ (ys ≠ [] → ∀ p, H p = none → Q (.ref p) (upd H p (.tup (xs ++ ys))))
theorem Vals.nil_iff {xs : List V} {us : List Value} (r : Vals xs us) : us = [] ↔ xs = [] := by
  cases r with
  | nil => simp
  | cons _ _ => simp
theorem op_catT : OpR X (binaryOp .Add) (rCatT X.K) := by
  intro pins s σ H x y v u Q I rx ry h
  obtain ⟨a, b, xs, ys, rfl, rfl, ha, hb, hx, hz, q1, q2⟩ := h
  cases rx
  cases ry
  obtain ⟨its, r1, p1, _⟩ := I.tuple ha
  obtain ⟨its2, r2, p2, _⟩ := I.tuple hb
  refine HT.cat_tup p1 p2 (fun z => hx (r1.nil_iff.mp z)) (fun z => ⟨.ref a, H, I, rfl, q1 (r2.nil_iff.mp z)⟩) (fun z => ?_) (by rw [← r1.length, ← r2.length]; exact hz)
  refine ⟨.ref s.heap.objs.size, _, I.laid (t' := s.toks) (o := .tup (xs ++ ys)) (fun b ob q => Heap.get?_push_of_some _ q) (Nat.le_refl _) ?_, rfl, q2 (fun w => z (r2.nil_iff.mpr w)) _ (I.hok.fresh (Nat.le_refl _))⟩
  exact ⟨by rw [List.length_append]; exact hz, _, r1.append r2, IsTup.new _ _⟩
end
end L2
namespace L2
open PySem PySem.Spec PyProof.Rows
def ixN (n : Nat) (i : Int) : Option Nat := if 0 ≤ i then (if i < n then some i.toNat else none) else if -(n : Int) ≤ i then some (i + n).toNat else none
def atI {α : Type} (xs : List α) (i : Int) : Option α := (ixN xs.length i).bind fun j => xs[j]?
theorem ixN_seq {n : Nat} {i : Int} {j : Nat} (h : ixN n i = some j) : seqIndex? i n = some j ∧ j < n ∧ -(n : Int) ≤ i ∧ i < n := by
  unfold ixN at h
  by_cases h0 : 0 ≤ i
  · rw [if_pos h0] at h
    by_cases h1 : i < n
    · rw [if_pos h1] at h
      have e : i.toNat = j := Option.some.inj h
      exact ⟨by rw [seqIndex_of h0 h1, e], by omega, by omega, h1⟩
    · rw [if_neg h1] at h; cases h
  · rw [if_neg h0] at h
    by_cases h1 : -(n : Int) ≤ i
    · rw [if_pos h1] at h
      have e : (i + n).toNat = j := Option.some.inj h
      exact ⟨by rw [seqIndex_neg (by omega) h1, e], by omega, h1, by omega⟩
    · rw [if_neg h1] at h; cases h
theorem atI_get {α : Type} {xs : List α} {i : Int} {v : α} (h : atI xs i = some v) : ∃ j, seqIndex? i xs.length = some j ∧ xs[j]? = some v ∧ j < xs.length ∧ -(xs.length : Int) ≤ i ∧ i < xs.length := by
  unfold atI at h
  cases e : ixN xs.length i with
  | none => rw [e] at h; cases h
  | some j =>
    rw [e] at h
    obtain ⟨h1, h2, h3, h4⟩ := ixN_seq e
    exact ⟨j, h1, h, h2, h3, h4⟩
theorem atI_nat {α : Type} {xs : List α} {j : Nat} {v : α} (h : xs[j]? = some v) : atI xs (j : Int) = some v := by
  have hj : j < xs.length := (List.getElem?_eq_some_iff.mp h).1
  have e : ixN xs.length (j : Int) = some j := by
    unfold ixN
    rw [if_pos (by omega), if_pos (by omega)]; simp
  unfold atI; rw [e]; exact h
theorem atI_last {α : Type} (xs : List α) (v : α) : atI (xs ++ [v]) (-1) = some v := by
  have hl : (xs ++ [v]).length = xs.length + 1 := by simp
  have e : ixN (xs ++ [v]).length (-1) = some xs.length := by
    unfold ixN
    rw [hl, if_neg (by decide), if_pos (by omega)]
    congr 1
    omega
  unfold atI
  rw [e]
  show (xs ++ [v])[xs.length]? = some v
  simp
def PlainIx (b : Expr) : Prop := ∀ o i, subscripted b false o i = operate [o, i] (getItem o i)
def IxR (X : Cx) (r : R2) : Prop :=
  ∀ (value slice : Expr) (pins : List (Addr × Obj)) (s : Shared) (σ : St) (H : Hp) (x y : V) (v u : Value) (Q : VK), Inv X pins σ H s → RelV x v → RelV y u → r x y H Q →
    subscripted slice false v u = operate [v, u] (getItem v u) → wpAny (model X.prog X.w) X.A (subscriptTail value slice v u) (EP X pins σ Q) X.xe s
def MtR (X : Cx) (id : String) (r : V → List V → Hp → VK → Prop) : Prop :=
  ∀ (pins : List (Addr × Obj)) (s : Shared) (σ : St) (H : Hp) (x : V) (xs : List V) (v : Value) (us : List Value) (Q : VK), Inv X pins σ H s → RelV x v → Vals xs us → r x xs H Q →
    wpAny (model X.prog X.w) X.A (call (.builtin id) (v :: us)) (EP X pins σ Q) X.xe s
section
variable {X : Cx} {a b : Expr} {ta tb : TE} {pos : Pos}
theorem pe_ix {r : R2} (hr : IxR X r) (ha : PE X a ta) (hb : PE X b tb) (hs : PlainIx b) : PE X (.Subscript a b pos) (tOp r ta tb) := by
  intro pins s σ H Q I h
  exact Subscript_ (binT ha hb I h fun v u s2 x y H2 I2 rx ry q => hr a b pins s2 σ H2 x y v u Q I2 rx ry q (hs _ _))
def rIxL (K : Frag) : R2 := fun x y H Q => ∃ p xs i v, x = .ref p ∧ y = .int i ∧ SqL K H p xs ∧ atI xs i = some v ∧ Q v H
def rIxT (K : Frag) : R2 := fun x y H Q => ∃ p xs i v, x = .ref p ∧ y = .int i ∧ SqT K H p xs ∧ atI xs i = some v ∧ Q v H
theorem ix_list : IxR X (rIxL X.K) := by
  intro value slice pins s σ H x y v u Q I rx ry h hs
  obtain ⟨p, xs, i, z, rfl, rfl, hq, he, q⟩ := h
  cases rx
  obtain ⟨t, rfl⟩ := ry
  obtain ⟨its, r, pl, hz⟩ := I.list hq
  obtain ⟨j, h1, h2, h3, h4, h5⟩ := atI_get he
  obtain ⟨w, ew, rw'⟩ := r.get h2
  have hl := r.length
  have hn := line63
  have fin : EP X pins σ Q w s := ⟨z, H, I, rw', q⟩
  by_cases h0 : 0 ≤ i
  · have hj : i.toNat = j := by
      rw [seqIndex_of h0 h5] at h1
      exact Option.some.inj h1
    exact item_listR pl.isList h0 (by omega) (by rw [hj]; simpa using ew) fin hs
  · have hj : (i + (its.toArray.size : Int)).toNat = j := by
      rw [seqIndex_neg (by omega) h4] at h1
      rw [List.size_toArray, ← hl]
      exact Option.some.inj h1
    exact subscriptTail_builtinR (x := w) pl.isList.typeIs slot_list_getitem.lookup
      (wpAny_getItem_list_neg (Q := fun r s' => r = w ∧ EP X pins σ Q r s') pl.isList (by omega) (by rw [List.size_toArray] <;> omega) (by omega) (by rw [hj]; simpa using ew) ⟨rfl, fin⟩) hs
theorem ix_tup : IxR X (rIxT X.K) := by
  intro value slice pins s σ H x y v u Q I rx ry h hs
  obtain ⟨p, xs, i, z, rfl, rfl, hq, he, q⟩ := h
  cases rx
  obtain ⟨t, rfl⟩ := ry
  obtain ⟨its, r, pl, hz⟩ := I.tuple hq
  obtain ⟨j, h1, h2, h3, h4, h5⟩ := atI_get he
  obtain ⟨w, ew, rw'⟩ := r.get h2
  have hl := r.length
  have hn := line63
  have fin : EP X pins σ Q w s := ⟨z, H, I, rw', q⟩
  exact subscriptTail_builtinR (x := w) pl.typeIs slot_tuple_getitem.lookup
    (getItem_tuple (j := j) (Q := fun r s' => r = w ∧ EP X pins σ Q r s') pl (by omega) (by omega) (by rw [List.size_toArray, ← hl]; exact h1) (by simpa using ew) ⟨rfl, fin⟩) hs
theorem slice_bounds (lo hi : Option Int) (n : Nat) : (sliceBounds lo hi none n).1 = ((HT.sIx n 0 lo : Nat) : Int) ∧ (sliceBounds lo hi none n).2.1 = ((HT.sIx n n hi : Nat) : Int) ∧ (sliceBounds lo hi none n).2.2 = 1 := by
  refine ⟨?_, ?_, rfl⟩
  · cases lo with
    | none => simp [sliceBounds, HT.sIx]
    | some i =>
      simp only [sliceBounds, HT.sIx, Option.getD_none, show (1 : Int) > 0 by decide, if_true]
      by_cases h : i < 0
      · simp only [h, if_true] <;> omega
      · simp only [h, if_false] <;> omega
  · cases hi with
    | none => simp [sliceBounds, HT.sIx]
    | some i =>
      simp only [sliceBounds, HT.sIx, Option.getD_none, show (1 : Int) > 0 by decide, if_true]
      by_cases h : i < 0
      · simp only [h, if_true] <;> omega
      · simp only [h, if_false] <;> omega
theorem slicePick_cut (its : List Value) (lo hi : Option Int) : slicePick its.toArray lo hi none = ((its.drop (HT.sIx its.length 0 lo)).take (HT.sIx its.length its.length hi - HT.sIx its.length 0 lo)).toArray := by
  obtain ⟨h1, h2, h3⟩ := slice_bounds lo hi its.toArray.size
  unfold slicePick
  rw [h1, h2, h3]
  simp only [sliceRange_one, pick_run, List.size_toArray] <;> rfl
def rSlL (K : Frag) : V → Option Int → Option Int → Hp → VK → Prop := fun x lo hi H Q => ∃ a xs, x = .ref a ∧ SqL K H a xs ∧ ∀ p, H p = none → Q (.ref p) (upd H p (.lst (cutV xs lo hi)))
theorem sl_list : SlR X (rSlL X.K) := by
  intro pins s σ H x v vl vu lo hi sl Q I rx hs pl pu h
  obtain ⟨a, xs, rfl, hx, q⟩ := h
  cases rx
  obtain ⟨its, r, ht, hz⟩ := I.list hx
  have hlen := r.length
  refine ⟨"list", _, slot_list_getitem.lookup, ht.isList.typeIs, ?_⟩
  refine wpAny_getItem_list_slice ht.isList hs pl pu .none (by simp) ?_ (by rw [List.size_toArray] <;> omega)
  rw [slicePick_cut, ← hlen]
  refine ⟨.ref s.heap.objs.size, _, I.laid (t' := s.toks) (o := .lst (cutV xs lo hi)) (fun b ob q => Heap.get?_push_of_some _ q) (Nat.le_refl _) ?_, rfl, q _ (I.hok.fresh (Nat.le_refl _))⟩
  exact ⟨Nat.le_trans (cutV_length xs lo hi) hz, _, 0, (r.drop (HT.sIx xs.length 0 lo)).take (HT.sIx xs.length xs.length hi - HT.sIx xs.length 0 lo), Heap.get?_push_size _ rfl⟩
theorem call_len_seq : CallR X (.builtin "len") (fun xs H Q => ∃ p ys, xs = [.ref p] ∧ (SqL X.K H p ys ∨ SqT X.K H p ys) ∧ Q (.int ys.length) H) := by
  intro pins s σ H xs us Q I r h
  obtain ⟨p, ys, rfl, hq, q⟩ := h
  obtain ⟨u, rfl, rx⟩ := vals1 r
  cases rx
  have hn := line63
  rcases hq with hq | hq
  · obtain ⟨its, r', pl, hz⟩ := I.list hq
    have hlen := r'.length
    exact Calls.call_len_list pl.isList (by simp only [List.size_toArray] <;> omega) ⟨.int ys.length, H, I.tok _, ⟨s.toks + 1, by rw [List.size_toArray, hlen]⟩, q⟩
  · obtain ⟨its, r', pl, hz⟩ := I.tuple hq
    have hlen := r'.length
    exact len_tuple pl (by simp only [List.size_toArray] <;> omega) ⟨.int ys.length, H, I.tok _, ⟨s.toks + 1, by rw [List.size_toArray, hlen]⟩, q⟩
theorem call_list_of : CallR X (.type "list") (fun xs H Q => ∃ p ys, xs = [.ref p] ∧ (SqL X.K H p ys ∨ SqT X.K H p ys) ∧ ∀ l, H l = none → Q (.ref l) (upd H l (.lst ys))) := by
  intro pins s σ H xs us Q I r h
  obtain ⟨p, ys, rfl, hq, q⟩ := h
  obtain ⟨u, rfl, rx⟩ := vals1 r
  cases rx
  have fin : ∀ (its : List Value), Vals ys its → ys.length ≤ sizeLine → ∀ (h' : Heap) (c' : Nat), (∀ b o', s.heap.get? b = some o' → h'.get? b = some o') →
      h'.get? s.heap.objs.size = some { cls := .type "list", dict := none, data := .seq its.toArray c', slots := #[] } → EP X pins σ Q (.ref s.heap.objs.size) { s with heap := h' } := fun its r' hz h' c' kp e =>
    ⟨.ref s.heap.objs.size, _, I.laid (t' := s.toks) kp (Nat.le_refl _) (show ObjOk X.prog X.w _ h' _ (.lst ys) from ⟨hz, its, c', r', e⟩), rfl, q _ (I.hok.fresh (Nat.le_refl _))⟩
  rcases hq with hq | hq
  · obtain ⟨its, r', pl, hz⟩ := I.list hq
    have hlen := r'.length
    obtain ⟨o, ho, hc, n, hd⟩ := pl.isList
    exact call_list_seq p (.inl rfl) ho hc hd (fun h' c' kp e => fin its r' hz h' c' kp e) (by simp only [List.size_toArray] <;> omega)
  · obtain ⟨its, r', pl, hz⟩ := I.tuple hq
    have hlen := r'.length
    obtain ⟨o, ho, hc, n, hd⟩ := pl
    exact call_list_seq p (.inr rfl) ho hc hd (fun h' c' kp e => fin its r' hz h' c' kp e) (by simp only [List.size_toArray] <;> omega)
theorem call_tuple_of : CallR X (.type "tuple") (fun xs H Q => ∃ p ys, xs = [.ref p] ∧ ((SqL X.K H p ys ∧ ∀ l, H l = none → Q (.ref l) (upd H l (.tup ys))) ∨ (SqT X.K H p ys ∧ Q (.ref p) H))) := by
  intro pins s σ H xs us Q I r h
  obtain ⟨p, ys, rfl, h⟩ := h
  obtain ⟨u, rfl, rx⟩ := vals1 r
  cases rx
  rcases h with ⟨hq, q⟩ | ⟨hq, q⟩
  · obtain ⟨its, r', pl, hz⟩ := I.list hq
    have hlen := r'.length
    refine call_tuple_list pl.isList (fun h' kp => ?_) (by simp only [List.size_toArray] <;> omega)
    have I1 : Inv X pins σ H { s with heap := h' } := I.kept (t' := s.toks) kp
    have I2 : Inv X pins σ (upd H h'.objs.size (.tup ys)) { s with heap := h'.push { cls := .type "tuple", data := .seq its.toArray } } :=
      I1.laid (t' := s.toks) (fun b o e => Heap.get?_push_of_some _ e) (Nat.le_refl _) (show ObjOk X.prog X.w _ _ _ (.tup ys) from ⟨hz, its, r', IsTup.new _ _⟩)
    exact ⟨.ref h'.objs.size, _, I2, rfl, q _ (I1.hok.fresh (Nat.le_refl _))⟩
  · obtain ⟨its, r', pl, hz⟩ := I.tuple hq
    exact call_tuple_same pl ⟨.ref p, H, I, rfl, q⟩
def tyV (K : Frag) (T : String) (x : V) (H : Hp) : Prop := match x with
  | .str _ => T = "str"
  | .int _ => T = "int"
  | .ref p => (T = "list" ∧ ∃ xs, SqL K H p xs) ∨ (T = "tuple" ∧ ∃ o, K.lookup p = some o ∧ o.cls = .type "tuple" ∧ o.dict = none) ∨
      (T = "dict" ∧ ((∃ kvs, H p = some (.dK kvs)) ∨ ∃ kvs, H p = some (.dT kvs))) ∨ (T = "set" ∧ ∃ S n, H p = some (.set S n))
  | _ => False
theorem tyV_is {pins : List (Addr × Obj)} {σ : St} {H : Hp} {s : Shared} {T : String} {x : V} {v : Value} (I : Inv X pins σ H s) (r : RelV x v) (ty : tyV X.K T x H) :
    s.TypeIs v T ∧ ∀ a, v = .ref a → ∃ ob, s.heap.get? a = some ob ∧ ob.dict = none := by
  cases x with
  | str z =>
    obtain ⟨t, rfl⟩ := r
    cases (show T = "str" from ty)
    exact ⟨typeIs_str s z t, fun _ e => nomatch e⟩
  | int i =>
    obtain ⟨t, rfl⟩ := r
    cases (show T = "int" from ty)
    exact ⟨typeIs_int s i t, fun _ e => nomatch e⟩
  | ref p =>
    cases r
    rcases ty with ⟨rfl, xs, hq⟩ | ⟨rfl, o, hk, hc, hd⟩ | ⟨rfl, hk⟩ | ⟨rfl, S, n, hk⟩
    · obtain ⟨its, _, pl, _⟩ := I.list hq
      refine ⟨pl.isList.typeIs, fun a e => ?_⟩
      cases e
      obtain ⟨o, n, e, c, hd, _⟩ := pl
      exact ⟨o, e, hd⟩
    · refine ⟨⟨o, I.kIn p o hk, hc⟩, fun a e => ?_⟩
      cases e
      exact ⟨o, I.kIn _ o hk, hd⟩
    · have z : ∃ o, s.heap.get? p = some o ∧ o.ExactDict := by
        rcases hk with ⟨kvs, hk⟩ | ⟨kvs, hk⟩
        · obtain ⟨_, _, _, _, o, _, _, e, ex, _⟩ := I.hok p _ hk
          exact ⟨o, e, ex⟩
        · obtain ⟨_, _, _, _, o, _, _, e, ex, _⟩ := I.hok p _ hk
          exact ⟨o, e, ex⟩
      obtain ⟨o, e, ex⟩ := z
      refine ⟨⟨o, e, ex.1⟩, fun a e2 => ?_⟩
      cases e2
      exact ⟨o, e, ex.2.1⟩
    · obtain ⟨o, _, _, _, e, ex, _⟩ := I.hok p _ hk
      refine ⟨⟨o, e, ex.1⟩, fun a e2 => ?_⟩
      cases e2
      exact ⟨o, e, ex.2.1⟩
  | _ => exact False.elim ty
def tBM (K : Frag) (T : String) (r : V → List V → Hp → VK → Prop) (to : TE) (t : TA) : TE := fun σ H Q => to σ H fun x H1 => tyV K T x H1 ∧ t σ H1 fun xs H2 => r x xs H2 Q
variable {o e : Expr} {es : List Expr} {to : TE} {t : TA} {name : Str} {apos cpos : Pos} {T id : String} {r : V → List V → Hp → VK → Prop}
theorem pe_bm (pa : PlainAttrs T) (slot : Slot T name id) (hty : typeOf (.builtin id) = pure (.type "method_descriptor")) (hm : MtR X id r) (ho : PE X o to) (ha : PA X (e :: es) t)
    (hbase : attributeBase o name X.env (eval o X.env) = eval o X.env := by rfl)
    (hfew : ((backTo cpos (starEach (e :: es) X.env)).all (fun x => !x.1) && (backToKw cpos (keywordEach [] X.env)).all (fun x => x.1.isSome)
      && decide ((e :: es).length + ([] : List Keyword).length + (if ([] : List Keyword).isEmpty then 0 else 1) < 30)) = true := by rfl)
    (hline : (apos.endLine == cpos.line) = true := by rfl) (hs : starEach (e :: es) X.env = (false, eval e X.env) :: starEach es X.env := by rfl) (hplain : (backTo cpos (starEach es X.env)).any (·.1) = false := by rfl) :
    PE X (.Call (.Attribute o name apos) (e :: es) [] cpos) (tBM X.K T r to t) := by
  intro pins s σ H Q I h
  refine wpAny_Call_method_late hbase hfew hline rfl (thn (ho pins s σ H _ I h) fun v s1 ⟨x, H1, I1, r1, ty, q1⟩ => ?_)
  obtain ⟨h1, h2⟩ := tyV_is I1 r1 ty
  refine ⟨T, id, pa, slot, hty, h1, h2, ?_⟩
  have hA := ha cpos pins s1 σ H1 _ I1 q1
  rw [hs] at hA ⊢
  refine Calls.callWith_builtin (by show (false || (backTo cpos (starEach es X.env)).any (·.1)) = false; rw [hplain] <;> rfl) (Calls.evalArgs_plain ?_)
  exact thn hA fun us s2 ⟨vs, H2, I2, r2, q2⟩ => hm pins s2 σ H2 x vs v us Q I2 r1 r2 q2
end
end L2
namespace L2
open PySem PySem.Spec PyProof.Rows
def MtM (X : Cx) (id : String) (r : V → List V → Hp → VK → Prop) : Prop :=
  ∀ (pins : List (Addr × Obj)) (s : Shared) (σ : St) (H : Hp) (x : V) (xs : List V) (v : Value) (us : List Value) (Q : VK), Inv X pins σ H s → RelV x v → Vals xs us → r x xs H Q →
    wpAny (model X.prog X.w) X.A (call (.builtin id) (v :: us)) (EP X pins σ Q) X.xe s
theorem Vals.one : ∀ {x : V} {us : List Value}, Vals [x] us → ∃ u, us = [u] ∧ RelV x u
  | _, _, .cons r .nil => ⟨_, rfl, r⟩
theorem Vals.eraseIdx : ∀ {xs : List V} {us : List Value} (i : Nat), Vals xs us → Vals (xs.eraseIdx i) (us.eraseIdx i)
  | _, _, _, .nil => .nil
  | _, _, 0, .cons _ t => t
  | _, _, i + 1, .cons r t => .cons r (Vals.eraseIdx i t)
theorem len_erase {α : Type} : ∀ (l : List α) (i : Nat), (l.eraseIdx i).length ≤ l.length
  | [], _ => Nat.le_refl _
  | _ :: _, 0 => Nat.le_succ _
  | _ :: r, i + 1 => Nat.succ_le_succ (len_erase r i)
section
variable {X : Cx} {pins : List (Addr × Obj)} {σ : St} {H : Hp} {s : Shared} {l b : Addr} {xs ys zs : List V}
theorem Inv.lset {its its' : List Value} {n : Nat} {f : Array Value → Array Value} {t' : Nat} (I : Inv X pins σ H s) (hH : H l = some (.lst xs))
    (e : s.heap.get? l = some { cls := .type "list", data := .seq its.toArray n }) (hf : f its.toArray = its'.toArray) (hv : Vals ys its') (hz : ys.length ≤ sizeLine) :
    Inv X pins σ (upd H l (.lst ys)) { s with heap := s.heap.update l (Obj.mapSeq f), toks := t' } := by
  have q := PySem.IsL.update e f
  rw [hf] at q
  refine I.write (x := l) (e := l) (by rw [hH]; exact trivial) (.inl rfl) (fun b' u hb hu => (Heap.get?_update_other s.heap (Obj.mapSeq f) (Ne.symm hb)).trans hu) ⟨_, q⟩ ?_
  exact ⟨hz, its', _, hv, q⟩
theorem Inv.lnew {its : List Value} {t' : Nat} (I : Inv X pins σ H s) (hv : Vals ys its) (hz : ys.length ≤ sizeLine) :
    Inv X pins σ (upd H s.heap.objs.size (.lst ys)) { s with heap := s.heap.push { cls := .type "list", data := .seq its.toArray }, toks := t' } :=
  I.laid (fun _ _ q => Heap.get?_push_of_some _ q) (Nat.le_refl _) ⟨hz, its, 0, hv, Heap.get?_push_size _ rfl⟩
theorem Inv.fresh (I : Inv X pins σ H s) : H s.heap.objs.size = none := I.hok.fresh (Nat.le_refl _)
theorem Inv.lstM (I : Inv X pins σ H s) (hH : H l = some (.lst xs)) : xs.length ≤ sizeLine ∧ ∃ (its : List Value) (n : Nat), Vals xs its ∧ xs.length = its.length ∧ s.heap.get? l = some { cls := .type "list", data := .seq its.toArray n } := by
  obtain ⟨z, its, n, r, e⟩ := I.hok l _ hH
  exact ⟨z, its, n, r, r.length, e⟩
end
section
variable {X : Cx}
def rAppend : V → List V → Hp → VK → Prop := fun x vs H Q => ∃ l xs y, x = .ref l ∧ vs = [y] ∧ H l = some (.lst xs) ∧ xs.length < sizeLine ∧ Q .non (upd H l (.lst (xs ++ [y])))
theorem mt_append : MtM X "list.append" rAppend := by
  intro pins s σ H x vs v us Q I rx rv h
  obtain ⟨l, xs, y, rfl, rfl, hH, hz, q⟩ := h
  cases rx
  obtain ⟨u, rfl, ru⟩ := rv.one
  obtain ⟨z, its, n, r, hl, e⟩ := I.lstM hH
  refine call_meets F.slot_list_append ⟨_, e, rfl⟩ F.entry_list_append (F.args_list_append_2 _ _) (PySem.list_append l its.toArray n u (by rw [List.size_toArray]; omega)) ⟨e, ?_⟩
  refine ⟨.non, _, I.lset (its' := its ++ [u]) hH e (by simp) (r.append (.cons ru .nil)) ?_, rfl, q⟩
  rw [List.length_append, List.length_singleton]
  omega
def rPopAt : V → List V → Hp → VK → Prop := fun x vs H Q => ∃ l xs i k y, x = .ref l ∧ vs = [.int i] ∧ H l = some (.lst xs) ∧ -(2 ^ 63) ≤ i ∧ i < 2 ^ 63 ∧ seqIndex? i xs.length = some k ∧ xs[k]? = some y ∧ Q y (upd H l (.lst (xs.eraseIdx k)))
theorem mt_popAt : MtM X "list.pop" rPopAt := by
  intro pins s σ H x vs v us Q I rx rv h
  obtain ⟨l, xs, i, k, y, rfl, rfl, hH, h1, h2, hk, hy, q⟩ := h
  cases rx
  obtain ⟨u, rfl, ru⟩ := rv.one
  obtain ⟨t, rfl⟩ := ru
  obtain ⟨z, its, n, r, hl, e⟩ := I.lstM hH
  obtain ⟨w, hw, rw'⟩ := r.get hy
  refine call_meets F.slot_list_pop ⟨_, e, rfl⟩ F.entry_list_pop (F.args_list_pop_2 _ _)
    (MeetsSeq.list_pop_at l its.toArray n i t k w (fitsIndex_both h1 h2) (by rw [List.size_toArray, ← hl]; exact hk) (by rw [← Array.getElem?_toList]; exact hw) (by rw [List.size_toArray]; omega)) ⟨e, ?_⟩
  refine ⟨y, _, I.lset (its' := its.eraseIdx k) hH e ?_ (r.eraseIdx k) ?_, rw', q⟩
  · show its.toArray.eraseIdxIfInBounds k = (its.eraseIdx k).toArray
    rw [List.eraseIdxIfInBounds_toArray]
  · have := len_erase xs k
    omega
def rCat : R2 := fun x y H Q => ∃ l b xs zs, x = .ref l ∧ y = .ref b ∧ H l = some (.lst xs) ∧ H b = some (.lst zs) ∧ xs.length + zs.length ≤ sizeLine ∧ ∀ p, H p = none → Q (.ref p) (upd H p (.lst (xs ++ zs)))
theorem op_cat : OpR X (binaryOp .Add) rCat := by
  intro pins s σ H x y v u Q I rx ry h
  obtain ⟨l, b, xs, zs, rfl, rfl, hH, hB, hz, q⟩ := h
  cases rx
  cases ry
  obtain ⟨z, its, n, r, hl, e⟩ := I.lstM hH
  obtain ⟨z2, its2, n2, r2, hl2, e2⟩ := I.lstM hB
  refine PySem.P.add_list e e2 ?_ (by rw [List.size_toArray, List.size_toArray]; omega)
  have ea : its.toArray ++ its2.toArray = (its ++ its2).toArray := by simp
  rw [ea]
  exact ⟨.ref _, _, I.lnew (t' := s.toks) (r.append r2) (by rw [List.length_append]; omega), rfl, q _ I.fresh⟩
end
section
variable {prog : Program} {w : World} {A : Around} {E : Value → Shared → Prop} {s : Shared}
end
section
variable {X : Cx}
end
end L2
namespace Att
open PySem PySem.W PySem.Calls PyProof.Rows
theorem ints_of_wellAll {P : Params} {h : Heap} : ∀ (ns : List Int) (vs : List Value), WellAll P h vs (ns.map WData.int) → IntsAre vs ns := by
  intro ns
  induction ns with
  | nil =>
    intro vs w
    rw [List.map_nil] at w
    cases w
    exact .nil
  | cons n ns ih =>
    intro vs w
    rw [List.map_cons] at w
    cases w with
    | cons a b =>
      cases a
      exact .cons _ _ (ih _ b)
theorem script_of {l : OpenLaw} {n : Nat} (hn : l.most = some n) {P : Params} {h : Heap} {args : List WData} {vals : List Value}
    (hpre : l.row.toRowW.claim.pre args = true) (hwl : WellAll P h vals args) :
    ∃ a vs ns, vals = [Value.ref a] ∧ args = [WData.list (ns.map WData.int)] ∧ h.get? a = some { cls := .type "list", data := .seq vs.toArray } ∧ IntsAre vs ns ∧ ns.length ≤ n := by
  have hsh : WShape.hasAll [] args [.list .int] = true := (pre_splitW hpre).1
  have hc : l.pre.holds [] { args := args } = true := (pre_splitW hpre).2
  obtain ⟨d, r, rfl, h1, h2⟩ := hasAllW_cons hsh
  obtain rfl := hasAllW_nil h2
  obtain ⟨xs, rfl, h3⟩ := hasW_list h1
  obtain ⟨ns, rfl⟩ := items_int h3
  have hlen : ns.length ≤ n := by
    unfold OpenLaw.pre at hc
    have h4 : (WTm.not (.lt (.lit (.int (n : Int))) (.len (.arg 0)))).holds [] { args := [.list (ns.map .int)] } = true := by
      have h4 := (holds_andW hc).1
      rw [hn] at h4
      exact h4
    have h5 := condW_of h4 (w_not (w_lt w_lit (w_len_list (w_arg rfl))))
    rw [List.length_map] at h5
    refine Nat.le_of_not_lt fun q => ?_
    have q' : (n : Int) < ((ns.length : Nat) : Int) := by omega
    first
      | (rw [decide_eq_true q'] at h5; exact absurd h5 (by decide))
      | (simp at h5; omega)
  cases hwl with
  | cons w1 w2 =>
    cases w2
    cases w1 with
    | list ho hall => exact ⟨_, _, ns, rfl, rfl, ho, ints_of_wellAll ns _ hall, hlen⟩
theorem post_true (l : OpenLaw) (args : List WData) : l.row.toRowW.claim.post args (.bool true) args = true :=
  postW_of (r := l.row.toRowW) (X := (true == true))
    (show WShape.has [] (.bool true) .bool = true by first | rfl | decide | simp [WShape.has, WShape.arms, WShape.armsAll])
    (show (WTm.eq .res (.lit (.bool true))).value [] { args := args, res := some (.bool true), after := args } = some (.bool (true == true)) from w_eq_bool (w_res rfl) w_lit) rfl
theorem attach_call {l : OpenLaw} {n : Nat} {q : Program} {loose : List Str} {XP : (Str → Option Value) → Heap → Prop} {YP : World → Heap → Prop} {d : DefRec}
    (hn : l.most = some n) (hdf : d.params.defaults = [])
    (call : ∀ (w : World) (s₀ s₁ : Shared) (mg mb : Str → Option Value) (fa : Addr) (o : Obj) (pm cd doc : Value) (a : Addr) (vs : List Value) (ns : List Int),
      Ground q loose [] XP w s₀ mg mb s₁.heap → YP w s₁.heap →
      s₁.heap.get? fa = some o → o.data = .func (docDef d.name d.params d.body d.scope pm cd doc) → s₁.heap.CodeRec cd d.name → mg d.name = some (.ref fa) →
      s₁.heap.get? a = some { cls := .type "list", data := .seq vs.toArray } → IntsAre vs ns → ns.length ≤ n → s₁.gens = #[] →
      codeAny (model l.prog w) callerA (.call (.ref fa) ⟨[.ref a], []⟩) (fun r s' => r = .ok (.ret (.bool true)) ∧ OldK s₁.heap s'.heap ∧ s'.os = s₁.os ∧ AllBare s'.gens) s₁) :
    WalkO q loose XP YP l.row.toRowW d [] (fun f vs => PySem.call f vs) := by
  intro w s₀ s₁ mg mb G Y fa o pm cd doc dV kV ho hd hcd hD hmg hg args vals as hpre hlay hrd hwl hlo
  obtain rfl : dV = .none := Dflts.none hD hdf
  obtain rfl : kV = .none := Dflts.noKw hD
  obtain ⟨a, vs, ns, rfl, rfl, hobj, hints, hlen⟩ := script_of hn hpre hwl
  refine enter_call (codeAny_mono (call w s₀ s₁ mg mb fa o pm cd doc a vs ns G Y ho (fd_plain hd) hcd hmg hobj hints hlen hg) fun r s' hq => ?_)
  obtain ⟨rfl, h2, h3, h4⟩ := hq
  exact ⟨.inl ⟨.bool true, .bool true, [], rfl, fun _ => rfl, .bool true, post_true l _, fun _ => ⟨List.Pairwise.nil, fun _ hm => (nomatch hm)⟩⟩, h2, h3, h4⟩
section
variable {prog : Program} {w : World} {A : Around} {E : Value → Shared → Prop} {s : Shared} {K : Frag}
end
end Att
namespace L2
open PySem PySem.Spec PyProof.Rows
theorem vals_ints : ∀ {vs : List Value} {ns : List Int}, IntsAre vs ns → Vals (ns.map V.int) vs
  | _, _, .nil => .nil
  | _, _, .cons n t h => .cons ⟨t, rfl⟩ (vals_ints h)
end L2
namespace L2
open PySem PySem.Spec PyProof.Rows
end L2
namespace L2
open PySem PySem.Spec PyProof.Rows
def inClass (s : Stmt) (j : Nat) : Stmt := match s with
  | .ClassDef _ _ _ body _ _ _ _ _ _ _ => body.getD j (.Pass ⟨0, 0, 0, 0⟩)
  | _ => .Pass ⟨0, 0, 0, 0⟩
def defArgs (s : Stmt) : Arguments := match s with
  | .FunctionDef _ a _ _ _ _ _ _ _ _ => a
  | _ => { posonlyargs := [], args := [], vararg := none, kwonlyargs := [], kw_defaults := [], kwarg := none, defaults := [] }
def defBody (s : Stmt) : List Stmt := match s with
  | .FunctionDef _ _ b _ _ _ _ _ _ _ => b
  | _ => []
def defScope (s : Stmt) : Scope := match s with
  | .FunctionDef _ _ _ _ _ _ sc _ _ _ => sc
  | _ => { kind := .function, names := [], isGenerator := false, isCoroutine := false }
abbrev CX0 : CXT := fun _ _ _ _ _ _ => False
abbrev E0 : XK := fun _ _ _ => False
theorem pass0 {X : Cx} : Passes CX0 X E0 := fun _ _ _ _ _ _ _ h => h.elim
structure Fun (K : Frag) (x qual : Str) (st : Stmt) (f : Addr) (fd : FuncData) : Prop where
  ex : ∃ (oc : Value) (od : Option Addr) (kV doc pm : Value) (an : Option Addr) (cdv ct : Value) (osl : Array (Option Value)),
    fd = fnOf x qual (defArgs st) (defBody st) (defScope st) .none kV doc pm an cdv ct ∧ K.lookup f = some ⟨oc, od, .func fd, osl⟩ ∧ PySem.W.codeIn K cdv qual = true
  kp : keepIn K (.ref f) = true
section
variable {P : Program} {w : World} {K : Frag} {mg : Str → Option Value} {base : Heap}
theorem Fun.ok {x qual : Str} {st : Stmt} {f : Addr} {fd : FuncData} {N ps : List Str} {k : Nat} {sp : Sp} (F : Fun K x qual st f fd) (S : FnScope N ps (defScope st)) (len : ∀ vs H Q E, sp vs H Q E → vs.length = ps.length)
    (hbody : ∀ (cdv : Value) (A : Around) (outer : List Env) (s : Shared) (H : Hp) (vs : List V) (Q : VK) (E : XK), Room k (A.deeper (envOfC qual (defScope st) s.heap.objs.size f cdv)) → sp vs H Q E →
      ∃ t, PSs (cxOf CX0 P w K mg base N qual (defScope st) f cdv A outer s H E).nox (defBody st) t ∧ t { nx := fun _ H' => Q .non H', rt := Q } (start N vs) H) : FnOk P w K mg base CX0 (k + 1) f fd ps sp := by
  obtain ⟨oc, od, kV, doc, pm, an, cdv, ct, osl, rfl, lk, hcd⟩ := F.ex
  refine fn_of lk hcd S len fun A outer s H vs Q E hr hsp => ?_
  obtain ⟨t, h, q⟩ := hbody cdv A outer s H vs Q E hr hsp
  exact ⟨t, h.nox, q⟩
theorem Fun.binds {x qual : Str} {st : Stmt} {f : Addr} {fd : FuncData} {ps : List Str} (F : Fun K x qual st f fd)
    (h : ∀ (kV doc pm : Value) (an : Option Addr) (cdv ct : Value) (us : List Value), us.length = ps.length → bindArgs (fnOf x qual (defArgs st) (defBody st) (defScope st) .none kV doc pm an cdv ct) ⟨us, []⟩ = pure (ps.zip us)) : Binds K fd ps [] := by
  obtain ⟨oc, od, kV, doc, pm, an, cdv, ct, osl, rfl, lk, hcd⟩ := F.ex
  exact .all (h kV doc pm an cdv ct)
theorem fun_mk {x qual : Str} {st : Stmt} {f : Addr} {oc : Value} {od an : Option Addr} {osl : Array (Option Value)} {kV doc pm cdv ct : Value} (l : K.lookup f = some ⟨oc, od, .func (fnOf x qual (defArgs st) (defBody st) (defScope st) .none kV doc pm an cdv ct), osl⟩)
    (c : PySem.W.codeIn K cdv qual = true) (k : keepIn K (.ref f) = true) : Fun K x qual st f (fnOf x qual (defArgs st) (defBody st) (defScope st) .none kV doc pm an cdv ct) := ⟨⟨oc, od, kV, doc, pm, an, cdv, ct, osl, rfl, l, c⟩, k⟩
end
section
variable {X : Cx}
end
theorem iteF {A B : Prop} (h : B) : if false = true then A else B := by
  rw [if_neg Bool.false_ne_true]
  exact h
theorem iteT {A B : Prop} (h : A) : if true = true then A else B := by
  rw [if_pos rfl]
  exact h
theorem ite2 {c A B : Prop} [Decidable c] (h1 : c → A) (h2 : ¬ c → B) : if c then A else B := by
  by_cases h : c
  · rw [if_pos h]
    exact h1 h
  · rw [if_neg h]
    exact h2 h
def Same (H H' : Hp) : Prop := ∀ b o, H b = some o → H' b = some o
theorem Same.refl (H : Hp) : Same H H := fun _ _ h => h
theorem Same.trans {H H1 H2 : Hp} (a : Same H H1) (b : Same H1 H2) : Same H H2 := fun c o h => b c o (a c o h)
theorem Same.free {H H' : Hp} (e : Same H H') {l : Addr} (h : H' l = Option.none) : H l = Option.none := by
  cases q : H l with
  | none => rfl
  | some o =>
    rw [e l o q] at h
    cases h
theorem Same.seq {K : Frag} {H H' : Hp} {a : Addr} {xs : List V} (e : Same H H') (h : SqL K H a xs) : SqL K H' a xs := by
  rcases h with (h | ⟨o, h⟩) | h
  · exact .inl (.inl (e _ _ h))
  · exact .inl (.inr ⟨o, e _ _ h⟩)
  · exact .inr h
end L2
namespace PySem
open Sem (wp)
theorem closureFor_some {scope : Scope} {env : Env} (h : ∀ y ∈ scope.names, y.2 = .free → ∃ c, env.cells.lookup y.1 = some c) :
    ∃ cl, closureFor scope env = pure cl ∧ (∀ x c, cl.lookup x = some c → env.cells.lookup x = some c) ∧
      ∀ y ∈ scope.names, y.2 = .free → ∃ c, cl.lookup y.1 = some c := by
  have key : ∀ (names : List (Str × NameKind)) (acc : List (Str × Addr)), (∀ y ∈ names, y.2 = .free → ∃ c, env.cells.lookup y.1 = some c) →
      (∀ x c, acc.lookup x = some c → env.cells.lookup x = some c) →
      ∃ cl, (forIn names acc fun (x : Str × NameKind) (r : List (Str × Addr)) => (if (x.2 == NameKind.free) = true then do let c ← cellOf env x.1; pure (ForInStep.yield ((x.1, c) :: r)) else pure (ForInStep.yield r) : Sem _)) = pure cl ∧
        (∀ x c, cl.lookup x = some c → env.cells.lookup x = some c) ∧ (∀ y ∈ names, y.2 = .free → ∃ c, cl.lookup y.1 = some c) ∧ ∀ x c, acc.lookup x = some c → ∃ c', cl.lookup x = some c' := by
    intro names
    induction names with
    | nil => intro acc _ ha; exact ⟨acc, rfl, ha, (fun _ hy => nomatch hy), fun x c e => ⟨c, e⟩⟩
    | cons y r ih =>
      intro acc hf ha
      obtain ⟨n, k⟩ := y
      have hr : ∀ y ∈ r, y.2 = .free → ∃ c, env.cells.lookup y.1 = some c := fun y hy => hf y (List.mem_cons_of_mem _ hy)
      by_cases hk : k = .free
      · subst hk
        obtain ⟨c, hc⟩ := hf (n, .free) List.mem_cons_self rfl
        have ha' : ∀ x d, ((n, c) :: acc).lookup x = some d → env.cells.lookup x = some d := fun x d e => by
          rw [List.lookup_cons] at e
          by_cases hx : x = n
          · subst hx; simp at e; rw [← e]; exact hc
          · have : (x == n) = false := by simpa using hx
            rw [this] at e; exact ha x d e
        obtain ⟨cl, e1, e2, e3, e4⟩ := ih ((n, c) :: acc) hr ha'
        refine ⟨cl, ?_, e2, fun y hy hyf => ?_, fun x d e => ?_⟩
        · rw [List.forIn_cons]
          have q : cellOf env n = pure c := by unfold cellOf; rw [hc]
          simp only [beq_self_eq_true, if_true, q]
          exact e1
        · rcases List.mem_cons.mp hy with rfl | hy
          · obtain ⟨c', q⟩ := e4 n c (by rw [List.lookup_cons]; simp)
            exact ⟨c', q⟩
          · exact e3 y hy hyf
        · by_cases hx : x = n
          · subst hx; exact e4 x c (by rw [List.lookup_cons]; simp)
          · have hb : (x == n) = false := by simpa using hx
            exact e4 x d (by rw [List.lookup_cons, hb]; exact e)
      · have hb : (k == NameKind.free) = false := by simpa using hk
        obtain ⟨cl, e1, e2, e3, e4⟩ := ih acc hr ha
        refine ⟨cl, ?_, e2, fun y hy hyf => ?_, e4⟩
        · rw [List.forIn_cons]
          simp only [hb, Bool.false_eq_true, if_false]
          exact e1
        · rcases List.mem_cons.mp hy with rfl | hy
          · exact absurd hyf hk
          · exact e3 y hy hyf
  obtain ⟨cl, e1, e2, e3, _⟩ := key scope.names [] h (fun x c e => by simp at e)
  refine ⟨cl, ?_, e2, e3⟩
  unfold closureFor
  simp only [bind_pure]
  exact e1
theorem compTurn_set (elt target iter : Expr) (ifs : List Expr) (scope : Scope) (pos : Pos) (it acc : Value) (env : Env) :
    compTurn (.SetComp elt [⟨target, iter, ifs, 0⟩] scope pos) 0 it acc env = (do
      standAt iter.pos
      match ← pyNext it with
      | none => pure (.done .next)
      | some v =>
        letOwnedTupleGo target it v
        assign target env v
        let mut ok := true
        for c in ifs do
          if ok then ok ← isTrue c env (eval c env)
        if ok then
          (do let v ← eval elt env; standAt elt.pos; let _ ← call (.builtin "set.add") [acc, v])
        again (.compLoop (.SetComp elt [⟨target, iter, ifs, 0⟩] scope pos) 0 it acc env)) := by rfl
section
variable {prog : Program} {w : World} {A : Around} {E : Value → Shared → Prop} {R : Result → Shared → Prop} {s : Shared}
theorem codeAny_compLoop_listG {elt target iter : Expr} {ifs : List Expr} {scope : Scope} {pos : Pos} {it acc : Value} {env : Env} (I : Nat → Shared → Prop)
    (turn : ∀ n s, I n s → wpAny (model prog w) A (pyNext it) (fun r s₁ => match r with
      | none => R (.ok .next) s₁
      | some v => wpAny (model prog w) A (letOwnedTupleGo target it v) (fun _ s₁' => wpAny (model prog w) A (assign target env v) (fun _ s₂ =>
          wpAny (model prog w) A (forIn ifs true fun c r => if r = true then do let ok ← isTrue c env (eval c env); pure (ForInStep.yield ok) else pure (ForInStep.yield r)) (fun ok s₃ =>
            if ok = true then wpAny (model prog w) A (eval elt env) (fun x s₄ =>
              wpAny (model prog w) A (call (.builtin "list.append") [acc, x]) (fun _ s₅ => ∃ m, m < n ∧ I m s₅) (fun _ _ => False) s₄) (fun _ _ => False) s₃
            else ∃ m, m < n ∧ I m s₃) (fun _ _ => False) s₂) (fun _ _ => False) s₁') (fun _ _ => False) s₁) (fun _ _ => False) s)
    (n : Nat) (h : I n s) :
    codeAny (model prog w) A (.compLoop (.ListComp elt [⟨target, iter, ifs, 0⟩] scope pos) 0 it acc env) R s := by
  refine codeAny_loop rfl I (fun n s hI => ?_) n h
  show wpAny _ A ((compTurn (.ListComp elt [⟨target, iter, ifs, 0⟩] scope pos) 0 it acc env).onRaise (fun x => do noteFrame x env; theTreesLotGoes x)) _ _ s
  refine wpAny_noted ?_
  rw [compTurn_list]
  refine wpAny_bind (wpAny_standAt (wpAny_bind (wpAny_mono (turn n s hI) (fun r s₁ h₁ => ?_) fun _ _ h' => h'.elim)))
  cases r with
  | none => exact wpAny_pure h₁
  | some v =>
    refine wpAny_bind (wpAny_mono h₁ (fun _ s₁' h₁' => ?_) fun _ _ h' => h'.elim)
    refine wpAny_bind (wpAny_mono h₁' (fun _ s₂ h₂ => wpAny_bind (wpAny_mono h₂ (fun ok s₃ h₃ => ?_) fun _ _ h' => h'.elim)) fun _ _ h' => h'.elim)
    cases ok with
    | false => exact wpAny_pure ⟨rfl, h₃⟩
    | true =>
      exact wpAny_bind (wpAny_bind (wpAny_mono h₃ (fun x s₄ h₄ => wpAny_bind (wpAny_mono h₄ (fun _ s₅ h₅ => wpAny_pure (wpAny_pure ⟨rfl, h₅⟩)) fun _ _ h' => h'.elim)) fun _ _ h' => h'.elim))
theorem codeAny_compLoop_setG {elt target iter : Expr} {ifs : List Expr} {scope : Scope} {pos : Pos} {it acc : Value} {env : Env} (I : Nat → Shared → Prop)
    (turn : ∀ n s, I n s → wpAny (model prog w) A (pyNext it) (fun r s₁ => match r with
      | none => R (.ok .next) s₁
      | some v => wpAny (model prog w) A (letOwnedTupleGo target it v) (fun _ s₁' => wpAny (model prog w) A (assign target env v) (fun _ s₂ =>
          wpAny (model prog w) A (forIn ifs true fun c r => if r = true then do let ok ← isTrue c env (eval c env); pure (ForInStep.yield ok) else pure (ForInStep.yield r)) (fun ok s₃ =>
            if ok = true then wpAny (model prog w) A (eval elt env) (fun x s₄ =>
              wpAny (model prog w) A (call (.builtin "set.add") [acc, x]) (fun _ s₅ => ∃ m, m < n ∧ I m s₅) (fun _ _ => False) s₄) (fun _ _ => False) s₃
            else ∃ m, m < n ∧ I m s₃) (fun _ _ => False) s₂) (fun _ _ => False) s₁') (fun _ _ => False) s₁) (fun _ _ => False) s)
    (n : Nat) (h : I n s) :
    codeAny (model prog w) A (.compLoop (.SetComp elt [⟨target, iter, ifs, 0⟩] scope pos) 0 it acc env) R s := by
  refine codeAny_loop rfl I (fun n s hI => ?_) n h
  show wpAny _ A ((compTurn (.SetComp elt [⟨target, iter, ifs, 0⟩] scope pos) 0 it acc env).onRaise (fun x => do noteFrame x env; theTreesLotGoes x)) _ _ s
  refine wpAny_noted ?_
  rw [compTurn_set]
  refine wpAny_bind (wpAny_standAt (wpAny_bind (wpAny_mono (turn n s hI) (fun r s₁ h₁ => ?_) fun _ _ h' => h'.elim)))
  cases r with
  | none => exact wpAny_pure h₁
  | some v =>
    refine wpAny_bind (wpAny_mono h₁ (fun _ s₁' h₁' => ?_) fun _ _ h' => h'.elim)
    refine wpAny_bind (wpAny_mono h₁' (fun _ s₂ h₂ => wpAny_bind (wpAny_mono h₂ (fun ok s₃ h₃ => ?_) fun _ _ h' => h'.elim)) fun _ _ h' => h'.elim)
    cases ok with
    | false => exact wpAny_pure ⟨rfl, h₃⟩
    | true =>
      exact wpAny_bind (wpAny_bind (wpAny_mono h₃ (fun x s₄ h₄ => wpAny_bind (wpAny_standAt (wpAny_bind (wpAny_mono h₄ (fun _ s₅ h₅ => wpAny_pure (wpAny_pure ⟨rfl, h₅⟩)) fun _ _ h' => h'.elim)))) fun _ _ h' => h'.elim))
theorem codeAny_compStart_set {elt target iter ifs rest scope pos it acc env}
    (h0 : codeAny (model prog w) A (.compLoop (.SetComp elt (⟨target, iter, ifs, 0⟩ :: rest) scope pos) 0 it acc env) R s)
    (h : wpAny (model prog w) A (pyIter it) (fun it' s' => codeAny (model prog w) A (.compLoop (.SetComp elt (⟨target, iter, ifs, 0⟩ :: rest) scope pos) 0 it' acc env) R s')
      (notedBy (model prog w) A env fun x s' => R (.error x) s') s) :
    codeAny (model prog w) A (.compStart (.SetComp elt (⟨target, iter, ifs, 0⟩ :: rest) scope pos) 0 it acc env) R s := by
  refine codeAny_of_tree ?_
  show wpAny _ _ ((compStart (.SetComp elt (⟨target, iter, ifs, 0⟩ :: rest) scope pos) 0 it acc env).onRaise (fun x => do noteFrame x env; standAt theWindowsPlace)) _ _ s
  refine wpAny_notedAt ?_
  unfold compStart
  show wpAny _ _ (ask >>= _) _ _ s
  refine wpAny_bind (wpAny_askSetting (wpAny_ite ?_))
  split
  · first
      | exact wpAny_bind (wpAny_pure (wpAny_pure (And.intro rfl h0)))
      | exact wpAny_pure (And.intro rfl h0)
  · first
      | exact wpAny_bind (wpAny_rule (wpAny_bind (wpAny_standAt (wpAny_bind (wpAny_mono h (fun it' s' h' => wpAny_pure (And.intro rfl h')) fun _ _ x => x)))))
      | (refine wpAny_bind (wpAny_rule ?_); show wpAny _ _ (standAt iter.pos >>= _) _ _ s; exact wpAny_bind (wpAny_standAt (wpAny_bind (wpAny_mono h (fun it' s' h' => wpAny_pure (And.intro rfl h')) fun _ _ x => x))))
end
end PySem
namespace L2
open PySem PySem.Spec PyProof.Rows
def slotOf : List Str → St → Str → Option V
  | n :: N, v :: σ, x => if n = x then v else slotOf N σ x
  | _, _, _ => none
def cmpSt (N : List Str) (σ : St) (names : List (Str × NameKind)) : St := names.map fun p => if p.2 = NameKind.free then slotOf N σ p.1 else none
theorem slotOf_get : ∀ {N : List Str} {σ : St} {x : Str} {v : V}, slotOf N σ x = some v → ∃ i : Nat, N[i]? = some x ∧ σ[i]? = some (some v)
  | [], _, _, _, h => by simp [slotOf] at h
  | _ :: _, [], _, _, h => by simp [slotOf] at h
  | n :: N, u :: σ, x, v, h => by
    unfold slotOf at h
    by_cases e : n = x
    · rw [if_pos e] at h; exact ⟨0, by simp [e], by simp [h]⟩
    · rw [if_neg e] at h
      obtain ⟨i, h1, h2⟩ := slotOf_get h
      exact ⟨i + 1, by simpa using h1, by simpa using h2⟩
def Cx.cmp (X : Cx) (scope : Scope) (cl : List (Str × Addr)) (C : Addr) (s₀ : Shared) (H₀ : Hp) (fp : List Addr) : Cx where
  prog := X.prog
  w := X.w
  K := X.K
  mg := X.mg
  base := X.base
  A := X.A
  N := scope.names.map (·.1)
  s₀ := s₀
  H₀ := H₀
  env := compEnvC scope cl C X.env
  outer := X.stack
  stack := X.stack
  ex := fp
  fn := fun _ => false
  calm := X.calm
  pn := []
  xe := fun _ _ => False
def cmpB (sc scope : Scope) : Bool :=
  decide (scope.kind = .function) && scope.names.all (fun y => decide (y.2 ≠ .cell) && (decide (y.2 ≠ .free) || decide (sc.names.lookup y.1 = some .cell) || decide (sc.names.lookup y.1 = some .free))) && decide (scope.names.map (·.1)).Nodup
structure CmpOk (X : Cx) (scope : Scope) : Prop where
  kind : scope.kind = .function
  nocell : ∀ y ∈ scope.names, y.2 ≠ .cell
  free : ∀ y ∈ scope.names, y.2 = .free → X.env.kindOf y.1 = some .cell ∨ X.env.kindOf y.1 = some .free
  nd : (scope.names.map (·.1)).Nodup
theorem CmpOk.of {X : Cx} {scope : Scope} (h : cmpB X.env.scope scope = true) : CmpOk X scope := by
  unfold cmpB at h
  rw [Bool.and_eq_true, Bool.and_eq_true] at h
  obtain ⟨⟨h1, h2⟩, h3⟩ := h
  rw [List.all_eq_true] at h2
  refine ⟨of_decide_eq_true h1, fun y hy => ?_, fun y hy e => ?_, of_decide_eq_true h3⟩
  · have := h2 y hy; rw [Bool.and_eq_true] at this; exact of_decide_eq_true this.1
  · have := h2 y hy; rw [Bool.and_eq_true, Bool.or_eq_true, Bool.or_eq_true] at this
    rcases this.2 with (q | q) | q
    · exact absurd e (of_decide_eq_true q)
    · exact .inl (of_decide_eq_true q)
    · exact .inr (of_decide_eq_true q)
theorem lookup_of_mem {names : List (Str × NameKind)} (nd : (names.map (·.1)).Nodup) {y : Str × NameKind} (hy : y ∈ names) : names.lookup y.1 = some y.2 := by
  induction names with
  | nil => nomatch hy
  | cons z r ih =>
    obtain ⟨n, k⟩ := z
    simp only [List.map_cons, List.nodup_cons] at nd
    rcases List.mem_cons.mp hy with rfl | hy
    · simp [List.lookup_cons]
    · have hne : (y.1 == n) = false := by
        simp only [beq_eq_false_iff_ne, ne_eq]
        rintro e
        exact nd.1 (e ▸ List.mem_map_of_mem (f := (·.1)) hy)
      rw [List.lookup_cons, hne]
      exact ih nd.2 hy
theorem mem_lookup {names : List (Str × NameKind)} {x : Str} {k : NameKind} (h : names.lookup x = some k) : (x, k) ∈ names := by
  induction names with
  | nil => simp at h
  | cons z r ih =>
    obtain ⟨n, j⟩ := z
    rw [List.lookup_cons] at h
    by_cases e : x = n
    · subst e; simp at h; subst h; exact List.mem_cons_self
    · have hb : (x == n) = false := by simpa using e
      rw [hb] at h; exact List.mem_cons_of_mem _ (ih h)
theorem relabel_kind {scope : Scope} {env : Env} {x : Str} {k : NameKind} (h : (relabel scope env).names.lookup x = some k) :
    scope.names.lookup x = some k ∨ (scope.names.lookup x = some .free ∧ k = .cell ∧ env.kindOf x = some .cell) := by
  unfold relabel at h
  simp only at h
  generalize scope.names = names at h ⊢
  induction names with
  | nil => simp at h
  | cons z r ih =>
    obtain ⟨n, j⟩ := z
    rw [List.map_cons, List.lookup_cons] at h
    rw [List.lookup_cons]
    by_cases e : x = n
    · subst e
      by_cases hc : (j == NameKind.free && env.scope.kind == .function && env.kindOf x == some .cell) = true
      · simp only [hc, if_true, beq_self_eq_true] at h ⊢
        simp only [Bool.and_eq_true, beq_iff_eq] at hc
        cases h
        exact .inr ⟨by rw [hc.1.1], rfl, hc.2⟩
      · simp only [hc, Bool.false_eq_true, if_false, beq_self_eq_true] at h ⊢
        exact .inl h
    · have hb : (x == n) = false := by simpa using e
      by_cases hc : (j == NameKind.free && env.scope.kind == .function && env.kindOf n == some .cell) = true
      · simp only [hc, if_true, hb] at h ⊢; exact ih h
      · simp only [hc, Bool.false_eq_true, if_false, hb] at h ⊢; exact ih h
theorem cmp_nd {X : Cx} {scope : Scope} {cl : List (Str × Addr)} {C : Addr} {s₀ : Shared} {H₀ : Hp} {fp : List Addr} (h : (scope.names.map (·.1)).Nodup) : (X.cmp scope cl C s₀ H₀ fp).N.Nodup := h
theorem inv_cmp {X : Cx} {pins : List (Addr × Obj)} {σ : St} {H : Hp} {s3 : Shared} {scope : Scope} {cl : List (Str × Addr)} {fp : List Addr} {h' : Heap} {tk : Nat} (I : Inv X pins σ H s3) (ok : CmpOk X scope)
    (hcl : ∀ x c, cl.lookup x = some c → X.env.cells.lookup x = some c) (hcf : ∀ y ∈ scope.names, y.2 = .free → ∃ c, cl.lookup y.1 = some c)
    (hfp : ∀ b ∈ fp, FpOk X pins H b) (hlt : ∀ b ∈ fp, b < s3.heap.objs.size) (hns : h'.Ns s3.heap.objs.size fun _ => none) (hk : ∀ b o, s3.heap.get? b = some o → h'.get? b = some o) :
    Inv (X.cmp scope cl s3.heap.objs.size s3 H fp) [] (cmpSt X.N σ scope.names) H { s3 with heap := h', toks := tk } := by
  have kinds : ∀ x, ((X.cmp scope cl s3.heap.objs.size s3 H fp).env.kindOf x = some .cell ∨ (X.cmp scope cl s3.heap.objs.size s3 H fp).env.kindOf x = some .free) → scope.names.lookup x = some .free := fun x hx => by
    rcases hx with hx | hx
    · rcases relabel_kind hx with q | q
      · exact absurd rfl (ok.nocell _ (mem_lookup q))
      · exact q.1
    · rcases relabel_kind hx with q | q
      · exact q
      · exact q.1
  refine ⟨⟨I.ok.mod, ok.kind, I.ok.glob, I.ok.blt, Nat.le_refl _, fun x y c h1 h2 => I.ok.inj x y c (hcl _ _ h1) (hcl _ _ h2), fun x hx => ?_, (fun x c z _ => nomatch z), I.ok.hd, I.ok.frames, .inl rfl,
      fun b hb => ⟨Nat.ne_of_lt (hlt b hb), fun x c e => (hfp b hb).2.2.2.2.1 x c (hcl _ _ e)⟩, I.bs, Nat.le_trans I.ok.bsz I.sz, fun b o e hb => ?_, fun b hb z => ?_, I.stack, I.stkFree⟩,
    rfl, I.bare, Un.kept hk, ⟨_, hns, fun i x v h1 h2 h3 => ?_⟩, fun x c e => ?_, I.hok.fresh (Nat.le_refl _), fun x c e => I.freeC x c (hcl _ _ e), fun p hp => absurd (show p ∈ ([] : List (Addr × Obj)) from hp) (by simp), I.hok.kept hk, ?_⟩
  · have q := kinds x hx
    exact hcf _ (mem_lookup q) rfl
  · rcases (hfp b hb).2.2.2.1 with z | z
    · exact I.ok.noex b o e z
    · exact Nat.lt_irrefl _ (Nat.lt_of_lt_of_le (Heap.lt_size e) (Nat.le_trans I.ok.bsz z))
  · rcases List.mem_cons.mp (I.stkSub b z) with q | q
    · exact (hfp b hb).2.1 q
    · exact (hfp b hb).2.2.1 q
  · -- the names
    have e1 : (scope.names.map (·.1))[i]? = some x := h1
    have e2 : (cmpSt X.N σ scope.names)[i]? = some (some v) := h2
    unfold cmpSt at e2
    rw [List.getElem?_map] at e1 e2
    cases q : scope.names[i]? with
    | none => rw [q] at e1; cases e1
    | some y =>
      rw [q] at e1 e2
      simp only [Option.map_some, Option.some.injEq] at e1 e2
      have hy : y ∈ scope.names := List.mem_of_getElem? q
      by_cases hf : y.2 = .free
      · rw [if_pos hf] at e2
        obtain ⟨j, j1, j2⟩ := slotOf_get e2
        obtain ⟨m, hn, hl⟩ := I.loc
        have vis : Vis X.env.scope y.1 := by
          rcases ok.free y hy hf with z | z
          · exact .inr (.inl z)
          · exact .inr (.inr z)
        obtain ⟨u, ru, lk⟩ := hl j y.1 v j1 j2 vis
        refine ⟨u, ru, .inr ?_⟩
        obtain ⟨c, hc⟩ := hcf y hy hf
        have hc' := hcl _ _ hc
        rcases lk with ⟨hkl, _⟩ | ⟨_, c2, hc2, hcell⟩
        · rcases ok.free y hy hf with z | z
          · rw [hkl] at z; cases z
          · rw [hkl] at z; cases z
        · rw [hc'] at hc2
          cases hc2
          subst e1
          refine ⟨?_, c, hc, let ⟨o, ho, hd⟩ := hcell; ⟨o, hk _ o ho, hd⟩⟩
          have h3' : Vis (relabel scope X.env) y.1 := h3
          have lf : scope.names.lookup y.1 = some .free := by rw [lookup_of_mem ok.nd hy, hf]
          rcases h3' with z | z | z
          · rcases relabel_kind z with q | q
            · rw [lf] at q; cases q
            · cases q.2.1
          · exact .inl z
          · exact .inr z
      · rw [if_neg hf] at e2; cases e2
  · obtain ⟨v, hv⟩ := I.cell x c (hcl _ _ e)
    obtain ⟨o, ho, hd⟩ := hv
    exact ⟨v, o, hk _ o ho, hd⟩
  · show (cmpSt X.N σ scope.names).length = (scope.names.map (·.1)).length
    unfold cmpSt
    rw [List.length_map, List.length_map]
def PTs (X : Cx) (ifs : List Expr) (t : TT) : Prop :=
  ∀ (pins : List (Addr × Obj)) (s : Shared) (σ : St) (H : Hp) (Q : Bool → Hp → Prop), Inv X pins σ H s → t σ H Q →
    wpAny (model X.prog X.w) X.A (forIn ifs true fun c r => if r = true then do let ok ← isTrue c X.env (eval c X.env); pure (ForInStep.yield ok) else pure (ForInStep.yield r)) (TP X pins σ Q) X.xe s
def tNoIf : TT := fun _ H Q => Q true H
theorem pts_nil {X : Cx} : PTs X [] tNoIf := fun _ _ _ H _ I h => wpAny_tests_nil ⟨H, I, h⟩
theorem pts_one {X : Cx} {c : Expr} {t : TT} (h : PT X c t) : PTs X [c] t := fun pins s σ H Q I q => wpAny_tests_one (h pins s σ H Q I q)
def tLC (N : List Str) (names : List (Str × NameKind)) (wi : TI) (g : TG) (tc : TT) (te : TE) : TE := fun σ H Q => wi σ H fun J H1 => ∀ D, H1 D = none →
  ∃ W : Nat → Nat → St → Hp → Prop, (∃ m, W 0 m (cmpSt N σ names) (upd H1 D (.lst []))) ∧ ∀ i m σ2 H2, W i m σ2 H2 →
    (J.stop i H2 ∧ Q (.ref D) H2) ∨ (J.go i H2 ∧ ∀ x H3, J.yld i H2 x H3 → g x σ2 H3 fun σ4 H4 => tc σ4 H4 fun b H5 =>
      if b = true then te σ4 H5 fun v H6 => ∃ ys m', H6 D = some (.lst ys) ∧ ys.length < sizeLine ∧ m' < m ∧ W (i + 1) m' σ4 (upd H6 D (.lst (ys ++ [v]))) else ∃ m', m' < m ∧ W (i + 1) m' σ4 H5)
theorem pinsAt_get {X : Cx} {pins : List (Addr × Obj)} {σ : St} {H : Hp} {s : Shared} {fp : List Addr} {h : Heap} (I : Inv X (pins ++ pinsAt fp h) σ H s) {b : Addr} {o : Obj} (hb : b ∈ fp) (e : h.get? b = some o) : s.heap.get? b = some o ∧ H b = none := by
  have q := I.pin (b, o) (List.mem_append_right _ (List.mem_append_right _ (mem_pinsAt hb e)))
  exact ⟨q.1, q.2.1⟩
theorem after_cmp {X : Cx} {pins : List (Addr × Obj)} {σ σc : St} {H H' : Hp} {s3 s' : Shared} {scope : Scope} {cl : List (Str × Addr)} {fp : List Addr} {h' : Heap} {pins' : List (Addr × Obj)} (I : Inv X pins σ H s3)
    (hfp : ∀ b ∈ fp, FpOk X pins H b) (J : Inv (X.cmp scope cl s3.heap.objs.size s3 H fp) pins' σc H' s') (hb : Heap.SameBut s3.heap.objs.size s'.heap h') : Inv X pins σ H' { s' with heap := h' } := by
  have hC : H' s3.heap.objs.size = none := J.free
  have u : Un (frs X.stack) fp H H' s3.heap s'.heap := J.base
  have lt : ∀ b o, s3.heap.get? b = some o → b ≠ s3.heap.objs.size := fun b o e z => by subst z; exact Nat.lt_irrefl _ (Heap.lt_size e)
  have u' : Un (frs X.stack) fp H H' s3.heap h' := ⟨fun b o e n h1 h2 => hb.extBut b o (lt b o e) (u.keep b o e n h1 h2), fun b o e n h1 h2 => (by
      obtain ⟨sl, q⟩ := u.slot b o e n h1 h2; exact ⟨sl, hb.extBut b _ (lt b o e) q⟩), u.free, fun b o e h2 => (by
      obtain ⟨o', q⟩ := u.there b o e h2; exact ⟨o', hb.extBut b _ (lt b o e) q⟩), u.tups, u.frzs, u.tbls⟩
  have hok : HOk X.prog X.w H' h' := fun a o e => (J.hok a o e).stay (fun b v hbv q => hb.extBut b v (fun z => by
      subst z
      rcases hbv with z | z
      · subst z; rw [hC] at e; cases e
      · rw [hC] at z; cases z) q) (fun _ q => q) fun _ _ q => q
  exact I.call' (ch := fp) (J.os.trans rfl) u' hok J.bare fun b hbf => ⟨(hfp b hbf).2.2.2.1, (hfp b hbf).2.1, (hfp b hbf).2.2.2.2.1, (hfp b hbf).2.2.2.2.2⟩
theorem Inv.but {X : Cx} {pins : List (Addr × Obj)} {σ : St} {H : Hp} {s : Shared} {C : Addr} {h' : Heap} (I : Inv X pins σ H s) (f : FpOk X pins H C) (sb : Heap.SameBut C s.heap h') : Inv X pins σ H { s with heap := h' } :=
  I.turned (t' := s.toks) (fun b o hb e => sb.extBut b o hb e) f.1 f.2.1 f.2.2.2.1 f.2.2.2.2.1 f.2.2.2.2.2
theorem ns_lookup_nil {h : Heap} {a : Addr} (x : h.Ns a fun y => ([] : List (Str × Value)).reverse.lookup y) : h.Ns a fun _ => none := by
  have e : (fun y : Str => ([] : List (Str × Value)).reverse.lookup y) = fun _ => none := by funext y; simp
  rw [e] at x; exact x
theorem block_lc {X : Cx} {elt tg iter : Expr} {ifs : List Expr} {scope : Scope} {pos : Pos} {g : TG} {tc : TT} {te : TE} (hc : X.calm = true) (ok : CmpOk X scope)
    (hg : ∀ cl C s₀ H₀ fp, PG (X.cmp scope cl C s₀ H₀ fp) tg g) (ht : ∀ cl C s₀ H₀ fp, PTs (X.cmp scope cl C s₀ H₀ fp) ifs tc) (he : ∀ cl C s₀ H₀ fp, PE (X.cmp scope cl C s₀ H₀ fp) elt te)
    {pins : List (Addr × Obj)} {σ : St} {H1 : Hp} {s2 : Shared} {cl : List (Str × Addr)} {it : Addr} {fp : List Addr} {tn : Nat → Heap → Prop} {J : It} {Q : VK} {E : Value → Shared → Prop} {RR : Value → Addr → Result → Shared → Prop}
    (hcl : ∀ x c, cl.lookup x = some c → X.env.cells.lookup x = some c) (hcf : ∀ y ∈ scope.names, y.2 = .free → ∃ c, cl.lookup y.1 = some c)
    (I : Inv X pins σ H1 s2) (T : Turn X.prog X.w X.K tg J fp it tn) (st : tn 0 s2.heap) (hf : ∀ b ∈ fp, FpOk X pins H1 b)
    (h : ∀ D, H1 D = none → ∃ W : Nat → Nat → St → Hp → Prop, (∃ m, W 0 m (cmpSt X.N σ scope.names) (upd H1 D (.lst []))) ∧ ∀ i m σ2 H2, W i m σ2 H2 →
      (J.stop i H2 ∧ Q (.ref D) H2) ∨ (J.go i H2 ∧ ∀ x H3, J.yld i H2 x H3 → g x σ2 H3 fun σ4 H4 => tc σ4 H4 fun b H5 =>
        if b = true then te σ4 H5 fun v H6 => ∃ ys m', H6 D = some (.lst ys) ∧ ys.length < sizeLine ∧ m' < m ∧ W (i + 1) m' σ4 (upd H6 D (.lst (ys ++ [v]))) else ∃ m', m' < m ∧ W (i + 1) m' σ4 H5))
    (hRR : ∀ D C H' s' m, s'.heap.Ns C m → Inv X pins σ H' s' → FpOk X pins H' C → Q (.ref D) H' → RR (.ref D) C (.ok .next) s') :
    wpAny (model X.prog X.w) X.A (newList []) (fun acc s₃ => wpAny (model X.prog X.w) X.A (newFunctionEnv scope X.env.globals cl [] X.env.qual none .none (some X.env)) (fun cenv s₄ =>
      codeAny (model X.prog X.w) X.A (.compStart (.ListComp elt [⟨tg, iter, ifs, 0⟩] scope pos) 0 (.ref it) acc { cenv with scope := relabel scope X.env }) (RR acc cenv.locals) s₄) E s₃) E s2 := by
  refine wpAny_newObj_type ?_
  have I3 : Inv X pins σ (upd H1 s2.heap.objs.size (.lst [])) { s2 with heap := s2.heap.push { cls := .type "list", data := .seq ([] : List Value).toArray }, toks := s2.toks } := I.lnew (its := []) .nil (Nat.zero_le _)
  have hD : H1 s2.heap.objs.size = none := I.fresh
  obtain ⟨W, ⟨m0, w0⟩, turn⟩ := h _ hD
  generalize hs3 : ({ s2 with heap := s2.heap.push { cls := .type "list", data := .seq ([] : List Value).toArray }, toks := s2.toks } : Shared) = s3 at I3
  have kp3 : ∀ b o, s2.heap.get? b = some o → s3.heap.get? b = some o := fun b o e => by rw [← hs3]; exact Heap.get?_push_of_some _ e
  have fpD : ∀ b ∈ fp, b ≠ s2.heap.objs.size := fun b hb z => by
    obtain ⟨o, e, _⟩ := T.obj _ _ st b hb
    subst z
    exact Nat.lt_irrefl _ (Heap.lt_size e)
  have hf3 : ∀ b ∈ fp, FpOk X pins (upd H1 s2.heap.objs.size (.lst [])) b := fun b hb => ⟨by rw [upd_ne (fpD b hb)]; exact (hf b hb).1, (hf b hb).2⟩
  have st3 : tn 0 s3.heap := T.keep _ _ _ st fun b _ o e => kp3 b o e
  have lt3 : ∀ b ∈ fp, b < s3.heap.objs.size := fun b hb => by
    obtain ⟨o, e, _⟩ := T.obj _ _ st3 b hb
    exact Heap.lt_size e
  generalize hDD : s2.heap.objs.size = D at *
  refine wpAny_newFunctionEnv ok.nocell (by intro y hy; simp at hy) (fun h₁ hns₁ hsb₁ => ?_) ok.kind
  have kp4 : ∀ b o, s3.heap.get? b = some o → h₁.get? b = some o := fun b o e => hsb₁.extBut b o (fun z => by subst z; exact Nat.lt_irrefl _ (Heap.lt_size e)) (Heap.get?_push_of_some _ e)
  have I4 := inv_cmp (tk := s3.toks + ([] : List (Str × Value)).length) I3 ok hcl hcf hf3 lt3 (ns_lookup_nil hns₁) kp4
  generalize hs4 : ({ s3 with heap := h₁, toks := s3.toks + ([] : List (Str × Value)).length } : Shared) = s4 at I4
  have st4 : tn 0 s4.heap := by rw [← hs4]; exact T.keep _ _ _ st3 fun b _ o e => kp4 b o e
  show codeAny _ _ (.compStart (.ListComp elt [⟨tg, iter, ifs, 0⟩] scope pos) 0 (.ref it) (.ref D) (compEnvC scope cl s3.heap.objs.size X.env)) (RR (.ref D) s3.heap.objs.size) s4
  generalize hX : X.cmp scope cl s3.heap.objs.size s3 (upd H1 D (.lst [])) fp = Y at I4
  have eA : Y.A = X.A := by rw [← hX]; rfl
  have eP : Y.prog = X.prog := by rw [← hX]; rfl
  have eW : Y.w = X.w := by rw [← hX]; rfl
  have eK : Y.K = X.K := by rw [← hX]; rfl
  have eC : Y.calm = true := by rw [← hX]; exact hc
  have eE : Y.env = compEnvC scope cl s3.heap.objs.size X.env := by rw [← hX]; rfl
  have eX : Y.xe = fun _ _ => False := by rw [← hX]; rfl
  have stat : ∀ {H' : Hp}, (∀ b ∈ fp, H' b = none) → ∀ b ∈ fp, FpOk Y [] H' b := fun {H'} hn b hb => by
    subst hX
    refine ⟨hn b hb, Nat.ne_of_lt (lt3 b hb), fun z => ?_, .inl hb, fun x c e => (hf3 b hb).2.2.2.2.1 x c (hcl _ _ e), fun p hp => absurd (show p ∈ ([] : List (Addr × Obj)) from hp) (by simp)⟩
    rcases List.mem_cons.mp (I3.stkSub b z) with q | q
    · exact (hf3 b hb).2.1 q
    · exact (hf3 b hb).2.2.1 q
  have loop : codeAny (model X.prog X.w) X.A (.compLoop (.ListComp elt [⟨tg, iter, ifs, 0⟩] scope pos) 0 (.ref it) (.ref D) (compEnvC scope cl s3.heap.objs.size X.env)) (RR (.ref D) s3.heap.objs.size) s4 := by
    refine codeAny_compLoop_listG (fun n s' => ∃ i σ' H', Inv Y [] σ' H' s' ∧ tn i s'.heap ∧ (∀ b ∈ fp, H' b = none) ∧ W i n σ' H') ?_ m0 ⟨0, _, _, I4, st4, fun b hb => (hf3 b hb).1, w0⟩
    rintro n s5 ⟨i, σ5, H5, I5, st5, fr5, w5⟩
    rcases turn i n σ5 H5 w5 with ⟨stop, qn⟩ | ⟨go, step⟩
    · have q := T.done Y eP eW eK eC i [] s5 σ5 H5 (fun _ _ => False) I5 (stat fr5) st5 stop
      rw [eA] at q
      refine thn q fun r s6 ⟨hr, I6⟩ => ?_
      subst hr
      obtain ⟨m6, hn6, _⟩ := I6.loc
      have hn6' : s6.heap.Ns s3.heap.objs.size m6 := by rw [eE] at hn6; exact hn6
      rw [← hX] at I6
      exact hRR D s3.heap.objs.size H5 s6 m6 hn6' (after_cmp I3 hf3 I6 (.refl ..)) (I3.fpOk (Nat.le_refl _) I6.free) qn
    · have q := T.item Y eP eW eK eC i [] s5 σ5 H5 (fun _ _ => False) I5 (stat fr5) st5 go
      rw [eA] at q
      refine thn q fun r s6 ⟨u, hr, h6⟩ => ?_
      subst hr
      refine thn h6 fun _ s7 ⟨x, H7, I7, r7, y7, st7, fr7⟩ => ?_
      have I7' := I7.pinned (stat fr7) (T.obj _ _ st7)
      have gg : PG Y tg g := by rw [← hX]; exact hg _ _ _ _ _
      have tt : PTs Y ifs tc := by rw [← hX]; exact ht _ _ _ _ _
      have ee : PE Y elt te := by rw [← hX]; exact he _ _ _ _ _
      have q1 := gg _ s7 σ5 H7 x u _ I7' r7 (step x H7 y7)
      rw [eA, eP, eW, eE, eX] at q1
      refine thn q1 fun _ s8 ⟨σ8, H8, I8, q8⟩ => ?_
      have q2 := tt _ s8 σ8 H8 _ I8 q8
      rw [eA, eP, eW, eE, eX] at q2
      refine thn q2 fun b s9 ⟨H9, I9, q9⟩ => ?_
      have again : ∀ {H10 : Hp} {s10 : Shared}, Inv Y ([] ++ pinsAt fp s7.heap) σ8 H10 s10 → (∃ m', m' < n ∧ W (i + 1) m' σ8 H10) → ∃ m, m < n ∧ ∃ i σ' H', Inv Y [] σ' H' s10 ∧ tn i s10.heap ∧ (∀ b ∈ fp, H' b = none) ∧ W i m σ' H' := fun {H10 s10} J10 ⟨m', hm, w10⟩ => by
        refine ⟨m', hm, i + 1, σ8, H10, J10.unpinned, T.keep _ _ _ st7 fun b hb o e => (pinsAt_get J10 hb e).1, fun b hb => ?_, w10⟩
        obtain ⟨o, e, _⟩ := T.obj _ _ st7 b hb
        exact (pinsAt_get J10 hb e).2
      cases b with
      | false =>
        rw [if_neg Bool.false_ne_true] at q9 ⊢
        exact again I9 q9
      | true =>
        rw [if_pos rfl] at q9 ⊢
        have q3 := ee _ s9 σ8 H9 _ I9 q9
        rw [eA, eP, eW, eE, eX] at q3
        refine thn q3 fun u9 s10 ⟨v, H10, I10, r10, ys, m', hys, hz, hm, w10⟩ => ?_
        have q4 := mt_append (X := Y) _ s10 σ8 H10 (.ref D) [v] (.ref D) [u9] (fun _ H' => H' = upd H10 D (.lst (ys ++ [v]))) I10 rfl (.cons r10 .nil) ⟨D, ys, v, rfl, rfl, hys, hz, rfl⟩
        rw [eA, eP, eW, eX] at q4
        refine thn q4 fun _ s11 ⟨_, H11, I11, _, e11⟩ => ?_
        subst e11
        exact again I11 ⟨m', hm, w10⟩
  exact codeAny_compStart_list loop (T.self X.A 0 s4 _ _ st4 loop)
theorem pe_lc {X : Cx} {elt tg iter : Expr} {ifs : List Expr} {scope : Scope} {pos : Pos} {wi : TI} {g : TG} {tc : TT} {te : TE} {sc : Scope} (hc : X.calm = true) (hsc : X.env.scope = sc) (hok : cmpB sc scope = true) (hi : PI X tg iter wi)
    (hg : ∀ cl C s₀ H₀ fp, PG (X.cmp scope cl C s₀ H₀ fp) tg g) (ht : ∀ cl C s₀ H₀ fp, PTs (X.cmp scope cl C s₀ H₀ fp) ifs tc) (he : ∀ cl C s₀ H₀ fp, PE (X.cmp scope cl C s₀ H₀ fp) elt te)
    (hs : ∀ x, foldedSetIterable iter X.env x = pure x := by intro _; rfl) : PE X (.ListComp elt [⟨tg, iter, ifs, 0⟩] scope pos) (tLC X.N scope.names wi g tc te) := by
  intro pins s σ H Q I h
  have ok := CmpOk.of (X := X) (hsc ▸ hok)
  obtain ⟨cl, e1, e2, e3⟩ := closureFor_some (scope := scope) (env := X.env) fun y hy hf => I.ok.has y.1 (ok.free y hy hf)
  rw [eval_ListComp]
  refine wpAny_comprehension_free (use := none) rfl hs e1 ok.kind (fun y hy hl => by rw [lookup_of_mem ok.nd hy, hl]) (thn (hi pins s σ H _ I h) fun v s1 h1 => thn h1 fun itv s2 h2 => ?_)
  obtain ⟨it, fp, tn, J, H2, e, I2, T, st2, f2, q⟩ := h2
  subst e
  refine block_lc (E := X.xe) (RR := fun acc C => compPost (model X.prog X.w) X.A X.xe none (EP X pins σ Q) acc C) hc ok hg ht he e2 e3 I2 T st2 f2 q ?_
  intro D C H' s' m hn hI f hQ
  exact ⟨m, hn, fun h' sb => ⟨.ref D, H', hI.but f sb, rfl, hQ⟩⟩
theorem ps_lc {X : Cx} {elt tg iter : Expr} {ifs : List Expr} {scope : Scope} {pos spos py : Pos} {wi : TI} {g : TG} {tc : TT} {te : TE} {i : Nat} {y : Str} (hN : X.N.Nodup) (hy : X.N[i]? = some y) (hyl : X.env.scope.names.lookup y = some .local)
    (hsw : swapsWith (.ListComp elt [⟨tg, iter, ifs, 0⟩] scope pos) (some (.Name y py)) spos.line X.env = pure true)
    {sc : Scope} (hc : X.calm = true) (hsc : X.env.scope = sc) (hok : cmpB sc scope = true) (hi : PI X tg iter wi)
    (hg : ∀ cl C s₀ H₀ fp, PG (X.cmp scope cl C s₀ H₀ fp) tg g) (ht : ∀ cl C s₀ H₀ fp, PTs (X.cmp scope cl C s₀ H₀ fp) ifs tc) (he : ∀ cl C s₀ H₀ fp, PE (X.cmp scope cl C s₀ H₀ fp) elt te)
    (hs : ∀ x, foldedSetIterable iter X.env x = pure x := by intro _; rfl) : PS X (.Assign [.Name y py] (.ListComp elt [⟨tg, iter, ifs, 0⟩] scope pos) spos) (tAsg (tLC X.N scope.names wi g tc te) (gName i)) := by
  intro pins s σ H D I h
  have ok := CmpOk.of (X := X) (hsc ▸ hok)
  obtain ⟨cl, e1, e2, e3⟩ := closureFor_some (scope := scope) (env := X.env) fun y hy hf => I.ok.has y.1 (ok.free y hy hf)
  rw [exec_Assign_Name_used _ _ _ _ hsw]
  refine wpAny_bind (wpAny_standAt (wpAny_bind ?_))
  show wpAny _ X.A (do let _ ← comprehension (.ListComp elt [⟨tg, iter, ifs, 0⟩] scope pos) scope X.env _ (newList []) false (eval iter X.env) (some (assign (.Name y py) X.env))) _ _ s
  have hh : tLC X.N scope.names wi g tc te σ H fun x H1 => D.nx (σ.set i (some x)) H1 := h
  refine wpAny_bind (wpAny_mono (wpAny_comprehension_free (use := some (assign (.Name y py) X.env)) (Q := fun _ s' => SP X pins D .next s') rfl hs e1 ok.kind (fun y hy hl => by rw [lookup_of_mem ok.nd hy, hl])
    (thn (hi pins s σ H _ I hh) fun v s1 h1 => thn h1 fun itv s2 h2 => ?_)) (fun _ s' hq => wpAny_pure (wpAny_pure hq)) fun _ _ e => e)
  obtain ⟨it, fp, tn, J, H2, e, I2, T, st2, f2, q⟩ := h2
  subst e
  refine block_lc (Q := fun x H1 => D.nx (σ.set i (some x)) H1) (E := X.xe) (RR := fun acc C => compPost (model X.prog X.w) X.A X.xe (some (assign (.Name y py) X.env)) (fun _ s' => SP X pins D .next s') acc C) hc ok hg ht he e2 e3 I2 T st2 f2 q ?_
  intro D' C H' s' m hn I' f hQ
  refine wpAny_assign_Name (store_ok2 I' hN hy (.inl hyl) (v := .ref D') rfl (fun s'' I'' hd => ?_) (.inr hyl))
  obtain ⟨a, sb, ha⟩ := hd
  have hne : C ≠ a := by
    rcases ha with rfl | ha
    · exact f.2.1
    · exact fun z => f.2.2.2.2.1 y a ha z.symm
  exact ⟨m, hn.sameBut sb hne, fun h' sb' => ⟨_, H', I''.but f sb', hQ⟩⟩
end L2
namespace L2
open PySem PySem.Spec PyProof.Rows
section
variable {X : Cx}
theorem set_add {pins : List (Addr × Obj)} {s : Shared} {σ : St} {H : Hp} {D : Addr} {S : Int → Bool} {n : Nat} {k : Int} {u : Value} {Q : VK} {E : Value → Shared → Prop} (I : Inv X pins σ H s) (hD : H D = some (.set S n)) (r : RelV (.int k) u) (hb : n + 1 < scanBound)
    (q : Q .non (upd H D (.set (fun k' => S k' || decide (k' = k)) (if S k then n else n + 1)))) : wpAny (model X.prog X.w) X.A (call (.builtin "set.add") [.ref D, u]) (EP X pins σ Q) E s := by
  obtain ⟨t, rfl⟩ := r
  have hS : s.heap.SetOf (intKind X.prog X.w) D S n := I.hok D _ hD
  refine call_set_add (knd := intKind X.prog X.w) (k := k) (by simp [intKind, Value.isInt]) rfl hS hb fun h' sb hS' => ?_
  refine ⟨.non, _, I.write (o := .set (fun k' => S k' || decide (k' = k)) (if S k then n else n + 1)) (t' := s.toks + 1) (x := D) (e := D) (by rw [hD]; exact trivial) (.inl rfl) (fun b u hb e => sb.extBut b u hb e) ?_ hS', rfl, q⟩
  obtain ⟨o, _, _, _, e, _⟩ := hS'
  exact ⟨o, e⟩
theorem call_len_setI : CallR X (.builtin "len") (fun xs H Q => ∃ p S n, xs = [.ref p] ∧ H p = some (.set S n) ∧ Q (.int n) H) := by
  intro pins s σ H xs us Q I r h
  obtain ⟨p, S, n, rfl, hp, q⟩ := h
  obtain ⟨u, rfl, ru⟩ := vals1 r
  cases (show u = Value.ref p from ru)
  obtain ⟨o, es, ep, t, e, hex, hd, _, _, hb, hf, hn⟩ := (show s.heap.SetOf (intKind X.prog X.w) p S n from I.hok p _ hp)
  subst hn
  refine call_len_set e hex hd hf ?_ ⟨.int es.size, H, I.tok _, ⟨_, rfl⟩, q⟩
  have : es.size < 4096 := hb
  omega
theorem vals_bl : ∀ {bs : List Bool} {us : List Value}, Vals (bs.map V.bl) us → us = bs.map Value.bool
  | [], _, .nil => rfl
  | b :: r, _, .cons h t => by rw [List.map_cons, ← vals_bl t, (show _ = Value.bool b from h)]
theorem range_allB (bs : List Bool) : ((List.range bs.length).all fun i => (bs[i]?).getD true) = bs.all id := by
  rw [Bool.eq_iff_iff, List.all_eq_true, List.all_eq_true]
  constructor
  · intro h b hb
    obtain ⟨i, hi, rfl⟩ := List.mem_iff_getElem.mp hb
    have := h i (List.mem_range.mpr hi)
    simpa [hi] using this
  · intro h i hi
    have hi' := List.mem_range.mp hi
    have := h bs[i] (List.getElem_mem hi')
    simpa [hi'] using this
theorem call_allB (hc : X.calm = true) : CallR X (.builtin "all") (fun xs H Q => ∃ (p : Addr) (bs : List Bool), xs = [.ref p] ∧ SqL X.K H p (bs.map V.bl) ∧ Q (.bl (bs.all id)) H) := by
  intro pins s σ H xs us Q I r h
  obtain ⟨l, bs, rfl, hp, q⟩ := h
  obtain ⟨u, rfl, ru⟩ := vals1 r
  cases (show u = Value.ref l from ru)
  obtain ⟨its, rv, pl, hz⟩ := I.list hp
  have ei := vals_bl rv
  subst ei
  have hl := pl.isList
  have hlt : l < s.heap.objs.size := by obtain ⟨_, e, _⟩ := hl; exact Heap.lt_size e
  refine call_all_walk (wpAny_pyIter_list hl ?_)
  refine ⟨s.heap.objs.size, [s.heap.objs.size, l], [s.heap.objs.size], (bs.map Value.bool).toArray.size, _, _, fun i => (bs[i]?).getD true, rfl, Walks.list (A := X.A.in1) (I.ok.hd hc) _ l (Nat.ne_of_lt hlt) (bs.map Value.bool).toArray,
    ⟨⟨_, Heap.get?_push_size _ rfl, rfl, rfl⟩, hl.push _⟩, fun i v s' Q' E' hP hQ => ?_, fun h' tk hk => ?_⟩
  · have hP' : (bs.map Value.bool)[i]? = some v := by simpa using hP
    rw [List.getElem?_map] at hP'
    cases e : bs[i]? with
    | none => rw [e] at hP'; cases hP'
    | some b =>
      rw [e] at hP'
      simp only [Option.map_some, Option.some.injEq] at hP'
      subst hP'
      simp only [e, Option.getD_some] at hQ
      exact wpAny_truthy_bool hQ
  · have e : ((List.range (bs.map Value.bool).toArray.size).all fun i => (bs[i]?).getD true) = bs.all id := by
      rw [List.size_toArray, List.length_map]; exact range_allB bs
    rw [e]
    exact ⟨.bl (bs.all id), H, I.kept (PyProof.Rows.LSm.kept_iter hk), rfl, q⟩
theorem call_isi {T : String} {b : Bool} {t : Value} {x : V} {pins : List (Addr × Obj)} {s : Shared} {σ : St} {H : Hp} {u : Value} {Q : VK} {E : Value → Shared → Prop} (I : Inv X pins σ H s) (rx : RelV x u) (ty : TyOf X.K H x t) (e : kitOne X.K t (.type T) = some b) (q : Q (.bl b) H) :
    wpAny (model X.prog X.w) X.A (call (.builtin "isinstance") [u, .type T]) (EP X pins σ Q) E s :=
  isinst_ok I rx ty e fun tk => ⟨.bl b, H, I.tok tk, rfl, q⟩
theorem call_isiR : CallR X (.builtin "isinstance") (fun xs H Q => ∃ (x : V) (T : String) (t : Value) (b : Bool), xs = [x, .ty T] ∧ TyOf X.K H x t ∧ kitOne X.K t (.type T) = some b ∧ Q (.bl b) H) := by
  intro pins s σ H xs us Q I r h
  obtain ⟨x, T, t, b, rfl, ty, e, q⟩ := h
  obtain ⟨u, w', rfl, ru, rw'⟩ := vals2 r
  cases (show w' = Value.type T from rw')
  exact call_isi I ru ty e q
def rEqL (K : Frag) : R2 := fun x y H Q => ∃ (a b : Addr) (ns ms : List Int), x = .ref a ∧ y = .ref b ∧ SqL K H a (ns.map V.int) ∧ SqL K H b (ms.map V.int) ∧ Q (.bl (decide (ns = ms))) H
theorem op_eqL (hu : X.A.units + 64 < cLine) : OpR X (compareOp .Eq) (rEqL X.K) := by
  intro pins s σ H x y v u Q I rx ry h
  obtain ⟨a, b, ns, ms, rfl, rfl, ha, hb, q⟩ := h
  cases (show v = Value.ref a from rx)
  cases (show u = Value.ref b from ry)
  obtain ⟨its, rv, pl, _⟩ := I.list ha
  obtain ⟨its2, rv2, pl2, _⟩ := I.list hb
  exact PySem.W.eq_intsK pl.isList (L2.intsAre_of rv) pl2.isList (L2.intsAre_of rv2) hu ⟨.bl _, H, I, rfl, q⟩
end
def tSC (N : List Str) (names : List (Str × NameKind)) (wi : TI) (g : TG) (tc : TT) (te : TE) : TE := fun σ H Q => wi σ H fun J H1 => ∀ D, H1 D = none →
  ∃ W : Nat → Nat → St → Hp → Prop, (∃ m, W 0 m (cmpSt N σ names) (upd H1 D (.set (fun _ => false) 0))) ∧ ∀ i m σ2 H2, W i m σ2 H2 →
    (J.stop i H2 ∧ Q (.ref D) H2) ∨ (J.go i H2 ∧ ∀ x H3, J.yld i H2 x H3 → g x σ2 H3 fun σ4 H4 => tc σ4 H4 fun b H5 =>
      if b = true then te σ4 H5 fun v H6 => ∃ k S n m', v = .int k ∧ H6 D = some (.set S n) ∧ n + 1 < scanBound ∧ m' < m ∧ W (i + 1) m' σ4 (upd H6 D (.set (fun k' => S k' || decide (k' = k)) (if S k then n else n + 1))) else ∃ m', m' < m ∧ W (i + 1) m' σ4 H5)
theorem block_sc {X : Cx} {elt tg iter : Expr} {ifs : List Expr} {scope : Scope} {pos : Pos} {g : TG} {tc : TT} {te : TE} (hc : X.calm = true) (ok : CmpOk X scope)
    (hg : ∀ cl C s₀ H₀ fp, PG (X.cmp scope cl C s₀ H₀ fp) tg g) (ht : ∀ cl C s₀ H₀ fp, PTs (X.cmp scope cl C s₀ H₀ fp) ifs tc) (he : ∀ cl C s₀ H₀ fp, PE (X.cmp scope cl C s₀ H₀ fp) elt te)
    {pins : List (Addr × Obj)} {σ : St} {H1 : Hp} {s2 : Shared} {cl : List (Str × Addr)} {it : Addr} {fp : List Addr} {tn : Nat → Heap → Prop} {J : It} {Q : VK} {E : Value → Shared → Prop} {RR : Value → Addr → Result → Shared → Prop}
    (hcl : ∀ x c, cl.lookup x = some c → X.env.cells.lookup x = some c) (hcf : ∀ y ∈ scope.names, y.2 = .free → ∃ c, cl.lookup y.1 = some c)
    (I : Inv X pins σ H1 s2) (T : Turn X.prog X.w X.K tg J fp it tn) (st : tn 0 s2.heap) (hf : ∀ b ∈ fp, FpOk X pins H1 b)
    (h : ∀ D, H1 D = none → ∃ W : Nat → Nat → St → Hp → Prop, (∃ m, W 0 m (cmpSt X.N σ scope.names) (upd H1 D (.set (fun _ => false) 0))) ∧ ∀ i m σ2 H2, W i m σ2 H2 →
      (J.stop i H2 ∧ Q (.ref D) H2) ∨ (J.go i H2 ∧ ∀ x H3, J.yld i H2 x H3 → g x σ2 H3 fun σ4 H4 => tc σ4 H4 fun b H5 =>
        if b = true then te σ4 H5 fun v H6 => ∃ k S n m', v = .int k ∧ H6 D = some (.set S n) ∧ n + 1 < scanBound ∧ m' < m ∧ W (i + 1) m' σ4 (upd H6 D (.set (fun k' => S k' || decide (k' = k)) (if S k then n else n + 1))) else ∃ m', m' < m ∧ W (i + 1) m' σ4 H5))
    (hRR : ∀ D C H' s' m, s'.heap.Ns C m → Inv X pins σ H' s' → FpOk X pins H' C → Q (.ref D) H' → RR (.ref D) C (.ok .next) s') :
    wpAny (model X.prog X.w) X.A (newSet (.type "set")) (fun acc s₃ => wpAny (model X.prog X.w) X.A (newFunctionEnv scope X.env.globals cl [] X.env.qual none .none (some X.env)) (fun cenv s₄ =>
      codeAny (model X.prog X.w) X.A (.compStart (.SetComp elt [⟨tg, iter, ifs, 0⟩] scope pos) 0 (.ref it) acc { cenv with scope := relabel scope X.env }) (RR acc cenv.locals) s₄) E s₃) E s2 := by
  refine wpAny_newSet_of (knd := intKind X.prog X.w) fun led hS0 => ?_
  have I3 : Inv X pins σ (upd H1 s2.heap.objs.size (.set (fun _ => false) 0)) { s2 with heap := s2.heap.push { cls := .type "set", dict := none, data := .set #[] 0 (.fresh 0 0 led) }, toks := s2.toks } := I.laid (t' := s2.toks) (fun b u e => Heap.get?_push_of_some _ e) (Nat.le_refl _) hS0
  have hD : H1 s2.heap.objs.size = none := I.fresh
  obtain ⟨W, ⟨m0, w0⟩, turn⟩ := h _ hD
  generalize hs3 : ({ s2 with heap := s2.heap.push { cls := .type "set", dict := none, data := .set #[] 0 (.fresh 0 0 led) }, toks := s2.toks } : Shared) = s3 at I3
  have kp3 : ∀ b o, s2.heap.get? b = some o → s3.heap.get? b = some o := fun b o e => by rw [← hs3]; exact Heap.get?_push_of_some _ e
  have fpD : ∀ b ∈ fp, b ≠ s2.heap.objs.size := fun b hb z => by
    obtain ⟨o, e, _⟩ := T.obj _ _ st b hb
    subst z
    exact Nat.lt_irrefl _ (Heap.lt_size e)
  have hf3 : ∀ b ∈ fp, FpOk X pins (upd H1 s2.heap.objs.size (.set (fun _ => false) 0)) b := fun b hb => ⟨by rw [upd_ne (fpD b hb)]; exact (hf b hb).1, (hf b hb).2⟩
  have st3 : tn 0 s3.heap := T.keep _ _ _ st fun b _ o e => kp3 b o e
  have lt3 : ∀ b ∈ fp, b < s3.heap.objs.size := fun b hb => by
    obtain ⟨o, e, _⟩ := T.obj _ _ st3 b hb
    exact Heap.lt_size e
  generalize hDD : s2.heap.objs.size = D at *
  refine wpAny_newFunctionEnv ok.nocell (by intro y hy; simp at hy) (fun h₁ hns₁ hsb₁ => ?_) ok.kind
  have kp4 : ∀ b o, s3.heap.get? b = some o → h₁.get? b = some o := fun b o e => hsb₁.extBut b o (fun z => by subst z; exact Nat.lt_irrefl _ (Heap.lt_size e)) (Heap.get?_push_of_some _ e)
  have I4 := inv_cmp (tk := s3.toks + ([] : List (Str × Value)).length) I3 ok hcl hcf hf3 lt3 (ns_lookup_nil hns₁) kp4
  generalize hs4 : ({ s3 with heap := h₁, toks := s3.toks + ([] : List (Str × Value)).length } : Shared) = s4 at I4
  have st4 : tn 0 s4.heap := by rw [← hs4]; exact T.keep _ _ _ st3 fun b _ o e => kp4 b o e
  show codeAny _ _ (.compStart (.SetComp elt [⟨tg, iter, ifs, 0⟩] scope pos) 0 (.ref it) (.ref D) (compEnvC scope cl s3.heap.objs.size X.env)) (RR (.ref D) s3.heap.objs.size) s4
  generalize hX : X.cmp scope cl s3.heap.objs.size s3 (upd H1 D (.set (fun _ => false) 0)) fp = Y at I4
  have eA : Y.A = X.A := by rw [← hX]; rfl
  have eP : Y.prog = X.prog := by rw [← hX]; rfl
  have eW : Y.w = X.w := by rw [← hX]; rfl
  have eK : Y.K = X.K := by rw [← hX]; rfl
  have eC : Y.calm = true := by rw [← hX]; exact hc
  have eE : Y.env = compEnvC scope cl s3.heap.objs.size X.env := by rw [← hX]; rfl
  have eX : Y.xe = fun _ _ => False := by rw [← hX]; rfl
  have stat : ∀ {H' : Hp}, (∀ b ∈ fp, H' b = none) → ∀ b ∈ fp, FpOk Y [] H' b := fun {H'} hn b hb => by
    subst hX
    refine ⟨hn b hb, Nat.ne_of_lt (lt3 b hb), fun z => ?_, .inl hb, fun x c e => (hf3 b hb).2.2.2.2.1 x c (hcl _ _ e), fun p hp => absurd (show p ∈ ([] : List (Addr × Obj)) from hp) (by simp)⟩
    rcases List.mem_cons.mp (I3.stkSub b z) with q | q
    · exact (hf3 b hb).2.1 q
    · exact (hf3 b hb).2.2.1 q
  have loop : codeAny (model X.prog X.w) X.A (.compLoop (.SetComp elt [⟨tg, iter, ifs, 0⟩] scope pos) 0 (.ref it) (.ref D) (compEnvC scope cl s3.heap.objs.size X.env)) (RR (.ref D) s3.heap.objs.size) s4 := by
    refine codeAny_compLoop_setG (fun n s' => ∃ i σ' H', Inv Y [] σ' H' s' ∧ tn i s'.heap ∧ (∀ b ∈ fp, H' b = none) ∧ W i n σ' H') ?_ m0 ⟨0, _, _, I4, st4, fun b hb => (hf3 b hb).1, w0⟩
    rintro n s5 ⟨i, σ5, H5, I5, st5, fr5, w5⟩
    rcases turn i n σ5 H5 w5 with ⟨stop, qn⟩ | ⟨go, step⟩
    · have q := T.done Y eP eW eK eC i [] s5 σ5 H5 (fun _ _ => False) I5 (stat fr5) st5 stop
      rw [eA] at q
      refine thn q fun r s6 ⟨hr, I6⟩ => ?_
      subst hr
      obtain ⟨m6, hn6, _⟩ := I6.loc
      have hn6' : s6.heap.Ns s3.heap.objs.size m6 := by rw [eE] at hn6; exact hn6
      rw [← hX] at I6
      exact hRR D s3.heap.objs.size H5 s6 m6 hn6' (after_cmp I3 hf3 I6 (.refl ..)) (I3.fpOk (Nat.le_refl _) I6.free) qn
    · have q := T.item Y eP eW eK eC i [] s5 σ5 H5 (fun _ _ => False) I5 (stat fr5) st5 go
      rw [eA] at q
      refine thn q fun r s6 ⟨u, hr, h6⟩ => ?_
      subst hr
      refine thn h6 fun _ s7 ⟨x, H7, I7, r7, y7, st7, fr7⟩ => ?_
      have I7' := I7.pinned (stat fr7) (T.obj _ _ st7)
      have gg : PG Y tg g := by rw [← hX]; exact hg _ _ _ _ _
      have tt : PTs Y ifs tc := by rw [← hX]; exact ht _ _ _ _ _
      have ee : PE Y elt te := by rw [← hX]; exact he _ _ _ _ _
      have q1 := gg _ s7 σ5 H7 x u _ I7' r7 (step x H7 y7)
      rw [eA, eP, eW, eE, eX] at q1
      refine thn q1 fun _ s8 ⟨σ8, H8, I8, q8⟩ => ?_
      have q2 := tt _ s8 σ8 H8 _ I8 q8
      rw [eA, eP, eW, eE, eX] at q2
      refine thn q2 fun b s9 ⟨H9, I9, q9⟩ => ?_
      have again : ∀ {H10 : Hp} {s10 : Shared}, Inv Y ([] ++ pinsAt fp s7.heap) σ8 H10 s10 → (∃ m', m' < n ∧ W (i + 1) m' σ8 H10) → ∃ m, m < n ∧ ∃ i σ' H', Inv Y [] σ' H' s10 ∧ tn i s10.heap ∧ (∀ b ∈ fp, H' b = none) ∧ W i m σ' H' := fun {H10 s10} J10 ⟨m', hm, w10⟩ => by
        refine ⟨m', hm, i + 1, σ8, H10, J10.unpinned, T.keep _ _ _ st7 fun b hb o e => (pinsAt_get J10 hb e).1, fun b hb => ?_, w10⟩
        obtain ⟨o, e, _⟩ := T.obj _ _ st7 b hb
        exact (pinsAt_get J10 hb e).2
      cases b with
      | false =>
        rw [if_neg Bool.false_ne_true] at q9 ⊢
        exact again I9 q9
      | true =>
        rw [if_pos rfl] at q9 ⊢
        have q3 := ee _ s9 σ8 H9 _ I9 q9
        rw [eA, eP, eW, eE, eX] at q3
        refine thn q3 fun u9 s10 ⟨v, H10, I10, r10, k, S, n', m', hv, hys, hz, hm, w10⟩ => ?_
        subst hv
        have q4 := set_add (X := Y) (E := Y.xe) (Q := fun _ H' => H' = upd H10 D (.set (fun k' => S k' || decide (k' = k)) (if S k then n' else n' + 1))) I10 hys r10 hz rfl
        rw [eA, eP, eW, eX] at q4
        refine thn q4 fun _ s11 ⟨_, H11, I11, _, e11⟩ => ?_
        subst e11
        exact again I11 ⟨m', hm, w10⟩
  exact codeAny_compStart_set loop (T.self X.A 0 s4 _ _ st4 loop)
theorem pe_sc {X : Cx} {elt tg iter : Expr} {ifs : List Expr} {scope : Scope} {pos : Pos} {wi : TI} {g : TG} {tc : TT} {te : TE} {sc : Scope} (hc : X.calm = true) (hsc : X.env.scope = sc) (hok : cmpB sc scope = true) (hi : PI X tg iter wi)
    (hg : ∀ cl C s₀ H₀ fp, PG (X.cmp scope cl C s₀ H₀ fp) tg g) (ht : ∀ cl C s₀ H₀ fp, PTs (X.cmp scope cl C s₀ H₀ fp) ifs tc) (he : ∀ cl C s₀ H₀ fp, PE (X.cmp scope cl C s₀ H₀ fp) elt te)
    (hs : ∀ x, foldedSetIterable iter X.env x = pure x := by intro _; rfl) : PE X (.SetComp elt [⟨tg, iter, ifs, 0⟩] scope pos) (tSC X.N scope.names wi g tc te) := by
  intro pins s σ H Q I h
  have ok := CmpOk.of (X := X) (hsc ▸ hok)
  obtain ⟨cl, e1, e2, e3⟩ := closureFor_some (scope := scope) (env := X.env) fun y hy hf => I.ok.has y.1 (ok.free y hy hf)
  show wpAny _ _ (comprehension (.SetComp elt [⟨tg, iter, ifs, 0⟩] scope pos) scope X.env _ (newSet (.type "set")) false (eval iter X.env)) _ _ s
  refine wpAny_comprehension_free (use := none) rfl hs e1 ok.kind (fun y hy hl => by rw [lookup_of_mem ok.nd hy, hl]) (thn (hi pins s σ H _ I h) fun v s1 h1 => thn h1 fun itv s2 h2 => ?_)
  obtain ⟨it, fp, tn, J, H2, e, I2, T, st2, f2, q⟩ := h2
  subst e
  refine block_sc (E := X.xe) (RR := fun acc C => compPost (model X.prog X.w) X.A X.xe none (EP X pins σ Q) acc C) hc ok hg ht he e2 e3 I2 T st2 f2 q ?_
  intro D C H' s' m hn hI f hQ
  exact ⟨m, hn, fun h' sb => ⟨.ref D, H', hI.but f sb, rfl, hQ⟩⟩
end L2
namespace L2
open PySem PySem.Spec PyProof.Rows
theorem same_upd {H : Hp} {D : Addr} {o : HO} (h : H D = none) : Same H (upd H D o) := fun b u e => by rw [upd_ne (ne_of_none e h)]; exact e
theorem Same.tupS {K : Frag} {H H' : Hp} {a : Addr} {xs : List V} (e : Same H H') (h : SqT K H a xs) : SqT K H' a xs := by
  rcases h with (h | ⟨o, h⟩) | h
  · exact .inl (.inl (e _ _ h))
  · exact .inl (.inr ⟨o, e _ _ h⟩)
  · exact .inr h
def ItOf (J : It) (H1 : Hp) (xs : List V) : Prop := ∀ H2, Same H1 H2 → ∀ i, (i < xs.length → J.go i H2 ∧ ∀ x H3, J.yld i H2 x H3 → H3 = H2 ∧ xs[i]? = some x) ∧ (i = xs.length → J.stop i H2)
theorem itOf_list {K : Frag} {H : Hp} {a : Addr} {xs : List V} (h : SqL K H a xs) : ItOf (Itl K a) H xs := fun H2 s i =>
  ⟨fun hi => ⟨⟨xs, xs[i], s.seq h, by simp [hi]⟩, fun x H3 y => ⟨y.1, y.2 xs (s.seq h)⟩⟩, fun e => ⟨xs, s.seq h, by omega⟩⟩
theorem itOf_tup {K : Frag} {H : Hp} {a : Addr} {xs : List V} (h : SqT K H a xs) : ItOf (Itt K a) H xs := fun H2 s i =>
  ⟨fun hi => ⟨⟨xs, xs[i], s.tupS h, by simp [hi]⟩, fun x H3 y => ⟨y.1, y.2 xs (s.tupS h)⟩⟩, fun e => ⟨xs, s.tupS h, by omega⟩⟩
def rngV (lo : Int) (n : Nat) : List V := (List.range n).map fun i => V.int (lo + (i : Nat))
theorem rngV_len (lo : Int) (n : Nat) : (rngV lo n).length = n := by unfold rngV; simp
theorem itOf_rng {H : Hp} (lo : Int) (n : Nat) : ItOf (Itr lo n) H (rngV lo n) := fun H2 s i =>
  ⟨fun hi => ⟨by rw [rngV_len] at hi; exact hi, fun x H3 y => ⟨y.1, by
    rw [rngV_len] at hi
    unfold rngV
    rw [List.getElem?_map, List.getElem?_range hi, y.2]; rfl⟩⟩, fun e => by rw [rngV_len] at e; exact Nat.le_of_eq e.symm⟩
theorem take_snoc {α : Type} {xs : List α} {i : Nat} {x : α} (h : xs[i]? = some x) : xs.take (i + 1) = xs.take i ++ [x] := by
  rw [List.take_add_one, h]; rfl
theorem lc_pure {J : It} {H1 : Hp} {xs : List V} {g : TG} {tc : TT} {te : TE} {σ0 : St} {Q : Addr → Hp → Prop} (hJ : ItOf J H1 xs) (S : St → Prop) (p : V → Bool) (f : V → V) (h0 : S σ0) (hz : xs.length ≤ sizeLine)
    (hs : ∀ (x : V) (σ2 : St) (H2 : Hp) (Qt : St → V → Hp → Prop) (Qf : St → Hp → Prop), x ∈ xs → Same H1 H2 → S σ2 → (p x = true → ∀ σ4, S σ4 → Qt σ4 (f x) H2) → (p x = false → ∀ σ4, S σ4 → Qf σ4 H2) →
      g x σ2 H2 fun σ4 H4 => tc σ4 H4 fun b H5 => if b = true then te σ4 H5 fun v H6 => Qt σ4 v H6 else Qf σ4 H5)
    (hQ : ∀ D, H1 D = none → Q D (upd H1 D (.lst ((xs.filter p).map f)))) :
    ∀ D, H1 D = none → ∃ W : Nat → Nat → St → Hp → Prop, (∃ m, W 0 m σ0 (upd H1 D (.lst []))) ∧ ∀ i m σ2 H2, W i m σ2 H2 →
      (J.stop i H2 ∧ Q D H2) ∨ (J.go i H2 ∧ ∀ x H3, J.yld i H2 x H3 → g x σ2 H3 fun σ4 H4 => tc σ4 H4 fun b H5 =>
        if b = true then te σ4 H5 fun v H6 => ∃ ys m', H6 D = some (.lst ys) ∧ ys.length < sizeLine ∧ m' < m ∧ W (i + 1) m' σ4 (upd H6 D (.lst (ys ++ [v]))) else ∃ m', m' < m ∧ W (i + 1) m' σ4 H5) := by
  intro D hD
  refine ⟨fun i m σ2 H2 => i ≤ xs.length ∧ m = xs.length - i ∧ S σ2 ∧ H2 = upd H1 D (.lst (((xs.take i).filter p).map f)), ⟨xs.length, Nat.zero_le _, by omega, h0, by simp⟩, ?_⟩
  rintro i m σ2 H2 ⟨hi, rfl, hS, rfl⟩
  obtain ⟨j1, j2⟩ := hJ _ (same_upd hD) i
  by_cases hlt : i < xs.length
  · obtain ⟨go, yl⟩ := j1 hlt
    refine .inr ⟨go, fun x H3 y => ?_⟩
    obtain ⟨rfl, hx⟩ := yl x H3 y
    have et := take_snoc hx
    refine hs x σ2 _ _ _ (List.mem_of_getElem? hx) (same_upd hD) hS (fun hp σ4 h4 => ?_) fun hp σ4 h4 => ?_
    · refine ⟨_, xs.length - (i + 1), upd_same, ?_, by omega, hlt, rfl, h4, ?_⟩
      · rw [List.length_map]
        have := List.length_filter_le p (xs.take i)
        rw [List.length_take] at this
        omega
      · rw [upd_upd, et, List.filter_append, List.map_append, List.filter_cons, hp]; rfl
    · refine ⟨xs.length - (i + 1), by omega, hlt, rfl, h4, ?_⟩
      rw [et, List.filter_append, List.filter_cons, hp]
      simp
  · have e : i = xs.length := by omega
    refine .inl ⟨j2 e, ?_⟩
    subst e
    rw [List.take_length]
    exact hQ D hD
def dset (ks : List Int) : (Int → Bool) × Nat := ks.foldl (fun a k => (fun k' => a.1 k' || decide (k' = k), if a.1 k then a.2 else a.2 + 1)) (fun _ => false, 0)
theorem dset_snoc (ks : List Int) (k : Int) : dset (ks ++ [k]) = (fun k' => (dset ks).1 k' || decide (k' = k), if (dset ks).1 k then (dset ks).2 else (dset ks).2 + 1) := by
  unfold dset; rw [List.foldl_append]; rfl
theorem revInd {P : List Int → Prop} (h0 : P []) (hs : ∀ l a, P l → P (l ++ [a])) (l : List Int) : P l := by
  have key : ∀ r : List Int, P r.reverse := fun r => by
    induction r with
    | nil => exact h0
    | cons a r ih => rw [List.reverse_cons]; exact hs _ _ ih
  rw [← List.reverse_reverse l]; exact key _
theorem dset_mem (ks : List Int) (k : Int) : (dset ks).1 k = true ↔ k ∈ ks := by
  revert k
  induction ks using revInd with
  | h0 => intro k; simp [dset]
  | hs l a ih => intro k; rw [dset_snoc]; simp [ih]
theorem dset_le (ks : List Int) : (dset ks).2 ≤ ks.length := by
  induction ks using revInd with
  | h0 => simp [dset]
  | hs l a ih => rw [dset_snoc]; simp only [List.length_append, List.length_singleton]; split <;> omega
theorem nodup_snoc {l : List Int} {a : Int} : (l ++ [a]).Nodup ↔ l.Nodup ∧ a ∉ l := by
  rw [List.nodup_append]
  constructor
  · rintro ⟨h1, _, h3⟩; exact ⟨h1, fun h => h3 a h a (by simp) rfl⟩
  · rintro ⟨h1, h2⟩
    refine ⟨h1, by simp, fun x hx y hy e => ?_⟩
    simp at hy; subst hy; subst e; exact h2 hx
theorem dset_nodup (ks : List Int) : (dset ks).2 = ks.length ↔ ks.Nodup := by
  induction ks using revInd with
  | h0 => simp [dset]
  | hs l a ih =>
    rw [dset_snoc, nodup_snoc, ← ih]
    have hle := dset_le l
    simp only [List.length_append, List.length_singleton]
    by_cases h : (dset l).1 a = true
    · rw [if_pos h]
      constructor
      · intro e; omega
      · rintro ⟨_, h2⟩; exact absurd ((dset_mem l a).mp h) h2
    · rw [if_neg h]
      constructor
      · intro e; exact ⟨by omega, fun h2 => h ((dset_mem l a).mpr h2)⟩
      · rintro ⟨e, _⟩; omega
end L2
namespace L2
open PySem PySem.Spec PyProof.Rows
theorem boot_ty_int : bootBuiltins "int" = some (.type "int") := by decide +kernel
theorem boot_ty_bool : bootBuiltins "bool" = some (.type "bool") := by decide +kernel
theorem boot_ty_list : bootBuiltins "list" = some (.type "list") := by decide +kernel
theorem boot_ty_tuple : bootBuiltins "tuple" = some (.type "tuple") := by decide +kernel
section
variable {X : Cx}
theorem pe_globI {x : Str} {i : Int} {pos : Pos} (hg : Gl X x) (hm : ∃ t, X.mg x = some (.int i t)) (hd : (x == ("__debug__" : Str)) = false := by decide) : PE X (.Name x pos) (tC (.int i)) := by
  obtain ⟨t, hm⟩ := hm
  exact pe_glob hg hm ⟨t, rfl⟩ hd
end
end L2
namespace L2
open PySem
theorem PSs.rd {X : Cx} {st : List Stmt} {t : TS} {D : Ends} {σ : St} {H : Hp} (h : PSs X st t) (q : t D σ H) : ∃ t, PSs X st t ∧ t D σ H := ⟨t, h, q⟩
end L2
namespace L2
open PySem
def tCut (t : TS) : TS := fun D σ H => ∃ M : L2.St → Hp → Prop, t { D with nx := M } σ H ∧ ∀ σ' H', M σ' H' → D.nx σ' H'
theorem ps_cut {X : Cx} {st : Stmt} {t : TS} (h : PS X st t) : PS X st (tCut t) := by
  intro pins s σ H D I q
  obtain ⟨M, q, hM⟩ := q
  refine thn (h pins s σ H _ I q) fun f s' r => ?_
  cases f with
  | next => obtain ⟨σ', H', I', m⟩ := r; exact ⟨σ', H', I', hM _ _ m⟩
  | brk => exact r
  | cont => exact r
  | ret u => exact r
end L2
namespace L2
theorem pj {j : Int} (h : decide ((0 : Int) < j) = true := by decide) : (0 : Int) < j := of_decide_eq_true h
theorem cdiv {x j : Int} (h : decide ((0 : Int) < j ∧ j < 1073741824) = true := by decide) : CDiv x j := by unfold CDiv; exact of_decide_eq_true h
theorem cmulR {x j : Int} (h : decide (-(2 ^ 64) < j ∧ j < 2 ^ 64) = true := by decide) : CMul x j := .inr (of_decide_eq_true h)
theorem cmulL {x j : Int} (h : decide (-(2 ^ 64) < x ∧ x < 2 ^ 64) = true := by decide) : CMul x j := .inl (of_decide_eq_true h)
end L2
namespace L2
open PySem PySem.Spec PyProof.Rows
theorem iteD {c A B : Prop} [Decidable c] (h1 : c → A) (h2 : ¬ c → B) : if decide c = true then A else B := by
  by_cases h : c
  · rw [if_pos (decide_eq_true h)]; exact h1 h
  · rw [if_neg (by rw [decide_eq_false h]; decide)]; exact h2 h
theorem iteND {c A B : Prop} [Decidable c] (h1 : ¬ c → A) (h2 : c → B) : if (!decide c) = true then A else B := by
  by_cases h : c
  · rw [if_neg (by rw [decide_eq_true h]; decide)]; exact h2 h
  · rw [if_pos (by rw [decide_eq_false h]; rfl)]; exact h1 h
theorem iteB {b : Bool} {A B : Prop} (h1 : b = true → A) (h2 : b = false → B) : if b = true then A else B := by
  cases b with
  | true => exact iteT (h1 rfl)
  | false => exact iteF (h2 rfl)
theorem iteNB {b : Bool} {A B : Prop} (h1 : b = false → A) (h2 : b = true → B) : if (!b) = true then A else B := by
  cases b with
  | true => exact iteF (h2 rfl)
  | false => exact iteT (h1 rfl)
theorem get_lt {α : Type} {xs : List α} {i : Nat} {x : α} (h : xs[i]? = some x) : i < xs.length := by
  by_cases q : i < xs.length
  · exact q
  · rw [List.getElem?_eq_none (Nat.le_of_not_lt q)] at h; cases h
theorem get_some {α : Type} {xs : List α} {i : Nat} (h : i < xs.length) : ∃ x, xs[i]? = some x := ⟨xs[i], by simp [h]⟩
theorem lc_by {J : It} {H1 : Hp} {xs ws : List V} {g : TG} {tc : TT} {te : TE} {σ0 : L2.St} {Q : Addr → Hp → Prop} (hJ : ItOf J H1 xs) (S : L2.St → Prop) (h0 : S σ0) (hw : ws.length = xs.length) (hz : xs.length ≤ sizeLine)
    (hs : ∀ (i : Nat) (x w : V) (σ2 : L2.St) (H2 : Hp) (Qt : L2.St → V → Hp → Prop) (Qf : L2.St → Hp → Prop), xs[i]? = some x → ws[i]? = some w → Same H1 H2 → S σ2 → (∀ σ4, S σ4 → Qt σ4 w H2) →
      g x σ2 H2 fun σ4 H4 => tc σ4 H4 fun b H5 => if b = true then te σ4 H5 fun v H6 => Qt σ4 v H6 else Qf σ4 H5)
    (hQ : ∀ D, H1 D = none → Q D (upd H1 D (.lst ws))) :
    ∀ D, H1 D = none → ∃ W : Nat → Nat → L2.St → Hp → Prop, (∃ m, W 0 m σ0 (upd H1 D (.lst []))) ∧ ∀ i m σ2 H2, W i m σ2 H2 →
      (J.stop i H2 ∧ Q D H2) ∨ (J.go i H2 ∧ ∀ x H3, J.yld i H2 x H3 → g x σ2 H3 fun σ4 H4 => tc σ4 H4 fun b H5 =>
        if b = true then te σ4 H5 fun v H6 => ∃ ys m', H6 D = some (.lst ys) ∧ ys.length < sizeLine ∧ m' < m ∧ W (i + 1) m' σ4 (upd H6 D (.lst (ys ++ [v]))) else ∃ m', m' < m ∧ W (i + 1) m' σ4 H5) := by
  intro D hD
  refine ⟨fun i m σ2 H2 => i ≤ xs.length ∧ m = xs.length - i ∧ S σ2 ∧ H2 = upd H1 D (.lst (ws.take i)), ⟨xs.length, Nat.zero_le _, by omega, h0, by simp⟩, ?_⟩
  rintro i m σ2 H2 ⟨hi, rfl, hS, rfl⟩
  obtain ⟨j1, j2⟩ := hJ _ (same_upd hD) i
  by_cases hlt : i < xs.length
  · obtain ⟨go, yl⟩ := j1 hlt
    refine .inr ⟨go, fun x H3 y => ?_⟩
    obtain ⟨rfl, hx⟩ := yl x H3 y
    obtain ⟨w, hw'⟩ := get_some (xs := ws) (i := i) (by omega)
    have et := take_snoc hw'
    refine hs i x w σ2 _ _ _ hx hw' (same_upd hD) hS fun σ4 h4 => ?_
    refine ⟨_, xs.length - (i + 1), upd_same, ?_, by omega, hlt, rfl, h4, ?_⟩
    · rw [List.length_take]; omega
    · rw [upd_upd, et]
  · have e : i = xs.length := by omega
    refine .inl ⟨j2 e, ?_⟩
    rw [e, ← hw, List.take_length]
    exact hQ D hD
theorem sc_by {J : It} {H1 : Hp} {xs : List V} {ks : List Int} {g : TG} {tc : TT} {te : TE} {σ0 : L2.St} {Q : Addr → Hp → Prop} (hJ : ItOf J H1 xs) (S : L2.St → Prop) (h0 : S σ0) (hw : ks.length = xs.length) (hz : xs.length < 4000)
    (hs : ∀ (i : Nat) (x : V) (k : Int) (σ2 : L2.St) (H2 : Hp) (Qt : L2.St → V → Hp → Prop) (Qf : L2.St → Hp → Prop), xs[i]? = some x → ks[i]? = some k → Same H1 H2 → S σ2 → (∀ σ4, S σ4 → Qt σ4 (.int k) H2) →
      g x σ2 H2 fun σ4 H4 => tc σ4 H4 fun b H5 => if b = true then te σ4 H5 fun v H6 => Qt σ4 v H6 else Qf σ4 H5)
    (hQ : ∀ D, H1 D = none → Q D (upd H1 D (.set (dset ks).1 (dset ks).2))) :
    ∀ D, H1 D = none → ∃ W : Nat → Nat → L2.St → Hp → Prop, (∃ m, W 0 m σ0 (upd H1 D (.set (fun _ => false) 0))) ∧ ∀ i m σ2 H2, W i m σ2 H2 →
      (J.stop i H2 ∧ Q D H2) ∨ (J.go i H2 ∧ ∀ x H3, J.yld i H2 x H3 → g x σ2 H3 fun σ4 H4 => tc σ4 H4 fun b H5 =>
        if b = true then te σ4 H5 fun v H6 => ∃ k S n m', v = .int k ∧ H6 D = some (.set S n) ∧ n + 1 < scanBound ∧ m' < m ∧ W (i + 1) m' σ4 (upd H6 D (.set (fun k' => S k' || decide (k' = k)) (if S k then n else n + 1))) else ∃ m', m' < m ∧ W (i + 1) m' σ4 H5) := by
  intro D hD
  refine ⟨fun i m σ2 H2 => i ≤ xs.length ∧ m = xs.length - i ∧ S σ2 ∧ H2 = upd H1 D (.set (dset (ks.take i)).1 (dset (ks.take i)).2), ⟨xs.length, Nat.zero_le _, by omega, h0, by simp [dset]⟩, ?_⟩
  rintro i m σ2 H2 ⟨hi, rfl, hS, rfl⟩
  obtain ⟨j1, j2⟩ := hJ _ (same_upd hD) i
  by_cases hlt : i < xs.length
  · obtain ⟨go, yl⟩ := j1 hlt
    refine .inr ⟨go, fun x H3 y => ?_⟩
    obtain ⟨rfl, hx⟩ := yl x H3 y
    obtain ⟨k, hk⟩ := get_some (xs := ks) (i := i) (by omega)
    have et := take_snoc hk
    refine hs i x k σ2 _ _ _ hx hk (same_upd hD) hS fun σ4 h4 => ?_
    refine ⟨k, _, _, xs.length - (i + 1), rfl, upd_same, ?_, by omega, hlt, rfl, h4, ?_⟩
    · have h1 := dset_le (ks.take i)
      rw [List.length_take] at h1
      show (dset (ks.take i)).2 + 1 < 4096
      omega
    · rw [upd_upd, et, dset_snoc]
  · have e : i = xs.length := by omega
    refine .inl ⟨j2 e, ?_⟩
    rw [e, ← hw, List.take_length]
    exact hQ D hD
def PairAt (K : Frag) (H : Hp) (v : V) (l : Int × Int) : Prop := ∃ q, v = .ref q ∧ SqT K H q [.int l.1, .int l.2]
structure PairsAt (K : Frag) (H : Hp) (vs : List V) (L : List (Int × Int)) : Prop where
  len : vs.length = L.length
  at_ : ∀ (i : Nat) (l : Int × Int), L[i]? = some l → ∃ v, vs[i]? = some v ∧ PairAt K H v l
structure LinesAt (K : Frag) (H : Hp) (p : Addr) (L : List (Int × Int)) : Prop where
  ex : ∃ vs, SqT K H p vs ∧ PairsAt K H vs L
theorem PairAt.same {K : Frag} {H H' : Hp} {v : V} {l : Int × Int} (h : PairAt K H v l) (s : Same H H') : PairAt K H' v l := let ⟨q, e, t⟩ := h; ⟨q, e, s.tupS t⟩
theorem PairsAt.same {K : Frag} {H H' : Hp} {vs : List V} {L : List (Int × Int)} (h : PairsAt K H vs L) (s : Same H H') : PairsAt K H' vs L :=
  ⟨h.len, fun i l e => let ⟨v, e1, e2⟩ := h.at_ i l e; ⟨v, e1, e2.same s⟩⟩
theorem LinesAt.same {K : Frag} {H H' : Hp} {p : Addr} {L : List (Int × Int)} (h : LinesAt K H p L) (s : Same H H') : LinesAt K H' p L := let ⟨vs, e1, e2⟩ := h.ex; ⟨vs, s.tupS e1, e2.same s⟩
theorem PairsAt.snoc {K : Frag} {H : Hp} {vs : List V} {L : List (Int × Int)} {v : V} {l : Int × Int} (h : PairsAt K H vs L) (p : PairAt K H v l) : PairsAt K H (vs ++ [v]) (L ++ [l]) := by
  refine ⟨by rw [List.length_append, List.length_append, h.len]; rfl, fun i m e => ?_⟩
  by_cases hi : i < L.length
  · rw [List.getElem?_append_left hi] at e
    obtain ⟨u, e1, e2⟩ := h.at_ i m e
    exact ⟨u, by rw [List.getElem?_append_left (by rw [h.len]; exact hi)]; exact e1, e2⟩
  · have hlt := get_lt e
    rw [List.length_append, List.length_singleton] at hlt
    have ei : i = L.length := by omega
    subst ei
    rw [List.getElem?_append_right (Nat.le_refl _), Nat.sub_self] at e
    simp at e; subst e
    exact ⟨v, by rw [List.getElem?_append_right (by rw [h.len]; exact Nat.le_refl _), h.len, Nat.sub_self]; rfl, p⟩
theorem PairsAt.get {K : Frag} {H : Hp} {vs : List V} {L : List (Int × Int)} {i : Nat} {v : V} (h : PairsAt K H vs L) (e : vs[i]? = some v) : ∃ l, L[i]? = some l ∧ PairAt K H v l := by
  have hi := get_lt e
  obtain ⟨l, hl⟩ := get_some (xs := L) (i := i) (by rw [← h.len]; exact hi)
  obtain ⟨u, e1, e2⟩ := h.at_ i l hl
  rw [e] at e1; cases e1
  exact ⟨l, hl, e2⟩
end L2
namespace L2
open PySem PySem.Spec PyProof.Rows
theorem pgc (i : Nat) {X : Cx} {scope : Scope} {cl : List (Str × Addr)} {C : Addr} {s₀ : Shared} {H₀ : Hp} {fp : List Addr} {x : Str} {pos : Pos} (hN : (scope.names.map (·.1)).Nodup := by decide +kernel)
    (hi : (scope.names.map (·.1))[i]? = some x := by rfl) (hx : (relabel scope X.env).names.lookup x = some .local := by rfl) : PG (X.cmp scope cl C s₀ H₀ fp) (.Name x pos) (gName i) :=
  pg_name (X := X.cmp scope cl C s₀ H₀ fp) (cmp_nd hN) hi (.inl hx) (.inr hx)
theorem pgc2 (i j : Nat) {X : Cx} {scope : Scope} {cl : List (Str × Addr)} {C : Addr} {s₀ : Shared} {H₀ : Hp} {fp : List Addr} {x y : Str} {px py pos : Pos} {k : Nat} (hN : (scope.names.map (·.1)).Nodup := by decide +kernel)
    (hi : (scope.names.map (·.1))[i]? = some x := by rfl) (hx : (relabel scope X.env).names.lookup x = some .local := by rfl)
    (hj : (scope.names.map (·.1))[j]? = some y := by rfl) (hy : (relabel scope X.env).names.lookup y = some .local := by rfl) (hc : X.calm = true := by rfl) :
    PG (X.cmp scope cl C s₀ H₀ fp) (.Tuple [.Name x px, .Name y py] k pos) (gTup X.K 2 (gCons (gName i) (gCons (gName j) gNil))) :=
  pg_tup (X := X.cmp scope cl C s₀ H₀ fp) (n := 2) hc (pgs_cons (pg_name (cmp_nd hN) hi (.inl hx) (.inr hx)) (pgs_cons (pg_name (cmp_nd hN) hj (.inl hy) (.inr hy)) pgs_nil))
section
variable {X : Cx} {elt tg iter : Expr} {ifs : List Expr} {scope : Scope} {pos : Pos} {wi : TI} {g : TG} {tc : TT} {te : TE}
theorem lcA (sc : Scope) (hi : PI X tg iter wi)
    (hg : ∀ cl C s₀ H₀ fp, PG (X.cmp scope cl C s₀ H₀ fp) tg g) (ht : ∀ cl C s₀ H₀ fp, PTs (X.cmp scope cl C s₀ H₀ fp) ifs tc) (he : ∀ cl C s₀ H₀ fp, PE (X.cmp scope cl C s₀ H₀ fp) elt te)
    (hc : X.calm = true := by rfl) (hsc : X.env.scope = sc := by rfl) (hok : cmpB sc scope = true := by decide +kernel)
    (hs : ∀ x, foldedSetIterable iter X.env x = pure x := by intro _; rfl) : PE X (.ListComp elt [⟨tg, iter, ifs, 0⟩] scope pos) (tLC X.N scope.names wi g tc te) := pe_lc hc hsc hok hi hg ht he hs
theorem scA (sc : Scope) (hi : PI X tg iter wi)
    (hg : ∀ cl C s₀ H₀ fp, PG (X.cmp scope cl C s₀ H₀ fp) tg g) (ht : ∀ cl C s₀ H₀ fp, PTs (X.cmp scope cl C s₀ H₀ fp) ifs tc) (he : ∀ cl C s₀ H₀ fp, PE (X.cmp scope cl C s₀ H₀ fp) elt te)
    (hc : X.calm = true := by rfl) (hsc : X.env.scope = sc := by rfl) (hok : cmpB sc scope = true := by decide +kernel)
    (hs : ∀ x, foldedSetIterable iter X.env x = pure x := by intro _; rfl) : PE X (.SetComp elt [⟨tg, iter, ifs, 0⟩] scope pos) (tSC X.N scope.names wi g tc te) := pe_sc hc hsc hok hi hg ht he hs
theorem lcS (sc : Scope) (i : Nat) {y : Str} {spos py : Pos} (hN : X.N.Nodup) (hi : PI X tg iter wi)
    (hg : ∀ cl C s₀ H₀ fp, PG (X.cmp scope cl C s₀ H₀ fp) tg g) (ht : ∀ cl C s₀ H₀ fp, PTs (X.cmp scope cl C s₀ H₀ fp) ifs tc) (he : ∀ cl C s₀ H₀ fp, PE (X.cmp scope cl C s₀ H₀ fp) elt te)
    (hy : X.N[i]? = some y := by rfl) (hyl : X.env.scope.names.lookup y = some .local := by rfl)
    (hsw : swapsWith (.ListComp elt [⟨tg, iter, ifs, 0⟩] scope pos) (some (.Name y py)) spos.line X.env = pure true := by rfl)
    (hc : X.calm = true := by rfl) (hsc : X.env.scope = sc := by rfl) (hok : cmpB sc scope = true := by decide +kernel)
    (hs : ∀ x, foldedSetIterable iter X.env x = pure x := by intro _; rfl) : PS X (.Assign [.Name y py] (.ListComp elt [⟨tg, iter, ifs, 0⟩] scope pos) spos) (tAsg (tLC X.N scope.names wi g tc te) (gName i)) :=
  ps_lc hN hy hyl hsw hc hsc hok hi hg ht he hs
end
end L2
namespace L2
theorem iteF' {b : Bool} {A B : Prop} (e : b = false) (h : B) : if b = true then A else B := by rw [e]; exact iteF h
theorem iteT' {b : Bool} {A B : Prop} (e : b = true) (h : A) : if b = true then A else B := by rw [e]; exact iteT h
end L2
namespace L2
open PySem
section
variable {X : Cx}
end
end L2
namespace L2
open PySem
end L2
namespace L2
open PySem PySem.Spec PyProof.Rows
structure KDict (w : World) (K : Frag) (d : Addr) (kvs : List (Key × Value)) : Prop where
  low : (d == sysModules) = false
  at_ : ∀ (P : Program) (h : Heap), K.In h → h.DictOf (mixKind P w) d kvs
def KTup (K : Frag) (a : Addr) (xs : List V) : Prop := ∃ (o : Obj) (its : Array Value) (n : Nat), K.lookup a = some o ∧ o.cls = .type "tuple" ∧ o.data = .seq its n ∧ its.size ≤ sizeLine ∧ Vals xs its.toList
theorem KTup.sq {K : Frag} {a : Addr} {xs : List V} (h : KTup K a xs) (H : Hp) : SqT K H a xs := .inr h
theorem kdict_mk {w : World} {K : Frag} {d : Addr} {es : List DictEntry} {ep : Nat} {kvs : List (Key × Value)} (l : K.lookup d = some ⟨.type "dict", none, .dict es.toArray ep, #[]⟩) (low : (d == sysModules) = false)
    (hk : ∀ e ∈ es, ∃ k : Key, keyIs k e.key = true ∧ e.hash = keyH w k) (hp : ∀ P : Program, Pairs (mixKind P w) es kvs) (nd : (kvs.map (·.1)).Nodup) : KDict w K d kvs :=
  ⟨low, fun P h X => ⟨_, es.toArray, ep, X _ _ l, ⟨rfl, rfl, rfl⟩, rfl, fun e he => hk e (by simpa using he), by simpa using hp P, nd⟩⟩
section
variable {X : Cx}
theorem op_knotin : OpR X (compareOp .NotIn) (fun x y H Q => ∃ (k : Str) (d : Addr) (kvs : List (Key × Value)), x = .str k ∧ y = .ref d ∧ KDict X.w X.K d kvs ∧ Q (.bl (!(valueAt kvs (Sum.inr k)).isSome)) H) := by
  intro pins s σ H x y v u Q I rx ry h
  obtain ⟨k, d, kvs, rfl, rfl, kd, q⟩ := h
  cases (show u = Value.ref d from ry)
  obtain ⟨t, rfl⟩ := rx
  exact wpAny_notIn_of (knd := mixKind X.prog X.w) (k := Sum.inr k) (mixKind_str _ _ k t) kd.low (kd.at_ X.prog _ I.kIn).mapOf ⟨.bl _, H, I.tok _, rfl, q⟩
theorem ix_kdict : IxR X (fun x y H Q => ∃ (k : Str) (d : Addr) (kvs : List (Key × Value)) (v : V) (u : Value), x = .ref d ∧ y = .str k ∧ KDict X.w X.K d kvs ∧ valueAt kvs (Sum.inr k) = some u ∧ RelV v u ∧ Q v H) := by
  intro value slice pins s σ H x y v u Q I rx ry h hs
  obtain ⟨k, d, kvs, z, uz, rfl, rfl, kd, hv, rz, q⟩ := h
  cases (show v = Value.ref d from rx)
  obtain ⟨t, rfl⟩ := ry
  have dd := kd.at_ X.prog _ I.kIn
  exact subscriptTail_builtinR (x := uz) dd.mapOf.typeIs PySem.F.slot_dict_getitem.lookup
    (wpAny_getItem_of (Q := fun r s' => r = uz ∧ EP X pins σ Q r s') (knd := mixKind X.prog X.w) (k := Sum.inr k) (mixKind_str _ _ k t) dd.mapOf hv ⟨rfl, z, H, I.tok _, rz, q⟩) hs
end
end L2
namespace HT
open PySem PySem.Spec PyProof.Rows
section
variable {prog : Program} {w : World} {A : Around} {E : Value → Shared → Prop} {s : Shared}
theorem getItem_tuple_all {t sl : Addr} {items : Array Value} {vl vu : Value} {lo hi : Option Int} {Q : Value → Shared → Prop} (ht : IsTup s.heap t items) (hs : s.heap.IsSliceOf sl vl vu .none) (pl : IsPart vl lo) (pu : IsPart vu hi)
    (hw : sIx items.size 0 lo = 0 ∧ sIx items.size items.size hi = items.size) (h : Q (.ref t) s) : wpAny (model prog w) A (getItem (.ref t) (.ref sl)) Q E s := by
  obtain ⟨os, hos, hcs, hds⟩ := id hs
  have hTs : s.TypeIs (.ref sl) "slice" := ⟨os, hos, hcs⟩
  unfold getItem
  try with_reducible refine wpAny_holding ?_
  first | refine wpAny_bind (wpAny_pure ?_) | skip
  refine wpAny_bind (wpAny_sequenceKey ht.typeIs (by decide) ?_)
  refine wpAny_bind (wpAny_callSpecial?_slot (name := Str.ofString "__getitem__") ht.typeIs PyProof.Rows.slot_tuple_getitem
    (wpAny_call_entry PyProof.Rows.slot_tuple_getitem ht.typeIs entry_tuple_getitem ?_ (args_tuple_getitem _ _)))
  show wpAny _ _ (Builtin.Tuple.tupleItemsOf (.ref t) >>= _) _ _ s
  refine wpAny_bind (tupleItemsOf_ ht ?_)
  refine wpAny_bind (wpAny_typeOf hTs ?_)
  rw [if_pos (by decide)]
  refine wpAny_bind (sliceApplied_gen hs pl pu ?_)
  show wpAny _ _ (if (((sIx items.size 0 lo : Nat) : Int) == 0 && (1 : Int) == 1 && (sIx items.size items.size hi - sIx items.size 0 lo) == items.size) = true then _ else _) _ _ s
  rw [if_pos (by rw [hw.1, hw.2]; simp)]
  refine wpAny_bind (wpAny_bind (wpAny_typeOf ht.typeIs (wpAny_pure ?_)))
  rw [if_pos (by decide)]
  exact wpAny_bind (wpAny_rule (wpAny_pure ⟨_, rfl, wpAny_pure h⟩))
theorem cat_nil {t b : Addr} {ws : List Value} {Q : Value → Shared → Prop} (ht : IsTup s.heap t ([] : List Value).toArray) (hb : IsTup s.heap b ws.toArray) (h : Q (.ref b) s) : wpAny (model prog w) A (binaryOp .Add (.ref t) (.ref b)) Q E s := by
  obtain ⟨⟨cls, dd, data, sl⟩, ho, hc, n, hd⟩ := id ht
  obtain ⟨⟨cls2, dd2, data2, sl2⟩, ho2, hc2, n2, hd2⟩ := id hb
  simp only at hc hd hc2 hd2
  subst hc hd hc2 hd2
  exact concat_meets ⟨_, ho, rfl⟩ ⟨_, ho2, rfl⟩ noFill_tuple_add seq_tuple_add PySem.F.slot_tuple_add PySem.F.entry_tuple_add (PySem.F.args_tuple_add_2 _ _)
    (tuple_addW0 t b ([] : List Value).toArray ws.toArray n n2 dd dd2 sl sl2 (by simp)) ⟨ho, ho2, h⟩
end
end HT
namespace L2
open PySem PySem.Spec PyProof.Rows
section
variable {X : Cx}
def rSlTA (K : Frag) : V → Option Int → Option Int → Hp → VK → Prop := fun x lo hi H Q => ∃ a xs, x = .ref a ∧ SqT K H a xs ∧
  ((HT.sIx xs.length 0 lo = 0 ∧ HT.sIx xs.length xs.length hi = xs.length) → Q (.ref a) H) ∧
  (¬ (HT.sIx xs.length 0 lo = 0 ∧ HT.sIx xs.length xs.length hi = xs.length) → ∀ p, H p = none → Q (.ref p) (upd H p (.tup (cutV xs lo hi))))
theorem sl_tupA : SlR X (rSlTA X.K) := by
  intro pins s σ H x v vl vu lo hi sl Q I rx hs pl pu h
  obtain ⟨a, xs, rfl, ha, h1, h2⟩ := h
  by_cases hw : HT.sIx xs.length 0 lo = 0 ∧ HT.sIx xs.length xs.length hi = xs.length
  · cases (show v = Value.ref a from rx)
    obtain ⟨its, rv, tp, hz⟩ := I.tuple ha
    have hl := rv.length
    refine ⟨"tuple", _, slot_tuple_getitem.lookup, tp.typeIs, ?_⟩
    exact HT.getItem_tuple_all tp hs pl pu (by rw [List.size_toArray, ← hl]; exact hw) ⟨.ref a, H, I, rfl, h1 hw⟩
  · exact sl_tup pins s σ H (.ref a) v vl vu lo hi sl Q I rx hs pl pu ⟨a, xs, rfl, ha, hw, h2 hw⟩
def rCatTA (K : Frag) : R2 := fun x y H Q => ∃ a b xs ys, x = .ref a ∧ y = .ref b ∧ SqT K H a xs ∧ SqT K H b ys ∧ xs.length + ys.length ≤ sizeLine ∧
  (xs = [] → Q (.ref b) H) ∧ (xs ≠ [] → ys = [] → Q (.ref a) H) ∧ (xs ≠ [] → ys ≠ [] → ∀ p, H p = none → Q (.ref p) (upd H p (.tup (xs ++ ys))))
theorem op_catTA : OpR X (binaryOp .Add) (rCatTA X.K) := by
  intro pins s σ H x y v u Q I rx ry h
  obtain ⟨a, b, xs, ys, rfl, rfl, ha, hb, hz, h0, h1, h2⟩ := h
  by_cases hx : xs = []
  · subst hx
    cases (show v = Value.ref a from rx)
    cases (show u = Value.ref b from ry)
    obtain ⟨its, rv, tp, _⟩ := I.tuple ha
    obtain ⟨its2, rv2, tp2, _⟩ := I.tuple hb
    have e : its = [] := by cases rv; rfl
    subst e
    exact HT.cat_nil tp tp2 ⟨.ref b, H, I, rfl, h0 rfl⟩
  · exact op_catT pins s σ H _ _ v u Q I rx ry ⟨a, b, xs, ys, rfl, rfl, ha, hb, hx, hz, h1 hx, h2 hx⟩
end
end L2
namespace L2
open PySem
theorem catTA_of {K : Frag} {H : Hp} {a b : Addr} {xs ys : List V} {Q : VK} (ha : SqT K H a xs) (hb : SqT K H b ys) (hz : xs.length + ys.length ≤ sizeLine) (h : ∀ q H', Same H H' → SqT K H' q (xs ++ ys) → Q (.ref q) H') : rCatTA K (.ref a) (.ref b) H Q :=
  ⟨a, b, xs, ys, rfl, rfl, ha, hb, hz, fun e => h b H (Same.refl _) (by rw [e]; exact hb), fun _ e => h a H (Same.refl _) (by rw [e, List.append_nil]; exact ha), fun _ _ p hp => h p _ (same_upd hp) (SqT.of upd_same)⟩
theorem slTA_of {K : Frag} {H : Hp} {a : Addr} {xs : List V} {lo hi : Option Int} {Q : VK} (ha : SqT K H a xs) (h : ∀ q H', Same H H' → SqT K H' q (cutV xs lo hi) → Q (.ref q) H') : rSlTA K (.ref a) lo hi H Q := by
  refine ⟨a, xs, rfl, ha, fun e => h a H (Same.refl _) ?_, fun _ p hp => h p _ (same_upd hp) (SqT.of upd_same)⟩
  have e2 : cutV xs lo hi = xs := by unfold cutV; rw [e.1, e.2, Nat.sub_zero, List.drop_zero, List.take_length]
  rw [e2]; exact ha
end L2
namespace L2
open PySem PySem.Spec PyProof.Rows
section
variable {X : Cx}
variable {o e : Expr} {es : List Expr} {to : TE} {t : TA} {name : Str} {apos cpos : Pos} {T id : String} {r : V → List V → Hp → VK → Prop}
end
section
variable {X : Cx} {e : Expr} {f : Str} {pos : Pos} {ta : TE}
end
section
variable {X : Cx}
end
end L2
namespace L2
open PySem PySem.Spec PyProof.Rows
section
variable {X : Cx} {pins : List (Addr × Obj)} {σ : St} {H : Hp} {s : Shared} {h' : Heap}
end
section
variable {X : Cx} {es : List Expr} {kk : Nat} {tp : Pos}
end
end L2
namespace L2
theorem byC {p : Prop} (h : ¬ ¬ p) : p := Classical.byContradiction h
open PySem PySem.Spec PyProof.Rows
inductive tVarI (i : Nat) (σ : St) (H : Hp) (Q : VK) : Prop
  | mk (v : V) (h : σ[i]? = some (some v)) (q : Q v H) : tVarI i σ H Q
inductive rI0I (g : Int → Int → V) (x y : V) (H : Hp) (Q : VK) : Prop
  | mk (i j : Int) (hx : x = .int i) (hy : y = .int j) (q : Q (g i j) H) : rI0I g x y H Q
inductive rII (C : Int → Int → Prop) (g : Int → Int → V) (x y : V) (H : Hp) (Q : VK) : Prop
  | mk (i j : Int) (hx : x = .int i) (hy : y = .int j) (c : C i j) (q : Q (g i j) H) : rII C g x y H Q
inductive rIxLI (K : Frag) (x y : V) (H : Hp) (Q : VK) : Prop
  | mk (p : Addr) (xs : List V) (i : Int) (v : V) (hx : x = .ref p) (hy : y = .int i) (hs : SqL K H p xs) (ha : atI xs i = some v) (q : Q v H) : rIxLI K x y H Q
inductive rIxTI (K : Frag) (x y : V) (H : Hp) (Q : VK) : Prop
  | mk (p : Addr) (xs : List V) (i : Int) (v : V) (hx : x = .ref p) (hy : y = .int i) (hs : SqT K H p xs) (ha : atI xs i = some v) (q : Q v H) : rIxTI K x y H Q
section
variable {X : Cx}
theorem PE.imp {e : Expr} {t t' : TE} (h : PE X e t) (i : ∀ σ H Q, t' σ H Q → t σ H Q) : PE X e t' := fun pins s σ H Q I q => h pins s σ H Q I (i σ H Q q)
theorem OpR.imp {f : Value → Value → Sem Value} {r r' : R2} (h : OpR X f r) (i : ∀ x y H Q, r' x y H Q → r x y H Q) : OpR X f r' := fun pins s σ H x y v u Q I rx ry q => h pins s σ H x y v u Q I rx ry (i x y H Q q)
theorem pvI (i : Nat) {x : Str} {pos : Pos} (hN : X.N[i]? = some x := by rfl) (hv : Vis X.env.scope x := by first | exact Or.inl rfl | exact Or.inr (Or.inl rfl) | exact Or.inr (Or.inr rfl)) (hd : (x == ("__debug__" : Str)) = false := by decide)
    (hcd : (x == ("__classdict__" : Str)) = false := by decide) : PE X (.Name x pos) (tVarI i) := (pe_var hN hv hd hcd).imp fun _ _ _ ⟨v, h, q⟩ => ⟨v, h, q⟩
theorem o0 {f : Value → Value → Sem Value} {g : Int → Int → V} (h : OpR X f (rI0 g)) : OpR X f (rI0I g) := h.imp fun _ _ _ _ ⟨i, j, a, b, q⟩ => ⟨i, j, a, b, q⟩
theorem o1 {f : Value → Value → Sem Value} {C : Int → Int → Prop} {g : Int → Int → V} (h : OpR X f (rI C g)) : OpR X f (rII C g) := h.imp fun _ _ _ _ ⟨i, j, a, b, c, q⟩ => ⟨i, j, a, b, c, q⟩
theorem op_addI : OpR X (binaryOp .Add) (rI0I fun i j => .int (i + j)) := o0 op_add
theorem op_subI : OpR X (binaryOp .Sub) (rI0I fun i j => .int (i - j)) := o0 op_sub
theorem op_mulI : OpR X (binaryOp .Mult) (rII CMul fun i j => .int (i * j)) := o1 op_mul
theorem op_fdivI : OpR X (binaryOp .FloorDiv) (rII CDiv fun i j => .int (i / j)) := o1 op_fdiv
theorem op_modI : OpR X (binaryOp .Mod) (rII (fun _ j => 0 < j) fun i j => .int (i % j)) := o1 op_mod
theorem op_ltI : OpR X (compareOp .Lt) (rI0I fun i j => .bl (decide (i < j))) := o0 op_lt
theorem op_leI : OpR X (compareOp .LtE) (rI0I fun i j => .bl (decide (i ≤ j))) := o0 op_le
theorem op_gtI : OpR X (compareOp .Gt) (rI0I fun i j => .bl (decide (j < i))) := o0 op_gt
theorem IxR.imp {r r' : R2} (h : IxR X r) (i : ∀ x y H Q, r' x y H Q → r x y H Q) : IxR X r' := fun value slice pins s σ H x y v u Q I rx ry q e => h value slice pins s σ H x y v u Q I rx ry (i x y H Q q) e
theorem ix_listI (K : Frag) (h : X.K = K) : IxR X (rIxLI K) := by subst h; exact ix_list.imp fun _ _ _ _ ⟨p, xs, i, v, a, b, c, d, q⟩ => ⟨p, xs, i, v, a, b, c, d, q⟩
theorem ix_tupI (K : Frag) (h : X.K = K) : IxR X (rIxTI K) := by subst h; exact ix_tup.imp fun _ _ _ _ ⟨p, xs, i, v, a, b, c, d, q⟩ => ⟨p, xs, i, v, a, b, c, d, q⟩
end
end L2
namespace L2
open PySem PySem.Spec PyProof.Rows PyProof
section
variable {X : Cx}
end
end L2
namespace Mt
end Mt
namespace Rc
open PySem PySem.Spec PyProof.Rows L2
def InD (ds : List Int) : Prop := ∀ d ∈ ds, 0 ≤ d ∧ d < 997
theorem InD.snoc {ds : List Int} {d : Int} (h : InD ds) (h0 : 0 ≤ d) (h1 : d < 997) : InD (ds ++ [d]) := fun x hx => by
  rcases List.mem_append.mp hx with hx | hx
  · exact h x hx
  · rw [List.mem_singleton.mp hx]; exact ⟨h0, h1⟩
theorem map_snoc (ds : List Int) (d : Int) : ds.map V.int ++ [V.int d] = (ds ++ [d]).map V.int := by rw [List.map_append]; rfl
theorem small_line {n : Nat} (h : n ≤ 100000) : n < sizeLine := Nat.lt_of_le_of_lt h (by decide)
structure DrawSt (H0 H : Hp) (a r sl : Addr) (n : Nat) (ys : List V) (least most : Nat) (σ : L2.St) : Prop where
  ex : ∃ (row : List Int) (seed : Int) (c rest k : Option V), σ = [some (.ref a), some (.int n), some (.ref r), some (.int seed), c, rest, k] ∧ 0 ≤ seed ∧ seed < 2147483629 ∧ H r = some (.lst (row.map V.int)) ∧ least ≤ row.length ∧ row.length ≤ most ∧ InD row
  same : Same H0 H
  slc : H sl = some (.lst ys)
def lineB (l : Int × Int) : Bool := decide (0 ≤ l.1 ∧ l.1 ≤ 5 ∧ 1 ≤ l.2 ∧ l.2 ≤ 20)
def isLinesB (L : List (Int × Int)) : Bool := decide (1 ≤ L.length ∧ L.length ≤ 4) && (decide (L.map (·.1)).Nodup && L.all lineB)
structure GoodL (L : List (Int × Int)) : Prop where
  l1 : 1 ≤ L.length
  l4 : L.length ≤ 4
  nd : (L.map (·.1)).Nodup
  all : ∀ l ∈ L, 0 ≤ l.1 ∧ l.1 ≤ 5 ∧ 1 ≤ l.2 ∧ l.2 ≤ 20
theorem not_mem_erase : ∀ {l : List Int} {k : Nat} {x : Int}, l.Nodup → l[k]? = some x → x ∉ l.eraseIdx k
  | [], _, _, _, h => by simp at h
  | y :: r, 0, x, hn, h => by
    simp at h; subst h
    rw [List.eraseIdx_cons_zero]
    exact (List.nodup_cons.mp hn).1
  | y :: r, k + 1, x, hn, h => by
    rw [List.eraseIdx_cons_succ, List.mem_cons]
    have hn' := List.nodup_cons.mp hn
    have hx : r[k]? = some x := by simpa using h
    rintro (e | e)
    · subst e; exact hn'.1 (List.mem_of_getElem? hx)
    · exact not_mem_erase hn'.2 hx e
theorem map_erase (l : List Int) (k : Nat) : (l.map V.int).eraseIdx k = (l.eraseIdx k).map V.int := by
  induction l generalizing k with
  | nil => simp
  | cons a r ih => cases k with
    | zero => simp
    | succ k => simp [ih]
def othersOf (n o : Nat) : List Int := ((List.range n).map fun i => (0 : Int) + (i : Nat)).filter fun i => !decide (i = (o : Int))
def othersB (n o : Nat) : Bool := decide (othersOf n o).Nodup && (othersOf n o).all (fun x => decide (0 ≤ x ∧ x < (n : Int) ∧ x ≠ (o : Int))) && decide ((othersOf n o).length = n - 1)
theorem othersB_all : (List.range 7).all (fun n => (List.range n).all fun o => othersB n o) = true := by decide +kernel
theorem othersOf_facts (n : Nat) (hn : n < 7) (o : Nat) (ho : o < n) : (othersOf n o).Nodup ∧ (∀ x ∈ othersOf n o, 0 ≤ x ∧ x < (n : Int) ∧ x ≠ (o : Int)) ∧ (othersOf n o).length = n - 1 := by
  have h := List.all_eq_true.mp (List.all_eq_true.mp othersB_all n (List.mem_range.mpr hn)) o (List.mem_range.mpr ho)
  unfold othersB at h
  rw [Bool.and_eq_true, Bool.and_eq_true] at h
  exact ⟨of_decide_eq_true h.1.1, fun x hx => of_decide_eq_true (List.all_eq_true.mp h.1.2 x hx), of_decide_eq_true h.2⟩
theorem PairAt.updL {K : Frag} {H : Hp} {x : Addr} {xs : List V} {o : HO} {v : V} {l : Int × Int} (h : PairAt K H v l) (hx : H x = some (.lst xs)) : PairAt K (upd H x o) v l := by
  obtain ⟨q, rfl, (h | ⟨ob, h⟩) | h⟩ := h
  · exact ⟨q, rfl, .inl (.inl (by rw [upd_ne (ne_of h hx (by intro z; cases z))]; exact h))⟩
  · exact ⟨q, rfl, .inl (.inr ⟨ob, by rw [upd_ne (ne_of h hx (by intro z; cases z))]; exact h⟩)⟩
  · exact ⟨q, rfl, .inr h⟩
theorem PairsAt.updL {K : Frag} {H : Hp} {x : Addr} {xs : List V} {o : HO} {vs : List V} {L : List (Int × Int)} (h : PairsAt K H vs L) (hx : H x = some (.lst xs)) : PairsAt K (upd H x o) vs L :=
  ⟨h.len, fun i l e => let ⟨v, e1, e2⟩ := h.at_ i l e; ⟨v, e1, PairAt.updL e2 hx⟩⟩
structure LineSt (K : Frag) (H0 H : Hp) (h o : Nat) (d oth r : Addr) (many : Nat) (i : Nat) (all : Nat) (σ : L2.St) : Prop where
  ex : ∃ (os : List Int) (L : List (Int × Int)) (us : List V) (k s l : Option V), σ = [some (.int h), some (.int o), some (.ref d), k, some (.ref oth), some (.int many), some (.ref r), s, l] ∧
    H oth = some (.lst (os.map V.int)) ∧ H r = some (.lst us) ∧ PairsAt K H us L ∧ L.length = i ∧ os.length + i = all ∧ os.Nodup ∧ (L.map (·.1)).Nodup ∧ (∀ l ∈ L, l.1 ∉ os) ∧
    (∀ x ∈ os, 0 ≤ x ∧ x < (h : Int) ∧ x ≠ (o : Int)) ∧ (∀ l ∈ L, (0 ≤ l.1 ∧ l.1 < (h : Int) ∧ l.1 ≠ (o : Int)) ∧ 1 ≤ l.2 ∧ l.2 ≤ 20)
  same : Same H0 H
theorem cut_ints (ds : List Int) (i j : Nat) (hj : j ≤ ds.length) (hij : i ≤ j) : cutV (ds.map V.int) (some (i : Int)) (some (j : Int)) = ((ds.drop i).take (j - i)).map V.int := by
  unfold cutV
  rw [HT.sIx_nat, HT.sIx_nat, List.length_map, Nat.min_eq_left hj, Nat.min_eq_left (Nat.le_trans hij hj), List.map_take, List.map_drop]
theorem cut_len (ds : List Int) (i j : Nat) (hj : j ≤ ds.length) : ((ds.drop i).take (j - i)).length = j - i := by
  rw [List.length_take, List.length_drop]; omega
theorem cut_in {ds : List Int} (h : InD ds) (i n : Nat) : InD ((ds.drop i).take n) := fun d hd => h d (List.mem_of_mem_drop (List.mem_of_mem_take hd))
theorem draw_at {ds : List Int} (h : InD ds) {i : Nat} (hi : i < ds.length) : ∃ d : Nat, d < 997 ∧ atI (ds.map V.int) (i : Int) = some (V.int (d : Int)) := by
  obtain ⟨v, hv⟩ := get_some hi
  have := h v (List.mem_of_getElem? hv)
  refine ⟨v.toNat, by omega, ?_⟩
  have e : ((v.toNat : Nat) : Int) = v := by omega
  rw [e]
  exact atI_nat (by rw [List.getElem?_map, hv]; rfl)
def measB (kind : Str) (by_ most : Int) : Bool := (if kind = ("share" : Str) then decide (1 ≤ by_ ∧ by_ ≤ 100) else if kind = ("layer" : Str) then decide (0 ≤ by_ ∧ by_ ≤ 200) else false) && decide (0 ≤ most ∧ most ≤ 24)
theorem share_ne : ¬ ("share" : Str) = "layer" := by decide +kernel
theorem dec_strV {x y : Str} : decide (V.str x = V.str y) = decide (x = y) := by
  by_cases h : x = y
  · rw [h, decide_eq_true rfl, decide_eq_true rfl]
  · rw [decide_eq_false h, decide_eq_false (fun z => h (V.str.inj z))]
theorem ix3 {x y z : V} {i : Nat} (h : i < 3) : atI [x, y, z] (i : Int) = some (if i = 0 then x else if i = 1 then y else z) := by
  match i, h with
  | 0, _ => rfl
  | 1, _ => rfl
  | 2, _ => rfl
theorem ix2 {x y : V} {i : Nat} (h : i < 2) : atI [x, y] (i : Int) = some (if i = 0 then x else y) := by
  match i, h with
  | 0, _ => rfl
  | 1, _ => rfl
end Rc
namespace Rc
open PySem PySem.Spec PyProof.Rows L2
abbrev Row := Int × Str × Int × Int × List (Int × Int)
def RowAt (K : Frag) (H : Hp) (p : Addr) : Option Row → Prop
  | none => ∃ xs, SqT K H p xs ∧ xs.length ≠ 5 ∧ xs.length ≤ 100
  | some (ho, k, b, m, L) => ∃ lp, SqT K H p [.int ho, .str k, .int b, .int m, .ref lp] ∧ LinesAt K H lp L ∧ L.length ≤ 100
def othersBL (h ho : Int) (L : List (Int × Int)) : Bool := L.all fun l => decide (l.1 < h) && !decide (l.1 = ho)
def isCoverB (h : Int) : Option Row → Bool
  | none => false
  | some (ho, k, b, m, L) => decide (0 ≤ ho ∧ ho < h) && (measB k b m && (isLinesB L && othersBL h ho L))
theorem isCoverB_some {h ho : Int} {k : Str} {b m : Int} {L : List (Int × Int)} : isCoverB h (some (ho, k, b, m, L)) = (decide (0 ≤ ho ∧ ho < h) && (measB k b m && (isLinesB L && othersBL h ho L))) := rfl
theorem isCoverB_iff {h ho : Int} {k : Str} {b m : Int} {L : List (Int × Int)} (h6 : h ≤ 6) : isCoverB h (some (ho, k, b, m, L)) = true ↔
    (0 ≤ ho ∧ ho < h) ∧ measB k b m = true ∧ (1 ≤ L.length ∧ L.length ≤ 4) ∧ (L.map (·.1)).Nodup ∧ ∀ l ∈ L, (0 ≤ l.1 ∧ l.1 < h ∧ l.1 ≠ ho) ∧ 1 ≤ l.2 ∧ l.2 ≤ 20 := by
  unfold isCoverB isLinesB othersBL
  simp only [Bool.and_eq_true, decide_eq_true_eq, List.all_eq_true, lineB, Bool.not_eq_true', decide_eq_false_iff_not]
  constructor
  · rintro ⟨a1, a2, ⟨a3, a4, a5⟩, a6⟩
    exact ⟨a1, a2, a3, a4, fun l hl => ⟨⟨(a5 l hl).1, (a6 l hl).1, (a6 l hl).2⟩, (a5 l hl).2.2.1, (a5 l hl).2.2.2⟩⟩
  · rintro ⟨a1, a2, a3, a4, a5⟩
    refine ⟨a1, a2, ⟨a3, a4, fun l hl => ?_⟩, fun l hl => ⟨(a5 l hl).1.2.1, (a5 l hl).1.2.2⟩⟩
    have := a5 l hl
    omega
theorem dec_intV {x y : Int} : decide (V.int x = V.int y) = decide (x = y) := by
  by_cases h : x = y
  · rw [h, decide_eq_true rfl, decide_eq_true rfl]
  · rw [decide_eq_false h, decide_eq_false (fun z => h (V.int.inj z))]
end Rc
namespace Rc
open PySem PySem.Spec PyProof.Rows L2
theorem measB_cases {k : Str} {b m : Int} (h : measB k b m = true) : ((k = "share" ∧ 1 ≤ b ∧ b ≤ 100) ∨ (k = "layer" ∧ 0 ≤ b ∧ b ≤ 200)) ∧ 0 ≤ m ∧ m ≤ 24 := by
  unfold measB at h
  rw [Bool.and_eq_true] at h
  refine ⟨?_, of_decide_eq_true h.2⟩
  by_cases e1 : k = ("share" : Str)
  · rw [if_pos e1] at h; exact .inl ⟨e1, of_decide_eq_true h.1⟩
  · rw [if_neg e1] at h
    by_cases e2 : k = ("layer" : Str)
    · rw [if_pos e2] at h; exact .inr ⟨e2, of_decide_eq_true h.1⟩
    · rw [if_neg e2] at h; cases h.1
end Rc
namespace Rc
open PySem PySem.Spec PyProof.Rows L2
theorem len1 {p : List Value → Prop} : ∀ {us : List Value}, us.length = 1 → (∀ a0, p [a0]) → p us
  | [a0], _, h => h a0
theorem len2 {p : List Value → Prop} : ∀ {us : List Value}, us.length = 2 → (∀ a0 a1, p [a0, a1]) → p us
  | [a0, a1], _, h => h a0 a1
theorem len3 {p : List Value → Prop} : ∀ {us : List Value}, us.length = 3 → (∀ a0 a1 a2, p [a0, a1, a2]) → p us
  | [a0, a1, a2], _, h => h a0 a1 a2
end Rc
namespace Rc
open PySem PySem.Spec PyProof.Rows L2
structure FL (K : Frag) (x q : Str) (st : Stmt) (f : Addr) : Prop where
  ex : ∃ (od an : Option Addr) (sl : Array (Option Value)) (oc kV dc pm cd ct : Value), K.lookup f = some ⟨oc, od, .func (fnOf x q (defArgs st) (defBody st) (defScope st) .none kV dc pm an cd ct), sl⟩ ∧ PySem.W.codeIn K cd q = true ∧ keepIn K (.ref f) = true
theorem fl_mk {K : Frag} {x q : Str} {st : Stmt} {f : Addr} {od an : Option Addr} {sl : Array (Option Value)} {oc kV dc pm cd ct : Value} (l : K.lookup f = some ⟨oc, od, .func (fnOf x q (defArgs st) (defBody st) (defScope st) .none kV dc pm an cd ct), sl⟩) (c : PySem.W.codeIn K cd q = true) (k : keepIn K (.ref f) = true) : FL K x q st f :=
  ⟨od, an, sl, oc, kV, dc, pm, cd, ct, l, c, k⟩
theorem FL.fn {K : Frag} {x q : Str} {st : Stmt} {f : Addr} (l : FL K x q st f) (ps : List Str)
    (h : ∀ (kV doc pm : Value) (an : Option Addr) (cdv ct : Value) (us : List Value), us.length = ps.length → bindArgs (fnOf x q (defArgs st) (defBody st) (defScope st) .none kV doc pm an cdv ct) ⟨us, []⟩ = pure (ps.zip us)) :
    ∃ fd, Fun K x q st f fd ∧ keepIn K (.ref f) = true ∧ Binds K fd ps [] := by
  obtain ⟨od, an, sl, oc, kV, dc, pm, cd, ct, l1, c, k⟩ := l.ex
  exact ⟨_, fun_mk l1 c k, k, (fun_mk l1 c k).binds h⟩
section
variable {K : Frag} {x q : Str} {st : Stmt} {f : Addr}
theorem FL.fn1 (l : FL K x q st f) (ps : List Str) (h : ∀ (kV doc pm : Value) (an : Option Addr) (cdv ct u0 : Value), bindArgs (fnOf x q (defArgs st) (defBody st) (defScope st) .none kV doc pm an cdv ct) ⟨[u0], []⟩ = pure (ps.zip [u0])) (hp : ps.length = 1 := by rfl) : ∃ fd, Fun K x q st f fd ∧ keepIn K (.ref f) = true ∧ Binds K fd ps [] :=
  l.fn ps fun kV doc pm an cdv ct us hl => len1 (p := fun us => bindArgs (fnOf x q (defArgs st) (defBody st) (defScope st) .none kV doc pm an cdv ct) ⟨us, []⟩ = pure (ps.zip us)) (hl.trans hp) fun u0 => h kV doc pm an cdv ct u0
theorem FL.fn2 (l : FL K x q st f) (ps : List Str) (h : ∀ (kV doc pm : Value) (an : Option Addr) (cdv ct u0 u1 : Value), bindArgs (fnOf x q (defArgs st) (defBody st) (defScope st) .none kV doc pm an cdv ct) ⟨[u0, u1], []⟩ = pure (ps.zip [u0, u1])) (hp : ps.length = 2 := by rfl) : ∃ fd, Fun K x q st f fd ∧ keepIn K (.ref f) = true ∧ Binds K fd ps [] :=
  l.fn ps fun kV doc pm an cdv ct us hl => len2 (p := fun us => bindArgs (fnOf x q (defArgs st) (defBody st) (defScope st) .none kV doc pm an cdv ct) ⟨us, []⟩ = pure (ps.zip us)) (hl.trans hp) fun u0 u1 => h kV doc pm an cdv ct u0 u1
theorem FL.fn3 (l : FL K x q st f) (ps : List Str) (h : ∀ (kV doc pm : Value) (an : Option Addr) (cdv ct u0 u1 u2 : Value), bindArgs (fnOf x q (defArgs st) (defBody st) (defScope st) .none kV doc pm an cdv ct) ⟨[u0, u1, u2], []⟩ = pure (ps.zip [u0, u1, u2])) (hp : ps.length = 3 := by rfl) : ∃ fd, Fun K x q st f fd ∧ keepIn K (.ref f) = true ∧ Binds K fd ps [] :=
  l.fn ps fun kV doc pm an cdv ct us hl => len3 (p := fun us => bindArgs (fnOf x q (defArgs st) (defBody st) (defScope st) .none kV doc pm an cdv ct) ⟨us, []⟩ = pure (ps.zip us)) (hl.trans hp) fun u0 u1 u2 => h kV doc pm an cdv ct u0 u1 u2
end
end Rc
namespace Rc
open PySem PySem.Spec PyProof.Rows L2
section
variable {K : Frag} {H H' : Hp} {v : V} {vs : List V} {c : Row} {cs : List Row} {x : Addr} {xs : List V} {o : HO}
end
structure GoodC (h : Int) (c : Row) : Prop where
  ho : 0 ≤ c.1 ∧ c.1 < h
  ms : measB c.2.1 c.2.2.1 c.2.2.2.1 = true
  gl : GoodL c.2.2.2.2
  ot : ∀ l ∈ c.2.2.2.2, l.1 < h ∧ l.1 ≠ c.1
theorem goodC_iff {h : Int} {c : Row} (h6 : h ≤ 6) : isCoverB h (some c) = true ↔ GoodC h c := by
  obtain ⟨ho, k, b, m, L⟩ := c
  rw [isCoverB_iff h6]
  constructor
  · rintro ⟨a1, a2, a3, a4, a5⟩
    exact ⟨a1, a2, ⟨a3.1, a3.2, a4, fun l hl => by have := a5 l hl; omega⟩, fun l hl => (a5 l hl).1.2⟩
  · rintro ⟨a1, a2, a3, a4⟩
    exact ⟨a1, a2, ⟨a3.l1, a3.l4⟩, a3.nd, fun l hl => ⟨⟨(a3.all l hl).1, a4 l hl⟩, (a3.all l hl).2.2⟩⟩
section
variable {h : Int} {a b c : Addr}
end
theorem make_same {H H' : Hp} {x dx : Addr} {o1 o2 : HO} (hx : H x = none) (hdx : H dx = none) (s : ∀ b o, b ≠ x → (upd (upd H dx o2) x o1) b = some o → H' b = some o) : Same H H' := fun b o e =>
  s b o (ne_of_none e hx) (by rw [upd_ne (ne_of_none e hx), upd_ne (ne_of_none e hdx)]; exact e)
theorem make_pre {H : Hp} {x dx : Addr} {o1 o2 : HO} (hx : H x = none) (hdx : H dx = none) : Same H (upd (upd H dx o2) x o1) := fun b o e => by
  rw [upd_ne (ne_of_none e hx), upd_ne (ne_of_none e hdx)]; exact e
section
variable {F : Addr → Prop} {C : Addr} {K : Frag} {H H' : Hp} {t : Addr} {h : Nat} {cs : List Row} {ls : List Int}
end
end Rc
namespace Rc
open PySem PySem.Spec PyProof.Rows L2
end Rc
namespace Rc
open PySem PySem.Spec PyProof.Rows L2
section
variable {h : Nat} {cs : List Row} {ls acc : List Int}
end
end Rc
namespace Rc
open PySem PySem.Spec PyProof.Rows L2
section
variable {h : Nat} {cs : List Row} {ls acc : List Int} {f : Int → Int → Int}
end
end Rc
namespace Rc
open PySem PySem.Spec PyProof.Rows L2
section
variable {h : Nat} {cs : List Row} {ls acc : List Int}
end
end Rc
namespace Rc
open PySem PySem.Spec PyProof.Rows L2
section
variable {h : Nat} {cs : List Row} {ls acc : List Int}
end
end Rc
namespace Rc
open PySem PySem.Spec PyProof.Rows L2
section
variable {C : Addr} {K : Frag} {H H' : Hp} {dh r lo sp x : Addr} {ds : List Int} {us : List V} {cs : List Row} {ls : List Int} {ss : List Addr} {h : Nat}
end
theorem upd_same_of {H H1 : Hp} {r : Addr} {o : HO} (s : Same H H1) (hr : H r = none) : Same H (upd H1 r o) := fun b o e => by rw [upd_ne (ne_of_none e hr)]; exact s b o e
end Rc
namespace Rc
open PySem PySem.Spec PyProof.Rows L2
section
variable {h : Nat} {cs : List Row} {ls a b c : List Int}
end
end Rc
namespace Rc
open PySem PySem.Spec PyProof.Rows L2
section
variable {h : Nat} {cs : List Row} {ls acc : List Int}
end
end Rc
namespace Rc
open PySem PySem.Spec PyProof.Rows L2
section
variable {CT CR : Addr} {K : Frag} {H H' : Hp} {x s t : Addr} {h : Nat} {cs : List Row} {ls acc : List Int}
end
section
variable {K : Frag} {H H' : Hp} {vs : List V} {L : List (Int × Int)}
end
section
variable {F G : Addr → Prop} {C : Addr} {K : Frag} {H H' : Hp} {t s : Addr} {h : Nat} {cs : List Row} {ls acc : List Int}
end
end Rc
namespace Rc
open PySem PySem.Spec PyProof.Rows L2
section
variable {F : Addr → Prop} {C : Addr} {K : Frag} {H H' : Hp} {t : Addr} {h : Nat} {cs : List Row} {ls : List Int}
end
section
variable {n hop : Nat} {kind : Str} {b : Int} {ms ws : Nat → Int} {cs : List Row} {acc : List Int}
end
end Rc
namespace Rc
open PySem PySem.Spec PyProof.Rows L2
section
variable {h : Nat} {cs : List Row} {ls a b : List Int}
end
end Rc
namespace L2
open PySem PySem.Spec PyProof.Rows
section
variable {P : Program} {w : World} {H H' : Hp} {h h' : Heap} {a : Addr} {o : HO}
theorem ObjOk.some (x : ObjOk P w H h a o) : ∃ ob, h.get? a = some ob := by
  induction o with
  | lst xs => obtain ⟨z, its, n, r, e⟩ := x; exact ⟨_, e⟩
  | tup xs => obtain ⟨z, its, r, ob, e, c⟩ := x; exact ⟨_, e⟩
  | dK kvs => obtain ⟨z, y, vs, r, ob, es, ep, e, c⟩ := x; exact ⟨_, e⟩
  | dT kvs => obtain ⟨z, y, xs, r, ob, es, ep, e, c⟩ := x; exact ⟨_, e⟩
  | set S n => obtain ⟨ob, es, ep, t, e, c⟩ := x; exact ⟨_, e⟩
  | ins C dx fs => obtain ⟨d, z, ne, e, mA, ⟨od, es, ep, e2, c⟩, r⟩ := x; exact ⟨_, e⟩
  | own y => exact x
  | xd fs => obtain ⟨mA, ⟨od, es, ep, e, c⟩, r⟩ := x; exact ⟨_, e⟩
  | rng lo hi => obtain ⟨t, u, v, e⟩ := x; exact ⟨_, e⟩
  | frz ob u ih => obtain ⟨e, q⟩ := x; exact ⟨_, e⟩
  | tbl ps => exact ⟨_, x⟩
  | met f y => exact ⟨_, x⟩
  | ext φ => obtain ⟨p, e, st⟩ := x; exact e
theorem HOk.keptT (x : HOk P w H h) (k : ∀ b u, H b ≠ none → h.get? b = some u → h'.get? b = some u) : HOk P w H h' := fun a o e =>
  (x a o e).stay (fun b u hb => k b u (by rcases hb with rfl | hb <;> simp [*])) (fun _ q => q) (fun _ _ q => q)
theorem HOk.none (x : HOk P w H h) (e : h.get? a = none) : H a = none := by
  cases q : H a with
  | none => rfl
  | some o => obtain ⟨ob, z⟩ := (x a o q).some; rw [e] at z; cases z
end
theorem Un.fly {fs : List Addr} {H₀ H : Hp} {h₀ h1 h2 : Heap} (u : Un fs [] H₀ H h₀ h1) (k : ∀ b o o', h₀.get? b = some o' → h1.get? b = some o → b ∉ fs → h2.get? b = some o)
    (sl : ∀ b o, h1.get? b = some o → b ∈ fs → ∃ sl, h2.get? b = some { o with slots := sl }) : Un fs [] H₀ H h₀ h2 where
  keep := fun b o q n hb hx => k b o o q (u.keep b o q n hb hx) hb
  slot := fun b o q n hb hx => by
    obtain ⟨s1, e1⟩ := u.slot b o q n hb hx
    obtain ⟨s2, e2⟩ := sl b _ e1 hb
    exact ⟨s2, e2⟩
  free := u.free
  there := fun b o q hx => by
    obtain ⟨o', e1⟩ := u.there b o q hx
    by_cases hb : b ∈ fs
    · obtain ⟨s2, e2⟩ := sl b _ e1 hb; exact ⟨_, e2⟩
    · exact ⟨_, k b o' o q e1 hb⟩
  tups := u.tups
  frzs := u.frzs
  tbls := u.tbls
def CXW (P : Program) (w : World) : CXT := fun outer H s E e s' => ∃ (a C t : Addr) (H' : Hp) (B : Heap), e = .ref a ∧ s'.os = s.os ∧ AllBare s'.gens ∧ Un (frs outer) [] H H' s.heap s'.heap ∧ HOk P w H' s'.heap ∧ H' a = none ∧ s.heap.get? a = none ∧
  Heap.FlyingW B outer a (.ref C) (.ref t) s'.heap ∧ (∀ b o, s'.heap.get? b = some o → b ∉ frs outer → ((∃ o', s.heap.get? b = some o') ∨ H' b ≠ none) → B.get? b = some o) ∧ E (.ref C) none H'
structure Cx.Flies (X : Cx) (E : XK) : Prop where
  ex : X.ex = []
  stk : X.stack = X.env :: X.outer
  fr : X.env.frame = some X.env.locals
  xe : ∀ e s', wpAny (model X.prog X.w) X.A (leaving X.env e) (fun _ s'' => CXW X.prog X.w X.outer X.H₀ X.s₀ E e s'') (fun _ _ => False) s' → X.xe e s'
section
variable {X : Cx} {pins : List (Addr × Obj)} {σ : St} {H : Hp} {s s' : Shared} {E E1 : XK} {a C : Addr} {args : List Value}
theorem Inv.notLoc (I : Inv X pins σ H s) (F : X.Flies E) {b : Addr} {o : Obj} (e : X.s₀.heap.get? b = some o) (n : b ∉ frs X.outer) : b ∉ frs X.stack := by
  rw [F.stk]
  intro z
  have : b ∈ X.env.locals :: frs X.outer := by
    have q : frs (X.env :: X.outer) = X.env.locals :: frs X.outer := by unfold frs; rw [List.filterMap_cons, F.fr]
    rw [q] at z; exact z
  rcases List.mem_cons.mp this with rfl | z
  · have := Heap.lt_size e
    exact absurd I.ok.above (Nat.not_le_of_lt this)
  · exact n z
theorem Inv.baseN (I : Inv X pins σ H s) (F : X.Flies E) : Un (frs X.outer) [] X.H₀ H X.s₀.heap s.heap := by
  have := I.base
  rw [F.ex] at this
  exact this
theorem Inv.slots (I : Inv X pins σ H s) {h2 : Heap} (k : s.heap.UpToSlots h2) : ∀ b o, s.heap.get? b = some o → b ∈ frs X.outer → ∃ sl, h2.get? b = some { o with slots := sl } := fun b o e hb => by
  obtain ⟨_, o', e', nf⟩ := I.funs.mem hb
  rw [e] at e'
  cases e'
  exact k b o e nf
theorem Inv.madeX (I : Inv X pins σ H s) (F : X.Flies E) {h' : Heap} (m : Heap.MadeExcOf s.heap h' a (.ref C) args) (q : E (.ref C) none H) : X.xe (.ref a) { s with heap := h' } := by
  refine F.xe _ _ (wpAny_leaves_madeW (h := s.heap) (base := PySem.W.hideAll s.heap (frs X.stack)) (by rw [I.ok.frames, F.stk]) F.fr (fun b o e => PySem.W.of_hideAll _ e) ?_ m fun h2 t fl tp nt up => ?_)
  · have := PySem.W.funFrames_hide I.stack (as := frs X.stack) fun env he b hb => List.mem_filterMap.mpr ⟨env, he, hb⟩
    rw [F.stk] at this ⊢
    exact this
  have inB : ∀ b o, s.heap.get? b = some o → b ∉ frs X.stack → (PySem.W.hideAll s.heap (frs X.stack)).get? b = some o := fun b o e n => PySem.W.hideAll_get _ e n
  have trk : ∀ b, H b ≠ none → b ∉ frs X.stack := fun b hb z => hb (I.stkFree b z)
  have up' : s.heap.UpToSlots h2 := (Heap.UpToSlots.of_keeps m.keeps).trans up
  refine ⟨a, C, t, H, _, rfl, I.os, I.bare, ?_, ?_, I.hok.none m.new, ?_, fl, ?_, q⟩
  · exact (I.baseN F).fly (fun b o o' e0 e1 n => fl.1 b o (inB b o e1 (I.notLoc F e0 n))) (I.slots up')
  · exact I.hok.keptT fun b u hb e => fl.1 b u (inB b u e (trk b hb))
  · cases e : X.s₀.heap.get? a with
    | none => rfl
    | some o => obtain ⟨o', e'⟩ := (I.baseN F).there a o e (by simp); rw [m.new] at e'; cases e'
  · intro b o e n hb
    have : ∃ o', s.heap.get? b = some o' ∧ b ∉ frs X.stack := by
      rcases hb with ⟨o0, e0⟩ | hb
      · obtain ⟨o', e'⟩ := (I.baseN F).there b o0 e0 (by simp)
        exact ⟨o', e', I.notLoc F e0 n⟩
      · obtain ⟨u, hu⟩ := Option.ne_none_iff_exists'.mp hb
        obtain ⟨o', e'⟩ := (I.hok b u hu).some
        exact ⟨o', e', trk b hb⟩
    obtain ⟨o', e', nn⟩ := this
    have z := fl.1 b o' (inB b o' e' nn)
    have z : h2.get? b = some o' := z
    have e : h2.get? b = some o := e
    rw [e] at z
    cases z
    exact inB b o e' nn
theorem Inv.arrive (I : Inv X pins σ H s) {e : Value} (h : CXW X.prog X.w X.stack H s E1 e s') : ∃ (a C t : Addr) (H' : Hp) (B : Heap), e = .ref a ∧ Inv X pins σ H' s' ∧ H' a = none ∧ s.heap.get? a = none ∧
    Heap.FlyingW B X.stack a (.ref C) (.ref t) s'.heap ∧ (∀ b o, s'.heap.get? b = some o → b ∉ frs X.stack → ((∃ o', s.heap.get? b = some o') ∨ H' b ≠ none) → B.get? b = some o) ∧ E1 (.ref C) none H' ∧ Un (frs X.stack) [] H H' s.heap s'.heap := by
  obtain ⟨a, C, t, H', B, rfl, os, bare, un, hok, free, fresh, fl, all, q⟩ := h
  exact ⟨a, C, t, H', B, rfl, I.call' os un hok bare (fun b z => absurd z (by simp)), free, fresh, fl, all, q, un⟩
theorem passW (F : X.Flies E) (hE : ∀ C H', E1 (.ref C) none H' → E (.ref C) none H') : Passes (CXW X.prog X.w) X E1 := fun pins σ H s e s' I h => by
  obtain ⟨a, C, t, H', B, rfl, I', free, fresh, fl, all, q, un⟩ := I.arrive h
  refine F.xe _ _ (wpAny_leaves_onW (by rw [I.ok.frames, F.stk]) F.fr (by rw [← F.stk]; exact fl) fun h2 fl2 up => ?_)
  have inB : ∀ b o o', X.s₀.heap.get? b = some o' → s'.heap.get? b = some o → b ∉ frs X.outer → B.get? b = some o := fun b o o' e0 e n => by
    obtain ⟨o1, e1⟩ := (I.baseN F).there b o' e0 (by simp)
    exact all b o e (I.notLoc F e0 n) (.inl ⟨_, e1⟩)
  have trk : ∀ b, H' b ≠ none → b ∉ frs X.stack := fun b hb z => hb (I'.stkFree b z)
  refine ⟨a, C, t, H', B, rfl, I'.os, I'.bare, ?_, ?_, free, ?_, fl2, ?_, hE _ _ q⟩
  · exact (I'.baseN F).fly (fun b o o' e0 e1 n => fl2.1 b o (inB b o o' e0 e1 n)) (I'.slots up)
  · exact I'.hok.keptT fun b u hb e => fl2.1 b u (all b u e (trk b hb) (.inr hb))
  · cases e : X.s₀.heap.get? a with
    | none => rfl
    | some o => obtain ⟨o', e'⟩ := (I.baseN F).there a o e (by simp); rw [fresh] at e'; cases e'
  · intro b o e n hb
    have e : h2.get? b = some o := e
    have : ∃ o', B.get? b = some o' := by
      rcases hb with ⟨o0, e0⟩ | hb
      · obtain ⟨o', e'⟩ := (I'.baseN F).there b o0 e0 (by simp)
        exact ⟨o', inB b o' o0 e0 e' n⟩
      · obtain ⟨u, hu⟩ := Option.ne_none_iff_exists'.mp hb
        obtain ⟨o', e'⟩ := (I'.hok b u hu).some
        exact ⟨o', all b o' e' (trk b hb) (.inr hb)⟩
    obtain ⟨o', e'⟩ := this
    have z := fl2.1 b o' e'
    rw [e] at z
    cases z
    exact e'
end
end L2
namespace L2
open PySem PySem.Spec PyProof.Rows
theorem own_obj {K : Frag} {h : Heap} {C : Addr} {bmB : List Value} {newId : String} (X : K.In h) (q : PySem.W.excIn K C bmB newId = true) :
    ∃ (tl : List Value) (N : Addr) (nm qn : Str) (bs : List Value) (hdct : Bool) (sn : List Str) (sub : List Value) (ab : Bool) (col : Option Bool) (dd : Option Addr) (k0 k1 k2 k3 k5 : Option Value) (mN : Str → Option Value),
      h.get? C = some (excClassObj nm qn C N bs tl hdct sn sub ab col dd k0 k1 k2 k3 k5 newId) ∧ h.Ns N mN ∧ mN "__init__" = none ∧ OwnTail h bmB tl := by
  unfold PySem.W.excIn at q
  split at q
  · rename_i dd cd sl lk
    split at q
    · rename_i C' tl k0 k1 k2 k3 n k5 em es
      simp only [Bool.and_eq_true, beq_iff_eq, Bool.not_eq_true'] at q
      obtain ⟨⟨⟨⟨⟨q1, q2⟩, q3⟩, q4⟩, q5⟩, q6⟩ := q
      subst q1 q2
      have g := X _ _ lk
      obtain ⟨c1, c2, c3, c4, c5, c6, c7, c8, c9, c10, c11⟩ := cd
      obtain ⟨sl⟩ := sl
      dsimp only at em es q3 q5 q6
      subst em es q3
      exact ⟨tl, c4, c1, c5, c2, c6, c7, c8, c9, c10, dd, k0, k1, k2, k3, k5, _, g, .of_isNs (PySem.W.isNs_of_in X q5), PySem.W.nsMap_none_of_in X q5 q6, PySem.W.tail_of_in X q4⟩
    · cases q
  · cases q
section
variable {X : Cx} {E : XK} {x : Str} {C : Addr} {e : Expr} {es : List Expr} {t : TA} {np cpos pos : Pos} {B newId initId : String} {bmB : List Value}
def tRaise (C : Addr) (E : XK) (t : TA) : TS := fun _ σ H => t σ H fun vs H1 => vs.length ≤ sizeLine ∧ E (.ref C) none H1
theorem ps_raise (F : X.Flies E) (hc : X.calm = true) (hg : Gl X x) (hm : X.mg x = some (.ref C)) (q : PySem.W.excIn X.K C bmB newId = true) (FB : ExcBaseFacts B newId initId bmB) (ha : PA X (e :: es) t)
    (hdb : (x == ("__debug__" : Str)) = false := by decide) (he : starEach (e :: es) X.env = (false, eval e X.env) :: starEach es X.env := by rfl) (hpl : (backTo cpos (starEach es X.env)).any (·.1) = false := by rfl) :
    PS X (.Raise (some (.Call (.Name x np) (e :: es) [] cpos)) none pos) (tRaise C E t) := by
  intro pins s σ H D I h
  obtain ⟨tl, N, nm, qn, bs, hdct, sn, sub, ab, col, dd, k0, k1, k2, k3, k5, mN, hC, hN, hni, T⟩ := own_obj I.ok.mod.kin q
  refine wpAny_Raise_call_subT (C := C) (nm := nm) (q := qn) (N := N) (bs := bs) (bm := tl) (hdct := hdct) (sn := sn) (sub := sub) (ab := ab) (col := col) (dd := dd) (k0 := k0) (k1 := k1) (k2 := k2) (k3 := k3) (k5 := k5)
    FB (mN := mN) (T.hasType FB.hasBase) (I.ok.hd hc) (by rw [he]; show (false || (backTo cpos (starEach es X.env)).any (·.1)) = false; rw [hpl]; rfl) hni (ld_glob I hg hm ⟨rfl, ?_⟩ hdb)
  have h1 := ha cpos pins s σ H _ I h
  rw [he] at h1 ⊢
  exact Calls.evalArgs_plain (wpAny_mono h1 (fun us s2 ⟨vs, H2, I2, r, hl, q2⟩ => ⟨rfl, by rw [← r.length]; exact hl, I2.bk _ _ hC, hN.keeps I2.bk, T.keeps I2.bk, fun h' a m => I2.madeX F m q2⟩) fun _ _ y => y)
end
section
variable {P : Program} {w : World} {K : Frag} {mg : Str → Option Value} {base : Heap} {k : Nat} {f : Addr} {fd : FuncData} {ps : List Str} {sp : Sp}
theorem Fun.okW {x qual : Str} {st : Stmt} {N : List Str} (F : Fun K x qual st f fd) (S : FnScope N ps (defScope st)) (len : ∀ vs H Q E, sp vs H Q E → vs.length = ps.length)
    (hbody : ∀ (cdv : Value) (A : Around) (outer : List Env) (s : Shared) (H : Hp) (vs : List V) (Q : VK) (E : XK), Room k (A.deeper (envOfC qual (defScope st) s.heap.objs.size f cdv)) → sp vs H Q E →
      ∃ t, PSs (cxOf (CXW P w) P w K mg base N qual (defScope st) f cdv A outer s H E) (defBody st) t ∧ t { nx := fun _ H' => Q .non H', rt := Q } (start N vs) H) : FnOk P w K mg base (CXW P w) (k + 1) f fd ps sp := by
  obtain ⟨oc, od, kV, doc, pm, an, cdv, ct, osl, rfl, lk, hcd⟩ := F.ex
  exact fn_of lk hcd S len fun A outer s H vs Q E hr hsp => hbody cdv A outer s H vs Q E hr hsp
theorem flies {N : List Str} {qual : Str} {scope : Scope} {cd : Value} {A : Around} {outer : List Env} {s : Shared} {H : Hp} {E : XK} : (cxOf (CXW P w) P w K mg base N qual scope f cd A outer s H E).Flies E :=
  ⟨rfl, rfl, rfl, fun e s' h => wpAny_mono h (fun _ _ z => z) fun _ _ z => z.elim⟩
end
section
variable {X : Cx} {v₁ v₂ : Expr} {rest : List Expr} {pos : Pos}
end
structure RoomH (k : Nat) (A : Around) : Prop where
  dp : A.depth + 3 * k + 5 < recursionLimit
  un : A.units + 16 * k + 200 < cLine
theorem Room.h {k : Nat} {A : Around} (r : Room k A) (v : Option Value) : RoomH k (A.mark v) := ⟨r.dp, r.un⟩
theorem RoomH.n {k : Nat} {A : Around} (r : RoomH k A) : Room k { A with handled := none } := ⟨rfl, r.dp, r.un⟩
theorem RoomH.deeper {k : Nat} {A : Around} (r : RoomH (k + 1) A) (env : Env) : RoomH k (A.deeper env) :=
  ⟨by have := r.dp; show A.depth + 1 + 3 * k + 5 < _; omega, by have := r.un; show A.units + 3 + 16 * k + 200 < _; omega⟩
structure FnOkH (P : Program) (w : World) (K : Frag) (mg : Str → Option Value) (base : Heap) (k : Nat) (f : Addr) (fd : FuncData) (ps : List Str) (sp : Sp) : Prop where
  len : ∀ vs H Q E, sp vs H Q E → vs.length = ps.length
  run : ∀ (A : Around) (outer : List Env) (s : Shared) (H : Hp) (args : Args) (us : List Value) (vs : List V) (Q : VK) (E : XK), RoomH k A → Env0 P w K mg base A outer s H → BindsTo s fd args (ps.zip us) → Vals vs us → sp vs H Q E →
    codeAny (model P w) A (.call (.ref f) args) (CR CX0 outer P w H s Q E) s
def cxH (P : Program) (w : World) (K : Frag) (mg : Str → Option Value) (base : Heap) (N : List Str) (qual : Str) (scope : Scope) (f : Addr) (cd : Value) (A : Around) (outer : List Env) (s : Shared) (H : Hp) : Cx :=
  { cxOf CX0 P w K mg base N qual scope f cd A outer s H E0 with calm := false, xe := fun _ _ => False }
theorem inv_startH {P : Program} {w : World} {K : Frag} {mg : Str → Option Value} {base : Heap} {N ps : List Str} {qual : Str} {scope : Scope} {f : Addr} {cd : Value} {A : Around} {outer : List Env} {s s1 : Shared} {H : Hp} {us : List Value} {vs : List V}
    (S : FnScope N ps scope) (e0 : Env0 P w K mg base A outer s H) (hl : vs.length = ps.length) (r : Vals vs us)
    (x : InCallC s s.heap.objs.size (bindL (envOfC qual scope s.heap.objs.size f cd).kindOf (ps.zip us) fun _ => none) (cellsFrom (s.heap.objs.size + 1) scope.names []) (bindC (envOfC qual scope s.heap.objs.size f cd).kindOf (ps.zip us) fun _ => none) s1) :
    Inv (cxH P w K mg base N qual scope f cd A outer s H) [] (start N vs) H s1 := by
  have e1 : Env0 P w K mg base { A with handled := none } outer s H := ⟨e0.frames, e0.mod, e0.bs, e0.bsz, e0.funs, e0.frf, e0.hok, e0.bare⟩
  have I := inv_start (CX := CX0) (E := E0) S rfl e1 hl r x
  have ok := I.ok
  exact ⟨⟨ok.mod, ok.kind, ok.glob, ok.blt, ok.above, ok.inj, ok.has, ok.cab, (fun z => by cases z), Around.frames_deeper e0.frames, ok.stk, ok.exf, ok.bs, ok.bsz, ok.noex, ok.exfs, ok.funs, ok.frf⟩, I.os, I.bare, I.base, I.loc, I.cell, I.free, I.freeC, I.pin, I.hok, I.len⟩
section
variable {P : Program} {w : World} {K : Frag} {mg : Str → Option Value} {base : Heap} {k : Nat} {f : Addr} {fd : FuncData} {ps : List Str} {sp : Sp}
theorem Fun.okH {x qual : Str} {st : Stmt} {N : List Str} (F : Fun K x qual st f fd) (S : FnScope N ps (defScope st)) (len : ∀ vs H Q E, sp vs H Q E → vs.length = ps.length)
    (hbody : ∀ (cdv : Value) (A : Around) (outer : List Env) (s : Shared) (H : Hp) (vs : List V) (Q : VK) (E : XK), RoomH k (A.deeper (envOfC qual (defScope st) s.heap.objs.size f cdv)) → sp vs H Q E →
      ∃ t, PSs (cxH P w K mg base N qual (defScope st) f cdv A outer s H) (defBody st) t ∧ t { nx := fun _ H' => Q .non H', rt := Q } (start N vs) H) : FnOkH P w K mg base (k + 1) f fd ps sp := by
  obtain ⟨oc, od, kV, doc, pm, an, cdv, ct, osl, rfl, lk, hcd⟩ := F.ex
  refine ⟨len, fun A outer s H args us vs Q E hr e0 hb r hsp => ?_⟩
  have hl := len _ _ _ _ hsp
  have KX : K.In s.heap := e0.mod.kin.keeps fun b o e => (e0.bs b o e).1
  have lim : s.heap.NoLimit := e0.mod.nolimit.keeps fun b o e => (e0.bs b o e).1
  have hkind : ∀ y ∈ ps.zip us, (defScope st).names.lookup y.1 = some .local ∨ ((defScope st).names.lookup y.1 = some .cell ∧ ((cellsFrom (s.heap.objs.size + 1) (defScope st).names []).lookup y.1).isSome = true) := fun ⟨n, v⟩ hy => by
    rcases S.par n (List.of_mem_zip hy).1 with q | q
    · exact .inl q
    · exact .inr ⟨q, PySem.W.cellsFrom_some _ _ _ (.inl q)⟩
  refine codeAny_call_function hr.n.depth (KX _ _ lk) rfl S.co S.gen rfl (PySem.W.codeRec_of KX hcd) (hb _ _ _ _ ?_)
  refine wpAny_newFunctionEnv_cells S.kind hkind fun env he s1 x => ?_
  subst he
  refine ⟨lim.keeps x.toInCall.keep, codeAny_func ?_⟩
  obtain ⟨t, ht, hq⟩ := hbody cdv A outer s H vs Q E (hr.deeper _) hsp
  have I := inv_startH (cd := cdv) (f := f) S e0 hl r x
  refine wpAny_mono (ht [] s1 (start N vs) H _ I hq) (fun fl s' hs => ?_) fun e s' hs => False.elim hs
  have fin : ∀ {σ' : St} {H' : Hp} {v : V} {u : Value}, Inv (cxH P w K mg base N qual (defScope st) f cdv A outer s H) [] σ' H' s' → RelV v u → Q v H' → CE outer P w H s Q u s' :=
    fun {σ' H' v u} J rv q => ⟨v, H', J.os, J.bare, J.base, J.hok, rv, q⟩
  cases fl with
  | ret u =>
    obtain ⟨v, σ', H', J, rv, q⟩ := hs
    exact fin J rv q
  | next =>
    obtain ⟨σ', H', J, q⟩ := hs
    exact fin (v := V.non) (u := Value.none) J rfl q
  | brk =>
    obtain ⟨_, _, _, q⟩ := hs
    exact False.elim q
  | cont =>
    obtain ⟨_, _, _, q⟩ := hs
    exact False.elim q
end
section
variable {X : Cx} {k : Nat} {f : Addr} {fd : FuncData} {ps : List Str} {sp : Sp} {x : Str} {p pos : Pos} {e : Expr} {es : List Expr} {t : TA}
theorem pe_callH (F : FnOkH X.prog X.w X.K X.mg X.base k f fd ps sp) (hr : RoomH k X.A) (hg : Gl X x) (hm : X.mg x = some (.ref f)) (hk : keepIn X.K (.ref f) = true) (hb : Binds X.K fd ps [])
    (ha : PA X (e :: es) t) (hdb : (x == ("__debug__" : Str)) = false := by decide) (he : starEach (e :: es) X.env = (false, eval e X.env) :: starEach es X.env := by rfl) (hpl : (backTo pos (starEach es X.env)).any (·.1) = false := by rfl) :
    PE X (.Call (.Name x p) (e :: es) [] pos) (tCall sp [] E0 t) := by
  intro pins s σ H Q I h
  refine wpAny_Call_Name_kw (ld_glob I hg hm ?_ hdb)
  refine PySem.W.callWith_K (h₀ := X.base) I.ok.mod.kin hk (thn (ha pos pins s σ H _ I h) fun us s1 ⟨vs, H1, I1, r, q⟩ => ⟨I1.kIn, ?_⟩) he hpl
  have r2 : Vals (vs ++ []) (us ++ []) := r.append .nil
  have hl : (us ++ []).length = ps.length := by rw [← r2.length]; exact F.len _ _ _ _ q
  refine wpAny_call (codeAny_mono (F.run X.A X.stack s1 H1 ⟨us, []⟩ (us ++ []) (vs ++ []) Q E0 hr I1.env0 (hb s1 us I1.kIn hl) r2 q) fun r s' hq => ?_)
  cases r with
  | error e => exact False.elim hq
  | ok fl =>
    cases fl with
    | ret u => exact I1.after hq
    | next => exact False.elim hq
    | brk => exact False.elim hq
    | cont => exact False.elim hq
end
end L2
namespace L2
open PySem PySem.Spec PyProof.Rows
def ExcO (a C : Addr) : HO := .ext fun h => ∃ o, h.get? a = some o ∧ o.cls = .ref C
theorem Un.track {fs : List Addr} {H1 H' : Hp} {h0 h2 : Heap} {a : Addr} {o : HO} (u : Un fs [] H1 H' h0 h2) (f : h0.get? a = none) (n : H' a = none) : Un fs [] H1 (upd H' a o) h0 h2 where
  keep := u.keep
  slot := u.slot
  free := fun b ob q m hx => by
    rw [upd_ne (fun z => by rw [z, f] at q; cases q)]
    exact u.free b ob q m hx
  there := u.there
  tups := fun b xs q => by
    have := u.tups b xs q
    rw [upd_ne (fun z => by rw [z, n] at this; cases this)]
    exact this
  frzs := fun b ob xs q => by
    have := u.frzs b ob xs q
    rw [upd_ne (fun z => by rw [z, n] at this; cases this)]
    exact this
  tbls := fun b ps q => by
    obtain ⟨m, e⟩ := u.tbls b ps q
    exact ⟨m, by rw [upd_ne (fun z => by rw [z, n] at e; cases e)]; exact e⟩
theorem HOk.track {P : Program} {w : World} {H' : Hp} {h2 : Heap} {a : Addr} {o : HO} (x : HOk P w H' h2) (n : H' a = Option.none) (ok : ObjOk P w (upd H' a o) h2 a o) : HOk P w (upd H' a o) h2 := fun b u e => by
  by_cases hb : b = a
  · subst hb
    rw [upd_same] at e
    cases e
    exact ok
  · rw [upd_ne hb] at e
    refine (x b u e).stay (fun _ _ _ q => q) (fun c q => ?_) fun c xs q => ?_
    · rw [upd_ne (fun z => by rw [z, n] at q; cases q)]; exact q
    · rw [upd_ne (fun z => by rw [z, n] at q; cases q)]; exact q
def Cx.tr (X : Cx) (pins : List (Addr × Obj)) (Ex : St → XK) : Cx :=
  { X with pn := X.pn ++ pins, xe := fun e s' => ∃ pl σ1 H1 s1, Inv X (pins ++ pl) σ1 H1 s1 ∧ CXW X.prog X.w X.stack H1 s1 (Ex σ1) e s' }
def Cx.hdl (X : Cx) (v : Value) : Cx := { X with A := X.A.mark (some v), calm := false, xe := fun _ _ => False }
section
variable {X : Cx} {pins pl : List (Addr × Obj)} {σ : St} {H H' : Hp} {s s' : Shared} {Ex : St → XK} {v : Value}
theorem Inv.tr (I : Inv X pins σ H s) : Inv (X.tr pins Ex) [] σ H s :=
  ⟨⟨I.ok.mod, I.ok.kind, I.ok.glob, I.ok.blt, I.ok.above, I.ok.inj, I.ok.has, I.ok.cab, I.ok.hd, I.ok.frames, I.ok.stk, I.ok.exf, I.ok.bs, I.ok.bsz, I.ok.noex, I.ok.exfs, I.ok.funs, I.ok.frf⟩, I.os, I.bare, I.base, I.loc, I.cell, I.free, I.freeC,
    fun p hp => I.pin p (by rw [List.append_nil] at hp; exact hp), I.hok, I.len⟩
theorem Inv.untr (I : Inv (X.tr pins Ex) pl σ H s) : Inv X (pins ++ pl) σ H s :=
  ⟨⟨I.ok.mod, I.ok.kind, I.ok.glob, I.ok.blt, I.ok.above, I.ok.inj, I.ok.has, I.ok.cab, I.ok.hd, I.ok.frames, I.ok.stk, I.ok.exf, I.ok.bs, I.ok.bsz, I.ok.noex, I.ok.exfs, I.ok.funs, I.ok.frf⟩, I.os, I.bare, I.base, I.loc, I.cell, I.free, I.freeC,
    fun p hp => I.pin p (by show p ∈ (X.pn ++ pins) ++ pl; rw [List.append_assoc]; exact hp), I.hok, I.len⟩
theorem Inv.untr0 (I : Inv (X.tr pins Ex) [] σ H s) : Inv X pins σ H s := I.untr.unpinned
theorem Inv.hdl (I : Inv X pins σ H s) : Inv (X.hdl v) pins σ H s :=
  ⟨⟨I.ok.mod, I.ok.kind, I.ok.glob, I.ok.blt, I.ok.above, I.ok.inj, I.ok.has, I.ok.cab, (fun z => by cases z), I.ok.frames, I.ok.stk, I.ok.exf, I.ok.bs, I.ok.bsz, I.ok.noex, I.ok.exfs, I.ok.funs, I.ok.frf⟩, I.os, I.bare, I.base, I.loc, I.cell, I.free, I.freeC, I.pin, I.hok, I.len⟩
theorem Inv.unhdl (hd : X.calm = true → X.A.handled = none) (I : Inv (X.hdl v) pins σ H s) : Inv X pins σ H s :=
  ⟨⟨I.ok.mod, I.ok.kind, I.ok.glob, I.ok.blt, I.ok.above, I.ok.inj, I.ok.has, I.ok.cab, hd, I.ok.frames, I.ok.stk, I.ok.exf, I.ok.bs, I.ok.bsz, I.ok.noex, I.ok.exfs, I.ok.funs, I.ok.frf⟩, I.os, I.bare, I.base, I.loc, I.cell, I.free, I.freeC, I.pin, I.hok, I.len⟩
theorem Inv.goes {i : Nat} {n : Str} (I : Inv X pins σ H s) (hN : X.N.Nodup) (hi : X.N[i]? = some n) (hl : X.env.kindOf n = some .local) {m : Str → Option Value} {u : Option Value} {h' : Heap} {tk : Nat} (hm : s.heap.Ns X.env.locals m)
    (hq : ∀ (i : Nat) (x : Str) (v : V), X.N[i]? = some x → σ[i]? = some (some v) → Vis X.env.scope x → ∃ u, RelV v u ∧ Look X.env s.heap m x u)
    (hn' : h'.Ns X.env.locals (fun x => if x = n then u else m x)) (hs : Heap.SameBut X.env.locals s.heap h') : Inv X pins (σ.set i none) H { s with heap := h', toks := tk } := by
  have ne : ∀ b o, X.s₀.heap.get? b = some o → b ≠ X.env.locals := fun b o e => Nat.ne_of_lt (Nat.lt_of_lt_of_le (Heap.lt_size e) I.ok.above)
  have cne := I.cne
  have hiσ : i < σ.length := by rw [I.len]; exact (List.getElem?_eq_some_iff.mp hi).1
  refine ⟨I.ok, I.os, I.bare, ⟨fun b o e n hb hx => (hs.2 b (ne b o e)).trans (I.base.keep b o e n hb hx), fun b o e n hb hx => ?_, I.base.free, fun b o e hx => ?_, I.base.tups, I.base.frzs, I.base.tbls⟩, ⟨_, hn', fun j y v' e1 e2 e3 => ?_⟩, fun y c e => ?_, I.free, I.freeC, fun p hp => ?_, ?_, ?_⟩
  · obtain ⟨sl, e1⟩ := I.base.slot b o e n hb hx
    exact ⟨sl, (hs.2 b (ne b o e)).trans e1⟩
  · obtain ⟨o', e1⟩ := I.base.there b o e hx
    exact ⟨o', (hs.2 b (ne b o e)).trans e1⟩
  · by_cases hj : j = i
    · subst hj
      rw [List.getElem?_set_self hiσ] at e2
      cases e2
    · rw [List.getElem?_set_ne (Ne.symm hj)] at e2
      obtain ⟨u', r', q⟩ := hq j y v' e1 e2 e3
      refine ⟨u', r', ?_⟩
      rcases q with ⟨k, e⟩ | ⟨k, c, e, z⟩
      · refine .inl ⟨k, ?_⟩
        have : y ≠ n := fun e => hj (nodup_ix hN e1 (e ▸ hi))
        simp [this, e]
      · exact .inr ⟨k, c, e, z.sameBut hs (cne y c e)⟩
  · obtain ⟨w', z⟩ := I.cell y c e
    exact ⟨w', z.sameBut hs (cne y c e)⟩
  · obtain ⟨e, n, ne, nf, d⟩ := I.pin p hp
    exact ⟨(hs.2 p.1 ne).trans e, n, ne, nf, d⟩
  · exact I.hok.keptT fun b u hb e => (hs.2 b (fun z => hb (by rw [z]; exact I.free))).trans e
  · rw [List.length_set]; exact I.len
end
section
variable {X : Cx} {k : Nat} {f : Addr} {fd : FuncData} {ps : List Str} {sp : Sp} {x n : Str} {p np hpos pos : Pos} {e : Expr} {es : List Expr} {t : TA} {pins : List (Addr × Obj)} {Ex : St → XK}
def tCallX (sp : Sp) (Ex : St → XK) (t : TA) : TE := fun σ H Q => t σ H fun vs H1 => sp vs H1 Q (Ex σ)
theorem pe_callX (F : FnOk X.prog X.w X.K X.mg X.base (CXW X.prog X.w) k f fd ps sp) (hr : Room k X.A) (hg : Gl X x) (hm : X.mg x = some (.ref f)) (hk : keepIn X.K (.ref f) = true) (hb : Binds X.K fd ps [])
    (ha : PA (X.tr pins Ex) (e :: es) t) (hdb : (x == ("__debug__" : Str)) = false := by decide) (he : starEach (e :: es) X.env = (false, eval e X.env) :: starEach es X.env := by rfl) (hpl : (backTo pos (starEach es X.env)).any (·.1) = false := by rfl) :
    PE (X.tr pins Ex) (.Call (.Name x p) (e :: es) [] pos) (tCallX sp Ex t) := by
  intro pl s σ H Q I h
  refine wpAny_Call_Name_kw (ld_glob I hg hm ?_ hdb)
  refine PySem.W.callWith_K (h₀ := X.base) I.ok.mod.kin hk (thn (ha pos pl s σ H _ I h) fun us s1 ⟨vs, H1, I1, r, q⟩ => ⟨I1.kIn, ?_⟩) he hpl
  have hl : (us ++ []).length = ps.length := by rw [List.append_nil, ← r.length]; exact F.len _ _ _ _ q
  have hb' := hb s1 us I1.kIn hl
  rw [List.append_nil] at hb'
  refine wpAny_call (codeAny_mono (F.run X.A X.stack s1 H1 ⟨us, []⟩ us vs Q (Ex σ) hr I1.env0 hb' r q) fun r s' hq => ?_)
  cases r with
  | error e => exact ⟨pl, σ, H1, s1, I1.untr, hq⟩
  | ok fl =>
    cases fl with
    | ret u => exact I1.after hq
    | next => exact False.elim hq
    | brk => exact False.elim hq
    | cont => exact False.elim hq
def tTry (K : Frag) (CD : Addr) (i : Nat) (tb : (St → XK) → TS) (th : TS) : TS := fun D σ H =>
  tb (fun σ1 C _ H1 => ∃ c, C = .ref c ∧ PySem.W.exmOne K (.ref c) (.ref CD) = some true ∧ ∀ a, H1 a = none →
    th { nx := fun σ' H' => D.nx (σ'.set i none) H', rt := D.rt, bk := fun σ' H' => D.bk (σ'.set i none) H', ct := fun σ' H' => D.ct (σ'.set i none) H' } (σ1.set i (some (.ref a))) (upd H1 a (ExcO a c))) D σ H
theorem ps_try {body : List Stmt} {tb : (St → XK) → TS} {i : Nat} {CD : Addr} {b₀ : Stmt} {suite : List Stmt} {th : TS} (hst : X.stack = X.env :: X.outer) (hfr : X.env.frame = some X.env.locals) (hN : X.N.Nodup) (hi : X.N[i]? = some n)
    (hl : X.env.kindOf n = some .local) (hg : Gl X x) (hm : X.mg x = some (.ref CD)) (hb : ∀ pins Ex, PSs (X.tr pins Ex) body (tb Ex)) (hh : ∀ v, PSs (X.hdl v) (b₀ :: suite) th) (hdb : (x == ("__debug__" : Str)) = false := by decide) :
    PS X (.Try body [.ExceptHandler (some (.Name x np)) (some n) (b₀ :: suite) hpos] [] [] pos) (tTry X.K CD i tb th) := by
  intro pins s σ H D I h
  refine wpAny_Try_except (wpAny_mono (hb pins _ [] s σ H D I.tr h) (fun f s1 hs => ?_) fun e s1 he => ?_)
  · cases f with
    | next => obtain ⟨σ', H', J, q⟩ := hs; exact wpAny_execs_nil ⟨σ', H', J.untr0, q⟩
    | brk => obtain ⟨σ', H', J, q⟩ := hs; exact ⟨σ', H', J.untr0, q⟩
    | cont => obtain ⟨σ', H', J, q⟩ := hs; exact ⟨σ', H', J.untr0, q⟩
    | ret u => obtain ⟨v, σ', H', J, r, q⟩ := hs; exact ⟨v, σ', H', J.untr0, r, q⟩
  obtain ⟨pl, σ1, H1, s0, I1, hx⟩ := he
  have I1 := I1.unpinned
  obtain ⟨a, C, t, H', B, rfl, I', free, fresh, fl, all, ⟨c, ec, em, q⟩, un⟩ := I1.arrive hx
  cases ec
  have hfrm : X.A.frames = some (X.env :: X.outer) := by rw [I.ok.frames, hst]
  have trk : ∀ b, H' b ≠ none → b ∉ frs X.stack := fun b hb z => hb (I'.stkFree b z)
  have slot : ∀ {h2 : Heap}, s1.heap.UpToSlots h2 → ∀ b o, s1.heap.get? b = some o → b ∈ frs X.stack → ∃ sl, h2.get? b = some { o with slots := sl } := fun {h2} k b o e hb => by
    obtain ⟨_, o', e', nf⟩ := I'.stack.mem hb
    rw [e] at e'
    cases e'
    exact k b o e nf
  have go : ∀ {h2 : Heap}, B.StaysIn h2 → s1.heap.UpToSlots h2 → Un (frs X.stack) [] H1 H' s0.heap h2 ∧ HOk X.prog X.w H' h2 := fun {h2} st up =>
    ⟨un.fly (fun b o o' e0 e1 nb => st b o (all b o e1 nb (.inl ⟨o', e0⟩))) (slot up), I'.hok.keptT fun b u hb e => st b u (all b u e (trk b hb) (.inr hb))⟩
  have os : s1.os = s0.os := I'.os.trans I1.os.symm
  rw [hst] at fl
  refine wpAny_looks_onW hfrm hfr fl fun h4 held4 sm4 => ?_
  refine wpAny_landsW held4 fun h5 fl5 sm5 => ?_
  have up5 : s1.heap.UpToSlots h5 := sm4.trans sm5
  have I5 : Inv X pins σ1 H' { s1 with heap := h5 } := I1.call' (s' := { s1 with heap := h5 }) os (go fl5.1 up5).1 (go fl5.1 up5).2 I'.bare (fun b z => absurd z (by simp))
  have J5 : Inv (X.hdl (.ref a)) pins σ1 H' { s1 with heap := h5 } := I5.hdl
  refine wpAny_handleBy_cons (codeAny_handlers_test ?_) (by intro z; cases z)
  refine ld_glob J5 hg hm ?_ hdb
  obtain ⟨ob, hob, hoc⟩ := fl5.there
  refine (PySem.W.exm_one (M := model X.prog X.w) J5.kIn (cls := .ref C) (by rw [← hoc]; exact (PySem.W.Looks.ld hob).andThen .now) em).here ?_
  refine codeAny_handlers_suite_as ?_
  refine lands_againW fl5 fun h6 fl6 sm6 => ?_
  have up6 := up5.trans sm6
  have fre6 : (upd H' a (ExcO a C)) a = some (ExcO a C) := upd_same
  obtain ⟨ob6, hob6, hoc6⟩ := fl6.there
  have oke : ObjOk X.prog X.w (upd H' a (ExcO a C)) h6 a (ExcO a C) := ⟨⟨ob6, hob6, hoc6⟩, ⟨ob6, hob6⟩, fun g1 g2 ⟨o, e, ce⟩ k => ⟨o, k o e, ce⟩⟩
  have I6 : Inv X pins σ1 (upd H' a (ExcO a C)) { s1 with heap := h6 } :=
    I1.call' (s' := { s1 with heap := h6 }) os ((go fl6.1 up6).1.track fresh free) ((go fl6.1 up6).2.track free oke) I'.bare (fun b z => absurd z (by simp))
  refine store_ok (X := X.hdl (.ref a)) I6.hdl hN hi (.inl hl) (v := .ref a) rfl (fun s7 J7 => ?_) (.inr hl)
  refine wpAny_mono (hh (.ref a) pins s7 _ _ _ J7 (q a free)) (fun f s8 hs => ?_) fun _ _ z => False.elim z
  have back : ∀ {σ' : St} {H2 : Hp}, Inv (X.hdl (.ref a)) pins σ' H2 s8 → ∀ {R : Shared → Prop}, (∀ s9, Inv X pins (σ'.set i none) H2 s9 → R s9) →
      wpAny (model X.prog X.w) X.A (do bindName X.env n .none; unbindBehindTheSuite X.env n hpos) (fun _ s9 => R s9) X.xe s8 := fun {σ' H2} J {R} hR => by
    have J := J.unhdl I.ok.hd
    obtain ⟨m, hm', hq'⟩ := id J.loc
    exact wpAny_nameGoes_keeps hl hm' (by rw [J.ok.kind]; rfl) fun h9 u hn9 hs9 => hR _ (J.goes hN hi hl hm' hq' hn9 hs9)
  cases f with
  | next => obtain ⟨σ', H2, J, q⟩ := hs; exact back J fun s9 K9 => ⟨_, H2, K9, q⟩
  | brk => obtain ⟨σ', H2, J, q⟩ := hs; exact back J fun s9 K9 => ⟨_, H2, K9, q⟩
  | cont => obtain ⟨σ', H2, J, q⟩ := hs; exact back J fun s9 K9 => ⟨_, H2, K9, q⟩
  | ret u => obtain ⟨v, σ', H2, J, r, q⟩ := hs; exact back J fun s9 K9 => ⟨v, _, H2, K9, r, q⟩
end
end L2
namespace L2
open PySem PySem.Spec PyProof.Rows PySem.W Builtin Builtin.ObjectAttr Builtin.Getset_descriptor
structure ErrCls (K : Frag) (C : Addr) : Prop where
  ga : findIn K (.ref C) "__getattribute__" = some (some (.builtin "BaseException.__getattribute__"))
  gn : findIn K (.ref C) "__getattr__" = some none
  cl : findIn K (.ref C) "__class__" = some (some (.builtin "object.__class__"))
  gt : PySem.W.specialIn K (.builtin "object.__class__") "__get__" = some (some (.builtin "getset_descriptor.__get__"))
  tk : PySem.W.takesIn K (.builtin "object.__class__") = some true
  ob : PySem.W.mroIn K C (.type "object") = some true
  be : PySem.W.mroIn K C (.type "BaseException") = some true
  cs : (PySem.W.clsIn K C).isSome = true
section
variable {prog : Program} {w : World} {A : Around} {E : Value → Shared → Prop} {K : Frag} {C a : Addr} {o : Obj} {hh : Heap} {g : Array GenState} {d : Drawn} {t : Nat} {os : OsState}
theorem err_type {M : Model} (hx : hh.get? a = some o) (hc : o.cls = .ref C) : PySem.W.Looks M hh (typeOf (.ref a)) (.ref C) := hc ▸ (PySem.W.Looks.ld hx).andThen .now
theorem err_get {tp : Value} {R : Result → Shared → Prop} (X : K.In hh) (e : ErrCls K C) (hx : hh.get? a = some o) (hc : o.cls = .ref C) (h : R (.ok (.ret (.ref C))) ⟨hh, g, d, t, os⟩) :
    codeAny (model prog w) A (.call (.builtin "getset_descriptor.__get__") ⟨[.builtin "object.__class__", .ref a, tp], []⟩) R ⟨hh, g, d, t, os⟩ := by
  have L0 := err_type (M := model prog w) hx hc
  have L1 := PySem.W.looks_mroIn (M := model prog w) X e.ob
  refine codeAny_call_builtin PySem.W.KF.slot_gs.plain PySem.W.KF.entry_gs (PySem.W.KF.slot_gs.check _ _ _ _ _ _ _ _ PySem.W.KF.type_class (PySem.W.KF.args_gs _ _ _) ?_)
  unfold Builtin.«getset_descriptor.__get__» descrGet
  rw [PySem.W.dga_obj]
  refine wpAny_bind (wpAny_pure ?_)
  unfold descrGetter descrCheckInstance descrNameAndClass isInstance
  simp only [PySem.W.KF.owner_class]
  repeat lk
  refine ⟨Code.quiet_builtin _ (by decide +kernel), codeAny_builtin PySem.W.KF.entry_class ?_⟩
  unfold Builtin.«object.__class__» shownTypeOf
  repeat lk
  exact h
theorem err_find {M : Model} (X : K.In hh) (e : ErrCls K C) : PySem.W.Looks M hh (find (.ref a) (.ref C) "__class__") (.bind (.builtin "getset_descriptor.__get__") (.builtin "object.__class__")) := by
  have L1 := PySem.W.looks_findIn (M := M) X e.cl
  have L2 : PySem.W.Looks M hh (getOf (some (.builtin "object.__class__"))) (some (.builtin "getset_descriptor.__get__")) := PySem.W.looks_specialIn X e.gt
  have L3 := PySem.W.looks_takesIn (M := M) X e.tk
  refine L1.andThen (L2.andThen ?_)
  exact (show PySem.W.Looks M hh (dataDescriptor? (some (.builtin "object.__class__")) (some (.builtin "getset_descriptor.__get__"))) (some (.builtin "getset_descriptor.__get__", .builtin "object.__class__")) from L3.andThen .now).andThen (PySem.W.Looks.tag .now)
theorem err_entry {tk : Tok} {Q : Fin → Shared → Prop} (X : K.In hh) (e : ErrCls K C) (hx : hh.get? a = some o) (hc : o.cls = .ref C) (h : Q (.done (.ret (.ref C))) ⟨hh, g, d, t, os⟩) :
    wpAny (model prog w) A (Builtin.«object.__getattribute__» ⟨[.ref a, .str "__class__" tk], []⟩) Q E ⟨hh, g, d, t, os⟩ := by
  have L0 := err_type (M := model prog w) hx hc
  have L1 := err_find (M := model prog w) (a := a) X e
  unfold Builtin.«object.__getattribute__»
  refine wpAny_bind (wpAny_pure ?_)
  refine wpAny_bind ?_
  unfold attrName
  lk; lk; lk
  refine wpAny_bind (L0.at (wpAny_bind (L1.at ?_)))
  show wpAny _ _ (holding [.builtin "object.__class__"] (call (.builtin "getset_descriptor.__get__") [.builtin "object.__class__", .ref a, .ref C]) >>= ret) _ _ _
  exact wpAny_bind (wpAny_holding (wpAny_call (err_get X e hx hc (wpAny_pure h))))
theorem err_check {nameV : Value} {M : Model} {Q : Unit → Shared → Prop} (X : K.In hh) (e : ErrCls K C) (hx : hh.get? a = some o) (hc : o.cls = .ref C) (hq : Q () ⟨hh, g, d, t, os⟩) :
    wpAny M A (checkBuiltinCall "BaseException.__getattribute__" ⟨[.ref a, nameV], []⟩) Q E ⟨hh, g, d, t, os⟩ := by
  have hk : builtinKind "BaseException.__getattribute__" = some .slot := by decide +kernel
  have hsplit : splitId "BaseException.__getattribute__" = some ("BaseException", "__getattribute__") := by decide +kernel
  have L0 := err_type (M := M) hx hc
  have L1 := PySem.W.looks_mroIn (M := M) X e.be
  have ha := F.args_bexc_ga (.ref a) nameV
  simp only [checkBuiltinCall, hk, hsplit]
  refine wpAny_bind ?_
  · unfold isInstance
    repeat (first | lk | wp_step)
    exact hq
theorem err_class {Q : Option Value → Shared → Prop} (X : K.In hh) (e : ErrCls K C) (hx : hh.get? a = some o) (hc : o.cls = .ref C) (h : Q (some (.ref C)) ⟨hh, g, d, t + 1, os⟩) :
    wpAny (model prog w) A (getAttr? (.ref a) "__class__") Q E ⟨hh, g, d, t, os⟩ := by
  have L0 := err_type (M := model prog w) hx hc
  have L1 := PySem.W.looks_findIn (M := model prog w) X e.ga
  have L2 := PySem.W.looks_findIn (M := model prog w) X e.gn
  have f3 := F.excAttr_ValueError.ga.bind (.ref a)
  unfold getAttr? getAttrBy? getAttrBy
  refine wpAny_bind (wpAny_mkText (wpAny_bind (wpAny_attempt (wpAny_holding (wpAny_bind (L0.at (wpAny_bind (L1.at ?_))))))))
  show wpAny _ _ (getAttrByItsOwn _ _ _ _ _ _) _ _ _
  unfold getAttrByItsOwn hookBefore callGetattribute boundAndCalled
  refine wpAny_bind (L2.at (wpAny_bind (wpAny_attempt (wpAny_holding ?_))))
  rw [if_neg (by decide)]
  refine wpAny_bind (wpAny_of_eq f3 ?_)
  refine wpAny_call (codeAny_call_builtin F.excAttr_ValueError.ga.plain F.entry_bexc_ga (err_check X e hx hc (err_entry X e hx hc ?_)))
  exact wpAny_pure (wpAny_pure h)
theorem err_cls (X : K.In hh) (e : ErrCls K C) : ∃ c' d' cd sl', hh.get? C = some ⟨c', d', .cls cd, sl'⟩ := by
  obtain ⟨cd, q⟩ := Option.isSome_iff_exists.mp e.cs
  unfold PySem.W.clsIn at q
  split at q
  · rename_i c' d' cd' sl' ho
    exact ⟨c', d', cd', sl', X _ _ ho⟩
  · cases q
theorem kitx_err (e : ErrCls K C) : PySem.W.KitX K (.ref a) (.ref C) (fun h => ∃ o, h.get? a = some o ∧ o.cls = .ref C) where
  ty := fun _ _ _ ⟨_, hx, hc⟩ => err_type hx hc
  it := fun _ _ X _ => by
    obtain ⟨c', d', cd, sl', ho⟩ := err_cls X e
    intro A' Q' E' s' k q
    unfold isType loadHead
    exact wpAny_bind (wpAny_loadPart (k _ _ ho) (wpAny_pure q))
  ne := fun h tp dd its n sl X htp => by
    obtain ⟨c', d', cd, sl', ho⟩ := err_cls X e
    refine Bool.eq_false_iff.mpr fun q => ?_
    have e : C = tp := Value.ref.inj (beq_iff_eq.mp q)
    subst e
    have z := ho.symm.trans htp
    cases z
  ca := fun {_ _ _ _ _ s} X p k => by
    obtain ⟨hh, g, d, t, os⟩ := s
    obtain ⟨o, hx, hc⟩ := p
    exact err_class X e hx hc k
end
section
variable {X : Cx}
theorem call_isiE : CallR X (.builtin "isinstance") (fun xs H Q => ∃ (a C : Addr) (c : V) (cv : Value) (b : Bool), xs = [.ref a, c] ∧ H a = some (ExcO a C) ∧ ErrCls X.K C ∧ (∀ u, RelV c u → u = cv) ∧ kitOne X.K (.ref C) cv = some b ∧ Q (.bl b) H) := by
  intro pins s σ H xs us Q I r h
  obtain ⟨a, C, c, cv, b, rfl, ha, ec, rc, e, q⟩ := h
  obtain ⟨u, w', rfl, ru, rw'⟩ := vals2 r
  cases (show u = Value.ref a from ru)
  cases rc _ rw'
  obtain ⟨⟨o, hx, hc⟩, _, _⟩ := (show ObjOk X.prog X.w H s.heap a (ExcO a C) from I.hok a _ ha)
  exact PySem.W.kia_one (kitx_err ec) I.kIn ⟨o, hx, hc⟩ e (fun z => nomatch z) fun tk => ⟨.bl b, H, I.tok tk, rfl, q⟩
end
end L2
namespace L2
open PySem PySem.Spec PyProof.Rows PySem.Calls PyProof.V PySem.SeqAt
mutual
inductive DV (K : Frag) (H : Hp) : V → PyData → Prop
  | non : DV K H .non .none
  | bl (b : Bool) : DV K H (.bl b) (.bool b)
  | int (i : Int) : DV K H (.int i) (.int i)
  | str (x : Str) : DV K H (.str x) (.str x)
  | lst {a : Addr} {xs : List V} {ds : List PyData} : SqL K H a xs → DVs K H xs ds → DV K H (.ref a) (.list ds)
  | tup {a : Addr} {xs : List V} {ds : List PyData} : SqT K H a xs → DVs K H xs ds → DV K H (.ref a) (.tuple ds)
inductive DVs (K : Frag) (H : Hp) : List V → List PyData → Prop
  | nil : DVs K H [] []
  | cons {x : V} {xs : List V} {d : PyData} {ds : List PyData} : DV K H x d → DVs K H xs ds → DVs K H (x :: xs) (d :: ds)
end
section
variable {X : Cx} {pins : List (Addr × Obj)} {σ : St} {H : Hp} {s : Shared}
mutual
theorem DV.reads (I : Inv X pins σ H s) : ∀ {v : V} {d : PyData} {u : Value}, DV X.K H v d → RelV v u → ∃ as, Reads s.heap u d as
  | _, _, _, .non, r => by cases (show _ = Value.none from r); exact ⟨_, .none⟩
  | _, _, _, .bl b, r => by cases (show _ = Value.bool b from r); exact ⟨_, .bool b⟩
  | _, _, _, .int i, r => by obtain ⟨t, q⟩ := (show ∃ t, _ = Value.int i t from r); cases q; exact ⟨_, .int i t⟩
  | _, _, _, .str x, r => by obtain ⟨t, q⟩ := (show ∃ t, _ = Value.str x t from r); cases q; exact ⟨_, .str x t⟩
  | _, _, _, .lst (a := a) h hs, r => by
    cases (show _ = Value.ref a from r)
    obtain ⟨its, rv, pl, _⟩ := I.list h
    obtain ⟨as, q⟩ := DVs.reads I hs rv
    obtain ⟨o, ho, hc, n, hd⟩ := pl.isList
    exact ⟨_, .list ho hc hd (by simpa using q)⟩
  | _, _, _, .tup (a := a) h hs, r => by
    cases (show _ = Value.ref a from r)
    obtain ⟨its, rv, pl, _⟩ := I.tuple h
    obtain ⟨as, q⟩ := DVs.reads I hs rv
    obtain ⟨o, ho, hc, n, hd⟩ := pl
    exact ⟨_, .tuple ho hc hd (by simpa using q)⟩
theorem DVs.reads (I : Inv X pins σ H s) : ∀ {vs : List V} {ds : List PyData} {us : List Value}, DVs X.K H vs ds → Vals vs us → ∃ as, ReadsAll s.heap us ds as
  | _, _, _, .nil, r => by cases r; exact ⟨_, .nil⟩
  | _, _, _, .cons h hs, r => by
    cases r with
    | cons r1 r2 =>
      obtain ⟨as, q⟩ := DV.reads I h r1
      obtain ⟨bs, q2⟩ := DVs.reads I hs r2
      exact ⟨_, .cons q q2⟩
end
def rNeD (K : Frag) : R2 := fun x y H Q => ∃ d1 d2, DV K H x d1 ∧ DV K H y d2 ∧ shaped d1 = true ∧ shaped d2 = true ∧ noMix d1 d2 = true ∧ Q (.bl (!PySem.Spec.same d1 d2)) H
theorem op_neD (hu : X.A.units + 64 < cLine) : OpR X (compareOp .NotEq) (rNeD X.K) := by
  intro pins s σ H x y v u Q I rx ry h
  obtain ⟨d1, d2, h1, h2, s1, s2, m, q⟩ := h
  obtain ⟨as, r1⟩ := h1.reads I rx
  obtain ⟨bs, r2⟩ := h2.reads I ry
  exact ne_dataH_same r1 r2 s1 s2 hu m ⟨.bl _, H, I, rfl, q⟩
end
theorem DVs.bools {K : Frag} {H : Hp} : ∀ bs : List Bool, DVs K H (bs.map V.bl) (bs.map PyData.bool)
  | [] => .nil
  | b :: bs => .cons (.bl b) (DVs.bools bs)
theorem lay_bools : ∀ bs : List Bool, PyData.canLayAll0 (bs.map PyData.bool) = true
  | [] => by simp [PyData.canLayAll0]
  | _ :: r => by simp [PyData.canLayAll0, PyData.canLay0, lay_bools r]
theorem depth_bools : ∀ bs : List Bool, PyData.depthAll (bs.map PyData.bool) ≤ 1
  | [] => by simp [PyData.depthAll]
  | _ :: r => by
    have := depth_bools r
    simp only [List.map_cons, PyData.depthAll, PyData.depth]
    omega
theorem shaped_bools (bs : List Bool) : shaped (.list (bs.map PyData.bool)) = true := by
  have h1 := depth_bools bs
  show (PyData.canLay0 (.list (bs.map PyData.bool)) && decide (PyData.depth (.list (bs.map PyData.bool)) ≤ 64)) = true
  rw [Bool.and_eq_true]
  exact ⟨by simp only [PyData.canLay0]; exact lay_bools bs, decide_eq_true (by simp only [PyData.depth]; omega)⟩
theorem noMix_bools : ∀ bs cs : List Bool, noMixAll (bs.map PyData.bool) (cs.map PyData.bool) = true
  | [], [] => by simp [noMixAll]
  | [], _ :: _ => by simp [noMixAll]
  | _ :: _, [] => by simp [noMixAll]
  | _ :: r, _ :: q => by simp [noMixAll, noMix, noMix_bools r q]
theorem same_bools : ∀ bs cs : List Bool, PySem.Spec.sameAll (bs.map PyData.bool) (cs.map PyData.bool) = decide (bs = cs)
  | [], [] => by simp [PySem.Spec.sameAll]
  | [], _ :: _ => by simp [PySem.Spec.sameAll]
  | _ :: _, [] => by simp [PySem.Spec.sameAll]
  | n :: r, k :: q => by
    simp only [List.map_cons, PySem.Spec.sameAll, PySem.Spec.same, same_bools r q]
    by_cases h : n = k <;> simp [h]
section
variable {X : Cx}
def PJ (X : Cx) (vs : List Expr) (t : St → Hp → Str → VK → Prop) : Prop :=
  ∀ (pins : List (Addr × Obj)) (s : Shared) (σ : St) (H : Hp) (out : Str) (Q : VK), Inv X pins σ H s → t σ H out Q → wpAny (model X.prog X.w) X.A (joinParts out (evalEach vs X.env)) (EP X pins σ Q) X.xe s
theorem pj_nil : PJ X [] (fun _ H out Q => out.length ≤ sizeLine ∧ Q (.str out) H) := fun _ _ _ H _ _ I ⟨z, q⟩ => joinParts_nil ⟨.str _, H, I.tok _, ⟨_, rfl⟩, q⟩ z
theorem pj_str {x : Str} {j} {pos : Pos} {vs : List Expr} {t : St → Hp → Str → VK → Prop} (h : PJ X vs t) : PJ X (.Constant (.str x) j pos :: vs) (fun σ H out Q => (out ++ x).length ≤ sizeLine ∧ t σ H (out ++ x) Q) :=
  fun pins s σ H out Q I ⟨z, q⟩ => joinParts_cons (Calls.Constant_str ⟨z, h pins _ σ H _ Q (I.tok _) q⟩)
theorem pj_int {e : Expr} {te : TE} {pos : Pos} {vs : List Expr} {t : St → Hp → Str → VK → Prop} (he : PE X e te) (h : PJ X vs t) :
    PJ X (.FormattedValue e (-1) none pos :: vs) (fun σ H out Q => te σ H fun v H1 => ∃ i : Int, v = .int i ∧ i.natAbs.log2 < 1920 ∧ (out ++ (toString i : String)).length ≤ sizeLine ∧ t σ H1 (out ++ (toString i : String)) Q) :=
  fun pins s σ H out Q I q => joinParts_cons (FormattedValue_plain (thn (he pins s σ H _ I q) fun u s1 ⟨v, H1, I1, r, i, ev, z, z2, q2⟩ => by
    subst ev
    obtain ⟨tk, rfl⟩ := (show ∃ t, u = Value.int i t from r)
    exact formatField_int_small z ⟨z2, h pins _ σ H1 _ Q (I1.tok _) q2⟩))
theorem pe_fs {v₁ v₂ : Expr} {vs : List Expr} {pos : Pos} {t : St → Hp → Str → VK → Prop} (h : PJ X (v₁ :: v₂ :: vs) t) : PE X (.JoinedStr (v₁ :: v₂ :: vs) pos) (fun σ H Q => t σ H Str.empty Q) :=
  fun pins s σ H Q I q => JoinedStr_many (h pins s σ H _ Q I q)
end
end L2
namespace L2
open PySem PySem.Spec PyProof.Rows
theorem RoomH.mono {j k : Nat} {A : Around} (r : RoomH k A) (h : j ≤ k) : RoomH j A := ⟨by have := r.dp; omega, by have := r.un; omega⟩
theorem FnOkH.mono {P : Program} {w : World} {K : Frag} {mg : Str → Option Value} {base : Heap} {j k : Nat} {f : Addr} {fd : FuncData} {ps : List Str} {sp : Sp} (F : FnOkH P w K mg base j f fd ps sp) (h : j ≤ k) :
    FnOkH P w K mg base k f fd ps sp := ⟨F.len, fun A outer s H args us vs Q E hr => F.run A outer s H args us vs Q E (hr.mono h)⟩
theorem boot_ty_ValueError : bootBuiltins "ValueError" = some (.type "ValueError") := by decide +kernel
end L2
namespace L2
open PySem PySem.Spec PyProof.Rows
section
variable {X : Cx} {k : Nat} {f C : Addr} {fd : FuncData} {ps : List Str} {sp : Sp} {x m : Str} {p pos apos : Pos} {e o : Expr} {es : List Expr} {t : TA} {ta : TE} {pins : List (Addr × Obj)} {Ex : St → XK}
end
end L2
namespace L2
open PySem PySem.Spec PyProof.Rows
section
variable {X : Cx}
end
end L2
namespace Rc
open PySem PySem.Spec PyProof.Rows L2 PySem.Calls PyProof.V PySem.SeqAt
def pairD (l : Int × Int) : PyData := .tuple [.int l.1, .int l.2]
theorem dvs_pairs {K : Frag} {H : Hp} : ∀ {vs : List V} {L : List (Int × Int)}, PairsAt K H vs L → DVs K H vs (L.map pairD)
  | [], [], _ => .nil
  | [], _ :: _, h => by have := h.len; simp at this
  | _ :: _, [], h => by have := h.len; simp at this
  | v :: vs, l :: L, h => by
    obtain ⟨u, e1, q, rfl, t⟩ := h.at_ 0 l rfl
    simp at e1; subst e1
    exact .cons (.tup t (.cons (.int _) (.cons (.int _) .nil))) (dvs_pairs ⟨by have := h.len; simpa using this, fun i m e => by
      obtain ⟨v', a1, a2⟩ := h.at_ (i + 1) m (by simpa using e)
      exact ⟨v', by simpa using a1, a2⟩⟩)
theorem lay_pairs : ∀ L : List (Int × Int), PyData.canLayAll0 (L.map pairD) = true
  | [] => by simp [PyData.canLayAll0]
  | _ :: r => by simp [PyData.canLayAll0, PyData.canLay0, pairD, lay_pairs r]
theorem depth_pairs : ∀ L : List (Int × Int), PyData.depthAll (L.map pairD) ≤ 3
  | [] => by simp [PyData.depthAll]
  | _ :: r => by
    have := depth_pairs r
    simp only [List.map_cons, PyData.depthAll, PyData.depth, pairD]
    omega
theorem noMix_pairs : ∀ L : List (Int × Int), noMixAll (L.map pairD) (L.map pairD) = true
  | [] => by simp [noMixAll]
  | _ :: r => by simp [noMixAll, noMix, pairD, noMix_pairs r]
theorem u64 {k : Nat} {A : Around} (r : Room k A) : A.units + 64 < cLine := by have := r.un; omega
def namesL : List Str := ["BadHouses", "BadLines", "BadCover", "BadCrowns", "BadLosses", "BadAccount", "Unbacked", "Short", "Disagrees", "NoHouse", "NoCover", "NoHappening", "NoLoss", "BadDay", "BadTerms", "Endless", "Same", "Full", "BadDeed", "Nothing", "BadText"]
def seenL (w : Str) : List Bool := true :: namesL.map fun n => decide (n = w)
theorem neD_bools {K : Frag} {H : Hp} {Q : VK} {a b : Addr} {bs cs : List Bool} (ha : SqL K H a (bs.map V.bl)) (hb : SqL K H b (cs.map V.bl)) (q : Q (.bl (!decide (bs = cs))) H) : rNeD K (.ref a) (.ref b) H Q :=
  ⟨_, _, .lst ha (.bools bs), .lst hb (.bools cs), shaped_bools bs, shaped_bools cs, by simp only [noMix]; exact noMix_bools bs cs, by simp only [PySem.Spec.same]; rw [same_bools]; exact q⟩
end Rc
namespace L2
open PySem PySem.Spec PyProof.Rows
section
variable {M F F' : Hp} {a b : Addr} {o : HO}
end
section
variable {P : Program} {w : World} {H : Hp} {h h' : Heap} {M F F' : Hp} {a : Addr} {o : HO}
end
section
variable {P : Program} {w : World} {K : Frag} {mg : Str → Option Value} {base : Heap} {k : Nat} {f : Addr} {fd : FuncData} {ps : List Str} {sp sp' : Sp}
end
section
variable {Z : Addr → Prop} {H F : Hp} {b : Addr}
end
section
variable {P : Program} {w : World} {K : Frag} {mg : Str → Option Value} {base : Heap} {k : Nat} {f : Addr} {fd : FuncData} {ps : List Str} {sp : Sp}
end
section
variable {X : Cx}
theorem call_list_ofK (K : Frag) (h : X.K = K) : CallR X (.type "list") (fun xs H Q => ∃ p ys, xs = [.ref p] ∧ (SqL K H p ys ∨ SqT K H p ys) ∧ ∀ l, H l = none → Q (.ref l) (upd H l (.lst ys))) := by subst h; exact call_list_of
end
end L2
namespace Rc
open PySem PySem.Spec PyProof.Rows L2
inductive Tm where
  | stop (ho b m : Int) (L : List (Int × Int))
  | full (k : Str) (ho b m w f l : Int) (L : List (Int × Int))
  | other
def TmAt (K : Frag) (H : Hp) (p : Addr) : Tm → Prop
  | .stop ho b m L => ∃ lp, SqT K H p [.str "stop", .int ho, .int b, .int m, .ref lp] ∧ LinesAt K H lp L ∧ L.length ≤ 100
  | .full k ho b m w f l L => (k = "share" ∨ k = "layer") ∧ ∃ lp, SqT K H p [.str k, .int ho, .int b, .int m, .int w, .int f, .int l, .ref lp] ∧ LinesAt K H lp L ∧ L.length ≤ 100
  | .other => ∃ xs, SqT K H p xs ∧ xs.length ≤ 100 ∧ (xs = [] ∨ ∃ k rest, xs = .str k :: rest ∧ ¬ (k = "stop" ∧ xs.length = 5) ∧ ¬ ((k = "share" ∨ k = "layer") ∧ xs.length = 8))
theorem TmAt.same {K : Frag} {H H' : Hp} {p : Addr} (s : Same H H') : ∀ {t : Tm}, TmAt K H p t → TmAt K H' p t
  | .stop _ _ _ _, ⟨lp, h, h1, h2⟩ => ⟨lp, s.tupS h, h1.same s, h2⟩
  | .full _ _ _ _ _ _ _ _, ⟨hk, lp, h, h1, h2⟩ => ⟨hk, lp, s.tupS h, h1.same s, h2⟩
  | .other, ⟨xs, h, h1⟩ => ⟨xs, s.tupS h, h1⟩
def bndB (w f l : Int) : Bool := decide (1 ≤ w ∧ w ≤ 120) && (decide (0 ≤ f ∧ f ≤ 99) && (decide (0 ≤ l ∧ l ≤ 99) && decide (f ≤ l)))
def termsB (h : Int) : Tm → Bool
  | .stop ho b m L => isCoverB h (some (ho, "layer", b, m, L)) && decide (1 ≤ m)
  | .full k ho b m w f l L => isCoverB h (some (ho, k, b, m, L)) && decide (1 ≤ m) && bndB w f l
  | .other => false
theorem termsB_stop {h ho b m : Int} {L : List (Int × Int)} : termsB h (.stop ho b m L) = (isCoverB h (some (ho, "layer", b, m, L)) && decide (1 ≤ m)) := rfl
theorem termsB_full {h : Int} {k : Str} {ho b m w f l : Int} {L : List (Int × Int)} : termsB h (.full k ho b m w f l L) = (isCoverB h (some (ho, k, b, m, L)) && decide (1 ≤ m) && bndB w f l) := rfl
theorem one_house {k : Str} {b m : Int} {L : List (Int × Int)} : isCoverB 1 (some (0, k, b, m, L)) = false := by
  cases e : isCoverB 1 (some (0, k, b, m, L)) with
  | false => rfl
  | true =>
    obtain ⟨_, _, ⟨h1, _⟩, _, h5⟩ := (isCoverB_iff (by decide)).mp e
    cases L with
    | nil => simp at h1
    | cons l r => have := (h5 l List.mem_cons_self).1; omega
end Rc
namespace Rc
open PySem PySem.Spec PyProof.Rows L2
section
variable {K : Frag} {H : Hp} {vs : List V} {L : List (Int × Int)} {us : List V} {cs : List Row}
theorem cut_upto (us : List V) (n : Nat) : cutV us none (some (n : Int)) = us.take n := by
  unfold cutV
  rw [HT.sIx_none, HT.sIx_nat, List.drop_zero, Nat.sub_zero]
  rcases Nat.le_total n us.length with h | h
  · rw [Nat.min_eq_left h]
  · rw [Nat.min_eq_right h, List.take_length, List.take_of_length_le h]
end
end Rc
namespace L2
open PySem PySem.Spec PyProof.Rows
end L2
namespace L2
open PySem PySem.Spec PyProof.Rows
section
variable (P : Program) (w : World)
end
section
variable {P : Program} {w : World} {H H' : Hp} {h h' : Heap} {a : Addr} {o : HO}
end
section
variable {P : Program} {w : World} {H : Hp} {h h' : Heap} {x e : Addr} {o' : HO}
end
section
variable {fs fs' ex ex' : List Addr} {H H1 H2 : Hp} {h h1 h2 h' : Heap} {a x e : Addr} {o : HO}
end
end L2
namespace L2
open PySem PySem.Spec PyProof.Rows
section
variable {X : Cx} {pins : List (Addr × Obj)} {σ : List (Option V)} {H H' : Hp} {s : Shared} {h' : Heap}
end
end L2
namespace L2
open PySem PySem.Spec PyProof.Rows
section
variable {X : Cx}
variable {a b : Expr} {ta tb : TE} {pos : Pos}
variable {tA tB' : TT} {rest : List Expr}
end
end L2
namespace L2
open PySem PySem.Spec PyProof.Rows
section
variable {X : Cx} {pins : List (Addr × Obj)} {σ : St} {H : Hp} {s : Shared} {a : Addr} {xs ys : List V}
end
section
variable {X : Cx} {pins : List (Addr × Obj)} {σ : St} {H : Hp} {s : Shared} {E : Value → Shared → Prop}
end
section
variable {X : Cx} {st : Stmt} {rest : List Stmt} {t u : TS} {e : Expr} {te : TE} {pos : Pos}
end
section
variable {X : Cx} {pos : Pos}
end
section
variable {X : Cx} {pos : Pos}
end
end L2
namespace L2
open PySem PySem.Spec PyProof.Rows
section
variable {X : Cx} {tg : Expr}
end
end L2
namespace L2
open PySem PySem.Spec PyProof.Rows
section
variable {X : Cx} {a b c : Expr} {ta tb tc : TE} {pos : Pos}
end
section
variable {X : Cx} {a b c : Expr} {ta tb tc : TE} {pos : Pos}
end
end L2
namespace L2
open PySem PySem.Spec PyProof.Rows
section
variable {prog : Program} {w : World} {A : Around} {E : Value → Shared → Prop} {s : Shared} {K : Frag} {x dx C f : Addr} {mA : Str → Option Value} {name : Str} {v : Value}
end
section
variable {P : Program} {w : World} {H H' : Hp} {h h' : Heap} {a C dx : Addr} {fs fs' : List (Str × V)}
end
section
variable {X : Cx} {pins : List (Addr × Obj)} {σ : St} {H : Hp} {s : Shared} {a C dx : Addr} {fs : List (Str × V)} {f : Str} {v : V} {A : Around} {E : Value → Shared → Prop}
end
section
variable {X : Cx} {o e value : Expr} {f : Str} {pos pos' tpos : Pos} {ta tv : TE}
end
section
variable {X : Cx} {pins : List (Addr × Obj)} {σ : St} {H : Hp} {s : Shared} {A : Around} {E : Value → Shared → Prop} {Q : Value → Shared → Prop} {c : Value} {b : Bool}
end
end L2
namespace L2
open PySem PySem.Spec PyProof.Rows
section
variable {X : Cx} {e : Expr} {es : List Expr} {te : TE} {t : TA} {pos : Pos}
end
section
variable {X : Cx} {pins : List (Addr × Obj)} {σ : St} {H : Hp} {s s' : Shared}
end
section
variable {X : Cx} {CX : CXT} {k : Nat} {f C : Addr} {fd : FuncData} {ps : List Str} {sp : Sp} {dvs : List V} {ds : List Value} {E : XK} {x m : Str} {p pos apos : Pos} {e o : Expr} {es : List Expr} {ta : TE} {t : TA}
end
section
variable {X : Cx} {CX : CXT} {k : Nat} {f C : Addr} {fd : FuncData} {ps ks : List Str} {sp : Sp} {E : XK} {x m : Str} {p pos apos kpos : Pos} {e o : Expr} {es : List Expr} {kws : List Keyword} {te ta : TE} {t tk : TA} {nm : Option Str}
variable {g : List Value → List Value → List Value} {gV : List V → List V → List V}
end
end L2
namespace L2
open PySem PySem.Spec PyProof.Rows
section
variable {X : Cx} {x : Str} {p pos : Pos} {e : Expr} {es : List Expr} {t : TA} {id T : String} {r : List V → Hp → VK → Prop}
end
end L2
namespace L2
open PySem PySem.Spec PyProof.Rows
section
variable {κ : Type} [DecidableEq κ]
theorem KV.length {kvs : List (κ × V)} {vs : List (κ × Value)} (r : KV kvs vs) : kvs.length = vs.length := Paired.length r
end
theorem kV_is {P : Program} {w : World} {k : Key} {u : Value} (r : RelV (kV k) u) : (mixKind P w).is k u = true := by
  cases k with
  | inl i => obtain ⟨t, e⟩ := (show ∃ t, u = Value.int i t from r); subst e; exact mixKind_int P w i t
  | inr x => obtain ⟨t, e⟩ := (show ∃ t, u = Value.str x t from r); subst e; exact mixKind_str P w x t
theorem items_are {P : Program} {w : World} : ∀ {ks : List Key} {us : List Value}, Vals (ks.map kV) us → ItemsAre (mixKind P w) ks us
  | [], _, r => by rw [List.map_nil] at r; cases r; exact .nil
  | k :: ks, _, r => by
    rw [List.map_cons] at r
    cases r with
    | cons h t => exact .cons (kV_is h) (items_are t)
abbrev KT (H : Hp) : List (List Key × V) → List (List Key × Addr × Value) → Prop := Paired fun p q => p.1 = q.1 ∧ H q.2.1 = some (.tup (p.1.map kV)) ∧ RelV p.2 q.2.2
section
variable {P : Program} {w : World} {H : Hp} {h : Heap} {a : Addr}
theorem rd_of {u : HO} (ok : HOk P w H h) (e : Rd H a u) : ObjOk P w H h a u := e.ok ok
theorem dk_rd {kvs : List (Key × V)} (ok : HOk P w H h) (e : Rd H a (.dK kvs)) : kvs.length ≤ sizeLine ∧ (a == sysModules) = false ∧ ∃ vs, KV kvs vs ∧ h.DictOf (mixKind P w) a vs :=
  show ObjOk P w H h a (.dK kvs) from rd_of ok e
theorem dk_of {kvs : List (Key × V)} (ok : HOk P w H h) (e : H a = some (.dK kvs)) : kvs.length ≤ sizeLine ∧ (a == sysModules) = false ∧ ∃ vs, KV kvs vs ∧ h.DictOf (mixKind P w) a vs := dk_rd ok (.inl e)
theorem key_of {ks : List Key} (ok : HOk P w H h) (e : H a = some (.tup (ks.map kV))) : (tupleKind (mixKind P w)).is h ks a := by
  obtain ⟨_, its, r, o, h1, h2, n, h3⟩ := (show ObjOk P w H h a (.tup (ks.map kV)) from ok a _ e)
  exact ⟨o, its.toArray, n, h1, h2, h3, by simpa using items_are r⟩
theorem dt_rd {kvs : List (List Key × V)} (ok : HOk P w H h) (e : Rd H a (.dT kvs)) : kvs.length ≤ sizeLine ∧ (a == sysModules) = false ∧
    ∃ xs, KT H kvs xs ∧ h.DictOfH (tupleKind (mixKind P w)) a xs := by
  obtain ⟨z, y, xs, r, o, es, ep, h1, h2, h3, h4, h5⟩ := (show ObjOk P w H h a (.dT kvs) from rd_of ok e)
  refine ⟨z, y, xs, r, o, es, ep, h1, h2, h3, h4, fun x hx => ?_, h5⟩
  have all : ∀ {l : List (List Key × V)} {m : List (List Key × Addr × Value)}, KT H l m → ∀ x ∈ m, (tupleKind (mixKind P w)).is h x.1 x.2.1 := by
    intro l m q
    induction q with
    | nil => intro x hx; exact nomatch hx
    | @cons p q ps qs hq t ih =>
      intro x hx
      rcases List.mem_cons.mp hx with e | hx
      · subst e
        exact key_of ok (by rw [← hq.1]; exact hq.2.1)
      · exact ih x hx
  exact all r x hx
end
section
variable {X : Cx} {pins : List (Addr × Obj)} {σ : St} {H : Hp} {s : Shared} {a : Addr} {y v : V} {u r : Value} {o : Option V} {A : Around} {E : Value → Shared → Prop}
theorem Inv.big (I : Inv X pins σ H s) : sysModules < s.heap.objs.size := by
  have h : mainGlobals < s.heap.objs.size := (I.mod.glob.keeps I.bk).lt
  exact Nat.lt_trans (by decide) h
end
section
variable {X : Cx} {pins : List (Addr × Obj)} {σ : St} {H : Hp} {s : Shared} {a : Addr} {kvs : List (Key × V)} {k : Key} {u : Value} {A : Around} {E : Value → Shared → Prop}
end
section
variable {X : Cx} {o i e value : Expr} {pos pos' tpos : Pos} {td ty tv : TE}
end
theorem dk_empty {P : Program} {w : World} {H : Hp} (h : Heap) (hb : sysModules < h.objs.size) : ObjOk P w H (h.push { cls := .type "dict", data := .dict #[] }) h.objs.size (.dK []) :=
  ⟨Nat.zero_le _, beq_eq_false_iff_ne.mpr (Ne.symm (Nat.ne_of_lt hb)), [], .nil, Heap.DictOf.new h⟩
def tDNewK : TE := fun _ H Q => ∀ p, H p = none → Q (.ref p) (upd H p (.dK []))
section
variable {X : Cx} {pos : Pos}
theorem pe_dnewK : PE X (.Dict [] [] pos) tDNewK := fun pins s σ H Q I h =>
  wpAny_Dict_empty ⟨.ref s.heap.objs.size, _, I.laid (a := s.heap.objs.size) (o := .dK []) (t' := s.toks) (fun _ _ q => Heap.get?_push_of_some _ q) (Nat.le_refl _) (dk_empty s.heap I.big), rfl, h _ (I.hok.fresh (Nat.le_refl _))⟩
end
def IsD (H : Hp) (a : Addr) : Prop := (∃ kvs, Rd H a (.dK kvs)) ∨ ∃ kvs, Rd H a (.dT kvs)
theorem isD_at {X : Cx} {pins : List (Addr × Obj)} {σ : St} {H : Hp} {s : Shared} {a : Addr} (I : Inv X pins σ H s) (d : IsD H a) :
    s.TypeIs (.ref a) "dict" ∧ (∀ b, Value.ref a = .ref b → ∃ ob, s.heap.get? b = some ob ∧ ob.dict = none) ∧ (a == sysModules) = false := by
  rcases d with ⟨kvs, e⟩ | ⟨kvs, e⟩
  · obtain ⟨_, hd, vs, _, dd⟩ := dk_rd I.hok e
    refine ⟨dd.typeIs, fun b q => ?_, hd⟩
    cases q
    obtain ⟨ob, _, _, h1, h2, _⟩ := dd
    exact ⟨ob, h1, h2.2.1⟩
  · obtain ⟨_, hd, xs, _, dd⟩ := dt_rd I.hok e
    refine ⟨dd.typeIs, fun b q => ?_, hd⟩
    cases q
    obtain ⟨ob, _, _, h1, h2, _⟩ := dd
    exact ⟨ob, h1, h2.2.1⟩
section
variable {X : Cx} {pins : List (Addr × Obj)} {σ : St} {H : Hp} {s : Shared} {a : Addr} {y d : V} {u r : Value} {o : Option V} {A : Around} {E : Value → Shared → Prop}
end
section
variable {X : Cx} {o e f : Expr} {apos cpos : Pos} {td ty tx : TE}
end
section
variable {X : Cx} {pins : List (Addr × Obj)} {σ : St} {H : Hp} {s : Shared} {a : Addr} {kvs : List (Key × V)} {A : Around} {E : Value → Shared → Prop}
end
section
variable {X : Cx} {pins : List (Addr × Obj)} {σ : St} {H : Hp} {s : Shared} {a : Addr} {y : V} {u : Value} {A : Around} {E : Value → Shared → Prop}
end
end L2
namespace Att
open PySem PySem.W PySem.Calls PyProof.Rows
section
variable {prog : Program} {w : World} {A : Around} {E : Value → Shared → Prop} {s : Shared} {K : Frag}
end
end Att
namespace L2
open PySem PySem.Spec PyProof.Rows
end L2
namespace L2
open PySem PySem.Spec PyProof.Rows
end L2
namespace L2
open PySem PySem.Spec PyProof.Rows
section
variable {P : Program} {w : World} {K : Frag} {mg : Str → Option Value} {base : Heap}
end
section
variable {X : Cx}
end
section
variable {κ : Type} [DecidableEq κ]
end
end L2
namespace HT
open PySem PySem.Calls PyProof.Rows PyProof.V PySem.Spec PySem.W
section
variable {prog : Program} {w : World} {A : Around} {E : Value → Shared → Prop} {s : Shared}
end
section
variable {prog : Program} {w : World} {A : Around} {s : Shared} {R : Result → Shared → Prop}
end
section
variable {h h' : Heap} {z TI TO i1 i2 l1 l2 : Addr} {xs ys : Array Value}
end
section
variable {prog : Program} {w : World} {A : Around} {E : Value → Shared → Prop} {s : Shared} {z TI TO i1 i2 l1 l2 : Addr} {xs ys : Array Value}
end
end HT
namespace L2
open PySem PySem.Spec PyProof.Rows HT
section
variable {X : Cx} {pins : List (Addr × Obj)} {σ : St} {H H' : Hp} {s : Shared} {h' : Heap}
end
end L2
namespace L2
open PySem PySem.Spec PyProof.Rows
end L2
namespace L2
open PySem PySem.Spec PyProof.Rows HT
section
variable {X : Cx} {pins : List (Addr × Obj)} {σ : St} {H : Hp} {s : Shared} {a : Addr} {A : Around} {E : Value → Shared → Prop}
end
section
variable {X : Cx} {o e : Expr} {td ty : TE} {apos cpos : Pos}
end
end L2
namespace L2
open PySem PySem.Spec PyProof.Rows
section
variable {X : Cx} {pins : List (Addr × Obj)} {σ : St} {H : Hp} {s : Shared} {a : Addr} {A : Around} {E : Value → Shared → Prop}
end
section
variable {prog : Program} {w : World} {A : Around} {R : Result → Shared → Prop} {s : Shared}
end
section
variable {X : Cx}
end
section
variable {X : Cx} {kx vx tg iter : Expr} {ifs : List Expr} {scope : Scope} {pos : Pos} {wi : TI} {g : TG} {tc : TT} {tk te : TE}
end
end L2
namespace Rc
open PySem PySem.Spec PyProof.Rows L2
end Rc
namespace Rc
open PySem PySem.Spec PyProof.Rows L2
section
variable {cs : List Row} {ls a b : List Int} {d : Nat}
end
end Rc
namespace Rc
open PySem PySem.Spec PyProof.Rows L2
end Rc
namespace Rc
open PySem PySem.Spec PyProof.Rows L2
end Rc
namespace Rc
open PySem PySem.Spec PyProof.Rows L2 PySem.Calls PyProof.V PySem.SeqAt
section
variable {K : Frag} {H H' : Hp} {v : V} {vs us : List V} {ws ts : List Vw}
end
end Rc
namespace Rc
open PySem PySem.Spec PyProof.Rows L2
end Rc
namespace Rc
open PySem PySem.Spec PyProof.Rows L2
end Rc
namespace L2
open PySem PySem.Spec PyProof.Rows
end L2
namespace Rc
open PySem PySem.Spec PyProof.Rows L2
end Rc
namespace Rc
open PySem PySem.Spec PyProof.Rows L2
section
variable {H H' : Hp} {kvs : List (Key × V)} {rs : List (Nat × List Int)} {d : Addr}
end
end Rc
namespace Rc
open PySem PySem.Spec PyProof.Rows L2
section
variable {H : Hp} {kvs : List (Key × V)} {rs : List (Nat × List Int)}
end
end Rc
namespace Rc
open PySem PySem.Spec PyProof.Rows L2
end Rc
namespace Rc
open PySem PySem.Spec PyProof.Rows L2
end Rc
namespace Rc
open PySem PySem.Spec PyProof.Rows L2
section
variable {h : Nat} {cs : List Row} {ls acc : List Int}
end
end Rc
namespace Rc
open PySem PySem.Spec PyProof.Rows L2
section
variable {h : Nat} {cs : List Row} {ls acc : List Int}
end
end Rc
namespace Rc
open PySem PySem.Spec PyProof.Rows L2
section
variable {H : Hp} {kvs kvs' : List (Key × V)} {rs rs' : List (Nat × List Int)}
end
end Rc
namespace Rc
open PySem PySem.Spec PyProof.Rows L2
end Rc
namespace Rc
open PySem PySem.Spec PyProof.Rows L2
section
variable {cs : List Row} {ls acc : List Int}
end
end Rc
namespace Rc
open PySem PySem.Spec PyProof.Rows L2
section
variable {cs : List Row} {ls acc : List Int}
end
end Rc
namespace Rc
open PySem PySem.Spec PyProof.Rows L2
end Rc
namespace Rc
open PySem PySem.Spec PyProof.Rows L2 PySem.Calls PyProof.V PySem.SeqAt
theorem DVs.app {K : Frag} {H : Hp} {us : List V} {es : List PyData} : ∀ {vs : List V} {ds : List PyData}, DVs K H vs ds → DVs K H us es → DVs K H (vs ++ us) (ds ++ es)
  | _, _, .nil, g => g
  | _, _, .cons h t, g => .cons h (DVs.app t g)
theorem neD_view {K : Frag} {H : Hp} {Q : VK} {v u : V} {d d' : PyData} (h1 : DV K H v d) (h2 : DV K H u d') (e : d = d') (ok : shaped d = true ∧ noMix d d = true) (q : Q (.bl false) H) : rNeD K v u H Q := by
  subst e
  exact ⟨_, _, h1, h2, ok.1, ok.1, ok.2, by rw [PySem.Spec.same_self]; exact q⟩
end Rc
namespace L2
open PySem PySem.Spec PyProof.Rows PySem.W
def BmAt (mg : Str → Option Value) (h : Heap) : Prop := ∃ bm ob, mg "__builtins__" = some (.ref bm) ∧ bm ≠ builtinsNs ∧ h.get? bm = some ob ∧ ob.cls = .type "module" ∧ ob.dict = some builtinsNs ∧ ob.data = .plain
theorem law_callT {P : Program} {w : World} {K : Frag} {mg mb : Str → Option Value} {CX : CXT} {k : Nat} {fa a : Addr} {fd : FuncData} {x : Str} {sp : Sp} {s₁ : Shared} {vs : List Value} {ns : List Int} {ts : List Addr}
    (KX : K.In s₁.heap) (hns : s₁.heap.Ns mainGlobals mg) (hb : s₁.heap.Ns builtinsNs mb) (hbb : ∀ x : Str, x ≠ "__name__" → mb x = bootBuiltins x) (hlim : s₁.heap.NoLimit) (hg : s₁.gens = #[])
    (ha : s₁.heap.get? a = some { cls := .type "list", data := .seq vs.toArray }) (hi : IntsAre vs ns) (hl : ns.length ≤ sizeLine) (hr : Room k callerA) (hT : ∀ P ∈ ts, s₁.heap.get? P = some (tabObj #[])) (hC : ∀ P ∈ ts, ∃ c, codeHdIn K c P = true) (hnT : noTabs K = true) (hbm : BmAt mg s₁.heap)
    (F : ∀ base : Heap, K.In base → base.Ns mainGlobals mg → BmAt mg base → FnOk P w K mg base CX k fa fd [x] sp) (hbind : ∀ (s : Shared) (u : Value), BindsTo s fd ⟨[u], []⟩ [(x, u)])
    (hsp : ∀ H : Hp, SqL K H a (ns.map V.int) → (∀ q ∈ ts, H q = some (.tbl #[])) → sp [.ref a] H (fun v _ => v = .bl true) fun _ _ _ => False)
    (hCX : ∀ H e s', CX [] H s₁ (fun _ _ _ => False) e s' → False) :
    codeAny (model P w) callerA (.call (.ref fa) ⟨[.ref a], []⟩) (fun r s' => r = .ok (.ret (.bool true)) ∧ OldK s₁.heap s'.heap ∧ s'.os = s₁.os ∧ AllBare s'.gens) s₁ := by
  have rv := vals_ints hi
  have lenV := hi.length
  have tabK : ∀ q ∈ ts, K.lookup q = none := fun q hq => by
    cases e : K.lookup q with
    | none => rfl
    | some o =>
      have h2 := List.all_eq_true.mp hnT (q, o) (mem_of_lookupK e)
      have h3 := KX _ _ e
      rw [(hT q hq)] at h3
      cases h3
      exact absurd (show false = true from h2) Bool.false_ne_true
  have core : ∀ H : Hp, SqL K H a (ns.map V.int) → HOk P w H s₁.heap → (∀ q ∈ ts, H q = some (.tbl #[])) →
      (∀ b, H b = none ∨ (b = a ∧ (∃ o xs, H b = some (.frz o (.lst xs))) ∧ K.lookup a = none) ∨ ∃ q ∈ ts, q = b) →
      codeAny (model P w) callerA (.call (.ref fa) ⟨[.ref a], []⟩) (fun r s' => r = .ok (.ret (.bool true)) ∧ OldK s₁.heap s'.heap ∧ s'.os = s₁.os ∧ AllBare s'.gens) s₁ := by
    intro H hS hok hTb hA
    have base_of : ∀ {b : Addr} {o : Obj}, s₁.heap.get? b = some o → H b = none → (hidT s₁.heap H).get? b = some o := fun e n => hidT_get e n
    have noA : ∀ {b : Addr} {o : Obj} {es : Array DictEntry} {ep : Nat}, s₁.heap.get? b = some o → o.data = .dict es ep → H b = none := fun {b o es ep} e d => by
      rcases hA b with z | ⟨z, _, _⟩ | ⟨q, hq, z⟩
      · exact z
      · subst z
        rw [ha] at e; cases e
        have d' : Data.seq vs.toArray _ = Data.dict es ep := d
        cases d'
      · subst z
        rw [(hT q hq)] at e; cases e
        have d' : Data.fields #[] = Data.dict es ep := d
        cases d'
    have nsK : ∀ {b : Addr} {m : Str → Option Value}, s₁.heap.Ns b m → (hidT s₁.heap H).Ns b m := fun {b m} ⟨o, es, ep, e, d, r⟩ => ⟨o, es, ep, base_of e (noA e d), d, r⟩
    have hKb : K.In (hidT s₁.heap H) := fun b o e => base_of (KX b o e) (by
      rcases hA b with z | ⟨z, _, hk⟩ | ⟨q, hq, z⟩
      · exact z
      · subst z; rw [hk] at e; cases e
      · subst z; rw [tabK q hq] at e; cases e)
    have hM : Mod K mg (hidT s₁.heap H) := ⟨hKb, nsK hns, ⟨mb, nsK hb, hbb⟩, let ⟨mc, h1, h2⟩ := hlim; ⟨mc, nsK h1, h2⟩⟩
    have e0 : Env0 P w K mg (hidT s₁.heap H) callerA [] s₁ H := ⟨rfl, hM, fun b o e => of_hidT e, Nat.le_of_eq (hidT_size _ _), trivial, fun b hb => absurd (show b ∈ ([] : List Addr) from hb) (by simp), hok, .of_eq hg⟩
    have hB : BmAt mg (hidT s₁.heap H) := by
      obtain ⟨bm, ob, b1, b2, b3, b4, b5, b6⟩ := hbm
      refine ⟨bm, ob, b1, b2, base_of b3 ?_, b4, b5, b6⟩
      rcases hA bm with z | ⟨z, _, _⟩ | ⟨q, hq, z⟩
      · exact z
      · subst z; rw [ha] at b3; cases b3; exact absurd (Value.type.inj b4) (by decide)
      · subst z; rw [hT q hq] at b3; cases b3; cases b4
    refine codeAny_mono ((F _ hKb (nsK hns) hB).run callerA [] s₁ H ⟨[.ref a], []⟩ [.ref a] [.ref a] _ _ hr e0 (hbind s₁ (.ref a)) (.cons rfl .nil) (hsp H hS hTb)) fun r s' h => ?_
    cases r with
    | error e => exact (hCX H e s' h).elim
    | ok fl =>
      cases fl with
      | next => exact False.elim h
      | brk => exact False.elim h
      | cont => exact False.elim h
      | ret u =>
        obtain ⟨v, H', os, bare, un, hok', r', q⟩ := h
        have q' : v = .bl true := q
        subst q'
        obtain rfl : u = Value.bool true := r'
        refine ⟨rfl, ⟨fun b o e => ?_, fun b o e => un.there b o e (by simp)⟩, os, bare⟩
        rcases hA b with z | ⟨z, ⟨ob, xs, hz⟩, _⟩ | ⟨q, hq, z⟩
        · exact .inl (un.keep b o e z (by intro z; exact absurd (show b ∈ ([] : List Addr) from z) (by simp)) (by simp))
        · have z2 := un.frzs b ob _ hz
          obtain ⟨e1, _⟩ := hok b _ hz
          obtain ⟨e2, _⟩ := hok' b _ z2
          rw [e] at e1; cases e1
          exact .inl e2
        · subst z
          rw [(hT q hq)] at e
          cases e
          obtain ⟨more, hm⟩ := un.tbls _ _ (hTb q hq)
          have e2 : s'.heap.get? q = some { cls := .none, data := .fields (#[] ++ more) } := hok' _ _ hm
          obtain ⟨c, hc⟩ := hC q hq
          obtain ⟨oc, vs, _, _, _, _, _, _, _, c1, c2, c3, c4, _⟩ := codeHd_of_K KX hc
          exact .inr (.inl ⟨⟨c, oc, vs, c1, c2, c3, c4⟩, rfl, #[], more, rfl, e2⟩)
  have tabA : ∀ q ∈ ts, q ≠ a := fun q hq z => by
    have := (hT q hq)
    rw [z, ha] at this; cases this
  cases hk : K.lookup a with
  | some o =>
    have e := KX a o hk
    rw [ha] at e
    cases e
    refine core (fun b => if b ∈ ts then some (.tbl #[]) else none) (.inr ⟨_, vs.toArray, _, hk, rfl, rfl, rfl, by rw [List.size_toArray, lenV]; exact hl, by simpa using rv⟩) (fun b u z => ?_) (fun q hq => if_pos hq) fun b => ?_
    · by_cases hb : b ∈ ts
      · have z' := (if_pos hb).symm.trans z
        cases z'
        have hq := hb
        exact (hT _ hq)
      · have z' := (if_neg hb).symm.trans z
        cases z'
    · by_cases hb : b ∈ ts
      · exact .inr (.inr ⟨b, hb, rfl⟩)
      · exact .inl (if_neg hb)
  | none =>
    refine core (fun b => if b = a then some (.frz { cls := .type "list", data := .seq vs.toArray } (.lst (ns.map V.int))) else if b ∈ ts then some (.tbl #[]) else none) (.inl (.inr ⟨{ cls := .type "list", data := .seq vs.toArray }, if_pos rfl⟩)) (fun b u z => ?_) (fun q hq => by rw [if_neg (tabA q hq), if_pos hq]) fun b => ?_
    · by_cases hb : b = a
      · have z' := (if_pos hb).symm.trans z
        cases z'
        subst hb
        exact ⟨ha, by rw [List.length_map]; exact hl, vs, _, rv, ha⟩
      · have z' := (if_neg hb).symm.trans z
        by_cases hb2 : b ∈ ts
        · have z2 := (if_pos hb2).symm.trans z'
          cases z2
          have hq := hb2
          exact (hT _ hq)
        · have z2 := (if_neg hb2).symm.trans z'
          cases z2
    · by_cases hb : b = a
      · exact .inr (.inl ⟨hb, ⟨_, _, if_pos hb⟩, hk⟩)
      · by_cases hb2 : b ∈ ts
        · exact .inr (.inr ⟨b, hb2, rfl⟩)
        · exact .inl (by rw [if_neg hb, if_neg hb2])
theorem walk_ofT {l : PySem.W.OpenLaw} {n k : Nat} {q : Program} {loose : List Str} {XP : (Str → Option Value) → Heap → Prop} {YP : World → Heap → Prop} {d : DefRec} {K : Params → Frag} {CX : World → CXT} {sp : World → Sp} {x : Str} {ts : List Addr}
    (hn : l.most = some n) (hn2 : n ≤ sizeLine) (hdf : d.params.defaults = []) (hr : Room k callerA)
    (hY : ∀ (w : World) (h : Heap), YP w h → (K w.params).In h) (hYT : ∀ (w : World) (h : Heap), YP w h → ∀ P ∈ ts, h.get? P = some (tabObj #[])) (hnT : ∀ w : World, noTabs (K w.params) = true)
    (F : ∀ (w : World) (mg : Str → Option Value) (fa : Addr) (h : Heap), (K w.params).In h → h.Ns mainGlobals mg → mg d.name = some (.ref fa) →
      ∃ fd : FuncData, (∀ (s : Shared) (u : Value), BindsTo s fd ⟨[u], []⟩ [(x, u)]) ∧ (∀ P ∈ ts, ∃ c, codeHdIn (K w.params) c P = true) ∧
        ∀ base : Heap, (K w.params).In base → base.Ns mainGlobals mg → BmAt mg base → FnOk l.prog w (K w.params) mg base (CX w) k fa fd [x] (sp w))
    (hsp : ∀ (w : World) (H : Hp) (a : Addr) (ns : List Int), ns.length ≤ n → SqL (K w.params) H a (ns.map V.int) → (∀ q ∈ ts, H q = some (.tbl #[])) → sp w [.ref a] H (fun v _ => v = .bl true) fun _ _ _ => False)
    (hCX : ∀ (w : World) (H : Hp) (s : Shared) (e : Value) (s' : Shared), CX w [] H s (fun _ _ _ => False) e s' → False) :
    PySem.W.WalkO q loose XP YP l.row.toRowW d [] (fun f vs => PySem.call f vs) := by
  refine Att.attach_call hn hdf fun w s₀ s₁ mg mb fa o pm cd doc a vs ns G Y ho hd hcd hmg hobj hints hlen hg => ?_
  have KX := hY w _ Y
  obtain ⟨fd, hb, hC, hF⟩ := F w mg fa _ KX G.T.g hmg
  exact law_callT KX G.T.g G.T.b G.T.builtins G.T.nolimit hg hobj hints (Nat.le_trans hlen hn2) hr (hYT w _ Y) hC (hnT w) (let ⟨bm, ob, a1, a2, a3, a4, a5, a6⟩ := G.T.bmain; ⟨bm, ob, a1, a2, a3, a4, a5, a6⟩) hF hb (fun H hS hT => hsp w H a ns hlen hS hT) fun H e s' => hCX w H s₁ e s'
end L2
namespace L2
open PySem PySem.Spec PyProof.Rows PySem.W PySem.Calls
section
variable {prog : Program} {w : World} {A : Around} {E : Value → Shared → Prop} {s : Shared} {a : Addr}
theorem sort_key_nil {f : Value} {n : Nat} {P : PySem.Fin → Shared → Prop} (ho : s.heap.get? a = some (seqObj "list" #[] n))
    (h : ∀ h' c, (∀ b o, b ≠ a → s.heap.get? b = some o → h'.get? b = some o) → h'.get? a = some (seqObj "list" #[] c) → P (.done (.ret .none)) { s with heap := h' }) :
    wpAny (model prog w) A (ksk_tree a f false) P E s := by
  have ha : a < s.heap.objs.size := Heap.lt_size ho
  have s1 := Heap.SameBut.update s.heap a (Obj.mapSeq fun _ => (#[] : Array Value))
  obtain ⟨e1, ho1⟩ : ∃ e1, (s.heap.update a (Obj.mapSeq fun _ => (#[] : Array Value))).get? a = some (seqObj "list" #[] e1) := ⟨_, get?_update_seq ho fun _ => #[]⟩
  have hkS : ((s.heap.update a (Obj.mapSeq fun _ => (#[] : Array Value))).push (seqObj "tuple" #[] 0)).objs.size = s.heap.objs.size + 1 := by rw [size_push', Heap.size_update]
  unfold ksk_tree
  refine wpAny_bind (listItems_at ho rfl ?_)
  refine wpAny_bind (listUpdate_at ho rfl ?_ (Nat.zero_le _) (Nat.zero_le _))
  refine wpAny_bind (seqEpoch_at ho1 rfl ?_)
  refine wpAny_bind (wpAny_newTuple ?_ (Nat.zero_le _))
  refine wpAny_bind (wpAny_newList ?_ (Nat.zero_le _))
  refine wpAny_holding ?_
  show wpAny _ _ (ksk_rest a f false #[] e1 (.ref ((s.heap.update a (Obj.mapSeq fun _ => (#[] : Array Value))).push (seqObj "tuple" #[] 0)).objs.size)) _ _ { s with heap := ((s.heap.update a (Obj.mapSeq fun _ => (#[] : Array Value))).push (seqObj "tuple" #[] 0)).push (seqObj "list" #[] 0) }
  have up : ∀ b o, b ≠ a → s.heap.get? b = some o → (((s.heap.update a (Obj.mapSeq fun _ => (#[] : Array Value))).push (seqObj "tuple" #[] 0)).push (seqObj "list" #[] 0)).get? b = some o := fun b o n e => Heap.get?_push_of_some _ (Heap.get?_push_of_some _ ((s1.2 b n).trans e))
  have ha2 : (((s.heap.update a (Obj.mapSeq fun _ => (#[] : Array Value))).push (seqObj "tuple" #[] 0)).push (seqObj "list" #[] 0)).get? a = some (seqObj "list" #[] e1) := Heap.get?_push_of_some _ (Heap.get?_push_of_some _ ho1)
  have hk2 : (((s.heap.update a (Obj.mapSeq fun _ => (#[] : Array Value))).push (seqObj "tuple" #[] 0)).push (seqObj "list" #[] 0)).get? ((s.heap.update a (Obj.mapSeq fun _ => (#[] : Array Value))).push (seqObj "tuple" #[] 0)).objs.size = some (seqObj "list" #[] 0) := Heap.get?_push_size _ rfl
  rw [hkS] at hk2 ⊢
  generalize ((s.heap.update a (Obj.mapSeq fun _ => (#[] : Array Value))).push (seqObj "tuple" #[] 0)).push (seqObj "list" #[] 0) = h2 at up ha2 hk2 ⊢
  have hka : s.heap.objs.size + 1 ≠ a := Nat.ne_of_gt (Nat.lt_succ_of_lt ha)
  unfold ksk_rest
  refine wpAny_bind (wpAny_rule ?_)
  rw [← Array.forIn_toList]
  simp only [List.forIn_nil]
  refine wpAny_bind (wpAny_pure ?_)
  refine wpAny_bind (listItems_at hk2 rfl ?_)
  unfold ksk_end
  simp only [Bool.false_eq_true, if_false]
  rw [if_pos (show (#[] : Array Value).size < 2 by decide), if_pos (show (#[] : Array Value).size < 2 by decide)]
  refine wpAny_bind (wpAny_pure ?_)
  rw [StateT.run_pure]
  refine wpAny_bind (wpAny_pure ?_)
  dsimp only
  unfold ksk_tail
  dsimp only
  have t1 := Heap.SameBut.update h2 (s.heap.objs.size + 1) (Obj.mapSeq fun _ => (#[] : Array Value))
  have na1 : (h2.update (s.heap.objs.size + 1) (Obj.mapSeq fun _ => (#[] : Array Value))).get? a = some (seqObj "list" #[] e1) := (t1.2 a hka.symm).trans ha2
  refine wpAny_bind (listUpdate_at hk2 rfl ?_ (Nat.zero_le _) (Nat.zero_le _))
  refine wpAny_bind (wpAny_letGo ?_)
  refine wpAny_bind (seqEpoch_at na1 rfl ?_)
  have eo : (if false = true then (Array.map (fun x => x.2) (arrOf (SortSt.mk' general' ((#[] : Array Value).zip (#[] : Array Value)) #[] 7 none))).reverse else Array.map (fun x => x.2) (arrOf (SortSt.mk' general' ((#[] : Array Value).zip (#[] : Array Value)) #[] 7 none))) = (#[] : Array Value) := by
    rw [if_neg (by decide)]
    show Array.map (fun x => x.2) ((#[] : Array Value).zip (#[] : Array Value)) = #[]
    simp
  rw [eo]
  refine wpAny_bind (listUpdate_at na1 rfl ?_ (Nat.zero_le _) (Nat.zero_le _))
  show wpAny _ _ (if ((e1 != e1) : Bool) = true then _ else _) _ _ _
  rw [if_neg (by simp)]
  have t2 := Heap.SameBut.update (h2.update (s.heap.objs.size + 1) (Obj.mapSeq fun _ => (#[] : Array Value))) a (Obj.mapSeq fun _ => (#[] : Array Value))
  refine wpAny_pure (h _ _ (fun b o n e => ?_) (get?_update_seq na1 fun _ => #[]))
  have hb : b ≠ s.heap.objs.size + 1 := Nat.ne_of_lt (Nat.lt_succ_of_lt (Heap.lt_size e))
  exact (t2.2 b n).trans ((t1.2 b hb).trans (up b o n e))
end
end L2
namespace L2
open PySem PySem.Spec PyProof.Rows PySem.W PySem.Calls
structure Lam (K : Frag) (f c P : Addr) : Prop where
  ex : ∃ (oc : Value) (od : Option Addr) (fd : FuncData) (sl : Array (Option Value)), K.lookup f = some ⟨oc, od, .func fd, sl⟩ ∧ fd.code = .ref c
  hd : codeHdIn K c P = true
theorem lam_mk {K : Frag} {f c P : Addr} {oc oc2 : Value} {od od2 : Option Addr} {fd : FuncData} {vs : Array Value} {sl sl2 : Array (Option Value)} (l : K.lookup f = some ⟨oc, od, .func fd, sl⟩) (e : fd.code = .ref c) (l2 : K.lookup c = some ⟨oc2, od2, .fields vs, sl2⟩) (v : vs[11]? = some (.ref P)) (h : codeHdIn K c P = true) : Lam K f c P :=
  ⟨⟨oc, od, fd, sl, l, e⟩, h⟩
theorem Fun.okL {P : Program} {w : World} {K : Frag} {mg : Str → Option Value} {base : Heap} {x qual : Str} {st : Stmt} {f c T : Addr} {fd : FuncData} {N ps : List Str} {k : Nat} {sp : Sp} (F : Fun K x qual st f fd) (L : Lam K f c T) (S : FnScope N ps (defScope st)) (len : ∀ vs H Q E, sp vs H Q E → vs.length = ps.length)
    (hbody : ∀ (A : Around) (outer : List Env) (s : Shared) (H : Hp) (vs : List V) (Q : VK) (E : XK), Room k (A.deeper (envOfC qual (defScope st) s.heap.objs.size f (.ref c))) → sp vs H Q E →
      ∃ t, PSs (cxOf CX0 P w K mg base N qual (defScope st) f (.ref c) A outer s H E).nox (defBody st) t ∧ t { nx := fun _ H' => Q .non H', rt := Q } (start N vs) H) : FnOk P w K mg base CX0 (k + 1) f fd ps sp := by
  obtain ⟨oc, od, kV, doc, pm, an, cdv, ct, osl, rfl, lk, hcd⟩ := F.ex
  obtain ⟨oc', od', fd', sl', lk', e⟩ := L.ex
  rw [lk] at lk'
  cases lk'
  have e' : cdv = .ref c := e
  subst e'
  refine fn_of lk hcd S len fun A outer s H vs Q E hr hsp => ?_
  obtain ⟨t, h, q⟩ := hbody A outer s H vs Q E hr hsp
  exact ⟨t, h.nox, q⟩
section
variable {X : Cx} {pins : List (Addr × Obj)} {σ : St} {H : Hp} {s : Shared}
theorem Inv.tab {P D : Addr} {ps more : Array Value} {h' : Heap} {t' c : Nat} (I : Inv X pins σ H s) (hP : H P = some (.tbl ps)) (k : ∀ b u, b ≠ P → s.heap.get? b = some u → h'.get? b = some u) (hP' : h'.get? P = some (tabObj (ps ++ more)))
    (hD : s.heap.objs.size ≤ D) (hl : h'.get? D = some { cls := .type "list", data := .seq #[] c }) : Inv X pins σ (upd (upd H P (.tbl (ps ++ more))) D (.lst [])) { s with heap := h', toks := t' } := by
  have hn : H D = none := I.hok.fresh hD
  have nPD : P ≠ D := fun z => by rw [z, hn] at hP; cases hP
  have up : ∀ b o, b ≠ P → H b = some o → (upd (upd H P (.tbl (ps ++ more))) D (.lst [])) b = some o := fun b o n e => by
    have nD : b ≠ D := fun z => by rw [z, hn] at e; cases e
    rw [upd_ne nD, upd_ne n]; exact e
  refine I.un ⟨fun b ob q n _ _ => k b ob (fun z => by rw [z, hP] at n; cases n) q, fun b ob q n _ _ => ⟨ob.slots, k b ob (fun z => by rw [z, hP] at n; cases n) q⟩, fun b ob q n _ => ?_, fun b ob q _ => ?_, fun b xs q => up b _ (fun z => by rw [z, hP] at q; cases q) q, fun b o u q => up b _ (fun z => by rw [z, hP] at q; cases q) q, fun b ps' q => ?_⟩ fun b o e => ?_
  · have nb : b ≠ P := fun z => by rw [z, hP] at n; cases n
    have nD : b ≠ D := Nat.ne_of_lt (Nat.lt_of_lt_of_le (Heap.lt_size q) hD)
    rw [upd_ne nD, upd_ne nb]; exact n
  · by_cases nb : b = P
    · subst nb; exact ⟨_, hP'⟩
    · exact ⟨ob, k b ob nb q⟩
  · by_cases nb : b = P
    · subst nb
      rw [hP] at q; cases q
      exact ⟨more, by rw [upd_ne nPD, upd_same]⟩
    · exact ⟨#[], by rw [up b _ nb q]; simp⟩
  · by_cases nD : b = D
    · subst nD
      rw [upd_same] at e; cases e
      exact ⟨Nat.zero_le _, [], c, .nil, hl⟩
    · rw [upd_ne nD] at e
      by_cases nb : b = P
      · subst nb
        rw [upd_same] at e; cases e
        exact hP'
      · rw [upd_ne nb] at e
        refine (I.hok b o e).stay (fun c v hc q => k c v ?_ q) (fun c q => up c _ (fun z => by rw [z, hP] at q; cases q) q) fun c xs q => up c _ (fun z => by rw [z, hP] at q; cases q) q
        rcases hc with z | z
        · rw [z]; exact nb
        · exact fun w => by rw [w, hP] at z; cases z
end
section
variable {X : Cx} {o : Expr} {td : TE} {p1 apos cpos pos1 lpos kp : Pos} {params : Arguments} {body : Expr} {scope : Scope} {c P : Addr}
def tSortK (P : Addr) (td : TE) : TE := fun σ H Q => td σ H fun x H1 => ∃ d, x = .ref d ∧ H1 d = some (.dK []) ∧ H1 P = some (.tbl #[]) ∧ ∀ l ps, H1 l = none → Q (.ref l) (upd (upd H1 P (.tbl ps)) l (.lst []))
def tSort0 (td : TE) : TE := fun σ H Q => td σ H fun x H1 => ∃ d, x = .ref d ∧ H1 d = some (.dK []) ∧ ∀ l, H1 l = none → Q (.ref l) (upd H1 l (.lst []))
theorem pe_sortK0 (hc : X.calm = true) (hg : Gl X "sorted") (hm : X.mg "sorted" = none) (ho : PE X o td) (hcode : X.env.code = .ref c) (hK : codeHdIn X.K c P = true) (hB : BmAt X.mg X.base)
    (hdef : defaultsOf params X.env = ([], []) := by rfl) (hcl : closureFor scope X.env = pure [] := by rfl)
    (hbase : attributeBase o "items" X.env (eval o X.env) = eval o X.env := by rfl) (hline : (apos.endLine == cpos.line) = true := by rfl)
    (hs : backTo pos1 (starEach [.Call (.Attribute o "items" apos) [] [] cpos] X.env) = [(false, eval (.Call (.Attribute o "items" apos) [] [] cpos) X.env)] := by rfl) :
    PE X (.Call (.Name "sorted" p1) [.Call (.Attribute o "items" apos) [] [] cpos] [⟨some "key", .Lambda params body scope lpos, kp⟩] pos1) (tSortK P td) := by
  intro pins s σ H Q I h
  refine wpAny_Call_Name_kw (ld_blt I hg hm boot_sorted (callWith_kw ?_))
  rw [hs]
  refine Calls.spliced_cons (wpAny_Call_method0_late hbase hline (thn (ho pins s σ H _ I h) fun v s1 ⟨x, H1, I1, r1, d, ex, hd, hP, q⟩ => ?_))
  subst ex
  cases r1
  obtain ⟨z, hsm, vs, rel, oD, es, ep, d1, d2, d3, d4, d5, d6⟩ := dk_of I1.hok hd
  have dd : s1.heap.DictAt (mixKind X.prog X.w) d vs ep := ⟨oD, es, d1, d2, d3, d4, d5, d6⟩
  have hvs : vs = [] := by
    have := rel.length
    cases vs with
    | nil => rfl
    | cons _ _ => simp at this
  subst hvs
  obtain ⟨t1, t2, _⟩ := isD_at I1 (a := d) (.inl ⟨[], .inl hd⟩)
  refine ⟨"dict", "dict.items", PySem.F.plainAttrs_dict, PySem.F.slot_dict_items, PySem.F.type_dict_items, t1, t2, Calls.callWith_builtin rfl (PySem.evalArgs_none ?_)⟩
  refine call_meetsIn PySem.F.slot_dict_items t1 PySem.F.entry_dict_items (PySem.F.args_dict_items_1 _) (meets_dict_items (mixKind X.prog X.w) d hsm) ⟨⟨[], _, _, _, d1, d2, d3, d4, d5, d6⟩, ?_⟩
  refine Calls.spliced_nil ?_
  have hPh : s1.heap.get? P = some (tabObj #[]) := I1.hok P _ hP
  have hvh : (s1.heap.push { cls := .type "dict_items", data := .fields #[.ref d] }).get? s1.heap.objs.size = some { cls := .type "dict_items", data := .fields #[.ref d] } := Heap.get?_push_size _ rfl
  have up1 : ∀ b u, s1.heap.get? b = some u → (s1.heap.push { cls := .type "dict_items", data := .fields #[.ref d] }).get? b = some u := fun b u e => Heap.get?_push_of_some _ e
  have sz1 : (s1.heap.push { cls := .type "dict_items", data := .fields #[.ref d] }).objs.size = s1.heap.objs.size + 1 := Heap.size_push _ _
  generalize s1.heap.push { cls := .type "dict_items", data := .fields #[.ref d] } = hA at *
  have C : CodeHd hA c P := (codeHd_of_K I1.kIn hK).keeps up1
  have G : hA.Ns mainGlobals X.mg := (I1.mod.glob.keeps I1.bk).keeps up1
  obtain ⟨bm, ob, b1, b2, b4, b5, b6, b7⟩ := hB
  have hbm := I1.bk _ _ b4
  have nbP : bm ≠ P := fun z => by rw [z, hPh] at hbm; cases hbm; cases b5
  have b3 : bm ≠ mainGlobals := fun z => by
    obtain ⟨o', es', ep', e', hd', _⟩ := G
    rw [← z, up1 _ _ hbm] at e'; cases e'; rw [b7] at hd'; cases hd'
  have ngP : mainGlobals ≠ P := fun z => by
    obtain ⟨o', es', ep', e', hd', _⟩ := G
    rw [z, up1 _ _ hPh] at e'; cases e'; cases hd'
  refine kws_cons (kla_eval hdef (kla_makeFunction (s := { s1 with heap := hA }) (mg := X.mg) hcl I1.ok.glob G hcode C (up1 _ _ hPh) (by trivial) rfl ngP ⟨bm, _, b1, b2, b3, nbP, up1 _ _ hbm, b5, b6, b7⟩ fun c' ctv hB' tk hx hge hlt hrec htb => ?_))
  refine kws_nil ?_
  have fsz := Heap.size_push hB' (kla_obj "<lambda>" (X.env.qual ++ "<lambda>") params body scope [] ((X.mg "__name__").getD .none) c' ctv)
  have up2 : ∀ b u, b ≠ P → hA.get? b = some u → (hB'.push (kla_obj "<lambda>" (X.env.qual ++ "<lambda>") params body scope [] ((X.mg "__name__").getD .none) c' ctv)).get? b = some u := fun b u n e => Heap.get?_push_of_some _ (hx b u n e)
  have hP2 : (hB'.push (kla_obj "<lambda>" (X.env.qual ++ "<lambda>") params body scope [] ((X.mg "__name__").getD .none) c' ctv)).get? P = some (tabObj (#[] ++ #[rawInt lpos.line, rawInt lpos.col, .ref c'])) := Heap.get?_push_of_some _ htb
  generalize hB'.push (kla_obj "<lambda>" (X.env.qual ++ "<lambda>") params body scope [] ((X.mg "__name__").getD .none) c' ctv) = hC at *
  have ndP : d ≠ P := fun z => by rw [z, hP] at hd; cases hd
  have nvP : s1.heap.objs.size ≠ P := Nat.ne_of_gt (Heap.lt_size hPh)
  show wpAny _ _ (call (.builtin "sorted") [.ref s1.heap.objs.size] [(Str.ofString "key", .ref hB'.objs.size)]) _ _ { s1 with heap := hC, toks := tk }
  refine call_function_entry_kw kind_sorted plain_sorted entry_sorted (ksk_s1 _ _) ?_
  unfold Builtin.«sorted»
  refine wpAny_bind (m := checkCount "sorted" 1 1 _) (wpAny_pure ?_)
  have dd2 : hC.DictAt (mixKind X.prog X.w) d [] ep := ⟨oD, es, up2 _ _ ndP (up1 _ _ d1), d2, d3, d4, d5, d6⟩
  refine wpAny_bind (kdx_collect (s := { s1 with heap := hC, toks := tk }) (knd := mixKind X.prog X.w) (kvs := []) (ep := ep) (I1.ok.hd hc) ⟨_, up2 _ _ nvP hvh, rfl, rfl⟩ dd2 (Nat.zero_le _) fun h2 tk2 as hk hl hG => ?_)
  have has : as = [] := by
    cases as with
    | nil => rfl
    | cons _ _ => simp at hl
  subst has
  refine wpAny_bind (wpAny_newList ?_ (Nat.zero_le _))
  have hoL : (h2.push (seqObj "list" #[] 0)).get? h2.objs.size = some (seqObj "list" #[] 0) := Heap.get?_push_size _ rfl
  have up3 : ∀ b u, h2.get? b = some u → (h2.push (seqObj "list" #[] 0)).get? b = some u := fun b u e => Heap.get?_push_of_some _ e
  show wpAny _ _ _ _ _ { s1 with heap := h2.push (seqObj "list" #[] 0), toks := tk2 }
  refine wpAny_bind (wpAny_holding (wpAny_call_entry_kw slot_list_sort ⟨_, hoL, rfl⟩ entry_list_sort ?body (ksk_l1 _ _)))
  case body =>
    rw [ksk_t1]
    refine sort_key_nil (s := { s1 with heap := h2.push (seqObj "list" #[] 0), toks := tk2 }) hoL fun h3 cc hk3 hD3 => ⟨_, rfl, ?_⟩
    have lt2 : ∀ b u, hC.get? b = some u → b < h2.objs.size := fun b u e => Heap.lt_size (hk b u e)
    have hsz : s1.heap.objs.size ≤ h2.objs.size := Nat.le_of_lt (lt2 _ _ (up2 _ _ nvP hvh))
    have nPD : P ≠ h2.objs.size := Nat.ne_of_lt (lt2 _ _ hP2)
    refine wpAny_pure ⟨_, rfl, .ref h2.objs.size, _, I1.tab (more := #[rawInt lpos.line, rawInt lpos.col, .ref c']) (D := h2.objs.size) hP (fun b u n e => ?_) (hk3 _ _ nPD (up3 _ _ (hk _ _ hP2))) hsz hD3, rfl, q _ _ (I1.hok.fresh hsz)⟩
    have e2 := hk b u (up2 b u n (up1 b u e))
    exact hk3 b u (Nat.ne_of_lt (Heap.lt_size e2)) (up3 b u e2)
theorem pe_sort0 (hc : X.calm = true) (hg : Gl X "sorted") (hm : X.mg "sorted" = none) (ho : PE X o td)
    (hbase : attributeBase o "items" X.env (eval o X.env) = eval o X.env := by rfl) (hline : (apos.endLine == cpos.line) = true := by rfl)
    (hs : starEach [.Call (.Attribute o "items" apos) [] [] cpos] X.env = [(false, eval (.Call (.Attribute o "items" apos) [] [] cpos) X.env)] := by rfl) :
    PE X (.Call (.Name "sorted" p1) [.Call (.Attribute o "items" apos) [] [] cpos] [] pos1) (tSort0 td) := by
  intro pins s σ H Q I h
  refine wpAny_Call_Name_kw (ld_blt I hg hm boot_sorted (PyProof.Rows.callWith_builtin1 ?_ (by rw [hs]; rfl) rfl))
  rw [hs]
  show wpAny _ _ (spliced ((false, _) :: backTo pos1 [])) _ _ s
  refine Calls.spliced_cons (wpAny_Call_method0_late hbase hline (thn (ho pins s σ H _ I h) fun v s1 ⟨x, H1, I1, r1, d, ex, hd, q⟩ => ?_))
  subst ex
  cases r1
  obtain ⟨z, hsm, vs, rel, oD, es, ep, d1, d2, d3, d4, d5, d6⟩ := dk_of I1.hok hd
  have hvs : vs = [] := by
    have := rel.length
    cases vs with
    | nil => rfl
    | cons _ _ => simp at this
  subst hvs
  obtain ⟨t1, t2, _⟩ := isD_at I1 (a := d) (.inl ⟨[], .inl hd⟩)
  refine ⟨"dict", "dict.items", PySem.F.plainAttrs_dict, PySem.F.slot_dict_items, PySem.F.type_dict_items, t1, t2, Calls.callWith_builtin rfl (PySem.evalArgs_none ?_)⟩
  refine call_meetsIn PySem.F.slot_dict_items t1 PySem.F.entry_dict_items (PySem.F.args_dict_items_1 _) (meets_dict_items (mixKind X.prog X.w) d hsm) ⟨⟨[], _, _, _, d1, d2, d3, d4, d5, d6⟩, ?_⟩
  refine Calls.spliced_nil ?_
  have hvh : (s1.heap.push { cls := .type "dict_items", data := .fields #[.ref d] }).get? s1.heap.objs.size = some { cls := .type "dict_items", data := .fields #[.ref d] } := Heap.get?_push_size _ rfl
  have up1 : ∀ b u, s1.heap.get? b = some u → (s1.heap.push { cls := .type "dict_items", data := .fields #[.ref d] }).get? b = some u := fun b u e => Heap.get?_push_of_some _ e
  generalize s1.heap.push { cls := .type "dict_items", data := .fields #[.ref d] } = hA at *
  refine call_function_entry kind_sorted plain_sorted entry_sorted (args_sorted1 _) ?_
  unfold Builtin.«sorted»
  refine wpAny_bind (m := checkCount "sorted" 1 1 _) (wpAny_pure ?_)
  have dd2 : hA.DictAt (mixKind X.prog X.w) d [] ep := ⟨oD, es, up1 _ _ d1, d2, d3, d4, d5, d6⟩
  refine wpAny_bind (kdx_collect (s := { s1 with heap := hA }) (knd := mixKind X.prog X.w) (kvs := []) (ep := ep) (I1.ok.hd hc) ⟨_, hvh, rfl, rfl⟩ dd2 (Nat.zero_le _) fun h2 tk2 as hk hl hG => ?_)
  have has : as = [] := by
    cases as with
    | nil => rfl
    | cons _ _ => simp at hl
  subst has
  refine wpAny_bind (wpAny_newList ?_ (Nat.zero_le _))
  have hoL : (h2.push (seqObj "list" ([] : List Value).toArray 0)).get? h2.objs.size = some (seqObj "list" ([] : List Value).toArray 0) := Heap.get?_push_size _ rfl
  have up3 : ∀ b u, h2.get? b = some u → (h2.push (seqObj "list" ([] : List Value).toArray 0)).get? b = some u := fun b u e => Heap.get?_push_of_some _ e
  have sz3 := Heap.size_push h2 (seqObj "list" ([] : List Value).toArray 0)
  show wpAny _ _ _ _ _ { s1 with heap := h2.push (seqObj "list" ([] : List Value).toArray 0), toks := tk2 }
  refine wpAny_bind (wpAny_holding (wpAny_call_entry slot_list_sort ⟨_, hoL, rfl⟩ entry_list_sort ?body (args_list_sort _)))
  case body =>
    refine list_sort_tree (s := { s1 with heap := h2.push (seqObj "list" ([] : List Value).toArray 0), toks := tk2 }) (vs := []) (ns := []) hoL .nil (by decide) fun out ns' a1 a2 a3 => ⟨_, rfl, ?_⟩
    have e1 : ns' = [] := a2.eq_nil
    subst e1
    have e2 : out = #[] := by
      have := a1.length
      cases out with
      | mk l => cases l with
        | nil => rfl
        | cons _ _ => simp at this
    subst e2
    have lt2 : ∀ b u, hA.get? b = some u → b < h2.objs.size := fun b u e => Heap.lt_size (hk b u e)
    have hsz : s1.heap.objs.size ≤ h2.objs.size := Nat.le_of_lt (lt2 _ _ hvh)
    obtain ⟨n1, g1⟩ : ∃ c, ((h2.push (seqObj "list" ([] : List Value).toArray 0)).update h2.objs.size (Obj.mapSeq fun _ => (#[] : Array Value))).get? h2.objs.size = some (seqObj "list" #[] c) := ⟨_, get?_update_seq hoL fun _ => #[]⟩
    have t1 := Heap.SameBut.update (h2.push (seqObj "list" ([] : List Value).toArray 0)) h2.objs.size (Obj.mapSeq fun _ => (#[] : Array Value))
    have g2 : ((((h2.push (seqObj "list" ([] : List Value).toArray 0)).update h2.objs.size (Obj.mapSeq fun _ => (#[] : Array Value))).push (seqObj "tuple" ([] : List Value).toArray 0)).push (seqObj "list" #[] 0)).get? h2.objs.size = some (seqObj "list" #[] n1) := Heap.get?_push_of_some _ (Heap.get?_push_of_some _ g1)
    have t2 := Heap.SameBut.update ((((h2.push (seqObj "list" ([] : List Value).toArray 0)).update h2.objs.size (Obj.mapSeq fun _ => (#[] : Array Value))).push (seqObj "tuple" ([] : List Value).toArray 0)).push (seqObj "list" #[] 0)) h2.objs.size (Obj.mapSeq fun _ => (#[] : Array Value))
    refine wpAny_pure ⟨_, rfl, .ref h2.objs.size, _, I1.laid (a := h2.objs.size) (o := .lst []) (t' := tk2) (fun b u e => ?_) hsz ⟨Nat.zero_le _, [], _, .nil, get?_update_seq g2 fun _ => #[]⟩, rfl, q _ (I1.hok.fresh hsz)⟩
    have e2 := hk b u (up1 b u e)
    have nb : b ≠ h2.objs.size := Nat.ne_of_lt (Heap.lt_size e2)
    exact (t2.2 b nb).trans (Heap.get?_push_of_some _ (Heap.get?_push_of_some _ ((t1.2 b nb).trans (up3 b u e2))))
end
end L2
namespace Rc
open PySem PySem.Spec PyProof.Rows L2 PySem.Calls PyProof.V PySem.SeqAt
def ringF : List Str := ["house_count", "signed", "day_of", "loss_rows", "next_happening", "next_loss", "paid_parts", "told_closings", "reckoning"]
theorem putF_len {f : Str} {v w : V} : ∀ {fs : List (Str × V)}, fs.lookup f = some w → (putF f v fs).length = fs.length
  | [], e => by cases e
  | (g, x) :: r, e => by
    by_cases z : g = f
    · unfold putF; rw [if_pos z]; rfl
    · have n : (f == g) = false := beq_eq_false_iff_ne.mpr (fun y => z y.symm)
      rw [List.lookup_cons, n] at e
      unfold putF; rw [if_neg z, List.length_cons, putF_len e]; rfl
structure RgO (h : Nat) (sg dy lr : Addr) (nh nl : Int) (pp tc : Addr) (rk : V) (fs : List (Str × V)) : Prop where
  len : fs.length ≤ 9
  hc : fs.lookup ("house_count" : Str) = some (.int (h : Nat))
  sg_ : fs.lookup ("signed" : Str) = some (.ref sg)
  dy_ : fs.lookup ("day_of" : Str) = some (.ref dy)
  lr_ : fs.lookup ("loss_rows" : Str) = some (.ref lr)
  nh_ : fs.lookup ("next_happening" : Str) = some (.int nh)
  nl_ : fs.lookup ("next_loss" : Str) = some (.int nl)
  pp_ : fs.lookup ("paid_parts" : Str) = some (.ref pp)
  tc_ : fs.lookup ("told_closings" : Str) = some (.ref tc)
  rk_ : fs.lookup ("reckoning" : Str) = some rk
  no : ∀ m : Str, ¬ m ∈ ringF → fs.lookup m = none
section
variable {h : Nat} {sg dy lr : Addr} {nh nl : Int} {pp tc : Addr} {rk : V} {fs : List (Str × V)}
theorem not_ringF {m : Str} (hm : ¬ m ∈ ringF) : ¬ m = "house_count" ∧ ¬ m = "signed" ∧ ¬ m = "day_of" ∧ ¬ m = "loss_rows" ∧ ¬ m = "next_happening" ∧ ¬ m = "next_loss" ∧ ¬ m = "paid_parts" ∧ ¬ m = "told_closings" ∧ ¬ m = "reckoning" := by
  unfold ringF at hm
  simp only [List.mem_cons, not_or, List.not_mem_nil, not_false_eq_true, and_true] at hm
  exact hm
theorem RgO.setP (g : RgO h sg dy lr nh nl pp tc rk fs) (q : Addr) : RgO h sg dy lr nh nl q tc rk (putF "paid_parts" (.ref q) fs) :=
  ⟨by rw [putF_len g.pp_]; exact g.len, by rw [lookup_putF, if_neg (by decide +kernel)]; exact g.hc, by rw [lookup_putF, if_neg (by decide +kernel)]; exact g.sg_, by rw [lookup_putF, if_neg (by decide +kernel)]; exact g.dy_, by rw [lookup_putF, if_neg (by decide +kernel)]; exact g.lr_, by rw [lookup_putF, if_neg (by decide +kernel)]; exact g.nh_, by rw [lookup_putF, if_neg (by decide +kernel)]; exact g.nl_, by rw [lookup_putF, if_pos rfl], by rw [lookup_putF, if_neg (by decide +kernel)]; exact g.tc_, by rw [lookup_putF, if_neg (by decide +kernel)]; exact g.rk_, fun m hm => by rw [lookup_putF, if_neg ((not_ringF hm).2.2.2.2.2.2.1)]; exact g.no m hm⟩
theorem RgO.setR (g : RgO h sg dy lr nh nl pp tc rk fs) (v : V) : RgO h sg dy lr nh nl pp tc v (putF "reckoning" v fs) :=
  ⟨by rw [putF_len g.rk_]; exact g.len, by rw [lookup_putF, if_neg (by decide +kernel)]; exact g.hc, by rw [lookup_putF, if_neg (by decide +kernel)]; exact g.sg_, by rw [lookup_putF, if_neg (by decide +kernel)]; exact g.dy_, by rw [lookup_putF, if_neg (by decide +kernel)]; exact g.lr_, by rw [lookup_putF, if_neg (by decide +kernel)]; exact g.nh_, by rw [lookup_putF, if_neg (by decide +kernel)]; exact g.nl_, by rw [lookup_putF, if_neg (by decide +kernel)]; exact g.pp_, by rw [lookup_putF, if_neg (by decide +kernel)]; exact g.tc_, by rw [lookup_putF, if_pos rfl], fun m hm => by rw [lookup_putF, if_neg ((not_ringF hm).2.2.2.2.2.2.2.2)]; exact g.no m hm⟩
theorem RgO.mk9 : RgO h sg dy lr nh nl pp tc rk (putF "reckoning" rk (putF "told_closings" (.ref tc) (putF "paid_parts" (.ref pp) (putF "next_loss" (.int nl) (putF "next_happening" (.int nh) (putF "loss_rows" (.ref lr) (putF "day_of" (.ref dy) (putF "signed" (.ref sg) (putF "house_count" (.int (h : Nat)) []))))))))) := by
  refine ⟨?_, ?_, ?_, ?_, ?_, ?_, ?_, ?_, ?_, ?_, fun m hm => ?_⟩
  · exact Nat.le_trans (length_putF _ _ _) (Nat.succ_le_succ (Nat.le_trans (length_putF _ _ _) (Nat.succ_le_succ (Nat.le_trans (length_putF _ _ _) (Nat.succ_le_succ (Nat.le_trans (length_putF _ _ _) (Nat.succ_le_succ (Nat.le_trans (length_putF _ _ _) (Nat.succ_le_succ (Nat.le_trans (length_putF _ _ _) (Nat.succ_le_succ (Nat.le_trans (length_putF _ _ _) (Nat.succ_le_succ (Nat.le_trans (length_putF _ _ _) (Nat.succ_le_succ (Nat.le_trans (length_putF _ _ _) (Nat.succ_le_succ (Nat.le_refl 0))))))))))))))))))
  · rw [lookup_putF, if_neg (by decide +kernel), lookup_putF, if_neg (by decide +kernel), lookup_putF, if_neg (by decide +kernel), lookup_putF, if_neg (by decide +kernel), lookup_putF, if_neg (by decide +kernel), lookup_putF, if_neg (by decide +kernel), lookup_putF, if_neg (by decide +kernel), lookup_putF, if_neg (by decide +kernel), lookup_putF, if_pos rfl]
  · rw [lookup_putF, if_neg (by decide +kernel), lookup_putF, if_neg (by decide +kernel), lookup_putF, if_neg (by decide +kernel), lookup_putF, if_neg (by decide +kernel), lookup_putF, if_neg (by decide +kernel), lookup_putF, if_neg (by decide +kernel), lookup_putF, if_neg (by decide +kernel), lookup_putF, if_pos rfl]
  · rw [lookup_putF, if_neg (by decide +kernel), lookup_putF, if_neg (by decide +kernel), lookup_putF, if_neg (by decide +kernel), lookup_putF, if_neg (by decide +kernel), lookup_putF, if_neg (by decide +kernel), lookup_putF, if_neg (by decide +kernel), lookup_putF, if_pos rfl]
  · rw [lookup_putF, if_neg (by decide +kernel), lookup_putF, if_neg (by decide +kernel), lookup_putF, if_neg (by decide +kernel), lookup_putF, if_neg (by decide +kernel), lookup_putF, if_neg (by decide +kernel), lookup_putF, if_pos rfl]
  · rw [lookup_putF, if_neg (by decide +kernel), lookup_putF, if_neg (by decide +kernel), lookup_putF, if_neg (by decide +kernel), lookup_putF, if_neg (by decide +kernel), lookup_putF, if_pos rfl]
  · rw [lookup_putF, if_neg (by decide +kernel), lookup_putF, if_neg (by decide +kernel), lookup_putF, if_neg (by decide +kernel), lookup_putF, if_pos rfl]
  · rw [lookup_putF, if_neg (by decide +kernel), lookup_putF, if_neg (by decide +kernel), lookup_putF, if_pos rfl]
  · rw [lookup_putF, if_neg (by decide +kernel), lookup_putF, if_pos rfl]
  · rw [lookup_putF, if_pos rfl]
  · obtain ⟨n0, n1, n2, n3, n4, n5, n6, n7, n8⟩ := not_ringF hm
    rw [lookup_putF, if_neg n8, lookup_putF, if_neg n7, lookup_putF, if_neg n6, lookup_putF, if_neg n5, lookup_putF, if_neg n4, lookup_putF, if_neg n3, lookup_putF, if_neg n2, lookup_putF, if_neg n1, lookup_putF, if_neg n0]; rfl
end
def SameU (H H' : Hp) : Prop := (∀ b xs, H b = some (.tup xs) → H' b = some (.tup xs)) ∧ ∀ b o u, H b = some (.frz o u) → H' b = some (.frz o u)
def SameX (E : List Addr) (H H' : Hp) : Prop := ∀ b o, b ∉ E → H b = some o → H' b = some o
section
variable {K : Frag} {H H' H'' : Hp} {E : List Addr} {a : Addr} {xs : List V} {p : Addr}
theorem SameX.refl : SameX E H H := fun _ _ _ e => e
theorem SameX.trans (s : SameX E H H') (t : SameX E H' H'') : SameX E H H'' := fun b o n e => t b o n (s b o n e)
theorem SameX.of (s : Same H H') : SameX E H H' := fun b o _ e => s b o e
theorem SameX.sub {E2 : List Addr} (s : SameX E H H') (h : ∀ b ∈ E, b ∈ E2) : SameX E2 H H' := fun b o n e => s b o (fun z => n (h b z)) e
theorem SameX.upd {o : HO} (h : a ∈ E) : SameX E H (upd H a o) := fun b o' n e => by
  have nb : b ≠ a := fun z => n (by rw [z]; exact h)
  rw [L2.upd_ne nb]; exact e
theorem Same.u (s : Same H H') : SameU H H' := ⟨fun b xs e => s b _ e, fun b o u e => s b _ e⟩
theorem SameX.u (s : SameX E H H') (h : ∀ b ∈ E, (∀ xs, H b ≠ some (.tup xs)) ∧ ∀ o u, H b ≠ some (.frz o u)) : SameU H H' :=
  ⟨fun b xs e => s b _ (fun z => (h b z).1 xs e) e, fun b o u e => s b _ (fun z => (h b z).2 o u e) e⟩
theorem SqT.u (s : SameU H H') (h : SqT K H a xs) : SqT K H' a xs := by
  rcases h with (h | ⟨o, h⟩) | h
  · exact .inl (.inl (s.1 _ _ h))
  · exact .inl (.inr ⟨o, s.2 _ _ _ h⟩)
  · exact .inr h
theorem LinesAt.u {L : List (Int × Int)} (s : SameU H H') (h : LinesAt K H p L) : LinesAt K H' p L := by
  obtain ⟨us, h1, h2⟩ := h.ex
  exact ⟨us, SqT.u s h1, h2.len, fun i l e => let ⟨v, e1, q, e2, e3⟩ := h2.at_ i l e; ⟨v, e1, q, e2, SqT.u s e3⟩⟩
theorem TmAt.u (s : SameU H H') : ∀ {t : Tm}, TmAt K H p t → TmAt K H' p t
  | .stop _ _ _ _, ⟨lp, h, h1, h2⟩ => ⟨lp, SqT.u s h, LinesAt.u s h1, h2⟩
  | .full _ _ _ _ _ _ _ _, ⟨hk, lp, h, h1, h2⟩ => ⟨hk, lp, SqT.u s h, LinesAt.u s h1, h2⟩
  | .other, ⟨xs, h, h1⟩ => ⟨xs, SqT.u s h, h1⟩
end
def tmD : Tm → PyData
  | .stop ho b m L => .tuple [.str "stop", .int ho, .int b, .int m, .tuple (L.map pairD)]
  | .full k ho b m w f l L => .tuple [.str k, .int ho, .int b, .int m, .int w, .int f, .int l, .tuple (L.map pairD)]
  | .other => .none
def okTm : Tm → Prop
  | .stop _ _ _ _ => True
  | .full k _ _ _ _ _ _ _ => k = "share" ∨ k = "layer"
  | .other => False
theorem okTm_of {h : Int} {K : Frag} {H : Hp} {p : Addr} : ∀ {t : Tm}, TmAt K H p t → termsB h t = true → okTm t
  | .stop _ _ _ _, _, _ => trivial
  | .full _ _ _ _ _ _ _ _, ⟨hk, _⟩, _ => hk
  | .other, _, e => by cases e
theorem dv_tm {K : Frag} {H : Hp} {p : Addr} : ∀ {t : Tm}, TmAt K H p t → okTm t → DV K H (.ref p) (tmD t)
  | .stop _ _ _ L, ⟨lp, h, h1, _⟩, _ => by
    obtain ⟨us, a1, a2⟩ := h1.ex
    exact .tup h (.cons (.str _) (.cons (.int _) (.cons (.int _) (.cons (.int _) (.cons (.tup a1 (dvs_pairs a2)) .nil)))))
  | .full _ _ _ _ _ _ _ L, ⟨hk, lp, h, h1, _⟩, _ => by
    obtain ⟨us, a1, a2⟩ := h1.ex
    exact .tup h (.cons (.str _) (.cons (.int _) (.cons (.int _) (.cons (.int _) (.cons (.int _) (.cons (.int _) (.cons (.int _) (.cons (.tup a1 (dvs_pairs a2)) .nil))))))))
  | .other, _, z => z.elim
theorem TmAt.last {K : Frag} {H : Hp} {p : Addr} : ∀ {t : Tm}, TmAt K H p t → okTm t → ∃ xs lp L, SqT K H p xs ∧ atI xs (-1) = some (.ref lp) ∧ LinesAt K H lp L ∧ L.length ≤ 100
  | .stop _ _ _ L, ⟨lp, h, h1, h2⟩, _ => ⟨_, lp, L, h, rfl, h1, h2⟩
  | .full _ _ _ _ _ _ _ L, ⟨hk, lp, h, h1, h2⟩, _ => ⟨_, lp, L, h, rfl, h1, h2⟩
  | .other, _, z => z.elim
def sgD (t : Tm) : PyData := .tuple [tmD t, .none]
theorem lay_sg : ∀ ts : List Tm, (∀ t ∈ ts, okTm t) → PyData.canLayAll0 (ts.map sgD) = true
  | [], _ => by simp [PyData.canLayAll0]
  | t :: r, h => by
    have ih := lay_sg r fun x hx => h x (List.mem_cons_of_mem _ hx)
    have h0 := h t List.mem_cons_self
    cases t with
    | stop ho b m L =>
      have e : PyData.canLay0 (.str "stop") = true := by decide +kernel
      simp only [PyData.canLay0] at e
      simp [PyData.canLayAll0, PyData.canLay0, sgD, tmD, ih, lay_pairs, e]
    | full k ho b m w f l L =>
      have e : PyData.canLay0 (.str k) = true := by rcases h0 with rfl | rfl <;> decide +kernel
      simp only [PyData.canLay0] at e
      simp [PyData.canLayAll0, PyData.canLay0, sgD, tmD, ih, lay_pairs, e]
    | other => exact h0.elim
theorem depth_sg : ∀ ts : List Tm, PyData.depthAll (ts.map sgD) ≤ 8
  | [] => by simp [PyData.depthAll]
  | t :: r => by
    have := depth_sg r
    cases t with
    | stop ho b m L => have := depth_pairs L; simp only [List.map_cons, PyData.depthAll, PyData.depth, sgD, tmD]; omega
    | full k ho b m w f l L => have := depth_pairs L; simp only [List.map_cons, PyData.depthAll, PyData.depth, sgD, tmD]; omega
    | other => simp only [List.map_cons, PyData.depthAll, PyData.depth, sgD, tmD]; omega
theorem noMix_sg : ∀ ts : List Tm, noMixAll (ts.map sgD) (ts.map sgD) = true
  | [] => by simp [noMixAll]
  | t :: r => by cases t <;> simp [noMixAll, noMix, sgD, tmD, noMix_sg r, noMix_pairs]
theorem sg_ok (ts : List Tm) (h : ∀ t ∈ ts, okTm t) : shaped (.list (ts.map sgD)) = true ∧ noMix (.list (ts.map sgD)) (.list (ts.map sgD)) = true := by
  constructor
  · rw [shaped, Bool.and_eq_true]
    have := depth_sg ts
    exact ⟨by simp only [PyData.canLay0]; exact lay_sg ts h, decide_eq_true (by simp only [PyData.depth]; omega)⟩
  · simp only [noMix]; exact noMix_sg ts
theorem seenD_ok (bs : List Bool) : shaped (.tuple [.none, .list (bs.map PyData.bool)]) = true ∧ noMix (.tuple [.none, .list (bs.map PyData.bool)]) (.tuple [.none, .list (bs.map PyData.bool)]) = true := by
  constructor
  · rw [shaped, Bool.and_eq_true]
    have := depth_bools bs
    exact ⟨by simp [PyData.canLay0, PyData.canLayAll0, lay_bools], decide_eq_true (by simp only [PyData.depth, PyData.depthAll]; omega)⟩
  · simp [noMix, noMixAll, noMix_bools]
theorem ne_seen {K : Frag} {H : Hp} {Q : VK} {r b q c : Addr} {bs : List Bool} (h1 : SqT K H r [.non, .ref b]) (h2 : SqL K H b (bs.map V.bl)) (h3 : SqT K H q [.non, .ref c]) (h4 : SqL K H c (bs.map V.bl)) (k : Q (.bl false) H) : rNeD K (.ref r) (.ref q) H Q :=
  neD_view (.tup h1 (.cons .non (.cons (.lst h2 (.bools bs)) .nil))) (.tup h3 (.cons .non (.cons (.lst h4 (.bools bs)) .nil))) rfl (seenD_ok bs) k
inductive SgAt (K : Frag) (H : Hp) : List V → List Tm → Prop
  | nil : SgAt K H [] []
  | snoc {us : List V} {ts : List Tm} {q p : Addr} {t : Tm} : SgAt K H us ts → SqT K H q [.ref p, .non] → TmAt K H p t → okTm t → SgAt K H (us ++ [.ref q]) (ts ++ [t])
section
variable {K : Frag} {H H' : Hp} {us : List V} {ts : List Tm}
theorem SgAt.len (h : SgAt K H us ts) : us.length = ts.length := by
  induction h with
  | nil => rfl
  | snoc _ _ _ _ i => rw [List.length_append, List.length_append, i]; rfl
theorem SgAt.u (s : SameU H H') (h : SgAt K H us ts) : SgAt K H' us ts := by
  induction h with
  | nil => exact .nil
  | snoc _ a b c i => exact .snoc i (SqT.u s a) (TmAt.u s b) c
theorem SgAt.ok (h : SgAt K H us ts) : ∀ t ∈ ts, okTm t := by
  induction h with
  | nil => exact fun t ht => by simp at ht
  | snoc _ _ _ c i => exact fun t ht => (List.mem_append.mp ht).elim (i t) fun z => by rw [List.mem_singleton.mp z]; exact c
theorem SgAt.dvs (h : SgAt K H us ts) : DVs K H us (ts.map sgD) := by
  induction h with
  | nil => exact .nil
  | snoc _ a b c i => rw [List.map_append]; exact DVs.app i (.cons (.tup a (.cons (dv_tm b c) (.cons .non .nil))) .nil)
end
structure Rg0 (C : Addr) (K : Frag) (H : Hp) (x : Addr) (h : Nat) (ts : List Tm) (sg dy lr pp tc : Addr) : Prop where
  ex : ∃ dx fs us ps, H x = some (.ins C dx fs) ∧ RgO h sg dy lr 0 0 pp tc .non fs ∧ H sg = some (.lst us) ∧ SgAt K H us ts ∧ H pp = some (.lst ps) ∧ ps.length = ts.length
  hdy : H dy = some (.dK [])
  hlr : H lr = some (.dK [])
  htc : H tc = some (.lst [])
  np : sg ≠ pp
  nt : sg ≠ tc
section
variable {C : Addr} {K : Frag} {H H' : Hp} {x : Addr} {h : Nat} {ts : List Tm} {sg dy lr pp tc : Addr} {E : List Addr}
theorem Rg0.keep (r : Rg0 C K H x h ts sg dy lr pp tc) (u : SameU H H') (s : SameX E H H') (n : x ∉ E ∧ sg ∉ E ∧ dy ∉ E ∧ lr ∉ E ∧ pp ∉ E ∧ tc ∉ E) : Rg0 C K H' x h ts sg dy lr pp tc := by
  obtain ⟨dx, fs, us, ps, a1, a2, a3, a4, a5, a6⟩ := r.ex
  exact ⟨⟨dx, fs, us, ps, s _ _ n.1 a1, a2, s _ _ n.2.1 a3, SgAt.u u a4, s _ _ n.2.2.2.2.1 a5, a6⟩, s _ _ n.2.2.1 r.hdy, s _ _ n.2.2.2.1 r.hlr, s _ _ n.2.2.2.2.2 r.htc, r.np, r.nt⟩
theorem Rg0.same (r : Rg0 C K H x h ts sg dy lr pp tc) (s : Same H H') : Rg0 C K H' x h ts sg dy lr pp tc := r.keep (E := []) (Same.u s) (SameX.of s) ⟨by simp, by simp, by simp, by simp, by simp, by simp⟩
end
end Rc
namespace PySem.W.Fast
theorem tw18067999313927382853:True:=⟨⟩
theorem tw13269880388000256023:True:=⟨⟩
theorem tw9951405637795936511:True:=⟨⟩
theorem tw14173196990941895161:True:=⟨⟩
theorem tw10192872106117891243:True:=⟨⟩
theorem tw17494341769749422456:True:=⟨⟩
theorem tw13554221638800888125:True:=⟨⟩
theorem tw2597881988939849802:True:=⟨⟩
theorem tw9312149812501075180:True:=⟨⟩
theorem tw2529387659603136602:True:=⟨⟩
theorem tw1808203621944168807:True:=⟨⟩
theorem tw11655545251161327064:True:=⟨⟩
theorem tw5428492473378664076:True:=⟨⟩
theorem tw109282226755542922:True:=⟨⟩
theorem tw3523161832903386068:True:=⟨⟩
theorem tw1139811937971903763:True:=⟨⟩
theorem tw5160563907670742332:True:=⟨⟩
theorem tw17528471277348821659:True:=⟨⟩
theorem tw15817161687514816468:True:=⟨⟩
theorem tw10415870991519997616:True:=⟨⟩
theorem tw16554055441596497543:True:=⟨⟩
theorem tw675988722018359739:True:=⟨⟩
theorem tw2846687456172792769:True:=⟨⟩
theorem tw5993074857006967234:True:=⟨⟩
theorem tw7205808583078825828:True:=⟨⟩
theorem tw3701705518428541228:True:=⟨⟩
theorem tw7176056645496851500:True:=⟨⟩
theorem tw13281352430546222862:True:=⟨⟩
theorem tw8429631280820035054:True:=⟨⟩
theorem tw15874913453875080255:True:=⟨⟩
theorem tw9192735752523962986:True:=⟨⟩
theorem tw383790634860964185:True:=⟨⟩
theorem tw17677670897492354576:True:=⟨⟩
theorem tw3031436224850528611:True:=⟨⟩
theorem tw12103534783380285597:True:=⟨⟩
theorem tw2892704900715975654:True:=⟨⟩
theorem tw1650786528098908747:True:=⟨⟩
theorem tw6587731513585642465:True:=⟨⟩
theorem tw9193242929194552658:True:=⟨⟩
theorem tw12389727781422183089:True:=⟨⟩
theorem tw4168656362456166259:True:=⟨⟩
theorem tw7783232352897992462:True:=⟨⟩
theorem tw13661905067455173733:True:=⟨⟩
theorem tw17970768957451955048:True:=⟨⟩
theorem tw4298208091353500660:True:=⟨⟩
theorem tw13390635871310127855:True:=⟨⟩
theorem tw16308077056437608186:True:=⟨⟩
theorem tw5690590273214072368:True:=⟨⟩
theorem tw11300730921975162922:True:=⟨⟩
theorem tw12665664815973471737:True:=⟨⟩
theorem tw7615206085727226370:True:=⟨⟩
theorem tw2586034360432643599:True:=⟨⟩
theorem tw12322555463705955304:True:=⟨⟩
theorem tw880984700946644348:True:=⟨⟩
theorem tw16266705666228913707:True:=⟨⟩
theorem tw10175979809225007611:True:=⟨⟩
theorem tw8141066846288071222:True:=⟨⟩
theorem tw15557597231217595809:True:=⟨⟩
theorem tw5413090506382803254:True:=⟨⟩
theorem tw1885401504759501605:True:=⟨⟩
theorem tw15797230309067441910:True:=⟨⟩
theorem tw388296868577513251:True:=⟨⟩
theorem tw10507667275304282941:True:=⟨⟩
theorem tw17160084231525316291:True:=⟨⟩
theorem tw7407374494184792666:True:=⟨⟩
theorem tw887030612307357649:True:=⟨⟩
theorem tw187692576956039372:True:=⟨⟩
theorem tw8238253082429246868:True:=⟨⟩
theorem tw16510262988456274003:True:=⟨⟩
theorem tw12004830669759144603:True:=⟨⟩
theorem tw17338210212207810967:True:=⟨⟩
theorem tw2886772815335656683:True:=⟨⟩
theorem tw5554433554406685176:True:=⟨⟩
theorem tw2853432781978198787:True:=⟨⟩
theorem tw12779054813615247777:True:=⟨⟩
theorem tw17560626369358491774:True:=⟨⟩
theorem tw699145932881385888:True:=⟨⟩
theorem tw1959826801955474768:True:=⟨⟩
theorem tw15957820938645523532:True:=⟨⟩
theorem tw1597620947296460895:True:=⟨⟩
theorem tw4764159214915122438:True:=⟨⟩
theorem tw10718543287561234387:True:=⟨⟩
theorem tw12527292610373161132:True:=⟨⟩
theorem tw6555253413106458758:True:=⟨⟩
theorem tw9468908089171459168:True:=⟨⟩
theorem tw74122247915126694:True:=⟨⟩
theorem tw15398578151381143759:True:=⟨⟩
theorem tw5393341100503303111:True:=⟨⟩
theorem tw32920281946966745:True:=⟨⟩
theorem tw11191296935487087589:True:=⟨⟩
theorem tw13820150169088128657:True:=⟨⟩
theorem tw15934849618594242471:True:=⟨⟩
theorem tw9877182801121169814:True:=⟨⟩
theorem tw13055885130121426845:True:=⟨⟩
theorem tw7933915476805931684:True:=⟨⟩
theorem tw4699548243016343147:True:=⟨⟩
theorem tw7798030495969942057:True:=⟨⟩
theorem tw797717992094394772:True:=⟨⟩
theorem tw12770447409841135636:True:=⟨⟩
theorem tw8546841834488838032:True:=⟨⟩
theorem tw16896111059857640913:True:=⟨⟩
theorem tw12751396074394997061:True:=⟨⟩
theorem tw12328853996294468848:True:=⟨⟩
theorem tw1439285512622608801:True:=⟨⟩
theorem tw9377213685384062772:True:=⟨⟩
theorem tw1566667370535393473:True:=⟨⟩
theorem tw13417159296941665179:True:=⟨⟩
theorem tw14511953344156822194:True:=⟨⟩
theorem tw10128069568151242870:True:=⟨⟩
theorem tw9596304101368108331:True:=⟨⟩
theorem tw12357121565086888774:True:=⟨⟩
theorem tw4381544885334373137:True:=⟨⟩
theorem tw5321430323774026468:True:=⟨⟩
theorem tw16169443685239916065:True:=⟨⟩
theorem tw4866347305553271946:True:=⟨⟩
theorem tw121837722015937373:True:=⟨⟩
theorem tw11735509449835427818:True:=⟨⟩
theorem tw17067583056798273001:True:=⟨⟩
theorem tw3963475251169274848:True:=⟨⟩
theorem tw8982445146410066352:True:=⟨⟩
theorem tw2329244112776831340:True:=⟨⟩
theorem tw17534908730762661426:True:=⟨⟩
theorem tw3238296918436617214:True:=⟨⟩
theorem tw7405981472074576269:True:=⟨⟩
theorem tw5314521508428795538:True:=⟨⟩
theorem tw3316724350076788319:True:=⟨⟩
theorem tw3647342691734856398:True:=⟨⟩
theorem tw5741836979717094047:True:=⟨⟩
theorem tw5705958299770813529:True:=⟨⟩
theorem tw7095786479732099397:True:=⟨⟩
theorem tw12529739201076305215:True:=⟨⟩
theorem tw7251864567430465224:True:=⟨⟩
theorem tw9177308686821816816:True:=⟨⟩
theorem tw1661758480286528057:True:=⟨⟩
theorem tw8513036593585653819:True:=⟨⟩
theorem tw9600715141993343689:True:=⟨⟩
theorem tw3682750268227108928:True:=⟨⟩
theorem tw6209092709102601921:True:=⟨⟩
theorem tw15178557508738715562:True:=⟨⟩
theorem tw7100186642077226657:True:=⟨⟩
theorem tw7273418774619117852:True:=⟨⟩
theorem tw12892841789417195746:True:=⟨⟩
theorem tw18417406263949962622:True:=⟨⟩
theorem tw8958711037662460010:True:=⟨⟩
theorem tw14722623229310592820:True:=⟨⟩
theorem tw10828182929877522603:True:=⟨⟩
theorem tw14605446838310783445:True:=⟨⟩
theorem tw2019972394986832967:True:=⟨⟩
theorem tw8275867373035635919:True:=⟨⟩
theorem tw1366160292147310966:True:=⟨⟩
theorem tw2451415152170172475:True:=⟨⟩
theorem tw2102389082327402094:True:=⟨⟩
theorem tw14877184941438508589:True:=⟨⟩
theorem tw10159072159233862687:True:=⟨⟩
theorem tw5770589945753947007:True:=⟨⟩
theorem tw9522122717076841814:True:=⟨⟩
theorem tw16285449929806462849:True:=⟨⟩
theorem tw2928157419960940856:True:=⟨⟩
theorem tw7792231239144106520:True:=⟨⟩
theorem tw17762419430209485811:True:=⟨⟩
theorem tw834905411527081800:True:=⟨⟩
theorem tw9131688463225730738:True:=⟨⟩
theorem tw9890285959714008591:True:=⟨⟩
theorem tw9734393566020108682:True:=⟨⟩
theorem tw4366039019304817837:True:=⟨⟩
theorem tw10169297720931008241:True:=⟨⟩
theorem tw12925685531163689988:True:=⟨⟩
theorem tw14734629742351013042:True:=⟨⟩
theorem tw11067215665257766034:True:=⟨⟩
theorem tw2924280554362111768:True:=⟨⟩
theorem tw16350171051913922704:True:=⟨⟩
theorem tw9127335442183079277:True:=⟨⟩
theorem tw15644207910814006947:True:=⟨⟩
theorem tw2866163870176861250:True:=⟨⟩
theorem tw13442098416734625318:True:=⟨⟩
theorem tw1338516112544792750:True:=⟨⟩
theorem tw6069533051144005996:True:=⟨⟩
theorem tw5683138529930752119:True:=⟨⟩
theorem tw9379328631682333073:True:=⟨⟩
theorem tw10312147075777667753:True:=⟨⟩
theorem tw8359682568687895459:True:=⟨⟩
theorem tw3475711688207055933:True:=⟨⟩
theorem tw5827467406900989639:True:=⟨⟩
theorem tw3273525638863448663:True:=⟨⟩
theorem tw6142173978792865501:True:=⟨⟩
theorem tw1222562967965379858:True:=⟨⟩
theorem tw17455542933735495958:True:=⟨⟩
theorem tw10870441544919664275:True:=⟨⟩
theorem tw17312236438237378711:True:=⟨⟩
theorem tw11815701296873765226:True:=⟨⟩
theorem tw798986010311303987:True:=⟨⟩
theorem tw5727691077193116623:True:=⟨⟩
theorem tw8288016638340698464:True:=⟨⟩
theorem tw6000653350384515013:True:=⟨⟩
theorem tw9540102174859865516:True:=⟨⟩
theorem tw622332311147512746:True:=⟨⟩
theorem tw16633690782868263570:True:=⟨⟩
theorem tw1219459339949227211:True:=⟨⟩
theorem tw5028217602586480234:True:=⟨⟩
theorem tw17413688497472542675:True:=⟨⟩
theorem tw11390649460879679148:True:=⟨⟩
theorem tw5774670851719536843:True:=⟨⟩
theorem tw2968969454082635220:True:=⟨⟩
theorem tw3611631772329596983:True:=⟨⟩
theorem tw12530496792212389495:True:=⟨⟩
theorem tw8888798871507030584:True:=⟨⟩
theorem tw7083896469428107645:True:=⟨⟩
theorem tw4791013784251233770:True:=⟨⟩
theorem tw16314959611413773519:True:=⟨⟩
theorem tw1096786701116566340:True:=⟨⟩
theorem tw9446681593984954915:True:=⟨⟩
theorem tw9656076485309641643:True:=⟨⟩
theorem tw15716634700728864395:True:=⟨⟩
theorem tw17543170192293518686:True:=⟨⟩
theorem tw16572360692190487276:True:=⟨⟩
theorem tw7955855715295494497:True:=⟨⟩
theorem tw2029009701557284927:True:=⟨⟩
theorem tw17962203624265558227:True:=⟨⟩
theorem tw7910838558303833528:True:=⟨⟩
theorem tw13835601846920319376:True:=⟨⟩
theorem tw2923419856132354068:True:=⟨⟩
theorem tw11358664355235337047:True:=⟨⟩
theorem tw8520207140719749590:True:=⟨⟩
theorem tw2990228088437044168:True:=⟨⟩
theorem tw2295543533657306760:True:=⟨⟩
theorem tw9281090999173785713:True:=⟨⟩
theorem tw17489993823663659251:True:=⟨⟩
theorem tw7684209970176295749:True:=⟨⟩
theorem tw7888659908012009809:True:=⟨⟩
theorem tw16233130694825993694:True:=⟨⟩
theorem tw5292323469374343407:True:=⟨⟩
theorem tw7076408133752580697:True:=⟨⟩
theorem tw3376304960527276424:True:=⟨⟩
theorem tw4651265200985746760:True:=⟨⟩
theorem tw4032067417052312332:True:=⟨⟩
theorem tw9928771322823027663:True:=⟨⟩
theorem tw7614918799532856770:True:=⟨⟩
theorem tw14120174366885660256:True:=⟨⟩
theorem tw8356467852335401814:True:=⟨⟩
theorem tw7368274669899733012:True:=⟨⟩
theorem tw13832727052567821881:True:=⟨⟩
theorem tw12641464964609197517:True:=⟨⟩
theorem tw8938926766455227454:True:=⟨⟩
theorem tw3110831297386724043:True:=⟨⟩
theorem tw17602079135718510033:True:=⟨⟩
theorem tw17382271386920643930:True:=⟨⟩
theorem tw5044830114609400242:True:=⟨⟩
theorem tw15867804831273432138:True:=⟨⟩
theorem tw16320076540701389423:True:=⟨⟩
theorem tw378621048582262754:True:=⟨⟩
theorem tw10633597340968941363:True:=⟨⟩
theorem tw9567559321126222498:True:=⟨⟩
theorem tw2817178557120569146:True:=⟨⟩
theorem tw6254802932430499849:True:=⟨⟩
theorem tw18055936856839999343:True:=⟨⟩
theorem tw2505236028681710275:True:=⟨⟩
theorem tw8894772375037191229:True:=⟨⟩
theorem tw4540041720438257891:True:=⟨⟩
theorem tw8999786066653567638:True:=⟨⟩
theorem tw10466207181799202812:True:=⟨⟩
theorem tw10038820998738334861:True:=⟨⟩
theorem tw2773806760681156346:True:=⟨⟩
theorem tw16733767426583168871:True:=⟨⟩
theorem tw15467793740319644761:True:=⟨⟩
theorem tw6495295234563345639:True:=⟨⟩
theorem tw10714775811060286396:True:=⟨⟩
theorem tw4550034703961766426:True:=⟨⟩
theorem tw1886701510677229882:True:=⟨⟩
theorem tw4445329149947893987:True:=⟨⟩
theorem tw3131981595560814582:True:=⟨⟩
theorem tw14919198299175976448:True:=⟨⟩
theorem tw911586331373103589:True:=⟨⟩
theorem tw16305860917983127965:True:=⟨⟩
theorem tw3144779003709790315:True:=⟨⟩
theorem tw18147292548411938493:True:=⟨⟩
theorem tw3786015802534998419:True:=⟨⟩
theorem tw10876970032661444986:True:=⟨⟩
theorem tw13491252920407522930:True:=⟨⟩
theorem tw5448999893114139893:True:=⟨⟩
theorem tw5583635725948904268:True:=⟨⟩
theorem tw6359315879512863055:True:=⟨⟩
theorem tw2238017193169580768:True:=⟨⟩
theorem tw5165341982763957832:True:=⟨⟩
theorem tw15144802903923363067:True:=⟨⟩
theorem tw18229751155340709150:True:=⟨⟩
theorem tw12702075192214620578:True:=⟨⟩
theorem tw5714819965154935029:True:=⟨⟩
theorem tw3665863162525921899:True:=⟨⟩
theorem tw10269241029976711788:True:=⟨⟩
theorem tw6817767663253334719:True:=⟨⟩
theorem tw6088217346752034322:True:=⟨⟩
theorem tw11264320531728162894:True:=⟨⟩
theorem tw15207152388641546464:True:=⟨⟩
theorem tw1193526174222189840:True:=⟨⟩
theorem tw15214423644734883166:True:=⟨⟩
theorem tw188488431581164950:True:=⟨⟩
theorem tw8738125734856736601:True:=⟨⟩
theorem tw14802276631190342846:True:=⟨⟩
theorem tw8119696124932222148:True:=⟨⟩
theorem tw13232371088573228756:True:=⟨⟩
theorem tw1255870960247415777:True:=⟨⟩
theorem tw1765691988157242036:True:=⟨⟩
theorem tw12083517825886414033:True:=⟨⟩
theorem tw3815217024231936601:True:=⟨⟩
theorem tw11322866975934766375:True:=⟨⟩
theorem tw9208380502786726074:True:=⟨⟩
theorem tw7396484778654775915:True:=⟨⟩
theorem tw3852611254739490826:True:=⟨⟩
theorem tw18436660145032937468:True:=⟨⟩
theorem tw1689347065508297679:True:=⟨⟩
theorem tw11430671916788034650:True:=⟨⟩
theorem tw6563224394034716030:True:=⟨⟩
theorem tw4457994522828608084:True:=⟨⟩
theorem tw8354396680135519775:True:=⟨⟩
theorem tw5248848635376366606:True:=⟨⟩
theorem tw10391433945542993354:True:=⟨⟩
theorem tw2138512466546075802:True:=⟨⟩
theorem tw8609569634507134350:True:=⟨⟩
theorem tw7571806574830940063:True:=⟨⟩
theorem tw6149080068208361275:True:=⟨⟩
theorem tw2655615217131965865:True:=⟨⟩
theorem tw16018754202275716963:True:=⟨⟩
theorem tw13331834289236160488:True:=⟨⟩
theorem tw13519039675700832052:True:=⟨⟩
theorem tw84604374599607953:True:=⟨⟩
theorem tw13106092182258718148:True:=⟨⟩
theorem tw8240604570165559410:True:=⟨⟩
theorem tw585133701153844976:True:=⟨⟩
theorem tw203859002609162731:True:=⟨⟩
theorem tw15905237704890629395:True:=⟨⟩
theorem tw13569769789942526876:True:=⟨⟩
theorem tw12203701585285846398:True:=⟨⟩
theorem tw3488724332371099274:True:=⟨⟩
theorem tw9949285537541601525:True:=⟨⟩
theorem tw4766220363097588052:True:=⟨⟩
theorem tw7376311905327946041:True:=⟨⟩
theorem tw15614509774575236850:True:=⟨⟩
theorem tw17761009438990587825:True:=⟨⟩
theorem tw7426193842352308738:True:=⟨⟩
theorem tw8301312001638385897:True:=⟨⟩
theorem tw7603797682831122700:True:=⟨⟩
theorem tw18208660477795865237:True:=⟨⟩
theorem tw615242487350496484:True:=⟨⟩
theorem tw15644161895669780917:True:=⟨⟩
theorem tw5817939593588498341:True:=⟨⟩
theorem tw12672477257146641257:True:=⟨⟩
theorem tw15537012726920517098:True:=⟨⟩
theorem tw13958030607005202725:True:=⟨⟩
theorem tw17967490410591602716:True:=⟨⟩
theorem tw4421230076538740493:True:=⟨⟩
theorem tw6363277701975706072:True:=⟨⟩
theorem tw18334375697795535868:True:=⟨⟩
theorem tw10466425014845429169:True:=⟨⟩
theorem tw9689552113372358998:True:=⟨⟩
theorem tw9637801781999164545:True:=⟨⟩
theorem tw9328950730022261754:True:=⟨⟩
theorem tw8111335102713440638:True:=⟨⟩
theorem tw7906733601873497468:True:=⟨⟩
theorem tw5264770419890849694:True:=⟨⟩
theorem tw5133701368360103228:True:=⟨⟩
theorem tw3796099700435539108:True:=⟨⟩
theorem tw3460091269691031659:True:=⟨⟩
theorem tw3123912186307878354:True:=⟨⟩
theorem tw3122029015843620337:True:=⟨⟩
theorem tw17874351079759021735:True:=⟨⟩
theorem tw16789472370166085154:True:=⟨⟩
theorem tw16140984223565217332:True:=⟨⟩
theorem tw14869732955782521612:True:=⟨⟩
theorem tw14389473190915222445:True:=⟨⟩
theorem tw1431563271191780106:True:=⟨⟩
theorem tw13813066511422752977:True:=⟨⟩
theorem tw11273026926225980451:True:=⟨⟩
theorem tw7706361210055800166:True:=⟨⟩
theorem tw5386029279069851601:True:=⟨⟩
theorem tw6441197897203312556:True:=⟨⟩
theorem tw2057332974287086521:True:=⟨⟩
theorem tw807630639083158347:True:=⟨⟩
theorem tw8003925196372342225:True:=⟨⟩
theorem tw3685959919140712807:True:=⟨⟩
theorem tw13815932811233441386:True:=⟨⟩
theorem tw7869157374851363065:True:=⟨⟩
theorem tw4393476322966048396:True:=⟨⟩
theorem tw17230445885510688477:True:=⟨⟩
theorem tw8499962336963800665:True:=⟨⟩
theorem tw6379659746229312298:True:=⟨⟩
theorem tw15458728746257936819:True:=⟨⟩
theorem tw1292052790000864763:True:=⟨⟩
theorem tw5020172214739924108:True:=⟨⟩
theorem tw3038326374809379155:True:=⟨⟩
theorem tw689012395971454320:True:=⟨⟩
theorem tw18145809369895014560:True:=⟨⟩
theorem tw15073206152679399467:True:=⟨⟩
theorem tw7921562058616342281:True:=⟨⟩
theorem tw15330535515269748004:True:=⟨⟩
theorem tw11103134288754896957:True:=⟨⟩
theorem tw15002286635260112387:True:=⟨⟩
theorem tw748812128492355563:True:=⟨⟩
theorem tw303594704869863668:True:=⟨⟩
theorem tw12346255573641019856:True:=⟨⟩
theorem tw11633210984598364114:True:=⟨⟩
theorem tw10642582598628534170:True:=⟨⟩
theorem tw15171951913039196723:True:=⟨⟩
theorem tw5412104891527776944:True:=⟨⟩
theorem tw8597888092492106998:True:=⟨⟩
theorem tw8048293119430163676:True:=⟨⟩
theorem tw7030397061873771508:True:=⟨⟩
theorem tw3465672489116652704:True:=⟨⟩
theorem tw17938738070756643622:True:=⟨⟩
theorem tw4296971742731255963:True:=⟨⟩
theorem tw7342065930966296053:True:=⟨⟩
theorem tw8952113812536427971:True:=⟨⟩
theorem tw8780081917905658417:True:=⟨⟩
theorem tw2584865235960953012:True:=⟨⟩
theorem tw10269943069021105343:True:=⟨⟩
theorem tw12469985489249069771:True:=⟨⟩
theorem tw6089062689935505507:True:=⟨⟩
theorem tw14572602377799718664:True:=⟨⟩
theorem tw11290372401751465957:True:=⟨⟩
theorem tw13763409239948763810:True:=⟨⟩
theorem tw5376891637989128481:True:=⟨⟩
theorem tw15884751996788000389:True:=⟨⟩
theorem tw9743228930284641411:True:=⟨⟩
theorem tw1535985802748780914:True:=⟨⟩
theorem tw1005599493017289749:True:=⟨⟩
theorem tw8635604172454159615:True:=⟨⟩
theorem tw4580165711724852438:True:=⟨⟩
theorem tw9038648133992486285:True:=⟨⟩
theorem tw7572176042852219213:True:=⟨⟩
theorem tw5832498720553226008:True:=⟨⟩
theorem tw4039677853830399778:True:=⟨⟩
theorem tw8922460633365928469:True:=⟨⟩
theorem tw4897943318146471359:True:=⟨⟩
theorem tw15291049860195953390:True:=⟨⟩
theorem tw1288621729430333941:True:=⟨⟩
theorem tw11019554125414424604:True:=⟨⟩
theorem tw18368588124338340021:True:=⟨⟩
theorem tw7096278161852596266:True:=⟨⟩
theorem tw3043209354654966640:True:=⟨⟩
theorem tw17575900103230830100:True:=⟨⟩
theorem tw16339603418897028561:True:=⟨⟩
theorem tw15671653839577729051:True:=⟨⟩
theorem tw363971915210117018:True:=⟨⟩
theorem tw2177828165129215968:True:=⟨⟩
theorem tw17638309447409691156:True:=⟨⟩
theorem tw16512287831185306205:True:=⟨⟩
theorem tw10928738527959140028:True:=⟨⟩
theorem tw7310581388013910873:True:=⟨⟩
theorem tw6639369390655031762:True:=⟨⟩
theorem tw16659189352333583434:True:=⟨⟩
theorem tw14504827998220645929:True:=⟨⟩
theorem tw16909166222516468901:True:=⟨⟩
theorem tw2235424424429464431:True:=⟨⟩
theorem tw12720915926771537715:True:=⟨⟩
theorem tw6623883423536600749:True:=⟨⟩
theorem tw17761910125995274664:True:=⟨⟩
theorem tw6963657982302192129:True:=⟨⟩
theorem tw3944988311678876883:True:=⟨⟩
theorem tw231425508330937984:True:=⟨⟩
theorem tw2005109986818781020:True:=⟨⟩
theorem tw18368805679522552035:True:=⟨⟩
theorem tw14700437226707999483:True:=⟨⟩
theorem tw7143487206868065391:True:=⟨⟩
theorem tw2731062191720592672:True:=⟨⟩
theorem tw14180424065958964911:True:=⟨⟩
theorem tw9953423174088768779:True:=⟨⟩
theorem tw4808668402069539203:True:=⟨⟩
theorem tw13431730375084363600:True:=⟨⟩
theorem tw9430418539269872692:True:=⟨⟩
theorem tw10920364927250026291:True:=⟨⟩
theorem tw15397266016773089656:True:=⟨⟩
theorem tw14547813713207984219:True:=⟨⟩
theorem tw15902845510134510853:True:=⟨⟩
theorem tw14814068884037883083:True:=⟨⟩
theorem tw902604778684988568:True:=⟨⟩
theorem tw700800992273371803:True:=⟨⟩
theorem tw5776062017456437879:True:=⟨⟩
theorem tw17749112685306527890:True:=⟨⟩
theorem tw13828594191108121097:True:=⟨⟩
theorem tw13347190693907132414:True:=⟨⟩
theorem tw13234020317695074073:True:=⟨⟩
theorem tw9332387809798367805:True:=⟨⟩
theorem tw405370356966061337:True:=⟨⟩
theorem tw15488539043712571087:True:=⟨⟩
theorem tw15063633294969116734:True:=⟨⟩
theorem tw13758175108168237199:True:=⟨⟩
theorem tw4900115679043103622:True:=⟨⟩
theorem tw2258562322367438206:True:=⟨⟩
theorem tw4955636865900620220:True:=⟨⟩
theorem tw6240282002603336332:True:=⟨⟩
theorem tw1875197605846420858:True:=⟨⟩
theorem tw11940270991580842061:True:=⟨⟩
theorem tw4189991815005978898:True:=⟨⟩
theorem tw4795946547491131759:True:=⟨⟩
theorem tw13291443793492825320:True:=⟨⟩
theorem tw14197931661405262688:True:=⟨⟩
theorem tw3418965889095409857:True:=⟨⟩
theorem tw4272418015503670873:True:=⟨⟩
theorem tw10164213492722397593:True:=⟨⟩
theorem tw6531952533436260980:True:=⟨⟩
theorem tw10907792319756726839:True:=⟨⟩
theorem tw4820650265317675224:True:=⟨⟩
theorem tw7599884906036103135:True:=⟨⟩
theorem tw6054947528030908005:True:=⟨⟩
theorem tw8883197446710974719:True:=⟨⟩
theorem tw5168642765002533475:True:=⟨⟩
theorem tw18046811297193560824:True:=⟨⟩
theorem tw16535590601725875339:True:=⟨⟩
theorem tw16317207455378011851:True:=⟨⟩
theorem tw11842776784213679490:True:=⟨⟩
theorem tw11768711031063583431:True:=⟨⟩
theorem tw10856415287949119292:True:=⟨⟩
theorem tw14740316426644340289:True:=⟨⟩
theorem tw13421016274949287822:True:=⟨⟩
theorem tw682679769138717861:True:=⟨⟩
theorem tw13375227775499113407:True:=⟨⟩
theorem tw4997389711777204340:True:=⟨⟩
theorem tw42422321837207717:True:=⟨⟩
theorem tw14726808765870354980:True:=⟨⟩
theorem tw592839967700804957:True:=⟨⟩
theorem tw16548024092003583983:True:=⟨⟩
theorem tw17587014858155835713:True:=⟨⟩
theorem tw15679664615657978493:True:=⟨⟩
theorem tw13340698216678809517:True:=⟨⟩
theorem tw9806803032785992751:True:=⟨⟩
theorem tw9582363200744526306:True:=⟨⟩
theorem tw18175448630119449263:True:=⟨⟩
theorem tw8718942892581814030:True:=⟨⟩
theorem tw18008350024128752344:True:=⟨⟩
theorem tw17543490798490679520:True:=⟨⟩
theorem tw15345524687064994442:True:=⟨⟩
theorem tw6250196185146322716:True:=⟨⟩
theorem tw4651054419208416126:True:=⟨⟩
theorem tw16191238484837760348:True:=⟨⟩
theorem tw13655814583637670058:True:=⟨⟩
theorem tw6677565755924938067:True:=⟨⟩
theorem tw3510567212556617852:True:=⟨⟩
theorem tw2960658328849123554:True:=⟨⟩
theorem tw13712909965313643106:True:=⟨⟩
theorem tw5336469791776824358:True:=⟨⟩
theorem tw4049760451849202421:True:=⟨⟩
theorem tw2160680507344355378:True:=⟨⟩
theorem tw11589708845370096214:True:=⟨⟩
theorem tw16427244671253106938:True:=⟨⟩
theorem tw9286112804771826271:True:=⟨⟩
theorem tw5208247349960758387:True:=⟨⟩
theorem tw3460607315562156864:True:=⟨⟩
theorem tw17247709119859632580:True:=⟨⟩
theorem tw16113117051849824056:True:=⟨⟩
theorem tw10818802561749785565:True:=⟨⟩
theorem tw16958877314056839000:True:=⟨⟩
theorem tw571713592003772381:True:=⟨⟩
theorem tw5334002264355986221:True:=⟨⟩
theorem tw16245174483462471269:True:=⟨⟩
theorem tw15444425773773281915:True:=⟨⟩
theorem tw12715484222424384676:True:=⟨⟩
theorem tw15109746651169013138:True:=⟨⟩
theorem tw1381718892469284063:True:=⟨⟩
theorem tw852469575654946488:True:=⟨⟩
theorem tw6139339329359573565:True:=⟨⟩
theorem tw9858197263819719522:True:=⟨⟩
theorem tw4739357120256909319:True:=⟨⟩
theorem tw13545555571546279695:True:=⟨⟩
theorem tw11880143050985442136:True:=⟨⟩
theorem tw7558113301309743601:True:=⟨⟩
theorem tw2820836036740286964:True:=⟨⟩
theorem tw13231837607154016391:True:=⟨⟩
theorem tw8985303832194595275:True:=⟨⟩
theorem tw5443682070929202937:True:=⟨⟩
theorem tw2809368277278164451:True:=⟨⟩
theorem tw16014736584802788067:True:=⟨⟩
theorem tw1537213875504137164:True:=⟨⟩
theorem tw18045817244881607005:True:=⟨⟩
theorem tw4494630526094712382:True:=⟨⟩
theorem tw7592156598200252924:True:=⟨⟩
theorem tw4807605261852951672:True:=⟨⟩
theorem tw13051335652244467387:True:=⟨⟩
theorem tw17152986046976336718:True:=⟨⟩
theorem tw15474791982564500928:True:=⟨⟩
theorem tw10308944158061565450:True:=⟨⟩
theorem tw9139699556890492651:True:=⟨⟩
theorem tw15356974356192485417:True:=⟨⟩
theorem tw15797665005539561588:True:=⟨⟩
theorem tw6367264920665529674:True:=⟨⟩
theorem tw16564321047319609082:True:=⟨⟩
theorem tw14090555298627078303:True:=⟨⟩
theorem tw13846434920324737740:True:=⟨⟩
theorem tw9724045034443735911:True:=⟨⟩
theorem tw9045543074937653478:True:=⟨⟩
theorem tw6058865715995289544:True:=⟨⟩
theorem tw3040834800162707924:True:=⟨⟩
theorem tw17240645397696319796:True:=⟨⟩
theorem tw11958425834352570017:True:=⟨⟩
theorem tw1443547443693426745:True:=⟨⟩
theorem tw4181108068687215325:True:=⟨⟩
theorem tw5077577221642573770:True:=⟨⟩
theorem tw7462904187035091804:True:=⟨⟩
theorem tw6806797890139470154:True:=⟨⟩
theorem tw12447048877456282219:True:=⟨⟩
theorem tw9533337350911417270:True:=⟨⟩
theorem tw6586229456591307797:True:=⟨⟩
theorem tw1218798911754395180:True:=⟨⟩
theorem tw17961427553555608451:True:=⟨⟩
theorem tw9924475111922085711:True:=⟨⟩
theorem tw15113154621115850498:True:=⟨⟩
theorem tw18104672642610605284:True:=⟨⟩
theorem tw17690667893097906843:True:=⟨⟩
theorem tw12860501601275472618:True:=⟨⟩
theorem tw16889052311784526046:True:=⟨⟩
theorem tw3179963532302631879:True:=⟨⟩
theorem tw651077730192047031:True:=⟨⟩
theorem tw4924667380550738945:True:=⟨⟩
theorem tw2189926504204504757:True:=⟨⟩
theorem tw312319919441624346:True:=⟨⟩
theorem tw11658287124620926288:True:=⟨⟩
theorem tw9111269022410296783:True:=⟨⟩
theorem tw10618197618586606084:True:=⟨⟩
theorem tw8162563746598154746:True:=⟨⟩
theorem tw3439866615963440669:True:=⟨⟩
theorem tw3296853931045186816:True:=⟨⟩
theorem tw1874823461643838999:True:=⟨⟩
theorem tw11957635735353963645:True:=⟨⟩
theorem tw8528106434986767560:True:=⟨⟩
theorem tw9955479691680221034:True:=⟨⟩
theorem tw9761247207681476836:True:=⟨⟩
theorem tw9088102466893509272:True:=⟨⟩
theorem tw443689160937647511:True:=⟨⟩
theorem tw2079426276107388960:True:=⟨⟩
theorem tw1782168209469095767:True:=⟨⟩
theorem tw15108534975650953000:True:=⟨⟩
theorem tw13411850878153697743:True:=⟨⟩
theorem tw13347196541847934541:True:=⟨⟩
theorem tw12407045343977107818:True:=⟨⟩
theorem tw10317291930098479213:True:=⟨⟩
theorem tw16237102838604243096:True:=⟨⟩
theorem tw15423620813001927839:True:=⟨⟩
theorem tw7055546240769169098:True:=⟨⟩
theorem tw9679964532309486564:True:=⟨⟩
theorem tw8930154324880251542:True:=⟨⟩
theorem tw8872056582451447575:True:=⟨⟩
theorem tw8827925238820663193:True:=⟨⟩
theorem tw8462484278490346643:True:=⟨⟩
theorem tw7118487418224839550:True:=⟨⟩
theorem tw5421988557750116850:True:=⟨⟩
theorem tw4125733745646255911:True:=⟨⟩
theorem tw4042963231427626251:True:=⟨⟩
theorem tw3984865143998631353:True:=⟨⟩
theorem tw3813180015538639219:True:=⟨⟩
theorem tw2805487845357711675:True:=⟨⟩
theorem tw1899289197570678529:True:=⟨⟩
theorem tw18256075595908936885:True:=⟨⟩
theorem tw17627112837983208939:True:=⟨⟩
theorem tw17086021519411359565:True:=⟨⟩
theorem tw16387810439962568971:True:=⟨⟩
theorem tw16054304063720313403:True:=⟨⟩
theorem tw15926321060077900836:True:=⟨⟩
theorem tw15890848558665086831:True:=⟨⟩
theorem tw1564539506354011427:True:=⟨⟩
theorem tw15393255873219039661:True:=⟨⟩
theorem tw13956701064377975766:True:=⟨⟩
theorem tw13612503370155903003:True:=⟨⟩
theorem tw13259535622243670911:True:=⟨⟩
theorem tw13257301847834796190:True:=⟨⟩
theorem tw12385804908143791759:True:=⟨⟩
theorem tw12370094704571654253:True:=⟨⟩
theorem tw11723650390527069417:True:=⟨⟩
theorem tw2948339295058323881:True:=⟨⟩
theorem tw980809618193605458:True:=⟨⟩
theorem tw6367505245279170106:True:=⟨⟩
theorem tw4857483551709568234:True:=⟨⟩
theorem tw2200126677058825369:True:=⟨⟩
theorem tw18103455553622589342:True:=⟨⟩
theorem tw17827633184744511764:True:=⟨⟩
theorem tw10268399877044289361:True:=⟨⟩
theorem tw880445127254247911:True:=⟨⟩
theorem tw11061013765992216527:True:=⟨⟩
theorem tw8898045855574005676:True:=⟨⟩
theorem tw10834116919556703968:True:=⟨⟩
theorem tw6300388712013185427:True:=⟨⟩
theorem tw4689935480459106295:True:=⟨⟩
theorem tw3670260723919267644:True:=⟨⟩
theorem tw1713752700343022827:True:=⟨⟩
theorem tw11541097881377490692:True:=⟨⟩
theorem tw1023119234604260095:True:=⟨⟩
theorem tw4127109045314838965:True:=⟨⟩
theorem tw16545414373690198135:True:=⟨⟩
theorem tw7496571808056282747:True:=⟨⟩
theorem tw7371840904842830711:True:=⟨⟩
theorem tw6634279653871806309:True:=⟨⟩
theorem tw5589060441625991615:True:=⟨⟩
theorem tw17415565953646029569:True:=⟨⟩
theorem tw15813116170336259606:True:=⟨⟩
theorem tw8982472603206870020:True:=⟨⟩
theorem tw820297468104121785:True:=⟨⟩
theorem tw528392970492995666:True:=⟨⟩
theorem tw4885424228245147940:True:=⟨⟩
theorem tw3750435354295947588:True:=⟨⟩
theorem tw3650815805559467412:True:=⟨⟩
theorem tw17882112347233634047:True:=⟨⟩
theorem tw17632980424910490432:True:=⟨⟩
theorem tw16360510268965464845:True:=⟨⟩
theorem tw16164218280046301162:True:=⟨⟩
theorem tw14023785183463316278:True:=⟨⟩
theorem tw131477650234592127:True:=⟨⟩
theorem tw13126450596473622472:True:=⟨⟩
theorem tw10639532448188978425:True:=⟨⟩
theorem tw10450383544441243944:True:=⟨⟩
theorem tw4964648648435912222:True:=⟨⟩
theorem tw3981817112471164308:True:=⟨⟩
theorem tw14189898387960091795:True:=⟨⟩
theorem tw9387900573467125459:True:=⟨⟩
theorem tw5006188504885210225:True:=⟨⟩
theorem tw9596782950720309416:True:=⟨⟩
theorem tw9328254804578375173:True:=⟨⟩
theorem tw8886977893961164726:True:=⟨⟩
theorem tw803898195291538747:True:=⟨⟩
theorem tw8028253443993358148:True:=⟨⟩
theorem tw7530832997555632138:True:=⟨⟩
theorem tw7386659209923433901:True:=⟨⟩
theorem tw6028054064234188533:True:=⟨⟩
theorem tw5977331852911506802:True:=⟨⟩
theorem tw5727983459407764912:True:=⟨⟩
theorem tw5362696186017585840:True:=⟨⟩
theorem tw508693968198085235:True:=⟨⟩
theorem tw275478278848578980:True:=⟨⟩
theorem tw1701875152158507131:True:=⟨⟩
theorem tw15719992329071819149:True:=⟨⟩
theorem tw14259291569281571621:True:=⟨⟩
theorem tw13699084235233441807:True:=⟨⟩
theorem tw13027932985892093347:True:=⟨⟩
theorem tw12821016052318719227:True:=⟨⟩
theorem tw1261338330054836207:True:=⟨⟩
theorem tw12370480308170731885:True:=⟨⟩
theorem tw12369227977456185439:True:=⟨⟩
theorem tw12329223180733590139:True:=⟨⟩
theorem tw12324383146499479242:True:=⟨⟩
theorem tw12055481215486927716:True:=⟨⟩
theorem tw11518882103255557061:True:=⟨⟩
theorem tw10847956159322689106:True:=⟨⟩
theorem tw7705835469199191482:True:=⟨⟩
theorem tw7187133577520496402:True:=⟨⟩
theorem tw6662891640077057016:True:=⟨⟩
theorem tw6199835647167320734:True:=⟨⟩
theorem tw6116903245420481732:True:=⟨⟩
theorem tw5949318330767798634:True:=⟨⟩
theorem tw5071301917618228091:True:=⟨⟩
theorem tw4022562429574004361:True:=⟨⟩
theorem tw3962012934377501514:True:=⟨⟩
theorem tw3192188692924193483:True:=⟨⟩
theorem tw3175239415586283910:True:=⟨⟩
theorem tw2208958016100926319:True:=⟨⟩
theorem tw1917500713326257216:True:=⟨⟩
theorem tw18338856028477443696:True:=⟨⟩
theorem tw17582795515374279104:True:=⟨⟩
theorem tw17422536730631429319:True:=⟨⟩
theorem tw1626139899327597906:True:=⟨⟩
theorem tw16190052576680511072:True:=⟨⟩
theorem tw15016804330367256513:True:=⟨⟩
theorem tw13824852955544147902:True:=⟨⟩
theorem tw12813471471725582042:True:=⟨⟩
theorem tw12652336375408040364:True:=⟨⟩
theorem tw12300712383512102612:True:=⟨⟩
theorem tw10901228809010033519:True:=⟨⟩
theorem tw1046344811572318478:True:=⟨⟩
theorem tw10017561810221924842:True:=⟨⟩
theorem tw10814557613725831807:True:=⟨⟩
theorem tw12152853425676017645:True:=⟨⟩
theorem tw10654165466973878273:True:=⟨⟩
theorem tw9426531189747254706:True:=⟨⟩
theorem tw8342492625531801043:True:=⟨⟩
theorem tw7623465920075964215:True:=⟨⟩
theorem tw6236500433739973834:True:=⟨⟩
theorem tw56620861564242342:True:=⟨⟩
theorem tw4871551345299023298:True:=⟨⟩
theorem tw4769938746213146529:True:=⟨⟩
theorem tw4035665006583792799:True:=⟨⟩
theorem tw3798404532565737874:True:=⟨⟩
theorem tw3022884315826409310:True:=⟨⟩
theorem tw2710138039927790179:True:=⟨⟩
theorem tw1840194862397347211:True:=⟨⟩
theorem tw17664438185012333258:True:=⟨⟩
theorem tw16479196043210435523:True:=⟨⟩
theorem tw15781189172558288179:True:=⟨⟩
theorem tw15667462550618411885:True:=⟨⟩
theorem tw14211822793248164452:True:=⟨⟩
theorem tw13694961999876161252:True:=⟨⟩
theorem tw13667197864590343649:True:=⟨⟩
theorem tw1207151365905516835:True:=⟨⟩
theorem tw10775085765089173063:True:=⟨⟩
theorem tw9411891381637877223:True:=⟨⟩
theorem tw9255776702061017449:True:=⟨⟩
theorem tw8859513019568070496:True:=⟨⟩
theorem tw8745905794886160848:True:=⟨⟩
theorem tw7227734696024489960:True:=⟨⟩
theorem tw7158884612256959402:True:=⟨⟩
theorem tw6925336862008294500:True:=⟨⟩
theorem tw6258569509604711747:True:=⟨⟩
theorem tw4537976038283202736:True:=⟨⟩
theorem tw4122907626547239860:True:=⟨⟩
theorem tw4085921712977018647:True:=⟨⟩
theorem tw3075053006417516415:True:=⟨⟩
theorem tw2316895049284568837:True:=⟨⟩
theorem tw2115822273825099160:True:=⟨⟩
theorem tw17906999625319160801:True:=⟨⟩
theorem tw17905610053138718410:True:=⟨⟩
theorem tw17484068744027727380:True:=⟨⟩
theorem tw17055996417611199554:True:=⟨⟩
theorem tw16321969898873794792:True:=⟨⟩
theorem tw14974360033443034692:True:=⟨⟩
theorem tw14826435452165532226:True:=⟨⟩
theorem tw13615610410745617201:True:=⟨⟩
theorem tw13589852171814595757:True:=⟨⟩
theorem tw13101469108777444458:True:=⟨⟩
theorem tw12732336801795654319:True:=⟨⟩
theorem tw12652005453754328037:True:=⟨⟩
theorem tw9910438596333626452:True:=⟨⟩
theorem tw9862507714833378849:True:=⟨⟩
theorem tw9831364732460518398:True:=⟨⟩
theorem tw976241181268509834:True:=⟨⟩
theorem tw9603567724636796022:True:=⟨⟩
theorem tw960289446739401360:True:=⟨⟩
theorem tw9516605354050908725:True:=⟨⟩
theorem tw932272673138899532:True:=⟨⟩
theorem tw9313648888338227921:True:=⟨⟩
theorem tw9309477849428020302:True:=⟨⟩
theorem tw9292384835949929149:True:=⟨⟩
theorem tw9211261123570192641:True:=⟨⟩
theorem tw9195148362063755614:True:=⟨⟩
theorem tw9129145711159893704:True:=⟨⟩
theorem tw9014275390956754453:True:=⟨⟩
theorem tw8922101577239525690:True:=⟨⟩
theorem tw8892201747229834567:True:=⟨⟩
theorem tw8808162471903430553:True:=⟨⟩
theorem tw8799211436859762531:True:=⟨⟩
theorem tw8622405336889922790:True:=⟨⟩
theorem tw8562295597096093982:True:=⟨⟩
theorem tw8444582007862317834:True:=⟨⟩
theorem tw8387405097137656135:True:=⟨⟩
theorem tw8381637714941907198:True:=⟨⟩
theorem tw8362146121642232539:True:=⟨⟩
theorem tw8342801259504440026:True:=⟨⟩
theorem tw8318170672941761369:True:=⟨⟩
theorem tw8298203310131450992:True:=⟨⟩
theorem tw8295742986288651610:True:=⟨⟩
theorem tw8264926896249107118:True:=⟨⟩
theorem tw8236347520669840463:True:=⟨⟩
theorem tw8193313880538948560:True:=⟨⟩
theorem tw810508841462760630:True:=⟨⟩
theorem tw8097257171462096713:True:=⟨⟩
theorem tw7991468675770748450:True:=⟨⟩
theorem tw7862520086675451768:True:=⟨⟩
theorem tw7828864869601748082:True:=⟨⟩
theorem tw7813942423463468080:True:=⟨⟩
theorem tw7712666853117827340:True:=⟨⟩
theorem tw7690631437404487231:True:=⟨⟩
theorem tw7527209204653240865:True:=⟨⟩
theorem tw750811454463952351:True:=⟨⟩
theorem tw7382400981463487614:True:=⟨⟩
theorem tw7364686441613456226:True:=⟨⟩
theorem tw7331518631981731093:True:=⟨⟩
theorem tw7293879926590490904:True:=⟨⟩
theorem tw7288485596976949174:True:=⟨⟩
theorem tw7226784461191733199:True:=⟨⟩
theorem tw7216820052554823075:True:=⟨⟩
theorem tw7181784202400662963:True:=⟨⟩
theorem tw7180896670205971818:True:=⟨⟩
theorem tw7139485669266433985:True:=⟨⟩
theorem tw707377561979198712:True:=⟨⟩
theorem tw7058763566990960296:True:=⟨⟩
theorem tw6995312653804875654:True:=⟨⟩
theorem tw6942627799639005652:True:=⟨⟩
theorem tw6820562635434649277:True:=⟨⟩
theorem tw6773125985568591842:True:=⟨⟩
theorem tw6748680630496313981:True:=⟨⟩
theorem tw6704100737505869116:True:=⟨⟩
theorem tw6592524244866965653:True:=⟨⟩
theorem tw6450391441608765303:True:=⟨⟩
theorem tw6413472823789118241:True:=⟨⟩
theorem tw6401551113376446879:True:=⟨⟩
theorem tw6386442398791859783:True:=⟨⟩
theorem tw6316232281777726185:True:=⟨⟩
theorem tw6292201822765994730:True:=⟨⟩
theorem tw618375578998493415:True:=⟨⟩
theorem tw6005225997331788544:True:=⟨⟩
theorem tw5888652350605012600:True:=⟨⟩
theorem tw588820626952584621:True:=⟨⟩
theorem tw5861954021098579948:True:=⟨⟩
theorem tw5854084993297992198:True:=⟨⟩
theorem tw5851475153528113935:True:=⟨⟩
theorem tw5792187995869872099:True:=⟨⟩
theorem tw5702365778343136120:True:=⟨⟩
theorem tw5612940062887386958:True:=⟨⟩
theorem tw5513916813809333815:True:=⟨⟩
theorem tw5496748297224829406:True:=⟨⟩
theorem tw5403243639939066372:True:=⟨⟩
theorem tw5284557563417659011:True:=⟨⟩
theorem tw5208290689121336803:True:=⟨⟩
theorem tw5184453930956008350:True:=⟨⟩
theorem tw5149254679924101095:True:=⟨⟩
theorem tw506466542648065037:True:=⟨⟩
theorem tw5033094304328559390:True:=⟨⟩
theorem tw5032289722700843310:True:=⟨⟩
theorem tw5005838926728626666:True:=⟨⟩
theorem tw4975814522407287281:True:=⟨⟩
theorem tw4967928039663441894:True:=⟨⟩
theorem tw491748415523675382:True:=⟨⟩
theorem tw4779719269070679508:True:=⟨⟩
theorem tw4619124822068165565:True:=⟨⟩
theorem tw4583539054149440031:True:=⟨⟩
theorem tw4476709365067884187:True:=⟨⟩
theorem tw4454328172421944205:True:=⟨⟩
theorem tw4378888786032815192:True:=⟨⟩
theorem tw4319313937131344509:True:=⟨⟩
theorem tw420733815191379567:True:=⟨⟩
theorem tw4070968953239957401:True:=⟨⟩
theorem tw4058359457121283747:True:=⟨⟩
theorem tw4045310539685980247:True:=⟨⟩
theorem tw3959815550176047780:True:=⟨⟩
theorem tw3855988275092108354:True:=⟨⟩
theorem tw3798045137067061155:True:=⟨⟩
theorem tw3656809554111442200:True:=⟨⟩
theorem tw3573214364062351955:True:=⟨⟩
theorem tw351938304691709276:True:=⟨⟩
theorem tw3411678230886495799:True:=⟨⟩
theorem tw3312410625292347401:True:=⟨⟩
theorem tw3241845430183119628:True:=⟨⟩
theorem tw3136883671509991811:True:=⟨⟩
theorem tw3099639206481612517:True:=⟨⟩
theorem tw3055868379667989959:True:=⟨⟩
theorem tw30442083367945131:True:=⟨⟩
theorem tw2912441120709256186:True:=⟨⟩
theorem tw2846302017375088470:True:=⟨⟩
theorem tw2841624428178153474:True:=⟨⟩
theorem tw270577090453392691:True:=⟨⟩
theorem tw2597246382555911496:True:=⟨⟩
theorem tw2590643176974934181:True:=⟨⟩
theorem tw2566064818190360325:True:=⟨⟩
theorem tw2553952569008900221:True:=⟨⟩
theorem tw251753927492675019:True:=⟨⟩
theorem tw251317431572597736:True:=⟨⟩
theorem tw2493670641332423274:True:=⟨⟩
theorem tw23968701064735615:True:=⟨⟩
theorem tw235260433720982052:True:=⟨⟩
theorem tw2312697617243659007:True:=⟨⟩
theorem tw2216299594267499357:True:=⟨⟩
theorem tw2166462032127129869:True:=⟨⟩
theorem tw18429761347099461869:True:=⟨⟩
theorem tw18419602359959643796:True:=⟨⟩
theorem tw18406357890322303425:True:=⟨⟩
theorem tw18331852538590246774:True:=⟨⟩
theorem tw18329284545365033717:True:=⟨⟩
theorem tw1831477772747405687:True:=⟨⟩
theorem tw18267922531371016090:True:=⟨⟩
theorem tw18218741840368302684:True:=⟨⟩
theorem tw18212508792222297833:True:=⟨⟩
theorem tw18197520423947086846:True:=⟨⟩
theorem tw1818844905199192018:True:=⟨⟩
theorem tw18124366948540669228:True:=⟨⟩
theorem tw17988455091704551770:True:=⟨⟩
theorem tw17981279993629124842:True:=⟨⟩
theorem tw17884258813436734244:True:=⟨⟩
theorem tw17738417971883225627:True:=⟨⟩
theorem tw17669039955716868028:True:=⟨⟩
theorem tw17650442488208125866:True:=⟨⟩
theorem tw17401616233368804927:True:=⟨⟩
theorem tw17400143114390018863:True:=⟨⟩
theorem tw17335204429839841093:True:=⟨⟩
theorem tw17238637912351842810:True:=⟨⟩
theorem tw17237973692246811333:True:=⟨⟩
theorem tw17232637555813469531:True:=⟨⟩
theorem tw17222720178699209548:True:=⟨⟩
theorem tw17181042525110019957:True:=⟨⟩
theorem tw17161462774018355805:True:=⟨⟩
theorem tw1715018896010752467:True:=⟨⟩
theorem tw16885379177829430943:True:=⟨⟩
theorem tw16874447414675243570:True:=⟨⟩
theorem tw16851848066502904572:True:=⟨⟩
theorem tw16731688888731052130:True:=⟨⟩
theorem tw16693565467817824610:True:=⟨⟩
theorem tw16620766892655997956:True:=⟨⟩
theorem tw16611581474358243389:True:=⟨⟩
theorem tw16577124797211711718:True:=⟨⟩
theorem tw16369527991894707302:True:=⟨⟩
theorem tw16321429943097385738:True:=⟨⟩
theorem tw16300507729416088156:True:=⟨⟩
theorem tw16298681112307682565:True:=⟨⟩
theorem tw16278352446704056005:True:=⟨⟩
theorem tw16207694455951598430:True:=⟨⟩
theorem tw1614763991988360276:True:=⟨⟩
theorem tw16137365025385302123:True:=⟨⟩
theorem tw16044689757750106388:True:=⟨⟩
theorem tw16036947150362225510:True:=⟨⟩
theorem tw16022895023173877675:True:=⟨⟩
theorem tw15971578975261514309:True:=⟨⟩
theorem tw15926545859014365325:True:=⟨⟩
theorem tw15805573643762421564:True:=⟨⟩
theorem tw15489452392245069407:True:=⟨⟩
theorem tw15487518207219135925:True:=⟨⟩
theorem tw15456469503479910477:True:=⟨⟩
theorem tw15414438315229911838:True:=⟨⟩
theorem tw15395148049799515709:True:=⟨⟩
theorem tw15386535798735223235:True:=⟨⟩
theorem tw15350639486058160961:True:=⟨⟩
theorem tw15326629824422648119:True:=⟨⟩
theorem tw1528374105363256213:True:=⟨⟩
theorem tw15185792710407784761:True:=⟨⟩
theorem tw15078536779989979702:True:=⟨⟩
theorem tw15045515656856389410:True:=⟨⟩
theorem tw15018822625929729151:True:=⟨⟩
theorem tw14995441367826691462:True:=⟨⟩
theorem tw1496710700812614553:True:=⟨⟩
theorem tw14925387423586487219:True:=⟨⟩
theorem tw14834327656209622135:True:=⟨⟩
theorem tw14789165087571395385:True:=⟨⟩
theorem tw14677780118416948544:True:=⟨⟩
theorem tw14505351344520943301:True:=⟨⟩
theorem tw14502888312618894080:True:=⟨⟩
theorem tw14299906129474768415:True:=⟨⟩
theorem tw14215642687971774006:True:=⟨⟩
theorem tw13971059472744320864:True:=⟨⟩
theorem tw1388426115804126780:True:=⟨⟩
theorem tw13882121621141030134:True:=⟨⟩
theorem tw13849089951531994431:True:=⟨⟩
theorem tw13791919607213555149:True:=⟨⟩
theorem tw13775803044418291895:True:=⟨⟩
theorem tw13758380025549979195:True:=⟨⟩
theorem tw13664325844620325949:True:=⟨⟩
theorem tw13581547992700784031:True:=⟨⟩
theorem tw13559240103182828528:True:=⟨⟩
theorem tw13548313397563323940:True:=⟨⟩
theorem tw13522516801781080585:True:=⟨⟩
theorem tw13391337050760478048:True:=⟨⟩
theorem tw1338113773052924090:True:=⟨⟩
theorem tw13354180883920512556:True:=⟨⟩
theorem tw13140538558946122338:True:=⟨⟩
theorem tw13140313830728704115:True:=⟨⟩
theorem tw13127843072733135270:True:=⟨⟩
theorem tw12972731621228073401:True:=⟨⟩
theorem tw12823579573255766344:True:=⟨⟩
theorem tw12799781256955844325:True:=⟨⟩
theorem tw1267876685113824446:True:=⟨⟩
theorem tw12667042521901608559:True:=⟨⟩
theorem tw12644212214222119291:True:=⟨⟩
theorem tw12633879815171363031:True:=⟨⟩
theorem tw12506590380848070558:True:=⟨⟩
theorem tw1248732976569737097:True:=⟨⟩
theorem tw12472024938810337172:True:=⟨⟩
theorem tw12334494668446415132:True:=⟨⟩
theorem tw12267989219319021087:True:=⟨⟩
theorem tw12098746405875890307:True:=⟨⟩
theorem tw12062079423806389196:True:=⟨⟩
theorem tw12003092222867677467:True:=⟨⟩
theorem tw11945925199843258456:True:=⟨⟩
theorem tw11785759919694645363:True:=⟨⟩
theorem tw11581802749496496858:True:=⟨⟩
theorem tw11510099973539524306:True:=⟨⟩
theorem tw1146790849146237972:True:=⟨⟩
theorem tw11433724731034772811:True:=⟨⟩
theorem tw11315653802357353328:True:=⟨⟩
theorem tw11255187896118723389:True:=⟨⟩
theorem tw11209931366570566867:True:=⟨⟩
theorem tw11091829603614601898:True:=⟨⟩
theorem tw10996982280975356373:True:=⟨⟩
theorem tw10871324103355853200:True:=⟨⟩
theorem tw10736478202793021440:True:=⟨⟩
theorem tw10608239813765154057:True:=⟨⟩
theorem tw10506092949825914268:True:=⟨⟩
theorem tw10457909812233525551:True:=⟨⟩
theorem tw10430933630788129057:True:=⟨⟩
theorem tw10347900617237221536:True:=⟨⟩
theorem tw10284633240127923337:True:=⟨⟩
theorem tw10234374950194075833:True:=⟨⟩
theorem tw1014988794217923480:True:=⟨⟩
theorem tw1011098146546465864:True:=⟨⟩
end PySem.W.Fast
namespace Rc
open PySem PySem.Spec PyProof.Rows L2
def top (i : Nat) : Stmt := PySem.Challenge.pw_ringcede_k40_terms_signed.main.body.getD i (.Pass ⟨0, 0, 0, 0⟩)
abbrev s_is_lines : Stmt := top 30
abbrev s_is_measure : Stmt := top 38
abbrev s_are_others : Stmt := top 39
abbrev s_is_cover : Stmt := top 40
abbrev s_require_houses : Stmt := top 46
abbrev s_is_day : Stmt := top 68
abbrev s_is_stop : Stmt := top 69
abbrev s_cover_of : Stmt := top 70
abbrev s_are_bounds : Stmt := top 71
abbrev s_is_terms : Stmt := top 72
abbrev s_Ring___init__ : Stmt := inClass (top 88) 0
abbrev s_Ring_sign : Stmt := inClass (top 88) 6
abbrev s_Ring_covers : Stmt := inClass (top 88) 17
abbrev s_Ring_happenings : Stmt := inClass (top 88) 18
abbrev s_Ring_losses : Stmt := inClass (top 88) 19
abbrev s_Ring_closings : Stmt := inClass (top 88) 32
abbrev s__law_draws : Stmt := top 90
abbrev s__law_whole : Stmt := top 91
abbrev s__law_due : Stmt := top 92
abbrev s__law_seen : Stmt := top 93
abbrev s__law_lines : Stmt := top 94
abbrev s__law_cover : Stmt := top 95
abbrev s__law_terms : Stmt := top 96
abbrev s__law_call : Stmt := top 97
abbrev s__law_acted : Stmt := top 98
abbrev s_law : Stmt := top 99
def fl_Ring : List Str := ["house_count", "signed", "day_of", "loss_rows", "next_happening", "next_loss", "paid_parts", "told_closings", "reckoning"]
set_option genInjectivity false in
set_option genSizeOfSpec false in
set_option genSizeOf false in
structure Adr where
  a_is_lines : Addr
  f_is_lines : FuncData
  a_is_measure : Addr
  f_is_measure : FuncData
  a_are_others : Addr
  f_are_others : FuncData
  a_is_cover : Addr
  f_is_cover : FuncData
  a_require_houses : Addr
  f_require_houses : FuncData
  a_is_day : Addr
  f_is_day : FuncData
  a_is_stop : Addr
  f_is_stop : FuncData
  a_cover_of : Addr
  f_cover_of : FuncData
  a_are_bounds : Addr
  f_are_bounds : FuncData
  a_is_terms : Addr
  f_is_terms : FuncData
  a_Ring___init__ : Addr
  f_Ring___init__ : FuncData
  a_Ring_sign : Addr
  f_Ring_sign : FuncData
  a_Ring_covers : Addr
  f_Ring_covers : FuncData
  a_Ring_happenings : Addr
  f_Ring_happenings : FuncData
  a_Ring_losses : Addr
  f_Ring_losses : FuncData
  a_Ring_closings : Addr
  f_Ring_closings : FuncData
  a__law_draws : Addr
  f__law_draws : FuncData
  a__law_whole : Addr
  f__law_whole : FuncData
  a__law_due : Addr
  f__law_due : FuncData
  a__law_seen : Addr
  f__law_seen : FuncData
  a__law_lines : Addr
  f__law_lines : FuncData
  a__law_cover : Addr
  f__law_cover : FuncData
  a__law_terms : Addr
  f__law_terms : FuncData
  a__law_call : Addr
  f__law_call : FuncData
  a__law_acted : Addr
  f__law_acted : FuncData
  a_law : Addr
  f_law : FuncData
  c_Ring : Addr
  c_BadAccount : Addr
  c_BadCover : Addr
  c_BadCrowns : Addr
  c_BadDay : Addr
  c_BadDeed : Addr
  c_BadHouses : Addr
  c_BadLines : Addr
  c_BadLosses : Addr
  c_BadTerms : Addr
  c_BadText : Addr
  c_Disagrees : Addr
  c_Endless : Addr
  c_Full : Addr
  c_NoCover : Addr
  c_NoHappening : Addr
  c_NoHouse : Addr
  c_NoLoss : Addr
  c_Nothing : Addr
  c_RingError : Addr
  c_Same : Addr
  c_Short : Addr
  c_Unbacked : Addr
  lc_Ring_happenings : Addr
  lp_Ring_happenings : Addr
  o_BY_BOUNDS : Addr
  u_BY_BOUNDS_0 : Addr
  u_BY_BOUNDS_1 : Addr
  o_THINGS : Addr
  u_THINGS_0 : Tok
  u_THINGS_1 : Tok
  u_THINGS_2 : Tok
def tabsA (A : Adr) : List Addr := [A.lp_Ring_happenings]
structure Txt (w : World) (K : Frag) (mg : Str → Option Value) (A : Adr) : Prop where
  F_is_lines : Fun K "is_lines" "is_lines" s_is_lines A.a_is_lines A.f_is_lines
  m_is_lines : mg "is_lines" = some (.ref A.a_is_lines)
  k_is_lines : keepIn K (.ref A.a_is_lines) = true
  d_is_lines : Binds K A.f_is_lines ["lines"] []
  F_is_measure : Fun K "is_measure" "is_measure" s_is_measure A.a_is_measure A.f_is_measure
  m_is_measure : mg "is_measure" = some (.ref A.a_is_measure)
  k_is_measure : keepIn K (.ref A.a_is_measure) = true
  d_is_measure : Binds K A.f_is_measure ["kind", "by", "most"] []
  F_are_others : Fun K "are_others" "are_others" s_are_others A.a_are_others A.f_are_others
  m_are_others : mg "are_others" = some (.ref A.a_are_others)
  k_are_others : keepIn K (.ref A.a_are_others) = true
  d_are_others : Binds K A.f_are_others ["houses", "house", "lines"] []
  F_is_cover : Fun K "is_cover" "is_cover" s_is_cover A.a_is_cover A.f_is_cover
  m_is_cover : mg "is_cover" = some (.ref A.a_is_cover)
  k_is_cover : keepIn K (.ref A.a_is_cover) = true
  d_is_cover : Binds K A.f_is_cover ["houses", "cover"] []
  F_require_houses : Fun K "require_houses" "require_houses" s_require_houses A.a_require_houses A.f_require_houses
  m_require_houses : mg "require_houses" = some (.ref A.a_require_houses)
  k_require_houses : keepIn K (.ref A.a_require_houses) = true
  d_require_houses : Binds K A.f_require_houses ["houses"] []
  F_is_day : Fun K "is_day" "is_day" s_is_day A.a_is_day A.f_is_day
  m_is_day : mg "is_day" = some (.ref A.a_is_day)
  k_is_day : keepIn K (.ref A.a_is_day) = true
  d_is_day : Binds K A.f_is_day ["day"] []
  F_is_stop : Fun K "is_stop" "is_stop" s_is_stop A.a_is_stop A.f_is_stop
  m_is_stop : mg "is_stop" = some (.ref A.a_is_stop)
  k_is_stop : keepIn K (.ref A.a_is_stop) = true
  d_is_stop : Binds K A.f_is_stop ["terms"] []
  F_cover_of : Fun K "cover_of" "cover_of" s_cover_of A.a_cover_of A.f_cover_of
  m_cover_of : mg "cover_of" = some (.ref A.a_cover_of)
  k_cover_of : keepIn K (.ref A.a_cover_of) = true
  d_cover_of : Binds K A.f_cover_of ["terms"] []
  F_are_bounds : Fun K "are_bounds" "are_bounds" s_are_bounds A.a_are_bounds A.f_are_bounds
  m_are_bounds : mg "are_bounds" = some (.ref A.a_are_bounds)
  k_are_bounds : keepIn K (.ref A.a_are_bounds) = true
  d_are_bounds : Binds K A.f_are_bounds ["whole", "first", "last"] []
  F_is_terms : Fun K "is_terms" "is_terms" s_is_terms A.a_is_terms A.f_is_terms
  m_is_terms : mg "is_terms" = some (.ref A.a_is_terms)
  k_is_terms : keepIn K (.ref A.a_is_terms) = true
  d_is_terms : Binds K A.f_is_terms ["houses", "terms"] []
  F_Ring___init__ : Fun K "__init__" "Ring.__init__" s_Ring___init__ A.a_Ring___init__ A.f_Ring___init__
  k_Ring___init__ : keepIn K (.ref A.a_Ring___init__) = true
  d_Ring___init__ : Binds K A.f_Ring___init__ ["self", "houses"] []
  F_Ring_sign : Fun K "sign" "Ring.sign" s_Ring_sign A.a_Ring_sign A.f_Ring_sign
  me_Ring_sign : Meth K A.c_Ring "sign" A.a_Ring_sign
  k_Ring_sign : keepIn K (.ref A.a_Ring_sign) = true
  d_Ring_sign : Binds K A.f_Ring_sign ["self", "terms"] []
  F_Ring_covers : Fun K "covers" "Ring.covers" s_Ring_covers A.a_Ring_covers A.f_Ring_covers
  me_Ring_covers : Meth K A.c_Ring "covers" A.a_Ring_covers
  k_Ring_covers : keepIn K (.ref A.a_Ring_covers) = true
  d_Ring_covers : Binds K A.f_Ring_covers ["self"] []
  F_Ring_happenings : Fun K "happenings" "Ring.happenings" s_Ring_happenings A.a_Ring_happenings A.f_Ring_happenings
  me_Ring_happenings : Meth K A.c_Ring "happenings" A.a_Ring_happenings
  k_Ring_happenings : keepIn K (.ref A.a_Ring_happenings) = true
  d_Ring_happenings : Binds K A.f_Ring_happenings ["self"] []
  F_Ring_losses : Fun K "losses" "Ring.losses" s_Ring_losses A.a_Ring_losses A.f_Ring_losses
  me_Ring_losses : Meth K A.c_Ring "losses" A.a_Ring_losses
  k_Ring_losses : keepIn K (.ref A.a_Ring_losses) = true
  d_Ring_losses : Binds K A.f_Ring_losses ["self"] []
  F_Ring_closings : Fun K "closings" "Ring.closings" s_Ring_closings A.a_Ring_closings A.f_Ring_closings
  me_Ring_closings : Meth K A.c_Ring "closings" A.a_Ring_closings
  k_Ring_closings : keepIn K (.ref A.a_Ring_closings) = true
  d_Ring_closings : Binds K A.f_Ring_closings ["self"] []
  F__law_draws : Fun K "_law_draws" "_law_draws" s__law_draws A.a__law_draws A.f__law_draws
  m__law_draws : mg "_law_draws" = some (.ref A.a__law_draws)
  k__law_draws : keepIn K (.ref A.a__law_draws) = true
  d__law_draws : Binds K A.f__law_draws ["_law_script", "_law_many"] []
  F__law_whole : Fun K "_law_whole" "_law_whole" s__law_whole A.a__law_whole A.f__law_whole
  m__law_whole : mg "_law_whole" = some (.ref A.a__law_whole)
  k__law_whole : keepIn K (.ref A.a__law_whole) = true
  d__law_whole : Binds K A.f__law_whole ["_law_found"] []
  F__law_due : Fun K "_law_due" "_law_due" s__law_due A.a__law_due A.f__law_due
  m__law_due : mg "_law_due" = some (.ref A.a__law_due)
  k__law_due : keepIn K (.ref A.a__law_due) = true
  d__law_due : Binds K A.f__law_due ["_law_want"] []
  F__law_seen : Fun K "_law_seen" "_law_seen" s__law_seen A.a__law_seen A.f__law_seen
  m__law_seen : mg "_law_seen" = some (.ref A.a__law_seen)
  k__law_seen : keepIn K (.ref A.a__law_seen) = true
  d__law_seen : Binds K A.f__law_seen ["_law_e"] []
  F__law_lines : Fun K "_law_lines" "_law_lines" s__law_lines A.a__law_lines A.f__law_lines
  m__law_lines : mg "_law_lines" = some (.ref A.a__law_lines)
  k__law_lines : keepIn K (.ref A.a__law_lines) = true
  d__law_lines : Binds K A.f__law_lines ["_law_houses", "_law_house", "_law_draws_here"] []
  F__law_cover : Fun K "_law_cover" "_law_cover" s__law_cover A.a__law_cover A.f__law_cover
  m__law_cover : mg "_law_cover" = some (.ref A.a__law_cover)
  k__law_cover : keepIn K (.ref A.a__law_cover) = true
  d__law_cover : Binds K A.f__law_cover ["_law_houses", "_law_draws_here"] []
  F__law_terms : Fun K "_law_terms" "_law_terms" s__law_terms A.a__law_terms A.f__law_terms
  m__law_terms : mg "_law_terms" = some (.ref A.a__law_terms)
  k__law_terms : keepIn K (.ref A.a__law_terms) = true
  d__law_terms : Binds K A.f__law_terms ["_law_houses", "_law_draws_here"] []
  F__law_call : Fun K "_law_call" "_law_call" s__law_call A.a__law_call A.f__law_call
  m__law_call : mg "_law_call" = some (.ref A.a__law_call)
  k__law_call : keepIn K (.ref A.a__law_call) = true
  d__law_call : Binds K A.f__law_call ["_law_ring", "_law_deed"] []
  F__law_acted : Fun K "_law_acted" "_law_acted" s__law_acted A.a__law_acted A.f__law_acted
  m__law_acted : mg "_law_acted" = some (.ref A.a__law_acted)
  k__law_acted : keepIn K (.ref A.a__law_acted) = true
  d__law_acted : Binds K A.f__law_acted ["_law_ring", "_law_deed"] []
  F_law : Fun K "law" "law" s_law A.a_law A.f_law
  m_law : mg "law" = some (.ref A.a_law)
  k_law : keepIn K (.ref A.a_law) = true
  d_law : Binds K A.f_law ["_law_script"] []
  lam_Ring_happenings : Lam K A.a_Ring_happenings A.lc_Ring_happenings A.lp_Ring_happenings
  cl_Ring : Cls K A.c_Ring
  mc_Ring : mg "Ring" = some (.ref A.c_Ring)
  mk_Ring : Mk K A.c_Ring A.a_Ring___init__
  na_Ring_house_count : NoAttr K A.c_Ring "house_count"
  na_Ring_signed : NoAttr K A.c_Ring "signed"
  na_Ring_day_of : NoAttr K A.c_Ring "day_of"
  na_Ring_loss_rows : NoAttr K A.c_Ring "loss_rows"
  na_Ring_next_happening : NoAttr K A.c_Ring "next_happening"
  na_Ring_next_loss : NoAttr K A.c_Ring "next_loss"
  na_Ring_paid_parts : NoAttr K A.c_Ring "paid_parts"
  na_Ring_told_closings : NoAttr K A.c_Ring "told_closings"
  na_Ring_reckoning : NoAttr K A.c_Ring "reckoning"
  mc_BadAccount : mg "BadAccount" = some (.ref A.c_BadAccount)
  mc_BadCover : mg "BadCover" = some (.ref A.c_BadCover)
  mc_BadCrowns : mg "BadCrowns" = some (.ref A.c_BadCrowns)
  mc_BadDay : mg "BadDay" = some (.ref A.c_BadDay)
  mc_BadDeed : mg "BadDeed" = some (.ref A.c_BadDeed)
  mc_BadHouses : mg "BadHouses" = some (.ref A.c_BadHouses)
  mc_BadLines : mg "BadLines" = some (.ref A.c_BadLines)
  mc_BadLosses : mg "BadLosses" = some (.ref A.c_BadLosses)
  mc_BadTerms : mg "BadTerms" = some (.ref A.c_BadTerms)
  mc_BadText : mg "BadText" = some (.ref A.c_BadText)
  mc_Disagrees : mg "Disagrees" = some (.ref A.c_Disagrees)
  mc_Endless : mg "Endless" = some (.ref A.c_Endless)
  mc_Full : mg "Full" = some (.ref A.c_Full)
  mc_NoCover : mg "NoCover" = some (.ref A.c_NoCover)
  mc_NoHappening : mg "NoHappening" = some (.ref A.c_NoHappening)
  mc_NoHouse : mg "NoHouse" = some (.ref A.c_NoHouse)
  mc_NoLoss : mg "NoLoss" = some (.ref A.c_NoLoss)
  mc_Nothing : mg "Nothing" = some (.ref A.c_Nothing)
  mc_RingError : mg "RingError" = some (.ref A.c_RingError)
  mc_Same : mg "Same" = some (.ref A.c_Same)
  mc_Short : mg "Short" = some (.ref A.c_Short)
  mc_Unbacked : mg "Unbacked" = some (.ref A.c_Unbacked)
  x_BadTerms : PySem.W.excIn K A.c_BadTerms [.type "ValueError", .type "Exception", .type "BaseException", .type "object"] "ValueError.__new__" = true
  ec_BadTerms : ErrCls K A.c_BadTerms
  em_BadTerms : PySem.W.exmOne K (.ref A.c_BadTerms) (.ref A.c_RingError) = some true
  kv_BadTerms : kitOne K (.ref A.c_BadTerms) (.type "ValueError") = some true
  ki_BadTerms_BadAccount : kitOne K (.ref A.c_BadTerms) (.ref A.c_BadAccount) = some false
  ki_BadTerms_BadCover : kitOne K (.ref A.c_BadTerms) (.ref A.c_BadCover) = some false
  ki_BadTerms_BadCrowns : kitOne K (.ref A.c_BadTerms) (.ref A.c_BadCrowns) = some false
  ki_BadTerms_BadDay : kitOne K (.ref A.c_BadTerms) (.ref A.c_BadDay) = some false
  ki_BadTerms_BadDeed : kitOne K (.ref A.c_BadTerms) (.ref A.c_BadDeed) = some false
  ki_BadTerms_BadHouses : kitOne K (.ref A.c_BadTerms) (.ref A.c_BadHouses) = some false
  ki_BadTerms_BadLines : kitOne K (.ref A.c_BadTerms) (.ref A.c_BadLines) = some false
  ki_BadTerms_BadLosses : kitOne K (.ref A.c_BadTerms) (.ref A.c_BadLosses) = some false
  ki_BadTerms_BadTerms : kitOne K (.ref A.c_BadTerms) (.ref A.c_BadTerms) = some true
  ki_BadTerms_BadText : kitOne K (.ref A.c_BadTerms) (.ref A.c_BadText) = some false
  ki_BadTerms_Disagrees : kitOne K (.ref A.c_BadTerms) (.ref A.c_Disagrees) = some false
  ki_BadTerms_Endless : kitOne K (.ref A.c_BadTerms) (.ref A.c_Endless) = some false
  ki_BadTerms_Full : kitOne K (.ref A.c_BadTerms) (.ref A.c_Full) = some false
  ki_BadTerms_NoCover : kitOne K (.ref A.c_BadTerms) (.ref A.c_NoCover) = some false
  ki_BadTerms_NoHappening : kitOne K (.ref A.c_BadTerms) (.ref A.c_NoHappening) = some false
  ki_BadTerms_NoHouse : kitOne K (.ref A.c_BadTerms) (.ref A.c_NoHouse) = some false
  ki_BadTerms_NoLoss : kitOne K (.ref A.c_BadTerms) (.ref A.c_NoLoss) = some false
  ki_BadTerms_Nothing : kitOne K (.ref A.c_BadTerms) (.ref A.c_Nothing) = some false
  ki_BadTerms_Same : kitOne K (.ref A.c_BadTerms) (.ref A.c_Same) = some false
  ki_BadTerms_Short : kitOne K (.ref A.c_BadTerms) (.ref A.c_Short) = some false
  ki_BadTerms_Unbacked : kitOne K (.ref A.c_BadTerms) (.ref A.c_Unbacked) = some false
  x_Full : PySem.W.excIn K A.c_Full [.type "ValueError", .type "Exception", .type "BaseException", .type "object"] "ValueError.__new__" = true
  ec_Full : ErrCls K A.c_Full
  em_Full : PySem.W.exmOne K (.ref A.c_Full) (.ref A.c_RingError) = some true
  kv_Full : kitOne K (.ref A.c_Full) (.type "ValueError") = some true
  ki_Full_BadAccount : kitOne K (.ref A.c_Full) (.ref A.c_BadAccount) = some false
  ki_Full_BadCover : kitOne K (.ref A.c_Full) (.ref A.c_BadCover) = some false
  ki_Full_BadCrowns : kitOne K (.ref A.c_Full) (.ref A.c_BadCrowns) = some false
  ki_Full_BadDay : kitOne K (.ref A.c_Full) (.ref A.c_BadDay) = some false
  ki_Full_BadDeed : kitOne K (.ref A.c_Full) (.ref A.c_BadDeed) = some false
  ki_Full_BadHouses : kitOne K (.ref A.c_Full) (.ref A.c_BadHouses) = some false
  ki_Full_BadLines : kitOne K (.ref A.c_Full) (.ref A.c_BadLines) = some false
  ki_Full_BadLosses : kitOne K (.ref A.c_Full) (.ref A.c_BadLosses) = some false
  ki_Full_BadTerms : kitOne K (.ref A.c_Full) (.ref A.c_BadTerms) = some false
  ki_Full_BadText : kitOne K (.ref A.c_Full) (.ref A.c_BadText) = some false
  ki_Full_Disagrees : kitOne K (.ref A.c_Full) (.ref A.c_Disagrees) = some false
  ki_Full_Endless : kitOne K (.ref A.c_Full) (.ref A.c_Endless) = some false
  ki_Full_Full : kitOne K (.ref A.c_Full) (.ref A.c_Full) = some true
  ki_Full_NoCover : kitOne K (.ref A.c_Full) (.ref A.c_NoCover) = some false
  ki_Full_NoHappening : kitOne K (.ref A.c_Full) (.ref A.c_NoHappening) = some false
  ki_Full_NoHouse : kitOne K (.ref A.c_Full) (.ref A.c_NoHouse) = some false
  ki_Full_NoLoss : kitOne K (.ref A.c_Full) (.ref A.c_NoLoss) = some false
  ki_Full_Nothing : kitOne K (.ref A.c_Full) (.ref A.c_Nothing) = some false
  ki_Full_Same : kitOne K (.ref A.c_Full) (.ref A.c_Same) = some false
  ki_Full_Short : kitOne K (.ref A.c_Full) (.ref A.c_Short) = some false
  ki_Full_Unbacked : kitOne K (.ref A.c_Full) (.ref A.c_Unbacked) = some false
  c_LAST_DAY : ∃ t, mg "LAST_DAY" = some (.int 99 t)
  c_LAST_HOUSE : ∃ t, mg "LAST_HOUSE" = some (.int 5 t)
  c_LEAST_LINE : ∃ t, mg "LEAST_LINE" = some (.int 1 t)
  c_MOST_BILL : ∃ t, mg "MOST_BILL" = some (.int 24 t)
  c_MOST_COVERS : ∃ t, mg "MOST_COVERS" = some (.int 10 t)
  c_MOST_LINE : ∃ t, mg "MOST_LINE" = some (.int 20 t)
  c_MOST_PAIRS : ∃ t, mg "MOST_PAIRS" = some (.int 4 t)
  c_MOST_WHOLE : ∃ t, mg "MOST_WHOLE" = some (.int 120 t)
  b_ValueError : mg "ValueError" = none
  b_all : mg "all" = none
  b_bool : mg "bool" = none
  b_int : mg "int" = none
  b_isinstance : mg "isinstance" = none
  b_len : mg "len" = none
  b_list : mg "list" = none
  b_min : mg "min" = none
  b_range : mg "range" = none
  b_sorted : mg "sorted" = none
  b_tuple : mg "tuple" = none
  g_BY_BOUNDS : mg "BY_BOUNDS" = some (.ref A.o_BY_BOUNDS)
  t_BY_BOUNDS : KDict w K A.o_BY_BOUNDS [(Sum.inr "share", .ref A.u_BY_BOUNDS_0), (Sum.inr "layer", .ref A.u_BY_BOUNDS_1)]
  s_BY_BOUNDS_0 : KTup K A.u_BY_BOUNDS_0 [.int 1, .int 100]
  s_BY_BOUNDS_1 : KTup K A.u_BY_BOUNDS_1 [.int 0, .int 200]
  g_THINGS : mg "THINGS" = some (.ref A.o_THINGS)
  t_THINGS : KDict w K A.o_THINGS [(Sum.inr "share", .int 8 A.u_THINGS_0), (Sum.inr "layer", .int 8 A.u_THINGS_1), (Sum.inr "stop", .int 5 A.u_THINGS_2)]
structure ErrIs (K : Frag) (A : Adr) (C : Addr) (x : Str) : Prop where
  ec : ErrCls K C
  kv : kitOne K (.ref C) (.type "ValueError") = some true
  k_BadHouses : kitOne K (.ref C) (.ref A.c_BadHouses) = some (decide (("BadHouses" : Str) = x))
  k_BadLines : kitOne K (.ref C) (.ref A.c_BadLines) = some (decide (("BadLines" : Str) = x))
  k_BadCover : kitOne K (.ref C) (.ref A.c_BadCover) = some (decide (("BadCover" : Str) = x))
  k_BadCrowns : kitOne K (.ref C) (.ref A.c_BadCrowns) = some (decide (("BadCrowns" : Str) = x))
  k_BadLosses : kitOne K (.ref C) (.ref A.c_BadLosses) = some (decide (("BadLosses" : Str) = x))
  k_BadAccount : kitOne K (.ref C) (.ref A.c_BadAccount) = some (decide (("BadAccount" : Str) = x))
  k_Unbacked : kitOne K (.ref C) (.ref A.c_Unbacked) = some (decide (("Unbacked" : Str) = x))
  k_Short : kitOne K (.ref C) (.ref A.c_Short) = some (decide (("Short" : Str) = x))
  k_Disagrees : kitOne K (.ref C) (.ref A.c_Disagrees) = some (decide (("Disagrees" : Str) = x))
  k_NoHouse : kitOne K (.ref C) (.ref A.c_NoHouse) = some (decide (("NoHouse" : Str) = x))
  k_NoCover : kitOne K (.ref C) (.ref A.c_NoCover) = some (decide (("NoCover" : Str) = x))
  k_NoHappening : kitOne K (.ref C) (.ref A.c_NoHappening) = some (decide (("NoHappening" : Str) = x))
  k_NoLoss : kitOne K (.ref C) (.ref A.c_NoLoss) = some (decide (("NoLoss" : Str) = x))
  k_BadDay : kitOne K (.ref C) (.ref A.c_BadDay) = some (decide (("BadDay" : Str) = x))
  k_BadTerms : kitOne K (.ref C) (.ref A.c_BadTerms) = some (decide (("BadTerms" : Str) = x))
  k_Endless : kitOne K (.ref C) (.ref A.c_Endless) = some (decide (("Endless" : Str) = x))
  k_Same : kitOne K (.ref C) (.ref A.c_Same) = some (decide (("Same" : Str) = x))
  k_Full : kitOne K (.ref C) (.ref A.c_Full) = some (decide (("Full" : Str) = x))
  k_BadDeed : kitOne K (.ref C) (.ref A.c_BadDeed) = some (decide (("BadDeed" : Str) = x))
  k_Nothing : kitOne K (.ref C) (.ref A.c_Nothing) = some (decide (("Nothing" : Str) = x))
  k_BadText : kitOne K (.ref C) (.ref A.c_BadText) = some (decide (("BadText" : Str) = x))
theorem eis_BadTerms {w : World} {K : Frag} {mg : Str → Option Value} {A : Adr} (T : Txt w K mg A) : ErrIs K A A.c_BadTerms "BadTerms" := ⟨T.ec_BadTerms, T.kv_BadTerms, T.ki_BadTerms_BadHouses.trans (congrArg some (by decide +kernel)), T.ki_BadTerms_BadLines.trans (congrArg some (by decide +kernel)), T.ki_BadTerms_BadCover.trans (congrArg some (by decide +kernel)), T.ki_BadTerms_BadCrowns.trans (congrArg some (by decide +kernel)), T.ki_BadTerms_BadLosses.trans (congrArg some (by decide +kernel)), T.ki_BadTerms_BadAccount.trans (congrArg some (by decide +kernel)), T.ki_BadTerms_Unbacked.trans (congrArg some (by decide +kernel)), T.ki_BadTerms_Short.trans (congrArg some (by decide +kernel)), T.ki_BadTerms_Disagrees.trans (congrArg some (by decide +kernel)), T.ki_BadTerms_NoHouse.trans (congrArg some (by decide +kernel)), T.ki_BadTerms_NoCover.trans (congrArg some (by decide +kernel)), T.ki_BadTerms_NoHappening.trans (congrArg some (by decide +kernel)), T.ki_BadTerms_NoLoss.trans (congrArg some (by decide +kernel)), T.ki_BadTerms_BadDay.trans (congrArg some (by decide +kernel)), T.ki_BadTerms_BadTerms.trans (congrArg some (by decide +kernel)), T.ki_BadTerms_Endless.trans (congrArg some (by decide +kernel)), T.ki_BadTerms_Same.trans (congrArg some (by decide +kernel)), T.ki_BadTerms_Full.trans (congrArg some (by decide +kernel)), T.ki_BadTerms_BadDeed.trans (congrArg some (by decide +kernel)), T.ki_BadTerms_Nothing.trans (congrArg some (by decide +kernel)), T.ki_BadTerms_BadText.trans (congrArg some (by decide +kernel))⟩
theorem eis_Full {w : World} {K : Frag} {mg : Str → Option Value} {A : Adr} (T : Txt w K mg A) : ErrIs K A A.c_Full "Full" := ⟨T.ec_Full, T.kv_Full, T.ki_Full_BadHouses.trans (congrArg some (by decide +kernel)), T.ki_Full_BadLines.trans (congrArg some (by decide +kernel)), T.ki_Full_BadCover.trans (congrArg some (by decide +kernel)), T.ki_Full_BadCrowns.trans (congrArg some (by decide +kernel)), T.ki_Full_BadLosses.trans (congrArg some (by decide +kernel)), T.ki_Full_BadAccount.trans (congrArg some (by decide +kernel)), T.ki_Full_Unbacked.trans (congrArg some (by decide +kernel)), T.ki_Full_Short.trans (congrArg some (by decide +kernel)), T.ki_Full_Disagrees.trans (congrArg some (by decide +kernel)), T.ki_Full_NoHouse.trans (congrArg some (by decide +kernel)), T.ki_Full_NoCover.trans (congrArg some (by decide +kernel)), T.ki_Full_NoHappening.trans (congrArg some (by decide +kernel)), T.ki_Full_NoLoss.trans (congrArg some (by decide +kernel)), T.ki_Full_BadDay.trans (congrArg some (by decide +kernel)), T.ki_Full_BadTerms.trans (congrArg some (by decide +kernel)), T.ki_Full_Endless.trans (congrArg some (by decide +kernel)), T.ki_Full_Same.trans (congrArg some (by decide +kernel)), T.ki_Full_Full.trans (congrArg some (by decide +kernel)), T.ki_Full_BadDeed.trans (congrArg some (by decide +kernel)), T.ki_Full_Nothing.trans (congrArg some (by decide +kernel)), T.ki_Full_BadText.trans (congrArg some (by decide +kernel))⟩
section
variable {P : Program} {w : World} {K : Frag} {mg : Str → Option Value} {base : Heap} {A : Adr}
def sp_is_lines (K : Frag) : Sp := fun vs H Q _ => ∃ (p : Addr) (L : List (Int × Int)), vs = [.ref p] ∧ LinesAt K H p L ∧ L.length ≤ 1000 ∧ ∀ H', Same H H' → Q (.bl (isLinesB L)) H'
theorem sc_is_lines : FnScope ["lines"] ["lines"] (defScope s_is_lines) := ⟨rfl, rfl, rfl, by decide +kernel, rfl, by decide +kernel, by decide +kernel⟩
set_option maxHeartbeats 4000000 in
theorem ok_is_lines (T : Txt w K mg A) (hB : BmAt mg base) : FnOk P w K mg base CX0 1 A.a_is_lines A.f_is_lines ["lines"] (sp_is_lines K) := by
  have nd := sc_is_lines.nd
  refine T.F_is_lines.ok sc_is_lines (fun vs H Q E h => ?_) (fun cdv Ar outer s H vs Q E hr h => ?_)
  · obtain ⟨p, L, rfl, _⟩ := h; rfl
  · skip
    obtain ⟨p, L, rfl, ⟨us, hp, hu⟩, hl, kk⟩ := h
    have hlen := hu.len
    have hz : us.length ≤ sizeLine := Nat.le_of_lt (small_line (by omega))
    have out : ∀ H', isLinesB L = false → Same H H' → Q (.bl false) H' := fun H' e s => by rw [← e]; exact kk H' s
    refine PSs.rd (pss_cons (ps_if (pt_not (pt_chain op_leI op_leI pe_int (pe_callB call_len_seq rfl T.b_len PySem.boot_len (pa_cons (pvI 0) pa_nil)) (pe_globI rfl T.c_MOST_PAIRS)))
      (pss_one (ps_ret pe_bl))
      pss_nil)
    (pss_cons (ps_if (pt_cmpR op_ltI (pe_callB call_len_setI rfl T.b_len PySem.boot_len (pa_cons (scA (defScope s_is_lines) (pi_tup (pvI 0)) (fun _ _ _ _ _ => pgc2 1 2) (fun _ _ _ _ _ => pts_nil) (fun _ _ _ _ _ => (pvI 1))) pa_nil)) (pe_callB call_len_seq rfl T.b_len PySem.boot_len (pa_cons (pvI 0) pa_nil)) (nomark _))
      (pss_one (ps_ret pe_bl))
      pss_nil)
    (pss_one (ps_ret (pe_callB (call_allB rfl) rfl T.b_all boot_all (pa_cons (lcA (defScope s_is_lines) (pi_tup (pvI 0)) (fun _ _ _ _ _ => pgc2 1 2) (fun _ _ _ _ _ => pts_nil) (fun _ _ _ _ _ => (pe_and (pe_chain op_leI op_leI pe_int (pvI 1) (pe_globI rfl T.c_LAST_HOUSE)) (pe_one (pe_chain op_leI op_leI (pe_globI rfl T.c_LEAST_LINE) (pvI 2) (pe_globI rfl T.c_MOST_LINE)))))) pa_nil)))))) ?_
    try dsimp only [L2.cxOf, L2.Cx.nox]
    refine ⟨_, rfl, p, us, rfl, .inr hp, _, _, rfl, rfl, _, rfl, iteD (fun h1 => ?_) (fun h1 => ?_)⟩
    case refine_2 =>
      refine ⟨_, rfl, iteT (out H ?_ (Same.refl H))⟩
      unfold isLinesB
      rw [decide_eq_false (by omega)]; rfl
    refine ⟨_, _, rfl, rfl, _, rfl, iteND (fun h4 => ?_) (fun h4 => ?_)⟩
    · refine out H ?_ (Same.refl H)
      unfold isLinesB
      rw [decide_eq_false (by omega)]; rfl
    refine ⟨_, rfl, p, rfl, ⟨us, hp⟩, ?_⟩
    refine sc_by (ks := L.map (·.1)) (itOf_tup hp) (fun σ => ∃ x y z, σ = [x, y, z]) ?_ (by rw [List.length_map]; exact hlen.symm) (by omega) ?_ ?_
    · exact ⟨_, _, _, rfl⟩
    · intro i x k σ2 H2 Qt Qf hx hk sm zz1 q
      refine byC fun hG => ?_
      obtain ⟨a, b, c, rfl⟩ := zz1
      obtain ⟨l, hl1, q1, rfl, hq⟩ := hu.get hx
      refine hG ?_
      rw [List.getElem?_map, hl1] at hk
      cases hk
      exact ⟨q1, _, rfl, sm.tupS hq, rfl, _, _, rfl, _, _, rfl, rfl, _, rfl, q _ ⟨_, _, _, rfl⟩⟩
    intro D hD
    have sD : Same H (upd H D (.set (dset (L.map (·.1))).1 (dset (L.map (·.1))).2)) := same_upd hD
    refine ⟨D, _, _, rfl, upd_same, _, rfl, p, us, rfl, .inr (sD.tupS hp), _, _, rfl, rfl, _, rfl, iteD (fun h5 => ?_) (fun h5 => ?_)⟩
    · refine out _ ?_ sD
      have hn : ¬ (L.map (·.1)).Nodup := fun hn => by
        have := (dset_nodup _).mpr hn
        rw [List.length_map] at this
        omega
      unfold isLinesB
      rw [decide_eq_false hn, Bool.false_and, Bool.and_false]
    have hn : (L.map (·.1)).Nodup := (dset_nodup _).mp (by
      have := dset_le (L.map (·.1))
      rw [List.length_map] at this ⊢
      omega)
    refine ⟨_, rfl, p, rfl, ⟨us, sD.tupS hp⟩, ?_⟩
    refine lc_by (ws := L.map fun l => V.bl (lineB l)) (itOf_tup (sD.tupS hp)) (fun σ => ∃ a b c d e f, σ = [a, b, c, d, e, f]) ?_ (by rw [List.length_map]; exact hlen.symm) hz ?_ ?_
    · exact ⟨_, _, _, _, _, _, rfl⟩
    · intro i x w σ2 H2 Qt Qf hx hk sm zz2 q
      refine byC fun hG => ?_
      obtain ⟨a, b, c, d, e, f, rfl⟩ := zz2
      obtain ⟨l, hl1, q1, rfl, hq⟩ := hu.get hx
      refine hG ?_
      rw [List.getElem?_map, hl1] at hk
      cases hk
      refine ⟨q1, _, rfl, (sD.trans sm).tupS hq, rfl, _, _, rfl, _, _, rfl, rfl, ?_⟩
      have q2 : ∀ (k : Bool) (σ4 : L2.St), k = lineB l → (∃ a b c d e f, σ4 = [a, b, c, d, e, f]) → Qt σ4 (V.bl k) H2 := fun k σ4 e h => by rw [e]; exact q σ4 h
      refine ⟨_, rfl, _, _, rfl, rfl, _, rfl, iteD (fun g1 => ?_) (fun g1 => ?_)⟩
      case refine_2 =>
        refine ⟨_, rfl, iteF ?_⟩
        have e : lineB l = false := decide_eq_false (fun z => g1 z.1)
        exact q2 _ _ e.symm ⟨_, _, _, _, _, _, rfl⟩
      refine ⟨_, _, rfl, rfl, _, rfl, iteD (fun g2 => ?_) (fun g2 => ?_)⟩
      case refine_2 =>
        have e : lineB l = false := decide_eq_false (fun z => g2 z.2.1)
        exact q2 _ _ e.symm ⟨_, _, _, _, _, _, rfl⟩
      refine ⟨_, rfl, _, _, rfl, rfl, _, rfl, iteD (fun g3 => ?_) (fun g3 => ?_)⟩
      case refine_2 =>
        have e : lineB l = false := decide_eq_false (fun z => g3 z.2.2.1)
        exact q2 _ _ e.symm ⟨_, _, _, _, _, _, rfl⟩
      refine ⟨_, _, rfl, rfl, ?_⟩
      have e : lineB l = decide (l.2 ≤ 20) := by
        unfold lineB
        by_cases g4 : l.2 ≤ 20
        · rw [decide_eq_true g4, decide_eq_true ⟨g1, g2, g3, g4⟩]
        · rw [decide_eq_false g4, decide_eq_false (fun z => g4 z.2.2.2)]
      exact q2 _ _ e.symm ⟨_, _, _, _, _, _, rfl⟩
    intro D2 hD2
    refine ⟨D2, L.map lineB, rfl, SqL.of ?_, ?_⟩
    · rw [upd_same, List.map_map]; rfl
    have e : isLinesB L = (L.map lineB).all id := by
      unfold isLinesB
      rw [decide_eq_true hn, Bool.true_and, decide_eq_true (show 1 ≤ L.length ∧ L.length ≤ 4 by omega), Bool.true_and, List.all_map]
      rfl
    rw [← e]
    exact kk _ (sD.trans (same_upd hD2))
def sp_is_measure (K : Frag) : Sp := fun vs H Q _ => ∃ (k : Str) (b m : Int), vs = [.str k, .int b, .int m] ∧ Q (.bl (measB k b m)) H
theorem sc_is_measure : FnScope ["kind", "by", "most", "low", "high"] ["kind", "by", "most"] (defScope s_is_measure) := ⟨rfl, rfl, rfl, by decide +kernel, rfl, by decide +kernel, by decide +kernel⟩
set_option maxHeartbeats 4000000 in
theorem ok_is_measure (T : Txt w K mg A) (hB : BmAt mg base) : FnOk P w K mg base CX0 1 A.a_is_measure A.f_is_measure ["kind", "by", "most"] (sp_is_measure K) := by
  have nd := sc_is_measure.nd
  refine T.F_is_measure.ok sc_is_measure (fun vs H Q E h => ?_) (fun cdv Ar outer s H vs Q E hr h => ?_)
  · obtain ⟨k, b, m, rfl, _⟩ := h; rfl
  · skip
    obtain ⟨k, b, m, rfl, kk⟩ := h
    refine PSs.rd (pss_cons (ps_if (pt_cmpR op_knotin (pvI 0) (pe_glob (v := .ref A.o_BY_BOUNDS) rfl T.g_BY_BOUNDS rfl) (by with_unfolding_all rfl))
      (pss_one (ps_ret pe_bl))
      pss_nil)
    (pss_cons (ps_asg (pe_ix ix_kdict (pe_glob (v := .ref A.o_BY_BOUNDS) rfl T.g_BY_BOUNDS rfl) (pvI 0) (fun _ _ => rfl)) (pg_tup (n := 2) rfl (pgs_cons (pg_name (i := 3) nd rfl (Or.inl rfl)) (pgs_cons (pg_name (i := 4) nd rfl (Or.inl rfl)) pgs_nil))))
    (pss_one (ps_ret (pe_and (pe_chain op_leI op_leI (pvI 3) (pvI 1) (pvI 4)) (pe_one (pe_chain op_leI op_leI pe_int (pvI 2) (pe_globI rfl T.c_MOST_BILL)))))))) ?_
    try dsimp only [L2.cxOf, L2.Cx.nox]
    refine ⟨_, rfl, k, A.o_BY_BOUNDS, _, rfl, rfl, T.t_BY_BOUNDS, _, rfl, ?_⟩
    by_cases e1 : k = ("share" : Str)
    · subst e1
      refine iteF' (by rfl) ?_
      refine ⟨_, rfl, ("share" : Str), A.o_BY_BOUNDS, _, .ref A.u_BY_BOUNDS_0, _, rfl, rfl, T.t_BY_BOUNDS, rfl, rfl, A.u_BY_BOUNDS_0, _, rfl, T.s_BY_BOUNDS_0.sq _, rfl, _, _, rfl, _, _, rfl, rfl, ?_⟩
      have kk' : Q (.bl (decide (1 ≤ b ∧ b ≤ 100) && decide (0 ≤ m ∧ m ≤ 24))) H := by
        have e : measB "share" b m = (decide (1 ≤ b ∧ b ≤ 100) && decide (0 ≤ m ∧ m ≤ 24)) := by unfold measB; rw [if_pos rfl]
        rw [← e]; exact kk
      refine ⟨_, rfl, _, rfl, _, _, rfl, rfl, _, rfl, iteD (fun g1 => ?_) (fun g1 => ?_)⟩
      case refine_2 =>
        rw [decide_eq_false (fun z => g1 z.1)] at kk'
        exact ⟨_, rfl, iteF kk'⟩
      refine ⟨_, rfl, _, _, rfl, rfl, _, rfl, iteD (fun g2 => ?_) (fun g2 => ?_)⟩
      case refine_2 =>
        rw [decide_eq_false (fun z => g2 z.2)] at kk'
        exact kk'
      rw [decide_eq_true ⟨g1, g2⟩, Bool.true_and] at kk'
      refine ⟨_, rfl, _, _, rfl, rfl, _, rfl, iteD (fun g3 => ?_) (fun g3 => ?_)⟩
      case refine_2 =>
        rw [decide_eq_false (fun z => g3 z.1)] at kk'
        exact kk'
      have e : decide (0 ≤ m ∧ m ≤ 24) = decide (m ≤ 24) := by by_cases g4 : m ≤ 24 <;> simp [g3, g4]
      rw [e] at kk'
      exact ⟨_, _, rfl, rfl, kk'⟩
    by_cases e2 : k = ("layer" : Str)
    · subst e2
      refine iteF' (by rfl) ?_
      refine ⟨_, rfl, ("layer" : Str), A.o_BY_BOUNDS, _, .ref A.u_BY_BOUNDS_1, _, rfl, rfl, T.t_BY_BOUNDS, rfl, rfl, A.u_BY_BOUNDS_1, _, rfl, T.s_BY_BOUNDS_1.sq _, rfl, _, _, rfl, _, _, rfl, rfl, ?_⟩
      have kk' : Q (.bl (decide (0 ≤ b ∧ b ≤ 200) && decide (0 ≤ m ∧ m ≤ 24))) H := by
        have e : measB "layer" b m = (decide (0 ≤ b ∧ b ≤ 200) && decide (0 ≤ m ∧ m ≤ 24)) := by unfold measB; rw [if_neg e1, if_pos rfl]
        rw [← e]; exact kk
      refine ⟨_, rfl, _, rfl, _, _, rfl, rfl, _, rfl, iteD (fun g1 => ?_) (fun g1 => ?_)⟩
      case refine_2 =>
        rw [decide_eq_false (fun z => g1 z.1)] at kk'
        exact ⟨_, rfl, iteF kk'⟩
      refine ⟨_, rfl, _, _, rfl, rfl, _, rfl, iteD (fun g2 => ?_) (fun g2 => ?_)⟩
      case refine_2 =>
        rw [decide_eq_false (fun z => g2 z.2)] at kk'
        exact kk'
      rw [decide_eq_true ⟨g1, g2⟩, Bool.true_and] at kk'
      refine ⟨_, rfl, _, _, rfl, rfl, _, rfl, iteD (fun g3 => ?_) (fun g3 => ?_)⟩
      case refine_2 =>
        rw [decide_eq_false (fun z => g3 z.1)] at kk'
        exact kk'
      have e : decide (0 ≤ m ∧ m ≤ 24) = decide (m ≤ 24) := by by_cases g4 : m ≤ 24 <;> simp [g3, g4]
      rw [e] at kk'
      exact ⟨_, _, rfl, rfl, kk'⟩
    have e3 : (valueAt ([(Sum.inr "share", Value.ref A.u_BY_BOUNDS_0), (Sum.inr "layer", Value.ref A.u_BY_BOUNDS_1)] : List (Key × Value)) (Sum.inr k : Key)) = none := by
      unfold valueAt
      rw [List.find?_cons_of_neg (by intro z; exact e1 (Sum.inr.inj (of_decide_eq_true z)).symm), List.find?_cons_of_neg (by intro z; exact e2 (Sum.inr.inj (of_decide_eq_true z)).symm)]
      rfl
    rw [e3]
    have e4 : measB k b m = false := by unfold measB; rw [if_neg e1, if_neg e2, Bool.false_and]
    rw [e4] at kk
    exact kk
def sp_are_others (K : Frag) : Sp := fun vs H Q _ => ∃ (h ho : Int) (p : Addr) (L : List (Int × Int)), vs = [.int h, .int ho, .ref p] ∧ LinesAt K H p L ∧ L.length ≤ 1000 ∧ ∀ H', Same H H' → Q (.bl (othersBL h ho L)) H'
theorem sc_are_others : FnScope ["houses", "house", "lines"] ["houses", "house", "lines"] (defScope s_are_others) := ⟨rfl, rfl, rfl, by decide +kernel, rfl, by decide +kernel, by decide +kernel⟩
set_option maxHeartbeats 4000000 in
theorem ok_are_others (T : Txt w K mg A) (hB : BmAt mg base) : FnOk P w K mg base CX0 1 A.a_are_others A.f_are_others ["houses", "house", "lines"] (sp_are_others K) := by
  have nd := sc_are_others.nd
  refine T.F_are_others.ok sc_are_others (fun vs H Q E h => ?_) (fun cdv Ar outer s H vs Q E hr h => ?_)
  · obtain ⟨h, ho, p, L, rfl, _⟩ := h; rfl
  · skip
    obtain ⟨h, ho, p, L, rfl, ⟨us, hp, hu⟩, hl, kk⟩ := h
    have hlen := hu.len
    refine PSs.rd (pss_one (ps_ret (pe_callB (call_allB rfl) rfl T.b_all boot_all (pa_cons (lcA (defScope s_are_others) (pi_tup (pvI 2)) (fun _ _ _ _ _ => pgc2 1 2) (fun _ _ _ _ _ => pts_nil) (fun _ _ _ _ _ => (pe_and (pe_cmpR op_ltI (pvI 1) (pvI 4) (nomark _)) (pe_one (pe_cmpR op_ne (pvI 1) (pvI 3) (nomark _)))))) pa_nil)))) ?_
    try dsimp only [L2.cxOf, L2.Cx.nox]
    refine ⟨_, rfl, p, rfl, ⟨us, hp⟩, ?_⟩
    refine lc_by (ws := L.map fun l => V.bl (decide (l.1 < h) && !decide (l.1 = ho))) (itOf_tup hp) (fun σ => ∃ x y z, σ = [x, y, z, some (.int ho), some (.int h)]) ?_ (by rw [List.length_map]; exact hlen.symm) (Nat.le_of_lt (small_line (by omega))) ?_ ?_
    · exact ⟨_, _, _, rfl⟩
    · intro i x w σ2 H2 Qt Qf hx hk sm zz1 q
      refine byC fun hG => ?_
      obtain ⟨a, b, c, rfl⟩ := zz1
      obtain ⟨l, hl1, q1, rfl, hq⟩ := hu.get hx
      refine hG ?_
      rw [List.getElem?_map, hl1] at hk
      cases hk
      have q2 : ∀ (e : Bool) (σ4 : L2.St), e = (decide (l.1 < h) && !decide (l.1 = ho)) → (∃ x y z, σ4 = [x, y, z, some (.int ho), some (.int h)]) → Qt σ4 (V.bl e) H2 := fun e σ4 h1 h2 => by rw [h1]; exact q σ4 h2
      refine ⟨q1, _, rfl, sm.tupS hq, rfl, _, _, rfl, _, _, rfl, rfl, ?_⟩
      refine ⟨_, rfl, _, rfl, _, _, rfl, rfl, _, rfl, iteD (fun g1 => ?_) (fun g1 => ?_)⟩
      · refine ⟨_, rfl, _, rfl, rfl, ?_⟩
        exact q2 _ _ (by rw [dec_intV, decide_eq_true g1, Bool.true_and]) ⟨_, _, _, rfl⟩
      · exact q2 _ _ (by rw [decide_eq_false g1, Bool.false_and]) ⟨_, _, _, rfl⟩
    intro D hD
    refine ⟨D, L.map fun l => (decide (l.1 < h) && !decide (l.1 = ho)), rfl, SqL.of ?_, ?_⟩
    · rw [upd_same, List.map_map]; rfl
    have e : othersBL h ho L = (L.map fun l => (decide (l.1 < h) && !decide (l.1 = ho))).all id := by
      unfold othersBL; rw [List.all_map]; rfl
    rw [← e]
    exact kk _ (same_upd hD)
def sp_is_cover (K : Frag) : Sp := fun vs H Q _ => ∃ (h : Int) (p : Addr) (r : Option Row), vs = [.int h, .ref p] ∧ RowAt K H p r ∧ ∀ H', Same H H' → Q (.bl (isCoverB h r)) H'
theorem sc_is_cover : FnScope ["houses", "cover", "house", "kind", "by", "most", "lines"] ["houses", "cover"] (defScope s_is_cover) := ⟨rfl, rfl, rfl, by decide +kernel, rfl, by decide +kernel, by decide +kernel⟩
set_option maxHeartbeats 4000000 in
theorem ok_is_cover (T : Txt w K mg A) (hB : BmAt mg base) : FnOk P w K mg base CX0 2 A.a_is_cover A.f_is_cover ["houses", "cover"] (sp_is_cover K) := by
  have nd := sc_is_cover.nd
  have G_are_others := ok_are_others (P := P) (w := w) (base := base) T hB
  have G_is_lines := ok_is_lines (P := P) (w := w) (base := base) T hB
  have G_is_measure := ok_is_measure (P := P) (w := w) (base := base) T hB
  refine T.F_is_cover.ok sc_is_cover (fun vs H Q E h => ?_) (fun cdv Ar outer s H vs Q E hr h => ?_)
  · obtain ⟨h, p, r, rfl, _⟩ := h; rfl
  · skip
    obtain ⟨h, p, r, rfl, hr', kk⟩ := h
    refine PSs.rd (pss_cons (ps_if (pt_cmpR op_ne (pe_callB call_len_seq rfl T.b_len PySem.boot_len (pa_cons (pvI 1) pa_nil)) pe_int (nomark _))
      (pss_one (ps_ret pe_bl))
      pss_nil)
    (pss_cons (ps_asg (pvI 1) (pg_tup (n := 5) rfl (pgs_cons (pg_name (i := 2) nd rfl (Or.inl rfl)) (pgs_cons (pg_name (i := 3) nd rfl (Or.inl rfl)) (pgs_cons (pg_name (i := 4) nd rfl (Or.inl rfl)) (pgs_cons (pg_name (i := 5) nd rfl (Or.inl rfl)) (pgs_cons (pg_name (i := 6) nd rfl (Or.inl rfl)) pgs_nil)))))))
    (pss_cons (ps_if (pt_not (pt_chain op_leI op_ltI pe_int (pvI 2) (pvI 0)))
      (pss_one (ps_ret pe_bl))
      pss_nil)
    (pss_one (ps_ret (pe_and (pe_call (G_is_measure.mono (by decide)) hr rfl T.m_is_measure T.k_is_measure T.d_is_measure .nil pass0 (pa_cons (pvI 3) (pa_cons (pvI 4) (pa_cons (pvI 5) pa_nil)))) (pe_and (pe_call (G_is_lines.mono (by decide)) hr rfl T.m_is_lines T.k_is_lines T.d_is_lines .nil pass0 (pa_cons (pvI 6) pa_nil)) (pe_one (pe_call (G_are_others.mono (by decide)) hr rfl T.m_are_others T.k_are_others T.d_are_others .nil pass0 (pa_cons (pvI 0) (pa_cons (pvI 2) (pa_cons (pvI 6) pa_nil)))))))))))) ?_
    try dsimp only [L2.cxOf, L2.Cx.nox]
    cases r with
    | none =>
      refine byC fun hG => ?_
      obtain ⟨xs, hx, h5, _⟩ := hr'
      refine hG ?_
      refine ⟨_, rfl, p, xs, rfl, .inr hx, rfl, _, rfl, ?_⟩
      rw [dec_intV]
      exact iteND (fun _ => kk H (Same.refl _)) (fun e => absurd (by omega) h5)
    | some r =>
      refine byC fun hG => ?_
      obtain ⟨ho, k, b, m, L⟩ := r
      obtain ⟨lp, hp, hL, hl⟩ := hr'
      refine hG ?_
      refine ⟨_, rfl, p, _, rfl, .inr hp, rfl, _, rfl, iteF' (by rfl) ?_⟩
      refine ⟨_, rfl, p, _, rfl, hp, rfl, _, _, rfl, _, _, rfl, _, _, rfl, _, _, rfl, _, _, rfl, rfl, ?_⟩
      have out : ∀ H', Same H H' → isCoverB h (some (ho, k, b, m, L)) = false → Q (.bl false) H' := fun H' s e => by rw [← e]; exact kk H' s
      refine ⟨_, rfl, _, _, rfl, rfl, _, rfl, iteD (fun g1 => ?_) (fun g1 => ?_)⟩
      case refine_2 => exact ⟨_, rfl, out H (Same.refl _) (by rw [isCoverB_some, decide_eq_false (fun z => g1 z.1), Bool.false_and])⟩
      refine ⟨_, rfl, _, _, rfl, rfl, _, rfl, iteND (fun g2 => ?_) (fun g2 => ?_)⟩
      · exact out H (Same.refl _) (by rw [isCoverB_some, decide_eq_false (fun z => g2 z.2), Bool.false_and])
      have e0 : isCoverB h (some (ho, k, b, m, L)) = (measB k b m && (isLinesB L && othersBL h ho L)) := by
        rw [isCoverB_some, decide_eq_true ⟨g1, g2⟩, Bool.true_and]
      rw [e0] at kk
      refine ⟨_, rfl, _, rfl, _, rfl, k, b, m, rfl, _, rfl, iteB (fun e1 => ?_) (fun e1 => ?_)⟩
      case refine_2 => rw [e1, Bool.false_and] at kk; exact kk H (Same.refl _)
      rw [e1, Bool.true_and] at kk
      refine ⟨_, rfl, lp, L, rfl, hL, by omega, fun H1 s1 => ⟨_, rfl, iteB (fun e2 => ?_) (fun e2 => ?_)⟩⟩
      case refine_2 => rw [e2, Bool.false_and] at kk; exact kk H1 s1
      rw [e2, Bool.true_and] at kk
      exact ⟨_, rfl, _, rfl, _, rfl, h, ho, lp, L, rfl, hL.same s1, by omega, fun H2 s2 => kk H2 (s1.trans s2)⟩
def sp_require_houses (K : Frag) : Sp := fun vs H Q _ => ∃ h : Nat, vs = [.int h] ∧ 1 ≤ h ∧ h ≤ 6 ∧ Q .non H
theorem sc_require_houses : FnScope ["houses"] ["houses"] (defScope s_require_houses) := ⟨rfl, rfl, rfl, by decide +kernel, rfl, by decide +kernel, by decide +kernel⟩
set_option maxHeartbeats 4000000 in
theorem ok_require_houses (T : Txt w K mg A) (hB : BmAt mg base) : FnOk P w K mg base CX0 1 A.a_require_houses A.f_require_houses ["houses"] (sp_require_houses K) := by
  have nd := sc_require_houses.nd
  refine T.F_require_houses.ok sc_require_houses (fun vs H Q E h => ?_) (fun cdv Ar outer s H vs Q E hr h => ?_)
  · obtain ⟨h, rfl, _⟩ := h; rfl
  · skip
    obtain ⟨h, rfl, h1, h6, kk⟩ := h
    refine PSs.rd (pss_one (ps_if (pt_not (pt_chain op_leI op_leI pe_int (pvI 0) (pe_op op_addI (pe_globI rfl T.c_LAST_HOUSE) pe_int)))
      (pss_one ps_never)
      pss_nil)) ?_
    try dsimp only [L2.cxOf, L2.Cx.nox]
    refine ⟨_, rfl, _, _, rfl, rfl, _, rfl, iteD (fun _ => ?_) (fun h => absurd (by omega) h)⟩
    exact ⟨_, _, rfl, rfl, _, _, rfl, rfl, _, rfl, iteND (fun h => absurd (by omega) h) (fun _ => kk)⟩
def sp_is_day (K : Frag) : Sp := fun vs H Q _ => ∃ d : Int, vs = [.int d] ∧ Q (.bl (decide (0 ≤ d ∧ d ≤ 99))) H
theorem sc_is_day : FnScope ["day"] ["day"] (defScope s_is_day) := ⟨rfl, rfl, rfl, by decide +kernel, rfl, by decide +kernel, by decide +kernel⟩
set_option maxHeartbeats 4000000 in
theorem ok_is_day (T : Txt w K mg A) (hB : BmAt mg base) : FnOk P w K mg base CX0 1 A.a_is_day A.f_is_day ["day"] (sp_is_day K) := by
  have nd := sc_is_day.nd
  refine T.F_is_day.ok sc_is_day (fun vs H Q E h => ?_) (fun cdv Ar outer s H vs Q E hr h => ?_)
  · obtain ⟨d, rfl, _⟩ := h; rfl
  · skip
    obtain ⟨d, rfl, kk⟩ := h
    refine PSs.rd (pss_one (ps_ret (pe_chain op_leI op_leI pe_int (pvI 0) (pe_globI rfl T.c_LAST_DAY)))) ?_
    try dsimp only [L2.cxOf, L2.Cx.nox]
    refine ⟨_, rfl, _, _, rfl, rfl, _, rfl, iteD (fun h0 => ?_) (fun h0 => ?_)⟩
    · refine ⟨_, _, rfl, rfl, ?_⟩
      have e : decide (d ≤ 99) = decide (0 ≤ d ∧ d ≤ 99) := by
        have h0' : (0 : Int) ≤ d := h0
        simp [h0']
      show Q (.bl (decide (d ≤ 99))) H
      rw [e]; exact kk
    · have e : false = decide (0 ≤ d ∧ d ≤ 99) := by
        have h0' : ¬ (0 : Int) ≤ d := h0
        simp [h0']
      rw [e]; exact kk
def sp_is_stop (K : Frag) : Sp := fun vs H Q _ => ∃ (p : Addr) (k : Str) (rest : List V), vs = [.ref p] ∧ SqT K H p (.str k :: rest) ∧ Q (.bl (decide (k = "stop"))) H
theorem sc_is_stop : FnScope ["terms"] ["terms"] (defScope s_is_stop) := ⟨rfl, rfl, rfl, by decide +kernel, rfl, by decide +kernel, by decide +kernel⟩
set_option maxHeartbeats 4000000 in
theorem ok_is_stop (T : Txt w K mg A) (hB : BmAt mg base) : FnOk P w K mg base CX0 1 A.a_is_stop A.f_is_stop ["terms"] (sp_is_stop K) := by
  have nd := sc_is_stop.nd
  refine T.F_is_stop.ok sc_is_stop (fun vs H Q E h => ?_) (fun cdv Ar outer s H vs Q E hr h => ?_)
  · obtain ⟨p, k, rest, rfl, _⟩ := h; rfl
  · skip
    obtain ⟨p, k, rest, rfl, hp, kk⟩ := h
    refine PSs.rd (pss_one (ps_ret (pe_cmpR op_eq (pe_ix (ix_tupI K rfl) (pvI 0) pe_int (fun _ _ => rfl)) pe_str (nomark _)))) ?_
    try dsimp only [L2.cxOf, L2.Cx.nox]
    refine ⟨_, rfl, p, _, 0, .str k, rfl, rfl, hp, atI_nat (j := 0) rfl, rfl, ?_⟩
    show Q (.bl (decide (V.str k = V.str "stop"))) H
    rw [dec_strV]; exact kk
def sp_cover_of (K : Frag) : Sp := fun vs H Q _ => ∃ (p lp : Addr) (k : Str) (ho b m : Int) (mid : List V) (L : List (Int × Int)), vs = [.ref p] ∧ SqT K H p (.str k :: .int ho :: .int b :: .int m :: (mid ++ [.ref lp])) ∧ LinesAt K H lp L ∧ L.length ≤ 100 ∧ ∀ q H', Same H H' → SqT K H' q [.int ho, .str (if k = "stop" then "layer" else k), .int b, .int m, .ref lp] → Q (.ref q) H'
theorem sc_cover_of : FnScope ["terms", "kind", "house", "by", "most"] ["terms"] (defScope s_cover_of) := ⟨rfl, rfl, rfl, by decide +kernel, rfl, by decide +kernel, by decide +kernel⟩
set_option maxHeartbeats 4000000 in
theorem ok_cover_of (T : Txt w K mg A) (hB : BmAt mg base) : FnOk P w K mg base CX0 2 A.a_cover_of A.f_cover_of ["terms"] (sp_cover_of K) := by
  have nd := sc_cover_of.nd
  have G_is_stop := ok_is_stop (P := P) (w := w) (base := base) T hB
  refine T.F_cover_of.ok sc_cover_of (fun vs H Q E h => ?_) (fun cdv Ar outer s H vs Q E hr h => ?_)
  · obtain ⟨p, lp, k, ho, b, m, mid, L, rfl, _⟩ := h; rfl
  · skip
    obtain ⟨p, lp, k, ho, b, m, mid, L, rfl, hp, hL, hl, kk⟩ := h
    refine PSs.rd (pss_cons (ps_asg (pe_slice sl_tupA (pvI 0) po_none (po_some pe_int)) (pg_tup (n := 4) rfl (pgs_cons (pg_name (i := 1) nd rfl (Or.inl rfl)) (pgs_cons (pg_name (i := 2) nd rfl (Or.inl rfl)) (pgs_cons (pg_name (i := 3) nd rfl (Or.inl rfl)) (pgs_cons (pg_name (i := 4) nd rfl (Or.inl rfl)) pgs_nil))))))
    (pss_one (ps_ret (pe_tup (pa_cons (pvI 2) (pa_cons (pe_ifExp (pt_truth (pe_call (G_is_stop.mono (by decide)) hr rfl T.m_is_stop T.k_is_stop T.d_is_stop .nil pass0 (pa_cons (pvI 0) pa_nil)) (fun _ => rfl)) pe_str (pvI 1)) (pa_cons (pvI 3) (pa_cons (pvI 4) (pa_cons (pe_ix (ix_tupI K rfl) (pvI 0) (pe_un un_neg pe_int) (fun _ _ => rfl)) pa_nil))))))))) ?_
    try dsimp only [L2.cxOf, L2.Cx.nox]
    refine ⟨_, rfl, 4, rfl, slTA_of hp fun q1 H1 s1 r1 => ?_⟩
    have c4 : cutV (.str k :: .int ho :: .int b :: .int m :: (mid ++ [.ref lp])) none (some 4) = [.str k, .int ho, .int b, .int m] := cut_upto _ 4
    rw [c4] at r1
    refine ⟨q1, _, rfl, r1, rfl, _, _, rfl, _, _, rfl, _, _, rfl, _, _, rfl, rfl, ?_⟩
    have hp1 := s1.tupS hp
    have ha : atI (.str k :: .int ho :: .int b :: .int m :: (mid ++ [.ref lp])) (-1) = some (.ref lp) := by
      have e : (.str k :: .int ho :: .int b :: .int m :: (mid ++ [.ref lp]) : List V) = (.str k :: .int ho :: .int b :: .int m :: mid) ++ [.ref lp] := rfl
      rw [e]; exact atI_last _ _
    refine ⟨_, rfl, _, rfl, p, k, _, rfl, hp1, _, rfl, ?_⟩
    by_cases e : k = "stop"
    · refine iteT' (decide_eq_true e) ?_
      rw [if_pos e] at kk
      refine ⟨_, rfl, _, rfl, _, rfl, _, rfl, p, _, _, _, rfl, rfl, hp1, ha, by show 5 ≤ sizeLine; decide, fun q hq => ?_⟩
      exact kk q _ (s1.trans (same_upd hq)) (SqT.of upd_same)
    · refine iteF' (decide_eq_false e) ?_
      rw [if_neg e] at kk
      refine ⟨_, rfl, _, rfl, _, rfl, _, rfl, _, rfl, p, _, _, _, rfl, rfl, hp1, ha, by show 5 ≤ sizeLine; decide, fun q hq => ?_⟩
      exact kk q _ (s1.trans (same_upd hq)) (SqT.of upd_same)
def sp_are_bounds (K : Frag) : Sp := fun vs H Q _ => ∃ w f l : Int, vs = [.int w, .int f, .int l] ∧ Q (.bl (bndB w f l)) H
theorem sc_are_bounds : FnScope ["whole", "first", "last"] ["whole", "first", "last"] (defScope s_are_bounds) := ⟨rfl, rfl, rfl, by decide +kernel, rfl, by decide +kernel, by decide +kernel⟩
set_option maxHeartbeats 4000000 in
theorem ok_are_bounds (T : Txt w K mg A) (hB : BmAt mg base) : FnOk P w K mg base CX0 2 A.a_are_bounds A.f_are_bounds ["whole", "first", "last"] (sp_are_bounds K) := by
  have nd := sc_are_bounds.nd
  have G_is_day := ok_is_day (P := P) (w := w) (base := base) T hB
  refine T.F_are_bounds.ok sc_are_bounds (fun vs H Q E h => ?_) (fun cdv Ar outer s H vs Q E hr h => ?_)
  · obtain ⟨w, f, l, rfl, _⟩ := h; rfl
  · skip
    obtain ⟨wh, f, l, rfl, kk⟩ := h
    have out : bndB wh f l = false → Q (.bl false) H := fun e => by rw [e] at kk; exact kk
    refine PSs.rd (pss_one (ps_ret (pe_and (pe_chain op_leI op_leI pe_int (pvI 0) (pe_globI rfl T.c_MOST_WHOLE)) (pe_and (pe_call (G_is_day.mono (by decide)) hr rfl T.m_is_day T.k_is_day T.d_is_day .nil pass0 (pa_cons (pvI 1) pa_nil)) (pe_and (pe_call (G_is_day.mono (by decide)) hr rfl T.m_is_day T.k_is_day T.d_is_day .nil pass0 (pa_cons (pvI 2) pa_nil)) (pe_one (pe_cmpR op_leI (pvI 1) (pvI 2) (nomark _)))))))) ?_
    try dsimp only [L2.cxOf, L2.Cx.nox]
    refine ⟨_, rfl, _, _, rfl, rfl, _, rfl, iteD (fun h0 => ?_) (fun h0 => ?_)⟩
    · refine ⟨_, _, rfl, rfl, _, rfl, iteD (fun h1 => ?_) (fun h1 => ?_)⟩
      · have e1 : decide (1 ≤ wh ∧ wh ≤ 120) = true := decide_eq_true ⟨h0, h1⟩
        refine ⟨_, rfl, f, rfl, _, rfl, iteD (fun h2 => ?_) (fun h2 => out (by unfold bndB; rw [decide_eq_false h2]; simp))⟩
        refine ⟨_, rfl, l, rfl, _, rfl, iteD (fun h3 => ?_) (fun h3 => out (by unfold bndB; rw [decide_eq_false h3]; simp))⟩
        refine ⟨_, rfl, _, rfl, _, _, rfl, rfl, ?_⟩
        have e : decide (f ≤ l) = bndB wh f l := by unfold bndB; rw [e1, decide_eq_true h2, decide_eq_true h3]; simp
        show Q (.bl (decide (f ≤ l))) H
        rw [e]; exact kk
      · exact out (by unfold bndB; rw [decide_eq_false (fun z => h1 z.2)]; simp)
    · exact ⟨_, rfl, iteF (out (by unfold bndB; rw [decide_eq_false (fun z => h0 z.1)]; simp))⟩
def sp_is_terms (K : Frag) : Sp := fun vs H Q _ => ∃ (h : Int) (p : Addr) (t : Tm), vs = [.int h, .ref p] ∧ TmAt K H p t ∧ ∀ H', Same H H' → Q (.bl (termsB h t)) H'
theorem sc_is_terms : FnScope ["houses", "terms"] ["houses", "terms"] (defScope s_is_terms) := ⟨rfl, rfl, rfl, by decide +kernel, rfl, by decide +kernel, by decide +kernel⟩
set_option maxHeartbeats 4000000 in
theorem ok_is_terms (T : Txt w K mg A) (hB : BmAt mg base) : FnOk P w K mg base CX0 3 A.a_is_terms A.f_is_terms ["houses", "terms"] (sp_is_terms K) := by
  have nd := sc_is_terms.nd
  have G_are_bounds := ok_are_bounds (P := P) (w := w) (base := base) T hB
  have G_cover_of := ok_cover_of (P := P) (w := w) (base := base) T hB
  have G_is_cover := ok_is_cover (P := P) (w := w) (base := base) T hB
  have G_is_stop := ok_is_stop (P := P) (w := w) (base := base) T hB
  refine T.F_is_terms.ok sc_is_terms (fun vs H Q E h => ?_) (fun cdv Ar outer s H vs Q E hr h => ?_)
  · obtain ⟨h, p, t, rfl, _⟩ := h; rfl
  · skip
    obtain ⟨h, p, t, rfl, ht, kk⟩ := h
    have some8 : ∀ k : Str, (k = "share" ∨ k = "layer") → (valueAt ([(Sum.inr "share", Value.int 8 A.u_THINGS_0), (Sum.inr "layer", Value.int 8 A.u_THINGS_1), (Sum.inr "stop", Value.int 5 A.u_THINGS_2)] : List (Key × Value)) (Sum.inr k : Key)) = some (Value.int 8 (if k = "share" then A.u_THINGS_0 else A.u_THINGS_1)) := fun k hk => by
      rcases hk with rfl | rfl
      · rfl
      · rfl
    have some5 : (valueAt ([(Sum.inr "share", Value.int 8 A.u_THINGS_0), (Sum.inr "layer", Value.int 8 A.u_THINGS_1), (Sum.inr "stop", Value.int 5 A.u_THINGS_2)] : List (Key × Value)) (Sum.inr "stop" : Key)) = some (Value.int 5 A.u_THINGS_2) := rfl
    have no : ∀ k : Str, ¬ k = "share" → ¬ k = "layer" → ¬ k = "stop" → (valueAt ([(Sum.inr "share", Value.int 8 A.u_THINGS_0), (Sum.inr "layer", Value.int 8 A.u_THINGS_1), (Sum.inr "stop", Value.int 5 A.u_THINGS_2)] : List (Key × Value)) (Sum.inr k : Key)) = none := fun k h1 h2 h3 => by
      simp [valueAt, Ne.symm h1, Ne.symm h2, Ne.symm h3]
    have out : termsB h t = false → ∀ H', Same H H' → Q (.bl false) H' := fun e H' s => by have := kk H' s; rw [e] at this; exact this
    refine PSs.rd (pss_cons (ps_if (PW.pt (pw_or (pt_cmpR op_eq (pe_callB call_len_seq rfl T.b_len PySem.boot_len (pa_cons (pvI 1) pa_nil)) pe_int (nomark _)) (pw_or (pt_cmpR op_knotin (pe_ix (ix_tupI K rfl) (pvI 1) pe_int (fun _ _ => rfl)) (pe_glob (v := .ref A.o_THINGS) rfl T.g_THINGS rfl) (by with_unfolding_all rfl)) (pw_or1 (pt_cmpR op_ne (pe_callB call_len_seq rfl T.b_len PySem.boot_len (pa_cons (pvI 1) pa_nil)) (pe_ix ix_kdict (pe_glob (v := .ref A.o_THINGS) rfl T.g_THINGS rfl) (pe_ix (ix_tupI K rfl) (pvI 1) pe_int (fun _ _ => rfl)) (fun _ _ => rfl)) (nomark _))))))
      (pss_one (ps_ret pe_bl))
      pss_nil)
    (pss_cons (ps_if (PW.pt (pw_or (pt_not (pt_truth (pe_call (G_is_cover.mono (by decide)) hr rfl T.m_is_cover T.k_is_cover T.d_is_cover .nil pass0 (pa_cons (pvI 0) (pa_cons (pe_call (G_cover_of.mono (by decide)) hr rfl T.m_cover_of T.k_cover_of T.d_cover_of .nil pass0 (pa_cons (pvI 1) pa_nil)) pa_nil))) (fun _ => rfl))) (pw_or1 (pt_cmpR op_ltI (pe_ix (ix_tupI K rfl) (pvI 1) pe_int (fun _ _ => rfl)) pe_int (nomark _)))))
      (pss_one (ps_ret pe_bl))
      pss_nil)
    (pss_one (ps_ret (pe_or (pe_call (G_is_stop.mono (by decide)) hr rfl T.m_is_stop T.k_is_stop T.d_is_stop .nil pass0 (pa_cons (pvI 1) pa_nil)) (pe_one (pe_call (G_are_bounds.mono (by decide)) hr rfl T.m_are_bounds T.k_are_bounds T.d_are_bounds .nil pass0 (pa_cons (pe_ix (ix_tupI K rfl) (pvI 1) pe_int (fun _ _ => rfl)) (pa_cons (pe_ix (ix_tupI K rfl) (pvI 1) pe_int (fun _ _ => rfl)) (pa_cons (pe_ix (ix_tupI K rfl) (pvI 1) pe_int (fun _ _ => rfl)) pa_nil)))))))))) ?_
    try dsimp only [L2.cxOf, L2.Cx.nox]
    cases t with
    | other =>
      refine byC fun hG => ?_
      obtain ⟨xs, hp, h100, hxs⟩ := ht
      refine hG ?_
      rcases hxs with rfl | ⟨k, rest, rfl, n5, n8⟩
      · refine ⟨_, rfl, p, _, rfl, .inr hp, rfl, _, rfl, iteT' (show decide (V.int ((0 : Nat) : Int) = V.int 0) = true by decide +kernel) ?_⟩
        exact out rfl _ (Same.refl _)
      refine ⟨_, rfl, p, _, rfl, .inr hp, rfl, _, rfl, iteF' (decide_eq_false fun z => ?_) ?_⟩
      · have := V.int.inj z
        rw [List.length_cons] at this; omega
      by_cases k1 : k = "share" ∨ k = "layer"
      · refine ⟨_, rfl, p, _, 0, .str k, rfl, rfl, hp, atI_nat (j := 0) rfl, k, A.o_THINGS, _, rfl, rfl, T.t_THINGS, _, rfl, iteF' (by rw [some8 k k1]; rfl) ?_⟩
        refine ⟨_, rfl, p, _, rfl, .inr hp, _, rfl, p, _, 0, .str k, rfl, rfl, hp, atI_nat (j := 0) rfl, k, A.o_THINGS, _, .int 8, _, rfl, rfl, T.t_THINGS, some8 k k1, ⟨_, rfl⟩, rfl, _, rfl, iteND (fun _ => out rfl _ (Same.refl _)) (fun z => ?_)⟩
        exact absurd ⟨k1, by have := V.int.inj z; omega⟩ n8
      by_cases k2 : k = "stop"
      · subst k2
        refine ⟨_, rfl, p, _, 0, .str "stop", rfl, rfl, hp, atI_nat (j := 0) rfl, "stop", A.o_THINGS, _, rfl, rfl, T.t_THINGS, _, rfl, iteF' (by rw [some5]; rfl) ?_⟩
        refine ⟨_, rfl, p, _, rfl, .inr hp, _, rfl, p, _, 0, .str "stop", rfl, rfl, hp, atI_nat (j := 0) rfl, "stop", A.o_THINGS, _, .int 5, _, rfl, rfl, T.t_THINGS, some5, ⟨_, rfl⟩, rfl, _, rfl, iteND (fun _ => out rfl _ (Same.refl _)) (fun z => ?_)⟩
        exact absurd ⟨rfl, by have := V.int.inj z; omega⟩ n5
      · refine ⟨_, rfl, p, _, 0, .str k, rfl, rfl, hp, atI_nat (j := 0) rfl, k, A.o_THINGS, _, rfl, rfl, T.t_THINGS, _, rfl, iteT' (by rw [no k (fun z => k1 (.inl z)) (fun z => k1 (.inr z)) k2]; rfl) ?_⟩
        exact out rfl _ (Same.refl _)
    | stop ho b m L =>
      refine byC fun hG => ?_
      obtain ⟨lp, hp, hL, hl⟩ := ht
      refine hG ?_
      refine ⟨_, rfl, p, _, rfl, .inr hp, rfl, _, rfl, iteF' (show decide (V.int ((5 : Nat) : Int) = V.int 0) = false by decide +kernel) ?_⟩
      refine ⟨_, rfl, p, _, 0, .str "stop", rfl, rfl, hp, rfl, "stop", A.o_THINGS, _, rfl, rfl, T.t_THINGS, _, rfl, iteF' (by rw [some5]; rfl) ?_⟩
      refine ⟨_, rfl, p, _, rfl, .inr hp, _, rfl, p, _, 0, .str "stop", rfl, rfl, hp, rfl, "stop", A.o_THINGS, _, .int 5, _, rfl, rfl, T.t_THINGS, some5, ⟨_, rfl⟩, rfl, _, rfl, iteF' (show (!decide (V.int ((5 : Nat) : Int) = V.int 5)) = false by decide +kernel) ?_⟩
      refine ⟨_, rfl, _, rfl, p, lp, "stop", ho, b, m, [], L, rfl, hp, hL, hl, fun q H1 s1 hq => ?_⟩
      rw [if_pos rfl] at hq
      refine ⟨h, q, some (ho, "layer", b, m, L), rfl, ⟨lp, hq, hL.same s1, hl⟩, fun H2 s2 => ⟨_, rfl, iteNB (fun e => ?_) (fun e => ?_)⟩⟩
      · exact out (by rw [termsB_stop, e]; rfl) _ (s1.trans s2)
      have t2 := s1.trans s2
      have hp2 := t2.tupS hp
      refine ⟨_, rfl, p, _, 3, _, rfl, rfl, hp2, rfl, _, _, rfl, rfl, _, rfl, iteD (fun c => ?_) (fun c => ?_)⟩
      · exact out (by rw [termsB_stop, e, decide_eq_false (show ¬ (1 : Int) ≤ m by omega)]; rfl) _ t2
      refine ⟨_, rfl, p, "stop", _, rfl, hp2, _, rfl, iteT' (by decide +kernel) ?_⟩
      have := kk H2 t2
      have et : termsB h (.stop ho b m L) = true := by rw [termsB_stop, e, decide_eq_true (show (1 : Int) ≤ m by omega)]; rfl
      rw [et] at this
      exact this
    | full k ho b m w f l L =>
      refine byC fun hG => ?_
      obtain ⟨hk, lp, hp, hL, hl⟩ := ht
      have nst : ¬ k = "stop" := fun z => by rcases hk with e | e <;> (rw [z] at e; exact absurd e (by decide +kernel))
      refine hG ?_
      refine ⟨_, rfl, p, _, rfl, .inr hp, rfl, _, rfl, iteF' (show decide (V.int ((8 : Nat) : Int) = V.int 0) = false by decide +kernel) ?_⟩
      refine ⟨_, rfl, p, _, 0, .str k, rfl, rfl, hp, rfl, k, A.o_THINGS, _, rfl, rfl, T.t_THINGS, _, rfl, iteF' (by rw [some8 k hk]; rfl) ?_⟩
      refine ⟨_, rfl, p, _, rfl, .inr hp, _, rfl, p, _, 0, .str k, rfl, rfl, hp, rfl, k, A.o_THINGS, _, .int 8, _, rfl, rfl, T.t_THINGS, some8 k hk, ⟨_, rfl⟩, rfl, _, rfl, iteF' (show (!decide (V.int ((8 : Nat) : Int) = V.int 8)) = false by decide +kernel) ?_⟩
      refine ⟨_, rfl, _, rfl, p, lp, k, ho, b, m, [.int w, .int f, .int l], L, rfl, hp, hL, hl, fun q H1 s1 hq => ?_⟩
      rw [if_neg nst] at hq
      refine ⟨h, q, some (ho, k, b, m, L), rfl, ⟨lp, hq, hL.same s1, hl⟩, fun H2 s2 => ⟨_, rfl, iteNB (fun e => ?_) (fun e => ?_)⟩⟩
      · exact out (by rw [termsB_full, e]; rfl) _ (s1.trans s2)
      have t2 := s1.trans s2
      have hp2 := t2.tupS hp
      refine ⟨_, rfl, p, _, 3, _, rfl, rfl, hp2, rfl, _, _, rfl, rfl, _, rfl, iteD (fun c => ?_) (fun c => ?_)⟩
      · exact out (by rw [termsB_full, e, decide_eq_false (show ¬ (1 : Int) ≤ m by omega)]; rfl) _ t2
      refine ⟨_, rfl, p, k, _, rfl, hp2, _, rfl, iteF' (decide_eq_false nst) ?_⟩
      refine ⟨_, rfl, p, _, 4, _, rfl, rfl, hp2, rfl, _, rfl, p, _, 5, _, rfl, rfl, hp2, rfl, _, rfl, p, _, 6, _, rfl, rfl, hp2, rfl, w, f, l, rfl, ?_⟩
      have := kk H2 t2
      have et : termsB h (.full k ho b m w f l L) = bndB w f l := by rw [termsB_full, e, decide_eq_true (show (1 : Int) ≤ m by omega)]; rfl
      rw [et] at this
      exact this
def sp_Ring___init__ (K : Frag) (A : Adr) : Sp := fun vs H Q _ => ∃ (x dx : Addr) (h : Nat), vs = [.ref x, .int (h : Nat)] ∧ 1 ≤ h ∧ h ≤ 6 ∧ H x = some (.ins A.c_Ring dx []) ∧ ∀ sg dy lr pp tc H', (∀ b o, b ≠ x → H b = some o → H' b = some o) → H sg = none → H dy = none → H lr = none → H pp = none → H tc = none → Rg0 A.c_Ring K H' x h [] sg dy lr pp tc → Q .non H'
theorem sc_Ring___init__ : FnScope ["self", "houses"] ["self", "houses"] (defScope s_Ring___init__) := ⟨rfl, rfl, rfl, by decide +kernel, rfl, by decide +kernel, by decide +kernel⟩
set_option maxHeartbeats 4000000 in
theorem ok_Ring___init__ (T : Txt w K mg A) (hB : BmAt mg base) : FnOk P w K mg base CX0 2 A.a_Ring___init__ A.f_Ring___init__ ["self", "houses"] (sp_Ring___init__ K A) := by
  have nd := sc_Ring___init__.nd
  have G_require_houses := ok_require_houses (P := P) (w := w) (base := base) T hB
  refine T.F_Ring___init__.ok sc_Ring___init__ (fun vs H Q E h => ?_) (fun cdv Ar outer s H vs Q E hr h => ?_)
  · obtain ⟨x, dx, h, rfl, _⟩ := h; rfl
  · skip
    obtain ⟨x, dx, h, rfl, h1, h6, hx, kk⟩ := h
    refine PSs.rd (pss_cons (ps_expr (pe_call (G_require_houses.mono (by decide)) hr rfl T.m_require_houses T.k_require_houses T.d_require_houses .nil pass0 (pa_cons (pvI 1) pa_nil)))
    (pss_cons (ps_fld (pvI 0) (pvI 1) rfl)
    (pss_cons (ps_fld (pvI 0) (pe_lst pa_nil) rfl)
    (pss_cons (ps_fld (pvI 0) pe_dnewK rfl)
    (pss_cons (ps_fld (pvI 0) pe_dnewK rfl)
    (pss_cons (ps_fld (pvI 0) pe_int rfl)
    (pss_cons (ps_fld (pvI 0) pe_int rfl)
    (pss_cons (ps_fld (pvI 0) (pe_lst pa_nil) rfl)
    (pss_cons (ps_fld (pvI 0) (pe_lst pa_nil) rfl)
    (pss_one (ps_fld (pvI 0) pe_non rfl))))))))))) ?_
    try dsimp only [L2.cxOf, L2.Cx.nox]
    rw [show ∀ v0 v1 : V, L2.start ["self", "houses"] [v0, v1] = [some v0, some v1] from fun _ _ => rfl]
    refine ⟨_, rfl, h, rfl, h1, h6, ?_⟩
    have b0 : ∀ b o, b ≠ x → H b = some o → H b = some o := fun b o _ e => e
    have l0 : ([] : List (Str × V)).length ≤ 0 := Nat.le_refl 0
    have hx0 := hx
    refine ⟨_, rfl, _, rfl, x, _, dx, _, rfl, hx0, T.cl_Ring, T.na_Ring_house_count, Nat.lt_of_le_of_lt l0 (by decide), ?_⟩
    have l1 := Nat.le_trans (length_putF "house_count" (.int (h : Nat)) ([])) (Nat.succ_le_succ l0)
    have hx1 := upd_same (H := H) (a := x) (o := .ins A.c_Ring dx (putF "house_count" (.int (h : Nat)) ([])))
    have b1 : ∀ b o, b ≠ x → H b = some o → upd H x (.ins A.c_Ring dx (putF "house_count" (.int (h : Nat)) ([]))) b = some o := fun b o n e => by rw [upd_ne n]; exact b0 b o n e
    generalize upd H x (.ins A.c_Ring dx (putF "house_count" (.int (h : Nat)) ([]))) = M0 at *
    refine ⟨Nat.zero_le _, fun sg hsg => ?_⟩
    have usg := same_upd (o := .lst []) hsg
    have vsg := upd_same (H := M0) (a := sg) (o := .lst [])
    generalize upd M0 sg (.lst []) = N1 at *
    have hy1 := usg _ _ hx1
    have c1 : ∀ b o, b ≠ x → H b = some o → N1 b = some o := fun b o n e => usg _ _ (b1 b o n e)
    have fsg : H sg = none := by
      cases e : H sg with
      | none => rfl
      | some o => rw [b1 _ o (fun z => by rw [z, hx1] at hsg; cases hsg) e] at hsg; cases hsg
    have nxsg : sg ≠ x := fun z => by rw [z, hx1] at hsg; cases hsg
    refine ⟨_, rfl, x, _, dx, _, rfl, hy1, T.cl_Ring, T.na_Ring_signed, Nat.lt_of_le_of_lt l1 (by decide), ?_⟩
    have l2 := Nat.le_trans (length_putF "signed" (.ref sg) (putF "house_count" (.int (h : Nat)) ([]))) (Nat.succ_le_succ l1)
    have hx2 := upd_same (H := N1) (a := x) (o := .ins A.c_Ring dx (putF "signed" (.ref sg) (putF "house_count" (.int (h : Nat)) ([]))))
    have b2 : ∀ b o, b ≠ x → H b = some o → upd N1 x (.ins A.c_Ring dx (putF "signed" (.ref sg) (putF "house_count" (.int (h : Nat)) ([])))) b = some o := fun b o n e => by rw [upd_ne n]; exact c1 b o n e
    replace vsg : upd N1 x (.ins A.c_Ring dx (putF "signed" (.ref sg) (putF "house_count" (.int (h : Nat)) ([])))) sg = some (.lst []) := by rw [upd_ne nxsg]; exact vsg
    generalize upd N1 x (.ins A.c_Ring dx (putF "signed" (.ref sg) (putF "house_count" (.int (h : Nat)) ([])))) = M1 at *
    have nsg_2 : ∀ b, M1 b = none → sg ≠ b := fun b e z => by rw [← z, vsg] at e; cases e
    intro dy hdy
    have udy := same_upd (o := .dK []) hdy
    have vdy := upd_same (H := M1) (a := dy) (o := .dK [])
    generalize upd M1 dy (.dK []) = N2 at *
    have hy2 := udy _ _ hx2
    have c2 : ∀ b o, b ≠ x → H b = some o → N2 b = some o := fun b o n e => udy _ _ (b2 b o n e)
    replace vsg := udy _ _ vsg
    have fdy : H dy = none := by
      cases e : H dy with
      | none => rfl
      | some o => rw [b2 _ o (fun z => by rw [z, hx2] at hdy; cases hdy) e] at hdy; cases hdy
    have nxdy : dy ≠ x := fun z => by rw [z, hx2] at hdy; cases hdy
    have nsgdy := nsg_2 _ hdy
    refine ⟨_, rfl, x, _, dx, _, rfl, hy2, T.cl_Ring, T.na_Ring_day_of, Nat.lt_of_le_of_lt l2 (by decide), ?_⟩
    have l3 := Nat.le_trans (length_putF "day_of" (.ref dy) (putF "signed" (.ref sg) (putF "house_count" (.int (h : Nat)) ([])))) (Nat.succ_le_succ l2)
    have hx3 := upd_same (H := N2) (a := x) (o := .ins A.c_Ring dx (putF "day_of" (.ref dy) (putF "signed" (.ref sg) (putF "house_count" (.int (h : Nat)) ([])))))
    have b3 : ∀ b o, b ≠ x → H b = some o → upd N2 x (.ins A.c_Ring dx (putF "day_of" (.ref dy) (putF "signed" (.ref sg) (putF "house_count" (.int (h : Nat)) ([]))))) b = some o := fun b o n e => by rw [upd_ne n]; exact c2 b o n e
    replace vsg : upd N2 x (.ins A.c_Ring dx (putF "day_of" (.ref dy) (putF "signed" (.ref sg) (putF "house_count" (.int (h : Nat)) ([]))))) sg = some (.lst []) := by rw [upd_ne nxsg]; exact vsg
    replace vdy : upd N2 x (.ins A.c_Ring dx (putF "day_of" (.ref dy) (putF "signed" (.ref sg) (putF "house_count" (.int (h : Nat)) ([]))))) dy = some (.dK []) := by rw [upd_ne nxdy]; exact vdy
    generalize upd N2 x (.ins A.c_Ring dx (putF "day_of" (.ref dy) (putF "signed" (.ref sg) (putF "house_count" (.int (h : Nat)) ([]))))) = M2 at *
    have nsg_3 : ∀ b, M2 b = none → sg ≠ b := fun b e z => by rw [← z, vsg] at e; cases e
    have ndy_3 : ∀ b, M2 b = none → dy ≠ b := fun b e z => by rw [← z, vdy] at e; cases e
    try dsimp only [List.set_cons_zero, List.set_cons_succ]
    intro lr hlr
    have ulr := same_upd (o := .dK []) hlr
    have vlr := upd_same (H := M2) (a := lr) (o := .dK [])
    generalize upd M2 lr (.dK []) = N3 at *
    have hy3 := ulr _ _ hx3
    have c3 : ∀ b o, b ≠ x → H b = some o → N3 b = some o := fun b o n e => ulr _ _ (b3 b o n e)
    replace vsg := ulr _ _ vsg
    replace vdy := ulr _ _ vdy
    have flr : H lr = none := by
      cases e : H lr with
      | none => rfl
      | some o => rw [b3 _ o (fun z => by rw [z, hx3] at hlr; cases hlr) e] at hlr; cases hlr
    have nxlr : lr ≠ x := fun z => by rw [z, hx3] at hlr; cases hlr
    have nsglr := nsg_3 _ hlr
    have ndylr := ndy_3 _ hlr
    refine ⟨_, rfl, x, _, dx, _, rfl, hy3, T.cl_Ring, T.na_Ring_loss_rows, Nat.lt_of_le_of_lt l3 (by decide), ?_⟩
    have l4 := Nat.le_trans (length_putF "loss_rows" (.ref lr) (putF "day_of" (.ref dy) (putF "signed" (.ref sg) (putF "house_count" (.int (h : Nat)) ([]))))) (Nat.succ_le_succ l3)
    have hx4 := upd_same (H := N3) (a := x) (o := .ins A.c_Ring dx (putF "loss_rows" (.ref lr) (putF "day_of" (.ref dy) (putF "signed" (.ref sg) (putF "house_count" (.int (h : Nat)) ([]))))))
    have b4 : ∀ b o, b ≠ x → H b = some o → upd N3 x (.ins A.c_Ring dx (putF "loss_rows" (.ref lr) (putF "day_of" (.ref dy) (putF "signed" (.ref sg) (putF "house_count" (.int (h : Nat)) ([])))))) b = some o := fun b o n e => by rw [upd_ne n]; exact c3 b o n e
    replace vsg : upd N3 x (.ins A.c_Ring dx (putF "loss_rows" (.ref lr) (putF "day_of" (.ref dy) (putF "signed" (.ref sg) (putF "house_count" (.int (h : Nat)) ([])))))) sg = some (.lst []) := by rw [upd_ne nxsg]; exact vsg
    replace vdy : upd N3 x (.ins A.c_Ring dx (putF "loss_rows" (.ref lr) (putF "day_of" (.ref dy) (putF "signed" (.ref sg) (putF "house_count" (.int (h : Nat)) ([])))))) dy = some (.dK []) := by rw [upd_ne nxdy]; exact vdy
    replace vlr : upd N3 x (.ins A.c_Ring dx (putF "loss_rows" (.ref lr) (putF "day_of" (.ref dy) (putF "signed" (.ref sg) (putF "house_count" (.int (h : Nat)) ([])))))) lr = some (.dK []) := by rw [upd_ne nxlr]; exact vlr
    generalize upd N3 x (.ins A.c_Ring dx (putF "loss_rows" (.ref lr) (putF "day_of" (.ref dy) (putF "signed" (.ref sg) (putF "house_count" (.int (h : Nat)) ([])))))) = M3 at *
    have nsg_4 : ∀ b, M3 b = none → sg ≠ b := fun b e z => by rw [← z, vsg] at e; cases e
    have ndy_4 : ∀ b, M3 b = none → dy ≠ b := fun b e z => by rw [← z, vdy] at e; cases e
    have nlr_4 : ∀ b, M3 b = none → lr ≠ b := fun b e z => by rw [← z, vlr] at e; cases e
    refine ⟨_, rfl, x, _, dx, _, rfl, hx4, T.cl_Ring, T.na_Ring_next_happening, Nat.lt_of_le_of_lt l4 (by decide), ?_⟩
    have l5 := Nat.le_trans (length_putF "next_happening" (.int 0) (putF "loss_rows" (.ref lr) (putF "day_of" (.ref dy) (putF "signed" (.ref sg) (putF "house_count" (.int (h : Nat)) ([])))))) (Nat.succ_le_succ l4)
    have hx5 := upd_same (H := M3) (a := x) (o := .ins A.c_Ring dx (putF "next_happening" (.int 0) (putF "loss_rows" (.ref lr) (putF "day_of" (.ref dy) (putF "signed" (.ref sg) (putF "house_count" (.int (h : Nat)) ([])))))))
    have b5 : ∀ b o, b ≠ x → H b = some o → upd M3 x (.ins A.c_Ring dx (putF "next_happening" (.int 0) (putF "loss_rows" (.ref lr) (putF "day_of" (.ref dy) (putF "signed" (.ref sg) (putF "house_count" (.int (h : Nat)) ([]))))))) b = some o := fun b o n e => by rw [upd_ne n]; exact b4 b o n e
    replace vsg : upd M3 x (.ins A.c_Ring dx (putF "next_happening" (.int 0) (putF "loss_rows" (.ref lr) (putF "day_of" (.ref dy) (putF "signed" (.ref sg) (putF "house_count" (.int (h : Nat)) ([]))))))) sg = some (.lst []) := by rw [upd_ne nxsg]; exact vsg
    replace vdy : upd M3 x (.ins A.c_Ring dx (putF "next_happening" (.int 0) (putF "loss_rows" (.ref lr) (putF "day_of" (.ref dy) (putF "signed" (.ref sg) (putF "house_count" (.int (h : Nat)) ([]))))))) dy = some (.dK []) := by rw [upd_ne nxdy]; exact vdy
    replace vlr : upd M3 x (.ins A.c_Ring dx (putF "next_happening" (.int 0) (putF "loss_rows" (.ref lr) (putF "day_of" (.ref dy) (putF "signed" (.ref sg) (putF "house_count" (.int (h : Nat)) ([]))))))) lr = some (.dK []) := by rw [upd_ne nxlr]; exact vlr
    generalize upd M3 x (.ins A.c_Ring dx (putF "next_happening" (.int 0) (putF "loss_rows" (.ref lr) (putF "day_of" (.ref dy) (putF "signed" (.ref sg) (putF "house_count" (.int (h : Nat)) ([]))))))) = M4 at *
    have nsg_5 : ∀ b, M4 b = none → sg ≠ b := fun b e z => by rw [← z, vsg] at e; cases e
    have ndy_5 : ∀ b, M4 b = none → dy ≠ b := fun b e z => by rw [← z, vdy] at e; cases e
    have nlr_5 : ∀ b, M4 b = none → lr ≠ b := fun b e z => by rw [← z, vlr] at e; cases e
    refine ⟨_, rfl, x, _, dx, _, rfl, hx5, T.cl_Ring, T.na_Ring_next_loss, Nat.lt_of_le_of_lt l5 (by decide), ?_⟩
    have l6 := Nat.le_trans (length_putF "next_loss" (.int 0) (putF "next_happening" (.int 0) (putF "loss_rows" (.ref lr) (putF "day_of" (.ref dy) (putF "signed" (.ref sg) (putF "house_count" (.int (h : Nat)) ([]))))))) (Nat.succ_le_succ l5)
    have hx6 := upd_same (H := M4) (a := x) (o := .ins A.c_Ring dx (putF "next_loss" (.int 0) (putF "next_happening" (.int 0) (putF "loss_rows" (.ref lr) (putF "day_of" (.ref dy) (putF "signed" (.ref sg) (putF "house_count" (.int (h : Nat)) ([]))))))))
    have b6 : ∀ b o, b ≠ x → H b = some o → upd M4 x (.ins A.c_Ring dx (putF "next_loss" (.int 0) (putF "next_happening" (.int 0) (putF "loss_rows" (.ref lr) (putF "day_of" (.ref dy) (putF "signed" (.ref sg) (putF "house_count" (.int (h : Nat)) ([])))))))) b = some o := fun b o n e => by rw [upd_ne n]; exact b5 b o n e
    replace vsg : upd M4 x (.ins A.c_Ring dx (putF "next_loss" (.int 0) (putF "next_happening" (.int 0) (putF "loss_rows" (.ref lr) (putF "day_of" (.ref dy) (putF "signed" (.ref sg) (putF "house_count" (.int (h : Nat)) ([])))))))) sg = some (.lst []) := by rw [upd_ne nxsg]; exact vsg
    replace vdy : upd M4 x (.ins A.c_Ring dx (putF "next_loss" (.int 0) (putF "next_happening" (.int 0) (putF "loss_rows" (.ref lr) (putF "day_of" (.ref dy) (putF "signed" (.ref sg) (putF "house_count" (.int (h : Nat)) ([])))))))) dy = some (.dK []) := by rw [upd_ne nxdy]; exact vdy
    replace vlr : upd M4 x (.ins A.c_Ring dx (putF "next_loss" (.int 0) (putF "next_happening" (.int 0) (putF "loss_rows" (.ref lr) (putF "day_of" (.ref dy) (putF "signed" (.ref sg) (putF "house_count" (.int (h : Nat)) ([])))))))) lr = some (.dK []) := by rw [upd_ne nxlr]; exact vlr
    generalize upd M4 x (.ins A.c_Ring dx (putF "next_loss" (.int 0) (putF "next_happening" (.int 0) (putF "loss_rows" (.ref lr) (putF "day_of" (.ref dy) (putF "signed" (.ref sg) (putF "house_count" (.int (h : Nat)) ([])))))))) = M5 at *
    have nsg_6 : ∀ b, M5 b = none → sg ≠ b := fun b e z => by rw [← z, vsg] at e; cases e
    have ndy_6 : ∀ b, M5 b = none → dy ≠ b := fun b e z => by rw [← z, vdy] at e; cases e
    have nlr_6 : ∀ b, M5 b = none → lr ≠ b := fun b e z => by rw [← z, vlr] at e; cases e
    try dsimp only [List.set_cons_zero, List.set_cons_succ]
    refine ⟨Nat.zero_le _, fun pp hpp => ?_⟩
    have upp := same_upd (o := .lst []) hpp
    have vpp := upd_same (H := M5) (a := pp) (o := .lst [])
    generalize upd M5 pp (.lst []) = N6 at *
    have hy6 := upp _ _ hx6
    have c6 : ∀ b o, b ≠ x → H b = some o → N6 b = some o := fun b o n e => upp _ _ (b6 b o n e)
    replace vsg := upp _ _ vsg
    replace vdy := upp _ _ vdy
    replace vlr := upp _ _ vlr
    have fpp : H pp = none := by
      cases e : H pp with
      | none => rfl
      | some o => rw [b6 _ o (fun z => by rw [z, hx6] at hpp; cases hpp) e] at hpp; cases hpp
    have nxpp : pp ≠ x := fun z => by rw [z, hx6] at hpp; cases hpp
    have nsgpp := nsg_6 _ hpp
    have ndypp := ndy_6 _ hpp
    have nlrpp := nlr_6 _ hpp
    refine ⟨_, rfl, x, _, dx, _, rfl, hy6, T.cl_Ring, T.na_Ring_paid_parts, Nat.lt_of_le_of_lt l6 (by decide), ?_⟩
    have l7 := Nat.le_trans (length_putF "paid_parts" (.ref pp) (putF "next_loss" (.int 0) (putF "next_happening" (.int 0) (putF "loss_rows" (.ref lr) (putF "day_of" (.ref dy) (putF "signed" (.ref sg) (putF "house_count" (.int (h : Nat)) ([])))))))) (Nat.succ_le_succ l6)
    have hx7 := upd_same (H := N6) (a := x) (o := .ins A.c_Ring dx (putF "paid_parts" (.ref pp) (putF "next_loss" (.int 0) (putF "next_happening" (.int 0) (putF "loss_rows" (.ref lr) (putF "day_of" (.ref dy) (putF "signed" (.ref sg) (putF "house_count" (.int (h : Nat)) ([])))))))))
    have b7 : ∀ b o, b ≠ x → H b = some o → upd N6 x (.ins A.c_Ring dx (putF "paid_parts" (.ref pp) (putF "next_loss" (.int 0) (putF "next_happening" (.int 0) (putF "loss_rows" (.ref lr) (putF "day_of" (.ref dy) (putF "signed" (.ref sg) (putF "house_count" (.int (h : Nat)) ([]))))))))) b = some o := fun b o n e => by rw [upd_ne n]; exact c6 b o n e
    replace vsg : upd N6 x (.ins A.c_Ring dx (putF "paid_parts" (.ref pp) (putF "next_loss" (.int 0) (putF "next_happening" (.int 0) (putF "loss_rows" (.ref lr) (putF "day_of" (.ref dy) (putF "signed" (.ref sg) (putF "house_count" (.int (h : Nat)) ([]))))))))) sg = some (.lst []) := by rw [upd_ne nxsg]; exact vsg
    replace vdy : upd N6 x (.ins A.c_Ring dx (putF "paid_parts" (.ref pp) (putF "next_loss" (.int 0) (putF "next_happening" (.int 0) (putF "loss_rows" (.ref lr) (putF "day_of" (.ref dy) (putF "signed" (.ref sg) (putF "house_count" (.int (h : Nat)) ([]))))))))) dy = some (.dK []) := by rw [upd_ne nxdy]; exact vdy
    replace vlr : upd N6 x (.ins A.c_Ring dx (putF "paid_parts" (.ref pp) (putF "next_loss" (.int 0) (putF "next_happening" (.int 0) (putF "loss_rows" (.ref lr) (putF "day_of" (.ref dy) (putF "signed" (.ref sg) (putF "house_count" (.int (h : Nat)) ([]))))))))) lr = some (.dK []) := by rw [upd_ne nxlr]; exact vlr
    replace vpp : upd N6 x (.ins A.c_Ring dx (putF "paid_parts" (.ref pp) (putF "next_loss" (.int 0) (putF "next_happening" (.int 0) (putF "loss_rows" (.ref lr) (putF "day_of" (.ref dy) (putF "signed" (.ref sg) (putF "house_count" (.int (h : Nat)) ([]))))))))) pp = some (.lst []) := by rw [upd_ne nxpp]; exact vpp
    generalize upd N6 x (.ins A.c_Ring dx (putF "paid_parts" (.ref pp) (putF "next_loss" (.int 0) (putF "next_happening" (.int 0) (putF "loss_rows" (.ref lr) (putF "day_of" (.ref dy) (putF "signed" (.ref sg) (putF "house_count" (.int (h : Nat)) ([]))))))))) = M6 at *
    have nsg_7 : ∀ b, M6 b = none → sg ≠ b := fun b e z => by rw [← z, vsg] at e; cases e
    have ndy_7 : ∀ b, M6 b = none → dy ≠ b := fun b e z => by rw [← z, vdy] at e; cases e
    have nlr_7 : ∀ b, M6 b = none → lr ≠ b := fun b e z => by rw [← z, vlr] at e; cases e
    have npp_7 : ∀ b, M6 b = none → pp ≠ b := fun b e z => by rw [← z, vpp] at e; cases e
    refine ⟨Nat.zero_le _, fun tc htc => ?_⟩
    have utc := same_upd (o := .lst []) htc
    have vtc := upd_same (H := M6) (a := tc) (o := .lst [])
    generalize upd M6 tc (.lst []) = N7 at *
    have hy7 := utc _ _ hx7
    have c7 : ∀ b o, b ≠ x → H b = some o → N7 b = some o := fun b o n e => utc _ _ (b7 b o n e)
    replace vsg := utc _ _ vsg
    replace vdy := utc _ _ vdy
    replace vlr := utc _ _ vlr
    replace vpp := utc _ _ vpp
    have ftc : H tc = none := by
      cases e : H tc with
      | none => rfl
      | some o => rw [b7 _ o (fun z => by rw [z, hx7] at htc; cases htc) e] at htc; cases htc
    have nxtc : tc ≠ x := fun z => by rw [z, hx7] at htc; cases htc
    have nsgtc := nsg_7 _ htc
    have ndytc := ndy_7 _ htc
    have nlrtc := nlr_7 _ htc
    have npptc := npp_7 _ htc
    refine ⟨_, rfl, x, _, dx, _, rfl, hy7, T.cl_Ring, T.na_Ring_told_closings, Nat.lt_of_le_of_lt l7 (by decide), ?_⟩
    have l8 := Nat.le_trans (length_putF "told_closings" (.ref tc) (putF "paid_parts" (.ref pp) (putF "next_loss" (.int 0) (putF "next_happening" (.int 0) (putF "loss_rows" (.ref lr) (putF "day_of" (.ref dy) (putF "signed" (.ref sg) (putF "house_count" (.int (h : Nat)) ([]))))))))) (Nat.succ_le_succ l7)
    have hx8 := upd_same (H := N7) (a := x) (o := .ins A.c_Ring dx (putF "told_closings" (.ref tc) (putF "paid_parts" (.ref pp) (putF "next_loss" (.int 0) (putF "next_happening" (.int 0) (putF "loss_rows" (.ref lr) (putF "day_of" (.ref dy) (putF "signed" (.ref sg) (putF "house_count" (.int (h : Nat)) ([]))))))))))
    have b8 : ∀ b o, b ≠ x → H b = some o → upd N7 x (.ins A.c_Ring dx (putF "told_closings" (.ref tc) (putF "paid_parts" (.ref pp) (putF "next_loss" (.int 0) (putF "next_happening" (.int 0) (putF "loss_rows" (.ref lr) (putF "day_of" (.ref dy) (putF "signed" (.ref sg) (putF "house_count" (.int (h : Nat)) ([])))))))))) b = some o := fun b o n e => by rw [upd_ne n]; exact c7 b o n e
    replace vsg : upd N7 x (.ins A.c_Ring dx (putF "told_closings" (.ref tc) (putF "paid_parts" (.ref pp) (putF "next_loss" (.int 0) (putF "next_happening" (.int 0) (putF "loss_rows" (.ref lr) (putF "day_of" (.ref dy) (putF "signed" (.ref sg) (putF "house_count" (.int (h : Nat)) ([])))))))))) sg = some (.lst []) := by rw [upd_ne nxsg]; exact vsg
    replace vdy : upd N7 x (.ins A.c_Ring dx (putF "told_closings" (.ref tc) (putF "paid_parts" (.ref pp) (putF "next_loss" (.int 0) (putF "next_happening" (.int 0) (putF "loss_rows" (.ref lr) (putF "day_of" (.ref dy) (putF "signed" (.ref sg) (putF "house_count" (.int (h : Nat)) ([])))))))))) dy = some (.dK []) := by rw [upd_ne nxdy]; exact vdy
    replace vlr : upd N7 x (.ins A.c_Ring dx (putF "told_closings" (.ref tc) (putF "paid_parts" (.ref pp) (putF "next_loss" (.int 0) (putF "next_happening" (.int 0) (putF "loss_rows" (.ref lr) (putF "day_of" (.ref dy) (putF "signed" (.ref sg) (putF "house_count" (.int (h : Nat)) ([])))))))))) lr = some (.dK []) := by rw [upd_ne nxlr]; exact vlr
    replace vpp : upd N7 x (.ins A.c_Ring dx (putF "told_closings" (.ref tc) (putF "paid_parts" (.ref pp) (putF "next_loss" (.int 0) (putF "next_happening" (.int 0) (putF "loss_rows" (.ref lr) (putF "day_of" (.ref dy) (putF "signed" (.ref sg) (putF "house_count" (.int (h : Nat)) ([])))))))))) pp = some (.lst []) := by rw [upd_ne nxpp]; exact vpp
    replace vtc : upd N7 x (.ins A.c_Ring dx (putF "told_closings" (.ref tc) (putF "paid_parts" (.ref pp) (putF "next_loss" (.int 0) (putF "next_happening" (.int 0) (putF "loss_rows" (.ref lr) (putF "day_of" (.ref dy) (putF "signed" (.ref sg) (putF "house_count" (.int (h : Nat)) ([])))))))))) tc = some (.lst []) := by rw [upd_ne nxtc]; exact vtc
    generalize upd N7 x (.ins A.c_Ring dx (putF "told_closings" (.ref tc) (putF "paid_parts" (.ref pp) (putF "next_loss" (.int 0) (putF "next_happening" (.int 0) (putF "loss_rows" (.ref lr) (putF "day_of" (.ref dy) (putF "signed" (.ref sg) (putF "house_count" (.int (h : Nat)) ([])))))))))) = M7 at *
    have nsg_8 : ∀ b, M7 b = none → sg ≠ b := fun b e z => by rw [← z, vsg] at e; cases e
    have ndy_8 : ∀ b, M7 b = none → dy ≠ b := fun b e z => by rw [← z, vdy] at e; cases e
    have nlr_8 : ∀ b, M7 b = none → lr ≠ b := fun b e z => by rw [← z, vlr] at e; cases e
    have npp_8 : ∀ b, M7 b = none → pp ≠ b := fun b e z => by rw [← z, vpp] at e; cases e
    have ntc_8 : ∀ b, M7 b = none → tc ≠ b := fun b e z => by rw [← z, vtc] at e; cases e
    refine ⟨_, rfl, x, _, dx, _, rfl, hx8, T.cl_Ring, T.na_Ring_reckoning, Nat.lt_of_le_of_lt l8 (by decide), ?_⟩
    have l9 := Nat.le_trans (length_putF "reckoning" .non (putF "told_closings" (.ref tc) (putF "paid_parts" (.ref pp) (putF "next_loss" (.int 0) (putF "next_happening" (.int 0) (putF "loss_rows" (.ref lr) (putF "day_of" (.ref dy) (putF "signed" (.ref sg) (putF "house_count" (.int (h : Nat)) ([])))))))))) (Nat.succ_le_succ l8)
    have hx9 := upd_same (H := M7) (a := x) (o := .ins A.c_Ring dx (putF "reckoning" .non (putF "told_closings" (.ref tc) (putF "paid_parts" (.ref pp) (putF "next_loss" (.int 0) (putF "next_happening" (.int 0) (putF "loss_rows" (.ref lr) (putF "day_of" (.ref dy) (putF "signed" (.ref sg) (putF "house_count" (.int (h : Nat)) ([])))))))))))
    have b9 : ∀ b o, b ≠ x → H b = some o → upd M7 x (.ins A.c_Ring dx (putF "reckoning" .non (putF "told_closings" (.ref tc) (putF "paid_parts" (.ref pp) (putF "next_loss" (.int 0) (putF "next_happening" (.int 0) (putF "loss_rows" (.ref lr) (putF "day_of" (.ref dy) (putF "signed" (.ref sg) (putF "house_count" (.int (h : Nat)) ([]))))))))))) b = some o := fun b o n e => by rw [upd_ne n]; exact b8 b o n e
    replace vsg : upd M7 x (.ins A.c_Ring dx (putF "reckoning" .non (putF "told_closings" (.ref tc) (putF "paid_parts" (.ref pp) (putF "next_loss" (.int 0) (putF "next_happening" (.int 0) (putF "loss_rows" (.ref lr) (putF "day_of" (.ref dy) (putF "signed" (.ref sg) (putF "house_count" (.int (h : Nat)) ([]))))))))))) sg = some (.lst []) := by rw [upd_ne nxsg]; exact vsg
    replace vdy : upd M7 x (.ins A.c_Ring dx (putF "reckoning" .non (putF "told_closings" (.ref tc) (putF "paid_parts" (.ref pp) (putF "next_loss" (.int 0) (putF "next_happening" (.int 0) (putF "loss_rows" (.ref lr) (putF "day_of" (.ref dy) (putF "signed" (.ref sg) (putF "house_count" (.int (h : Nat)) ([]))))))))))) dy = some (.dK []) := by rw [upd_ne nxdy]; exact vdy
    replace vlr : upd M7 x (.ins A.c_Ring dx (putF "reckoning" .non (putF "told_closings" (.ref tc) (putF "paid_parts" (.ref pp) (putF "next_loss" (.int 0) (putF "next_happening" (.int 0) (putF "loss_rows" (.ref lr) (putF "day_of" (.ref dy) (putF "signed" (.ref sg) (putF "house_count" (.int (h : Nat)) ([]))))))))))) lr = some (.dK []) := by rw [upd_ne nxlr]; exact vlr
    replace vpp : upd M7 x (.ins A.c_Ring dx (putF "reckoning" .non (putF "told_closings" (.ref tc) (putF "paid_parts" (.ref pp) (putF "next_loss" (.int 0) (putF "next_happening" (.int 0) (putF "loss_rows" (.ref lr) (putF "day_of" (.ref dy) (putF "signed" (.ref sg) (putF "house_count" (.int (h : Nat)) ([]))))))))))) pp = some (.lst []) := by rw [upd_ne nxpp]; exact vpp
    replace vtc : upd M7 x (.ins A.c_Ring dx (putF "reckoning" .non (putF "told_closings" (.ref tc) (putF "paid_parts" (.ref pp) (putF "next_loss" (.int 0) (putF "next_happening" (.int 0) (putF "loss_rows" (.ref lr) (putF "day_of" (.ref dy) (putF "signed" (.ref sg) (putF "house_count" (.int (h : Nat)) ([]))))))))))) tc = some (.lst []) := by rw [upd_ne nxtc]; exact vtc
    generalize upd M7 x (.ins A.c_Ring dx (putF "reckoning" .non (putF "told_closings" (.ref tc) (putF "paid_parts" (.ref pp) (putF "next_loss" (.int 0) (putF "next_happening" (.int 0) (putF "loss_rows" (.ref lr) (putF "day_of" (.ref dy) (putF "signed" (.ref sg) (putF "house_count" (.int (h : Nat)) ([]))))))))))) = M8 at *
    have nsg_9 : ∀ b, M8 b = none → sg ≠ b := fun b e z => by rw [← z, vsg] at e; cases e
    have ndy_9 : ∀ b, M8 b = none → dy ≠ b := fun b e z => by rw [← z, vdy] at e; cases e
    have nlr_9 : ∀ b, M8 b = none → lr ≠ b := fun b e z => by rw [← z, vlr] at e; cases e
    have npp_9 : ∀ b, M8 b = none → pp ≠ b := fun b e z => by rw [← z, vpp] at e; cases e
    have ntc_9 : ∀ b, M8 b = none → tc ≠ b := fun b e z => by rw [← z, vtc] at e; cases e
    try dsimp only [List.set_cons_zero, List.set_cons_succ]
    exact kk sg dy lr pp tc M8 b9 fsg fdy flr fpp ftc ⟨⟨dx, _, [], [], hx9, RgO.mk9, vsg, .nil, vpp, rfl⟩, vdy, vlr, vtc, nsgpp, nsgtc⟩
def sp_Ring_sign (K : Frag) (A : Adr) : Sp := fun vs H Q E => ∃ (x p : Addr) (h : Nat) (ts : List Tm) (t : Tm) (sg dy lr pp tc : Addr), vs = [.ref x, .ref p] ∧ Rg0 A.c_Ring K H x h ts sg dy lr pp tc ∧ TmAt K H p t ∧ ts.length ≤ 10 ∧
  (termsB h t = false → ∀ H', Same H H' → E (.ref A.c_BadTerms) none H') ∧ (termsB h t = true → ts.length = 10 → ∀ H', Same H H' → E (.ref A.c_Full) none H') ∧
  (termsB h t = true → ts.length < 10 → ∀ pp' H', SameX [x, sg] H H' → SameU H H' → H pp' = none → Rg0 A.c_Ring K H' x h (ts ++ [t]) sg dy lr pp' tc → Q (.int (ts.length : Nat)) H')
theorem sc_Ring_sign : FnScope ["self", "terms"] ["self", "terms"] (defScope s_Ring_sign) := ⟨rfl, rfl, rfl, by decide +kernel, rfl, by decide +kernel, by decide +kernel⟩
set_option maxHeartbeats 4000000 in
theorem ok_Ring_sign (T : Txt w K mg A) (hB : BmAt mg base) : FnOk P w K mg base (CXW P w) 4 A.a_Ring_sign A.f_Ring_sign ["self", "terms"] (sp_Ring_sign K A) := by
  have nd := sc_Ring_sign.nd
  have G_is_terms := ok_is_terms (P := P) (w := w) (base := base) T hB
  refine T.F_Ring_sign.okW sc_Ring_sign (fun vs H Q E h => ?_) (fun cdv Ar outer s H vs Q E hr h => ?_)
  · obtain ⟨x, p, h, ts, t, sg, dy, lr, pp, tc, rfl, _⟩ := h; rfl
  · skip
    obtain ⟨x, p, h, ts, t, sg, dy, lr, pp, tc, rfl, R, ht, hl10, eb, ef, kk⟩ := h
    obtain ⟨dx, fs, us, ps, hx, O, hsg, hS, hpp, hpl⟩ := R.ex
    have hul := hS.len
    refine PSs.rd (pss_cons (ps_if (pt_not (pt_truth (pe_call (G_is_terms.mono (by decide)) hr rfl T.m_is_terms T.k_is_terms T.d_is_terms .nil pass0 (pa_cons (pe_fld (pvI 0) rfl) (pa_cons (pvI 1) pa_nil))) (fun _ => rfl)))
      (pss_one (ps_raise flies rfl rfl T.mc_BadTerms T.x_BadTerms PySem.F.excBase_ValueError (pa_cons pe_str pa_nil)))
      pss_nil)
    (pss_cons (ps_if (pt_cmpR op_eq (pe_callB call_len_seq rfl T.b_len PySem.boot_len (pa_cons (pe_fld (pvI 0) rfl) pa_nil)) (pe_globI rfl T.c_MOST_COVERS) (nomark _))
      (pss_one (ps_raise flies rfl rfl T.mc_Full T.x_Full PySem.F.excBase_ValueError (pa_cons (pe_fs (pj_str (pj_int (pe_globI rfl T.c_MOST_COVERS) (pj_str pj_nil)))) pa_nil)))
      pss_nil)
    (pss_cons (ps_expr (pe_bm PySem.F.plainAttrs_list PySem.F.slot_list_append PySem.F.type_list_append mt_append (pe_fld (pvI 0) rfl) (pa_cons (pe_tup (pa_cons (pvI 1) (pa_cons pe_non pa_nil))) pa_nil)))
    (pss_cons (ps_fld (pvI 0) (pe_op op_cat (pe_fld (pvI 0) rfl) (pe_lst (pa_cons (lcA (defScope s_Ring_sign) (pi_tup (pe_ix (ix_tupI K rfl) (pvI 1) (pe_un un_neg pe_int) (fun _ _ => rfl))) (fun _ _ _ _ _ => pgc 1) (fun _ _ _ _ _ => pts_nil) (fun _ _ _ _ _ => pe_int)) pa_nil))) rfl)
    (pss_cons (ps_fld (pvI 0) pe_non rfl)
    (pss_one (ps_ret (pe_op op_subI (pe_callB call_len_seq rfl T.b_len PySem.boot_len (pa_cons (pe_fld (pvI 0) rfl) pa_nil)) pe_int)))))))) ?_
    refine ⟨_, rfl, x, _, dx, fs, _, rfl, hx, T.cl_Ring, T.na_Ring_house_count, O.hc, _, rfl, (h : Int), p, t, rfl, ht, fun H1 s1 => ⟨_, rfl, iteNB (fun e => ?_) (fun e => ?_)⟩⟩
    · exact ⟨by show 1 ≤ sizeLine; decide, eb e H1 s1⟩
    have R1 := R.same s1
    have hx1 := s1 _ _ hx
    have hsg1 := s1 _ _ hsg
    have hpp1 := s1 _ _ hpp
    have hS1 := SgAt.u (Same.u s1) hS
    have ht1 := TmAt.same s1 ht
    have okt := okTm_of ht e
    refine ⟨_, rfl, x, _, dx, fs, _, rfl, hx1, T.cl_Ring, T.na_Ring_signed, O.sg_, sg, us, rfl, .inl (SqL.of hsg1), rfl, _, rfl, iteD (fun z => ?_) (fun z => ?_)⟩
    · have hl : ts.length = 10 := by have := V.int.inj z; omega
      exact ⟨by decide +kernel, 10, rfl, by decide, by decide +kernel, by decide +kernel, by decide +kernel, by show 1 ≤ sizeLine; decide, ef e hl H1 s1⟩
    have hl : ts.length < 10 := by
      have : ts.length ≠ 10 := fun y => z (by rw [hul, y]; rfl)
      omega
    refine ⟨_, rfl, x, _, dx, fs, _, rfl, hx1, T.cl_Ring, T.na_Ring_signed, O.sg_, .inl ⟨rfl, _, SqL.of hsg1⟩, _, rfl, by show 2 ≤ sizeLine; decide, fun q hq => ?_⟩
    have s2 := same_upd (o := .tup [.ref p, .non]) hq
    have r2 := upd_same (H := H1) (a := q) (o := .tup [.ref p, .non])
    generalize upd H1 q (.tup [.ref p, .non]) = H2 at *
    have hsg2 := s2 _ _ hsg1
    refine ⟨sg, us, _, rfl, rfl, hsg2, small_line (by omega), ?_⟩
    have s02 := s1.trans s2
    have hx2 := s02 _ _ hx
    have nxs : x ≠ sg := fun z => by rw [z, hsg2] at hx2; cases hx2
    refine byC fun hG => ?_
    obtain ⟨xs, lp, L, hp, hla, hL, hLl⟩ := TmAt.last ht okt
    have u2 : SameU H2 (upd H2 sg (.lst (us ++ [.ref q]))) := SameX.u (E := [sg]) (SameX.upd List.mem_cons_self) fun b hb => by
      rw [List.mem_singleton.mp hb, hsg2]
      exact ⟨(fun _ z => by cases z), (fun _ _ z => by cases z)⟩
    have b3 : SameX [sg] H2 (upd H2 sg (.lst (us ++ [.ref q]))) := SameX.upd List.mem_cons_self
    have r3 := upd_same (H := H2) (a := sg) (o := .lst (us ++ [.ref q]))
    refine hG ?_
    generalize upd H2 sg (.lst (us ++ [.ref q])) = H3 at *
    have u03 : SameU H H3 := ⟨fun b ys e => u2.1 _ _ (s02 _ _ e), fun b o u e => u2.2 _ _ _ (s02 _ _ e)⟩
    have hx3 := b3 x _ (fun z => nxs (List.mem_singleton.mp z)) hx2
    have hpp3 := b3 pp _ (fun z => R.np (List.mem_singleton.mp z).symm) (s02 _ _ hpp)
    have hp3 := SqT.u u03 hp
    have hL3 := LinesAt.u u03 hL
    refine byC fun hG => ?_
    obtain ⟨vs, hvs, hvp⟩ := hL3.ex
    have hvl := hvp.len
    refine hG ?_
    refine ⟨_, rfl, x, _, dx, fs, _, rfl, hx3, T.cl_Ring, T.na_Ring_paid_parts, O.pp_, _, rfl, _, rfl, p, xs, _, _, rfl, rfl, hp3, hla, lp, rfl, ⟨_, hvs⟩, ?_⟩
    refine lc_by (xs := vs) (ws := List.replicate vs.length (.int 0)) (itOf_tup hvs) (fun σ => ∃ x0 x1, σ = [x0, x1]) ⟨_, _, rfl⟩ List.length_replicate (Nat.le_of_lt (small_line (by omega))) ?_ ?_
    · intro i v w σ2 H4 Qt Qf hv hw s4 zz1 q
      refine byC fun hG => ?_
      obtain ⟨x0, x1, rfl⟩ := zz1
      have ew : w = .int 0 := by
        have hlt := get_lt hv
        rw [List.getElem?_replicate, if_pos hlt] at hw
        exact (Option.some.inj hw).symm
      refine hG ?_
      rw [ew] at q
      exact q _ ⟨_, _, rfl⟩
    intro D hD
    have s4 := same_upd (o := .lst (List.replicate vs.length (.int 0))) hD
    have r4 := upd_same (H := H3) (a := D) (o := .lst (List.replicate vs.length (.int 0)))
    generalize upd H3 D (.lst (List.replicate vs.length (.int 0))) = H4 at *
    refine ⟨by show 1 ≤ sizeLine; decide, fun l hl1 => ?_⟩
    have s5 := same_upd (o := .lst [.ref D]) hl1
    have r5 := upd_same (H := H4) (a := l) (o := .lst [.ref D])
    generalize upd H4 l (.lst [.ref D]) = H5 at *
    have s35 := s4.trans s5
    refine ⟨pp, l, ps, _, rfl, rfl, s35 _ _ hpp3, r5, Nat.le_of_lt (small_line (by show ps.length + 1 ≤ 100000; omega)), fun pp' hpp' => ?_⟩
    have s6 := same_upd (o := .lst (ps ++ [.ref D])) hpp'
    have r6 := upd_same (H := H5) (a := pp') (o := .lst (ps ++ [.ref D]))
    generalize upd H5 pp' (.lst (ps ++ [.ref D])) = H6 at *
    have s36 := s35.trans s6
    have hx6 := s36 _ _ hx3
    have nsp : sg ≠ pp' := fun z => by have := s35 _ _ r3; rw [z, hpp'] at this; cases this
    have nxp : x ≠ pp' := fun z => by rw [← z, s35 _ _ hx3] at hpp'; cases hpp'
    have fpp : H pp' = none := by
      cases e0 : H pp' with
      | none => rfl
      | some o =>
        have := s35 _ _ (b3 pp' o (fun z => nsp (List.mem_singleton.mp z).symm) (s02 _ _ e0))
        rw [hpp'] at this; cases this
    refine ⟨_, rfl, x, _, dx, fs, rfl, hx6, T.cl_Ring, T.na_Ring_paid_parts, Nat.lt_of_le_of_lt O.len (by decide), ?_⟩
    have O7 := O.setP pp'
    refine ⟨_, rfl, x, _, dx, _, rfl, upd_same, T.cl_Ring, T.na_Ring_reckoning, Nat.lt_of_le_of_lt O7.len (by decide), ?_⟩
    have O8 := O7.setR .non
    have up8 : ∀ b o, b ≠ x → H6 b = some o → upd (upd H6 x (.ins A.c_Ring dx (putF "paid_parts" (.ref pp') fs))) x (.ins A.c_Ring dx (putF "reckoning" .non (putF "paid_parts" (.ref pp') fs))) b = some o := fun b o n e0 => by rw [upd_ne n, upd_ne n]; exact e0
    have hx8 := upd_same (H := upd H6 x (.ins A.c_Ring dx (putF "paid_parts" (.ref pp') fs))) (a := x) (o := .ins A.c_Ring dx (putF "reckoning" .non (putF "paid_parts" (.ref pp') fs)))
    generalize upd (upd H6 x (.ins A.c_Ring dx (putF "paid_parts" (.ref pp') fs))) x (.ins A.c_Ring dx (putF "reckoning" .non (putF "paid_parts" (.ref pp') fs))) = H8 at *
    have hsg8 := up8 _ _ nxs.symm (s36 _ _ r3)
    refine ⟨_, rfl, x, _, dx, _, _, rfl, hx8, T.cl_Ring, T.na_Ring_signed, O8.sg_, sg, _, rfl, .inl (SqL.of hsg8), _, _, rfl, rfl, ?_⟩
    have el : (((us ++ [V.ref q]).length : Nat) : Int) - 1 = ((ts.length : Nat) : Int) := by rw [List.length_append, List.length_singleton]; omega
    rw [el]
    have sx : SameX [x, sg] H H8 := fun b o n e0 => by
      have n1 : b ≠ x := fun z => n (by rw [z]; exact List.mem_cons_self)
      have n2 : b ∉ [sg] := fun z => n (List.mem_cons_of_mem _ z)
      exact up8 b o n1 (s36 _ _ (b3 b o n2 (s02 _ _ e0)))
    have su : SameU H H8 := SameX.u sx fun b hb => by
      rcases List.mem_cons.mp hb with z | z
      · rw [z, hx]; exact ⟨(fun _ z => by cases z), (fun _ _ z => by cases z)⟩
      · rw [List.mem_singleton.mp z, hsg]; exact ⟨(fun _ z => by cases z), (fun _ _ z => by cases z)⟩
    have nin : ∀ {b : Addr}, b ≠ x → b ≠ sg → b ∉ [x, sg] := fun n1 n2 z => (List.mem_cons.mp z).elim n1 fun z => n2 (List.mem_singleton.mp z)
    have q8 : SqT K H8 q [.ref p, .non] := by
      have nq : q ∉ [sg] := fun z => by rw [List.mem_singleton.mp z, hsg2] at r2; cases r2
      have nqx : q ≠ x := fun z => by rw [z, hx2] at r2; cases r2
      exact SqT.of (up8 _ _ nqx (s36 _ _ (b3 _ _ nq r2)))
    refine kk e hl pp' H8 sx su fpp ⟨⟨dx, _, _, _, hx8, O8, hsg8, .snoc (SgAt.u su hS) q8 (TmAt.u su ht) okt, up8 _ _ nxp.symm r6, ?_⟩, ?_, ?_, ?_, nsp, R.nt⟩
    · rw [List.length_append, List.length_append, hpl]; rfl
    · exact sx _ _ (nin (fun z => by have := R.hdy; rw [z, hx] at this; cases this) (fun z => by have := R.hdy; rw [z, hsg] at this; cases this)) R.hdy
    · exact sx _ _ (nin (fun z => by have := R.hlr; rw [z, hx] at this; cases this) (fun z => by have := R.hlr; rw [z, hsg] at this; cases this)) R.hlr
    · exact sx _ _ (nin (fun z => by have := R.htc; rw [z, hx] at this; cases this) R.nt.symm) R.htc
def sp_Ring_covers (K : Frag) (A : Adr) : Sp := fun vs H Q _ => ∃ (x : Addr) (h : Nat) (ts : List Tm) (sg dy lr pp tc : Addr), vs = [.ref x] ∧ Rg0 A.c_Ring K H x h ts sg dy lr pp tc ∧ ∀ l us H', H l = none → Same H H' → H' l = some (.lst us) → SgAt K H' us ts → Q (.ref l) H'
theorem sc_Ring_covers : FnScope ["self"] ["self"] (defScope s_Ring_covers) := ⟨rfl, rfl, rfl, by decide +kernel, rfl, by decide +kernel, by decide +kernel⟩
set_option maxHeartbeats 4000000 in
theorem ok_Ring_covers (T : Txt w K mg A) (hB : BmAt mg base) : FnOk P w K mg base CX0 1 A.a_Ring_covers A.f_Ring_covers ["self"] (sp_Ring_covers K A) := by
  have nd := sc_Ring_covers.nd
  refine T.F_Ring_covers.ok sc_Ring_covers (fun vs H Q E h => ?_) (fun cdv Ar outer s H vs Q E hr h => ?_)
  · obtain ⟨x, h, ts, sg, dy, lr, pp, tc, rfl, _⟩ := h; rfl
  · skip
    obtain ⟨x, h, ts, sg, dy, lr, pp, tc, rfl, R, kk⟩ := h
    obtain ⟨dx, fs, us, ps, hx, O, hsg, hS, hpp, hpl⟩ := R.ex
    refine PSs.rd (pss_one (ps_ret (pe_callTy call_list_of rfl T.b_list boot_ty_list (pa_cons (pe_fld (pvI 0) rfl) pa_nil)))) ?_
    try dsimp only [L2.cxOf, L2.Cx.nox]
    refine ⟨_, rfl, x, _, dx, fs, _, rfl, hx, T.cl_Ring, T.na_Ring_signed, O.sg_, sg, us, rfl, .inl (SqL.of hsg), fun l hl => ?_⟩
    have s := same_upd (o := .lst us) hl
    exact kk l us _ hl s upd_same (SgAt.u (Same.u s) hS)
def sp_Ring_happenings (K : Frag) (A : Adr) : Sp := fun vs H Q _ => ∃ (x : Addr) (h : Nat) (ts : List Tm) (sg dy lr pp tc : Addr), vs = [.ref x] ∧ Rg0 A.c_Ring K H x h ts sg dy lr pp tc ∧ H A.lp_Ring_happenings = some (.tbl #[]) ∧ ∀ l H', SameX [A.lp_Ring_happenings] H H' → H' l = some (.lst []) → Q (.ref l) H'
theorem sc_Ring_happenings : FnScope ["self"] ["self"] (defScope s_Ring_happenings) := ⟨rfl, rfl, rfl, by decide +kernel, rfl, by decide +kernel, by decide +kernel⟩
set_option maxHeartbeats 4000000 in
theorem ok_Ring_happenings (T : Txt w K mg A) (hB : BmAt mg base) : FnOk P w K mg base CX0 1 A.a_Ring_happenings A.f_Ring_happenings ["self"] (sp_Ring_happenings K A) := by
  have nd := sc_Ring_happenings.nd
  refine T.F_Ring_happenings.okL T.lam_Ring_happenings sc_Ring_happenings (fun vs H Q E h => ?_) (fun Ar outer s H vs Q E hr h => ?_)
  · obtain ⟨x, h, ts, sg, dy, lr, pp, tc, rfl, _⟩ := h; rfl
  · skip
    obtain ⟨x, h, ts, sg, dy, lr, pp, tc, rfl, R, hP, kk⟩ := h
    obtain ⟨dx, fs, us, ps, hx, O, hsg, hS, hpp, hpl⟩ := R.ex
    refine PSs.rd (pss_one (ps_ret (pe_sortK0 rfl rfl T.b_sorted (pe_fld (pvI 0) rfl) rfl T.lam_Ring_happenings.hd hB))) ?_
    try dsimp only [L2.cxOf, L2.Cx.nox]
    refine ⟨_, rfl, x, _, dx, fs, _, rfl, hx, T.cl_Ring, T.na_Ring_day_of, O.dy_, dy, rfl, R.hdy, hP, fun l ps' hl => ?_⟩
    refine kk l _ (fun b o n e => ?_) upd_same
    have nl : b ≠ l := fun z => by rw [z, hl] at e; cases e
    have nP : b ≠ A.lp_Ring_happenings := fun z => n (by rw [z]; exact List.mem_cons_self)
    rw [upd_ne nl, upd_ne nP]; exact e
def sp_Ring_losses (K : Frag) (A : Adr) : Sp := fun vs H Q _ => ∃ (x : Addr) (h : Nat) (ts : List Tm) (sg dy lr pp tc : Addr), vs = [.ref x] ∧ Rg0 A.c_Ring K H x h ts sg dy lr pp tc ∧ ∀ l H', H l = none → Same H H' → H' l = some (.lst []) → Q (.ref l) H'
theorem sc_Ring_losses : FnScope ["self"] ["self"] (defScope s_Ring_losses) := ⟨rfl, rfl, rfl, by decide +kernel, rfl, by decide +kernel, by decide +kernel⟩
set_option maxHeartbeats 4000000 in
theorem ok_Ring_losses (T : Txt w K mg A) (hB : BmAt mg base) : FnOk P w K mg base CX0 1 A.a_Ring_losses A.f_Ring_losses ["self"] (sp_Ring_losses K A) := by
  have nd := sc_Ring_losses.nd
  refine T.F_Ring_losses.ok sc_Ring_losses (fun vs H Q E h => ?_) (fun cdv Ar outer s H vs Q E hr h => ?_)
  · obtain ⟨x, h, ts, sg, dy, lr, pp, tc, rfl, _⟩ := h; rfl
  · skip
    obtain ⟨x, h, ts, sg, dy, lr, pp, tc, rfl, R, kk⟩ := h
    obtain ⟨dx, fs, us, ps, hx, O, hsg, hS, hpp, hpl⟩ := R.ex
    refine PSs.rd (pss_one (ps_ret (lcA (defScope s_Ring_losses) (pi_list (pe_sort0 rfl rfl T.b_sorted (pe_fld (pvI 0) rfl))) (fun _ _ _ _ _ => pgc2 1 2) (fun _ _ _ _ _ => pts_nil) (fun _ _ _ _ _ => (pe_tup (pa_cons (pvI 1) (pa_cons (pe_ix (ix_tupI K rfl) (pvI 2) pe_int (fun _ _ => rfl)) (pa_cons (pe_ix (ix_tupI K rfl) (pvI 2) pe_int (fun _ _ => rfl)) (pa_cons (pe_ix (ix_tupI K rfl) (pvI 2) pe_int (fun _ _ => rfl)) pa_nil))))))))) ?_
    try dsimp only [L2.cxOf, L2.Cx.nox]
    refine ⟨_, rfl, x, _, dx, fs, _, rfl, hx, T.cl_Ring, T.na_Ring_loss_rows, O.lr_, lr, rfl, R.hlr, fun l0 hl0 => ?_⟩
    have s0 := same_upd (o := .lst []) hl0
    have r0 := upd_same (H := H) (a := l0) (o := .lst [])
    refine ⟨l0, rfl, ⟨_, SqL.of r0⟩, ?_⟩
    exact lc_by (xs := []) (ws := []) (itOf_list (SqL.of r0)) (fun _ => True) trivial rfl (Nat.zero_le _) (fun i x w σ2 H2 Qt Qf e => by simp at e) (fun D hD => kk D _ (s0.free hD) (s0.trans (same_upd hD)) upd_same)
def sp_Ring_closings (K : Frag) (A : Adr) : Sp := fun vs H Q _ => ∃ (x : Addr) (h : Nat) (ts : List Tm) (sg dy lr pp tc : Addr), vs = [.ref x] ∧ Rg0 A.c_Ring K H x h ts sg dy lr pp tc ∧ ∀ l H', H l = none → Same H H' → H' l = some (.lst []) → Q (.ref l) H'
theorem sc_Ring_closings : FnScope ["self"] ["self"] (defScope s_Ring_closings) := ⟨rfl, rfl, rfl, by decide +kernel, rfl, by decide +kernel, by decide +kernel⟩
set_option maxHeartbeats 4000000 in
theorem ok_Ring_closings (T : Txt w K mg A) (hB : BmAt mg base) : FnOk P w K mg base CX0 1 A.a_Ring_closings A.f_Ring_closings ["self"] (sp_Ring_closings K A) := by
  have nd := sc_Ring_closings.nd
  refine T.F_Ring_closings.ok sc_Ring_closings (fun vs H Q E h => ?_) (fun cdv Ar outer s H vs Q E hr h => ?_)
  · obtain ⟨x, h, ts, sg, dy, lr, pp, tc, rfl, _⟩ := h; rfl
  · skip
    obtain ⟨x, h, ts, sg, dy, lr, pp, tc, rfl, R, kk⟩ := h
    obtain ⟨dx, fs, us, ps, hx, O, hsg, hS, hpp, hpl⟩ := R.ex
    refine PSs.rd (pss_one (ps_ret (lcA (defScope s_Ring_closings) (pi_list (pe_fld (pvI 0) rfl)) (fun _ _ _ _ _ => pgc 1) (fun _ _ _ _ _ => pts_nil) (fun _ _ _ _ _ => (pe_callTy (call_list_ofK K rfl) rfl T.b_list boot_ty_list (pa_cons (pvI 1) pa_nil)))))) ?_
    try dsimp only [L2.cxOf, L2.Cx.nox]
    refine ⟨_, rfl, x, _, dx, fs, _, rfl, hx, T.cl_Ring, T.na_Ring_told_closings, O.tc_, tc, rfl, ⟨_, SqL.of R.htc⟩, ?_⟩
    exact lc_by (xs := []) (ws := []) (itOf_list (SqL.of R.htc)) (fun _ => True) trivial rfl (Nat.zero_le _) (fun i x w σ2 H2 Qt Qf e => by simp at e) (fun D hD => kk D _ hD (same_upd hD) upd_same)
def sp__law_draws (K : Frag) : Sp := fun vs H Q _ => ∃ (a : Addr) (ns : List Int) (n : Nat), vs = [.ref a, .int n] ∧ SqL K H a (ns.map V.int) ∧ ns.length ≤ 63 ∧ n ≤ 1000 ∧
  ∀ (p : Addr) (ds : List Int) (H' : Hp), H p = none → Same H H' → H' p = some (.lst (ds.map V.int)) → ds.length = n → InD ds → Q (.ref p) H'
theorem sc__law_draws : FnScope ["_law_script", "_law_many", "_law_row", "_law_seed", "_law_cell", "_law_rest", "_law_k"] ["_law_script", "_law_many"] (defScope s__law_draws) := ⟨rfl, rfl, rfl, by decide +kernel, rfl, by decide +kernel, by decide +kernel⟩
set_option maxHeartbeats 4000000 in
theorem ok__law_draws (T : Txt w K mg A) (hB : BmAt mg base) : FnOk P w K mg base CX0 1 A.a__law_draws A.f__law_draws ["_law_script", "_law_many"] (sp__law_draws K) := by
  have nd := sc__law_draws.nd
  refine T.F__law_draws.ok sc__law_draws (fun vs H Q E h => ?_) (fun cdv Ar outer s H vs Q E hr h => ?_)
  · obtain ⟨a, ns, n, rfl, _⟩ := h; rfl
  · skip
    obtain ⟨a, ns, n, rfl, hS, hl, hn, kk⟩ := h
    refine PSs.rd (pss_cons (ps_set (i := 2) nd rfl (Or.inl rfl) (pe_lst pa_nil))
    (pss_cons (ps_set (i := 3) nd rfl (Or.inl rfl) pe_int)
    (pss_cons (ps_for PassesOwn.never rfl (pi_list (pe_slice sl_list (pvI 0) po_none (po_some pe_int))) (pg_name (i := 4) nd rfl (Or.inl rfl))
      (pss_cons (ps_set (i := 3) nd rfl (Or.inl rfl) (pe_op op_modI (pe_op op_addI (pe_op op_addI (pe_op op_mulI (pvI 3) pe_int) (pe_op op_modI (pvI 4) pe_int)) pe_int) pe_int))
       (pss_cons (ps_set (i := 5) nd rfl (Or.inl rfl) (pe_op op_subI (pvI 4) (pe_op op_pow pe_int pe_int)))
       (pss_cons (ps_cut (ps_if (pt_cmpR op_ltI (pvI 5) pe_int (nomark _))
         (pss_one (ps_expr (pe_bm PySem.F.plainAttrs_list PySem.F.slot_list_append PySem.F.type_list_append mt_append (pvI 2) (pa_cons (pe_op op_modI (pvI 4) pe_int) pa_nil))))
         pss_nil))
       (pss_one (ps_for PassesOwn.never rfl (pi_range1 rfl T.b_range (pa_cons pe_int pa_nil)) (pg_name (i := 6) nd rfl (Or.inl rfl))
         (pss_one (ps_if (pt_cmpR op_gtI (pvI 5) pe_int (nomark _))
            (pss_cons (ps_expr (pe_bm PySem.F.plainAttrs_list PySem.F.slot_list_append PySem.F.type_list_append mt_append (pvI 2) (pa_cons (pe_op op_modI (pvI 5) pe_int) pa_nil)))
             (pss_one (ps_set (i := 5) nd rfl (Or.inl rfl) (pe_op op_fdivI (pvI 5) pe_int))))
            pss_nil))))))))
    (pss_cons (ps_for PassesOwn.never rfl (pi_range1 rfl T.b_range (pa_cons (pvI 1) pa_nil)) (pg_name (i := 6) nd rfl (Or.inl rfl))
      (pss_cons (ps_set (i := 3) nd rfl (Or.inl rfl) (pe_op op_modI (pe_op op_addI (pe_op op_addI (pe_op op_addI (pe_op op_mulI (pvI 3) (pvI 3)) (pe_op op_mulI pe_int (pvI 3))) (pe_op op_mulI pe_int (pvI 6))) pe_int) pe_int))
       (pss_one (ps_expr (pe_bm PySem.F.plainAttrs_list PySem.F.slot_list_append PySem.F.type_list_append mt_append (pvI 2) (pa_cons (pe_op op_modI (pe_op op_fdivI (pvI 3) pe_int) pe_int) pa_nil))))))
    (pss_one (ps_ret (pe_slice sl_list (pvI 2) po_none (po_some (pvI 1))))))))) ?_
    try dsimp only [L2.cxOf, L2.Cx.nox]
    refine ⟨Nat.zero_le _, fun r hr0 => ?_⟩
    refine ⟨_, rfl, _, rfl, a, _, rfl, (same_upd hr0).seq hS, fun sl hsl => ?_⟩
    have hrs : r ≠ sl := ne_of_none upd_same hsl
    refine ⟨sl, rfl, ⟨_, SqL.of upd_same⟩, ?_⟩
    have hlen : (cutV (ns.map V.int) none (some 63)).length ≤ 63 := by
      have := cutV_length (ns.map V.int) none (some 63)
      rw [List.length_map] at this; omega
    have hint : ∀ x ∈ cutV (ns.map V.int) none (some 63), ∃ i, x = V.int i := fun x hx => by
      have h1 : x ∈ ns.map V.int := List.mem_of_mem_drop (List.mem_of_mem_take hx)
      refine byC fun hG => ?_
      obtain ⟨i, _, e⟩ := List.mem_map.mp h1
      refine hG ?_
      exact ⟨i, e.symm⟩
    generalize cutV (ns.map V.int) none (some 63) = ys at hlen hint ⊢
    refine for_list (xs := ys) (fun i σ H' => DrawSt H H' a r sl n ys 0 (61 * i) σ) ?_ (fun i σ H' _ h => SqL.of h.slc) ?_ ?_
    · exact ⟨⟨[], 29, none, none, none, rfl, by decide, by decide, by rw [upd_ne hrs, upd_same]; rfl, Nat.zero_le _, Nat.zero_le _, fun _ h => nomatch h⟩, (same_upd hr0).trans (same_upd hsl), upd_same⟩
    · intro i x σ H' hx h
      refine byC fun hG => ?_
      obtain ⟨⟨row, seed, c, rest, k, rfl, s0, s1, hr', _, hrl, hd⟩, sm, hsl'⟩ := h
      obtain ⟨ce, rfl⟩ := hint x (List.mem_of_getElem? hx)
      have hi : i < 63 := by
        have : i < ys.length := by
          by_cases h : i < ys.length
          · exact h
          · rw [List.getElem?_eq_none (Nat.le_of_not_lt h)] at hx; cases hx
        omega
      refine hG ?_
      refine ⟨_, rfl, _, _, rfl, rfl, cmulR, _, rfl, _, _, rfl, rfl, pj, _, _, rfl, rfl, _, _, rfl, rfl, _, _, rfl, rfl, pj, ?_⟩
      refine ⟨_, rfl, _, _, rfl, rfl, ⟨by decide, by decide, by decide⟩, _, _, rfl, rfl, ?_⟩
      have s0' := Int.emod_nonneg (seed * 40009 + ce % 1000033 + 13) (by decide : (2147483629 : Int) ≠ 0)
      have s1' := Int.emod_lt_of_pos (seed * 40009 + ce % 1000033 + 13) (by decide : (0 : Int) < 2147483629)
      refine ⟨fun σ H'' => DrawSt H H'' a r sl n ys 0 (61 * i + 1) σ ∧ ∃ z, σ[5]? = some (some (V.int z)), ?_, ?_⟩
      · refine ⟨_, rfl, _, _, rfl, rfl, _, rfl, ite2 (fun _ => ?_) (fun _ => ?_)⟩
        · refine ⟨_, rfl, .inl ⟨rfl, _, SqL.of hr'⟩, _, rfl, _, _, rfl, rfl, pj, r, _, _, rfl, rfl, hr', small_line (by rw [List.length_map]; omega), ?_⟩
          rw [map_snoc]
          refine ⟨⟨⟨_, _, _, _, _, rfl, s0', s1', upd_same, Nat.zero_le _, ?_, hd.snoc (Int.emod_nonneg _ (by decide)) (Int.emod_lt_of_pos _ (by decide))⟩, ?_, by rw [upd_ne hrs.symm]; exact hsl'⟩, _, rfl⟩
          · rw [List.length_append, List.length_singleton]; omega
          · exact fun b o e => by rw [upd_ne (ne_of_none e hr0)]; exact sm b o e
        · exact ⟨⟨⟨row, _, _, _, _, rfl, s0', s1', hr', Nat.zero_le _, by omega, hd⟩, sm, hsl'⟩, _, rfl⟩
      · intro σ H'' zz1
        refine byC fun hG => ?_
        obtain ⟨h, z, hz⟩ := zz1
        refine hG ?_
        refine ⟨60, rfl, by decide, by decide, ?_⟩
        refine for_range (n := 60) (fun j σ H'' => DrawSt H H'' a r sl n ys 0 (61 * i + 1 + j) σ ∧ ∃ z, σ[5]? = some (some (V.int z))) ⟨h, z, hz⟩ ?_ ?_
        · intro j σ H'' hj zz2
          refine byC fun hG => ?_
          obtain ⟨⟨⟨row, seed, c, rest, k, rfl, s0, s1, hr', _, hrl, hd⟩, sm, hsl'⟩, z, hz⟩ := zz2
          refine hG ?_
          cases hz
          refine ⟨_, rfl, _, _, rfl, rfl, _, rfl, ite2 (fun hp => ?_) (fun _ => ?_)⟩
          · refine ⟨_, rfl, .inl ⟨rfl, _, SqL.of hr'⟩, _, rfl, _, _, rfl, rfl, pj, r, _, _, rfl, rfl, hr', small_line (by rw [List.length_map]; omega), ?_⟩
            rw [map_snoc]
            refine ⟨_, rfl, _, _, rfl, rfl, cdiv, ?_⟩
            refine ⟨⟨⟨_, seed, _, _, _, rfl, s0, s1, upd_same, Nat.zero_le _, ?_, hd.snoc (Int.emod_nonneg _ (by decide)) (Int.emod_lt_of_pos _ (by decide))⟩, ?_, by rw [upd_ne hrs.symm]; exact hsl'⟩, _, rfl⟩
            · rw [List.length_append, List.length_singleton]; omega
            · exact fun b o e => by rw [upd_ne (ne_of_none e hr0)]; exact sm b o e
          · exact ⟨⟨⟨row, seed, _, _, _, rfl, s0, s1, hr', Nat.zero_le _, by omega, hd⟩, sm, hsl'⟩, z, rfl⟩
        · intro σ H'' zz3
          refine byC fun hG => ?_
          obtain ⟨⟨⟨row, seed, c, rest, k, rfl, s0, s1, hr', _, hrl, hd⟩, sm, hsl'⟩, _⟩ := zz3
          refine hG ?_
          exact ⟨⟨row, seed, _, _, _, rfl, s0, s1, hr', Nat.zero_le _, by omega, hd⟩, sm, hsl'⟩
    · intro σ H' zz4
      refine byC fun hG => ?_
      obtain ⟨⟨row, seed, c, rest, k, rfl, s0, s1, hr', _, hrl, hd⟩, sm, hsl'⟩ := zz4
      refine hG ?_
      refine ⟨_, rfl, _, rfl, by omega, by omega, ?_⟩
      have en : ((n : Nat) : Int).toNat = n := by omega
      rw [en]
      refine for_range (n := n) (fun j σ H'' => DrawSt H H'' a r sl n ys j (61 * 63 + j) σ) ⟨⟨row, seed, _, _, _, rfl, s0, s1, hr', Nat.zero_le _, by omega, hd⟩, sm, hsl'⟩ ?_ ?_
      · intro j σ H'' hj zz5
        refine byC fun hG => ?_
        obtain ⟨⟨row, seed, c, rest, k, rfl, s0, s1, hr', hlo, hrl, hd⟩, sm, hsl'⟩ := zz5
        refine hG ?_
        refine ⟨_, rfl, _, rfl, _, _, rfl, rfl, .inl ⟨by omega, by omega⟩, _, rfl, _, _, rfl, rfl, cmulL, _, _, rfl, rfl, _, rfl, _, _, rfl, rfl, cmulL, _, _, rfl, rfl, _, _, rfl, rfl, _, _, rfl, rfl, pj, ?_⟩
        have s0' := Int.emod_nonneg (seed * seed + 69621 * seed + 7 * (0 + (j : Nat)) + 5) (by decide : (2147483629 : Int) ≠ 0)
        have s1' := Int.emod_lt_of_pos (seed * seed + 69621 * seed + 7 * (0 + (j : Nat)) + 5) (by decide : (0 : Int) < 2147483629)
        refine ⟨_, rfl, .inl ⟨rfl, _, SqL.of hr'⟩, _, rfl, _, _, rfl, rfl, cdiv, _, _, rfl, rfl, pj, r, _, _, rfl, rfl, hr', small_line (by rw [List.length_map]; omega), ?_⟩
        rw [map_snoc]
        refine ⟨⟨_, _, _, _, _, rfl, s0', s1', upd_same, ?_, ?_, hd.snoc (Int.emod_nonneg _ (by decide)) (Int.emod_lt_of_pos _ (by decide))⟩, ?_, by rw [upd_ne hrs.symm]; exact hsl'⟩
        · rw [List.length_append, List.length_singleton]; omega
        · rw [List.length_append, List.length_singleton]; omega
        · exact fun b o e => by rw [upd_ne (ne_of_none e hr0)]; exact sm b o e
      · intro σ H'' zz6
        refine byC fun hG => ?_
        obtain ⟨⟨row, seed, c, rest, k, rfl, s0, s1, hr', hlo, hrl, hd⟩, sm, hsl'⟩ := zz6
        refine hG ?_
        refine ⟨_, rfl, _, rfl, _, rfl, r, _, rfl, SqL.of hr', fun p hp => ?_⟩
        have ec : cutV (row.map V.int) none (some (n : Int)) = (row.take n).map V.int := by
          unfold cutV
          rw [HT.sIx_none, HT.sIx_nat, List.drop_zero, List.length_map, Nat.sub_zero, Nat.min_eq_left hlo, List.map_take]
        rw [ec]
        refine kk p (row.take n) _ (sm.free hp) (sm.trans (same_upd hp)) upd_same ?_ fun d hd' => hd d (List.mem_of_mem_take hd')
        rw [List.length_take]; omega
def sp__law_whole (K : Frag) : Sp := fun vs H Q _ => ∃ i : Int, vs = [.int i] ∧ Q (.bl true) H
theorem sc__law_whole : FnScope ["_law_found"] ["_law_found"] (defScope s__law_whole) := ⟨rfl, rfl, rfl, by decide +kernel, rfl, by decide +kernel, by decide +kernel⟩
set_option maxHeartbeats 4000000 in
theorem ok__law_whole (T : Txt w K mg A) (hB : BmAt mg base) : FnOk P w K mg base CX0 1 A.a__law_whole A.f__law_whole ["_law_found"] (sp__law_whole K) := by
  have nd := sc__law_whole.nd
  refine T.F__law_whole.ok sc__law_whole (fun vs H Q E h => ?_) (fun cdv Ar outer s H vs Q E hr h => ?_)
  · obtain ⟨i, rfl, _⟩ := h; rfl
  · skip
    obtain ⟨i, rfl, kk⟩ := h
    refine PSs.rd (pss_one (ps_ret (pe_and (pe_callB call_isiR rfl T.b_isinstance boot_isinstance (pa_cons (pvI 0) (pa_cons (pe_bltn (v := .ty "int") rfl T.b_int boot_ty_int rfl) pa_nil))) (pe_one (pe_not (pe_callB call_isiR rfl T.b_isinstance boot_isinstance (pa_cons (pvI 0) (pa_cons (pe_bltn (v := .ty "bool") rfl T.b_bool boot_ty_bool rfl) pa_nil)))))))) ?_
    try dsimp only [L2.cxOf, L2.Cx.nox]
    refine ⟨_, rfl, _, _, _, _, rfl, .int i, rfl, _, rfl, iteT ?_⟩
    exact ⟨_, rfl, _, _, _, _, rfl, .int i, rfl, _, rfl, kk⟩
def sp__law_due (K : Frag) : Sp := fun vs H Q _ => ∃ w : Str, vs = [.str w] ∧ ∀ (r : Addr) (H' : Hp), H r = none → Same H H' → H' r = some (.lst ((seenL w).map V.bl)) → Q (.ref r) H'
theorem sc__law_due : FnScope ["_law_want", "_law_names"] ["_law_want"] (defScope s__law_due) := ⟨rfl, rfl, rfl, by decide +kernel, rfl, by decide +kernel, by decide +kernel⟩
set_option maxHeartbeats 4000000 in
theorem ok__law_due (T : Txt w K mg A) (hB : BmAt mg base) : FnOk P w K mg base CX0 1 A.a__law_due A.f__law_due ["_law_want"] (sp__law_due K) := by
  have nd := sc__law_due.nd
  refine T.F__law_due.ok sc__law_due (fun vs H Q E h => ?_) (fun cdv Ar outer s H vs Q E hr h => ?_)
  · obtain ⟨w, rfl, _⟩ := h; rfl
  · skip
    obtain ⟨w, rfl, kk⟩ := h
    refine PSs.rd (pss_cons (ps_set (i := 1) nd rfl (Or.inl rfl) (pe_lst (pa_cons pe_str (pa_cons pe_str (pa_cons pe_str (pa_cons pe_str (pa_cons pe_str (pa_cons pe_str (pa_cons pe_str (pa_cons pe_str pa_nil))))))))))
    (pss_cons (ps_set (i := 1) nd rfl (Or.inl rfl) (pe_op op_cat (pvI 1) (pe_lst (pa_cons pe_str (pa_cons pe_str (pa_cons pe_str (pa_cons pe_str (pa_cons pe_str (pa_cons pe_str (pa_cons pe_str (pa_cons pe_str pa_nil)))))))))))
    (pss_cons (ps_set (i := 1) nd rfl (Or.inl rfl) (pe_op op_cat (pvI 1) (pe_lst (pa_cons pe_str (pa_cons pe_str (pa_cons pe_str (pa_cons pe_str (pa_cons pe_str pa_nil))))))))
    (pss_one (ps_ret (pe_op op_cat (pe_lst (pa_cons pe_bl pa_nil)) (lcA (defScope s__law_due) (pi_list (pvI 1)) (fun _ _ _ _ _ => pgc 1) (fun _ _ _ _ _ => pts_nil) (fun _ _ _ _ _ => (pe_cmpR op_eq (pvI 1) (pvI 2) (nomark _)))))))))) ?_
    try dsimp only [L2.cxOf, L2.Cx.nox]
    refine ⟨by show 8 ≤ sizeLine; decide, fun a0 ha0 => ?_⟩
    have s0 := same_upd (o := .lst ((namesL.take 8).map V.str)) ha0
    refine ⟨_, rfl, by show 8 ≤ sizeLine; decide, fun b1 hb1 => ?_⟩
    have t1 := same_upd (o := .lst (((namesL.drop 8).take 8).map V.str)) hb1
    refine ⟨a0, b1, (namesL.take 8).map V.str, ((namesL.drop 8).take 8).map V.str, rfl, rfl, t1 _ _ upd_same, upd_same, by show 16 ≤ sizeLine; decide, fun a1 ha1 => ?_⟩
    have s1 := s0.trans (t1.trans (same_upd (o := .lst ((namesL.take 16).map V.str)) ha1))
    refine ⟨_, rfl, by show 5 ≤ sizeLine; decide, fun b2 hb2 => ?_⟩
    have t2 := same_upd (o := .lst ((namesL.drop 16).map V.str)) hb2
    refine ⟨a1, b2, (namesL.take 16).map V.str, (namesL.drop 16).map V.str, rfl, rfl, t2 _ _ upd_same, upd_same, by show 21 ≤ sizeLine; decide, fun a2 ha2 => ?_⟩
    have s2 := s1.trans (t2.trans (same_upd (o := .lst (namesL.map V.str)) ha2))
    refine ⟨by show 1 ≤ sizeLine; decide, fun z hz => ?_⟩
    have s3 := same_upd (o := .lst [V.bl true]) hz
    have h2 : (upd (upd (upd (upd (upd (upd H a0 (.lst ((namesL.take 8).map V.str))) b1 (.lst (((namesL.drop 8).take 8).map V.str))) a1 (.lst ((namesL.take 16).map V.str))) b2 (.lst ((namesL.drop 16).map V.str))) a2 (.lst (namesL.map V.str))) z (.lst [V.bl true])) a2 = some (.lst (namesL.map V.str)) := s3 _ _ upd_same
    refine ⟨_, rfl, a2, rfl, ⟨_, SqL.of h2⟩, ?_⟩
    refine lc_by (ws := (namesL.map fun n => decide (n = w)).map V.bl) (itOf_list (SqL.of h2)) (fun σ => ∃ x y, σ = [x, y, some (.str w)]) ⟨_, _, rfl⟩ (by rw [List.length_map, List.length_map, List.length_map]) (by show 21 ≤ sizeLine; decide) ?_ ?_
    · intro i x v σ2 H4 Qt Qf hx hk s4 zz1 q
      refine byC fun hG => ?_
      obtain ⟨x0, y0, rfl⟩ := zz1
      refine hG ?_
      rw [List.getElem?_map] at hx
      refine byC fun hG => ?_
      obtain ⟨n, hn, rfl⟩ := Option.map_eq_some_iff.mp hx
      refine hG ?_
      rw [List.map_map, List.getElem?_map, hn] at hk
      cases hk
      refine ⟨_, rfl, _, rfl, rfl, ?_⟩
      show Qt _ (V.bl (decide (V.str n = V.str w))) _
      rw [dec_strV]
      exact q _ ⟨_, _, rfl⟩
    intro D hD
    have s5 := same_upd (o := .lst ((namesL.map fun n => decide (n = w)).map V.bl)) hD
    refine ⟨z, D, [V.bl true], (namesL.map fun n => decide (n = w)).map V.bl, rfl, rfl, s5 _ _ upd_same, upd_same, by rw [List.length_map, List.length_map]; show 22 ≤ sizeLine; decide, fun r hr => ?_⟩
    exact kk r _ (s2.free (s3.free (s5.free hr))) (s2.trans (s3.trans (s5.trans (same_upd hr)))) upd_same
def sp__law_seen (K : Frag) (A : Adr) : Sp := fun vs H Q _ => ∃ (e C : Addr) (x : Str), vs = [.ref e] ∧ H e = some (ExcO e C) ∧ ErrIs K A C x ∧ ∀ (r : Addr) (H' : Hp), H r = none → Same H H' → H' r = some (.lst ((seenL x).map V.bl)) → Q (.ref r) H'
theorem sc__law_seen : FnScope ["_law_e", "_law_one"] ["_law_e"] (defScope s__law_seen) := ⟨rfl, rfl, rfl, by decide +kernel, rfl, by decide +kernel, by decide +kernel⟩
set_option maxHeartbeats 4000000 in
theorem ok__law_seen (T : Txt w K mg A) (hB : BmAt mg base) : FnOkH P w K mg base 1 A.a__law_seen A.f__law_seen ["_law_e"] (sp__law_seen K A) := by
  have nd := sc__law_seen.nd
  refine T.F__law_seen.okH sc__law_seen (fun vs H Q E h => ?_) (fun cdv Ar outer s H vs Q E hr h => ?_)
  · obtain ⟨e, C, x, rfl, _⟩ := h; rfl
  · skip
    obtain ⟨e, C, x, rfl, he, hE, kk⟩ := h
    obtain ⟨bBadHouses, eBadHouses, kBadHouses⟩ : ∃ b, b = decide (("BadHouses" : Str) = x) ∧ kitOne K (.ref C) (.ref A.c_BadHouses) = some b := ⟨_, rfl, hE.k_BadHouses⟩
    obtain ⟨bBadLines, eBadLines, kBadLines⟩ : ∃ b, b = decide (("BadLines" : Str) = x) ∧ kitOne K (.ref C) (.ref A.c_BadLines) = some b := ⟨_, rfl, hE.k_BadLines⟩
    obtain ⟨bBadCover, eBadCover, kBadCover⟩ : ∃ b, b = decide (("BadCover" : Str) = x) ∧ kitOne K (.ref C) (.ref A.c_BadCover) = some b := ⟨_, rfl, hE.k_BadCover⟩
    obtain ⟨bBadCrowns, eBadCrowns, kBadCrowns⟩ : ∃ b, b = decide (("BadCrowns" : Str) = x) ∧ kitOne K (.ref C) (.ref A.c_BadCrowns) = some b := ⟨_, rfl, hE.k_BadCrowns⟩
    obtain ⟨bBadLosses, eBadLosses, kBadLosses⟩ : ∃ b, b = decide (("BadLosses" : Str) = x) ∧ kitOne K (.ref C) (.ref A.c_BadLosses) = some b := ⟨_, rfl, hE.k_BadLosses⟩
    obtain ⟨bBadAccount, eBadAccount, kBadAccount⟩ : ∃ b, b = decide (("BadAccount" : Str) = x) ∧ kitOne K (.ref C) (.ref A.c_BadAccount) = some b := ⟨_, rfl, hE.k_BadAccount⟩
    obtain ⟨bUnbacked, eUnbacked, kUnbacked⟩ : ∃ b, b = decide (("Unbacked" : Str) = x) ∧ kitOne K (.ref C) (.ref A.c_Unbacked) = some b := ⟨_, rfl, hE.k_Unbacked⟩
    obtain ⟨bShort, eShort, kShort⟩ : ∃ b, b = decide (("Short" : Str) = x) ∧ kitOne K (.ref C) (.ref A.c_Short) = some b := ⟨_, rfl, hE.k_Short⟩
    obtain ⟨bDisagrees, eDisagrees, kDisagrees⟩ : ∃ b, b = decide (("Disagrees" : Str) = x) ∧ kitOne K (.ref C) (.ref A.c_Disagrees) = some b := ⟨_, rfl, hE.k_Disagrees⟩
    obtain ⟨bNoHouse, eNoHouse, kNoHouse⟩ : ∃ b, b = decide (("NoHouse" : Str) = x) ∧ kitOne K (.ref C) (.ref A.c_NoHouse) = some b := ⟨_, rfl, hE.k_NoHouse⟩
    obtain ⟨bNoCover, eNoCover, kNoCover⟩ : ∃ b, b = decide (("NoCover" : Str) = x) ∧ kitOne K (.ref C) (.ref A.c_NoCover) = some b := ⟨_, rfl, hE.k_NoCover⟩
    obtain ⟨bNoHappening, eNoHappening, kNoHappening⟩ : ∃ b, b = decide (("NoHappening" : Str) = x) ∧ kitOne K (.ref C) (.ref A.c_NoHappening) = some b := ⟨_, rfl, hE.k_NoHappening⟩
    obtain ⟨bNoLoss, eNoLoss, kNoLoss⟩ : ∃ b, b = decide (("NoLoss" : Str) = x) ∧ kitOne K (.ref C) (.ref A.c_NoLoss) = some b := ⟨_, rfl, hE.k_NoLoss⟩
    obtain ⟨bBadDay, eBadDay, kBadDay⟩ : ∃ b, b = decide (("BadDay" : Str) = x) ∧ kitOne K (.ref C) (.ref A.c_BadDay) = some b := ⟨_, rfl, hE.k_BadDay⟩
    obtain ⟨bBadTerms, eBadTerms, kBadTerms⟩ : ∃ b, b = decide (("BadTerms" : Str) = x) ∧ kitOne K (.ref C) (.ref A.c_BadTerms) = some b := ⟨_, rfl, hE.k_BadTerms⟩
    obtain ⟨bEndless, eEndless, kEndless⟩ : ∃ b, b = decide (("Endless" : Str) = x) ∧ kitOne K (.ref C) (.ref A.c_Endless) = some b := ⟨_, rfl, hE.k_Endless⟩
    obtain ⟨bSame, eSame, kSame⟩ : ∃ b, b = decide (("Same" : Str) = x) ∧ kitOne K (.ref C) (.ref A.c_Same) = some b := ⟨_, rfl, hE.k_Same⟩
    obtain ⟨bFull, eFull, kFull⟩ : ∃ b, b = decide (("Full" : Str) = x) ∧ kitOne K (.ref C) (.ref A.c_Full) = some b := ⟨_, rfl, hE.k_Full⟩
    obtain ⟨bBadDeed, eBadDeed, kBadDeed⟩ : ∃ b, b = decide (("BadDeed" : Str) = x) ∧ kitOne K (.ref C) (.ref A.c_BadDeed) = some b := ⟨_, rfl, hE.k_BadDeed⟩
    obtain ⟨bNothing, eNothing, kNothing⟩ : ∃ b, b = decide (("Nothing" : Str) = x) ∧ kitOne K (.ref C) (.ref A.c_Nothing) = some b := ⟨_, rfl, hE.k_Nothing⟩
    obtain ⟨bBadText, eBadText, kBadText⟩ : ∃ b, b = decide (("BadText" : Str) = x) ∧ kitOne K (.ref C) (.ref A.c_BadText) = some b := ⟨_, rfl, hE.k_BadText⟩
    have hseen : (seenL x).map V.bl = [.bl true, .bl bBadHouses, .bl bBadLines, .bl bBadCover, .bl bBadCrowns, .bl bBadLosses, .bl bBadAccount, .bl bUnbacked, .bl bShort, .bl bDisagrees, .bl bNoHouse, .bl bNoCover, .bl bNoHappening, .bl bNoLoss, .bl bBadDay, .bl bBadTerms, .bl bEndless, .bl bSame, .bl bFull, .bl bBadDeed, .bl bNothing, .bl bBadText] := by
      subst eBadHouses eBadLines eBadCover eBadCrowns eBadLosses eBadAccount eUnbacked eShort eDisagrees eNoHouse eNoCover eNoHappening eNoLoss eBadDay eBadTerms eEndless eSame eFull eBadDeed eNothing eBadText
      rfl
    refine PSs.rd (pss_cons (ps_set (i := 1) nd rfl (Or.inl rfl) (pe_lst (pa_cons (pe_callB call_isiE rfl T.b_isinstance boot_isinstance (pa_cons (pvI 0) (pa_cons (pe_bltn (v := .ty "ValueError") rfl T.b_ValueError boot_ty_ValueError rfl) pa_nil))) (pa_cons (pe_callB call_isiE rfl T.b_isinstance boot_isinstance (pa_cons (pvI 0) (pa_cons (pe_glob (v := .ref A.c_BadHouses) rfl T.mc_BadHouses rfl) pa_nil))) (pa_cons (pe_callB call_isiE rfl T.b_isinstance boot_isinstance (pa_cons (pvI 0) (pa_cons (pe_glob (v := .ref A.c_BadLines) rfl T.mc_BadLines rfl) pa_nil))) (pa_cons (pe_callB call_isiE rfl T.b_isinstance boot_isinstance (pa_cons (pvI 0) (pa_cons (pe_glob (v := .ref A.c_BadCover) rfl T.mc_BadCover rfl) pa_nil))) pa_nil))))))
    (pss_cons (ps_set (i := 1) nd rfl (Or.inl rfl) (pe_op op_cat (pvI 1) (pe_lst (pa_cons (pe_callB call_isiE rfl T.b_isinstance boot_isinstance (pa_cons (pvI 0) (pa_cons (pe_glob (v := .ref A.c_BadCrowns) rfl T.mc_BadCrowns rfl) pa_nil))) (pa_cons (pe_callB call_isiE rfl T.b_isinstance boot_isinstance (pa_cons (pvI 0) (pa_cons (pe_glob (v := .ref A.c_BadLosses) rfl T.mc_BadLosses rfl) pa_nil))) (pa_cons (pe_callB call_isiE rfl T.b_isinstance boot_isinstance (pa_cons (pvI 0) (pa_cons (pe_glob (v := .ref A.c_BadAccount) rfl T.mc_BadAccount rfl) pa_nil))) pa_nil))))))
    (pss_cons (ps_set (i := 1) nd rfl (Or.inl rfl) (pe_op op_cat (pvI 1) (pe_lst (pa_cons (pe_callB call_isiE rfl T.b_isinstance boot_isinstance (pa_cons (pvI 0) (pa_cons (pe_glob (v := .ref A.c_Unbacked) rfl T.mc_Unbacked rfl) pa_nil))) (pa_cons (pe_callB call_isiE rfl T.b_isinstance boot_isinstance (pa_cons (pvI 0) (pa_cons (pe_glob (v := .ref A.c_Short) rfl T.mc_Short rfl) pa_nil))) (pa_cons (pe_callB call_isiE rfl T.b_isinstance boot_isinstance (pa_cons (pvI 0) (pa_cons (pe_glob (v := .ref A.c_Disagrees) rfl T.mc_Disagrees rfl) pa_nil))) (pa_cons (pe_callB call_isiE rfl T.b_isinstance boot_isinstance (pa_cons (pvI 0) (pa_cons (pe_glob (v := .ref A.c_NoHouse) rfl T.mc_NoHouse rfl) pa_nil))) pa_nil)))))))
    (pss_cons (ps_set (i := 1) nd rfl (Or.inl rfl) (pe_op op_cat (pvI 1) (pe_lst (pa_cons (pe_callB call_isiE rfl T.b_isinstance boot_isinstance (pa_cons (pvI 0) (pa_cons (pe_glob (v := .ref A.c_NoCover) rfl T.mc_NoCover rfl) pa_nil))) (pa_cons (pe_callB call_isiE rfl T.b_isinstance boot_isinstance (pa_cons (pvI 0) (pa_cons (pe_glob (v := .ref A.c_NoHappening) rfl T.mc_NoHappening rfl) pa_nil))) (pa_cons (pe_callB call_isiE rfl T.b_isinstance boot_isinstance (pa_cons (pvI 0) (pa_cons (pe_glob (v := .ref A.c_NoLoss) rfl T.mc_NoLoss rfl) pa_nil))) (pa_cons (pe_callB call_isiE rfl T.b_isinstance boot_isinstance (pa_cons (pvI 0) (pa_cons (pe_glob (v := .ref A.c_BadDay) rfl T.mc_BadDay rfl) pa_nil))) pa_nil)))))))
    (pss_cons (ps_set (i := 1) nd rfl (Or.inl rfl) (pe_op op_cat (pvI 1) (pe_lst (pa_cons (pe_callB call_isiE rfl T.b_isinstance boot_isinstance (pa_cons (pvI 0) (pa_cons (pe_glob (v := .ref A.c_BadTerms) rfl T.mc_BadTerms rfl) pa_nil))) (pa_cons (pe_callB call_isiE rfl T.b_isinstance boot_isinstance (pa_cons (pvI 0) (pa_cons (pe_glob (v := .ref A.c_Endless) rfl T.mc_Endless rfl) pa_nil))) (pa_cons (pe_callB call_isiE rfl T.b_isinstance boot_isinstance (pa_cons (pvI 0) (pa_cons (pe_glob (v := .ref A.c_Same) rfl T.mc_Same rfl) pa_nil))) (pa_cons (pe_callB call_isiE rfl T.b_isinstance boot_isinstance (pa_cons (pvI 0) (pa_cons (pe_glob (v := .ref A.c_Full) rfl T.mc_Full rfl) pa_nil))) pa_nil)))))))
    (pss_one (ps_ret (pe_op op_cat (pvI 1) (pe_lst (pa_cons (pe_callB call_isiE rfl T.b_isinstance boot_isinstance (pa_cons (pvI 0) (pa_cons (pe_glob (v := .ref A.c_BadDeed) rfl T.mc_BadDeed rfl) pa_nil))) (pa_cons (pe_callB call_isiE rfl T.b_isinstance boot_isinstance (pa_cons (pvI 0) (pa_cons (pe_glob (v := .ref A.c_Nothing) rfl T.mc_Nothing rfl) pa_nil))) (pa_cons (pe_callB call_isiE rfl T.b_isinstance boot_isinstance (pa_cons (pvI 0) (pa_cons (pe_glob (v := .ref A.c_BadText) rfl T.mc_BadText rfl) pa_nil))) pa_nil)))))))))))) ?_
    rw [hseen] at kk
    refine ⟨_, rfl, e, _, _, _, _, rfl, he, hE.ec, (fun _ h => h), hE.kv, _, rfl, e, _, _, _, _, rfl, he, hE.ec, (fun _ h => h), kBadHouses, _, rfl, e, _, _, _, _, rfl, he, hE.ec, (fun _ h => h), kBadLines, _, rfl, e, _, _, _, _, rfl, he, hE.ec, (fun _ h => h), kBadCover, by show 4 ≤ sizeLine; decide, fun l0 hl0 => ?_⟩
    have s0 := same_upd (o := .lst [.bl true, .bl bBadHouses, .bl bBadLines, .bl bBadCover]) hl0
    have he0 := s0 _ _ he
    refine ⟨_, rfl, _, rfl, e, _, _, _, _, rfl, he0, hE.ec, (fun _ h => h), kBadCrowns, _, rfl, e, _, _, _, _, rfl, he0, hE.ec, (fun _ h => h), kBadLosses, _, rfl, e, _, _, _, _, rfl, he0, hE.ec, (fun _ h => h), kBadAccount, by show 3 ≤ sizeLine; decide, fun b1 hb1 => ?_⟩
    have t1 := same_upd (o := .lst [.bl bBadCrowns, .bl bBadLosses, .bl bBadAccount]) hb1
    refine ⟨l0, b1, [.bl true, .bl bBadHouses, .bl bBadLines, .bl bBadCover], [.bl bBadCrowns, .bl bBadLosses, .bl bBadAccount], rfl, rfl, t1 _ _ upd_same, upd_same, by show 7 ≤ sizeLine; decide, fun l1 hl1 => ?_⟩
    have s1 := s0.trans (t1.trans (same_upd (o := .lst [.bl true, .bl bBadHouses, .bl bBadLines, .bl bBadCover, .bl bBadCrowns, .bl bBadLosses, .bl bBadAccount]) hl1))
    have he1 := s1 _ _ he
    refine ⟨_, rfl, _, rfl, e, _, _, _, _, rfl, he1, hE.ec, (fun _ h => h), kUnbacked, _, rfl, e, _, _, _, _, rfl, he1, hE.ec, (fun _ h => h), kShort, _, rfl, e, _, _, _, _, rfl, he1, hE.ec, (fun _ h => h), kDisagrees, _, rfl, e, _, _, _, _, rfl, he1, hE.ec, (fun _ h => h), kNoHouse, by show 4 ≤ sizeLine; decide, fun b2 hb2 => ?_⟩
    have t2 := same_upd (o := .lst [.bl bUnbacked, .bl bShort, .bl bDisagrees, .bl bNoHouse]) hb2
    refine ⟨l1, b2, [.bl true, .bl bBadHouses, .bl bBadLines, .bl bBadCover, .bl bBadCrowns, .bl bBadLosses, .bl bBadAccount], [.bl bUnbacked, .bl bShort, .bl bDisagrees, .bl bNoHouse], rfl, rfl, t2 _ _ upd_same, upd_same, by show 11 ≤ sizeLine; decide, fun l2 hl2 => ?_⟩
    have s2 := s1.trans (t2.trans (same_upd (o := .lst [.bl true, .bl bBadHouses, .bl bBadLines, .bl bBadCover, .bl bBadCrowns, .bl bBadLosses, .bl bBadAccount, .bl bUnbacked, .bl bShort, .bl bDisagrees, .bl bNoHouse]) hl2))
    have he2 := s2 _ _ he
    refine ⟨_, rfl, _, rfl, e, _, _, _, _, rfl, he2, hE.ec, (fun _ h => h), kNoCover, _, rfl, e, _, _, _, _, rfl, he2, hE.ec, (fun _ h => h), kNoHappening, _, rfl, e, _, _, _, _, rfl, he2, hE.ec, (fun _ h => h), kNoLoss, _, rfl, e, _, _, _, _, rfl, he2, hE.ec, (fun _ h => h), kBadDay, by show 4 ≤ sizeLine; decide, fun b3 hb3 => ?_⟩
    have t3 := same_upd (o := .lst [.bl bNoCover, .bl bNoHappening, .bl bNoLoss, .bl bBadDay]) hb3
    refine ⟨l2, b3, [.bl true, .bl bBadHouses, .bl bBadLines, .bl bBadCover, .bl bBadCrowns, .bl bBadLosses, .bl bBadAccount, .bl bUnbacked, .bl bShort, .bl bDisagrees, .bl bNoHouse], [.bl bNoCover, .bl bNoHappening, .bl bNoLoss, .bl bBadDay], rfl, rfl, t3 _ _ upd_same, upd_same, by show 15 ≤ sizeLine; decide, fun l3 hl3 => ?_⟩
    have s3 := s2.trans (t3.trans (same_upd (o := .lst [.bl true, .bl bBadHouses, .bl bBadLines, .bl bBadCover, .bl bBadCrowns, .bl bBadLosses, .bl bBadAccount, .bl bUnbacked, .bl bShort, .bl bDisagrees, .bl bNoHouse, .bl bNoCover, .bl bNoHappening, .bl bNoLoss, .bl bBadDay]) hl3))
    have he3 := s3 _ _ he
    refine ⟨_, rfl, _, rfl, e, _, _, _, _, rfl, he3, hE.ec, (fun _ h => h), kBadTerms, _, rfl, e, _, _, _, _, rfl, he3, hE.ec, (fun _ h => h), kEndless, _, rfl, e, _, _, _, _, rfl, he3, hE.ec, (fun _ h => h), kSame, _, rfl, e, _, _, _, _, rfl, he3, hE.ec, (fun _ h => h), kFull, by show 4 ≤ sizeLine; decide, fun b4 hb4 => ?_⟩
    have t4 := same_upd (o := .lst [.bl bBadTerms, .bl bEndless, .bl bSame, .bl bFull]) hb4
    refine ⟨l3, b4, [.bl true, .bl bBadHouses, .bl bBadLines, .bl bBadCover, .bl bBadCrowns, .bl bBadLosses, .bl bBadAccount, .bl bUnbacked, .bl bShort, .bl bDisagrees, .bl bNoHouse, .bl bNoCover, .bl bNoHappening, .bl bNoLoss, .bl bBadDay], [.bl bBadTerms, .bl bEndless, .bl bSame, .bl bFull], rfl, rfl, t4 _ _ upd_same, upd_same, by show 19 ≤ sizeLine; decide, fun l4 hl4 => ?_⟩
    have s4 := s3.trans (t4.trans (same_upd (o := .lst [.bl true, .bl bBadHouses, .bl bBadLines, .bl bBadCover, .bl bBadCrowns, .bl bBadLosses, .bl bBadAccount, .bl bUnbacked, .bl bShort, .bl bDisagrees, .bl bNoHouse, .bl bNoCover, .bl bNoHappening, .bl bNoLoss, .bl bBadDay, .bl bBadTerms, .bl bEndless, .bl bSame, .bl bFull]) hl4))
    have he4 := s4 _ _ he
    refine ⟨_, rfl, _, rfl, e, _, _, _, _, rfl, he4, hE.ec, (fun _ h => h), kBadDeed, _, rfl, e, _, _, _, _, rfl, he4, hE.ec, (fun _ h => h), kNothing, _, rfl, e, _, _, _, _, rfl, he4, hE.ec, (fun _ h => h), kBadText, by show 3 ≤ sizeLine; decide, fun b5 hb5 => ?_⟩
    have t5 := same_upd (o := .lst [.bl bBadDeed, .bl bNothing, .bl bBadText]) hb5
    refine ⟨l4, b5, [.bl true, .bl bBadHouses, .bl bBadLines, .bl bBadCover, .bl bBadCrowns, .bl bBadLosses, .bl bBadAccount, .bl bUnbacked, .bl bShort, .bl bDisagrees, .bl bNoHouse, .bl bNoCover, .bl bNoHappening, .bl bNoLoss, .bl bBadDay, .bl bBadTerms, .bl bEndless, .bl bSame, .bl bFull], [.bl bBadDeed, .bl bNothing, .bl bBadText], rfl, rfl, t5 _ _ upd_same, upd_same, by show 22 ≤ sizeLine; decide, fun l5 hl5 => ?_⟩
    have s5 := s4.trans (t5.trans (same_upd (o := .lst [.bl true, .bl bBadHouses, .bl bBadLines, .bl bBadCover, .bl bBadCrowns, .bl bBadLosses, .bl bBadAccount, .bl bUnbacked, .bl bShort, .bl bDisagrees, .bl bNoHouse, .bl bNoCover, .bl bNoHappening, .bl bNoLoss, .bl bBadDay, .bl bBadTerms, .bl bEndless, .bl bSame, .bl bFull, .bl bBadDeed, .bl bNothing, .bl bBadText]) hl5))
    exact kk l5 _ (s4.free (t5.free hl5)) s5 upd_same
def sp__law_lines (K : Frag) : Sp := fun vs H Q _ => ∃ (h o : Nat) (d : Addr) (ds : List Int), vs = [.int h, .int o, .ref d] ∧ 2 ≤ h ∧ h ≤ 6 ∧ o < h ∧ SqL K H d (ds.map V.int) ∧ ds.length = 5 ∧ InD ds ∧
  ∀ (p : Addr) (L : List (Int × Int)) (H' : Hp), Same H H' → LinesAt K H' p L → GoodL L → (∀ l ∈ L, l.1 < (h : Int) ∧ l.1 ≠ (o : Int)) → L.length < h → Q (.ref p) H'
theorem sc__law_lines : FnScope ["_law_houses", "_law_house", "_law_draws_here", "_law_k", "_law_others", "_law_many", "_law_row", "_law_signer", "_law_line"] ["_law_houses", "_law_house", "_law_draws_here"] (defScope s__law_lines) := ⟨rfl, rfl, rfl, by decide +kernel, rfl, by decide +kernel, by decide +kernel⟩
set_option maxHeartbeats 4000000 in
theorem ok__law_lines (T : Txt w K mg A) (hB : BmAt mg base) : FnOk P w K mg base CX0 1 A.a__law_lines A.f__law_lines ["_law_houses", "_law_house", "_law_draws_here"] (sp__law_lines K) := by
  have nd := sc__law_lines.nd
  refine T.F__law_lines.ok sc__law_lines (fun vs H Q E h => ?_) (fun cdv Ar outer s H vs Q E hr h => ?_)
  · obtain ⟨h, o, d, ds, rfl, _⟩ := h; rfl
  · skip
    obtain ⟨h, o, d, ds, rfl, h2, h6, ho, hd, hd5, hD, kk⟩ := h
    obtain ⟨f1, f2, f3⟩ := othersOf_facts h (by omega) o ho
    refine PSs.rd (pss_cons (lcS (defScope s__law_lines) 4 nd (pi_range1 rfl T.b_range (pa_cons (pvI 0) pa_nil)) (fun _ _ _ _ _ => pgc 1) (fun _ _ _ _ _ => (pts_one (pt_cmpR op_ne (pvI 1) (pvI 2) (nomark _)))) (fun _ _ _ _ _ => (pvI 1)))
    (pss_cons (ps_set (i := 5) nd rfl (Or.inl rfl) (pe_op op_addI pe_int (pe_op op_modI (pe_ix (ix_listI K rfl) (pvI 2) pe_int (fun _ _ => rfl)) (pe_callB (call_min2 rfl) rfl T.b_min boot_min (pa_cons pe_int (pa_cons (pe_callB call_len_seq rfl T.b_len PySem.boot_len (pa_cons (pvI 4) pa_nil)) pa_nil))))))
    (pss_cons (ps_set (i := 6) nd rfl (Or.inl rfl) (pe_lst pa_nil))
    (pss_cons (ps_for PassesOwn.never rfl (pi_range1 rfl T.b_range (pa_cons (pvI 5) pa_nil)) (pg_name (i := 3) nd rfl (Or.inl rfl))
      (pss_cons (ps_set (i := 7) nd rfl (Or.inl rfl) (pe_bm PySem.F.plainAttrs_list PySem.F.slot_list_pop PySem.F.type_list_pop mt_popAt (pvI 4) (pa_cons (pe_op op_modI (pe_ix (ix_listI K rfl) (pvI 2) (pe_op op_addI pe_int (pvI 3)) (fun _ _ => rfl)) (pe_callB call_len_seq rfl T.b_len PySem.boot_len (pa_cons (pvI 4) pa_nil))) pa_nil)))
       (pss_cons (ps_set (i := 8) nd rfl (Or.inl rfl) (pe_op op_addI pe_int (pe_op op_modI (pe_op op_fdivI (pe_ix (ix_listI K rfl) (pvI 2) (pe_op op_addI pe_int (pvI 3)) (fun _ _ => rfl)) pe_int) pe_int)))
       (pss_cons (ps_cut (ps_if (pt_cmpR op_eq (pe_op op_modI (pe_op op_fdivI (pe_ix (ix_listI K rfl) (pvI 2) pe_int (fun _ _ => rfl)) pe_int) pe_int) pe_int (nomark _))
         (pss_one (ps_set (i := 8) nd rfl (Or.inl rfl) (pe_op op_addI pe_int (pe_op op_modI (pe_op op_fdivI (pe_ix (ix_listI K rfl) (pvI 2) (pe_op op_addI pe_int (pvI 3)) (fun _ _ => rfl)) pe_int) pe_int))))
         pss_nil))
       (pss_one (ps_expr (pe_bm PySem.F.plainAttrs_list PySem.F.slot_list_append PySem.F.type_list_append mt_append (pvI 6) (pa_cons (pe_tup (pa_cons (pvI 7) (pa_cons (pvI 8) pa_nil))) pa_nil))))))))
    (pss_one (ps_ret (pe_callTy call_tuple_of rfl T.b_tuple boot_ty_tuple (pa_cons (pvI 6) pa_nil)))))))) ?_
    try dsimp only [L2.cxOf, L2.Cx.nox]
    refine ⟨_, rfl, h, rfl, by omega, by omega, ?_⟩
    have en : ((h : Nat) : Int).toNat = h := by omega
    rw [en]
    refine lc_pure (itOf_rng 0 h) (fun σ => ∃ x y, σ = [x, y, some (.int o)]) (fun x => match x with | .int i => !decide (i = (o : Int)) | _ => true) id ?_ (Nat.le_of_lt (small_line (by rw [rngV_len]; omega))) ?_ ?_
    · exact ⟨_, _, rfl⟩
    · intro x σ2 H2 Qt Qf hx sm zz1 qt qf
      refine byC fun hG => ?_
      obtain ⟨a, b, rfl⟩ := zz1
      obtain ⟨i, _, rfl⟩ := List.mem_map.mp hx
      refine hG ?_
      refine ⟨_, rfl, _, rfl, rfl, _, rfl, ?_⟩
      have ed : decide (V.int (0 + (i : Nat)) = V.int (o : Int)) = decide ((0 : Int) + (i : Nat) = (o : Int)) := by
        by_cases e : (0 : Int) + (i : Nat) = (o : Int)
        · rw [e, decide_eq_true rfl, decide_eq_true rfl]
        · rw [decide_eq_false e, decide_eq_false (fun z => e (V.int.inj z))]
      rw [ed]
      refine iteND (fun e => ?_) (fun e => ?_)
      · exact ⟨_, rfl, qt (by show (!decide ((0 : Int) + (i : Nat) = (o : Int))) = true; rw [decide_eq_false e]; rfl) _ ⟨_, _, rfl⟩⟩
      · exact qf (by show (!decide ((0 : Int) + (i : Nat) = (o : Int))) = false; rw [decide_eq_true e]; rfl) _ ⟨_, _, rfl⟩
    intro oth hoth0
    have eo : ((rngV 0 h).filter (fun x => match x with | .int i => !decide (i = (o : Int)) | _ => true)).map id = (othersOf h o).map V.int := by
      unfold rngV othersOf
      rw [List.map_id, List.filter_map, List.filter_map, List.map_map]
      rfl
    rw [eo]
    have s1 : Same H (upd H oth (.lst ((othersOf h o).map V.int))) := same_upd hoth0
    refine byC fun hG => ?_
    obtain ⟨d0, hd0⟩ := get_some (xs := ds) (i := 0) (by omega)
    have D0 := hD d0 (List.mem_of_getElem? hd0)
    refine hG ?_
    refine ⟨_, rfl, d, _, 0, _, rfl, rfl, s1.seq hd, atI_nat (j := 0) (by rw [List.getElem?_map, hd0]; rfl), _, rfl, oth, _, rfl, .inl (SqL.of upd_same), 4, _, rfl, _, _, rfl, rfl, ?_, _, _, rfl, rfl, ?_⟩
    · rw [List.length_map, f3]; split <;> omega
    rw [List.length_map, f3]
    have hm : ∃ many : Nat, (1 : Int) + d0 % (if (((h - 1 : Nat)) : Int) < 4 then (((h - 1 : Nat)) : Int) else 4) = (many : Int) ∧ 1 ≤ many ∧ many ≤ 4 ∧ many ≤ h - 1 := by
      refine ⟨(1 + d0 % (if (((h - 1 : Nat)) : Int) < 4 then (((h - 1 : Nat)) : Int) else 4)).toNat, ?_⟩
      split
      · have a1 := Int.emod_nonneg d0 (show (((h - 1 : Nat)) : Int) ≠ 0 by omega)
        have a2 := Int.emod_lt_of_pos d0 (show 0 < (((h - 1 : Nat)) : Int) by omega)
        omega
      · have a1 := Int.emod_nonneg d0 (show (4 : Int) ≠ 0 by omega)
        have a2 := Int.emod_lt_of_pos d0 (show 0 < (4 : Int) by omega)
        omega
    refine byC fun hG => ?_
    obtain ⟨many, em, m1, m4, mh⟩ := hm
    refine hG ?_
    refine ⟨Nat.zero_le _, fun r hr0 => ?_⟩
    have hor : oth ≠ r := ne_of_none upd_same hr0
    refine ⟨_, rfl, many, ?_, by omega, by omega, ?_⟩
    · show [V.int _] = [V.int _]
      rw [← em]
    have en2 : ((many : Nat) : Int).toNat = many := by omega
    rw [en2]
    refine for_range (n := many) (fun i σ H' => LineSt K H H' h o d oth r many i (h - 1) σ) ?_ ?_ ?_
    · refine ⟨⟨othersOf h o, [], [], none, none, none, ?_, by rw [upd_ne hor]; exact upd_same, upd_same, ⟨rfl, fun i l e => by simp at e⟩, rfl, by rw [f3]; omega, f1, by simp, fun l hl => (nomatch hl), f2, fun l hl => (nomatch hl)⟩, s1.trans (same_upd hr0)⟩
      show [_, _, _, _, _, some (V.int _), _, _, _] = _
      rw [em]
    · intro i σ H' hi zz2
      refine byC fun hG => ?_
      obtain ⟨⟨os, L, us, k, sg, ln, rfl, hoth, hr', hP, hLl, hol, hnd, hLn, hdis, hos, hL⟩, sm⟩ := zz2
      have neor : oth ≠ r := hor
      obtain ⟨dk, hdk⟩ := get_some (xs := ds) (i := 1 + i) (by omega)
      have Dk := hD dk (List.mem_of_getElem? hdk)
      have hpos : 0 < os.length := by omega
      have b1 := Int.emod_nonneg dk (show ((os.length : Nat) : Int) ≠ 0 by omega)
      have b2 := Int.emod_lt_of_pos dk (show 0 < ((os.length : Nat) : Int) by omega)
      have hix : atI (ds.map V.int) ((1 : Int) + (0 + (i : Nat))) = some (V.int dk) := by
        have e : (1 : Int) + (0 + (i : Nat)) = ((1 + i : Nat) : Int) := by omega
        rw [e]; exact atI_nat (by rw [List.getElem?_map, hdk]; rfl)
      obtain ⟨sv, hsv⟩ := get_some (xs := os) (i := (dk % (os.length : Nat)).toNat) (by omega)
      have hsq : seqIndex? (dk % (os.length : Nat)) (os.map V.int).length = some (dk % (os.length : Nat)).toNat := by
        rw [List.length_map]; exact seqIndex_of b1 b2
      have hsm := List.mem_of_getElem? hsv
      refine hG ?_
      refine ⟨_, rfl, .inl ⟨rfl, _, SqL.of hoth⟩, _, rfl, _, rfl, _, _, rfl, rfl, d, _, _, _, rfl, rfl, sm.seq hd, hix, _, rfl, oth, _, rfl, .inl (SqL.of hoth), _, _, rfl, rfl, ?_, oth, _, _, (dk % (os.length : Nat)).toNat, V.int sv, rfl, rfl, hoth, ?_, ?_, ?_, ?_, ?_⟩
      · rw [List.length_map]; omega
      · rw [List.length_map]; omega
      · rw [List.length_map]; omega
      · rw [List.length_map] at hsq ⊢; exact hsq
      · rw [List.getElem?_map, hsv]; rfl
      rw [map_erase]
      have neq : ∀ b o', H b = some o' → b ≠ oth ∧ b ≠ r := fun b o' e => ⟨ne_of_none e hoth0, fun z => by subst z; rw [s1 _ _ e] at hr0; cases hr0⟩
      generalize eH : upd H' oth (.lst ((os.eraseIdx (dk % (os.length : Nat)).toNat).map V.int)) = H2
      have hoth2 : H2 oth = some (.lst ((os.eraseIdx (dk % (os.length : Nat)).toNat).map V.int)) := by rw [← eH]; exact upd_same
      have hr2 : H2 r = some (.lst us) := by rw [← eH, upd_ne hor.symm]; exact hr'
      have hP2 : PairsAt K H2 us L := by rw [← eH]; exact PairsAt.updL hP hoth
      have sm2 : Same H H2 := fun b o' e => by rw [← eH, upd_ne (neq b o' e).1]; exact sm b o' e
      refine ⟨_, rfl, _, rfl, _, _, rfl, rfl, d, _, _, _, rfl, rfl, sm2.seq hd, hix, _, _, rfl, rfl, cdiv, _, _, rfl, rfl, pj, _, _, rfl, rfl, ?_⟩
      refine ⟨fun σ H3 => H3 = H2 ∧ ∃ ln : Int, 1 ≤ ln ∧ ln ≤ 20 ∧ σ = [some (.int h), some (.int o), some (.ref d), some (.int (0 + (i : Nat))), some (.ref oth), some (.int many), some (.ref r), some (.int sv), some (.int ln)], ?_, ?_⟩
      · refine ⟨_, rfl, d, _, 0, _, rfl, rfl, sm2.seq hd, atI_nat (j := 0) (by rw [List.getElem?_map, hd0]; rfl), _, _, rfl, rfl, cdiv, _, _, rfl, rfl, pj, rfl, _, rfl, iteD (fun _ => ?_) (fun _ => ?_)⟩
        · refine ⟨_, rfl, _, rfl, _, _, rfl, rfl, d, _, _, _, rfl, rfl, sm2.seq hd, hix, _, _, rfl, rfl, cdiv, _, _, rfl, rfl, pj, _, _, rfl, rfl, rfl, _, ?_, ?_, rfl⟩
          · have := Int.emod_nonneg (dk / 7) (show (3 : Int) ≠ 0 by decide); omega
          · have := Int.emod_lt_of_pos (dk / 7) (show (0 : Int) < 3 by decide); omega
        · refine ⟨rfl, _, ?_, ?_, rfl⟩
          · have := Int.emod_nonneg (dk / 7) (show (20 : Int) ≠ 0 by decide); omega
          · have := Int.emod_lt_of_pos (dk / 7) (show (0 : Int) < 20 by decide); omega
      intro σ H3 zz3
      refine byC fun hG => ?_
      obtain ⟨e3, ln2, n1, n20, rfl⟩ := zz3
      obtain rfl := e3.symm
      refine hG ?_
      refine ⟨_, rfl, .inl ⟨rfl, _, SqL.of hr2⟩, _, rfl, _, rfl, by show 2 ≤ sizeLine; decide, fun t ht => ?_⟩
      have ntr : r ≠ t := ne_of_none hr2 ht
      have nto : oth ≠ t := ne_of_none hoth2 ht
      refine ⟨r, us, _, rfl, rfl, by rw [upd_ne ntr]; exact hr2, small_line (by have := hP.len; omega), ?_⟩
      have hP3 : PairsAt K (upd H2 t (.tup [.int sv, .int ln2])) us L := hP2.same (same_upd ht)
      have hr3 : (upd H2 t (.tup [.int sv, .int ln2])) r = some (.lst us) := by rw [upd_ne ntr]; exact hr2
      have hpt : PairAt K (upd H2 t (.tup [.int sv, .int ln2])) (.ref t) (sv, ln2) := ⟨t, rfl, SqT.of upd_same⟩
      refine ⟨⟨os.eraseIdx (dk % (os.length : Nat)).toNat, L ++ [(sv, ln2)], us ++ [.ref t], _, _, _, rfl, by rw [upd_ne hor, upd_ne nto]; exact hoth2, upd_same, PairsAt.updL (hP3.snoc hpt) hr3, by rw [List.length_append, hLl]; rfl, ?_, ?_, ?_, ?_, ?_, ?_⟩, ?_⟩
      · rw [List.length_eraseIdx_of_lt (by omega)]; omega
      · exact hnd.sublist (List.eraseIdx_sublist _ _)
      · rw [List.map_append]
        refine List.nodup_append.mpr ⟨hLn, by simp, fun a ha b hb e => ?_⟩
        simp at hb
        subst hb; subst e
        refine byC fun hG => ?_
        obtain ⟨l, hl, el⟩ := List.mem_map.mp ha
        refine hG ?_
        exact hdis l hl (el ▸ hsm)
      · intro l hl
        rcases List.mem_append.mp hl with hl | hl
        · exact fun z => hdis l hl ((List.eraseIdx_sublist _ _).subset z)
        · rw [List.mem_singleton.mp hl]; exact not_mem_erase hnd hsv
      · exact fun x hx => hos x ((List.eraseIdx_sublist _ _).subset hx)
      · intro l hl
        rcases List.mem_append.mp hl with hl | hl
        · exact hL l hl
        · rw [List.mem_singleton.mp hl]; exact ⟨hos sv hsm, n1, n20⟩
      · exact fun b o' e => by rw [upd_ne (neq b o' e).2, upd_ne (ne_of_none (sm2 b o' e) ht)]; exact sm2 b o' e
    · intro σ H' zz4
      refine byC fun hG => ?_
      obtain ⟨⟨os, L, us, k, sg, ln, rfl, hoth, hr', hP, hLl, hol, hnd, hLn, hdis, hos, hL⟩, sm⟩ := zz4
      refine hG ?_
      refine ⟨_, rfl, r, us, rfl, .inl ⟨SqL.of hr', fun t ht => ?_⟩⟩
      refine kk t L _ (sm.trans (same_upd ht)) ⟨us, SqT.of upd_same, hP.same (same_upd ht)⟩ ⟨by omega, by omega, hLn, fun l hl => ?_⟩ (fun l hl => ⟨(hL l hl).1.2.1, (hL l hl).1.2.2⟩) (by omega)
      have := hL l hl
      omega
def sp__law_cover (K : Frag) : Sp := fun vs H Q _ => ∃ (h : Nat) (d : Addr) (ds : List Int), vs = [.int h, .ref d] ∧ 2 ≤ h ∧ h ≤ 6 ∧ SqL K H d (ds.map V.int) ∧ ds.length = 9 ∧ InD ds ∧
  ∀ (p lp : Addr) (ho : Nat) (k : Str) (b m : Int) (L : List (Int × Int)) (H' : Hp), Same H H' → SqT K H' p [.int ho, .str k, .int b, .int m, .ref lp] → LinesAt K H' lp L → GoodL L → ho < h → (∀ l ∈ L, l.1 < (h : Int) ∧ l.1 ≠ (ho : Int)) → L.length < h → measB k b m = true → Q (.ref p) H'
theorem sc__law_cover : FnScope ["_law_houses", "_law_draws_here", "_law_house", "_law_kind", "_law_by", "_law_most"] ["_law_houses", "_law_draws_here"] (defScope s__law_cover) := ⟨rfl, rfl, rfl, by decide +kernel, rfl, by decide +kernel, by decide +kernel⟩
set_option maxHeartbeats 4000000 in
theorem ok__law_cover (T : Txt w K mg A) (hB : BmAt mg base) : FnOk P w K mg base CX0 2 A.a__law_cover A.f__law_cover ["_law_houses", "_law_draws_here"] (sp__law_cover K) := by
  have nd := sc__law_cover.nd
  have G__law_lines := ok__law_lines (P := P) (w := w) (base := base) T hB
  refine T.F__law_cover.ok sc__law_cover (fun vs H Q E h => ?_) (fun cdv Ar outer s H vs Q E hr h => ?_)
  · obtain ⟨h, d, ds, rfl, _⟩ := h; rfl
  · skip
    obtain ⟨h, d, ds, rfl, h2, h6, hd, hd9, hD, kk⟩ := h
    obtain ⟨d0, D0, i0⟩ := draw_at hD (i := 0) (by omega)
    obtain ⟨d1, D1, i1⟩ := draw_at hD (i := 1) (by omega)
    obtain ⟨d2, D2, i2⟩ := draw_at hD (i := 2) (by omega)
    obtain ⟨d3, D3, i3⟩ := draw_at hD (i := 3) (by omega)
    have hh : 0 < h := by omega
    have b0 := Nat.mod_lt d0 hh
    refine PSs.rd (pss_cons (ps_set (i := 2) nd rfl (Or.inl rfl) (pe_op op_modI (pe_ix (ix_listI K rfl) (pvI 1) pe_int (fun _ _ => rfl)) (pvI 0)))
    (pss_cons (ps_set (i := 3) nd rfl (Or.inl rfl) (pe_ix (ix_listI K rfl) (pe_lst (pa_cons pe_str (pa_cons pe_str pa_nil))) (pe_op op_modI (pe_ix (ix_listI K rfl) (pvI 1) pe_int (fun _ _ => rfl)) pe_int) (fun _ _ => rfl)))
    (pss_cons (ps_set (i := 4) nd rfl (Or.inl rfl) (pe_op op_modI (pe_ix (ix_listI K rfl) (pvI 1) pe_int (fun _ _ => rfl)) pe_int))
    (pss_cons (ps_cut (ps_if (pt_cmpR op_eq (pe_op op_modI (pe_op op_fdivI (pe_ix (ix_listI K rfl) (pvI 1) pe_int (fun _ _ => rfl)) pe_int) pe_int) pe_int (nomark _))
      (pss_one (ps_set (i := 4) nd rfl (Or.inl rfl) (pe_op op_modI (pe_ix (ix_listI K rfl) (pvI 1) pe_int (fun _ _ => rfl)) pe_int)))
      pss_nil))
    (pss_cons (ps_cut (ps_if (pt_cmpR op_eq (pvI 3) pe_str (nomark _))
      (pss_one (ps_set (i := 4) nd rfl (Or.inl rfl) (pe_ix (ix_listI K rfl) (pe_lst (pa_cons (pe_op op_addI pe_int (pe_op op_modI (pe_ix (ix_listI K rfl) (pvI 1) pe_int (fun _ _ => rfl)) pe_int)) (pa_cons pe_int (pa_cons (pe_op op_addI pe_int (pe_op op_modI (pe_ix (ix_listI K rfl) (pvI 1) pe_int (fun _ _ => rfl)) pe_int)) pa_nil)))) (pe_op op_modI (pe_op op_fdivI (pe_ix (ix_listI K rfl) (pvI 1) pe_int (fun _ _ => rfl)) pe_int) pe_int) (fun _ _ => rfl))))
      pss_nil))
    (pss_cons (ps_set (i := 5) nd rfl (Or.inl rfl) (pe_op op_modI (pe_ix (ix_listI K rfl) (pvI 1) pe_int (fun _ _ => rfl)) pe_int))
    (pss_one (ps_ret (pe_tup (pa_cons (pvI 2) (pa_cons (pvI 3) (pa_cons (pvI 4) (pa_cons (pvI 5) (pa_cons (pe_call (G__law_lines.mono (by decide)) hr rfl T.m__law_lines T.k__law_lines T.d__law_lines .nil pass0 (pa_cons (pvI 0) (pa_cons (pvI 2) (pa_cons (pe_slice sl_list (pvI 1) (po_some pe_int) (po_some pe_int)) pa_nil)))) pa_nil)))))))))))))) ?_
    try dsimp only [L2.cxOf, L2.Cx.nox]
    refine ⟨_, rfl, d, _, 0, _, rfl, rfl, hd, i0, _, rfl, _, _, rfl, rfl, by show (0 : Int) < _; omega, ?_⟩
    refine ⟨by show 2 ≤ sizeLine; decide, fun z hz => ?_⟩
    have sz : ∀ o, Same H (upd H z o) := fun o => same_upd hz
    refine ⟨_, rfl, d, _, 1, _, rfl, rfl, (sz _).seq hd, i1, _, _, rfl, rfl, pj, z, _, ((d1 % 2 : Nat) : Int), _, rfl, by show V.int _ = V.int _; rw [Int.natCast_emod]; rfl, SqL.of upd_same, ix2 (Nat.mod_lt _ (by decide)), ?_⟩
    generalize eH1 : upd H z (.lst [V.str "share", V.str "layer"]) = H1
    have s1 : Same H H1 := by rw [← eH1]; exact sz _
    have hk : ∃ k : Str, (if d1 % 2 = 0 then V.str "share" else V.str "layer") = V.str k ∧ (k = "share" ∨ k = "layer") := by
      by_cases e : d1 % 2 = 0
      · exact ⟨"share", by rw [if_pos e], .inl rfl⟩
      · exact ⟨"layer", by rw [if_neg e], .inr rfl⟩
    refine byC fun hG => ?_
    obtain ⟨k, ek, hk⟩ := hk
    refine hG ?_
    rw [ek]
    refine ⟨_, rfl, d, _, 2, _, rfl, rfl, s1.seq hd, i2, _, _, rfl, rfl, pj, ?_⟩
    refine ⟨fun σ H' => H' = H1 ∧ ∃ b : Int, σ = [some (.int h), some (.ref d), some (.int ((d0 % h : Nat) : Int)), some (.str k), some (.int b), none] ∧ 0 ≤ b ∧ b ≤ 200, ?_, ?_⟩
    · refine ⟨_, rfl, d, _, 1, _, rfl, rfl, s1.seq hd, i1, _, _, rfl, rfl, cdiv, _, _, rfl, rfl, pj, rfl, _, rfl, iteD (fun _ => ?_) (fun _ => ?_)⟩
      · exact ⟨_, rfl, d, _, 2, _, rfl, rfl, s1.seq hd, i2, _, _, rfl, rfl, pj, rfl, _, by rw [Int.natCast_emod]; rfl, by omega, by omega⟩
      · exact ⟨rfl, _, by rw [Int.natCast_emod]; rfl, by omega, by omega⟩
    intro σ H' zz1
    refine byC fun hG => ?_
    obtain ⟨e1, b, rfl, hb0, hb2⟩ := zz1
    obtain rfl := e1.symm
    refine hG ?_
    refine ⟨fun σ H' => Same H H' ∧ ∃ b : Int, σ = [some (.int h), some (.ref d), some (.int ((d0 % h : Nat) : Int)), some (.str k), some (.int b), none] ∧ (k = "share" → 1 ≤ b ∧ b ≤ 100) ∧ (k = "layer" → 0 ≤ b ∧ b ≤ 200), ?_, ?_⟩
    · refine ⟨_, rfl, rfl, _, rfl, ?_⟩
      rw [dec_strV]
      refine iteD (fun e => ?_) (fun e => ?_)
      · refine ⟨_, rfl, d, _, 2, _, rfl, rfl, s1.seq hd, i2, _, _, rfl, rfl, pj, _, _, rfl, rfl, _, rfl, d, _, 2, _, rfl, rfl, s1.seq hd, i2, _, _, rfl, rfl, pj, _, _, rfl, rfl, by show 3 ≤ sizeLine; decide, fun y hy => ?_⟩
        have s2 := s1.trans (same_upd (o := .lst [V.int (1 + (d2 : Int) % 100), V.int 100, V.int (50 + (d2 : Int) % 50)]) hy)
        refine ⟨_, rfl, d, _, 1, _, rfl, rfl, s2.seq hd, i1, _, _, rfl, rfl, cdiv, _, _, rfl, rfl, pj, y, _, ((d1 / 2 % 3 : Nat) : Int), _, rfl, by show V.int _ = V.int _; rw [Int.natCast_emod, Int.natCast_ediv]; rfl, SqL.of upd_same, ix3 (Nat.mod_lt _ (by decide)), s2, ?_⟩
        have hs : ¬ k = "layer" := fun z => share_ne (e.symm.trans z)
        by_cases f0 : d1 / 2 % 3 = 0
        · rw [if_pos f0]; exact ⟨_, rfl, fun _ => by omega, fun z => absurd z hs⟩
        · rw [if_neg f0]
          by_cases f1 : d1 / 2 % 3 = 1
          · rw [if_pos f1]; exact ⟨_, rfl, fun _ => by omega, fun z => absurd z hs⟩
          · rw [if_neg f1]; exact ⟨_, rfl, fun _ => by omega, fun z => absurd z hs⟩
      · exact ⟨s1, _, rfl, fun z => absurd z e, fun _ => ⟨hb0, hb2⟩⟩
    intro σ H2 zz2
    refine byC fun hG => ?_
    obtain ⟨s2, b, rfl, hs, hl⟩ := zz2
    refine hG ?_
    refine ⟨_, rfl, d, _, 3, _, rfl, rfl, s2.seq hd, i3, _, _, rfl, rfl, pj, ?_⟩
    refine ⟨_, rfl, _, rfl, _, rfl, _, rfl, _, rfl, _, rfl, _, rfl, 4, rfl, 9, rfl, d, _, rfl, s2.seq hd, fun sl hsl => ?_⟩
    have ecut : cutV (ds.map V.int) (some 4) (some 9) = ((ds.drop 4).take (9 - 4)).map V.int := cut_ints ds 4 9 (by omega) (by omega)
    rw [ecut]
    refine ⟨h, d0 % h, sl, (ds.drop 4).take (9 - 4), rfl, h2, h6, b0, SqL.of upd_same, by rw [cut_len _ _ _ (by omega)], cut_in hD _ _, fun lp L H3 s3 hlp g hL hLl => ?_⟩
    refine ⟨by show 5 ≤ sizeLine; decide, fun p hp => ?_⟩
    refine kk p lp (d0 % h) k b ((d3 % 25 : Nat) : Int) L _ (s2.trans ((same_upd hsl).trans (s3.trans (same_upd hp)))) ?_ (hlp.same (same_upd hp)) g b0 hL hLl ?_
    · have e3 : ((d3 % 25 : Nat) : Int) = (d3 : Int) % 25 := by omega
      rw [e3]
      exact SqT.of upd_same
    · unfold measB
      rcases hk with rfl | rfl
      · rw [if_pos rfl, decide_eq_true (hs rfl), Bool.true_and]; exact decide_eq_true (by omega)
      · rw [if_neg (fun z => share_ne z.symm), if_pos rfl, decide_eq_true (hl rfl), Bool.true_and]; exact decide_eq_true (by omega)
def sp__law_terms (K : Frag) : Sp := fun vs H Q _ => ∃ (h : Nat) (d : Addr) (ds : List Int), vs = [.int h, .ref d] ∧ 2 ≤ h ∧ h ≤ 6 ∧ SqL K H d (ds.map V.int) ∧ ds.length = 12 ∧ InD ds ∧
  ∀ (p : Addr) (t : Tm) (H' : Hp), Same H H' → TmAt K H' p t → termsB h t = true → Q (.ref p) H'
theorem sc__law_terms : FnScope ["_law_houses", "_law_draws_here", "_law_house", "_law_kind", "_law_by", "_law_most", "_law_lines_here", "_law_whole_here", "_law_first", "_law_last"] ["_law_houses", "_law_draws_here"] (defScope s__law_terms) := ⟨rfl, rfl, rfl, by decide +kernel, rfl, by decide +kernel, by decide +kernel⟩
set_option maxHeartbeats 4000000 in
theorem ok__law_terms (T : Txt w K mg A) (hB : BmAt mg base) : FnOk P w K mg base CX0 3 A.a__law_terms A.f__law_terms ["_law_houses", "_law_draws_here"] (sp__law_terms K) := by
  have nd := sc__law_terms.nd
  have G__law_cover := ok__law_cover (P := P) (w := w) (base := base) T hB
  refine T.F__law_terms.ok sc__law_terms (fun vs H Q E h => ?_) (fun cdv Ar outer s H vs Q E hr h => ?_)
  · obtain ⟨h, d, ds, rfl, _⟩ := h; rfl
  · skip
    obtain ⟨h, d, ds, rfl, h2, h6, hd, hd12, hD, kk⟩ := h
    obtain ⟨d9, D9, i9⟩ := draw_at hD (i := 9) (by omega)
    obtain ⟨d10, D10, i10⟩ := draw_at hD (i := 10) (by omega)
    obtain ⟨d11, D11, i11⟩ := draw_at hD (i := 11) (by omega)
    refine PSs.rd (pss_cons (ps_asg (pe_call (G__law_cover.mono (by decide)) hr rfl T.m__law_cover T.k__law_cover T.d__law_cover .nil pass0 (pa_cons (pvI 0) (pa_cons (pe_slice sl_list (pvI 1) (po_some pe_int) (po_some pe_int)) pa_nil))) (pg_tup (n := 5) rfl (pgs_cons (pg_name (i := 2) nd rfl (Or.inl rfl)) (pgs_cons (pg_name (i := 3) nd rfl (Or.inl rfl)) (pgs_cons (pg_name (i := 4) nd rfl (Or.inl rfl)) (pgs_cons (pg_name (i := 5) nd rfl (Or.inl rfl)) (pgs_cons (pg_name (i := 6) nd rfl (Or.inl rfl)) pgs_nil)))))))
    (pss_cons (ps_set (i := 5) nd rfl (Or.inl rfl) (pe_op op_addI pe_int (pe_op op_modI (pvI 5) pe_int)))
    (pss_cons (ps_if (pt_cmpR op_eq (pe_op op_modI (pe_ix (ix_listI K rfl) (pvI 1) pe_int (fun _ _ => rfl)) pe_int) pe_int (nomark _))
      (pss_one (ps_ret (pe_tup (pa_cons pe_str (pa_cons (pvI 2) (pa_cons (pvI 4) (pa_cons (pvI 5) (pa_cons (pvI 6) pa_nil))))))))
      pss_nil)
    (pss_cons (ps_set (i := 7) nd rfl (Or.inl rfl) (pe_op op_addI pe_int (pe_op op_modI (pe_ix (ix_listI K rfl) (pvI 1) pe_int (fun _ _ => rfl)) pe_int)))
    (pss_cons (ps_cut (ps_if (pt_cmpR op_eq (pe_op op_fdivI (pe_ix (ix_listI K rfl) (pvI 1) pe_int (fun _ _ => rfl)) pe_int) pe_int (nomark _))
      (pss_one (ps_set (i := 7) nd rfl (Or.inl rfl) (pe_op op_addI pe_int (pe_op op_modI (pe_ix (ix_listI K rfl) (pvI 1) pe_int (fun _ _ => rfl)) pe_int))))
      pss_nil))
    (pss_cons (ps_set (i := 8) nd rfl (Or.inl rfl) pe_int)
    (pss_cons (ps_set (i := 9) nd rfl (Or.inl rfl) pe_int)
    (pss_cons (ps_cut (ps_if (pt_cmpR op_eq (pe_op op_modI (pe_ix (ix_listI K rfl) (pvI 1) pe_int (fun _ _ => rfl)) pe_int) pe_int (nomark _))
      (pss_cons (ps_set (i := 8) nd rfl (Or.inl rfl) (pe_op op_modI (pe_op op_fdivI (pe_ix (ix_listI K rfl) (pvI 1) pe_int (fun _ _ => rfl)) pe_int) pe_int))
       (pss_one (ps_set (i := 9) nd rfl (Or.inl rfl) (pe_op op_addI (pvI 8) (pe_op op_modI (pe_op op_fdivI (pe_ix (ix_listI K rfl) (pvI 1) pe_int (fun _ _ => rfl)) pe_int) (pe_op op_subI pe_int (pvI 8)))))))
      pss_nil))
    (pss_cons (ps_cut (ps_if (pt_cmpR op_eq (pe_op op_modI (pe_ix (ix_listI K rfl) (pvI 1) pe_int (fun _ _ => rfl)) pe_int) pe_int (nomark _))
      (pss_cons (ps_set (i := 8) nd rfl (Or.inl rfl) (pe_op op_mulI (pe_op op_modI (pe_op op_fdivI (pe_ix (ix_listI K rfl) (pvI 1) pe_int (fun _ _ => rfl)) pe_int) pe_int) pe_int))
       (pss_one (ps_set (i := 9) nd rfl (Or.inl rfl) (pe_callB (call_min2 rfl) rfl T.b_min boot_min (pa_cons pe_int (pa_cons (pe_op op_addI (pvI 8) (pe_op op_mulI (pe_op op_modI (pe_op op_fdivI (pe_ix (ix_listI K rfl) (pvI 1) pe_int (fun _ _ => rfl)) pe_int) pe_int) pe_int)) pa_nil))))))
      pss_nil))
    (pss_one (ps_ret (pe_tup (pa_cons (pvI 3) (pa_cons (pvI 2) (pa_cons (pvI 4) (pa_cons (pvI 5) (pa_cons (pvI 7) (pa_cons (pvI 8) (pa_cons (pvI 9) (pa_cons (pvI 6) pa_nil)))))))))))))))))))) ?_
    try dsimp only [L2.cxOf, L2.Cx.nox]
    rw [show ∀ v0 v1 : V, L2.start ["_law_houses", "_law_draws_here", "_law_house", "_law_kind", "_law_by", "_law_most", "_law_lines_here", "_law_whole_here", "_law_first", "_law_last"] [v0, v1] = [some v0, some v1, none, none, none, none, none, none, none, none] from fun _ _ => rfl]
    refine ⟨_, rfl, _, rfl, 0, rfl, 9, rfl, d, _, rfl, hd, fun sl hsl => ?_⟩
    have ec : cutV (ds.map V.int) (some 0) (some 9) = ((ds.drop 0).take (9 - 0)).map V.int := cut_ints ds 0 9 (by omega) (by omega)
    rw [ec]
    have ssl := same_upd (o := .lst (((ds.drop 0).take (9 - 0)).map V.int)) hsl
    refine ⟨h, sl, _, rfl, h2, h6, SqL.of upd_same, by rw [cut_len _ _ _ (by omega)], cut_in hD _ _, fun p lp ho k b m L H1 s1' hrow hL gL hho hot hLl hms => ?_⟩
    have s1 := ssl.trans s1'
    have hd1 := s1.seq hd
    have gl4 := gL.l4
    have mc := measB_cases hms
    refine ⟨p, _, rfl, hrow, rfl, _, _, rfl, _, _, rfl, _, _, rfl, _, _, rfl, _, _, rfl, rfl, ?_⟩
    try dsimp only [List.set_cons_zero, List.set_cons_succ]
    refine ⟨_, rfl, _, _, rfl, rfl, pj, _, _, rfl, rfl, ?_⟩
    have m1 : 1 ≤ 1 + m % 24 ∧ 1 + m % 24 ≤ 24 := by omega
    try dsimp only [List.set_cons_zero, List.set_cons_succ]
    generalize 1 + m % 24 = m' at m1
    have cov : ∀ k' : Str, measB k' b m' = true → isCoverB h (some ((ho : Int), k', b, m', L)) = true := fun k' hm' => (goodC_iff (by omega)).mpr ⟨⟨Int.natCast_nonneg _, by show (ho : Int) < h; omega⟩, hm', gL, hot⟩
    have mk : measB k b m' = true := by
      unfold measB
      rcases mc.1 with ⟨rfl, q⟩ | ⟨rfl, q⟩
      · rw [if_pos rfl, decide_eq_true q, decide_eq_true (show 0 ≤ m' ∧ m' ≤ 24 by omega)]; rfl
      · rw [if_neg (by decide +kernel), if_pos rfl, decide_eq_true q, decide_eq_true (show 0 ≤ m' ∧ m' ≤ 24 by omega)]; rfl
    have ml : measB "layer" b m' = true := by
      unfold measB
      rw [if_neg (by decide +kernel), if_pos rfl, decide_eq_true (show 0 ≤ b ∧ b ≤ 200 by rcases mc.1 with ⟨_, q⟩ | ⟨_, q⟩ <;> omega), decide_eq_true (show 0 ≤ m' ∧ m' ≤ 24 by omega)]; rfl
    have hk : k = "share" ∨ k = "layer" := mc.1.imp (fun z => z.1) fun z => z.1
    refine ⟨_, rfl, d, _, 9, _, rfl, rfl, hd1, i9, _, _, rfl, rfl, pj, rfl, _, rfl, iteD (fun _ => ?_) (fun _ => ?_)⟩
    · refine ⟨_, rfl, _, rfl, _, rfl, _, rfl, by show 5 ≤ sizeLine; decide, fun q hq => ?_⟩
      have sq := same_upd (o := .tup [.str "stop", .int (ho : Nat), .int b, .int m', .ref lp]) hq
      exact kk q (.stop (ho : Nat) b m' L) _ (s1.trans sq) ⟨lp, SqT.of upd_same, hL.same sq, by omega⟩ (by rw [termsB_stop, cov _ ml, decide_eq_true m1.1]; rfl)
    refine ⟨_, rfl, d, _, 10, _, rfl, rfl, hd1, i10, _, _, rfl, rfl, pj, _, _, rfl, rfl, ?_⟩
    try dsimp only [List.set_cons_zero, List.set_cons_succ]
    refine ⟨fun σ H' => ∃ w : Int, σ = [some (.int h), some (.ref d), some (.int (ho : Nat)), some (.str k), some (.int b), some (.int m'), some (.ref lp), some (.int w), none, none] ∧ H1 = H' ∧ 1 ≤ w ∧ w ≤ 120, ?_, ?_⟩
    · refine ⟨_, rfl, d, _, 10, _, rfl, rfl, hd1, i10, _, _, rfl, rfl, cdiv, rfl, _, rfl, iteD (fun _ => ?_) (fun _ => ⟨_, rfl, rfl, by omega, by omega⟩)⟩
      refine ⟨_, rfl, d, _, 10, _, rfl, rfl, hd1, i10, _, _, rfl, rfl, pj, _, _, rfl, rfl, ?_⟩
      exact ⟨_, rfl, rfl, by omega, by omega⟩
    intro σ H1' zz1
    refine byC fun hG => ?_
    obtain ⟨w, rfl, rfl, hw1, hw2⟩ := zz1
    refine hG ?_
    try dsimp only [List.set_cons_zero, List.set_cons_succ]
    refine ⟨fun σ H' => ∃ f l : Int, σ = [some (.int h), some (.ref d), some (.int (ho : Nat)), some (.str k), some (.int b), some (.int m'), some (.ref lp), some (.int w), some (.int f), some (.int l)] ∧ H1 = H' ∧ 0 ≤ f ∧ f ≤ l ∧ l ≤ 99, ?_, ?_⟩
    · refine ⟨_, rfl, d, _, 11, _, rfl, rfl, hd1, i11, _, _, rfl, rfl, pj, rfl, _, rfl, iteD (fun _ => ?_) (fun _ => ⟨0, 99, rfl, rfl, by decide, by decide, by decide⟩)⟩
      refine ⟨_, rfl, d, _, 11, _, rfl, rfl, hd1, i11, _, _, rfl, rfl, cdiv, _, _, rfl, rfl, pj, ?_⟩
      have hf : 0 ≤ (d11 : Int) / 3 % 100 ∧ (d11 : Int) / 3 % 100 ≤ 99 := by omega
      try dsimp only [List.set_cons_zero, List.set_cons_succ]
      generalize (d11 : Int) / 3 % 100 = f at hf
      refine ⟨_, rfl, _, rfl, d, _, 9, _, rfl, rfl, hd1, i9, _, _, rfl, rfl, cdiv, _, rfl, _, _, rfl, rfl, _, _, rfl, rfl, (by omega), _, _, rfl, rfl, ?_⟩
      have q1 := Int.emod_nonneg ((d9 : Int) / 5) (b := 100 - f) (by omega)
      have q2 := Int.emod_lt_of_pos ((d9 : Int) / 5) (b := 100 - f) (by omega)
      generalize (d9 : Int) / 5 % (100 - f) = e at q1 q2
      exact ⟨f, f + e, rfl, rfl, by omega, by omega, by omega⟩
    intro σ H2 zz2
    refine byC fun hG => ?_
    obtain ⟨f, l, rfl, rfl, hf0, hfl, hl9⟩ := zz2
    refine hG ?_
    try dsimp only [List.set_cons_zero, List.set_cons_succ]
    refine ⟨fun σ H' => ∃ f l : Int, σ = [some (.int h), some (.ref d), some (.int (ho : Nat)), some (.str k), some (.int b), some (.int m'), some (.ref lp), some (.int w), some (.int f), some (.int l)] ∧ H1 = H' ∧ 0 ≤ f ∧ f ≤ l ∧ l ≤ 99, ?_, ?_⟩
    · refine ⟨_, rfl, d, _, 11, _, rfl, rfl, hd1, i11, _, _, rfl, rfl, pj, rfl, _, rfl, iteD (fun _ => ?_) (fun _ => ⟨f, l, rfl, rfl, hf0, hfl, hl9⟩)⟩
      refine ⟨_, rfl, d, _, 11, _, rfl, rfl, hd1, i11, _, _, rfl, rfl, cdiv, _, _, rfl, rfl, pj, _, _, rfl, rfl, cmulR, ?_⟩
      have hf : 0 ≤ (d11 : Int) / 3 % 4 * 30 ∧ (d11 : Int) / 3 % 4 * 30 ≤ 90 := by omega
      try dsimp only [List.set_cons_zero, List.set_cons_succ]
      generalize (d11 : Int) / 3 % 4 * 30 = f2 at hf
      refine ⟨_, rfl, _, rfl, d, _, 9, _, rfl, rfl, hd1, i9, _, _, rfl, rfl, cdiv, _, _, rfl, rfl, pj, _, _, rfl, rfl, cmulR, _, _, rfl, rfl, _, _, rfl, ?_⟩
      have q1 : 0 ≤ (d9 : Int) / 5 % 4 * 30 := by omega
      try dsimp only [List.set_cons_zero, List.set_cons_succ]
      generalize (d9 : Int) / 5 % 4 * 30 = e at q1
      refine ⟨f2, _, rfl, rfl, by omega, ?_, ?_⟩ <;> split <;> omega
    intro σ H3 zz3
    refine byC fun hG => ?_
    obtain ⟨f, l, rfl, rfl, hf0, hfl, hl9⟩ := zz3
    refine hG ?_
    refine ⟨_, rfl, _, rfl, _, rfl, _, rfl, _, rfl, _, rfl, _, rfl, _, rfl, by show 8 ≤ sizeLine; decide, fun q hq => ?_⟩
    have sq := same_upd (o := .tup [.str k, .int (ho : Nat), .int b, .int m', .int w, .int f, .int l, .ref lp]) hq
    refine kk q (.full k (ho : Nat) b m' w f l L) _ (s1.trans sq) ⟨hk, lp, SqT.of upd_same, hL.same sq, by omega⟩ ?_
    rw [termsB_full, cov _ mk, decide_eq_true m1.1]
    unfold bndB
    rw [decide_eq_true ⟨hw1, hw2⟩, decide_eq_true (show 0 ≤ f ∧ f ≤ 99 by omega), decide_eq_true (show 0 ≤ l ∧ l ≤ 99 by omega), decide_eq_true hfl]
    rfl
def sp__law_call (K : Frag) (A : Adr) : Sp := fun vs H Q E => ∃ (x q p : Addr) (h : Nat) (ts : List Tm) (t : Tm) (sg dy lr pp tc : Addr), vs = [.ref x, .ref q] ∧ SqT K H q [.str "sign", .ref p] ∧ Rg0 A.c_Ring K H x h ts sg dy lr pp tc ∧ TmAt K H p t ∧ ts.length ≤ 10 ∧
  (termsB h t = false → ∀ H', Same H H' → E (.ref A.c_BadTerms) none H') ∧ (termsB h t = true → ts.length = 10 → ∀ H', Same H H' → E (.ref A.c_Full) none H') ∧
  (termsB h t = true → ts.length < 10 → ∀ pp' H', SameX [x, sg] H H' → SameU H H' → H pp' = none → Rg0 A.c_Ring K H' x h (ts ++ [t]) sg dy lr pp' tc → Q (.int (ts.length : Nat)) H')
theorem sc__law_call : FnScope ["_law_ring", "_law_deed", "_law_head"] ["_law_ring", "_law_deed"] (defScope s__law_call) := ⟨rfl, rfl, rfl, by decide +kernel, rfl, by decide +kernel, by decide +kernel⟩
set_option maxHeartbeats 4000000 in
theorem ok__law_call (T : Txt w K mg A) (hB : BmAt mg base) : FnOk P w K mg base (CXW P w) 5 A.a__law_call A.f__law_call ["_law_ring", "_law_deed"] (sp__law_call K A) := by
  have nd := sc__law_call.nd
  have G_Ring_sign := ok_Ring_sign (P := P) (w := w) (base := base) T hB
  refine T.F__law_call.okW sc__law_call (fun vs H Q E h => ?_) (fun cdv Ar outer s H vs Q E hr h => ?_)
  · obtain ⟨x, q, p, h, ts, t, sg, dy, lr, pp, tc, rfl, _⟩ := h; rfl
  · skip
    obtain ⟨x, q, p, h, ts, t, sg, dy, lr, pp, tc, rfl, hq, R, ht, hl10, eb, ef, kk⟩ := h
    obtain ⟨dx, fs, us, ps, hx, O, hsg, hS, hpp, hpl⟩ := R.ex
    refine PSs.rd (pss_cons (ps_set (i := 2) nd rfl (Or.inl rfl) (pe_ix (ix_tupI K rfl) (pvI 1) pe_int (fun _ _ => rfl)))
    (pss_cons (ps_if (pt_cmpR op_eq (pvI 2) pe_str (nomark _))
      (pss_one (ps_ret (pe_meth (pvI 0) T.cl_Ring T.me_Ring_sign (G_Ring_sign.mono (by decide)) hr T.d_Ring_sign .nil (passW flies (fun _ _ h => h)) (pa_cons (pe_ix (ix_tupI K rfl) (pvI 1) pe_int (fun _ _ => rfl)) pa_nil))))
      pss_nil)
    (pss_cons ps_never
    (pss_cons ps_never
    (pss_cons ps_never
    (pss_cons ps_never
    (pss_cons ps_never
    (pss_cons ps_never
    (pss_cons ps_never
    (pss_cons ps_never
    (pss_one ps_never))))))))))) ?_
    rw [show ∀ v0 v1 : V, L2.start ["_law_ring", "_law_deed", "_law_head"] [v0, v1] = [some v0, some v1, none] from fun _ _ => rfl]
    refine ⟨_, rfl, q, _, 0, _, rfl, rfl, hq, rfl, ?_⟩
    try dsimp only [List.set_cons_zero, List.set_cons_succ]
    refine ⟨_, rfl, rfl, _, rfl, iteT' (by decide +kernel) ?_⟩
    refine ⟨_, rfl, x, dx, _, rfl, hx, O.no "sign" (by decide +kernel), _, rfl, q, _, 1, _, rfl, rfl, hq, rfl, x, p, h, ts, t, sg, dy, lr, pp, tc, rfl, R, ht, hl10, eb, ef, kk⟩
def sp__law_acted (K : Frag) (A : Adr) : Sp := fun vs H Q _ => ∃ (x q p : Addr) (h : Nat) (ts : List Tm) (t : Tm) (sg dy lr pp tc : Addr), vs = [.ref x, .ref q] ∧ SqT K H q [.str "sign", .ref p] ∧ Rg0 A.c_Ring K H x h ts sg dy lr pp tc ∧ TmAt K H p t ∧ ts.length ≤ 10 ∧
  (∀ (nm : Str) (r b : Addr) (H' : Hp), (termsB h t = false ∧ nm = "BadTerms") ∨ (termsB h t = true ∧ ts.length = 10 ∧ nm = "Full") → Same H H' → H' r = some (.tup [.non, .ref b]) → H' b = some (.lst ((seenL nm).map V.bl)) → Q (.ref r) H') ∧
  (termsB h t = true → ts.length < 10 → ∀ r b pp' H', SameX [x, sg] H H' → SameU H H' → H pp' = none → Rg0 A.c_Ring K H' x h (ts ++ [t]) sg dy lr pp' tc → H' r = some (.tup [.int (ts.length : Nat), .ref b]) → H' b = some (.lst []) → Q (.ref r) H')
theorem sc__law_acted : FnScope ["_law_ring", "_law_deed", "_law_found", "_law_bad", "_law_e"] ["_law_ring", "_law_deed"] (defScope s__law_acted) := ⟨rfl, rfl, rfl, by decide +kernel, rfl, by decide +kernel, by decide +kernel⟩
set_option maxHeartbeats 4000000 in
theorem ok__law_acted (T : Txt w K mg A) (hB : BmAt mg base) : FnOk P w K mg base CX0 6 A.a__law_acted A.f__law_acted ["_law_ring", "_law_deed"] (sp__law_acted K A) := by
  have nd := sc__law_acted.nd
  have G__law_call := ok__law_call (P := P) (w := w) (base := base) T hB
  have G__law_seen := ok__law_seen (P := P) (w := w) (base := base) T hB
  refine T.F__law_acted.ok sc__law_acted (fun vs H Q E h => ?_) (fun cdv Ar outer s H vs Q E hr h => ?_)
  · obtain ⟨x, q, p, h, ts, t, sg, dy, lr, pp, tc, rfl, _⟩ := h; rfl
  · skip
    obtain ⟨x, q, p, h, ts, t, sg, dy, lr, pp, tc, rfl, hq, R, ht, hl10, kb, kk⟩ := h
    obtain ⟨dx, fs, us, ps, hx, O, hsg, hS, hpp, hpl⟩ := R.ex
    refine PSs.rd (pss_cons (ps_set (i := 2) nd rfl (Or.inl rfl) pe_non)
    (pss_cons (ps_set (i := 3) nd rfl (Or.inl rfl) (pe_lst pa_nil))
    (pss_cons (ps_cut (ps_try (i := 4) rfl rfl nd rfl rfl rfl T.mc_RingError
      (fun _ _ => (pss_one (ps_set (i := 2) nd rfl (Or.inl rfl) (pe_callX (G__law_call.mono (by decide)) hr rfl T.m__law_call T.k__law_call T.d__law_call (pa_cons (pvI 0) (pa_cons (pvI 1) pa_nil))))))
      (fun _ => (pss_one (ps_set (i := 3) nd rfl (Or.inl rfl) (pe_callH (G__law_seen.mono (by decide)) (hr.h _) rfl T.m__law_seen T.k__law_seen T.d__law_seen (pa_cons (pvI 4) pa_nil)))))))
    (pss_one (ps_ret (pe_tup (pa_cons (pvI 2) (pa_cons (pvI 3) pa_nil)))))))) ?_
    try dsimp only [L2.cxOf, L2.Cx.nox]
    rw [show ∀ v0 v1 : V, L2.start ["_law_ring", "_law_deed", "_law_found", "_law_bad", "_law_e"] [v0, v1] = [some v0, some v1, none, none, none] from fun _ _ => rfl]
    refine ⟨Nat.zero_le _, fun b0 hb0 => ?_⟩
    have s0 := same_upd (o := .lst []) hb0
    have r0 := upd_same (H := H) (a := b0) (o := .lst [])
    generalize upd H b0 (.lst []) = H0 at *
    try dsimp only [List.set_cons_zero, List.set_cons_succ]
    refine ⟨fun σ H' => (∃ (nm : Str) (r : Addr), σ = [some (.ref x), some (.ref q), some .non, some (.ref r), none] ∧ Same H H' ∧ H' r = some (.lst ((seenL nm).map V.bl)) ∧ ((termsB h t = false ∧ nm = "BadTerms") ∨ (termsB h t = true ∧ ts.length = 10 ∧ nm = "Full"))) ∨
      ∃ pp', σ = [some (.ref x), some (.ref q), some (.int (ts.length : Nat)), some (.ref b0), none] ∧ SameX [x, sg] H H' ∧ SameU H H' ∧ H pp' = none ∧ Rg0 A.c_Ring K H' x h (ts ++ [t]) sg dy lr pp' tc ∧ H' b0 = some (.lst []) ∧ termsB h t = true ∧ ts.length < 10, ?_, ?_⟩
    case refine_2 =>
      intro σ H' hh
      rcases hh with ⟨nm, r, rfl, s, hr', hc⟩ | ⟨pp', rfl, sx, su, fp, R', hb', e, hl⟩
      · refine ⟨_, rfl, _, rfl, by show 2 ≤ sizeLine; decide, fun a ha => ?_⟩
        have sa := same_upd (o := .tup [.non, .ref r]) ha
        exact kb nm a r _ hc (s.trans sa) upd_same (sa _ _ hr')
      · refine ⟨_, rfl, _, rfl, by show 2 ≤ sizeLine; decide, fun a ha => ?_⟩
        have sa := same_upd (o := .tup [.int (ts.length : Nat), .ref b0]) ha
        exact kk e hl a b0 pp' _ (sx.trans (SameX.of sa)) ⟨fun b ys z => sa _ _ (su.1 _ _ z), fun b o u z => sa _ _ (su.2 _ _ _ z)⟩ fp (R'.same sa) upd_same (sa _ _ hb')
    refine ⟨_, rfl, _, rfl, x, q, p, h, ts, t, sg, dy, lr, pp, tc, rfl, s0.tupS hq, R.same s0, TmAt.same s0 ht, hl10, fun e H1 s1 => ⟨_, rfl, T.em_BadTerms, fun ex he => ?_⟩, fun e hl H1 s1 => ⟨_, rfl, T.em_Full, fun ex he => ?_⟩, fun e hl pp' H1 sx su fp R1 => ?_⟩
    · exact ⟨_, rfl, ex, _, "BadTerms", rfl, upd_same, eis_BadTerms T, fun l H3 hl3 s3 hl33 => .inl ⟨"BadTerms", l, rfl, (s0.trans s1).trans ((same_upd he).trans s3), hl33, .inl ⟨e, rfl⟩⟩⟩
    · exact ⟨_, rfl, ex, _, "Full", rfl, upd_same, eis_Full T, fun l H3 hl3 s3 hl33 => .inl ⟨"Full", l, rfl, (s0.trans s1).trans ((same_upd he).trans s3), hl33, .inr ⟨e, hl, rfl⟩⟩⟩
    · have nbx : b0 ∉ [x, sg] := fun z => by
        rcases List.mem_cons.mp z with z | z
        · rw [z, hx] at hb0; cases hb0
        · rw [List.mem_singleton.mp z, hsg] at hb0; cases hb0
      exact .inr ⟨pp', rfl, (SameX.of s0).trans sx, ⟨fun b ys z => su.1 _ _ (s0 _ _ z), fun b o u z => su.2 _ _ _ (s0 _ _ z)⟩, s0.free fp, R1, sx _ _ nbx r0, e, hl⟩
def sp_law (K : Frag) (tl : List Addr) : Sp := fun vs H Q _ => ∃ (a : Addr) (ns : List Int), vs = [.ref a] ∧ SqL K H a (ns.map V.int) ∧ ns.length ≤ 63 ∧ (∀ P ∈ tl, H P = some (.tbl #[])) ∧ ∀ H', Q (.bl true) H'
theorem sc_law : FnScope ["_law_script", "_law_draws_here", "_law_houses", "_law_ring", "_law_beside", "_law_alone", "_law_signed", "_law_k", "_law_d", "_law_terms_here", "_law_good", "_law_odd", "_law_found", "_law_bad", "_law_due_here", "_law_told"] ["_law_script"] (defScope s_law) := ⟨rfl, rfl, rfl, by decide +kernel, rfl, by decide +kernel, by decide +kernel⟩
set_option maxHeartbeats 0 in
theorem ok_law (T : Txt w K mg A) (hB : BmAt mg base) : FnOk P w K mg base CX0 7 A.a_law A.f_law ["_law_script"] (sp_law K (tabsA A)) := by
  have nd := sc_law.nd
  have G_Ring___init__ := ok_Ring___init__ (P := P) (w := w) (base := base) T hB
  have G_Ring_closings := ok_Ring_closings (P := P) (w := w) (base := base) T hB
  have G_Ring_covers := ok_Ring_covers (P := P) (w := w) (base := base) T hB
  have G_Ring_happenings := ok_Ring_happenings (P := P) (w := w) (base := base) T hB
  have G_Ring_losses := ok_Ring_losses (P := P) (w := w) (base := base) T hB
  have G__law_acted := ok__law_acted (P := P) (w := w) (base := base) T hB
  have G__law_draws := ok__law_draws (P := P) (w := w) (base := base) T hB
  have G__law_due := ok__law_due (P := P) (w := w) (base := base) T hB
  have G__law_terms := ok__law_terms (P := P) (w := w) (base := base) T hB
  have G__law_whole := ok__law_whole (P := P) (w := w) (base := base) T hB
  refine T.F_law.ok sc_law (fun vs H Q E h => ?_) (fun cdv Ar outer s H vs Q E hr h => ?_)
  · obtain ⟨a, ns, rfl, _⟩ := h; rfl
  · skip
    obtain ⟨a, ns, rfl, hS, hl, htb, kk⟩ := h
    have hP0 : H A.lp_Ring_happenings = some (.tbl #[]) := htb _ List.mem_cons_self
    refine PSs.rd (pss_cons (ps_set (i := 1) nd rfl (Or.inl rfl) (pe_call (G__law_draws.mono (by decide)) hr rfl T.m__law_draws T.k__law_draws T.d__law_draws .nil pass0 (pa_cons (pvI 0) (pa_cons pe_int pa_nil))))
    (pss_cons (ps_set (i := 2) nd rfl (Or.inl rfl) (pe_op op_addI pe_int (pe_op op_modI (pe_ix (ix_listI K rfl) (pvI 1) pe_int (fun _ _ => rfl)) pe_int)))
    (pss_cons (ps_set (i := 3) nd rfl (Or.inl rfl) (pe_make T.mk_Ring (G_Ring___init__.mono (by decide)) hr rfl T.mc_Ring T.d_Ring___init__ .nil pass0 (pa_cons (pvI 2) pa_nil)))
    (pss_cons (ps_set (i := 4) nd rfl (Or.inl rfl) (pe_make T.mk_Ring (G_Ring___init__.mono (by decide)) hr rfl T.mc_Ring T.d_Ring___init__ .nil pass0 (pa_cons pe_int pa_nil)))
    (pss_cons (ps_set (i := 5) nd rfl (Or.inl rfl) (pe_tup (pa_cons pe_str (pa_cons pe_int (pa_cons pe_int (pa_cons pe_int (pa_cons (pe_tup (pa_cons (pe_tup (pa_cons pe_int (pa_cons pe_int pa_nil))) pa_nil)) pa_nil)))))))
    (pss_cons (ps_if (pt_cmpR (op_neD (u64 hr)) (pe_call (G__law_acted.mono (by decide)) hr rfl T.m__law_acted T.k__law_acted T.d__law_acted .nil pass0 (pa_cons (pe_make T.mk_Ring (G_Ring___init__.mono (by decide)) hr rfl T.mc_Ring T.d_Ring___init__ .nil pass0 (pa_cons pe_int pa_nil)) (pa_cons (pe_tup (pa_cons pe_str (pa_cons (pvI 5) pa_nil))) pa_nil))) (pe_tup (pa_cons pe_non (pa_cons (pe_call (G__law_due.mono (by decide)) hr rfl T.m__law_due T.k__law_due T.d__law_due .nil pass0 (pa_cons pe_str pa_nil)) pa_nil))) (nomark _))
      (pss_one (ps_ret pe_bl))
      pss_nil)
    (pss_cons (ps_set (i := 6) nd rfl (Or.inl rfl) (pe_lst pa_nil))
    (pss_cons (ps_for PassesOwn.never rfl (pi_range1 rfl T.b_range (pa_cons (pe_op op_modI (pe_ix (ix_listI K rfl) (pvI 1) pe_int (fun _ _ => rfl)) pe_int) pa_nil)) (pg_name (i := 7) nd rfl (Or.inl rfl))
      (pss_cons (ps_set (i := 8) nd rfl (Or.inl rfl) (pe_ix (ix_listI K rfl) (pvI 1) (pe_op op_addI pe_int (pvI 7)) (fun _ _ => rfl)))
       (pss_cons (ps_set (i := 9) nd rfl (Or.inl rfl) (pe_call (G__law_terms.mono (by decide)) hr rfl T.m__law_terms T.k__law_terms T.d__law_terms .nil pass0 (pa_cons (pvI 2) (pa_cons (pe_slice sl_list (pvI 1) (po_some (pe_op op_addI pe_int (pe_op op_mulI pe_int (pvI 7)))) (po_some (pe_op op_addI pe_int (pe_op op_mulI pe_int (pvI 7))))) pa_nil))))
       (pss_cons (ps_set (i := 10) nd rfl (Or.inl rfl) (pe_cmpR op_gtI (pe_op op_modI (pvI 8) pe_int) pe_int (nomark _)))
       (pss_cons (ps_cut (ps_if (pt_not (pt_truth (pvI 10) (fun _ => rfl)))
         (pss_cons (ps_set (i := 11) nd rfl (Or.inl rfl) (pe_lst (pa_cons (pe_op op_catTA (pe_op op_catTA (pe_slice sl_tupA (pvI 9) po_none (po_some pe_int)) (pe_tup (pa_cons pe_int pa_nil))) (pe_slice sl_tupA (pvI 9) (po_some pe_int) po_none)) (pa_cons (pe_op op_catTA (pe_op op_catTA (pe_slice sl_tupA (pvI 9) po_none (po_some pe_int)) (pe_tup (pa_cons (pvI 2) pa_nil))) (pe_slice sl_tupA (pvI 9) (po_some pe_int) po_none)) (pa_cons (pe_slice sl_tupA (pvI 9) po_none (po_some (pe_un un_neg pe_int))) pa_nil)))))
          (pss_one (ps_set (i := 9) nd rfl (Or.inl rfl) (pe_ix (ix_listI K rfl) (pe_op op_cat (pvI 11) (pe_lst (pa_cons (pe_op op_catTA (pe_slice sl_tupA (pvI 9) po_none (po_some (pe_un un_neg pe_int))) (pe_tup (pa_cons (pe_tup pa_nil) pa_nil))) pa_nil))) (pe_op op_modI (pe_op op_fdivI (pvI 8) pe_int) pe_int) (fun _ _ => rfl)))))
         pss_nil))
       (pss_cons (ps_asg (pe_call (G__law_acted.mono (by decide)) hr rfl T.m__law_acted T.k__law_acted T.d__law_acted .nil pass0 (pa_cons (pvI 3) (pa_cons (pe_tup (pa_cons pe_str (pa_cons (pvI 9) pa_nil))) pa_nil))) (pg_tup (n := 2) rfl (pgs_cons (pg_name (i := 12) nd rfl (Or.inl rfl)) (pgs_cons (pg_name (i := 13) nd rfl (Or.inl rfl)) pgs_nil))))
       (pss_cons (ps_set (i := 14) nd rfl (Or.inl rfl) pe_str)
       (pss_cons (ps_cut (ps_if (pt_not (pt_truth (pvI 10) (fun _ => rfl)))
         (pss_one (ps_set (i := 14) nd rfl (Or.inl rfl) pe_str))
         (pss_one (ps_if (pt_cmpR op_gtI (pe_callB call_len_seq rfl T.b_len PySem.boot_len (pa_cons (pvI 6) pa_nil)) pe_int (nomark _))
            (pss_one (ps_set (i := 14) nd rfl (Or.inl rfl) pe_str))
            pss_nil))))
       (pss_cons (ps_if (PW.pt (pw_and (pt_cmpR op_ne (pvI 14) pe_str (nomark _)) (pw_and1 (PW.pt (pw_or (pt_cmpR op_notN (pvI 12) pe_non (nomark _)) (pw_or1 (pt_cmpR (op_neD (u64 hr)) (pvI 13) (pe_call (G__law_due.mono (by decide)) hr rfl T.m__law_due T.k__law_due T.d__law_due .nil pass0 (pa_cons (pvI 14) pa_nil)) (nomark _))))))))
         (pss_one (ps_ret pe_bl))
         pss_nil)
       (pss_cons (ps_cut (ps_if (pt_cmpR op_eq (pvI 14) pe_str (nomark _))
         (pss_cons (ps_if (PW.pt (pw_or (pt_cmpR (op_neD (u64 hr)) (pvI 13) (pe_lst pa_nil) (nomark _)) (pw_or (pt_not (pt_truth (pe_call (G__law_whole.mono (by decide)) hr rfl T.m__law_whole T.k__law_whole T.d__law_whole .nil pass0 (pa_cons (pvI 12) pa_nil)) (fun _ => rfl))) (pw_or1 (pt_cmpR op_ne (pvI 12) (pe_callB call_len_seq rfl T.b_len PySem.boot_len (pa_cons (pvI 6) pa_nil)) (nomark _))))))
            (pss_one (ps_ret pe_bl))
            pss_nil)
          (pss_one (ps_expr (pe_bm PySem.F.plainAttrs_list PySem.F.slot_list_append PySem.F.type_list_append mt_append (pvI 6) (pa_cons (pe_tup (pa_cons (pvI 9) (pa_cons pe_non pa_nil))) pa_nil)))))
         pss_nil))
       (pss_cons (ps_set (i := 15) nd rfl (Or.inl rfl) (pe_meth0 (pvI 3) T.cl_Ring T.me_Ring_covers (G_Ring_covers.mono (by decide)) hr T.d_Ring_covers .nil pass0))
       (pss_cons (ps_if (PW.pt (pw_or (pt_not (pt_truth (pe_callB call_isiR rfl T.b_isinstance boot_isinstance (pa_cons (pvI 15) (pa_cons (pe_bltn (v := .ty "list") rfl T.b_list boot_ty_list rfl) pa_nil))) (fun _ => rfl))) (pw_or (pt_cmpR (op_neD (u64 hr)) (pvI 15) (pvI 6) (nomark _)) (pw_or1 (pt_cmpR (op_neD (u64 hr)) (pe_meth0 (pvI 4) T.cl_Ring T.me_Ring_covers (G_Ring_covers.mono (by decide)) hr T.d_Ring_covers .nil pass0) (pe_lst pa_nil) (nomark _))))))
         (pss_one (ps_ret pe_bl))
         pss_nil)
       (pss_one (ps_expr (pe_bm PySem.F.plainAttrs_list PySem.F.slot_list_append PySem.F.type_list_append mt_append (pvI 15) (pa_cons pe_int pa_nil))))))))))))))))
    (pss_one (ps_ret (pe_and (pe_cmpR (op_eqL hr.units) (pe_meth0 (pvI 3) T.cl_Ring T.me_Ring_happenings (G_Ring_happenings.mono (by decide)) hr T.d_Ring_happenings .nil pass0) (pe_lst pa_nil) (nomark _)) (pe_and (pe_cmpR (op_eqL hr.units) (pe_meth0 (pvI 3) T.cl_Ring T.me_Ring_losses (G_Ring_losses.mono (by decide)) hr T.d_Ring_losses .nil pass0) (pe_lst pa_nil) (nomark _)) (pe_one (pe_cmpR (op_eqL hr.units) (pe_meth0 (pvI 3) T.cl_Ring T.me_Ring_closings (G_Ring_closings.mono (by decide)) hr T.d_Ring_closings .nil pass0) (pe_lst pa_nil) (nomark _))))))))))))))) ?_
    try dsimp only [L2.cxOf, L2.Cx.nox]
    rw [show ∀ v0 : V, L2.start ["_law_script", "_law_draws_here", "_law_houses", "_law_ring", "_law_beside", "_law_alone", "_law_signed", "_law_k", "_law_d", "_law_terms_here", "_law_good", "_law_odd", "_law_found", "_law_bad", "_law_due_here", "_law_told"] [v0] = [some v0, none, none, none, none, none, none, none, none, none, none, none, none, none, none, none] from fun _ => rfl]
    refine ⟨_, rfl, a, ns, 190, rfl, hS, hl, by decide, fun dh ds H1 _ s1 hd1 hdl hD => ?_⟩
    refine byC fun hG => ?_
    obtain ⟨d0, D0, i0⟩ := draw_at hD (i := 0) (by omega)
    obtain ⟨d1, D1, i1⟩ := draw_at hD (i := 1) (by omega)
    refine hG ?_
    refine ⟨_, rfl, dh, _, 0, _, rfl, rfl, SqL.of hd1, i0, _, _, rfl, rfl, pj, _, _, rfl, rfl, ?_⟩
    have e1 : (2 : Int) + (d0 : Int) % 5 = ((2 + d0 % 5 : Nat) : Int) := by omega
    rw [e1]
    have hn2 : 2 ≤ 2 + d0 % 5 := by omega
    have hn6 : 2 + d0 % 5 ≤ 6 := by omega
    generalize 2 + d0 % 5 = h at hn2 hn6
    try dsimp only [List.set_cons_zero, List.set_cons_succ]
    refine ⟨_, rfl, fun x dx hx hdx ndx => ?_⟩
    have m2 := make_pre (o1 := .ins A.c_Ring dx []) (o2 := .own x) hx hdx
    refine ⟨x, dx, h, rfl, by omega, hn6, upd_same, fun sg dy lr pp tc H2 bx fsg fdy flr fpp ftc R => ⟨rfl, ?_⟩⟩
    have s2 : Same H1 H2 := make_same hx hdx bx
    try dsimp only [List.set_cons_zero, List.set_cons_succ]
    refine fun x2 dx2 hx2 hdx2 ndx2 => ?_
    have m3 := make_pre (o1 := .ins A.c_Ring dx2 []) (o2 := .own x2) hx2 hdx2
    refine ⟨x2, dx2, 2, rfl, by decide, by decide, upd_same, fun sg2 dy2 lr2 pp2 tc2 H3 bx2 fsg2 fdy2 flr2 fpp2 ftc2 R2 => ⟨rfl, ?_⟩⟩
    have s3 : Same H2 H3 := make_same hx2 hdx2 bx2
    try dsimp only [List.set_cons_zero, List.set_cons_succ]
    refine ⟨by show 2 ≤ sizeLine; decide, fun q1 hq1 => ?_⟩
    have t1 := same_upd (o := .tup [.int 1, .int 1]) hq1
    have r1 := upd_same (H := H3) (a := q1) (o := .tup [.int 1, .int 1])
    generalize upd H3 q1 (.tup [.int 1, .int 1]) = H4 at *
    refine ⟨by show 1 ≤ sizeLine; decide, fun q2 hq2 => ?_⟩
    have t2 := same_upd (o := .tup [.ref q1]) hq2
    have r2 := upd_same (H := H4) (a := q2) (o := .tup [.ref q1])
    generalize upd H4 q2 (.tup [.ref q1]) = H5 at *
    refine ⟨by show 5 ≤ sizeLine; decide, fun q3 hq3 => ?_⟩
    have t3 := same_upd (o := .tup [.str "stop", .int 0, .int 5, .int 3, .ref q2]) hq3
    have r3 := upd_same (H := H5) (a := q3) (o := .tup [.str "stop", .int 0, .int 5, .int 3, .ref q2])
    generalize upd H5 q3 (.tup [.str "stop", .int 0, .int 5, .int 3, .ref q2]) = H6 at *
    have al6 : TmAt K H6 q3 (.stop 0 5 3 [(1, 1)]) := ⟨q2, SqT.of r3, ⟨[.ref q1], SqT.of (t3 _ _ r2), rfl, fun i l e => by
      have hi := get_lt e
      have : i = 0 := by simp at hi; omega
      subst this
      cases e
      exact ⟨.ref q1, rfl, q1, rfl, SqT.of ((t2.trans t3) _ _ r1)⟩⟩, by decide⟩
    try dsimp only [List.set_cons_zero, List.set_cons_succ]
    refine fun x3 dx3 hx3 hdx3 ndx3 => ?_
    have m7 := make_pre (o1 := .ins A.c_Ring dx3 []) (o2 := .own x3) hx3 hdx3
    refine ⟨x3, dx3, 1, rfl, by decide, by decide, upd_same, fun sg3 dy3 lr3 pp3 tc3 H7 bx3 fsg3 fdy3 flr3 fpp3 ftc3 R3 => ⟨rfl, ?_⟩⟩
    have s7 : Same H6 H7 := make_same hx3 hdx3 bx3
    refine ⟨_, rfl, by show 2 ≤ sizeLine; decide, fun q4 hq4 => ?_⟩
    have t4 := same_upd (o := .tup [.str "sign", .ref q3]) hq4
    have r4 := upd_same (H := H7) (a := q4) (o := .tup [.str "sign", .ref q3])
    generalize upd H7 q4 (.tup [.str "sign", .ref q3]) = H8 at *
    have no1 : termsB 1 (.stop 0 5 3 [(1, 1)]) = false := by rw [termsB_stop, one_house]; rfl
    refine ⟨x3, q4, q3, 1, [], .stop 0 5 3 [(1, 1)], sg3, dy3, lr3, pp3, tc3, rfl, SqT.of r4, R3.same t4, TmAt.same (s7.trans t4) al6, by decide, fun nm r b H9 hc s9 hr9 hb9 => ?_, fun e => ?_⟩
    case refine_2 => exact absurd (no1.symm.trans e) (by decide)
    rcases hc with ⟨_, rfl⟩ | ⟨e, _⟩
    case inr => exact absurd (no1.symm.trans e) (by decide)
    refine ⟨"BadTerms", rfl, fun du H10 hdu s10 hdu10 => ⟨by show 2 ≤ sizeLine; decide, fun q5 hq5 => ?_⟩⟩
    have t5 := same_upd (o := .tup [.non, .ref du]) hq5
    have r5 := upd_same (H := H10) (a := q5) (o := .tup [.non, .ref du])
    generalize upd H10 q5 (.tup [.non, .ref du]) = H11 at *
    have s11 := s10.trans t5
    refine ne_seen (SqT.of (s11 _ _ hr9)) (SqL.of (s11 _ _ hb9)) (SqT.of r5) (SqL.of (t5 _ _ hdu10)) ?_
    refine ⟨false, rfl, ?_⟩
    show (if false = true then _ else _)
    rw [if_neg (by decide)]
    have v11 : Same H3 H11 := t1.trans (t2.trans (t3.trans (s7.trans (t4.trans (s9.trans s11)))))
    try dsimp only [List.set_cons_zero, List.set_cons_succ]
    refine ⟨Nat.zero_le _, fun S hSl => ?_⟩
    have t6 := same_upd (o := .lst []) hSl
    have r6 := upd_same (H := H11) (a := S) (o := .lst [])
    generalize upd H11 S (.lst []) = H12 at *
    have v12 := v11.trans t6
    try dsimp only [List.set_cons_zero, List.set_cons_succ]
    refine ⟨_, rfl, dh, _, 1, _, rfl, rfl, SqL.of ((s2.trans (s3.trans v12)) _ _ hd1), i1, _, _, rfl, rfl, pj, _, rfl, by omega, by omega, ?_⟩
    have R12 := R.same (s3.trans v12)
    have R212 := R2.same v12
    refine byC fun hG => ?_
    obtain ⟨dxr, fsr, usr, psr, gx, gO, gsg, _, gpp, _⟩ := R12.ex
    obtain ⟨dxr0, fsr0, usr0, psr0, gx0, _, gsg0, _, _, _⟩ := R.ex
    obtain ⟨dxr1, fsr1, usr1, psr1, gx1, _, gsg1, _, gpp1, _⟩ := (R.same (s3.trans v11)).ex
    obtain ⟨dxq, fsq, usq, psq, gx2, _, gsg2, _, gpp2, _⟩ := (R2.same v11).ex
    have R211 := R2.same v11
    have R11 := R.same (s3.trans v11)
    have nS : ∀ {b : Addr} {o : HO}, H11 b = some o → b ≠ S := fun e => ne_of_none e hSl
    have nin : ∀ {b : Addr}, b ≠ x → b ≠ sg → b ≠ S → b ∉ [x, sg, S] := fun n1 n2 n3 z => by
      rcases List.mem_cons.mp z with z | z
      · exact n1 z
      rcases List.mem_cons.mp z with z | z
      · exact n2 z
      exact n3 (List.mem_singleton.mp z)
    have nold : ∀ {b : Addr} {o : HO}, H1 b = some o → b ∉ [x, sg, S] := fun {b o} e => nin (ne_of_none e hx) (ne_of_none (m2 _ _ e) fsg) (nS ((s2.trans (s3.trans v11)) _ _ e))
    have n2 : ∀ {b : Addr}, (upd (upd H2 dx2 (.own x2)) x2 (.ins A.c_Ring dx2 [])) b = none → b ≠ x ∧ b ≠ sg := fun {b} e => ⟨(fun z => by rw [z, m3 _ _ gx0] at e; cases e), (fun z => by rw [z, m3 _ _ gsg0] at e; cases e)⟩
    have nx2 : x2 ∉ [x, sg, S] := nin (fun z => by rw [z, gx0] at hx2; cases hx2) (fun z => by rw [z, gsg0] at hx2; cases hx2) (nS gx2)
    have off2 : x2 ∉ [x, sg, S] ∧ sg2 ∉ [x, sg, S] ∧ dy2 ∉ [x, sg, S] ∧ lr2 ∉ [x, sg, S] ∧ pp2 ∉ [x, sg, S] ∧ tc2 ∉ [x, sg, S] :=
      ⟨nx2, nin (n2 fsg2).1 (n2 fsg2).2 (nS gsg2), nin (n2 fdy2).1 (n2 fdy2).2 (nS R211.hdy), nin (n2 flr2).1 (n2 flr2).2 (nS R211.hlr), nin (n2 fpp2).1 (n2 fpp2).2 (nS gpp2), nin (n2 ftc2).1 (n2 ftc2).2 (nS R211.htc)⟩
    have hd12 := (s2.trans (s3.trans v12)) _ _ hd1
    have hP12 := (s1.trans (s2.trans (s3.trans v12))) _ _ hP0
    have ndh := nold hd1
    have nPP := nold (s1 _ _ hP0)
    have nSx : S ≠ x := (nS gx1).symm
    have nSg : S ≠ sg := (nS gsg1).symm
    have nSt : S ≠ tc := (nS R11.htc).symm
    have nSp := (nS gpp1).symm
    refine hG ?_
    clear gx0 gsg0 gx1 gsg1 gpp1 gx2 gsg2 gpp2 R211 R11 nold n2 nx2 bx bx2 bx3 R3 hdu10 hr9 hb9 s9 s10 s11 t5 t4 s7 m7 al6
    have en : ((d1 : Int) % 14).toNat = d1 % 14 := by omega
    rw [en]
    have hd14 : d1 % 14 < 14 := Nat.mod_lt _ (by decide)
    generalize d1 % 14 = n at hd14
    refine for_range (n := n) (fun i σ H' => ∃ (ts : List Tm) (vs : List V) (pp : Addr) (x7 x8 x9 x10 x11 x12 x13 x14 x15 : Option V), σ = [some (.ref a), some (.ref dh), some (.int h), some (.ref x), some (.ref x2), some (.ref q3), some (.ref S), x7, x8, x9, x10, x11, x12, x13, x14, x15] ∧ SameX [x, sg, S] H12 H' ∧ Rg0 A.c_Ring K H' x h ts sg dy lr pp tc ∧ H' S = some (.lst vs) ∧ SgAt K H' vs ts ∧ ts.length ≤ 10 ∧ S ≠ pp)
      ⟨[], [], pp, _, _, _, _, _, _, _, _, _, rfl, SameX.refl, R12, r6, .nil, by decide, nSp⟩ ?_ ?_
    case refine_2 =>
      intro σ H13 zz1
      refine byC fun hG => ?_
      obtain ⟨ts, vs, pp', x7, x8, x9, x10, x11, x12, x13, x14, x15, rfl, sX, RR, hSS, hSg, h10, nSp'⟩ := zz1
      obtain ⟨dx', fs', us', ps', ux, uO, _⟩ := RR.ex
      refine hG ?_
      refine ⟨_, rfl, x, dx', _, rfl, ux, uO.no "happenings" (by decide +kernel), x, h, ts, sg, dy, lr, pp', tc, rfl, RR, sX _ _ nPP hP12, fun l H14 s14 hl14 => ?_⟩
      refine ⟨Nat.zero_le _, fun e0 he0 => ?_⟩
      have w15 := same_upd (o := .lst []) he0
      refine ⟨l, e0, [], [], rfl, rfl, SqL.of (w15 _ _ hl14), SqL.of upd_same, ?_⟩
      have hP13 := sX _ _ nPP hP12
      have u14 : SameU H13 H14 := SameX.u s14 fun b hb => by
        rw [List.mem_singleton.mp hb, hP13]; exact ⟨(fun _ z => by cases z), (fun _ _ z => by cases z)⟩
      have nP : ∀ {b : Addr} {o : HO}, H13 b = some o → (∀ ps, o ≠ .tbl ps) → b ∉ [A.lp_Ring_happenings] := fun e n z => by
        rw [List.mem_singleton.mp z, hP13] at e
        exact n _ (Option.some.inj e).symm
      refine byC fun hG => ?_
      obtain ⟨dx', fs', us', ps', ux, uO, usg, _, upp, _⟩ := RR.ex
      have R14 := RR.keep u14 s14 ⟨nP ux (fun _ z => by cases z), nP usg (fun _ z => by cases z), nP RR.hdy (fun _ z => by cases z), nP RR.hlr (fun _ z => by cases z), nP upp (fun _ z => by cases z), nP RR.htc (fun _ z => by cases z)⟩
      have R15 := R14.same w15
      obtain ⟨dx', fs', us', ps', ux, uO, _⟩ := R15.ex
      refine hG ?_
      generalize upd H14 e0 (.lst []) = H15 at *
      refine ⟨_, rfl, iteD (fun _ => ?_) (fun z => absurd rfl z)⟩
      refine ⟨_, rfl, x, dx', _, rfl, ux, uO.no "losses" (by decide +kernel), x, h, ts, sg, dy, lr, pp', tc, rfl, R15, fun l2 H16 hl2 s16 hl16 => ?_⟩
      refine ⟨Nat.zero_le _, fun e1 he1 => ?_⟩
      have w17 := same_upd (o := .lst []) he1
      refine ⟨l2, e1, [], [], rfl, rfl, SqL.of (w17 _ _ hl16), SqL.of upd_same, ?_⟩
      have s17 := s16.trans w17
      generalize upd H16 e1 (.lst []) = H17 at *
      refine ⟨_, rfl, iteD (fun _ => ?_) (fun z => absurd rfl z)⟩
      refine ⟨_, rfl, x, dx', _, rfl, s17 _ _ ux, uO.no "closings" (by decide +kernel), x, h, ts, sg, dy, lr, pp', tc, rfl, R15.same s17, fun l3 H18 hl3 s18 hl18 => ?_⟩
      refine ⟨Nat.zero_le _, fun e2 he2 => ?_⟩
      have w19 := same_upd (o := .lst []) he2
      refine ⟨l3, e2, [], [], rfl, rfl, SqL.of (w19 _ _ hl18), SqL.of upd_same, ?_⟩
      exact kk _
    intro i σ H13 hi zz2
    refine byC fun hG => ?_
    obtain ⟨ts, vs, pp', x7, x8, x9, x10, x11, x12, x13, x14, x15, rfl, sX, RR, hSS, hSg, h10, nSp'⟩ := zz2
    have hd13 := sX _ _ ndh hd12
    obtain ⟨dk, Dk, ik⟩ := draw_at hD (i := 2 + i) (by omega)
    have e2 : (2 : Int) + (0 + (i : Nat) : Int) = ((2 + i : Nat) : Int) := by omega
    refine hG ?_
    try dsimp only [List.set_cons_zero, List.set_cons_succ]
    refine ⟨_, rfl, _, rfl, _, _, rfl, rfl, dh, _, _, _, rfl, rfl, SqL.of hd13, (by show atI _ ((2 : Int) + (0 + (i : Nat) : Int)) = _; rw [e2]; exact ik), ?_⟩
    try dsimp only [List.set_cons_zero, List.set_cons_succ]
    refine ⟨_, rfl, _, rfl, _, rfl, _, _, rfl, rfl, .inl ⟨by decide, by decide⟩, _, _, rfl, rfl, _, rfl, _, rfl, _, _, rfl, rfl, .inl ⟨by decide, by decide⟩, _, _, rfl, rfl, _, rfl, dh, _, rfl, SqL.of hd13, fun sl hsl => ?_⟩
    have ec : cutV (ds.map V.int) (some (20 + 12 * (0 + (i : Nat) : Int))) (some (32 + 12 * (0 + (i : Nat) : Int))) = ((ds.drop (20 + 12 * i)).take ((32 + 12 * i) - (20 + 12 * i))).map V.int := by
      have a1 : (20 + 12 * (0 + (i : Nat) : Int)) = ((20 + 12 * i : Nat) : Int) := by omega
      have a2 : (32 + 12 * (0 + (i : Nat) : Int)) = ((32 + 12 * i : Nat) : Int) := by omega
      rw [a1, a2]; exact cut_ints ds _ _ (by omega) (by omega)
    rw [ec]
    have ssl := same_upd (o := .lst (((ds.drop (20 + 12 * i)).take ((32 + 12 * i) - (20 + 12 * i))).map V.int)) hsl
    refine ⟨h, sl, _, rfl, hn2, hn6, SqL.of upd_same, by rw [cut_len _ _ _ (by omega)]; omega, cut_in hD _ _, fun p t H14 s14' ht hB => ?_⟩
    have s14 := ssl.trans s14'
    try dsimp only [List.set_cons_zero, List.set_cons_succ]
    refine ⟨_, rfl, _, _, rfl, rfl, pj, _, _, rfl, rfl, ?_⟩
    try dsimp only [List.set_cons_zero, List.set_cons_succ]
    generalize decide (0 < (dk : Int) % 4) = g
    have noB : ∀ {k : Str} {b m : Int} {L : List (Int × Int)}, isCoverB h (some ((h : Nat), k, b, m, L)) = false := fun {k b m L} => by
      cases e : isCoverB h (some ((h : Nat), k, b, m, L)) with
      | false => rfl
      | true => have := ((isCoverB_iff (by omega)).mp e).1.2; omega
    have noD : ∀ {ho : Int} {k : Str} {b m : Int}, isCoverB h (some (ho, k, b, m, [])) = false := fun {ho k b m} => by
      cases e : isCoverB h (some (ho, k, b, m, [])) with
      | false => rfl
      | true => have := ((isCoverB_iff (by omega)).mp e).2.2.1.1; simp at this
    refine ⟨fun σ H' => ∃ (p' : Addr) (t' : Tm) (x11 : Option V), σ = [some (.ref a), some (.ref dh), some (.int h), some (.ref x), some (.ref x2), some (.ref q3), some (.ref S), some (.int (0 + (i : Nat))), some (.int dk), some (.ref p'), some (.bl g), x11, x12, x13, x14, x15] ∧ Same H14 H' ∧ TmAt K H' p' t' ∧ (g = true → termsB h t' = true) ∧ (g = false → termsB h t' = false), ?_, ?_⟩
    · refine ⟨_, rfl, _, rfl, iteNB (fun hf => ?_) (fun hg => ?_)⟩
      case refine_2 => exact ⟨p, t, _, rfl, Same.refl _, ht, fun _ => hB, fun z => absurd (z.symm.trans hg) (by decide)⟩
      cases t with
      | other => cases hB
      | stop ho b m L =>
        refine byC fun hG => ?_
        obtain ⟨lp, hp, hL, hLl⟩ := ht
        refine hG ?_
        refine ⟨_, rfl, 3, rfl, ?_⟩
        refine slTA_of ((Same.refl _).tupS hp) fun q1 G1 t1 r1 => ?_
        replace r1 : SqT K G1 q1 [.str "stop", .int ho, .int b] := r1
        refine ⟨by show 1 ≤ sizeLine; decide, fun q2 hq2 => ?_⟩
        have t2 := same_upd (o := .tup [.int 0]) hq2
        have r2 := SqT.of (K := K) (upd_same (H := G1) (a := q2) (o := .tup [.int 0]))
        generalize upd G1 q2 (.tup [.int 0]) = G2 at *
        refine catTA_of (t2.tupS r1) ((Same.refl _).tupS r2) (by show 4 ≤ sizeLine; decide) fun q3 G3 t3 r3 => ?_
        replace r3 : SqT K G3 q3 [.str "stop", .int ho, .int b, .int 0] := r3
        refine ⟨_, rfl, 4, rfl, ?_⟩
        dsimp only [tNoPart]
        refine slTA_of ((t1.trans (t2.trans t3)).tupS hp) fun q4 G4 t4 r4 => ?_
        replace r4 : SqT K G4 q4 [.ref lp] := r4
        refine catTA_of (t4.tupS r3) ((Same.refl _).tupS r4) (by show 5 ≤ sizeLine; decide) fun q5 G5 t5 r5 => ?_
        replace r5 : SqT K G5 q5 [.str "stop", .int ho, .int b, .int 0, .ref lp] := r5
        refine ⟨_, rfl, 1, rfl, ?_⟩
        refine slTA_of ((t1.trans (t2.trans (t3.trans (t4.trans t5)))).tupS hp) fun q6 G6 t6 r6 => ?_
        replace r6 : SqT K G6 q6 [.str "stop"] := r6
        refine ⟨_, rfl, by show 1 ≤ sizeLine; decide, fun q7 hq7 => ?_⟩
        have t7 := same_upd (o := .tup [.int (h : Nat)]) hq7
        have r7 := SqT.of (K := K) (upd_same (H := G6) (a := q7) (o := .tup [.int (h : Nat)]))
        generalize upd G6 q7 (.tup [.int (h : Nat)]) = G7 at *
        refine catTA_of (t7.tupS r6) ((Same.refl _).tupS r7) (by show 2 ≤ sizeLine; decide) fun q8 G8 t8 r8 => ?_
        replace r8 : SqT K G8 q8 [.str "stop", .int (h : Nat)] := r8
        refine ⟨_, rfl, 2, rfl, ?_⟩
        dsimp only [tNoPart]
        refine slTA_of ((t1.trans (t2.trans (t3.trans (t4.trans (t5.trans (t6.trans (t7.trans t8))))))).tupS hp) fun q9 G9 t9 r9 => ?_
        replace r9 : SqT K G9 q9 [.int b, .int m, .ref lp] := r9
        refine catTA_of (t9.tupS r8) ((Same.refl _).tupS r9) (by show 5 ≤ sizeLine; decide) fun q10 G10 t10 r10 => ?_
        replace r10 : SqT K G10 q10 [.str "stop", .int (h : Nat), .int b, .int m, .ref lp] := r10
        refine ⟨_, rfl, _, rfl, _, rfl, ?_⟩
        refine slTA_of ((t1.trans (t2.trans (t3.trans (t4.trans (t5.trans (t6.trans (t7.trans (t8.trans (t9.trans t10))))))))).tupS hp) fun q11 G11 t11 r11 => ?_
        replace r11 : SqT K G11 q11 [.str "stop", .int ho, .int b, .int m] := r11
        refine ⟨by show 3 ≤ sizeLine; decide, fun od hod => ?_⟩
        have tod := same_upd (o := .lst [.ref q5, .ref q10, .ref q11]) hod
        have rod := upd_same (H := G11) (a := od) (o := .lst [.ref q5, .ref q10, .ref q11])
        generalize upd G11 od (.lst [.ref q5, .ref q10, .ref q11]) = God at *
        try dsimp only [List.set_cons_zero, List.set_cons_succ]
        refine ⟨_, rfl, ?_⟩
        refine ⟨_, rfl, _, rfl, _, rfl, ?_⟩
        refine slTA_of ((t1.trans (t2.trans (t3.trans (t4.trans (t5.trans (t6.trans (t7.trans (t8.trans (t9.trans (t10.trans (t11.trans tod))))))))))).tupS hp) fun q12 G12 t12 r12 => ?_
        replace r12 : SqT K G12 q12 [.str "stop", .int ho, .int b, .int m] := r12
        refine ⟨by show 0 ≤ sizeLine; decide, fun q13 hq13 => ?_⟩
        have t13 := same_upd (o := .tup []) hq13
        have r13 := SqT.of (K := K) (upd_same (H := G12) (a := q13) (o := .tup []))
        generalize upd G12 q13 (.tup []) = G13 at *
        refine ⟨by show 1 ≤ sizeLine; decide, fun q14 hq14 => ?_⟩
        have t14 := same_upd (o := .tup [.ref q13]) hq14
        have r14 := SqT.of (K := K) (upd_same (H := G13) (a := q14) (o := .tup [.ref q13]))
        generalize upd G13 q14 (.tup [.ref q13]) = G14 at *
        refine catTA_of ((t13.trans t14).tupS r12) ((Same.refl _).tupS r14) (by show 5 ≤ sizeLine; decide) fun q15 G15 t15 r15 => ?_
        replace r15 : SqT K G15 q15 [.str "stop", .int ho, .int b, .int m, .ref q13] := r15
        refine ⟨by show 1 ≤ sizeLine; decide, fun oe hoe => ?_⟩
        have toe := same_upd (o := .lst [.ref q15]) hoe
        have roe := upd_same (H := G15) (a := oe) (o := .lst [.ref q15])
        generalize upd G15 oe (.lst [.ref q15]) = Goe at *
        refine ⟨od, oe, _, _, rfl, rfl, (t12.trans (t13.trans (t14.trans (t15.trans toe)))) _ _ rod, roe, by show 4 ≤ sizeLine; decide, fun of hof => ?_⟩
        have tof := same_upd (o := .lst [.ref q5, .ref q10, .ref q11, .ref q15]) hof
        have rof : upd Goe of (.lst [.ref q5, .ref q10, .ref q11, .ref q15]) of = some (.lst [.ref q5, .ref q10, .ref q11, .ref q15]) := upd_same
        have ecat : ([.ref q5, .ref q10, .ref q11] ++ [.ref q15] : List V) = [.ref q5, .ref q10, .ref q11, .ref q15] := rfl
        rw [ecat]
        generalize upd Goe of (.lst [.ref q5, .ref q10, .ref q11, .ref q15]) = Gof at *
        have e4 : (dk : Int) / 4 % 4 = ((dk / 4 % 4 : Nat) : Int) := by omega
        have c4 : dk / 4 % 4 = 0 ∨ dk / 4 % 4 = 1 ∨ dk / 4 % 4 = 2 ∨ dk / 4 % 4 = 3 := by omega
        rcases c4 with c4 | c4 | c4 | c4
        · refine ⟨_, rfl, _, _, rfl, rfl, cdiv, _, _, rfl, rfl, pj, of, _, (0 : Int), .ref q5, rfl, by show V.int _ = V.int _; rw [e4, c4]; rfl, SqL.of rof, rfl, ?_⟩
          try dsimp only [List.set_cons_zero, List.set_cons_succ]
          exact ⟨q5, (.stop ho b 0 L), _, rfl, (t1.trans (t2.trans (t3.trans (t4.trans (t5.trans (t6.trans (t7.trans (t8.trans (t9.trans (t10.trans (t11.trans (tod.trans (t12.trans (t13.trans (t14.trans (t15.trans (toe.trans tof))))))))))))))))), ⟨lp, (t6.trans (t7.trans (t8.trans (t9.trans (t10.trans (t11.trans (tod.trans (t12.trans (t13.trans (t14.trans (t15.trans (toe.trans tof)))))))))))).tupS r5, hL.same (t1.trans (t2.trans (t3.trans (t4.trans (t5.trans (t6.trans (t7.trans (t8.trans (t9.trans (t10.trans (t11.trans (tod.trans (t12.trans (t13.trans (t14.trans (t15.trans (toe.trans tof))))))))))))))))), by omega⟩, fun z => absurd z (by rw [hf]; decide), fun _ => by rw [termsB_stop, decide_eq_false (show ¬ (1 : Int) ≤ 0 by decide), Bool.and_false]⟩
        · refine ⟨_, rfl, _, _, rfl, rfl, cdiv, _, _, rfl, rfl, pj, of, _, (1 : Int), .ref q10, rfl, by show V.int _ = V.int _; rw [e4, c4]; rfl, SqL.of rof, rfl, ?_⟩
          try dsimp only [List.set_cons_zero, List.set_cons_succ]
          exact ⟨q10, (.stop (h : Nat) b m L), _, rfl, (t1.trans (t2.trans (t3.trans (t4.trans (t5.trans (t6.trans (t7.trans (t8.trans (t9.trans (t10.trans (t11.trans (tod.trans (t12.trans (t13.trans (t14.trans (t15.trans (toe.trans tof))))))))))))))))), ⟨lp, (t11.trans (tod.trans (t12.trans (t13.trans (t14.trans (t15.trans (toe.trans tof))))))).tupS r10, hL.same (t1.trans (t2.trans (t3.trans (t4.trans (t5.trans (t6.trans (t7.trans (t8.trans (t9.trans (t10.trans (t11.trans (tod.trans (t12.trans (t13.trans (t14.trans (t15.trans (toe.trans tof))))))))))))))))), by omega⟩, fun z => absurd z (by rw [hf]; decide), fun _ => by rw [termsB_stop, noB]; rfl⟩
        · refine ⟨_, rfl, _, _, rfl, rfl, cdiv, _, _, rfl, rfl, pj, of, _, (2 : Int), .ref q11, rfl, by show V.int _ = V.int _; rw [e4, c4]; rfl, SqL.of rof, rfl, ?_⟩
          try dsimp only [List.set_cons_zero, List.set_cons_succ]
          exact ⟨q11, .other, _, rfl, (t1.trans (t2.trans (t3.trans (t4.trans (t5.trans (t6.trans (t7.trans (t8.trans (t9.trans (t10.trans (t11.trans (tod.trans (t12.trans (t13.trans (t14.trans (t15.trans (toe.trans tof))))))))))))))))), ⟨_, (tod.trans (t12.trans (t13.trans (t14.trans (t15.trans (toe.trans tof)))))).tupS r11, by show 4 ≤ 100; decide, .inr ⟨_, _, rfl, (fun z => absurd z.2 (by show ¬ (4 = 5); decide)), (fun z => absurd z.2 (by show ¬ (4 = 8); decide))⟩⟩, fun z => absurd z (by rw [hf]; decide), fun _ => rfl⟩
        · refine ⟨_, rfl, _, _, rfl, rfl, cdiv, _, _, rfl, rfl, pj, of, _, (3 : Int), .ref q15, rfl, by show V.int _ = V.int _; rw [e4, c4]; rfl, SqL.of rof, rfl, ?_⟩
          try dsimp only [List.set_cons_zero, List.set_cons_succ]
          exact ⟨q15, (.stop ho b m []), _, rfl, (t1.trans (t2.trans (t3.trans (t4.trans (t5.trans (t6.trans (t7.trans (t8.trans (t9.trans (t10.trans (t11.trans (tod.trans (t12.trans (t13.trans (t14.trans (t15.trans (toe.trans tof))))))))))))))))), ⟨q13, (toe.trans tof).tupS r15, ⟨[], (t14.trans (t15.trans (toe.trans tof))).tupS r13, rfl, fun i l e => by simp at e⟩, by decide⟩, fun z => absurd z (by rw [hf]; decide), fun _ => by rw [termsB_stop, noD]; rfl⟩
      | full k ho b m w f l L =>
        refine byC fun hG => ?_
        obtain ⟨hk, lp, hp, hL, hLl⟩ := ht
        refine hG ?_
        refine ⟨_, rfl, 3, rfl, ?_⟩
        refine slTA_of ((Same.refl _).tupS hp) fun q1 G1 t1 r1 => ?_
        replace r1 : SqT K G1 q1 [.str k, .int ho, .int b] := r1
        refine ⟨by show 1 ≤ sizeLine; decide, fun q2 hq2 => ?_⟩
        have t2 := same_upd (o := .tup [.int 0]) hq2
        have r2 := SqT.of (K := K) (upd_same (H := G1) (a := q2) (o := .tup [.int 0]))
        generalize upd G1 q2 (.tup [.int 0]) = G2 at *
        refine catTA_of (t2.tupS r1) ((Same.refl _).tupS r2) (by show 4 ≤ sizeLine; decide) fun q3 G3 t3 r3 => ?_
        replace r3 : SqT K G3 q3 [.str k, .int ho, .int b, .int 0] := r3
        refine ⟨_, rfl, 4, rfl, ?_⟩
        dsimp only [tNoPart]
        refine slTA_of ((t1.trans (t2.trans t3)).tupS hp) fun q4 G4 t4 r4 => ?_
        replace r4 : SqT K G4 q4 [.int w, .int f, .int l, .ref lp] := r4
        refine catTA_of (t4.tupS r3) ((Same.refl _).tupS r4) (by show 8 ≤ sizeLine; decide) fun q5 G5 t5 r5 => ?_
        replace r5 : SqT K G5 q5 [.str k, .int ho, .int b, .int 0, .int w, .int f, .int l, .ref lp] := r5
        refine ⟨_, rfl, 1, rfl, ?_⟩
        refine slTA_of ((t1.trans (t2.trans (t3.trans (t4.trans t5)))).tupS hp) fun q6 G6 t6 r6 => ?_
        replace r6 : SqT K G6 q6 [.str k] := r6
        refine ⟨_, rfl, by show 1 ≤ sizeLine; decide, fun q7 hq7 => ?_⟩
        have t7 := same_upd (o := .tup [.int (h : Nat)]) hq7
        have r7 := SqT.of (K := K) (upd_same (H := G6) (a := q7) (o := .tup [.int (h : Nat)]))
        generalize upd G6 q7 (.tup [.int (h : Nat)]) = G7 at *
        refine catTA_of (t7.tupS r6) ((Same.refl _).tupS r7) (by show 2 ≤ sizeLine; decide) fun q8 G8 t8 r8 => ?_
        replace r8 : SqT K G8 q8 [.str k, .int (h : Nat)] := r8
        refine ⟨_, rfl, 2, rfl, ?_⟩
        dsimp only [tNoPart]
        refine slTA_of ((t1.trans (t2.trans (t3.trans (t4.trans (t5.trans (t6.trans (t7.trans t8))))))).tupS hp) fun q9 G9 t9 r9 => ?_
        replace r9 : SqT K G9 q9 [.int b, .int m, .int w, .int f, .int l, .ref lp] := r9
        refine catTA_of (t9.tupS r8) ((Same.refl _).tupS r9) (by show 8 ≤ sizeLine; decide) fun q10 G10 t10 r10 => ?_
        replace r10 : SqT K G10 q10 [.str k, .int (h : Nat), .int b, .int m, .int w, .int f, .int l, .ref lp] := r10
        refine ⟨_, rfl, _, rfl, _, rfl, ?_⟩
        refine slTA_of ((t1.trans (t2.trans (t3.trans (t4.trans (t5.trans (t6.trans (t7.trans (t8.trans (t9.trans t10))))))))).tupS hp) fun q11 G11 t11 r11 => ?_
        replace r11 : SqT K G11 q11 [.str k, .int ho, .int b, .int m, .int w, .int f, .int l] := r11
        refine ⟨by show 3 ≤ sizeLine; decide, fun od hod => ?_⟩
        have tod := same_upd (o := .lst [.ref q5, .ref q10, .ref q11]) hod
        have rod := upd_same (H := G11) (a := od) (o := .lst [.ref q5, .ref q10, .ref q11])
        generalize upd G11 od (.lst [.ref q5, .ref q10, .ref q11]) = God at *
        try dsimp only [List.set_cons_zero, List.set_cons_succ]
        refine ⟨_, rfl, ?_⟩
        refine ⟨_, rfl, _, rfl, _, rfl, ?_⟩
        refine slTA_of ((t1.trans (t2.trans (t3.trans (t4.trans (t5.trans (t6.trans (t7.trans (t8.trans (t9.trans (t10.trans (t11.trans tod))))))))))).tupS hp) fun q12 G12 t12 r12 => ?_
        replace r12 : SqT K G12 q12 [.str k, .int ho, .int b, .int m, .int w, .int f, .int l] := r12
        refine ⟨by show 0 ≤ sizeLine; decide, fun q13 hq13 => ?_⟩
        have t13 := same_upd (o := .tup []) hq13
        have r13 := SqT.of (K := K) (upd_same (H := G12) (a := q13) (o := .tup []))
        generalize upd G12 q13 (.tup []) = G13 at *
        refine ⟨by show 1 ≤ sizeLine; decide, fun q14 hq14 => ?_⟩
        have t14 := same_upd (o := .tup [.ref q13]) hq14
        have r14 := SqT.of (K := K) (upd_same (H := G13) (a := q14) (o := .tup [.ref q13]))
        generalize upd G13 q14 (.tup [.ref q13]) = G14 at *
        refine catTA_of ((t13.trans t14).tupS r12) ((Same.refl _).tupS r14) (by show 8 ≤ sizeLine; decide) fun q15 G15 t15 r15 => ?_
        replace r15 : SqT K G15 q15 [.str k, .int ho, .int b, .int m, .int w, .int f, .int l, .ref q13] := r15
        refine ⟨by show 1 ≤ sizeLine; decide, fun oe hoe => ?_⟩
        have toe := same_upd (o := .lst [.ref q15]) hoe
        have roe := upd_same (H := G15) (a := oe) (o := .lst [.ref q15])
        generalize upd G15 oe (.lst [.ref q15]) = Goe at *
        refine ⟨od, oe, _, _, rfl, rfl, (t12.trans (t13.trans (t14.trans (t15.trans toe)))) _ _ rod, roe, by show 4 ≤ sizeLine; decide, fun of hof => ?_⟩
        have tof := same_upd (o := .lst [.ref q5, .ref q10, .ref q11, .ref q15]) hof
        have rof : upd Goe of (.lst [.ref q5, .ref q10, .ref q11, .ref q15]) of = some (.lst [.ref q5, .ref q10, .ref q11, .ref q15]) := upd_same
        have ecat : ([.ref q5, .ref q10, .ref q11] ++ [.ref q15] : List V) = [.ref q5, .ref q10, .ref q11, .ref q15] := rfl
        rw [ecat]
        generalize upd Goe of (.lst [.ref q5, .ref q10, .ref q11, .ref q15]) = Gof at *
        have e4 : (dk : Int) / 4 % 4 = ((dk / 4 % 4 : Nat) : Int) := by omega
        have c4 : dk / 4 % 4 = 0 ∨ dk / 4 % 4 = 1 ∨ dk / 4 % 4 = 2 ∨ dk / 4 % 4 = 3 := by omega
        rcases c4 with c4 | c4 | c4 | c4
        · refine ⟨_, rfl, _, _, rfl, rfl, cdiv, _, _, rfl, rfl, pj, of, _, (0 : Int), .ref q5, rfl, by show V.int _ = V.int _; rw [e4, c4]; rfl, SqL.of rof, rfl, ?_⟩
          try dsimp only [List.set_cons_zero, List.set_cons_succ]
          exact ⟨q5, (.full k ho b 0 w f l L), _, rfl, (t1.trans (t2.trans (t3.trans (t4.trans (t5.trans (t6.trans (t7.trans (t8.trans (t9.trans (t10.trans (t11.trans (tod.trans (t12.trans (t13.trans (t14.trans (t15.trans (toe.trans tof))))))))))))))))), ⟨hk, lp, (t6.trans (t7.trans (t8.trans (t9.trans (t10.trans (t11.trans (tod.trans (t12.trans (t13.trans (t14.trans (t15.trans (toe.trans tof)))))))))))).tupS r5, hL.same (t1.trans (t2.trans (t3.trans (t4.trans (t5.trans (t6.trans (t7.trans (t8.trans (t9.trans (t10.trans (t11.trans (tod.trans (t12.trans (t13.trans (t14.trans (t15.trans (toe.trans tof))))))))))))))))), by omega⟩, fun z => absurd z (by rw [hf]; decide), fun _ => by rw [termsB_full, decide_eq_false (show ¬ (1 : Int) ≤ 0 by decide), Bool.and_false]; rfl⟩
        · refine ⟨_, rfl, _, _, rfl, rfl, cdiv, _, _, rfl, rfl, pj, of, _, (1 : Int), .ref q10, rfl, by show V.int _ = V.int _; rw [e4, c4]; rfl, SqL.of rof, rfl, ?_⟩
          try dsimp only [List.set_cons_zero, List.set_cons_succ]
          exact ⟨q10, (.full k (h : Nat) b m w f l L), _, rfl, (t1.trans (t2.trans (t3.trans (t4.trans (t5.trans (t6.trans (t7.trans (t8.trans (t9.trans (t10.trans (t11.trans (tod.trans (t12.trans (t13.trans (t14.trans (t15.trans (toe.trans tof))))))))))))))))), ⟨hk, lp, (t11.trans (tod.trans (t12.trans (t13.trans (t14.trans (t15.trans (toe.trans tof))))))).tupS r10, hL.same (t1.trans (t2.trans (t3.trans (t4.trans (t5.trans (t6.trans (t7.trans (t8.trans (t9.trans (t10.trans (t11.trans (tod.trans (t12.trans (t13.trans (t14.trans (t15.trans (toe.trans tof))))))))))))))))), by omega⟩, fun z => absurd z (by rw [hf]; decide), fun _ => by rw [termsB_full, noB]; rfl⟩
        · refine ⟨_, rfl, _, _, rfl, rfl, cdiv, _, _, rfl, rfl, pj, of, _, (2 : Int), .ref q11, rfl, by show V.int _ = V.int _; rw [e4, c4]; rfl, SqL.of rof, rfl, ?_⟩
          try dsimp only [List.set_cons_zero, List.set_cons_succ]
          exact ⟨q11, .other, _, rfl, (t1.trans (t2.trans (t3.trans (t4.trans (t5.trans (t6.trans (t7.trans (t8.trans (t9.trans (t10.trans (t11.trans (tod.trans (t12.trans (t13.trans (t14.trans (t15.trans (toe.trans tof))))))))))))))))), ⟨_, (tod.trans (t12.trans (t13.trans (t14.trans (t15.trans (toe.trans tof)))))).tupS r11, by show 7 ≤ 100; decide, .inr ⟨_, _, rfl, (fun z => absurd z.2 (by show ¬ (7 = 5); decide)), (fun z => absurd z.2 (by show ¬ (7 = 8); decide))⟩⟩, fun z => absurd z (by rw [hf]; decide), fun _ => rfl⟩
        · refine ⟨_, rfl, _, _, rfl, rfl, cdiv, _, _, rfl, rfl, pj, of, _, (3 : Int), .ref q15, rfl, by show V.int _ = V.int _; rw [e4, c4]; rfl, SqL.of rof, rfl, ?_⟩
          try dsimp only [List.set_cons_zero, List.set_cons_succ]
          exact ⟨q15, (.full k ho b m w f l []), _, rfl, (t1.trans (t2.trans (t3.trans (t4.trans (t5.trans (t6.trans (t7.trans (t8.trans (t9.trans (t10.trans (t11.trans (tod.trans (t12.trans (t13.trans (t14.trans (t15.trans (toe.trans tof))))))))))))))))), ⟨hk, q13, (toe.trans tof).tupS r15, ⟨[], (t14.trans (t15.trans (toe.trans tof))).tupS r13, rfl, fun i l e => by simp at e⟩, by decide⟩, fun z => absurd z (by rw [hf]; decide), fun _ => by rw [termsB_full, noD]; rfl⟩
    intro σ H15 zz3
    refine byC fun hG => ?_
    obtain ⟨p', t', x11', rfl, s15, ht', hgt, hgf⟩ := zz3
    refine hG ?_
    refine ⟨_, rfl, _, rfl, by show 2 ≤ sizeLine; decide, fun q6 hq6 => ?_⟩
    have t16 := same_upd (o := .tup [.str "sign", .ref p']) hq6
    have r16 := upd_same (H := H15) (a := q6) (o := .tup [.str "sign", .ref p'])
    generalize upd H15 q6 (.tup [.str "sign", .ref p']) = H16 at *
    have s16 := s14.trans (s15.trans t16)
    refine byC fun hG => ?_
    obtain ⟨dxu, fsu, usu, psu, uux, uuO, uusg, _, uupp, _⟩ := (RR.same s16).ex
    refine hG ?_
    refine (fun (key : ∀ (r bb : Addr) (H17 : Hp) (fv : V) (bs : List Bool) (ts' : List Tm) (ppn : Addr), SameX [x, sg, S] H12 H17 → Rg0 A.c_Ring K H17 x h ts' sg dy lr ppn tc → H17 S = some (.lst vs) → SgAt K H17 vs ts → TmAt K H17 p' t' → S ≠ ppn → H17 r = some (.tup [fv, .ref bb]) → H17 bb = some (.lst (bs.map V.bl)) →
        ((∃ nm : Str, ts' = ts ∧ fv = .non ∧ bs = seenL nm ∧ ((termsB h t' = false ∧ nm = "BadTerms") ∨ (termsB h t' = true ∧ ts.length = 10 ∧ nm = "Full"))) ∨ (ts' = ts ++ [t'] ∧ fv = .int (ts.length : Nat) ∧ bs = [] ∧ termsB h t' = true ∧ ts.length < 10)) → _) =>
      ⟨x, q6, p', h, ts, t', sg, dy, lr, pp', tc, rfl, SqT.of r16, RR.same s16, TmAt.same t16 ht', h10, fun nm r bb H17 hc s17 hr17 hb17 => key r bb H17 .non (seenL nm) ts pp' (sX.trans (SameX.of (s16.trans s17))) (RR.same (s16.trans s17)) ((s16.trans s17) _ _ hSS) (SgAt.u (Same.u (s16.trans s17)) hSg) (TmAt.same (t16.trans s17) ht') nSp' hr17 hb17 (.inl ⟨nm, rfl, rfl, rfl, hc⟩),
        fun e hl r bb ppn H17 sX17 sU17 fpn R17 hr17 hb17 => key r bb H17 (.int (ts.length : Nat)) [] (ts ++ [t']) ppn ((sX.trans (SameX.of s16)).trans (sX17.sub fun b hb => (List.mem_cons.mp hb).elim (fun z => by rw [z]; exact List.mem_cons_self) fun z => by rw [List.mem_singleton.mp z]; exact List.mem_cons_of_mem _ List.mem_cons_self)) R17 (sX17 _ _ (fun z => (List.mem_cons.mp z).elim nSx fun z => nSg (List.mem_singleton.mp z)) (s16 _ _ hSS)) (SgAt.u sU17 (SgAt.u (Same.u s16) hSg)) (TmAt.u sU17 (TmAt.same t16 ht')) (ne_of_none (s16 _ _ hSS) fpn) hr17 hb17 (.inr ⟨rfl, rfl, rfl, e, hl⟩)⟩) ?_
    intro r bb H17 fv bs ts' ppn X17 R17 S17 G17 ht17 nSpn hr17 hb17 hend
    have U17 : SameU H12 H17 := SameX.u X17 fun b hb => by
      rcases List.mem_cons.mp hb with z | z
      · rw [z, gx]; exact ⟨(fun _ z => by cases z), (fun _ _ z => by cases z)⟩
      rcases List.mem_cons.mp z with z | z
      · rw [z, gsg]; exact ⟨(fun _ z => by cases z), (fun _ _ z => by cases z)⟩
      · rw [List.mem_singleton.mp z, r6]; exact ⟨(fun _ z => by cases z), (fun _ _ z => by cases z)⟩
    have B17 := R212.keep U17 X17 off2
    have h10' : ts'.length ≤ 10 := by
      rcases hend with ⟨_, z, _⟩ | ⟨z, _, _, _, z2⟩
      · rw [z]; exact h10
      · rw [z, List.length_append, List.length_singleton]; omega
    clear sX RR hSS hSg ht' s14 s15 s16 t16 r16 hsl ec ssl s14' uux uuO uusg uupp
    refine ⟨r, _, rfl, SqT.of hr17, rfl, _, _, rfl, _, _, rfl, rfl, ?_⟩
    try dsimp only [List.set_cons_zero, List.set_cons_succ]
    refine ⟨fun σ H' => H' = H17 ∧ ∃ due : Str, σ = [some (.ref a), some (.ref dh), some (.int h), some (.ref x), some (.ref x2), some (.ref q3), some (.ref S), some (.int (0 + (i : Nat))), some (.int dk), some (.ref p'), some (.bl g), x11', some fv, some (.ref bb), some (.str due), x15] ∧ ((g = false ∧ due = "BadTerms") ∨ (g = true ∧ 9 < ts.length ∧ due = "Full") ∨ (g = true ∧ ts.length ≤ 9 ∧ due = "")), ?_, ?_⟩
    · refine ⟨_, rfl, _, rfl, iteNB (fun hf => ⟨rfl, "BadTerms", rfl, .inl ⟨hf, rfl⟩⟩) (fun hg => ?_)⟩
      have hvl := G17.len
      refine ⟨_, rfl, S, vs, rfl, .inl (SqL.of S17), _, _, rfl, rfl, _, rfl, iteD (fun c => ⟨rfl, "Full", rfl, .inr (.inl ⟨hg, by omega, rfl⟩)⟩) (fun c => ⟨rfl, "", rfl, .inr (.inr ⟨hg, by omega, rfl⟩)⟩)⟩
    intro σ H18 zz4
    refine byC fun hG => ?_
    obtain ⟨e18, due, rfl, hdue⟩ := zz4
    refine hG ?_
    rw [e18]
    clear e18
    try dsimp only [List.set_cons_zero, List.set_cons_succ]
    have hA : ¬ due = "" → fv = .non ∧ bs = seenL due ∧ ts' = ts := fun n => by
      rcases hend with ⟨nm, z1, z2, z3, z4⟩ | ⟨_, _, _, e, hl⟩
      · refine ⟨z2, ?_, z1⟩
        rw [z3]
        rcases z4 with ⟨e, rfl⟩ | ⟨e, hl, rfl⟩
        · rcases hdue with ⟨_, rfl⟩ | ⟨hg, _⟩ | ⟨hg, _⟩
          · rfl
          · exact absurd (e.symm.trans (hgt hg)) (by decide)
          · exact absurd (e.symm.trans (hgt hg)) (by decide)
        · rcases hdue with ⟨hg, _⟩ | ⟨_, _, rfl⟩ | ⟨_, hl9, _⟩
          · exact absurd (e.symm.trans (hgf hg)) (by decide)
          · rfl
          · omega
      · rcases hdue with ⟨hg, _⟩ | ⟨_, h9, _⟩ | ⟨_, _, z⟩
        · exact absurd (e.symm.trans (hgf hg)) (by decide)
        · omega
        · exact absurd z n
    have hBx : due = "" → ts' = ts ++ [t'] ∧ fv = .int (ts.length : Nat) ∧ bs = [] ∧ termsB h t' = true := fun n => by
      rcases hend with ⟨nm, z1, z2, z3, z4⟩ | ⟨z1, z2, z3, e, hl⟩
      · exfalso
        rcases hdue with ⟨_, z⟩ | ⟨_, _, z⟩ | ⟨hg, h9, _⟩
        · rw [n] at z; exact absurd z (by decide +kernel)
        · rw [n] at z; exact absurd z (by decide +kernel)
        · rcases z4 with ⟨e, _⟩ | ⟨_, hl, _⟩
          · exact absurd (e.symm.trans (hgt hg)) (by decide)
          · omega
      · exact ⟨z1, z2, z3, e⟩
    refine (fun (key : ∀ H19, Same H17 H19 → _) => ⟨_, rfl, rfl, _, rfl, iteND (fun n => ⟨_, rfl, rfl, _, rfl, iteND (fun c => absurd (hA (fun z => n (by rw [z]))).1 c) (fun _ => ⟨_, rfl, _, rfl, due, rfl, fun du H19 hdu s19 hdu19 => neD_bools (bs := bs) (cs := seenL due) (SqL.of (s19 _ _ hb17)) (SqL.of hdu19) ⟨_, rfl, iteND (fun c => absurd (hA (fun z => n (by rw [z]))).2.1 c) (fun _ => key H19 s19)⟩⟩)⟩) (fun e => key H17 (Same.refl _))⟩) ?_
    intro H19 s19
    try dsimp only [List.set_cons_zero, List.set_cons_succ]
    refine ⟨fun σ H' => ∃ vs' : List V, σ = [some (.ref a), some (.ref dh), some (.int h), some (.ref x), some (.ref x2), some (.ref q3), some (.ref S), some (.int (0 + (i : Nat))), some (.int dk), some (.ref p'), some (.bl g), x11', some fv, some (.ref bb), some (.str due), x15] ∧ SameX [x, sg, S] H12 H' ∧ Rg0 A.c_Ring K H' x h ts' sg dy lr ppn tc ∧ H' S = some (.lst vs') ∧ SgAt K H' vs' ts' ∧ Rg0 A.c_Ring K H' x2 2 [] sg2 dy2 lr2 pp2 tc2, ?_, ?_⟩
    · refine ⟨_, rfl, rfl, _, rfl, iteD (fun z => ?_) (fun z => ⟨vs, rfl, X17.trans (SameX.of s19), R17.same s19, s19 _ _ S17, ?_, B17.same s19⟩)⟩
      case refine_2 =>
        rw [(hA (fun y => z (by rw [y]))).2.2]
        exact SgAt.u (Same.u s19) G17
      refine byC fun hG => ?_
      obtain ⟨f1, f2, f3, f4⟩ := hBx (V.str.inj z)
      refine hG ?_
      subst f3
      refine ⟨_, rfl, Nat.zero_le _, fun e0 he0 => ?_⟩
      have t20 := same_upd (o := .lst []) he0
      have r20 := upd_same (H := H19) (a := e0) (o := .lst [])
      generalize upd H19 e0 (.lst []) = H20 at *
      have s20 := s19.trans t20
      refine neD_bools (bs := []) (cs := []) (SqL.of (s20 _ _ hb17)) (SqL.of r20) ⟨_, rfl, iteND (fun c => absurd rfl c) (fun _ => ?_)⟩
      subst f2
      refine ⟨_, rfl, _, rfl, _, rfl, iteF ?_⟩
      have hvl := G17.len
      have S20 := s20 _ _ S17
      refine ⟨_, rfl, _, rfl, S, vs, rfl, .inl (SqL.of S20), rfl, _, rfl, iteND (fun c => absurd (by rw [hvl]) c) (fun _ => ?_)⟩
      refine ⟨_, rfl, .inl ⟨rfl, _, SqL.of S20⟩, _, rfl, by show 2 ≤ sizeLine; decide, fun q7 hq7 => ?_⟩
      have t21 := same_upd (o := .tup [.ref p', .non]) hq7
      have r21 := upd_same (H := H20) (a := q7) (o := .tup [.ref p', .non])
      generalize upd H20 q7 (.tup [.ref p', .non]) = H21 at *
      have s21 := s20.trans t21
      have S21 := s21 _ _ S17
      refine ⟨S, vs, _, rfl, rfl, S21, small_line (by omega), ?_⟩
      have u22 : SameU H21 (upd H21 S (.lst (vs ++ [.ref q7]))) := SameX.u (E := [S]) (SameX.upd List.mem_cons_self) fun b hb => by
        rw [List.mem_singleton.mp hb, S21]; exact ⟨(fun _ z => by cases z), (fun _ _ z => by cases z)⟩
      have b22 : SameX [S] H21 (upd H21 S (.lst (vs ++ [.ref q7]))) := SameX.upd List.mem_cons_self
      have r22 := upd_same (H := H21) (a := S) (o := .lst (vs ++ [.ref q7]))
      generalize upd H21 S (.lst (vs ++ [.ref q7])) = H22 at *
      have nq : q7 ≠ S := fun z => by rw [z, S21] at r21; cases r21
      have one : ∀ {b : Addr}, b ≠ S → b ∉ [S] := fun n z => n (List.mem_singleton.mp z)
      have U19 : SameU H17 H22 := ⟨fun b ys e => u22.1 _ _ (s21 _ _ e), fun b o u e => u22.2 _ _ _ (s21 _ _ e)⟩
      have off1 : x2 ∉ [S] ∧ sg2 ∉ [S] ∧ dy2 ∉ [S] ∧ lr2 ∉ [S] ∧ pp2 ∉ [S] ∧ tc2 ∉ [S] := by
        have to1 : ∀ {b : Addr}, b ∉ [x, sg, S] → b ∉ [S] := fun n z => n (List.mem_cons_of_mem _ (List.mem_cons_of_mem _ z))
        exact ⟨to1 off2.1, to1 off2.2.1, to1 off2.2.2.1, to1 off2.2.2.2.1, to1 off2.2.2.2.2.1, to1 off2.2.2.2.2.2⟩
      refine byC fun hG => ?_
      obtain ⟨dxw, fsw, usw, psw, wx, _, wsg, _, wpp, _⟩ := R17.ex
      have nSd : S ≠ dy := fun z => by rw [z, R17.hdy] at S17; cases S17
      have nSl : S ≠ lr := fun z => by rw [z, R17.hlr] at S17; cases S17
      refine hG ?_
      refine ⟨vs ++ [.ref q7], rfl, (X17.trans (SameX.of s21)).trans (b22.sub fun b hb => by rw [List.mem_singleton.mp hb]; exact List.mem_cons_of_mem _ (List.mem_cons_of_mem _ List.mem_cons_self)), (R17.same s21).keep u22 b22 ⟨one nSx.symm, one nSg.symm, one nSd.symm, one nSl.symm, one nSpn.symm, one nSt.symm⟩, r22, ?_, (B17.same s21).keep u22 b22 off1⟩
      rw [f1]
      exact .snoc (SgAt.u U19 G17) (SqT.of (b22 _ _ (one nq) r21)) (TmAt.u U19 ht17) (okTm_of ht17 f4)
    intro σ H21 zz5
    refine byC fun hG => ?_
    obtain ⟨vs', rfl, X21, R21, S21, G21, B21⟩ := zz5
    obtain ⟨dxv, fsv, usv, psv, vx, vO, vsg, _, vpp, _⟩ := R21.ex
    refine hG ?_
    refine ⟨_, rfl, x, dxv, _, rfl, vx, vO.no "covers" (by decide +kernel), x, h, ts', sg, dy, lr, ppn, tc, rfl, R21, fun to us H22 hto s22 hto22 hG22 => ?_⟩
    try dsimp only [List.set_cons_zero, List.set_cons_succ]
    refine ⟨_, rfl, _, _, _, _, rfl, .lst hto22, rfl, _, rfl, iteF ?_⟩
    have S22 := s22 _ _ S21
    have G22 := SgAt.u (Same.u s22) G21
    refine ⟨_, rfl, _, rfl, neD_view (.lst (SqL.of hto22) hG22.dvs) (.lst (SqL.of S22) G22.dvs) rfl (sg_ok ts' hG22.ok) ⟨_, rfl, iteF ?_⟩⟩
    have B22 := B21.same s22
    refine byC fun hG => ?_
    obtain ⟨dxb, fsb, usb, psb, bxx, bO, _⟩ := B22.ex
    refine hG ?_
    refine ⟨_, rfl, x2, dxb, _, rfl, bxx, bO.no "covers" (by decide +kernel), x2, 2, [], sg2, dy2, lr2, pp2, tc2, rfl, B22, fun tb us2 H23 htb s23 htb23 hG23 => ?_⟩
    have us2n : us2 = [] := List.eq_nil_of_length_eq_zero hG23.len
    subst us2n
    refine ⟨Nat.zero_le _, fun e3 he3 => ?_⟩
    have t24 := same_upd (o := .lst []) he3
    have r24 := upd_same (H := H23) (a := e3) (o := .lst [])
    generalize upd H23 e3 (.lst []) = H24 at *
    refine neD_bools (bs := []) (cs := []) (SqL.of (t24 _ _ htb23)) (SqL.of r24) ⟨_, rfl, iteND (fun c => absurd rfl c) (fun _ => ?_)⟩
    have s24 := s22.trans (s23.trans t24)
    have to24 := (s23.trans t24) _ _ hto22
    have hul := hG22.len
    refine ⟨_, rfl, .inl ⟨rfl, _, SqL.of to24⟩, to, us, _, rfl, rfl, to24, small_line (by omega), ?_⟩
    have fto : H21 to = none := hto
    have s25 : Same H21 (upd H24 to (.lst (us ++ [.int 3]))) := upd_same_of s24 fto
    exact ⟨ts', vs', ppn, _, _, _, _, _, _, _, _, _, rfl, X21.trans (SameX.of s25), R21.same s25, s25 _ _ S21, SgAt.u (Same.u s25) G21, h10', nSpn⟩
end
set_option maxHeartbeats 0 in
theorem all_mk {l : PySem.W.OpenLaw} {w : World} {K : Frag} {h : Heap} {mg : Str → Option Value} {fa : Addr} (X : K.In h) (G : h.Ns mainGlobals mg) (hfa : mg "law" = some (.ref fa)) {C_Ring : Addr} (aC_Ring : nsIn K mainGlobals "Ring" = some (some (.ref C_Ring))) {C_BadAccount : Addr} (aC_BadAccount : nsIn K mainGlobals "BadAccount" = some (some (.ref C_BadAccount))) {C_BadCover : Addr} (aC_BadCover : nsIn K mainGlobals "BadCover" = some (some (.ref C_BadCover))) {C_BadCrowns : Addr} (aC_BadCrowns : nsIn K mainGlobals "BadCrowns" = some (some (.ref C_BadCrowns))) {C_BadDay : Addr} (aC_BadDay : nsIn K mainGlobals "BadDay" = some (some (.ref C_BadDay))) {C_BadDeed : Addr} (aC_BadDeed : nsIn K mainGlobals "BadDeed" = some (some (.ref C_BadDeed))) {C_BadHouses : Addr} (aC_BadHouses : nsIn K mainGlobals "BadHouses" = some (some (.ref C_BadHouses))) {C_BadLines : Addr} (aC_BadLines : nsIn K mainGlobals "BadLines" = some (some (.ref C_BadLines))) {C_BadLosses : Addr} (aC_BadLosses : nsIn K mainGlobals "BadLosses" = some (some (.ref C_BadLosses))) {C_BadTerms : Addr} (aC_BadTerms : nsIn K mainGlobals "BadTerms" = some (some (.ref C_BadTerms))) {C_BadText : Addr} (aC_BadText : nsIn K mainGlobals "BadText" = some (some (.ref C_BadText))) {C_Disagrees : Addr} (aC_Disagrees : nsIn K mainGlobals "Disagrees" = some (some (.ref C_Disagrees))) {C_Endless : Addr} (aC_Endless : nsIn K mainGlobals "Endless" = some (some (.ref C_Endless))) {C_Full : Addr} (aC_Full : nsIn K mainGlobals "Full" = some (some (.ref C_Full))) {C_NoCover : Addr} (aC_NoCover : nsIn K mainGlobals "NoCover" = some (some (.ref C_NoCover))) {C_NoHappening : Addr} (aC_NoHappening : nsIn K mainGlobals "NoHappening" = some (some (.ref C_NoHappening))) {C_NoHouse : Addr} (aC_NoHouse : nsIn K mainGlobals "NoHouse" = some (some (.ref C_NoHouse))) {C_NoLoss : Addr} (aC_NoLoss : nsIn K mainGlobals "NoLoss" = some (some (.ref C_NoLoss))) {C_Nothing : Addr} (aC_Nothing : nsIn K mainGlobals "Nothing" = some (some (.ref C_Nothing))) {C_RingError : Addr} (aC_RingError : nsIn K mainGlobals "RingError" = some (some (.ref C_RingError))) {C_Same : Addr} (aC_Same : nsIn K mainGlobals "Same" = some (some (.ref C_Same))) {C_Short : Addr} (aC_Short : nsIn K mainGlobals "Short" = some (some (.ref C_Short))) {C_Unbacked : Addr} (aC_Unbacked : nsIn K mainGlobals "Unbacked" = some (some (.ref C_Unbacked))) {f0 f1 f2 f3 f4 f5 f6 f7 f8 f9 f10 f11 f12 f13 f14 f15 f16 f17 f18 f19 f20 f21 f22 f23 f24 f25 : Addr} (a0 : nsIn K mainGlobals "is_lines" = some (some (.ref f0))) (l0 : FL K "is_lines" "is_lines" s_is_lines f0) (a1 : nsIn K mainGlobals "is_measure" = some (some (.ref f1))) (l1 : FL K "is_measure" "is_measure" s_is_measure f1) (a2 : nsIn K mainGlobals "are_others" = some (some (.ref f2))) (l2 : FL K "are_others" "are_others" s_are_others f2) (a3 : nsIn K mainGlobals "is_cover" = some (some (.ref f3))) (l3 : FL K "is_cover" "is_cover" s_is_cover f3) (a4 : nsIn K mainGlobals "require_houses" = some (some (.ref f4))) (l4 : FL K "require_houses" "require_houses" s_require_houses f4) (a5 : nsIn K mainGlobals "is_day" = some (some (.ref f5))) (l5 : FL K "is_day" "is_day" s_is_day f5) (a6 : nsIn K mainGlobals "is_stop" = some (some (.ref f6))) (l6 : FL K "is_stop" "is_stop" s_is_stop f6) (a7 : nsIn K mainGlobals "cover_of" = some (some (.ref f7))) (l7 : FL K "cover_of" "cover_of" s_cover_of f7) (a8 : nsIn K mainGlobals "are_bounds" = some (some (.ref f8))) (l8 : FL K "are_bounds" "are_bounds" s_are_bounds f8) (a9 : nsIn K mainGlobals "is_terms" = some (some (.ref f9))) (l9 : FL K "is_terms" "is_terms" s_is_terms f9) (a10 : findIn K (.ref C_Ring) "__init__" = some (some (.ref f10))) (i10 : PySem.W.isFn K (.ref f10) = true) (l10 : FL K "__init__" "Ring.__init__" s_Ring___init__ f10) (a11 : findIn K (.ref C_Ring) "sign" = some (some (.ref f11))) (i11 : PySem.W.isFn K (.ref f11) = true) (l11 : FL K "sign" "Ring.sign" s_Ring_sign f11) (a12 : findIn K (.ref C_Ring) "covers" = some (some (.ref f12))) (i12 : PySem.W.isFn K (.ref f12) = true) (l12 : FL K "covers" "Ring.covers" s_Ring_covers f12) (a13 : findIn K (.ref C_Ring) "happenings" = some (some (.ref f13))) (i13 : PySem.W.isFn K (.ref f13) = true) (l13 : FL K "happenings" "Ring.happenings" s_Ring_happenings f13) (a14 : findIn K (.ref C_Ring) "losses" = some (some (.ref f14))) (i14 : PySem.W.isFn K (.ref f14) = true) (l14 : FL K "losses" "Ring.losses" s_Ring_losses f14) (a15 : findIn K (.ref C_Ring) "closings" = some (some (.ref f15))) (i15 : PySem.W.isFn K (.ref f15) = true) (l15 : FL K "closings" "Ring.closings" s_Ring_closings f15) (a16 : nsIn K mainGlobals "_law_draws" = some (some (.ref f16))) (l16 : FL K "_law_draws" "_law_draws" s__law_draws f16) (a17 : nsIn K mainGlobals "_law_whole" = some (some (.ref f17))) (l17 : FL K "_law_whole" "_law_whole" s__law_whole f17) (a18 : nsIn K mainGlobals "_law_due" = some (some (.ref f18))) (l18 : FL K "_law_due" "_law_due" s__law_due f18) (a19 : nsIn K mainGlobals "_law_seen" = some (some (.ref f19))) (l19 : FL K "_law_seen" "_law_seen" s__law_seen f19) (a20 : nsIn K mainGlobals "_law_lines" = some (some (.ref f20))) (l20 : FL K "_law_lines" "_law_lines" s__law_lines f20) (a21 : nsIn K mainGlobals "_law_cover" = some (some (.ref f21))) (l21 : FL K "_law_cover" "_law_cover" s__law_cover f21) (a22 : nsIn K mainGlobals "_law_terms" = some (some (.ref f22))) (l22 : FL K "_law_terms" "_law_terms" s__law_terms f22) (a23 : nsIn K mainGlobals "_law_call" = some (some (.ref f23))) (l23 : FL K "_law_call" "_law_call" s__law_call f23) (a24 : nsIn K mainGlobals "_law_acted" = some (some (.ref f24))) (l24 : FL K "_law_acted" "_law_acted" s__law_acted f24) (a25 : nsIn K mainGlobals "law" = some (some (.ref f25))) (l25 : FL K "law" "law" s_law f25) {t_LAST_DAY : Tok} (v_LAST_DAY : nsIn K mainGlobals "LAST_DAY" = some (some (.int 99 t_LAST_DAY))) {t_LAST_HOUSE : Tok} (v_LAST_HOUSE : nsIn K mainGlobals "LAST_HOUSE" = some (some (.int 5 t_LAST_HOUSE))) {t_LEAST_LINE : Tok} (v_LEAST_LINE : nsIn K mainGlobals "LEAST_LINE" = some (some (.int 1 t_LEAST_LINE))) {t_MOST_BILL : Tok} (v_MOST_BILL : nsIn K mainGlobals "MOST_BILL" = some (some (.int 24 t_MOST_BILL))) {t_MOST_COVERS : Tok} (v_MOST_COVERS : nsIn K mainGlobals "MOST_COVERS" = some (some (.int 10 t_MOST_COVERS))) {t_MOST_LINE : Tok} (v_MOST_LINE : nsIn K mainGlobals "MOST_LINE" = some (some (.int 20 t_MOST_LINE))) {t_MOST_PAIRS : Tok} (v_MOST_PAIRS : nsIn K mainGlobals "MOST_PAIRS" = some (some (.int 4 t_MOST_PAIRS))) {t_MOST_WHOLE : Tok} (v_MOST_WHOLE : nsIn K mainGlobals "MOST_WHOLE" = some (some (.int 120 t_MOST_WHOLE))) (pg_Ring : PySem.W.plainGet K C_Ring Str.empty = true) (hd_Ring : PySem.W.hasDictIn K C_Ring = true) (po_Ring : PySem.W.plainOver K C_Ring = true) (sa_Ring : findIn K (.ref C_Ring) "__setattr__" = some (some (.builtin "object.__setattr__"))) (mk_Ring : PySem.W.makesIn K C_Ring = true) (kc_Ring : keepIn K (.ref C_Ring) = true) (na_Ring_house_count : findIn K (.ref C_Ring) "house_count" = some none) (na_Ring_signed : findIn K (.ref C_Ring) "signed" = some none) (na_Ring_day_of : findIn K (.ref C_Ring) "day_of" = some none) (na_Ring_loss_rows : findIn K (.ref C_Ring) "loss_rows" = some none) (na_Ring_next_happening : findIn K (.ref C_Ring) "next_happening" = some none) (na_Ring_next_loss : findIn K (.ref C_Ring) "next_loss" = some none) (na_Ring_paid_parts : findIn K (.ref C_Ring) "paid_parts" = some none) (na_Ring_told_closings : findIn K (.ref C_Ring) "told_closings" = some none) (na_Ring_reckoning : findIn K (.ref C_Ring) "reckoning" = some none) (x_BadTerms : PySem.W.excIn K C_BadTerms [.type "ValueError", .type "Exception", .type "BaseException", .type "object"] "ValueError.__new__" = true) (ec_BadTerms : ErrCls K C_BadTerms) (em_BadTerms : PySem.W.exmOne K (.ref C_BadTerms) (.ref C_RingError) = some true) (kv_BadTerms : kitOne K (.ref C_BadTerms) (.type "ValueError") = some true) (ki_BadTerms_BadAccount : kitOne K (.ref C_BadTerms) (.ref C_BadAccount) = some false) (ki_BadTerms_BadCover : kitOne K (.ref C_BadTerms) (.ref C_BadCover) = some false) (ki_BadTerms_BadCrowns : kitOne K (.ref C_BadTerms) (.ref C_BadCrowns) = some false) (ki_BadTerms_BadDay : kitOne K (.ref C_BadTerms) (.ref C_BadDay) = some false) (ki_BadTerms_BadDeed : kitOne K (.ref C_BadTerms) (.ref C_BadDeed) = some false) (ki_BadTerms_BadHouses : kitOne K (.ref C_BadTerms) (.ref C_BadHouses) = some false) (ki_BadTerms_BadLines : kitOne K (.ref C_BadTerms) (.ref C_BadLines) = some false) (ki_BadTerms_BadLosses : kitOne K (.ref C_BadTerms) (.ref C_BadLosses) = some false) (ki_BadTerms_BadTerms : kitOne K (.ref C_BadTerms) (.ref C_BadTerms) = some true) (ki_BadTerms_BadText : kitOne K (.ref C_BadTerms) (.ref C_BadText) = some false) (ki_BadTerms_Disagrees : kitOne K (.ref C_BadTerms) (.ref C_Disagrees) = some false) (ki_BadTerms_Endless : kitOne K (.ref C_BadTerms) (.ref C_Endless) = some false) (ki_BadTerms_Full : kitOne K (.ref C_BadTerms) (.ref C_Full) = some false) (ki_BadTerms_NoCover : kitOne K (.ref C_BadTerms) (.ref C_NoCover) = some false) (ki_BadTerms_NoHappening : kitOne K (.ref C_BadTerms) (.ref C_NoHappening) = some false) (ki_BadTerms_NoHouse : kitOne K (.ref C_BadTerms) (.ref C_NoHouse) = some false) (ki_BadTerms_NoLoss : kitOne K (.ref C_BadTerms) (.ref C_NoLoss) = some false) (ki_BadTerms_Nothing : kitOne K (.ref C_BadTerms) (.ref C_Nothing) = some false) (ki_BadTerms_Same : kitOne K (.ref C_BadTerms) (.ref C_Same) = some false) (ki_BadTerms_Short : kitOne K (.ref C_BadTerms) (.ref C_Short) = some false) (ki_BadTerms_Unbacked : kitOne K (.ref C_BadTerms) (.ref C_Unbacked) = some false) (x_Full : PySem.W.excIn K C_Full [.type "ValueError", .type "Exception", .type "BaseException", .type "object"] "ValueError.__new__" = true) (ec_Full : ErrCls K C_Full) (em_Full : PySem.W.exmOne K (.ref C_Full) (.ref C_RingError) = some true) (kv_Full : kitOne K (.ref C_Full) (.type "ValueError") = some true) (ki_Full_BadAccount : kitOne K (.ref C_Full) (.ref C_BadAccount) = some false) (ki_Full_BadCover : kitOne K (.ref C_Full) (.ref C_BadCover) = some false) (ki_Full_BadCrowns : kitOne K (.ref C_Full) (.ref C_BadCrowns) = some false) (ki_Full_BadDay : kitOne K (.ref C_Full) (.ref C_BadDay) = some false) (ki_Full_BadDeed : kitOne K (.ref C_Full) (.ref C_BadDeed) = some false) (ki_Full_BadHouses : kitOne K (.ref C_Full) (.ref C_BadHouses) = some false) (ki_Full_BadLines : kitOne K (.ref C_Full) (.ref C_BadLines) = some false) (ki_Full_BadLosses : kitOne K (.ref C_Full) (.ref C_BadLosses) = some false) (ki_Full_BadTerms : kitOne K (.ref C_Full) (.ref C_BadTerms) = some false) (ki_Full_BadText : kitOne K (.ref C_Full) (.ref C_BadText) = some false) (ki_Full_Disagrees : kitOne K (.ref C_Full) (.ref C_Disagrees) = some false) (ki_Full_Endless : kitOne K (.ref C_Full) (.ref C_Endless) = some false) (ki_Full_Full : kitOne K (.ref C_Full) (.ref C_Full) = some true) (ki_Full_NoCover : kitOne K (.ref C_Full) (.ref C_NoCover) = some false) (ki_Full_NoHappening : kitOne K (.ref C_Full) (.ref C_NoHappening) = some false) (ki_Full_NoHouse : kitOne K (.ref C_Full) (.ref C_NoHouse) = some false) (ki_Full_NoLoss : kitOne K (.ref C_Full) (.ref C_NoLoss) = some false) (ki_Full_Nothing : kitOne K (.ref C_Full) (.ref C_Nothing) = some false) (ki_Full_Same : kitOne K (.ref C_Full) (.ref C_Same) = some false) (ki_Full_Short : kitOne K (.ref C_Full) (.ref C_Short) = some false) (ki_Full_Unbacked : kitOne K (.ref C_Full) (.ref C_Unbacked) = some false) (z_ValueError : nsIn K mainGlobals "ValueError" = some none) (z_all : nsIn K mainGlobals "all" = some none) (z_bool : nsIn K mainGlobals "bool" = some none) (z_int : nsIn K mainGlobals "int" = some none) (z_isinstance : nsIn K mainGlobals "isinstance" = some none) (z_len : nsIn K mainGlobals "len" = some none) (z_list : nsIn K mainGlobals "list" = some none) (z_min : nsIn K mainGlobals "min" = some none) (z_range : nsIn K mainGlobals "range" = some none) (z_sorted : nsIn K mainGlobals "sorted" = some none) (z_tuple : nsIn K mainGlobals "tuple" = some none) {d_BY_BOUNDS : Addr} {e_BY_BOUNDS : Nat} {u_BY_BOUNDS_0 : Addr} {x_BY_BOUNDS_0 : Tok} {n_BY_BOUNDS_0 : Nat} {dd_BY_BOUNDS_0 : Option Addr} {sl_BY_BOUNDS_0 : Array (Option Value)} {y_BY_BOUNDS_0_0 : Tok} {y_BY_BOUNDS_0_1 : Tok} {u_BY_BOUNDS_1 : Addr} {x_BY_BOUNDS_1 : Tok} {n_BY_BOUNDS_1 : Nat} {dd_BY_BOUNDS_1 : Option Addr} {sl_BY_BOUNDS_1 : Array (Option Value)} {y_BY_BOUNDS_1_0 : Tok} {y_BY_BOUNDS_1_1 : Tok} (ga_BY_BOUNDS : nsIn K mainGlobals "BY_BOUNDS" = some (some (.ref d_BY_BOUNDS))) (gl_BY_BOUNDS : K.lookup d_BY_BOUNDS = some ⟨.type "dict", none, .dict #[⟨PyData.keyHash w.params "share", .str "share" x_BY_BOUNDS_0, .ref u_BY_BOUNDS_0⟩, ⟨PyData.keyHash w.params "layer", .str "layer" x_BY_BOUNDS_1, .ref u_BY_BOUNDS_1⟩] e_BY_BOUNDS, #[]⟩) (gz_BY_BOUNDS : (d_BY_BOUNDS == sysModules) = false) (gt_BY_BOUNDS_0 : K.lookup u_BY_BOUNDS_0 = some ⟨.type "tuple", dd_BY_BOUNDS_0, .seq #[.int 1 y_BY_BOUNDS_0_0, .int 100 y_BY_BOUNDS_0_1] n_BY_BOUNDS_0, sl_BY_BOUNDS_0⟩) (gt_BY_BOUNDS_1 : K.lookup u_BY_BOUNDS_1 = some ⟨.type "tuple", dd_BY_BOUNDS_1, .seq #[.int 0 y_BY_BOUNDS_1_0, .int 200 y_BY_BOUNDS_1_1] n_BY_BOUNDS_1, sl_BY_BOUNDS_1⟩) {d_THINGS : Addr} {e_THINGS : Nat} {u_THINGS_0 : Tok} {x_THINGS_0 : Tok} {u_THINGS_1 : Tok} {x_THINGS_1 : Tok} {u_THINGS_2 : Tok} {x_THINGS_2 : Tok} (ga_THINGS : nsIn K mainGlobals "THINGS" = some (some (.ref d_THINGS))) (gl_THINGS : K.lookup d_THINGS = some ⟨.type "dict", none, .dict #[⟨PyData.keyHash w.params "share", .str "share" x_THINGS_0, .int 8 u_THINGS_0⟩, ⟨PyData.keyHash w.params "layer", .str "layer" x_THINGS_1, .int 8 u_THINGS_1⟩, ⟨PyData.keyHash w.params "stop", .str "stop" x_THINGS_2, .int 5 u_THINGS_2⟩] e_THINGS, #[]⟩) (gz_THINGS : (d_THINGS == sysModules) = false) {tl : List Addr} {lc_Ring_happenings lp_Ring_happenings : Addr} (lm_Ring_happenings : Lam K f13 lc_Ring_happenings lp_Ring_happenings) (htl : tl = [lp_Ring_happenings])
    : ∃ fd : FuncData, (∀ (s : Shared) (v : Value), BindsTo s fd ⟨[v], []⟩ [("_law_script", v)]) ∧ (∀ P ∈ tl, ∃ c, PySem.W.codeHdIn K c P = true) ∧ ∀ base : Heap, K.In base → base.Ns mainGlobals mg → BmAt mg base → FnOk l.prog w K mg base CX0 7 fa fd ["_law_script"] (sp_law K tl) := by
  subst htl
  have e := hfa.symm.trans (mg_of X G a25)
  cases e
  obtain ⟨e0, F0, k0, b0⟩ := l0.fn1 ["lines"] fun _ _ _ _ _ _ _ => rfl
  obtain ⟨e1, F1, k1, b1⟩ := l1.fn3 ["kind", "by", "most"] fun _ _ _ _ _ _ _ _ _ => rfl
  obtain ⟨e2, F2, k2, b2⟩ := l2.fn3 ["houses", "house", "lines"] fun _ _ _ _ _ _ _ _ _ => rfl
  obtain ⟨e3, F3, k3, b3⟩ := l3.fn2 ["houses", "cover"] fun _ _ _ _ _ _ _ _ => rfl
  obtain ⟨e4, F4, k4, b4⟩ := l4.fn1 ["houses"] fun _ _ _ _ _ _ _ => rfl
  obtain ⟨e5, F5, k5, b5⟩ := l5.fn1 ["day"] fun _ _ _ _ _ _ _ => rfl
  obtain ⟨e6, F6, k6, b6⟩ := l6.fn1 ["terms"] fun _ _ _ _ _ _ _ => rfl
  obtain ⟨e7, F7, k7, b7⟩ := l7.fn1 ["terms"] fun _ _ _ _ _ _ _ => rfl
  obtain ⟨e8, F8, k8, b8⟩ := l8.fn3 ["whole", "first", "last"] fun _ _ _ _ _ _ _ _ _ => rfl
  obtain ⟨e9, F9, k9, b9⟩ := l9.fn2 ["houses", "terms"] fun _ _ _ _ _ _ _ _ => rfl
  obtain ⟨e10, F10, k10, b10⟩ := l10.fn2 ["self", "houses"] fun _ _ _ _ _ _ _ _ => rfl
  obtain ⟨e11, F11, k11, b11⟩ := l11.fn2 ["self", "terms"] fun _ _ _ _ _ _ _ _ => rfl
  obtain ⟨e12, F12, k12, b12⟩ := l12.fn1 ["self"] fun _ _ _ _ _ _ _ => rfl
  obtain ⟨e13, F13, k13, b13⟩ := l13.fn1 ["self"] fun _ _ _ _ _ _ _ => rfl
  obtain ⟨e14, F14, k14, b14⟩ := l14.fn1 ["self"] fun _ _ _ _ _ _ _ => rfl
  obtain ⟨e15, F15, k15, b15⟩ := l15.fn1 ["self"] fun _ _ _ _ _ _ _ => rfl
  obtain ⟨e16, F16, k16, b16⟩ := l16.fn2 ["_law_script", "_law_many"] fun _ _ _ _ _ _ _ _ => rfl
  obtain ⟨e17, F17, k17, b17⟩ := l17.fn1 ["_law_found"] fun _ _ _ _ _ _ _ => rfl
  obtain ⟨e18, F18, k18, b18⟩ := l18.fn1 ["_law_want"] fun _ _ _ _ _ _ _ => rfl
  obtain ⟨e19, F19, k19, b19⟩ := l19.fn1 ["_law_e"] fun _ _ _ _ _ _ _ => rfl
  obtain ⟨e20, F20, k20, b20⟩ := l20.fn3 ["_law_houses", "_law_house", "_law_draws_here"] fun _ _ _ _ _ _ _ _ _ => rfl
  obtain ⟨e21, F21, k21, b21⟩ := l21.fn2 ["_law_houses", "_law_draws_here"] fun _ _ _ _ _ _ _ _ => rfl
  obtain ⟨e22, F22, k22, b22⟩ := l22.fn2 ["_law_houses", "_law_draws_here"] fun _ _ _ _ _ _ _ _ => rfl
  obtain ⟨e23, F23, k23, b23⟩ := l23.fn2 ["_law_ring", "_law_deed"] fun _ _ _ _ _ _ _ _ => rfl
  obtain ⟨e24, F24, k24, b24⟩ := l24.fn2 ["_law_ring", "_law_deed"] fun _ _ _ _ _ _ _ _ => rfl
  obtain ⟨od, an, sl, oc, kV, dc, pm, cd, ct, l, c, k25⟩ := l25.ex
  have F25 := fun_mk (st := s_law) l c k25
  have b25 := F25.binds (ps := ["_law_script"]) fun _ _ _ _ _ _ us hl => len1 (p := fun us => bindArgs _ ⟨us, []⟩ = pure (List.zip (["_law_script"] : List Str) us)) (show us.length = 1 from hl) fun _ => rfl
  have T : Txt w K mg ⟨_, _, _, _, _, _, _, _, _, _, _, _, _, _, _, _, _, _, _, _, _, _, _, _, _, _, _, _, _, _, _, _, _, _, _, _, _, _, _, _, _, _, _, _, _, _, _, _, _, _, _, _, C_Ring, C_BadAccount, C_BadCover, C_BadCrowns, C_BadDay, C_BadDeed, C_BadHouses, C_BadLines, C_BadLosses, C_BadTerms, C_BadText, C_Disagrees, C_Endless, C_Full, C_NoCover, C_NoHappening, C_NoHouse, C_NoLoss, C_Nothing, C_RingError, C_Same, C_Short, C_Unbacked, lc_Ring_happenings, lp_Ring_happenings, d_BY_BOUNDS, u_BY_BOUNDS_0, u_BY_BOUNDS_1, d_THINGS, u_THINGS_0, u_THINGS_1, u_THINGS_2⟩ := ⟨F0, mg_of X G a0, k0, b0, F1, mg_of X G a1, k1, b1, F2, mg_of X G a2, k2, b2, F3, mg_of X G a3, k3, b3, F4, mg_of X G a4, k4, b4, F5, mg_of X G a5, k5, b5, F6, mg_of X G a6, k6, b6, F7, mg_of X G a7, k7, b7, F8, mg_of X G a8, k8, b8, F9, mg_of X G a9, k9, b9, F10, k10, b10, F11, ⟨a11, i11, k11⟩, k11, b11, F12, ⟨a12, i12, k12⟩, k12, b12, F13, ⟨a13, i13, k13⟩, k13, b13, F14, ⟨a14, i14, k14⟩, k14, b14, F15, ⟨a15, i15, k15⟩, k15, b15, F16, mg_of X G a16, k16, b16, F17, mg_of X G a17, k17, b17, F18, mg_of X G a18, k18, b18, F19, mg_of X G a19, k19, b19, F20, mg_of X G a20, k20, b20, F21, mg_of X G a21, k21, b21, F22, mg_of X G a22, k22, b22, F23, mg_of X G a23, k23, b23, F24, mg_of X G a24, k24, b24, F25, mg_of X G a25, k25, b25, lm_Ring_happenings, ⟨pg_Ring, hd_Ring, po_Ring, sa_Ring⟩, mg_of X G aC_Ring, ⟨mk_Ring, a10, i10, kc_Ring⟩, na_Ring_house_count, na_Ring_signed, na_Ring_day_of, na_Ring_loss_rows, na_Ring_next_happening, na_Ring_next_loss, na_Ring_paid_parts, na_Ring_told_closings, na_Ring_reckoning, mg_of X G aC_BadAccount, mg_of X G aC_BadCover, mg_of X G aC_BadCrowns, mg_of X G aC_BadDay, mg_of X G aC_BadDeed, mg_of X G aC_BadHouses, mg_of X G aC_BadLines, mg_of X G aC_BadLosses, mg_of X G aC_BadTerms, mg_of X G aC_BadText, mg_of X G aC_Disagrees, mg_of X G aC_Endless, mg_of X G aC_Full, mg_of X G aC_NoCover, mg_of X G aC_NoHappening, mg_of X G aC_NoHouse, mg_of X G aC_NoLoss, mg_of X G aC_Nothing, mg_of X G aC_RingError, mg_of X G aC_Same, mg_of X G aC_Short, mg_of X G aC_Unbacked, x_BadTerms, ec_BadTerms, em_BadTerms, kv_BadTerms, ki_BadTerms_BadAccount, ki_BadTerms_BadCover, ki_BadTerms_BadCrowns, ki_BadTerms_BadDay, ki_BadTerms_BadDeed, ki_BadTerms_BadHouses, ki_BadTerms_BadLines, ki_BadTerms_BadLosses, ki_BadTerms_BadTerms, ki_BadTerms_BadText, ki_BadTerms_Disagrees, ki_BadTerms_Endless, ki_BadTerms_Full, ki_BadTerms_NoCover, ki_BadTerms_NoHappening, ki_BadTerms_NoHouse, ki_BadTerms_NoLoss, ki_BadTerms_Nothing, ki_BadTerms_Same, ki_BadTerms_Short, ki_BadTerms_Unbacked, x_Full, ec_Full, em_Full, kv_Full, ki_Full_BadAccount, ki_Full_BadCover, ki_Full_BadCrowns, ki_Full_BadDay, ki_Full_BadDeed, ki_Full_BadHouses, ki_Full_BadLines, ki_Full_BadLosses, ki_Full_BadTerms, ki_Full_BadText, ki_Full_Disagrees, ki_Full_Endless, ki_Full_Full, ki_Full_NoCover, ki_Full_NoHappening, ki_Full_NoHouse, ki_Full_NoLoss, ki_Full_Nothing, ki_Full_Same, ki_Full_Short, ki_Full_Unbacked, ⟨_, mg_of X G v_LAST_DAY⟩, ⟨_, mg_of X G v_LAST_HOUSE⟩, ⟨_, mg_of X G v_LEAST_LINE⟩, ⟨_, mg_of X G v_MOST_BILL⟩, ⟨_, mg_of X G v_MOST_COVERS⟩, ⟨_, mg_of X G v_MOST_LINE⟩, ⟨_, mg_of X G v_MOST_PAIRS⟩, ⟨_, mg_of X G v_MOST_WHOLE⟩, mg_none_of X G z_ValueError, mg_none_of X G z_all, mg_none_of X G z_bool, mg_none_of X G z_int, mg_none_of X G z_isinstance, mg_none_of X G z_len, mg_none_of X G z_list, mg_none_of X G z_min, mg_none_of X G z_range, mg_none_of X G z_sorted, mg_none_of X G z_tuple, mg_of X G ga_BY_BOUNDS, kdict_mk (es := [_, _]) gl_BY_BOUNDS gz_BY_BOUNDS (fun e he => by simp only [List.mem_cons, List.not_mem_nil, or_false] at he; rcases he with rfl | rfl <;> exact ⟨Sum.inr _, keyIs_str _ _, rfl⟩) (fun P => .cons (mixKind_str _ _ _ _) rfl (.cons (mixKind_str _ _ _ _) rfl (.nil))) (by show ([Sum.inr "share", Sum.inr "layer"] : List Key).Nodup; decide +kernel), ⟨_, _, _, gt_BY_BOUNDS_0, rfl, rfl, by show 2 ≤ sizeLine; decide, .cons ⟨_, rfl⟩ (.cons ⟨_, rfl⟩ (.nil))⟩, ⟨_, _, _, gt_BY_BOUNDS_1, rfl, rfl, by show 2 ≤ sizeLine; decide, .cons ⟨_, rfl⟩ (.cons ⟨_, rfl⟩ (.nil))⟩, mg_of X G ga_THINGS, kdict_mk (es := [_, _, _]) gl_THINGS gz_THINGS (fun e he => by simp only [List.mem_cons, List.not_mem_nil, or_false] at he; rcases he with rfl | rfl | rfl <;> exact ⟨Sum.inr _, keyIs_str _ _, rfl⟩) (fun P => .cons (mixKind_str _ _ _ _) rfl (.cons (mixKind_str _ _ _ _) rfl (.cons (mixKind_str _ _ _ _) rfl (.nil)))) (by show ([Sum.inr "share", Sum.inr "layer", Sum.inr "stop"] : List Key).Nodup; decide +kernel)⟩
  exact ⟨_, fun s v => .of_eq rfl, fun P hP => ⟨lc_Ring_happenings, by rw [List.mem_singleton.mp hP]; exact lm_Ring_happenings.hd⟩, fun base _ _ hB => ok_law T hB⟩
theorem walk {l : PySem.W.OpenLaw} {q : Program} {loose : List Str} {XP : (Str → Option Value) → Heap → Prop} {YP : World → Heap → Prop} {d : DefRec} {K : Params → Frag} {tl : List Addr} (hn : l.most = some 63) (hdf : d.params.defaults = [])
    (hY : ∀ (w : World) (h : Heap), YP w h → (K w.params).In h) (hYT : ∀ (w : World) (h : Heap), YP w h → ∀ P ∈ tl, h.get? P = some (PySem.W.tabObj #[])) (hnT : ∀ w : World, PySem.W.noTabs (K w.params) = true)
    (F : ∀ (w : World) (mg : Str → Option Value) (fa : Addr) (h : Heap), (K w.params).In h → h.Ns mainGlobals mg → mg d.name = some (.ref fa) →
      ∃ fd : FuncData, (∀ (s : Shared) (u : Value), BindsTo s fd ⟨[u], []⟩ [("_law_script", u)]) ∧ (∀ P ∈ tl, ∃ c, PySem.W.codeHdIn (K w.params) c P = true) ∧ ∀ base : Heap, (K w.params).In base → base.Ns mainGlobals mg → BmAt mg base → FnOk l.prog w (K w.params) mg base CX0 7 fa fd ["_law_script"] (sp_law (K w.params) tl)) :
    PySem.W.WalkO q loose XP YP l.row.toRowW d [] (fun f vs => PySem.call f vs) :=
  L2.walk_ofT (n := 63) (k := 7) (x := "_law_script") (ts := tl) (CX := fun _ => CX0) (sp := fun w => sp_law (K w.params) tl) hn (by decide) hdf ⟨rfl, by decide, by decide⟩ hY hYT hnT F (fun _ _ a ns hl hS hT => ⟨a, ns, rfl, hS, hl, hT, fun _ => rfl⟩) fun _ _ _ _ _ z => z
end Rc
open PySem PySem.W PyProof.Rows
set_option maxRecDepth 100000 in
set_option maxHeartbeats 0 in
theorem PySem.Challenge.cw_ringcede_k40_terms_signed_holds : PySem.Challenge.rw_ringcede_k40_terms_signed.Holds := by
  w_on; o_law; k_head; (case hw => w_witness2)
  k_fill
  refine Rc.walk (l := PySem.Challenge.rw_ringcede_k40_terms_signed) rfl rfl (fun w h Y => PySem.W.km_in_of Y) (fun w h Y => PySem.W.km_tabs_of Y) (fun w => by kernel_rfl) ?F
  case F =>
    intro w mg fa h KX G hmg
    refine' Rc.all_mk KX G hmg ?aC_Ring ?aC_BadAccount ?aC_BadCover ?aC_BadCrowns ?aC_BadDay ?aC_BadDeed ?aC_BadHouses ?aC_BadLines ?aC_BadLosses ?aC_BadTerms ?aC_BadText ?aC_Disagrees ?aC_Endless ?aC_Full ?aC_NoCover ?aC_NoHappening ?aC_NoHouse ?aC_NoLoss ?aC_Nothing ?aC_RingError ?aC_Same ?aC_Short ?aC_Unbacked ?a0 ?l0 ?a1 ?l1 ?a2 ?l2 ?a3 ?l3 ?a4 ?l4 ?a5 ?l5 ?a6 ?l6 ?a7 ?l7 ?a8 ?l8 ?a9 ?l9 ?a10 ?i10 ?l10 ?a11 ?i11 ?l11 ?a12 ?i12 ?l12 ?a13 ?i13 ?l13 ?a14 ?i14 ?l14 ?a15 ?i15 ?l15 ?a16 ?l16 ?a17 ?l17 ?a18 ?l18 ?a19 ?l19 ?a20 ?l20 ?a21 ?l21 ?a22 ?l22 ?a23 ?l23 ?a24 ?l24 ?a25 ?l25 ?v_LAST_DAY ?v_LAST_HOUSE ?v_LEAST_LINE ?v_MOST_BILL ?v_MOST_COVERS ?v_MOST_LINE ?v_MOST_PAIRS ?v_MOST_WHOLE ?pg_Ring ?hd_Ring ?po_Ring ?sa_Ring ?mk_Ring ?kc_Ring ?na_Ring_house_count ?na_Ring_signed ?na_Ring_day_of ?na_Ring_loss_rows ?na_Ring_next_happening ?na_Ring_next_loss ?na_Ring_paid_parts ?na_Ring_told_closings ?na_Ring_reckoning ?x_BadTerms ?ec_BadTerms ?em_BadTerms ?kv_BadTerms ?ki_BadTerms_BadAccount ?ki_BadTerms_BadCover ?ki_BadTerms_BadCrowns ?ki_BadTerms_BadDay ?ki_BadTerms_BadDeed ?ki_BadTerms_BadHouses ?ki_BadTerms_BadLines ?ki_BadTerms_BadLosses ?ki_BadTerms_BadTerms ?ki_BadTerms_BadText ?ki_BadTerms_Disagrees ?ki_BadTerms_Endless ?ki_BadTerms_Full ?ki_BadTerms_NoCover ?ki_BadTerms_NoHappening ?ki_BadTerms_NoHouse ?ki_BadTerms_NoLoss ?ki_BadTerms_Nothing ?ki_BadTerms_Same ?ki_BadTerms_Short ?ki_BadTerms_Unbacked ?x_Full ?ec_Full ?em_Full ?kv_Full ?ki_Full_BadAccount ?ki_Full_BadCover ?ki_Full_BadCrowns ?ki_Full_BadDay ?ki_Full_BadDeed ?ki_Full_BadHouses ?ki_Full_BadLines ?ki_Full_BadLosses ?ki_Full_BadTerms ?ki_Full_BadText ?ki_Full_Disagrees ?ki_Full_Endless ?ki_Full_Full ?ki_Full_NoCover ?ki_Full_NoHappening ?ki_Full_NoHouse ?ki_Full_NoLoss ?ki_Full_Nothing ?ki_Full_Same ?ki_Full_Short ?ki_Full_Unbacked ?z_ValueError ?z_all ?z_bool ?z_int ?z_isinstance ?z_len ?z_list ?z_min ?z_range ?z_sorted ?z_tuple ?ga_BY_BOUNDS ?gl_BY_BOUNDS ?gz_BY_BOUNDS ?gt_BY_BOUNDS_0 ?gt_BY_BOUNDS_1 ?ga_THINGS ?gl_THINGS ?gz_THINGS ?lm_Ring_happenings ?htl
    (case aC_Ring | aC_BadAccount | aC_BadCover | aC_BadCrowns | aC_BadDay | aC_BadDeed | aC_BadHouses | aC_BadLines | aC_BadLosses | aC_BadTerms | aC_BadText | aC_Disagrees | aC_Endless | aC_Full | aC_NoCover | aC_NoHappening | aC_NoHouse | aC_NoLoss | aC_Nothing | aC_RingError | aC_Same | aC_Short | aC_Unbacked | a0 | a1 | a2 | a3 | a4 | a5 | a6 | a7 | a8 | a9 | a10 | i10 | a11 | i11 | a12 | i12 | a13 | i13 | a14 | i14 | a15 | i15 | a16 | a17 | a18 | a19 | a20 | a21 | a22 | a23 | a24 | a25 => k_is)
    (case lm_Ring_happenings => refine' L2.lam_mk ?zqa ?zqb ?zqc ?zqd ?zqe; (case zqa => k_is); (case zqb => rfl); (case zqc => k_is); (case zqd => rfl); (case zqe => kernel_rfl))
    (case htl => rfl)
    (case l0 | l1 | l2 | l3 | l4 | l5 | l6 | l7 | l8 | l9 | l10 | l11 | l12 | l13 | l14 | l15 | l16 | l17 | l18 | l19 | l20 | l21 | l22 | l23 | l24 | l25 => refine' Rc.fl_mk ?l ?c ?k; (case l => k_is); (case c => k_is); (case k => k_is))
    (case em_BadTerms | kv_BadTerms | ki_BadTerms_BadAccount | ki_BadTerms_BadCover | ki_BadTerms_BadCrowns | ki_BadTerms_BadDay | ki_BadTerms_BadDeed | ki_BadTerms_BadHouses | ki_BadTerms_BadLines | ki_BadTerms_BadLosses | ki_BadTerms_BadTerms | ki_BadTerms_BadText | ki_BadTerms_Disagrees | ki_BadTerms_Endless | ki_BadTerms_Full | ki_BadTerms_NoCover | ki_BadTerms_NoHappening | ki_BadTerms_NoHouse | ki_BadTerms_NoLoss | ki_BadTerms_Nothing | ki_BadTerms_Same | ki_BadTerms_Short | ki_BadTerms_Unbacked | em_Full | kv_Full | ki_Full_BadAccount | ki_Full_BadCover | ki_Full_BadCrowns | ki_Full_BadDay | ki_Full_BadDeed | ki_Full_BadHouses | ki_Full_BadLines | ki_Full_BadLosses | ki_Full_BadTerms | ki_Full_BadText | ki_Full_Disagrees | ki_Full_Endless | ki_Full_Full | ki_Full_NoCover | ki_Full_NoHappening | ki_Full_NoHouse | ki_Full_NoLoss | ki_Full_Nothing | ki_Full_Same | ki_Full_Short | ki_Full_Unbacked => rfl)
    (case x_BadTerms | x_Full => kernel_rfl)
    (case ec_BadTerms | ec_Full => exact ⟨rfl, rfl, rfl, rfl, rfl, rfl, rfl, rfl⟩)
    (case v_LAST_DAY | v_LAST_HOUSE | v_LEAST_LINE | v_MOST_BILL | v_MOST_COVERS | v_MOST_LINE | v_MOST_PAIRS | v_MOST_WHOLE | pg_Ring | hd_Ring | po_Ring | sa_Ring | mk_Ring | kc_Ring | na_Ring_house_count | na_Ring_signed | na_Ring_day_of | na_Ring_loss_rows | na_Ring_next_happening | na_Ring_next_loss | na_Ring_paid_parts | na_Ring_told_closings | na_Ring_reckoning | z_ValueError | z_all | z_bool | z_int | z_isinstance | z_len | z_list | z_min | z_range | z_sorted | z_tuple | ga_BY_BOUNDS | gl_BY_BOUNDS | gt_BY_BOUNDS_0 | gt_BY_BOUNDS_1 | ga_THINGS | gl_THINGS => k_is)
    (case gz_BY_BOUNDS | gz_THINGS => rfl)
#print axioms PySem.Challenge.cw_ringcede_k40_terms_signed_holds
