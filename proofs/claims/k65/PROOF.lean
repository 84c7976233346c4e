import PyProof.Rows.All
import Wide.All
import OpenK.AllK
import Wide.FinOn
import Lean
import PyProof.EqAt
import PyProof.EqKinds
import PyProof.TupleCall
import PySem.Challenge.RW_ringcede_k65_two_tables_by_turns
set_option Elab.async false
set_option linter.all false
set_option maxRecDepth 100000
open PySem.W (Frag nsIn keepIn kitOne mg_of findIn fnOf mg_none_of)
namespace L2
open PySem PySem.Spec PyProof.Rows
abbrev Key:=Sum Int Str
def keyIs:Key→Value→Bool
  | .inl k,v=>Value.isInt k v
  | .inr x,v=>Value.isStrOf x v
def keyH (w:World):Key→Int
  | .inl k=>hashInt k
  | .inr x=>hashStr w x
theorem keyIs_shape:∀ {k:Key} {v:Value},keyIs k v=true→(∃ i t,k=Sum.inl i∧v=Value.int i t)∨(∃ x t,k=Sum.inr x∧v=Value.str x t)
  | .inl i,v,h=>by
    obtain ⟨t,e⟩:=Value.isInt_shape (k:=i) (v:=v) h
    exact .inl ⟨i,t,rfl,e⟩
  | .inr x,v,h=>by
    obtain ⟨t,e⟩:=Value.isStrOf_shape (x:=x) (v:=v) h
    exact .inr ⟨x,t,rfl,e⟩
theorem keyIs_int (i:Int) (t:Tok):keyIs (.inl i) (.int i t)=true:=by simp [keyIs,Value.isInt]
theorem keyIs_str (x:Str) (t:Tok):keyIs (.inr x) (.str x t)=true:=by simp [keyIs,Value.isStrOf]
theorem key_ll (a b:Int):decide ((Sum.inl a:Key)=Sum.inl b)=(a == b):=by
  by_cases e:a=b
  · subst e;simp
  · have h:¬ (Sum.inl a:Key)=Sum.inl b:=fun q=>e (Sum.inl.inj q)
    rw [decide_eq_false h]
    exact (beq_eq_false_iff_ne.mpr e).symm
theorem key_rr (a b:Str):decide ((Sum.inr a:Key)=Sum.inr b)=decide (a=b):=by
  by_cases e:a=b
  · subst e;simp
  · have h:¬ (Sum.inr a:Key)=Sum.inr b:=fun q=>e (Sum.inr.inj q)
    rw [decide_eq_false h,decide_eq_false e]
theorem key_lr (a:Int) (b:Str):decide ((Sum.inl a:Key)=Sum.inr b)=false:=decide_eq_false (fun q=>nomatch q)
theorem key_rl (a:Str) (b:Int):decide ((Sum.inr a:Key)=Sum.inl b)=false:=decide_eq_false (fun q=>nomatch q)
def mixKind (prog:Program) (w:World):PySem.KeyKind prog w Key where
  is:=keyIs
  hash:=keyH w
  inj:=fun v a b ha hb=>by
    rcases keyIs_shape ha with ⟨i,t,rfl,rfl⟩ | ⟨x,t,rfl,rfl⟩
    · rcases keyIs_shape hb with ⟨j,u,rfl,e⟩ | ⟨y,u,rfl,e⟩
      · injection e with e1 _;rw [e1]
      · exact nomatch e
    · rcases keyIs_shape hb with ⟨j,u,rfl,e⟩ | ⟨y,u,rfl,e⟩
      · exact nomatch e
      · injection e with e1 _;rw [e1]
  byValue:=fun k v h=>by
    rcases keyIs_shape h with ⟨i,t,rfl,rfl⟩ | ⟨x,t,rfl,rfl⟩ <;> rfl
  pyHash:=fun hv h=>by
    rcases keyIs_shape hv with ⟨i,t,rfl,rfl⟩ | ⟨x,t,rfl,rfl⟩
    · exact wpAny_pyHash_int h
    · exact wpAny_pyHash_str h
  eqBool:=fun hu hv h=>by
    rcases keyIs_shape hu with ⟨i,t,rfl,rfl⟩ | ⟨x,t,rfl,rfl⟩
    · rcases keyIs_shape hv with ⟨j,u,rfl,rfl⟩ | ⟨y,u,rfl,rfl⟩
      · rw [key_ll] at h;exact wpAny_eqBool_int h
      · rw [key_lr] at h;exact SeqAt.EqAt.int_str i t y u _ _ _ _ h
    · rcases keyIs_shape hv with ⟨j,u,rfl,rfl⟩ | ⟨y,u,rfl,rfl⟩
      · rw [key_rl] at h;exact SeqAt.EqAt.str_int x t j u _ _ _ _ h
      · rw [key_rr] at h;exact wpAny_eqBool_str h
  «strs»:=fun k x t v h=>by
    rcases keyIs_shape h with ⟨i,u,rfl,e⟩ | ⟨y,u,rfl,e⟩
    · exact nomatch e
    · injection e with e1 _
      subst e1
      cases v <;> rfl
theorem mixKind_int (prog:Program) (w:World) (i:Int) (t:Tok):(mixKind prog w).is (.inl i) (.int i t)=true:=keyIs_int i t
theorem mixKind_str (prog:Program) (w:World) (x:Str) (t:Tok):(mixKind prog w).is (.inr x) (.str x t)=true:=keyIs_str x t
end L2
namespace L2
open PySem PySem.Spec PyProof.Rows
inductive V where
  | non | bl (b:Bool) | int (i:Int) | str (x:Str) | byt (b:Array UInt8) | flt (b:UInt64) | ref (a:Addr) | ty (n:String)
  deriving DecidableEq
def RelV:V→Value→Prop
  | .non,u=>u=Value.none
  | .bl b,u=>u=Value.bool b
  | .int i,u=>∃ t,u=Value.int i t
  | .str x,u=>∃ t,u=Value.str x t
  | .byt b,u=>∃ t,u=Value.bytes b t
  | .flt b,u=>∃ t,u=Value.float b t
  | .ref a,u=>u=Value.ref a
  | .ty n,u=>u=Value.type n
abbrev Vals:List V→List Value→Prop:=Paired RelV
theorem Vals.length {xs:List V} {us:List Value} (r:Vals xs us):xs.length=us.length:=Paired.length r
theorem Vals.get:∀ {xs:List V} {us:List Value} {i:Nat} {x:V},Vals xs us→xs[i]? = some x→∃ u,us[i]? = some u∧RelV x u
  | _,_,_,_,.nil,e=>by simp at e
  | _,_,0,_,.cons r _,e=>by simp at e;subst e;exact ⟨_,rfl,r⟩
  | _,_,i+1,x,.cons _ t,e=>by
    obtain ⟨u,h1,h2⟩:=Vals.get (i:=i) (x:=x) t (by simpa using e)
    exact ⟨u,by simpa using h1,h2⟩
theorem Vals.set {x:V} {u:Value} (r:RelV x u):∀ {xs:List V} {us:List Value} (i:Nat),Vals xs us→Vals (xs.set i x) (us.set i u)
  | _,_,_,.nil=>.nil
  | _,_,0,.cons _ t=>.cons r t
  | _,_,i+1,.cons q t=>.cons q (Vals.set r i t)
theorem Vals.append:∀ {xs ys:List V} {us ws:List Value},Vals xs us→Vals ys ws→Vals (xs ++ ys) (us ++ ws)
  | _,_,_,_,.nil,s=>s
  | _,_,_,_,.cons r t,s=>.cons r (Vals.append t s)
theorem Vals.take:∀ {xs:List V} {us:List Value} (n:Nat),Vals xs us→Vals (xs.take n) (us.take n)
  | _,_,0,_=>.nil
  | _,_,_+1,.nil=>.nil
  | _,_,n+1,.cons r t=>.cons r (Vals.take n t)
theorem Vals.drop:∀ {xs:List V} {us:List Value} (n:Nat),Vals xs us→Vals (xs.drop n) (us.drop n)
  | _,_,0,r=>r
  | _,_,_+1,.nil=>.nil
  | _,_,n+1,.cons _ t=>Vals.drop n t
def RelO:Option V→Option Value→Prop
  | some v,some u=>RelV v u
  | none,none=>True
  | _,_=>False
def KV {κ:Type}:List (κ×V)→List (κ×Value)→Prop:=Paired fun (p:κ×V) (q:κ×Value)=>p.1=q.1∧RelV p.2 q.2
def kV:Key→V
  | .inl i=>.int i
  | .inr x=>.str x
inductive HO where
  | lst (xs:List V)
  | tup (xs:List V)
  | dK (kvs:List (Key×V)) | dT (kvs:List (List Key×V))
  | set (S:Int→Bool) (n:Nat)
  | ins (C dx:Addr) (fs:List (Str×V))
  | own (x:Addr)
  | xd (fs:List (Str×V))
  | met (f x:Addr)
  | rng (lo hi:Int)
  | frz (o:Obj) (u:HO)
  | tbl (ps:Array Value)
  | ext (φ:Heap→Prop)
abbrev Hp:=Addr→Option HO
def upd (H:Hp) (a:Addr) (o:HO):Hp:=fun b=>if b=a then some o else H b
theorem upd_same {H:Hp} {a:Addr} {o:HO}:upd H a o a=some o:=by unfold upd;rw [if_pos rfl]
theorem upd_ne {H:Hp} {a b:Addr} {o:HO} (h:b≠a):upd H a o b=H b:=by unfold upd;rw [if_neg h]
theorem upd_upd {H:Hp} {a:Addr} {o u:HO}:upd (upd H a o) a u=upd H a u:=by
  funext b;unfold upd;split <;> rfl
theorem ne_of {H:Hp} {a b:Addr} {o u:HO} (h:H a=some o) (h':H b=some u) (d:o≠u):a≠b:=by
  intro e;subst e;rw [h] at h';exact d (Option.some.inj h')
theorem ne_of_none {H:Hp} {a b:Addr} {o:HO} (h:H a=some o) (h':H b=none):a≠b:=by
  intro e;subst e;rw [h] at h';cases h'
section
variable (P:Program) (w:World)
def ObjOk (H:Hp) (h:Heap) (a:Addr):HO→Prop
  | .lst xs=>xs.length≤sizeLine∧∃ (its:List Value) (n:Nat),Vals xs its∧h.get? a=some { cls:=.type "list", data:=.seq its.toArray n }
  | .tup xs=>xs.length≤sizeLine∧∃ its:List Value,Vals xs its∧IsTup h a its.toArray
  | .dK kvs=>kvs.length≤sizeLine∧(a == sysModules)=false∧∃ vs,KV kvs vs∧h.DictOf (mixKind P w) a vs
  | .dT kvs=>kvs.length≤sizeLine∧(a == sysModules)=false∧∃ xs:List (List Key×Addr×Value),
      Paired (fun (p:List Key×V) (q:List Key×Addr×Value)=>p.1=q.1∧H q.2.1=some (.tup (p.1.map kV))∧RelV p.2 q.2.2) kvs xs∧
      ∃ o es ep,h.get? a=some o∧o.ExactDict∧o.data = .dict es ep∧es.toList=xs.map (entryOfKey (tupleKind (mixKind P w)))∧(xs.map (·.1)).Nodup
  | .set S n=>h.SetOf (intKind P w) a S n
  | .ins C dx fs=>H dx=some (.own a)∧fs.length≤1000∧dx≠a∧h.get? a=some (PySem.W.instObj C dx)∧
      ∃ mA,h.Ns1 dx mA∧(∀ f,RelO (fs.lookup f) (mA f))∧PySem.Within mA (fs.map (·.1))
  | .own _=>∃ o,h.get? a=some o
  | .xd fs=>∃ mA,h.Ns1 a mA∧∀ f,RelO (fs.lookup f) (mA f)
  | .rng lo hi=>∃ t u v,h.get? a=some { cls:=.type "range", data:=.fields #[.int lo t,.int hi u,.int 1 v] }
  | .frz o u=>h.get? a=some o∧ObjOk H h a u
  | .tbl ps=>h.get? a=some { cls:=.none,data:=.fields ps }
  | .met f x=>h.get? a=some (PySem.W.methodObj (.ref f) (.ref x))
  | .ext φ=>φ h∧(∃ o,h.get? a=some o)∧∀ h1 h2:Heap,φ h1→(∀ o,h1.get? a=some o→h2.get? a=some o)→φ h2
def HOk (H:Hp) (h:Heap):Prop:=∀ a o,H a=some o→ObjOk P w H h a o
end
section
variable {P:Program} {w:World} {H H':Hp} {h h':Heap} {a:Addr} {o:HO}
theorem ObjOk.lt (x:ObjOk P w H h a o):a < h.objs.size:=by
  cases o with
  | lst xs=>obtain ⟨_,_,_,_,e⟩:=x;exact Heap.lt_size e
  | tup xs=>obtain ⟨_,_,_,p⟩:=x;exact p.lt
  | dK kvs=>obtain ⟨_,_,_,_,o,_,_,e,_⟩:=x;exact Heap.lt_size e
  | dT kvs=>obtain ⟨_,_,_,_,o,_,_,e,_⟩:=x;exact Heap.lt_size e
  | set S n=>obtain ⟨o,_,_,_,e,_⟩:=x;exact Heap.lt_size e
  | ins C dx fs=>obtain ⟨_,_,_,e,_⟩:=x;exact Heap.lt_size e
  | own y=>obtain ⟨_,e⟩:=x;exact Heap.lt_size e
  | xd fs=>obtain ⟨_,⟨_,_,_,e,_⟩,_⟩:=x;exact Heap.lt_size e
  | rng lo hi=>obtain ⟨_,_,_,e⟩:=x;exact Heap.lt_size e
  | frz ob u=>obtain ⟨e,_⟩:=x;exact Heap.lt_size e
  | tbl ps=>exact Heap.lt_size (show h.get? a=some _ from x)
  | met f y=>exact Heap.lt_size (show h.get? a=some _ from x)
  | ext φ=>obtain ⟨_,⟨_,e⟩,_⟩:=x;exact Heap.lt_size e
theorem Paired.mapP {α β:Type} {F G:α→β→Prop}:∀ {l₁:List α} {l₂:List β},Paired F l₁ l₂→(∀ a b,F a b→G a b)→Paired G l₁ l₂
  | _,_,.nil,_=>.nil
  | _,_,.cons r t,f=>.cons (f _ _ r) (Paired.mapP t f)
theorem ObjOk.stay (x:ObjOk P w H h a o) (k:∀ b u,(b=a∨H b=some (.own a))→h.get? b=some u→h'.get? b=some u)
    (ho:∀ b,H b=some (.own a)→H' b=some (.own a)) (ht:∀ b xs,H b=some (.tup xs)→H' b=some (.tup xs)):ObjOk P w H' h' a o:=by
  induction o with
  | lst xs=>obtain ⟨z,its,n,r,e⟩:=x;exact ⟨z,its,n,r,k _ _ (.inl rfl) e⟩
  | tup xs=>obtain ⟨z,its,r,ob,e,c⟩:=x;exact ⟨z,its,r,ob,k _ _ (.inl rfl) e,c⟩
  | dK kvs=>obtain ⟨z,y,vs,r,ob,es,ep,e,c⟩:=x;exact ⟨z,y,vs,r,ob,es,ep,k _ _ (.inl rfl) e,c⟩
  | dT kvs=>
    obtain ⟨z,y,xs,r,ob,es,ep,e,c⟩:=x
    exact ⟨z,y,xs,Paired.mapP r fun p q z=>⟨z.1,ht _ _ z.2.1,z.2.2⟩,ob,es,ep,k _ _ (.inl rfl) e,c⟩
  | set S n=>obtain ⟨ob,es,ep,t,e,c⟩:=x;exact ⟨ob,es,ep,t,k _ _ (.inl rfl) e,c⟩
  | ins C dx fs=>
    obtain ⟨d,z,ne,e,mA,⟨od,es,ep,e2,c⟩,r⟩:=x
    exact ⟨ho _ d,z,ne,k _ _ (.inl rfl) e,mA,⟨od,es,ep,k _ _ (.inr d) e2,c⟩,r⟩
  | own y=>obtain ⟨ob,e⟩:=x;exact ⟨ob,k _ _ (.inl rfl) e⟩
  | xd fs=>obtain ⟨mA,⟨od,es,ep,e,c⟩,r⟩:=x;exact ⟨mA,⟨od,es,ep,k _ _ (.inl rfl) e,c⟩,r⟩
  | rng lo hi=>obtain ⟨t,u,v,e⟩:=x;exact ⟨t,u,v,k _ _ (.inl rfl) e⟩
  | frz ob u ih=>obtain ⟨e,q⟩:=x;exact ⟨k _ _ (.inl rfl) e,ih q⟩
  | tbl ps=>
    have e:h.get? a=some { cls:=.none,data:=.fields ps }:=x
    show h'.get? a=some { cls:=.none,data:=.fields ps }
    exact k a _ (.inl rfl) e
  | met f y=>
    have e:h.get? a=some (PySem.W.methodObj (.ref f) (.ref y)):=x
    show h'.get? a=some (PySem.W.methodObj (.ref f) (.ref y))
    exact k a _ (.inl rfl) e
  | ext φ=>obtain ⟨p,⟨o,e⟩,st⟩:=x;exact ⟨st _ _ p fun o q=>k _ _ (.inl rfl) q,⟨o,k _ _ (.inl rfl) e⟩,st⟩
theorem HOk.lt (x:HOk P w H h) (e:H a=some o):a < h.objs.size:=(x a o e).lt
theorem HOk.fresh (x:HOk P w H h) (e:h.objs.size≤a):H a=none:=by
  cases q:H a with
  | none=>rfl
  | some u=>exact absurd (Nat.lt_of_lt_of_le (x.lt q) e) (Nat.lt_irrefl _)
theorem HOk.kept (x:HOk P w H h) (k:∀ b u,h.get? b=some u→h'.get? b=some u):HOk P w H h':=fun a o e=>
  (x a o e).stay (fun b u _ q=>k b u q) (fun _ q=>q) fun _ _ q=>q
theorem HOk.laid (x:HOk P w H h) (k:∀ b u,h.get? b=some u→h'.get? b=some u) (hp:h.objs.size≤a) (new:ObjOk P w (upd H a o) h' a o):HOk P w (upd H a o) h':=fun b u e=>by
  have hn:=x.fresh hp
  by_cases hb:b=a
  · subst hb;rw [upd_same] at e;cases e;exact new
  · rw [upd_ne hb] at e
    exact (x b u e).stay (fun c v _ q=>k c v q) (fun c q=>by rw [upd_ne (ne_of_none q hn)];exact q) fun c xs q=>by rw [upd_ne (ne_of_none q hn)];exact q
end
def Rd (H:Hp) (a:Addr) (u:HO):Prop:=H a=some u∨∃ o,H a=some (.frz o u)
theorem Rd.ok {P:Program} {w:World} {H:Hp} {h:Heap} {a:Addr} {u:HO} (r:Rd H a u) (x:HOk P w H h):ObjOk P w H h a u:=by
  rcases r with r | ⟨o,r⟩
  · exact x a u r
  · obtain ⟨_,q⟩:=x a _ r
    exact q
def Mut:Option HO→Prop
  | some (.lst _)=>True
  | some (.dK _)=>True
  | some (.dT _)=>True
  | some (.set _ _)=>True
  | some (.ins _ _ _)=>True
  | some (.ext _)=>True
  | _=>False
section
variable {P:Program} {w:World} {H:Hp} {h h':Heap} {x e:Addr} {o':HO}
theorem HOk.write (ok:HOk P w H h) (mu:Mut (H x)) (he:e=x∨H e=some (.own x)) (k:∀ b u,b≠e→h.get? b=some u→h'.get? b=some u) (heo:∃ u,h'.get? e=some u)
    (new:ObjOk P w (upd H x o') h' x o'):HOk P w (upd H x o') h':=fun b u q=>by
  have nown:∀ c y,H c=some (.own y)→c≠x:=fun c y r z=>by subst z;rw [r] at mu;exact mu
  have ntup:∀ c xs,H c=some (.tup xs)→c≠x:=fun c xs r z=>by subst z;rw [r] at mu;exact mu
  by_cases hb:b=x
  · subst hb;rw [upd_same] at q;cases q;exact new
  · rw [upd_ne hb] at q
    by_cases hbe:b=e
    · have q':H b=some (.own x):=by
        rcases he with z | z
        · exact absurd (hbe.trans z) hb
        · rw [hbe];exact z
      rw [q] at q';cases q'
      obtain ⟨v,hv⟩:=heo
      exact ⟨v,by rw [hbe];exact hv⟩
    · refine (ok b u q).stay (fun c v hc r=>k c v ?_ r) (fun c r=>by rw [upd_ne (nown c b r)];exact r) fun c xs r=>by rw [upd_ne (ntup c xs r)];exact r
      rcases hc with rfl | hc
      · exact hbe
      · rintro rfl
        rcases he with z | z
        · exact nown c b hc z
        · rw [hc] at z;cases z;exact hb rfl
end
structure Un (fs ex:List Addr) (H H':Hp) (h h':Heap):Prop where
  keep:∀ b o,h.get? b=some o→H b=none→b∉fs→b∉ex→h'.get? b=some o
  slot:∀ b o,h.get? b=some o→H b=none→b∈fs→b∉ex→∃ sl,h'.get? b=some { o with slots:=sl }
  free:∀ b o,h.get? b=some o→H b=none→b∉ex→H' b=none
  there:∀ b o,h.get? b=some o→b∉ex→∃ o',h'.get? b=some o'
  tups:∀ b xs,H b=some (.tup xs)→H' b=some (.tup xs)
  frzs:∀ b o u,H b=some (.frz o u)→H' b=some (.frz o u)
  tbls:∀ b ps,H b=some (.tbl ps)→∃ more,H' b=some (.tbl (ps ++ more))
section
variable {fs fs' ex ex':List Addr} {H H1 H2:Hp} {h h1 h2 h':Heap} {a x e:Addr} {o:HO}
theorem Un.any (u:Un fs ex H H1 h h1) {b:Addr} {ob:Obj} (q:h.get? b=some ob) (n:H b=none) (hx:b∉ex):∃ sl,h1.get? b=some { ob with slots:=sl }:=by
  by_cases hb:b∈fs
  · exact u.slot b ob q n hb hx
  · exact ⟨ob.slots,u.keep b ob q n hb hx⟩
theorem Un.kept (k:∀ b u,h.get? b=some u→h'.get? b=some u):Un fs ex H H h h':=
  ⟨fun b ob q _ _ _=>k b ob q,fun b ob q _ _ _=>⟨ob.slots,k b ob q⟩,fun _ _ _ n _=>n,fun b ob q _=>⟨ob,k b ob q⟩,fun _ _ q=>q,fun _ _ _ q=>q,fun _ ps q=>⟨#[],by rw [q];simp⟩⟩
theorem Un.refl:Un fs ex H H h h:=Un.kept fun _ _ q=>q
theorem Un.laid (k:∀ b u,h.get? b=some u→h'.get? b=some u) (hp:h.objs.size≤a) (hn:H a=none):Un fs ex H (upd H a o) h h' where
  keep:=fun b u q _ _ _=>k b u q
  slot:=fun b u q _ _ _=>⟨u.slots,k b u q⟩
  free:=fun b u q n _=>by rw [upd_ne (Nat.ne_of_lt (Nat.lt_of_lt_of_le (Heap.lt_size q) hp))];exact n
  there:=fun b u q _=>⟨u,k b u q⟩
  tups:=fun b xs q=>by rw [upd_ne (ne_of_none q hn)];exact q
  frzs:=fun b u xs q=>by rw [upd_ne (ne_of_none q hn)];exact q
  tbls:=fun b ps q=>⟨#[],by rw [upd_ne (ne_of_none q hn),q];simp⟩
theorem Un.write (mu:Mut (H x)) (he:e=x∨H e=some (.own x)) (k:∀ b u,b≠e→h.get? b=some u→h'.get? b=some u) (heo:∃ u,h'.get? e=some u):Un fs ex H (upd H x o) h h':=by
  have hx:∀ b,H b=none→b≠x:=fun b n z=>by subst z;rw [n] at mu;exact mu
  have hb:∀ b,H b=none→b≠e:=fun b n z=>by
    subst z
    rcases he with r | r
    · exact hx b n r
    · rw [n] at r;cases r
  have hm:∀ b u,H b=some u→¬ Mut (some u)→b≠x:=fun b u q nm z=>by subst z;rw [q] at mu;exact nm mu
  refine ⟨fun b u q n _ _=>k b u (hb b n) q,fun b u q n _ _=>⟨u.slots,k b u (hb b n) q⟩,fun b u q n _=>by rw [upd_ne (hx b n)];exact n,fun b u q _=>?_,
    fun b xs q=>by rw [upd_ne (hm b _ q fun z=>z)];exact q,fun b u xs q=>by rw [upd_ne (hm b _ q fun z=>z)];exact q,fun b ps q=>⟨#[],by rw [upd_ne (hm b _ q fun z=>z),q];simp⟩⟩
  by_cases hbe:b=e
  · subst hbe;exact heo
  · exact ⟨u,k b u hbe q⟩
end
def trk (h:Heap) (H:Hp):List Addr:=(List.range h.objs.size).filter fun a=>(H a).isSome
def hidT (h:Heap) (H:Hp):Heap:=PySem.W.hideAll h (trk h H)
theorem hidT_size (h:Heap) (H:Hp):(hidT h H).objs.size=h.objs.size:=PySem.W.hideAll_size _ _
theorem hidT_get {h:Heap} {H:Hp} {b:Addr} {o:Obj} (e:h.get? b=some o) (n:H b=none):(hidT h H).get? b=some o:=
  PySem.W.hideAll_get _ e fun hm=>by
    have q:(H b).isSome=true:=(List.mem_filter.mp hm).2
    rw [n] at q;simp at q
theorem of_hidT {h:Heap} {H:Hp} {b:Addr} {o:Obj} (e:(hidT h H).get? b=some o):h.get? b=some o∧H b=none:=by
  have e':h.get? b=some o:=PySem.W.of_hideAll (trk h H) e
  refine ⟨e',?_⟩
  cases q:H b with
  | none=>rfl
  | some x=>
    have hm:b∈trk h H:=List.mem_filter.mpr ⟨List.mem_range.mpr (Heap.lt_size e'),by simp [q]⟩
    have z:(hidT h H).get? b=none:=PySem.W.hideAll_none (trk h H) hm
    rw [z] at e;cases e
end L2
namespace L2
open PySem PySem.Spec PyProof.Rows
structure Mod (K:Frag) (mg:Str→Option Value) (base:Heap):Prop where
  kin:K.In base
  glob:base.Ns mainGlobals mg
  blt:∃ mb,base.Ns builtinsNs mb∧∀ x:Str,x ≠ "__name__" → mb x=bootBuiltins x
  nolimit:base.NoLimit
structure Cx where
  prog:Program
  w:World
  K:Frag
  mg:Str→Option Value
  base:Heap
  A:Around
  N:List Str
  s₀:Shared
  H₀:Hp
  env:Env
  outer:List Env
  stack:List Env
  ex:List Addr
  fn:Str→Bool
  calm:Bool
  pn:List (Addr×Obj)
  xe:Value→Shared→Prop
def frs (l:List Env):List Addr:=l.filterMap (·.frame)
abbrev Cx.fs (X:Cx):List Addr:=frs X.outer
def Vis (sc:Scope) (x:Str):Prop:=sc.names.lookup x=some .local∨sc.names.lookup x=some .cell∨sc.names.lookup x=some .free
def Loc (sc:Scope) (x:Str):Prop:=sc.names.lookup x=some .local∨sc.names.lookup x=some .cell
def Look (env:Env) (h:Heap) (m:Str→Option Value) (x:Str) (u:Value):Prop:=
  (env.kindOf x=some .local∧m x=some u)∨((env.kindOf x=some .cell∨env.kindOf x=some .free)∧∃ c,env.cells.lookup x=some c∧h.IsCell c (some u))
structure Cx.Ok (X:Cx):Prop where
  mod:Mod X.K X.mg X.base
  kind:X.env.scope.kind = .function
  glob:X.env.globals=mainGlobals
  blt:X.env.builtins=builtinsNs
  above:X.s₀.heap.objs.size≤X.env.locals
  inj:∀ x y c,X.env.cells.lookup x=some c→X.env.cells.lookup y=some c→x=y
  has:∀ x,(X.env.kindOf x=some .cell∨X.env.kindOf x=some .free)→∃ c,X.env.cells.lookup x=some c
  cab:∀ x c,X.fn x=true→X.env.cells.lookup x=some c→X.s₀.heap.objs.size≤c
  hd:X.calm=true→X.A.handled=none
  frames:X.A.frames=some X.stack
  stk:X.stack=X.outer∨(X.stack=X.env :: X.outer∧X.env.frame=some X.env.locals)
  exf:∀ b∈X.ex,b≠X.env.locals∧∀ x c,X.env.cells.lookup x=some c→c≠b
  bs:∀ b o,X.base.get? b=some o→X.s₀.heap.get? b=some o∧X.H₀ b=none
  bsz:X.base.objs.size≤X.s₀.heap.objs.size
  noex:∀ b o,X.base.get? b=some o→b∉X.ex
  exfs:∀ b∈X.ex,b∉X.fs
  funs:X.s₀.heap.FunFrames X.base X.outer
  frf:∀ b∈X.fs,X.H₀ b=none
structure Inv (X:Cx) (pins:List (Addr×Obj)) (σ:List (Option V)) (H:Hp) (s:Shared):Prop where
  ok:X.Ok
  os:s.os=X.s₀.os
  bare:AllBare s.gens
  base:Un X.fs X.ex X.H₀ H X.s₀.heap s.heap
  loc:∃ m,s.heap.Ns X.env.locals m∧∀ (i:Nat) (x:Str) (v:V),X.N[i]? = some x→σ[i]? = some (some v)→Vis X.env.scope x→∃ u,RelV v u∧Look X.env s.heap m x u
  cell:∀ x c,X.env.cells.lookup x=some c→∃ v,s.heap.IsCell c v
  free:H X.env.locals=none
  freeC:∀ x c,X.env.cells.lookup x=some c→H c=none
  pin:∀ p∈X.pn ++ pins,s.heap.get? p.1=some p.2∧H p.1=none∧p.1≠X.env.locals∧p.1∉X.fs∧∀ v,p.2.data≠.cell v
  hok:HOk X.prog X.w H s.heap
  len:σ.length=X.N.length
section
variable {X:Cx} {pins:List (Addr×Obj)} {σ:List (Option V)} {H H':Hp} {s:Shared} {h':Heap}
theorem Cx.Ok.nofr (ok:X.Ok) {b:Addr} {o:Obj} (e:X.base.get? b=some o):b∉X.fs:=fun hb=>by
  have:=(ok.funs.mem hb).1
  rw [e] at this;cases this
theorem Inv.bs (I:Inv X pins σ H s):∀ b o,X.base.get? b=some o→s.heap.get? b=some o∧H b=none:=fun b o e=>
  ⟨I.base.keep b o (I.ok.bs b o e).1 (I.ok.bs b o e).2 (I.ok.nofr e) (I.ok.noex b o e),I.base.free b o (I.ok.bs b o e).1 (I.ok.bs b o e).2 (I.ok.noex b o e)⟩
theorem Inv.bk (I:Inv X pins σ H s):∀ b o,X.base.get? b=some o→s.heap.get? b=some o:=fun b o e=>(I.bs b o e).1
theorem Inv.mod (I:Inv X pins σ H s):Mod X.K X.mg X.base:=I.ok.mod
theorem Inv.kIn (I:Inv X pins σ H s):X.K.In s.heap:=I.ok.mod.kin.keeps I.bk
theorem Inv.lt (I:Inv X pins σ H s):X.env.locals < s.heap.objs.size:=let ⟨_,hn,_⟩:=I.loc;hn.lt
theorem Inv.sz (I:Inv X pins σ H s):X.s₀.heap.objs.size≤s.heap.objs.size:=Nat.le_trans I.ok.above (Nat.le_of_lt I.lt)
theorem Inv.nofs (I:Inv X pins σ H s) {a:Addr} (h:s.heap.objs.size≤a):a∉X.fs:=fun hb=>by
  obtain ⟨_,o,ho,_⟩:=I.ok.funs.mem hb
  exact absurd (Nat.lt_of_lt_of_le (Heap.lt_size ho) (Nat.le_trans I.sz h)) (Nat.lt_irrefl _)
theorem Inv.cne (I:Inv X pins σ H s):∀ x c,X.env.cells.lookup x=some c→c≠X.env.locals:=fun x c e z=>by
  obtain ⟨v,o,ho,hd⟩:=I.cell x c e
  obtain ⟨m,⟨o',es,ep,ho',hd',_⟩,_⟩:=I.loc
  rw [z,ho'] at ho;cases ho;rw [hd'] at hd;cases hd
theorem Inv.funs (I:Inv X pins σ H s):s.heap.FunFrames X.base X.outer:=by
  have all:∀ (l:List Env),(∀ b∈frs l,b∈X.fs)→X.s₀.heap.FunFrames X.base l→s.heap.FunFrames X.base l:=by
    intro l
    induction l with
    | nil=>intro _ _;trivial
    | cons env r ih=>
      intro hs hl
      obtain ⟨hk,⟨L,o,hf,hn,ho,hd⟩,hr⟩:=hl
      have hL:L∈X.fs:=hs L (by unfold frs;rw [List.filterMap_cons,hf];exact List.mem_cons_self)
      obtain ⟨sl,e⟩:=I.base.slot L o ho (I.ok.frf L hL) hL fun z=>I.ok.exfs L z hL
      exact ⟨hk,⟨L,_,hf,hn,e,hd⟩,ih (fun b hb=>hs b (by unfold frs;rw [List.filterMap_cons,hf];exact List.mem_cons_of_mem _ hb)) hr⟩
  exact all X.outer (fun _ hb=>hb) I.ok.funs
theorem Inv.stack (I:Inv X pins σ H s):s.heap.FunFrames X.base X.stack:=by
  rcases I.ok.stk with e | ⟨e,hf⟩
  · rw [e];exact I.funs
  · rw [e]
    obtain ⟨m,hn,_⟩:=I.loc
    refine .cons (by rw [I.ok.kind];decide) hf hn ?_ I.funs
    exact Heap.get?_none_of_le (Nat.le_trans I.ok.bsz I.ok.above)
theorem Inv.stkSub (I:Inv X pins σ H s):∀ b∈frs X.stack,b∈X.env.locals :: X.fs:=fun b hb=>by
  rcases I.ok.stk with e | ⟨e,hf⟩
  · rw [e] at hb;exact List.mem_cons_of_mem _ hb
  · rw [e] at hb
    unfold frs at hb
    rw [List.filterMap_cons,hf] at hb
    exact hb
theorem Inv.stkFree (I:Inv X pins σ H s):∀ b∈frs X.stack,H b=none:=fun b hb=>by
  rcases List.mem_cons.mp (I.stkSub b hb) with e | hb
  · rw [e];exact I.free
  · obtain ⟨_,o,ho,_⟩:=I.ok.funs.mem hb
    exact I.base.free b o ho (I.ok.frf b hb) fun z=>I.ok.exfs b z hb
theorem Inv.step {g':Array GenState} {t':Nat} {d':Drawn} {ch:List Addr} (I:Inv X pins σ H s)
    (hch:∀ b∈ch,(b∈X.ex∨X.s₀.heap.objs.size≤b)∧b≠X.env.locals∧(∀ x c,X.env.cells.lookup x=some c→c≠b)∧∀ p∈X.pn ++ pins,p.1≠b)
    (keep:∀ b o,b≠X.env.locals→b∉X.fs→b∉ch→s.heap.get? b=some o→H b=none→h'.get? b=some o)
    (slot:∀ b o,b≠X.env.locals→b∈X.fs→b∉ch→s.heap.get? b=some o→H b=none→∃ sl,h'.get? b=some { o with slots:=sl }) (free:∀ b o,b∉ch→s.heap.get? b=some o→H b=none→H' b=none)
    (there:∀ b o,b∉ch→s.heap.get? b=some o→∃ o',h'.get? b=some o')
    (tups:∀ b xs,H b=some (.tup xs)→H' b=some (.tup xs)) (frzs:∀ b o u,H b=some (.frz o u)→H' b=some (.frz o u)) (tbls:∀ b ps,H b=some (.tbl ps)→∃ more,H' b=some (.tbl (ps ++ more)))
    (ns:∀ m,s.heap.Ns X.env.locals m→h'.Ns X.env.locals m) (hok:HOk X.prog X.w H' h') (hg:AllBare g') :
    Inv X pins σ H' { s with heap:=h',gens:=g',drawn:=d',toks:=t' }:=by
  have neL:∀ b o,X.s₀.heap.get? b=some o→b≠X.env.locals:=fun b o e=>Nat.ne_of_lt (Nat.lt_of_lt_of_le (Heap.lt_size e) I.ok.above)
  have neC:∀ b o,X.s₀.heap.get? b=some o→b∉X.ex→b∉ch:=fun b o e hx hb=>by
    rcases (hch b hb).1 with z | z
    · exact hx z
    · exact absurd (Nat.lt_of_lt_of_le (Heap.lt_size e) z) (Nat.lt_irrefl _)
  have cellK:∀ x c,X.env.cells.lookup x=some c→∀ v,s.heap.IsCell c v→h'.IsCell c v:=fun x c e v ⟨o,ho,hd⟩=>by
    have nch:c∉ch:=fun z=>(hch c z).2.2.1 x c e rfl
    by_cases hc:c∈X.fs
    · obtain ⟨sl,q⟩:=slot c o (I.cne x c e) hc nch ho (I.freeC x c e)
      exact ⟨_,q,hd⟩
    · exact ⟨o,keep c o (I.cne x c e) hc nch ho (I.freeC x c e),hd⟩
  refine ⟨I.ok,I.os,hg,⟨fun b o e n hb hx=>?_,fun b o e n hb hx=>?_,fun b o e n hx=>?_,fun b o e hx=>?_,fun b xs e=>tups b xs (I.base.tups b xs e),fun b o xs e=>frzs b o xs (I.base.frzs b o xs e),fun b ps e=>?_⟩,?_,fun x c e=>?_,?_,fun x c e=>?_,fun p hp=>?_,hok,I.len⟩
  · exact keep b o (neL b o e) hb (neC b o e hx) (I.base.keep b o e n hb hx) (I.base.free b o e n hx)
  · obtain ⟨sl,e1⟩:=I.base.slot b o e n hb hx
    obtain ⟨sl',e2⟩:=slot b _ (neL b o e) hb (neC b o e hx) e1 (I.base.free b o e n hx)
    exact ⟨sl',e2⟩
  · obtain ⟨o',e1⟩:=I.base.there b o e hx
    exact free b o' (neC b o e hx) e1 (I.base.free b o e n hx)
  · obtain ⟨o',e1⟩:=I.base.there b o e hx
    exact there b o' (neC b o e hx) e1
  · obtain ⟨m1,e1⟩:=I.base.tbls b ps e
    obtain ⟨m2,e2⟩:=tbls b _ e1
    exact ⟨m1 ++ m2,by rw [e2,Array.append_assoc]⟩
  · obtain ⟨m,hn,hl⟩:=I.loc
    refine ⟨m,ns m hn,fun i x v e1 e2 e3=>?_⟩
    obtain ⟨u,r,l⟩:=hl i x v e1 e2 e3
    refine ⟨u,r,?_⟩
    rcases l with l | ⟨k,c,e,z⟩
    · exact .inl l
    · exact .inr ⟨k,c,e,cellK x c e _ z⟩
  · obtain ⟨v,z⟩:=I.cell x c e
    exact ⟨v,cellK x c e v z⟩
  · obtain ⟨m,⟨o,_,_,ho,_⟩,_⟩:=I.loc
    exact free _ o (fun z=>(hch _ z).2.1 rfl) ho I.free
  · obtain ⟨v,o,ho,hd⟩:=I.cell x c e
    exact free c o (fun z=>(hch c z).2.2.1 x c e rfl) ho (I.freeC x c e)
  · obtain ⟨e,n,ne,nf,d⟩:=I.pin p hp
    have nch:p.1∉ch:=fun z=>(hch p.1 z).2.2.2 p hp rfl
    exact ⟨keep p.1 p.2 ne nf nch e n,free p.1 p.2 nch e n,ne,nf,d⟩
theorem Inv.un {t':Nat} (I:Inv X pins σ H s) (u:Un X.fs [] H H' s.heap h') (hok:HOk X.prog X.w H' h'):Inv X pins σ H' { s with heap:=h',toks:=t' }:=by
  obtain ⟨m,⟨o,es,ep,ho,r⟩,_⟩:=id I.loc
  obtain ⟨sl,hL⟩:=u.any ho I.free (by simp)
  exact I.step (g':=s.gens) (d':=s.drawn) (ch:=[]) (fun _ z=>nomatch z) (fun b o _ hb _ e n=>u.keep b o e n hb (by simp)) (fun b o _ hb _ e n=>u.slot b o e n hb (by simp)) (fun b o _ e n=>u.free b o e n (by simp)) (fun b o _ e=>u.there b o e (by simp)) u.tups u.frzs u.tbls (fun m' hm=>by
    obtain ⟨o',es',ep',ho',r'⟩:=hm
    rw [ho] at ho';cases ho'
    exact ⟨_,es',ep',hL,r'⟩) hok I.bare
theorem Inv.call {g':Array GenState} {t':Nat} {d':Drawn} {ch:List Addr} (I:Inv X pins σ H s) (u:Un (frs X.stack) ch H H' s.heap h') (hok:HOk X.prog X.w H' h') (hg:AllBare g')
    (hch:∀ b∈ch,(b∈X.ex∨X.s₀.heap.objs.size≤b)∧b≠X.env.locals∧(∀ x c,X.env.cells.lookup x=some c→c≠b)∧∀ p∈X.pn ++ pins,p.1≠b) :
    Inv X pins σ H' { s with heap:=h',gens:=g',drawn:=d',toks:=t' }:=by
  obtain ⟨m,⟨o,es,ep,ho,r⟩,_⟩:=id I.loc
  obtain ⟨sl,hL⟩:=u.any ho I.free fun z=>(hch _ z).2.1 rfl
  exact I.step (ch:=ch) hch (fun b o hL hb hc e n=>u.keep b o e n (fun z=>(List.mem_cons.mp (I.stkSub b z)).elim hL hb) hc) (fun b o _ _ hc e n=>u.any e n hc) (fun b o hc e n=>u.free b o e n hc) (fun b o hc e=>u.there b o e hc) u.tups u.frzs u.tbls (fun m' hm=>by
    obtain ⟨o',es',ep',ho',r'⟩:=hm
    rw [ho] at ho';cases ho'
    exact ⟨_,es',ep',hL,r'⟩) hok hg
theorem Inv.turned {t':Nat} {it:Addr} (I:Inv X pins σ H s) (k:∀ b o,b≠it→s.heap.get? b=some o→h'.get? b=some o) (hn:H it=none) (hL:it≠X.env.locals)
    (h1:it∈X.ex∨X.s₀.heap.objs.size≤it) (h2:∀ x c,X.env.cells.lookup x=some c→c≠it) (h3:∀ p∈X.pn ++ pins,p.1≠it):Inv X pins σ H { s with heap:=h',toks:=t' }:=by
  have nit:∀ b u,H b=some u→b≠it:=fun b u e z=>by rw [z,hn] at e;cases e
  refine I.step (g':=s.gens) (d':=s.drawn) (ch:=[it]) (fun b hb=>?_) (fun b o _ _ hc e _=>k b o (fun z=>hc (by simp [z])) e) (fun b o _ _ hc e _=>⟨o.slots,k b o (fun z=>hc (by simp [z])) e⟩) (fun _ _ _ _ n=>n)
    (fun b o hc e=>⟨o,k b o (fun z=>hc (by simp [z])) e⟩) (fun _ _ e=>e) (fun _ _ _ e=>e) (fun b ps e=>⟨#[],by rw [e];simp⟩) (fun m hm=>?_) (fun b u e=>?_) I.bare
  · have e:b=it:=by simpa using hb
    subst e
    exact ⟨h1,hL,h2,h3⟩
  · obtain ⟨o,es,ep,ho,r⟩:=hm
    exact ⟨o,es,ep,k _ o (Ne.symm hL) ho,r⟩
  · refine (I.hok b u e).stay (fun c v hc q=>k c v ?_ q) (fun _ q=>q) fun _ _ q=>q
    rcases hc with z | z
    · rw [z];exact nit b u e
    · exact nit c _ z
theorem Inv.tok (I:Inv X pins σ H s) (t:Nat):Inv X pins σ H { s with toks:=t }:=I.un (h':=s.heap) (t':=t) Un.refl I.hok
theorem Inv.kept {t':Nat} (I:Inv X pins σ H s) (k:∀ b u,s.heap.get? b=some u→h'.get? b=some u):Inv X pins σ H { s with heap:=h',toks:=t' }:=I.un (Un.kept k) (I.hok.kept k)
theorem Inv.laid {a:Addr} {o:HO} {t':Nat} (I:Inv X pins σ H s) (k:∀ b u,s.heap.get? b=some u→h'.get? b=some u) (hp:s.heap.objs.size≤a) (new:ObjOk X.prog X.w (upd H a o) h' a o) :
    Inv X pins σ (upd H a o) { s with heap:=h',toks:=t' }:=I.un (Un.laid k hp (I.hok.fresh hp)) (I.hok.laid k hp new)
theorem Inv.write {x e:Addr} {o:HO} {t':Nat} (I:Inv X pins σ H s) (mu:Mut (H x)) (he:e=x∨H e=some (.own x)) (k:∀ b u,b≠e→s.heap.get? b=some u→h'.get? b=some u) (heo:∃ u,h'.get? e=some u)
    (new:ObjOk X.prog X.w (upd H x o) h' x o):Inv X pins σ (upd H x o) { s with heap:=h',toks:=t' }:=I.un (Un.write mu he k heo) (I.hok.write mu he k heo new)
theorem Inv.pins_of {pins':List (Addr×Obj)} (I:Inv X pins σ H s) (h:∀ p∈pins',s.heap.get? p.1=some p.2∧H p.1=none∧p.1≠X.env.locals∧p.1∉X.fs∧∀ v,p.2.data≠.cell v):Inv X pins' σ H s:=
  ⟨I.ok,I.os,I.bare,I.base,I.loc,I.cell,I.free,I.freeC,fun p hp=>(List.mem_append.mp hp).elim (fun z=>I.pin p (List.mem_append_left _ z)) (h p),I.hok,I.len⟩
theorem nodup_ix {N:List Str} (hN:N.Nodup) {i j:Nat} {x:Str} (a:N[i]? = some x) (b:N[j]? = some x):i=j:=by
  obtain ⟨h1,e1⟩:=List.getElem?_eq_some_iff.mp a
  obtain ⟨h2,e2⟩:=List.getElem?_eq_some_iff.mp b
  exact (List.getElem_inj hN).mp (e1.trans e2.symm)
theorem store_ok2 {M:Model} {A:Around} {E:Value→Shared→Prop} {i:Nat} {x:Str} {v:V} {u:Value} {Q:Unit→Shared→Prop} (I:Inv X pins σ H s) (hN:X.N.Nodup) (hi:X.N[i]? = some x) (hx:Loc X.env.scope x) (r:RelV v u)
    (h:∀ s',Inv X pins (σ.set i (some v)) H s'→(∃ a,Heap.SameBut a s.heap s'.heap∧(a=X.env.locals∨X.env.cells.lookup x=some a))→Q () s') (hf:X.fn x=true∨X.env.scope.names.lookup x=some .local:=by first | exact .inl rfl | exact .inr rfl | assumption):wpAny M A (storeName X.env x u) Q E s:=by
  obtain ⟨m,hn,hl⟩:=id I.loc
  have hcls:(X.env.scope.kind == .class || (X.env.scope.kind == .module && X.env.locals != X.env.globals))=false:=by rw [I.ok.kind];rfl
  have hiσ:i < σ.length:=by rw [I.len];exact (List.getElem?_eq_some_iff.mp hi).1
  have cne:=I.cne
  have tracked:∀ {a:Addr} {h':Heap},(∃ o,s.heap.get? a=some o∧H a=none)→Heap.SameBut a s.heap h'→HOk X.prog X.w H h':=fun {a h'} ha hs b ob e=>by
    obtain ⟨_,_,hfree⟩:=ha
    refine (I.hok b ob e).stay (fun c w' hc q=>(hs.2 c ?_).trans q) (fun _ q=>q) fun _ _ q=>q
    rintro rfl
    rcases hc with rfl | hc
    · rw [hfree] at e;cases e
    · rw [hfree] at hc;cases hc
  rcases hx with hk | hk
  · refine wpAny_storeName_local hk hn (fun h' hn' hs=>?_) hcls
    obtain ⟨oL,_,_,hoL,_⟩:=id hn
    refine h _ ⟨I.ok,I.os,I.bare,⟨fun b o e n hb hx=>?_,fun b o e n hb hx=>?_,I.base.free,fun b o e hx=>?_,I.base.tups,I.base.frzs,I.base.tbls⟩,⟨_,hn',fun j y v' e1 e2 e3=>?_⟩,fun y c e=>?_,I.free,I.freeC,fun p hp=>?_,tracked ⟨oL,hoL,I.free⟩ hs,by simpa using I.len⟩ ⟨_,hs,.inl rfl⟩
    · exact (hs.2 b (Nat.ne_of_lt (Nat.lt_of_lt_of_le (Heap.lt_size e) I.ok.above))).trans (I.base.keep b o e n hb hx)
    · obtain ⟨sl,e1⟩:=I.base.slot b o e n hb hx
      exact ⟨sl,(hs.2 b (Nat.ne_of_lt (Nat.lt_of_lt_of_le (Heap.lt_size e) I.ok.above))).trans e1⟩
    · obtain ⟨o',e1⟩:=I.base.there b o e hx
      exact ⟨o',(hs.2 b (Nat.ne_of_lt (Nat.lt_of_lt_of_le (Heap.lt_size e) I.ok.above))).trans e1⟩
    · by_cases hj:j=i
      · subst hj
        rw [hi] at e1;cases e1
        rw [List.getElem?_set_self hiσ] at e2
        cases e2
        exact ⟨u,r,.inl ⟨hk,by simp⟩⟩
      · rw [List.getElem?_set_ne (Ne.symm hj)] at e2
        obtain ⟨u',r',q⟩:=hl j y v' e1 e2 e3
        refine ⟨u',r',?_⟩
        rcases q with ⟨k,e⟩ | ⟨k,c,e,z⟩
        · refine .inl ⟨k,?_⟩
          have:y≠x:=fun e=>hj (nodup_ix hN e1 (e ▸ hi))
          simp [this,e]
        · exact .inr ⟨k,c,e,z.sameBut hs (cne y c e)⟩
    · obtain ⟨w',z⟩:=I.cell y c e
      exact ⟨w',z.sameBut hs (cne y c e)⟩
    · obtain ⟨e,n,ne,nf,d⟩:=I.pin p hp
      exact ⟨(hs.2 p.1 ne).trans e,n,ne,nf,d⟩
  · have hfn:X.fn x=true:=by
      rcases hf with z | z
      · exact z
      · rw [z] at hk;cases hk
    obtain ⟨c,hc⟩:=I.ok.has x (.inl hk)
    obtain ⟨w',z⟩:=I.cell x c hc
    refine wpAny_storeName_cell I.ok.kind hk hc z (fun h' hc' hs=>?_)
    obtain ⟨oc,hoc,hocd⟩:=id z
    refine h { s with heap:=h' } ⟨I.ok,I.os,I.bare,⟨fun b o e n hb hx=>?_,fun b o e n hb hx=>?_,I.base.free,fun b o e hx=>?_,I.base.tups,I.base.frzs,I.base.tbls⟩,⟨m,hn.sameBut hs (Ne.symm (cne x c hc)),fun j y v' e1 e2 e3=>?_⟩,fun y c' e=>?_,I.free,I.freeC,fun p hp=>?_,tracked ⟨oc,hoc,I.freeC x c hc⟩ hs,by simpa using I.len⟩ ⟨c,hs,.inr hc⟩
    · exact (hs.2 b (Nat.ne_of_lt (Nat.lt_of_lt_of_le (Heap.lt_size e) (I.ok.cab x c hfn hc)))).trans (I.base.keep b o e n hb hx)
    · obtain ⟨sl,e1⟩:=I.base.slot b o e n hb hx
      exact ⟨sl,(hs.2 b (Nat.ne_of_lt (Nat.lt_of_lt_of_le (Heap.lt_size e) (I.ok.cab x c hfn hc)))).trans e1⟩
    · obtain ⟨o',e1⟩:=I.base.there b o e hx
      exact ⟨o',(hs.2 b (Nat.ne_of_lt (Nat.lt_of_lt_of_le (Heap.lt_size e) (I.ok.cab x c hfn hc)))).trans e1⟩
    · by_cases hj:j=i
      · subst hj
        rw [hi] at e1;cases e1
        rw [List.getElem?_set_self hiσ] at e2
        cases e2
        exact ⟨u,r,.inr ⟨.inl hk,c,hc,hc'⟩⟩
      · rw [List.getElem?_set_ne (Ne.symm hj)] at e2
        obtain ⟨u',r',q⟩:=hl j y v' e1 e2 e3
        refine ⟨u',r',?_⟩
        rcases q with q | ⟨k,c',e,z'⟩
        · exact .inl q
        · refine .inr ⟨k,c',e,z'.sameBut hs ?_⟩
          rintro rfl
          exact hj (nodup_ix hN e1 (I.ok.inj _ _ _ e hc ▸ hi))
    · by_cases hcc:c'=c
      · subst hcc;exact ⟨_,hc'⟩
      · obtain ⟨w2,z2⟩:=I.cell y c' e
        exact ⟨w2,z2.sameBut hs hcc⟩
    · obtain ⟨e,n,ne,nf,d⟩:=I.pin p hp
      refine ⟨(hs.2 p.1 ?_).trans e,n,ne,nf,d⟩
      intro q
      rw [q,hoc] at e
      have q':oc=p.2:=Option.some.inj e
      exact d w' (by rw [← q'];exact hocd)
theorem store_ok {M:Model} {A:Around} {E:Value→Shared→Prop} {i:Nat} {x:Str} {v:V} {u:Value} {Q:Unit→Shared→Prop} (I:Inv X pins σ H s) (hN:X.N.Nodup) (hi:X.N[i]? = some x) (hx:Loc X.env.scope x) (r:RelV v u)
    (h:∀ s',Inv X pins (σ.set i (some v)) H s'→Q () s') (hf:X.fn x=true∨X.env.scope.names.lookup x=some .local:=by first | exact .inl rfl | exact .inr rfl | assumption):wpAny M A (storeName X.env x u) Q E s:=
  store_ok2 I hN hi hx r (fun s' I' _=>h s' I') hf
theorem Inv.call' {s':Shared} {ch:List Addr} (I:Inv X pins σ H s) (ho:s'.os=s.os) (u:Un (frs X.stack) ch H H' s.heap s'.heap) (hok:HOk X.prog X.w H' s'.heap) (hg:AllBare s'.gens)
    (hch:∀ b∈ch,(b∈X.ex∨X.s₀.heap.objs.size≤b)∧b≠X.env.locals∧(∀ x c,X.env.cells.lookup x=some c→c≠b)∧∀ p∈X.pn ++ pins,p.1≠b):Inv X pins σ H' s':=by
  obtain ⟨h',g',d',t',o'⟩:=s'
  have e:o'=s.os:=ho
  subst e
  exact I.call (g':=g') (t':=t') (d':=d') u hok hg hch
end
abbrev XK:=Value→Option Addr→Hp→Prop
abbrev St:=List (Option V)
abbrev VK:=V→Hp→Prop
abbrev TE:=St→Hp→VK→Prop
abbrev TT:=St→Hp→(Bool→Hp→Prop)→Prop
abbrev TA:=St→Hp→(List V→Hp→Prop)→Prop
structure Ends where
  nx:St→Hp→Prop
  rt:VK
  bk:St→Hp→Prop:=fun _ _=>False
  ct:St→Hp→Prop:=fun _ _=>False
abbrev TS:=Ends→St→Hp→Prop
def EP (X:Cx) (pins:List (Addr×Obj)) (σ:St) (Q:VK) (u:Value) (s':Shared):Prop:=∃ v H',Inv X pins σ H' s'∧RelV v u∧Q v H'
def TP (X:Cx) (pins:List (Addr×Obj)) (σ:St) (Q:Bool→Hp→Prop) (b:Bool) (s':Shared):Prop:=∃ H',Inv X pins σ H' s'∧Q b H'
def AP (X:Cx) (pins:List (Addr×Obj)) (σ:St) (Q:List V→Hp→Prop) (us:List Value) (s':Shared):Prop:=∃ vs H',Inv X pins σ H' s'∧Vals vs us∧Q vs H'
def SP (X:Cx) (pins:List (Addr×Obj)) (D:Ends) (f:Flow) (s':Shared):Prop:=
  match f with
  | .next=>∃ σ' H',Inv X pins σ' H' s'∧D.nx σ' H'
  | .brk=>∃ σ' H',Inv X pins σ' H' s'∧D.bk σ' H'
  | .cont=>∃ σ' H',Inv X pins σ' H' s'∧D.ct σ' H'
  | .ret u=>∃ v σ' H',Inv X pins σ' H' s'∧RelV v u∧D.rt v H'
def PE (X:Cx) (e:Expr) (t:TE):Prop:=
  ∀ (pins:List (Addr×Obj)) (s:Shared) (σ:St) (H:Hp) (Q:VK),Inv X pins σ H s→t σ H Q→wpAny (model X.prog X.w) X.A (eval e X.env) (EP X pins σ Q) X.xe s
def PT (X:Cx) (e:Expr) (t:TT):Prop:=
  ∀ (pins:List (Addr×Obj)) (s:Shared) (σ:St) (H:Hp) (Q:Bool→Hp→Prop),Inv X pins σ H s→t σ H Q→wpAny (model X.prog X.w) X.A (isTrue e X.env (eval e X.env)) (TP X pins σ Q) X.xe s
def PW (X:Cx) (e:Expr) (t:TT):Prop:=
  ∀ (whole:Sem Value) (pins:List (Addr×Obj)) (s:Shared) (σ:St) (H:Hp) (Q:Bool→Hp→Prop),Inv X pins σ H s→t σ H Q→wpAny (model X.prog X.w) X.A (isTrue e X.env whole) (TP X pins σ Q) X.xe s
theorem PW.pt {X:Cx} {e:Expr} {t:TT} (h:PW X e t):PT X e t:=h _
def PA (X:Cx) (es:List Expr) (t:TA):Prop:=
  ∀ (pos:Pos) (pins:List (Addr×Obj)) (s:Shared) (σ:St) (H:Hp) (Q:List V→Hp→Prop),Inv X pins σ H s→t σ H Q→wpAny (model X.prog X.w) X.A (spliced (backTo pos (starEach es X.env))) (AP X pins σ Q) X.xe s
def PS (X:Cx) (st:Stmt) (t:TS):Prop:=
  ∀ (pins:List (Addr×Obj)) (s:Shared) (σ:St) (H:Hp) (D:Ends),Inv X pins σ H s→t D σ H→wpAny (model X.prog X.w) X.A (exec st X.env) (SP X pins D) X.xe s
def PSs (X:Cx) (st:List Stmt) (t:TS):Prop:=
  ∀ (pins:List (Addr×Obj)) (s:Shared) (σ:St) (H:Hp) (D:Ends),Inv X pins σ H s→t D σ H→wpAny (model X.prog X.w) X.A (execs st X.env) (SP X pins D) X.xe s
theorem thn {α:Type} {t:Sem α} {Q Q':α→Shared→Prop} {M:Model} {A:Around} {E:Value→Shared→Prop} {s:Shared} (h:wpAny M A t Q E s) (hQ:∀ a s,Q a s→Q' a s):wpAny M A t Q' E s:=wpAny_mono h hQ fun _ _ x=>x
end L2
namespace L2
open PySem PySem.Spec PyProof.Rows
section
variable {X:Cx}
def tVar (i:Nat):TE:=fun σ H Q=>∃ v,σ[i]? = some (some v)∧Q v H
def tC (v:V):TE:=fun _ H Q=>Q v H
theorem pe_var {i:Nat} {x:Str} {pos:Pos} (hN:X.N[i]? = some x) (hv:Vis X.env.scope x) (hd:(x == ("__debug__" : Str))=false:=by decide) (hcd:(x == ("__classdict__" : Str))=false:=by decide):PE X (.Name x pos) (tVar i):=by
  intro pins s σ H Q I h
  obtain ⟨v,e,h⟩:=h
  obtain ⟨m,hn,hl⟩:=I.loc
  obtain ⟨u,r,l⟩:=hl i x v hN e hv
  have fin:EP X pins σ Q u s:=⟨v,H,I,r,h⟩
  rcases l with ⟨hk,hm⟩ | ⟨hk,c,hc,hcell⟩
  · exact wpAny_Name (wpAny_loadName_local I.ok.kind hk hn hm fin) hd
  · rcases hk with hk | hk
    · exact wpAny_Name (wpAny_loadName_cell I.ok.kind hk hc hcell fin) hd
    · exact wpAny_Name (wpAny_loadName_free I.ok.kind hk hc hcell fin hcd) hd
theorem pe_int {i j pos}:PE X (.Constant (.int i) j pos) (tC (.int i)):=fun _ _ _ H _ I h=>wpAny_Constant_int ⟨.int i,H,I.tok _,⟨_,rfl⟩,h⟩
theorem pe_bl {b j pos}:PE X (.Constant (.bool b) j pos) (tC (.bl b)):=fun _ _ _ H _ I h=>Constant_bool ⟨.bl b,H,I,rfl,h⟩
theorem pe_non {j pos}:PE X (.Constant .none j pos) (tC .non):=fun _ _ _ H _ I h=>Constant_none ⟨.non,H,I,rfl,h⟩
theorem pe_str {x j pos}:PE X (.Constant (.str x) j pos) (tC (.str x)):=fun _ _ _ H _ I h=>Calls.Constant_str ⟨.str x,H,I.tok _,⟨_,rfl⟩,h⟩
def Gl (X:Cx) (x:Str):Prop:=X.env.kindOf x=some .globalImplicit
theorem ld_glob {E:Value→Shared→Prop} {pins:List (Addr×Obj)} {s:Shared} {σ:St} {H:Hp} {x:Str} {u:Value} {pos:Pos} {Q:Value→Shared→Prop} (I:Inv X pins σ H s) (hg:Gl X x) (hm:X.mg x=some u) (h:Q u s)
    (hd:(x == ("__debug__" : Str))=false:=by decide):wpAny (model X.prog X.w) X.A (eval (.Name x pos) X.env) Q E s:=
  Calls.Name_function_global I.ok.kind hg (Calls.loadGlobal_global (by rw [I.ok.glob];exact I.mod.glob.keeps I.bk) hm h) hd
theorem ld_blt {E:Value→Shared→Prop} {pins:List (Addr×Obj)} {s:Shared} {σ:St} {H:Hp} {x:Str} {u:Value} {pos:Pos} {Q:Value→Shared→Prop} (I:Inv X pins σ H s) (hg:Gl X x) (hm:X.mg x=none) (hv:bootBuiltins x=some u) (h:Q u s)
    (hn:x ≠ "__name__" := by decide) (hd:(x == ("__debug__" : Str))=false:=by decide):wpAny (model X.prog X.w) X.A (eval (.Name x pos) X.env) Q E s:=by
  obtain ⟨mb,h1,h2⟩:=I.mod.blt
  exact Calls.Name_function_global I.ok.kind hg (Calls.loadGlobal_builtin (by rw [I.ok.glob];exact I.mod.glob.keeps I.bk) hm (by rw [I.ok.blt];exact h1.keeps I.bk) ((h2 x hn).trans hv) h) hd
theorem pe_glob {x:Str} {v:V} {u:Value} {pos:Pos} (hg:Gl X x) (hm:X.mg x=some u) (r:RelV v u) (hd:(x == ("__debug__" : Str))=false:=by decide):PE X (.Name x pos) (tC v):=
  fun _ _ _ H _ I h=>ld_glob I hg hm ⟨v,H,I,r,h⟩ hd
variable {a b:Expr} {ta tb:TE} {pos:Pos}
variable {tA tB':TT} {rest:List Expr}
def tAnd (t u:TT):TT:=fun σ H Q=>t σ H fun c H1=>if c=true then u σ H1 Q else Q false H1
def tOr (t u:TT):TT:=fun σ H Q=>t σ H fun c H1=>if c=true then Q true H1 else u σ H1 Q
def tNot (t:TT):TT:=fun σ H Q=>t σ H fun c H1=>Q (!c) H1
theorem pw_and1 (ha:PT X a tA):PW X (.BoolOp .And [a] pos) tA:=by
  intro wh pins s σ H Q I h
  refine isTrue_and (thn (ha pins s σ H Q I h) fun c s1 e=>?_)
  cases c with
  | true=>exact isTrue_and_nil e
  | false=>exact e
theorem pw_or1 (ha:PT X a tA):PW X (.BoolOp .Or [a] pos) tA:=by
  intro wh pins s σ H Q I h
  refine isTrue_or (thn (ha pins s σ H Q I h) fun c s1 e=>?_)
  cases c with
  | false=>exact isTrue_or_nil e
  | true=>exact e
theorem pw_and (ha:PT X a tA) (hb:PW X (.BoolOp .And (b :: rest) pos) tB'):PW X (.BoolOp .And (a :: b :: rest) pos) (tAnd tA tB'):=by
  intro wh pins s σ H Q I h
  refine isTrue_and (thn (ha pins s σ H _ I h) fun c s1 ⟨H1,I1,q1⟩=>?_)
  cases c with
  | true=>exact hb wh pins s1 σ H1 Q I1 q1
  | false=>exact ⟨H1,I1,q1⟩
theorem pw_or (ha:PT X a tA) (hb:PW X (.BoolOp .Or (b :: rest) pos) tB'):PW X (.BoolOp .Or (a :: b :: rest) pos) (tOr tA tB'):=by
  intro wh pins s σ H Q I h
  refine isTrue_or (thn (ha pins s σ H _ I h) fun c s1 ⟨H1,I1,q1⟩=>?_)
  cases c with
  | true=>exact ⟨H1,I1,q1⟩
  | false=>exact hb wh pins s1 σ H1 Q I1 q1
theorem pt_not (ha:PT X a tA):PT X (.UnaryOp .Not a pos) (tNot tA):=by
  intro pins s σ H Q I h
  exact isTrue_not (ha pins s σ H (fun c H1=>Q (!c) H1) I h)
def tAndV (ta tb:TE):TE:=fun σ H Q=>ta σ H fun x H1=>∃ c,x = .bl c∧if c=true then tb σ H1 Q else Q (.bl false) H1
theorem pe_one {op} {t:TE} (h:PE X a t):PE X (.BoolOp op [a] pos) t:=fun pins s σ H Q I hw=>BoolOp_one (h pins s σ H Q I hw)
theorem pe_and (ha:PE X a ta) (hb:PE X (.BoolOp .And (b :: rest) pos) tb):PE X (.BoolOp .And (a :: b :: rest) pos) (tAndV ta tb):=by
  intro pins s σ H Q I h
  refine BoolOp_and (thn (ha pins s σ H _ I h) fun v s1 ⟨x,H1,I1,r1,q1⟩=>?_)
  obtain ⟨c,rfl,q1⟩:=q1
  cases r1
  refine wpAny_truthy_bool ?_
  cases c with
  | true=>exact hb pins s1 σ H1 Q I1 q1
  | false=>exact ⟨.bl false,H1,I1,rfl,q1⟩
end
end L2
namespace L2
open PySem PySem.Spec PyProof.Rows
def SqL (K:Frag) (H:Hp) (a:Addr) (xs:List V):Prop:=
  Rd H a (.lst xs)∨
    ∃ (o:Obj) (its:Array Value) (n:Nat),K.lookup a=some o∧o.cls = .type "list" ∧ o.dict=none∧o.data = .seq its n∧its.size≤sizeLine∧Vals xs its.toList
def SqT (K:Frag) (H:Hp) (a:Addr) (xs:List V):Prop:=
  Rd H a (.tup xs)∨
    ∃ (o:Obj) (its:Array Value) (n:Nat),K.lookup a=some o∧o.cls = .type "tuple" ∧ o.data = .seq its n∧its.size≤sizeLine∧Vals xs its.toList
def absV:Value→Option V
  | .none=>some .non
  | .bool b=>some (.bl b)
  | .int i _=>some (.int i)
  | .str x _=>some (.str x)
  | .bytes b _=>some (.byt b)
  | .float b _=>some (.flt b)
  | .ref a=>some (.ref a)
  | .type n=>some (.ty n)
  | _=>none
theorem RelV.abs {x:V} {u:Value} (r:RelV x u):absV u=some x:=by
  cases x with
  | non=>cases r;rfl
  | bl _=>cases r;rfl
  | int _=>obtain ⟨t,rfl⟩:=r;rfl
  | str _=>obtain ⟨t,rfl⟩:=r;rfl
  | byt _=>obtain ⟨t,rfl⟩:=r;rfl
  | flt _=>obtain ⟨t,rfl⟩:=r;rfl
  | ref _=>cases r;rfl
  | ty _=>cases r;rfl
theorem RelV.inj {x y:V} {u:Value} (r:RelV x u) (q:RelV y u):x=y:=Option.some.inj (r.abs.symm.trans q.abs)
theorem Vals.inj:∀ {xs ys:List V} {us:List Value},Vals xs us→Vals ys us→xs=ys
  | _,_,_,.nil,.nil=>rfl
  | _,_,_,.cons r t,.cons r' t'=>by rw [r.inj r',Vals.inj t t']
section
variable {X:Cx} {pins:List (Addr×Obj)} {σ:St} {H:Hp} {s:Shared} {a:Addr} {xs ys:List V}
theorem SqL.of {K:Frag} (h:H a=some (.lst xs)):SqL K H a xs:=.inl (.inl h)
theorem SqT.of {K:Frag} (h:H a=some (.tup xs)):SqT K H a xs:=.inl (.inl h)
theorem Inv.list (I:Inv X pins σ H s) (h:SqL X.K H a xs):∃ its:List Value,Vals xs its∧PlainL s.heap a its.toArray∧xs.length≤sizeLine:=by
  rcases h with h | ⟨o,its,n,hk,hc,hd,hs,hz,r⟩
  · obtain ⟨z,its,n,r,e⟩:=h.ok I.hok
    exact ⟨its,r,⟨_,n,e,rfl,rfl,rfl⟩,z⟩
  · refine ⟨its.toList,r,⟨o,n,I.kIn a o hk,hc,hd,by simpa using hs⟩,?_⟩
    have e:=r.length
    simp only [Array.length_toList] at e
    omega
theorem Inv.tuple (I:Inv X pins σ H s) (h:SqT X.K H a xs):∃ its:List Value,Vals xs its∧IsTup s.heap a its.toArray∧xs.length≤sizeLine:=by
  rcases h with h | ⟨o,its,n,hk,hc,hs,hz,r⟩
  · obtain ⟨z,its,r,p⟩:=h.ok I.hok
    exact ⟨its,r,p,z⟩
  · refine ⟨its.toList,r,⟨o,I.kIn a o hk,hc,n,by simpa using hs⟩,?_⟩
    have e:=r.length
    simp only [Array.length_toList] at e
    omega
theorem Inv.list_inj (I:Inv X pins σ H s) (h:SqL X.K H a xs) (h':SqL X.K H a ys):xs=ys:=by
  obtain ⟨its,r,⟨o,n,e,_,_,d⟩,_⟩:=I.list h
  obtain ⟨its',r',⟨o',n',e',_,_,d'⟩,_⟩:=I.list h'
  rw [e] at e';cases e'
  rw [d] at d'
  injection d' with d1 _
  have:its=its':=by simpa using congrArg Array.toList d1
  subst this
  exact r.inj r'
theorem Inv.tuple_inj (I:Inv X pins σ H s) (h:SqT X.K H a xs) (h':SqT X.K H a ys):xs=ys:=by
  obtain ⟨its,r,⟨o,e,_,n,d⟩,_⟩:=I.tuple h
  obtain ⟨its',r',⟨o',e',_,n',d'⟩,_⟩:=I.tuple h'
  rw [e] at e';cases e'
  rw [d] at d'
  injection d' with d1 _
  have:its=its':=by simpa using congrArg Array.toList d1
  subst this
  exact r.inj r'
end
abbrev Cx.wish (X:Cx) (E:Value→Shared→Prop):Cx:={ X with xe:=E }
abbrev Cx.nox (X:Cx):Cx:=X.wish fun _ _=>False
theorem Cx.Ok.wish {X:Cx} (ok:X.Ok) (E:Value→Shared→Prop):(X.wish E).Ok:=
  ⟨ok.mod,ok.kind,ok.glob,ok.blt,ok.above,ok.inj,ok.has,ok.cab,ok.hd,ok.frames,ok.stk,ok.exf,ok.bs,ok.bsz,ok.noex,ok.exfs,ok.funs,ok.frf⟩
theorem Cx.Ok.unwish {X:Cx} {E:Value→Shared→Prop} (ok:(X.wish E).Ok):X.Ok:=
  ⟨ok.mod,ok.kind,ok.glob,ok.blt,ok.above,ok.inj,ok.has,ok.cab,ok.hd,ok.frames,ok.stk,ok.exf,ok.bs,ok.bsz,ok.noex,ok.exfs,ok.funs,ok.frf⟩
section
variable {X:Cx} {pins:List (Addr×Obj)} {σ:St} {H:Hp} {s:Shared} {E:Value→Shared→Prop}
theorem Inv.wish (I:Inv X pins σ H s) (E:Value→Shared→Prop):Inv (X.wish E) pins σ H s:=⟨I.ok.wish E,I.os,I.bare,I.base,I.loc,I.cell,I.free,I.freeC,I.pin,I.hok,I.len⟩
theorem Inv.unwish (I:Inv (X.wish E) pins σ H s):Inv X pins σ H s:=⟨I.ok.unwish,I.os,I.bare,I.base,I.loc,I.cell,I.free,I.freeC,I.pin,I.hok,I.len⟩
theorem SP.unwish {D:Ends} {f:Flow} {s':Shared} (h:SP (X.wish E) pins D f s'):SP X pins D f s':=by
  cases f with
  | next=>obtain ⟨σ',H',I,q⟩:=h;exact ⟨σ',H',I.unwish,q⟩
  | brk=>obtain ⟨σ',H',I,q⟩:=h;exact ⟨σ',H',I.unwish,q⟩
  | cont=>obtain ⟨σ',H',I,q⟩:=h;exact ⟨σ',H',I.unwish,q⟩
  | ret u=>obtain ⟨v,σ',H',I,r,q⟩:=h;exact ⟨v,σ',H',I.unwish,r,q⟩
theorem PSs.nox {st:List Stmt} {t:TS} (h:PSs X.nox st t):PSs X st t:=fun pins s σ H D I hw=>
  wpAny_mono (h pins s σ H D (I.wish _) hw) (fun _ _ q=>q.unwish) fun _ _ z=>False.elim z
end
section
variable {X:Cx} {st:Stmt} {rest:List Stmt} {t u:TS} {e:Expr} {te:TE} {pos:Pos}
def tNext:TS:=fun D σ H=>D.nx σ H
def tSeq (t u:TS):TS:=fun D σ H=>t { D with nx:=u D } σ H
theorem pss_nil:PSs X [] tNext:=fun _ _ σ H _ I h=>wpAny_execs_nil ⟨σ,H,I,h⟩
theorem pss_cons (h1:PS X st t) (h2:PSs X rest u):PSs X (st :: rest) (tSeq t u):=by
  intro pins s σ H D I h
  refine wpAny_execs_cons (thn (h1 pins s σ H { D with nx:=u D } I h) fun f s1 q=>?_)
  cases f with
  | next=>
    obtain ⟨σ',H',I',q⟩:=q
    exact h2 pins s1 σ' H' D I' q
  | ret v=>exact q
  | brk=>exact q
  | cont=>exact q
theorem pss_one (h1:PS X st t):PSs X [st] t:=by
  intro pins s σ H D I h
  refine wpAny_execs_cons (thn (h1 pins s σ H D I h) fun f s1 q=>?_)
  cases f with
  | next=>exact wpAny_execs_nil q
  | ret v=>exact q
  | brk=>exact q
  | cont=>exact q
theorem Inv.quiet {pins:List (Addr×Obj)} {σ:St} {H:Hp} {s:Shared} (I:Inv X pins σ H s):interactive X.env=false:=by simp [interactive,I.ok.kind]
def tDrop (te:TE):TS:=fun D σ H=>te σ H fun _ H1=>D.nx σ H1
theorem ps_expr (he:PE X e te) (hs:swapsWith e none pos.line X.env=pure false:=by rfl):PS X (.Expr e pos) (tDrop te):=by
  intro pins s σ H D I h
  exact wpAny_Expr_any (thn (he pins s σ H _ I h) fun v s1 ⟨x,H1,I1,r1,q1⟩=>⟨σ,H1,I1,q1⟩) I.quiet hs
def tRet (te:TE):TS:=fun D σ H=>te σ H D.rt
theorem ps_ret (he:PE X e te):PS X (.Return (some e) pos) (tRet te):=by
  intro pins s σ H D I h
  exact wpAny_Return_some (thn (he pins s σ H _ I h) fun v s1 ⟨x,H1,I1,r1,q1⟩=>⟨x,σ,H1,I1,r1,q1⟩)
def tIfS (c:TT) (t u:TS):TS:=fun D σ H=>c σ H fun b H1=>if b=true then t D σ H1 else u D σ H1
theorem ps_if {c:Expr} {a b:List Stmt} {tc:TT} (hc:PT X c tc) (ha:PSs X a t) (hb:PSs X b u):PS X (.If c a b pos) (tIfS tc t u):=by
  intro pins s σ H D I h
  refine wpAny_If (thn (hc pins s σ H _ I h) fun d s1 ⟨H1,I1,q1⟩=>?_)
  cases d with
  | true=>exact ha pins s1 σ H1 D I1 q1
  | false=>exact hb pins s1 σ H1 D I1 q1
def tNever:TS:=fun _ _ _=>False
theorem ps_never:PS X st tNever:=fun _ _ _ _ _ _ h=>h.elim
end
abbrev TG:=V→St→Hp→(St→Hp→Prop)→Prop
abbrev TGs:=List V→St→Hp→(St→Hp→Prop)→Prop
def PG (X:Cx) (target:Expr) (t:TG):Prop:=
  ∀ (pins:List (Addr×Obj)) (s:Shared) (σ:St) (H:Hp) (v:V) (u:Value) (Q:St→Hp→Prop),Inv X pins σ H s→RelV v u→t v σ H Q→
    wpAny (model X.prog X.w) X.A (assign target X.env u) (fun _ s'=>∃ σ' H',Inv X pins σ' H' s'∧Q σ' H') X.xe s
def PGs (X:Cx) (ts:List Expr) (t:TGs):Prop:=
  ∀ (pins:List (Addr×Obj)) (s:Shared) (σ:St) (H:Hp) (vs:List V) (us:List Value) (Q:St→Hp→Prop),Inv X pins σ H s→Vals vs us→t vs σ H Q→
    wpAny (model X.prog X.w) X.A (assignInOrder ((assignEach ts X.env).map (·.2)) us) (fun _ s'=>∃ σ' H',Inv X pins σ' H' s'∧Q σ' H') X.xe s
abbrev TSet:=V→V→V→Hp→(Hp→Prop)→Prop
def PSet (X:Cx) (t:TSet):Prop:=
  ∀ (pins:List (Addr×Obj)) (s:Shared) (σ:St) (H:Hp) (o i v:V) (ov iv u:Value) (Q:Hp→Prop),Inv X pins σ H s→RelV o ov→RelV i iv→RelV v u→t o i v H Q→
    wpAny (model X.prog X.w) X.A (setItem ov iv u) (fun _ s'=>∃ H',Inv X pins σ H' s'∧Q H') X.xe s
abbrev TIp:=V→V→Hp→VK→Prop
def PIp (X:Cx) (op:Operator) (t:TIp):Prop:=
  ∀ (pins:List (Addr×Obj)) (s:Shared) (σ:St) (H:Hp) (x y:V) (v u:Value) (Q:VK),Inv X pins σ H s→RelV x v→RelV y u→t x y H Q→
    wpAny (model X.prog X.w) X.A (inplaceOp op v u) (EP X pins σ Q) X.xe s
section
variable {X:Cx} {pos:Pos}
def gName (i:Nat):TG:=fun v σ H Q=>Q (σ.set i (some v)) H
theorem pg_name {i:Nat} {x:Str} (hN:X.N.Nodup) (hi:X.N[i]? = some x) (hx:Loc X.env.scope x) (hf:X.fn x=true∨X.env.scope.names.lookup x=some .local:=by first | exact .inl rfl | exact .inr rfl | assumption):PG X (.Name x pos) (gName i):=by
  intro pins s σ H v u Q I r h
  exact wpAny_assign_Name (store_ok I hN hi hx r (fun s' I'=>⟨_,H,I',h⟩) hf)
def gNil:TGs:=fun vs σ H Q=>vs=[]∧Q σ H
def gCons (t:TG) (u:TGs):TGs:=fun vs σ H Q=>∃ v r,vs=v :: r∧t v σ H fun σ' H'=>u r σ' H' Q
theorem pgs_nil:PGs X [] gNil:=by
  intro pins s σ H vs us Q I r h
  obtain ⟨e,h⟩:=h
  subst e
  cases r
  exact assignInOrder_nil ⟨σ,H,I,h⟩
theorem pgs_cons {e:Expr} {es:List Expr} {t:TG} {u:TGs} (h1:PG X e t) (h2:PGs X es u)
    (hs:(assignEach (e :: es) X.env).map (·.2)=assign e X.env :: (assignEach es X.env).map (·.2):=by rfl):PGs X (e :: es) (gCons t u):=by
  intro pins s σ H vs us Q I r h
  obtain ⟨v,vr,e1,h⟩:=h
  subst e1
  cases r with
  | cons r rr=>
    rw [hs]
    refine assignInOrder_cons (thn (h1 pins s σ H _ _ _ I r h) fun _ s1 ⟨σ1,H1,I1,q1⟩=>?_)
    exact h2 pins s1 σ1 H1 _ _ Q I1 rr q1
def gTup (K:Frag) (n:Nat) (t:TGs):TG:=fun v σ H Q=>∃ a xs,v = .ref a∧SqT K H a xs∧xs.length=n∧t xs σ H Q
theorem pg_tup {es:List Expr} {k:Nat} {t:TGs} {n:Nat} (hc:X.calm=true) (h:PGs X es t)
    (hn:(assignEach es X.env).length=n:=by rfl) (hst:(assignEach es X.env).findIdx? (·.1)=none:=by rfl):PG X (.Tuple es k pos) (gTup X.K n t):=by
  intro pins s σ H v u Q I r hw
  obtain ⟨a,xs,e1,hq,hl,hw⟩:=hw
  subst e1
  cases r
  obtain ⟨its,rv,ht,hz⟩:=I.tuple hq
  refine assign_Tuple_tuple (I.ok.hd hc) ht (by simp [hn,← hl,rv.length]) hst fun h' hx=>?_
  have I1:Inv X pins σ H { s with heap:=h' }:=I.kept (t':=s.toks) fun b o e=>hx b o (Nat.ne_of_lt (Heap.lt_size e)) e
  exact h pins _ σ H xs _ Q I1 (by simpa using rv) hw
def gSub (to ti:TE) (t:TSet):TG:=fun v σ H Q=>to σ H fun o H1=>ti σ H1 fun i H2=>t o i v H2 fun H3=>Q σ H3
theorem pg_sub {o i:Expr} {to ti:TE} {t:TSet} (ho:PE X o to) (hi:PE X i ti) (hs:PSet X t)
    (ha:∀ v,assign (.Subscript o i pos) X.env v=(do
      let ov ← holding [v] (eval o X.env)
      let iv ← holding [v,ov] (eval i X.env)
      standAt pos
      holding [v,ov,iv] (setItem ov iv v)
      release [v,ov,iv] []):=by intro _;rfl):PG X (.Subscript o i pos) (gSub to ti t):=by
  intro pins s σ H v u Q I r h
  rw [ha]
  refine wpAny_bind (wpAny_holding (thn (ho pins s σ H _ I h) fun ov s1 ⟨x,H1,I1,r1,q1⟩=>?_))
  refine wpAny_bind (wpAny_holding (thn (hi pins s1 σ H1 _ I1 q1) fun iv s2 ⟨y,H2,I2,r2,q2⟩=>?_))
  refine wpAny_bind (wpAny_standAt (wpAny_bind (wpAny_holding (thn (hs pins s2 σ H2 x y v ov iv u _ I2 r1 r2 r q2) fun _ s3 ⟨H3,I3,q3⟩=>?_))))
  exact wpAny_release ⟨σ,H3,I3,q3⟩
def tAsg (te:TE) (g:TG):TS:=fun D σ H=>te σ H fun x H1=>g x σ H1 D.nx
theorem ps_asg {tg e:Expr} {te:TE} {g:TG} (he:PE X e te) (hg:PG X tg g) (hs:swapsWithSole [tg] e pos.line X.env=pure false:=by rfl) (hw:swappedStores [tg] e X.env=pure none:=by rfl)
    (h1:(assignEach [tg] X.env).map (·.2)=[assign tg X.env]:=by rfl):PS X (.Assign [tg] e pos) (tAsg te g):=by
  intro pins s σ H D I h
  refine wpAny_Assign_stores (thn (he pins s σ H _ I h) fun v s1 ⟨x,H1,I1,r1,q1⟩=>?_) hs hw
  rw [h1]
  exact thn (hg pins s1 σ H1 x v _ I1 r1 q1) fun _ s2 q=>q
theorem ps_set {i:Nat} {x:Str} {e:Expr} {te:TE} {pos':Pos} (hN:X.N.Nodup) (hi:X.N[i]? = some x) (hx:Loc X.env.scope x) (he:PE X e te) (hs:swapsWith e (some (.Name x pos')) pos.line X.env=pure false:=by rfl) (hf:X.fn x=true∨X.env.scope.names.lookup x=some .local:=by first | exact .inl rfl | exact .inr rfl | assumption) :
    PS X (.Assign [.Name x pos'] e pos) (tAsg te (gName i)):=by
  intro pins s σ H D I h
  refine wpAny_Assign_Name (thn (he pins s σ H _ I h) fun v s1 ⟨y,H1,I1,r1,q1⟩=>?_) hs
  exact store_ok I1 hN hi hx r1 (fun s2 I2=>⟨_,H1,I2,q1⟩) hf
def tAugS (to ti te:TE) (tget:V→V→Hp→VK→Prop) (tip:TIp) (tset:TSet):TS:=fun D σ H=>to σ H fun o H1=>ti σ H1 fun i H2=>tget o i H2 fun x H3=>te σ H3 fun y H4=>tip x y H4 fun z H5=>tset o i z H5 fun H6=>D.nx σ H6
def PGet (X:Cx) (t:V→V→Hp→VK→Prop):Prop:=
  ∀ (pins:List (Addr×Obj)) (s:Shared) (σ:St) (H:Hp) (o i:V) (ov iv:Value) (Q:VK),Inv X pins σ H s→RelV o ov→RelV i iv→t o i H Q→
    wpAny (model X.prog X.w) X.A (getItem ov iv) (EP X pins σ Q) X.xe s
theorem ps_augS {o i e:Expr} {to ti te:TE} {tget:V→V→Hp→VK→Prop} {tip:TIp} {tset:TSet} {op:Operator} {tpos:Pos} (ho:PE X o to) (hi:PE X i ti) (hg:PGet X tget) (he:PE X e te) (hp:PIp X op tip) (hs:PSet X tset)
    (ha:∀ ov iv new,augStore i ov iv new=(do holding [new,ov,iv] (setItem ov iv new);release [new,ov,iv] [];pure .next):=by intros;rfl):PS X (.AugAssign (.Subscript o i tpos) op e pos) (tAugS to ti te tget tip tset):=by
  intro pins s σ H D I h
  refine wpAny_AugAssign_SubscriptAny (thn (ho pins s σ H _ I h) fun ov s1 ⟨x1,H1,I1,r1,q1⟩=>?_) ha
  refine thn (hi pins s1 σ H1 _ I1 q1) fun iv s2 ⟨x2,H2,I2,r2,q2⟩=>?_
  refine thn (hg pins s2 σ H2 x1 x2 ov iv _ I2 r1 r2 q2) fun old s3 ⟨x3,H3,I3,r3,q3⟩=>?_
  refine thn (he pins s3 σ H3 _ I3 q3) fun v s4 ⟨x4,H4,I4,r4,q4⟩=>?_
  refine thn (hp pins s4 σ H4 x3 x4 old v _ I4 r3 r4 q4) fun new s5 ⟨x5,H5,I5,r5,q5⟩=>?_
  exact thn (hs pins s5 σ H5 x1 x2 x5 ov iv new _ I5 r1 r2 r5 q5) fun _ s6 ⟨H6,I6,q6⟩=>⟨σ,H6,I6,q6⟩
def ipI (f:Int→Int→Int):TIp:=fun x y H Q=>∃ i j,x = .int i∧y = .int j∧Q (.int (f i j)) H
theorem ip_add:PIp X .Add (ipI fun i j=>i+j):=by
  intro pins s σ H x y v u Q I r1 r2 h
  obtain ⟨i,j,e1,e2,q⟩:=h
  subst e1;subst e2
  obtain ⟨t,rfl⟩:=r1
  obtain ⟨t',rfl⟩:=r2
  exact iadd_int ⟨.int _,H,I.tok _,⟨_,rfl⟩,q⟩
theorem ip_sub:PIp X .Sub (ipI fun i j=>i - j):=by
  intro pins s σ H x y v u Q I r1 r2 h
  obtain ⟨i,j,e1,e2,q⟩:=h
  subst e1;subst e2
  obtain ⟨t,rfl⟩:=r1
  obtain ⟨t',rfl⟩:=r2
  exact isub_int ⟨.int _,H,I.tok _,⟨_,rfl⟩,q⟩
end
section
variable {X:Cx} {pos:Pos}
def tWhile (c:TT) (tb:TS):TS:=fun D σ H=>∃ W:Nat→St→Hp→Prop,(∃ m,W m σ H)∧∀ m σ H,W m σ H→
  c σ H fun b H1=>if b=true then ∃ N:St→Hp→Prop,(∀ σ' H',N σ' H'→∃ m',m' < m∧W m' σ' H')∧tb { D with nx:=N,ct:=N,bk:=D.nx } σ H1 else D.nx σ H1
theorem ps_while {c:Expr} {body:List Stmt} {tc:TT} {tb:TS} (hp:PassesOwn (model X.prog X.w) X.A X.env X.xe) (hc:PT X c tc) (hb:PSs X body tb):PS X (.While c body [] pos) (tWhile tc tb):=by
  intro pins s σ H D I h
  obtain ⟨W,⟨m0,w0⟩,turn⟩:=h
  refine wpAny_While (codeAny_whileLoop (fun n s'=>∃ σ' H',Inv X pins σ' H' s'∧W n σ' H') ?_ m0 ⟨σ,H,I,w0⟩)
  rintro n s1 ⟨σ1,H1,I1,w1⟩
  refine wpAny_passesOwn hp (thn (hc pins s1 σ1 H1 _ I1 (turn n σ1 H1 w1)) fun b s2 ⟨H2,I2,q2⟩=>?_)
  cases b with
  | true=>
    obtain ⟨N,hN,q2⟩:=q2
    rw [if_pos rfl]
    refine wpAny_passesOwn hp (thn (hb pins s2 σ1 H2 _ I2 q2) fun f s3 q3=>?_)
    cases f with
    | next=>
      obtain ⟨σ3,H3,I3,n3⟩:=q3
      obtain ⟨m',hm,w3⟩:=hN σ3 H3 n3
      exact ⟨m',hm,σ3,H3,I3,w3⟩
    | cont=>
      obtain ⟨σ3,H3,I3,n3⟩:=q3
      obtain ⟨m',hm,w3⟩:=hN σ3 H3 n3
      exact ⟨m',hm,σ3,H3,I3,w3⟩
    | brk=>exact q3
    | ret v=>exact q3
  | false=>
    rw [if_neg Bool.false_ne_true]
    exact wpAny_execs_nil ⟨σ1,H2,I2,q2⟩
end
structure It where
  go:Nat→Hp→Prop
  yld:Nat→Hp→V→Hp→Prop
  stop:Nat→Hp→Prop
def FpOk (X:Cx) (pins:List (Addr×Obj)) (H:Hp) (b:Addr):Prop:=
  H b=none∧b≠X.env.locals∧b∉X.fs∧(b∈X.ex∨X.s₀.heap.objs.size≤b)∧(∀ x c,X.env.cells.lookup x=some c→c≠b)∧∀ p∈X.pn ++ pins,p.1≠b
theorem Inv.fpOk {X:Cx} {pins:List (Addr×Obj)} {σ:St} {H H':Hp} {s:Shared} {b:Addr} (I:Inv X pins σ H s) (hb:s.heap.objs.size≤b) (hn:H' b=none):FpOk X pins H' b:=by
  refine ⟨hn,Nat.ne_of_gt (Nat.lt_of_lt_of_le I.lt hb),I.nofs hb,.inr (Nat.le_trans I.sz hb),fun x c e z=>?_,fun p hp z=>?_⟩
  · obtain ⟨v,q⟩:=I.cell x c e
    exact absurd (Nat.lt_of_lt_of_le q.lt (by rw [z];exact hb)) (Nat.lt_irrefl _)
  · exact absurd (Nat.lt_of_lt_of_le (Heap.lt_size (I.pin p hp).1) (by rw [z];exact hb)) (Nat.lt_irrefl _)
structure Turn (P:Program) (w:World) (K:Frag) (tg:Expr) (J:It) (fp:List Addr) (it:Addr) (tn:Nat→Heap→Prop):Prop where
  mem:it∈fp
  obj:∀ i h,tn i h→∀ b∈fp,∃ o,h.get? b=some o∧∀ v,o.data≠.cell v
  keep:∀ i h h',tn i h→(∀ b∈fp,∀ o,h.get? b=some o→h'.get? b=some o)→tn i h'
  item:∀ (X:Cx),X.prog=P→X.w=w→X.K=K→X.calm=true→∀ (i:Nat) (pins:List (Addr×Obj)) (s:Shared) (σ:St) (H:Hp) (E:Value→Shared→Prop),Inv X pins σ H s→(∀ b∈fp,FpOk X pins H b)→tn i s.heap→J.go i H→
    wpAny (model P w) X.A (pyNext (.ref it)) (fun r s1=>∃ u,r=some u∧
      wpAny (model P w) X.A (letOwnedTupleGo tg (.ref it) u) (fun _ s2=>∃ x H',Inv X pins σ H' s2∧RelV x u∧J.yld i H x H'∧tn (i+1) s2.heap∧∀ b∈fp,H' b=none) E s1) E s
  done:∀ (X:Cx),X.prog=P→X.w=w→X.K=K→X.calm=true→∀ (i:Nat) (pins:List (Addr×Obj)) (s:Shared) (σ:St) (H:Hp) (E:Value→Shared→Prop),Inv X pins σ H s→(∀ b∈fp,FpOk X pins H b)→tn i s.heap→J.stop i H→
    wpAny (model P w) X.A (pyNext (.ref it)) (fun r s1=>r=none∧Inv X pins σ H s1) E s
  self:∀ (A:Around) (i:Nat) (s:Shared) (Q:Value→Shared→Prop) (E:Value→Shared→Prop),tn i s.heap→Q (.ref it) s→wpAny (model P w) A (pyIter (.ref it)) Q E s
abbrev TI:=St→Hp→(It→Hp→Prop)→Prop
def PIE (X:Cx) (pins:List (Addr×Obj)) (σ:St) (tg:Expr) (R:It→Hp→Prop) (itv:Value) (s2:Shared):Prop:=
  ∃ (it:Addr) (fp:List Addr) (tn:Nat→Heap→Prop) (J:It) (H':Hp),itv = .ref it∧Inv X pins σ H' s2∧Turn X.prog X.w X.K tg J fp it tn∧tn 0 s2.heap∧(∀ b∈fp,FpOk X pins H' b)∧R J H'
def PI (X:Cx) (tg iter:Expr) (wi:TI):Prop:=
  ∀ (pins:List (Addr×Obj)) (s:Shared) (σ:St) (H:Hp) (R:It→Hp→Prop),Inv X pins σ H s→wi σ H R→
    wpAny (model X.prog X.w) X.A (eval iter X.env) (fun v s1=>wpAny (model X.prog X.w) X.A (pyIter v) (PIE X pins σ tg R) X.xe s1) X.xe s
theorem go_of {M:Model} {A:Around} {E:Value→Shared→Prop} {s:Shared} {tg:Expr} {it:Addr} {u:Value} {o:Obj} {n:String} {vs:Array Value} {Q:Unit→Shared→Prop} (ho:s.heap.get? it=some o) (hc:o.cls = .type n) (hd:o.data = .fields vs)
    (hn : ["enumerate", "zip", "dict_itemiterator", "dict_reverseitemiterator", "odict_iterator", "itertools.zip_longest", "itertools.pairwise"].contains n=false) (hQ:Q () s):wpAny M A (letOwnedTupleGo tg (.ref it) u) Q E s:=by
  unfold letOwnedTupleGo
  cases tg <;> first
    | exact wpAny_pure hQ
    | (cases u <;> first
        | exact wpAny_pure hQ
        | (refine wpAny_bind (wpAny_load ho ?_)
           rw [hc,hd]
           show wpAny M A (if (["enumerate", "zip", "dict_itemiterator", "dict_reverseitemiterator", "odict_iterator", "itertools.zip_longest", "itertools.pairwise"].contains n && vs[0]? == some (rawInt _))=true then _ else _) Q E s
           rw [if_neg (by intro h;rw [hn,Bool.false_and] at h;cases h)]
           exact wpAny_pure hQ))
def Itl (K:Frag) (a:Addr):It:=
  ⟨fun i H=>∃ xs x,SqL K H a xs∧xs[i]? = some x,fun i H x H'=>H'=H∧∀ xs,SqL K H a xs→xs[i]? = some x,fun i H=>∃ xs,SqL K H a xs∧xs.length≤i⟩
def Itt (K:Frag) (a:Addr):It:=
  ⟨fun i H=>∃ xs x,SqT K H a xs∧xs[i]? = some x,fun i H x H'=>H'=H∧∀ xs,SqT K H a xs→xs[i]? = some x,fun i H=>∃ xs,SqT K H a xs∧xs.length≤i⟩
def Itr (lo:Int) (n:Nat):It:=⟨fun i _=>i < n,fun i H x H'=>H'=H∧x = .int (lo+i),fun i _=>n≤i⟩
theorem turn_list {P:Program} {w:World} {K:Frag} {tg:Expr} (a it:Addr):Turn P w K tg (Itl K a) [it] it (fun i h=>h.IsListIter it a i) where
  mem:=by simp
  obj:=fun i h st b hb=>by
    have e:b=it:=by simpa using hb
    subst e
    obtain ⟨o,e,c,d⟩:=st
    exact ⟨o,e,fun v z=>by rw [d] at z;cases z⟩
  keep:=fun i h h' st k=>st.at fun o e=>k it (by simp) o e
  item:=by
    intro X hP hw hK hc i pins s σ H E I hf st hg
    subst hP hw hK
    obtain ⟨xs,x,hq,hx⟩:=hg
    obtain ⟨its,rv,p,hz⟩:=I.list hq
    obtain ⟨u,hu,ru⟩:=rv.get hx
    obtain ⟨f0,f1,f2,f3,f4,f5⟩:=hf it (by simp)
    refine wpAny_pyNext_list_item st p.isList (x:=u) (by simpa using hu) fun h' st' sb=>?_
    have I1:Inv X pins σ H { s with heap:=h' }:=I.turned (t':=s.toks) (fun b o hb e=>(sb.2 b hb).trans e) f0 f1 f3 f4 f5
    obtain ⟨o,e,c,d⟩:=id st'
    exact ⟨u,rfl,go_of (s:={ s with heap:=h' }) e c d (by decide) ⟨x,H,I1,ru,⟨rfl,fun ys hy=>by rw [I.list_inj hy hq];exact hx⟩,st',fun b hb=>(hf b hb).1⟩⟩
  done:=by
    intro X hP hw hK hc i pins s σ H E I hf st hg
    subst hP hw hK
    obtain ⟨xs,hq,hx⟩:=hg
    obtain ⟨its,rv,p,hz⟩:=I.list hq
    obtain ⟨f0,f1,f2,f3,f4,f5⟩:=hf it (by simp)
    have hl:=rv.length
    exact wpAny_pyNext_list_end (I.ok.hd hc) st p.isList (by simp;omega) fun h' eb=>⟨rfl,I.turned (t':=s.toks) (fun b o hb e=>eb b o hb e) f0 f1 f3 f4 f5⟩
  self:=fun _ _ _ _ _ st h=>wpAny_pyIter_listiter st h
theorem turn_tuple {P:Program} {w:World} {K:Frag} {tg:Expr} (a it:Addr):Turn P w K tg (Itt K a) [it] it (fun i h=>h.IsTupleIter it a i) where
  mem:=by simp
  obj:=fun i h st b hb=>by
    have e:b=it:=by simpa using hb
    subst e
    obtain ⟨o,e,c,d⟩:=st
    exact ⟨o,e,fun v z=>by rw [d] at z;cases z⟩
  keep:=fun i h h' st k=>st.at fun o e=>k it (by simp) o e
  item:=by
    intro X hP hw hK hc i pins s σ H E I hf st hg
    subst hP hw hK
    obtain ⟨xs,x,hq,hx⟩:=hg
    obtain ⟨its,rv,p,hz⟩:=I.tuple hq
    obtain ⟨u,hu,ru⟩:=rv.get hx
    obtain ⟨f0,f1,f2,f3,f4,f5⟩:=hf it (by simp)
    refine wpAny_pyNext_tuple_item st (show s.heap.IsTuple a its.toArray from p) (x:=u) (by simpa using hu) fun h' st' sb=>?_
    have I1:Inv X pins σ H { s with heap:=h' }:=I.turned (t':=s.toks) (fun b o hb e=>(sb.2 b hb).trans e) f0 f1 f3 f4 f5
    obtain ⟨o,e,c,d⟩:=id st'
    exact ⟨u,rfl,go_of (s:={ s with heap:=h' }) e c d (by decide) ⟨x,H,I1,ru,⟨rfl,fun ys hy=>by rw [I.tuple_inj hy hq];exact hx⟩,st',fun b hb=>(hf b hb).1⟩⟩
  done:=by
    intro X hP hw hK hc i pins s σ H E I hf st hg
    subst hP hw hK
    obtain ⟨xs,hq,hx⟩:=hg
    obtain ⟨its,rv,p,hz⟩:=I.tuple hq
    obtain ⟨f0,f1,f2,f3,f4,f5⟩:=hf it (by simp)
    have hl:=rv.length
    exact wpAny_pyNext_tuple_end (I.ok.hd hc) st (show s.heap.IsTuple a its.toArray from p) (by simp;omega) fun h' eb=>⟨rfl,I.turned (t':=s.toks) (fun b o hb e=>eb b o hb e) f0 f1 f3 f4 f5⟩
  self:=fun _ _ _ _ _ st h=>wpAny_pyIter_tupleiter st h
theorem turn_range {P:Program} {w:World} {K:Frag} {tg:Expr} (it:Addr) (lo:Int) (n:Nat):Turn P w K tg (Itr lo n) [it] it (fun i h=>IsRangeIter h it (lo+(i:Nat) * 1) ((n:Int) - (i:Nat)) 1) where
  mem:=by simp
  obj:=fun i h st b hb=>by
    have e:b=it:=by simpa using hb
    subst e
    exact ⟨_,st,fun v z=>by
      have z':Data.fields _=Data.cell v:=z
      cases z'⟩
  keep:=fun i h h' st k=>k it (by simp) _ st
  item:=by
    intro X hP hw hK hc i pins s σ H E I hf st hg
    subst hP hw hK
    obtain ⟨f0,f1,f2,f3,f4,f5⟩:=hf it (by simp)
    have W:=Walks.range (prog:=X.prog) (w:=X.w) (I.ok.hd hc) it lo 1 n
    refine W.item i s _ _ hg st fun v h' tk hv st' kk=>?_
    obtain ⟨t,rfl⟩:=hv
    have I1:Inv X pins σ H { s with heap:=h',toks:=tk }:=I.turned (fun b o hb e=>kk b o (by simpa using hb) e) f0 f1 f3 f4 f5
    refine ⟨_,rfl,go_of (s:={ s with heap:=h',toks:=tk }) (n := "range_iterator") st' rfl rfl (by decide) ⟨.int (lo+i),H,I1,⟨t,?_⟩,⟨rfl,rfl⟩,st',fun b hb=>(hf b hb).1⟩⟩
    rw [Int.mul_one]
  done:=by
    intro X hP hw hK hc i pins s σ H E I hf st hg
    subst hP hw hK
    obtain ⟨f0,f1,f2,f3,f4,f5⟩:=hf it (by simp)
    exact wpAny_pyNext_range_end (I.ok.hd hc) st (by have:n≤i:=hg;omega) fun h' eb=>⟨rfl,I.turned (t':=s.toks) (fun b o hb e=>eb b o hb e) f0 f1 f3 f4 f5⟩
  self:=fun _ _ _ _ _ st h=>wpAny_pyIter_rangeiter st h
end L2
namespace L2
open PySem PySem.Spec PyProof.Rows
section
variable {X:Cx} {tg:Expr}
def iList (K:Frag) (tl:TE):TI:=fun σ H R=>tl σ H fun x H1=>∃ a,x = .ref a∧(∃ xs,SqL K H1 a xs)∧R (Itl K a) H1
def iTup (K:Frag) (tl:TE):TI:=fun σ H R=>tl σ H fun x H1=>∃ a,x = .ref a∧(∃ xs,SqT K H1 a xs)∧R (Itt K a) H1
theorem pi_list {l:Expr} {tl:TE} (hl:PE X l tl):PI X tg l (iList X.K tl):=by
  intro pins s σ H R I h
  refine thn (hl pins s σ H _ I h) fun v s1 ⟨x,H1,I1,r1,q1⟩=>?_
  obtain ⟨a,e,⟨xs,hq⟩,q⟩:=q1
  subst e
  cases r1
  obtain ⟨its,rv,p,hz⟩:=I1.list hq
  refine wpAny_pyIter_list p.isList ?_
  refine ⟨s1.heap.objs.size,[s1.heap.objs.size],_,_,H1,rfl,I1.kept (t':=s1.toks) fun b o e=>Heap.get?_push_of_some _ e,turn_list a _,⟨_,Heap.get?_push_size _ rfl,rfl,rfl⟩,fun b hb=>?_,q⟩
  have e:b=s1.heap.objs.size:=by simpa using hb
  subst e
  exact I1.fpOk (Nat.le_refl _) (I1.hok.fresh (Nat.le_refl _))
theorem pi_tup {l:Expr} {tl:TE} (hl:PE X l tl):PI X tg l (iTup X.K tl):=by
  intro pins s σ H R I h
  refine thn (hl pins s σ H _ I h) fun v s1 ⟨x,H1,I1,r1,q1⟩=>?_
  obtain ⟨a,e,⟨xs,hq⟩,q⟩:=q1
  subst e
  cases r1
  obtain ⟨its,rv,p,hz⟩:=I1.tuple hq
  refine wpAny_pyIter_tuple (show s1.heap.IsTuple a its.toArray from p) ?_
  refine ⟨s1.heap.objs.size,[s1.heap.objs.size],_,_,H1,rfl,I1.kept (t':=s1.toks) fun b o e=>Heap.get?_push_of_some _ e,turn_tuple a _,⟨_,Heap.get?_push_size _ rfl,rfl,rfl⟩,fun b hb=>?_,q⟩
  have e:b=s1.heap.objs.size:=by simpa using hb
  subst e
  exact I1.fpOk (Nat.le_refl _) (I1.hok.fresh (Nat.le_refl _))
theorem range_it {pins:List (Addr×Obj)} {σ:St} {H:Hp} {s:Shared} {R:It→Hp→Prop} {E:Value→Shared→Prop} {lo hi:Int} {t u v:Tok} {tk:Nat} (I:Inv X pins σ H s) (h1 : -(2 ^ 62)≤lo) (h2:lo < 2 ^ 62) (h3 : -(2 ^ 62)≤hi) (h4:hi < 2 ^ 62)
    (q:R (Itr lo (hi - lo).toNat) H):wpAny (model X.prog X.w) X.A (pyIter (.ref s.heap.objs.size)) (PIE X pins σ tg R) E { s with heap:=s.heap.push { cls:=.type "range", data:=.fields #[.int lo t,.int hi u,.int 1 v] },toks:=tk }:=by
  refine wpAny_pyIter_range (IsRange.new ..) (small_one h1 h2 h3 h4) ?_
  have I1:Inv X pins σ H { s with heap:=s.heap.push { cls:=.type "range", data:=.fields #[.int lo t,.int hi u,.int 1 v] },toks:=tk }:=I.kept fun b o e=>Heap.get?_push_of_some _ e
  refine ⟨(s.heap.push { cls:=.type "range", data:=.fields #[.int lo t,.int hi u,.int 1 v] }).objs.size,[(s.heap.push { cls:=.type "range", data:=.fields #[.int lo t,.int hi u,.int 1 v] }).objs.size],_,_,H,rfl,
    I1.kept (t':=tk) fun b o e=>Heap.get?_push_of_some _ e,turn_range _ lo (hi - lo).toNat,?_,fun b hb=>?_,q⟩
  · have e1:lo+((0:Nat):Int) * 1=lo:=by simp
    have e2:(((hi - lo).toNat:Nat):Int) - ((0:Nat):Int)=Builtin.Range.rangeSize lo hi 1:=by rw [rangeSize_one];split <;> omega
    show IsRangeIter _ _ (lo+((0:Nat):Int) * 1) ((((hi - lo).toNat:Nat):Int) - ((0:Nat):Int)) 1
    rw [e1,e2]
    exact Heap.get?_push_size _ rfl
  · have e:b=(s.heap.push { cls:=.type "range", data:=.fields #[.int lo t,.int hi u,.int 1 v] }).objs.size:=by simpa using hb
    subst e
    exact I1.fpOk (Nat.le_refl _) (I1.hok.fresh (Nat.le_refl _))
def iRng1 (ta:TA):TI:=fun σ H R=>ta σ H fun vs H1=>∃ j:Int,vs=[.int j]∧-(2 ^ 62)≤j∧j < 2 ^ 62∧R (Itr 0 j.toNat) H1
def iRng2 (ta:TA):TI:=fun σ H R=>ta σ H fun vs H1=>∃ i j:Int,vs=[.int i,.int j]∧(-(2 ^ 62)≤i∧i < 2 ^ 62∧-(2 ^ 62)≤j∧j < 2 ^ 62)∧R (Itr i (j - i).toNat) H1
theorem pi_range1 {a:Expr} {ta:TA} {p pos:Pos} (hg:Gl X "range") (hm:X.mg "range" = none) (ha:PA X [a] ta) (hs:starEach [a] X.env=[(false,eval a X.env)]:=by rfl):PI X tg (.Call (.Name "range" p) [a] [] pos) (iRng1 ta):=by
  intro pins s σ H R I h
  refine Call_ (ld_blt I hg hm boot_range (PyProof.Rows.callWith_type1 (thn (ha pos pins s σ H _ I h) fun us s1 ⟨vs,H1,I1,r1,q1⟩=>?_) hs rfl))
  obtain ⟨j,e,q1,q2,q⟩:=q1
  subst e
  cases r1 with
  | cons r rr=>
    cases rr
    obtain ⟨t,rfl⟩:=r
    exact call_range_1 (range_it I1 (by omega) (by omega) q1 q2 (by simpa using q))
theorem pi_range2 {a b:Expr} {ta:TA} {p pos:Pos} (hg:Gl X "range") (hm:X.mg "range" = none) (ha:PA X [a,b] ta) (hs:starEach [a,b] X.env=[(false,eval a X.env),(false,eval b X.env)]:=by rfl) (hs2:starEach [b] X.env=[(false,eval b X.env)]:=by rfl) :
    PI X tg (.Call (.Name "range" p) [a,b] [] pos) (iRng2 ta):=by
  intro pins s σ H R I h
  refine Call_ (ld_blt I hg hm boot_range (PyProof.Rows.callWith_type1 (thn (ha pos pins s σ H _ I h) fun us s1 ⟨vs,H1,I1,r1,q1⟩=>?_) (by rw [hs,hs2]) (by rw [hs2];rfl)))
  obtain ⟨i,j,e,⟨q1,q2,q3,q4⟩,q⟩:=q1
  subst e
  cases r1 with
  | cons r rr=>
    cases rr with
    | cons r' rr=>
      cases rr
      obtain ⟨t,rfl⟩:=r
      obtain ⟨t',rfl⟩:=r'
      exact call_range_2 (range_it I1 q1 q2 q3 q4 q)
def tFor (wi:TI) (g:TG) (tb:TS):TS:=fun D σ H=>wi σ H fun J H1=>∃ W:Nat→Nat→St→Hp→Prop,(∃ m,W 0 m σ H1)∧∀ i m σ H,W i m σ H→
  (J.stop i H∧D.nx σ H)∨(J.go i H∧∃ N:St→Hp→Prop,(∀ σ' H',N σ' H'→∃ m',m' < m∧W (i+1) m' σ' H')∧∀ x H',J.yld i H x H'→g x σ H' fun σ2 H2=>tb { D with nx:=N,ct:=N,bk:=D.nx } σ2 H2)
def pinsAt (fp:List Addr) (h:Heap):List (Addr×Obj):=fp.filterMap fun b=>(h.get? b).map fun o=>(b,o)
theorem mem_pinsAt {fp:List Addr} {h:Heap} {b:Addr} {o:Obj} (hb:b∈fp) (e:h.get? b=some o):(b,o)∈pinsAt fp h:=List.mem_filterMap.mpr ⟨b,hb,by rw [e];rfl⟩
theorem of_pinsAt {fp:List Addr} {h:Heap} {p:Addr×Obj} (hp:p∈pinsAt fp h):p.1∈fp∧h.get? p.1=some p.2:=by
  obtain ⟨b,hb,e⟩:=List.mem_filterMap.mp hp
  cases q:h.get? b with
  | none=>rw [q] at e;cases e
  | some o=>
    rw [q] at e
    have e':(b,o)=p:=Option.some.inj e
    subst e'
    exact ⟨hb,q⟩
theorem Inv.pinned {pins:List (Addr×Obj)} {σ:St} {H:Hp} {s:Shared} {fp:List Addr} (I:Inv X pins σ H s) (hf:∀ b∈fp,FpOk X pins H b) (ho:∀ b∈fp,∃ o,s.heap.get? b=some o∧∀ v,o.data≠.cell v):Inv X (pins ++ pinsAt fp s.heap) σ H s:=
  I.pins_of fun p hp=>(List.mem_append.mp hp).elim (fun z=>I.pin p (List.mem_append_right _ z)) fun z=>by
    obtain ⟨hb,e⟩:=of_pinsAt z
    obtain ⟨f0,f1,f2,_⟩:=hf p.1 hb
    obtain ⟨o,e',d⟩:=ho p.1 hb
    rw [e] at e';cases e'
    exact ⟨e,f0,f1,f2,d⟩
theorem Inv.unpinned {pins pl:List (Addr×Obj)} {σ:St} {H:Hp} {s:Shared} (I:Inv X (pins ++ pl) σ H s):Inv X pins σ H s:=I.pins_of fun p hp=>I.pin p (List.mem_append_right _ (List.mem_append_left _ hp))
theorem ps_for {iter:Expr} {body:List Stmt} {wi:TI} {g:TG} {tb:TS} {pos:Pos} (hp:PassesOwn (model X.prog X.w) X.A X.env X.xe) (hc:X.calm=true) (hi:PI X tg iter wi) (hg:PG X tg g) (hb:PSs X body tb)
    (hs:∀ x,foldedSetIterable iter X.env x=pure x:=by intro _;rfl):PS X (.For tg iter body [] pos) (tFor wi g tb):=by
  intro pins s σ H D I h
  refine wpAny_For (thn (hi pins s σ H _ I h) fun v s1 h1=>thn h1 fun itv s2 h2=>?_) hs
  obtain ⟨it,fp,tn,J,H2,e,I2,T,st2,f2,W,⟨m0,w0⟩,turn⟩:=h2
  subst e
  have stat:∀ {H':Hp},(∀ b∈fp,H' b=none)→∀ b∈fp,FpOk X pins H' b:=fun hn b hb=>⟨hn b hb,(f2 b hb).2⟩
  refine codeAny_forLoop_any (fun n s'=>∃ i σ' H',Inv X pins σ' H' s'∧tn i s'.heap∧(∀ b∈fp,H' b=none)∧W i n σ' H') ?_ m0 ⟨0,σ,H2,I2,st2,fun b hb=>(f2 b hb).1,w0⟩
  rintro n s3 ⟨i,σ3,H3,I3,st3,fr3,w3⟩
  rcases turn i n σ3 H3 w3 with ⟨stop,qn⟩ | ⟨go,N,hN,step⟩
  · refine wpAny_passesOwn hp (thn (T.done X rfl rfl rfl hc i pins s3 σ3 H3 X.xe I3 (stat fr3) st3 stop) fun r s4 ⟨hr,I4⟩=>?_)
    subst hr
    exact wpAny_execs_nil ⟨σ3,H3,I4,qn⟩
  · refine wpAny_passesOwn hp (thn (T.item X rfl rfl rfl hc i pins s3 σ3 H3 X.xe I3 (stat fr3) st3 go) fun r s4 ⟨u,hr,h4⟩=>?_)
    subst hr
    refine wpAny_passesOwn hp (thn h4 fun _ s5 ⟨x,H5,I5,r5,y5,st5,fr5⟩=>?_)
    have I5':=I5.pinned (stat fr5) (T.obj _ _ st5)
    refine wpAny_passesOwn hp (thn (hg _ s5 σ3 H5 x u _ I5' r5 (step x H5 y5)) fun _ s6 ⟨σ6,H6,I6,q6⟩=>?_)
    refine wpAny_passesOwn hp (thn (hb _ s6 σ6 H6 _ I6 q6) fun f s7 q7=>?_)
    have again:∀ {σ7:St} {H7:Hp},Inv X (pins ++ pinsAt fp s5.heap) σ7 H7 s7→N σ7 H7→∃ m,m < n∧∃ i σ' H',Inv X pins σ' H' s7∧tn i s7.heap∧(∀ b∈fp,H' b=none)∧W i m σ' H':=fun {σ7 H7} I7 n7=>by
      obtain ⟨m',hm,w7⟩:=hN σ7 H7 n7
      refine ⟨m',hm,i+1,σ7,H7,I7.unpinned,T.keep _ _ _ st5 fun b hb o e=>(I7.pin (b,o) (List.mem_append_right _ (List.mem_append_right _ (mem_pinsAt hb e)))).1,fun b hb=>?_,w7⟩
      obtain ⟨o,e,d⟩:=T.obj _ _ st5 b hb
      exact (I7.pin (b,o) (List.mem_append_right _ (List.mem_append_right _ (mem_pinsAt hb e)))).2.1
    cases f with
    | next=>obtain ⟨σ7,H7,I7,n7⟩:=q7;exact again I7 n7
    | cont=>obtain ⟨σ7,H7,I7,n7⟩:=q7;exact again I7 n7
    | brk=>obtain ⟨σ7,H7,I7,q7⟩:=q7;exact ⟨σ7,H7,I7.unpinned,q7⟩
    | ret v=>obtain ⟨x7,σ7,H7,I7,r7,q7⟩:=q7;exact ⟨x7,σ7,H7,I7.unpinned,r7,q7⟩
end
theorem for_list {K:Frag} {a:Addr} {xs:List V} {g:TG} {tb:TS} {D:Ends} {σ:St} {H:Hp} (Pv:Nat→St→Hp→Prop) (h0:Pv 0 σ H) (hl:∀ i σ H,i≤xs.length→Pv i σ H→SqL K H a xs)
    (hs:∀ i x σ H,xs[i]? = some x→Pv i σ H→g x σ H fun σ2 H2=>tb { D with nx:=Pv (i+1),ct:=Pv (i+1),bk:=D.nx } σ2 H2) (hd:∀ σ H,Pv xs.length σ H→D.nx σ H) :
    ∃ W:Nat→Nat→St→Hp→Prop,(∃ m,W 0 m σ H)∧∀ i m σ H,W i m σ H→
      ((Itl K a).stop i H∧D.nx σ H)∨((Itl K a).go i H∧∃ N:St→Hp→Prop,(∀ σ' H',N σ' H'→∃ m',m' < m∧W (i+1) m' σ' H')∧∀ x H',(Itl K a).yld i H x H'→g x σ H' fun σ2 H2=>tb { D with nx:=N,ct:=N,bk:=D.nx } σ2 H2):=by
  refine ⟨fun i m σ H=>m=xs.length - i∧i≤xs.length∧Pv i σ H,⟨xs.length,by simp,Nat.zero_le _,h0⟩,?_⟩
  rintro i m σ H ⟨rfl,hi,p⟩
  have q:=hl i σ H hi p
  by_cases hlt:i < xs.length
  · refine .inr ⟨⟨xs,xs[i],q,by simp [hlt]⟩,Pv (i+1),fun σ' H' p'=>⟨xs.length - (i+1),by omega,rfl,hlt,p'⟩,fun x H' y=>?_⟩
    obtain ⟨e,y⟩:=y
    subst e
    exact hs i x σ _ (y xs q) p
  · have e:i=xs.length:=by omega
    subst e
    exact .inl ⟨⟨xs,q,Nat.le_refl _⟩,hd σ H p⟩
theorem for_tup {K:Frag} {a:Addr} {xs:List V} {g:TG} {tb:TS} {D:Ends} {σ:St} {H:Hp} (Pv:Nat→St→Hp→Prop) (h0:Pv 0 σ H) (hl:∀ i σ H,i≤xs.length→Pv i σ H→SqT K H a xs)
    (hs:∀ i x σ H,xs[i]? = some x→Pv i σ H→g x σ H fun σ2 H2=>tb { D with nx:=Pv (i+1),ct:=Pv (i+1),bk:=D.nx } σ2 H2) (hd:∀ σ H,Pv xs.length σ H→D.nx σ H) :
    ∃ W:Nat→Nat→St→Hp→Prop,(∃ m,W 0 m σ H)∧∀ i m σ H,W i m σ H→
      ((Itt K a).stop i H∧D.nx σ H)∨((Itt K a).go i H∧∃ N:St→Hp→Prop,(∀ σ' H',N σ' H'→∃ m',m' < m∧W (i+1) m' σ' H')∧∀ x H',(Itt K a).yld i H x H'→g x σ H' fun σ2 H2=>tb { D with nx:=N,ct:=N,bk:=D.nx } σ2 H2):=by
  refine ⟨fun i m σ H=>m=xs.length - i∧i≤xs.length∧Pv i σ H,⟨xs.length,by simp,Nat.zero_le _,h0⟩,?_⟩
  rintro i m σ H ⟨rfl,hi,p⟩
  have q:=hl i σ H hi p
  by_cases hlt:i < xs.length
  · refine .inr ⟨⟨xs,xs[i],q,by simp [hlt]⟩,Pv (i+1),fun σ' H' p'=>⟨xs.length - (i+1),by omega,rfl,hlt,p'⟩,fun x H' y=>?_⟩
    obtain ⟨e,y⟩:=y
    subst e
    exact hs i x σ _ (y xs q) p
  · have e:i=xs.length:=by omega
    subst e
    exact .inl ⟨⟨xs,q,Nat.le_refl _⟩,hd σ H p⟩
theorem for_range {lo:Int} {n:Nat} {g:TG} {tb:TS} {D:Ends} {σ:St} {H:Hp} (Pv:Nat→St→Hp→Prop) (h0:Pv 0 σ H)
    (hs:∀ i σ H,i < n→Pv i σ H→g (.int (lo+i)) σ H fun σ2 H2=>tb { D with nx:=Pv (i+1),ct:=Pv (i+1),bk:=D.nx } σ2 H2) (hd:∀ σ H,Pv n σ H→D.nx σ H) :
    ∃ W:Nat→Nat→St→Hp→Prop,(∃ m,W 0 m σ H)∧∀ i m σ H,W i m σ H→
      ((Itr lo n).stop i H∧D.nx σ H)∨((Itr lo n).go i H∧∃ N:St→Hp→Prop,(∀ σ' H',N σ' H'→∃ m',m' < m∧W (i+1) m' σ' H')∧∀ x H',(Itr lo n).yld i H x H'→g x σ H' fun σ2 H2=>tb { D with nx:=N,ct:=N,bk:=D.nx } σ2 H2):=by
  refine ⟨fun i m σ H=>m=n - i∧i≤n∧Pv i σ H,⟨n,by simp,Nat.zero_le _,h0⟩,?_⟩
  rintro i m σ H ⟨rfl,hi,p⟩
  by_cases hlt:i < n
  · refine .inr ⟨hlt,Pv (i+1),fun σ' H' p'=>⟨n - (i+1),by omega,rfl,hlt,p'⟩,fun x H' y=>?_⟩
    obtain ⟨e,y⟩:=y
    subst e y
    exact hs i σ _ hlt p
  · have e:i=n:=by omega
    subst e
    exact .inl ⟨Nat.le_refl _,hd σ H p⟩
end L2
namespace L2
open PySem PySem.Spec PyProof.Rows
abbrev R2:=V→V→Hp→VK→Prop
def OpR (X:Cx) (f:Value→Value→Sem Value) (r:R2):Prop:=
  ∀ (pins:List (Addr×Obj)) (s:Shared) (σ:St) (H:Hp) (x y:V) (v u:Value) (Q:VK),Inv X pins σ H s→RelV x v→RelV y u→r x y H Q→
    wpAny (model X.prog X.w) X.A (f v u) (EP X pins σ Q) X.xe s
def UnR (X:Cx) (f:Value→Sem Value) (r:V→Hp→VK→Prop):Prop:=
  ∀ (pins:List (Addr×Obj)) (s:Shared) (σ:St) (H:Hp) (x:V) (v:Value) (Q:VK),Inv X pins σ H s→RelV x v→r x H Q→
    wpAny (model X.prog X.w) X.A (f v) (EP X pins σ Q) X.xe s
def CallR (X:Cx) (f:Value) (r:List V→Hp→VK→Prop):Prop:=
  ∀ (pins:List (Addr×Obj)) (s:Shared) (σ:St) (H:Hp) (xs:List V) (us:List Value) (Q:VK),Inv X pins σ H s→Vals xs us→r xs H Q→
    wpAny (model X.prog X.w) X.A (call f us) (EP X pins σ Q) X.xe s
def TruR (X:Cx) (r:V→Hp→(Bool→Hp→Prop)→Prop):Prop:=
  ∀ (pins:List (Addr×Obj)) (s:Shared) (σ:St) (H:Hp) (x:V) (v:Value) (Q:Bool→Hp→Prop),Inv X pins σ H s→RelV x v→r x H Q→
    wpAny (model X.prog X.w) X.A (truthy v) (TP X pins σ Q) X.xe s
def tOp (r:R2) (ta tb:TE):TE:=fun σ H Q=>ta σ H fun x H1=>tb σ H1 fun y H2=>r x y H2 Q
def tUn (r:V→Hp→VK→Prop) (ta:TE):TE:=fun σ H Q=>ta σ H fun x H1=>r x H1 Q
def rI (C:Int→Int→Prop) (g:Int→Int→V):R2:=fun x y H Q=>∃ i j,x = .int i∧y = .int j∧C i j∧Q (g i j) H
def rI0 (g:Int→Int→V):R2:=fun x y H Q=>∃ i j,x = .int i∧y = .int j∧Q (g i j) H
def rU (g:Int→V):V→Hp→VK→Prop:=fun x H Q=>∃ i,x = .int i∧Q (g i) H
section
variable {X:Cx} {a b c:Expr} {ta tb tc:TE} {pos:Pos}
theorem binT (ha:PE X a ta) (hb:PE X b tb) {pins:List (Addr×Obj)} {s:Shared} {σ:St} {H:Hp} {R:V→V→Hp→Prop} (I:Inv X pins σ H s)
    (h:ta σ H fun x H1=>tb σ H1 fun y H2=>R x y H2) {Q:Value→Shared→Prop} {f:Value→Value→Sem Value}
    (hf:∀ v u s2 x y H2,Inv X pins σ H2 s2→RelV x v→RelV y u→R x y H2→wpAny (model X.prog X.w) X.A (f v u) Q X.xe s2) :
    wpAny (model X.prog X.w) X.A (eval a X.env) (fun v s₁=>wpAny (model X.prog X.w) X.A (eval b X.env) (fun u s₂=>wpAny (model X.prog X.w) X.A (f v u) Q X.xe s₂) X.xe s₁) X.xe s:=by
  refine thn (ha pins s σ H _ I h) fun v s1 ⟨x,H1,I1,r1,q1⟩=>?_
  refine thn (hb pins s1 σ H1 _ I1 q1) fun u s2 ⟨y,H2,I2,r2,q2⟩=>?_
  exact hf v u s2 x y H2 I2 r1 r2 q2
theorem pe_op {op:Operator} {r:R2} (ho:OpR X (binaryOp op) r) (ha:PE X a ta) (hb:PE X b tb):PE X (.BinOp a op b pos) (tOp r ta tb):=by
  intro pins s σ H Q I h
  exact wpAny_BinOp (binT ha hb I h fun v u s2 x y H2 I2 rx ry q=>ho pins s2 σ H2 x y v u Q I2 rx ry q)
theorem pe_un {op:UnaryOp} {r:V→Hp→VK→Prop} (ho:UnR X (unaryOp op) r) (ha:PE X a ta):PE X (.UnaryOp op a pos) (tUn r ta):=by
  intro pins s σ H Q I h
  exact UnaryOp_ (thn (ha pins s σ H _ I h) fun v s1 ⟨x,H1,I1,r1,q1⟩=>ho pins s1 σ H1 x v Q I1 r1 q1)
theorem opI {f:Value→Value→Sem Value} {C:Int→Int→Prop} {g:Int→Int→Int}
    (rule:∀ (i j:Int) (t u:Tok) (s:Shared) (Q:Value→Shared→Prop) (E:Value→Shared→Prop),C i j→Q (.int (g i j) s.toks) { s with toks:=s.toks+1 }→wpAny (model X.prog X.w) X.A (f (.int i t) (.int j u)) Q E s) :
    OpR X f (rI C fun i j=>.int (g i j)):=by
  intro pins s σ H x y v u Q I rx ry h
  obtain ⟨i,j,rfl,rfl,hc,q⟩:=h
  obtain ⟨t,rfl⟩:=rx
  obtain ⟨t',rfl⟩:=ry
  exact rule i j t t' s _ _ hc ⟨.int (g i j),H,I.tok _,⟨_,rfl⟩,q⟩
theorem opI0 {f:Value→Value→Sem Value} {g:Int→Int→Int}
    (rule:∀ (i j:Int) (t u:Tok) (s:Shared) (Q:Value→Shared→Prop) (E:Value→Shared→Prop),Q (.int (g i j) s.toks) { s with toks:=s.toks+1 }→wpAny (model X.prog X.w) X.A (f (.int i t) (.int j u)) Q E s) :
    OpR X f (rI0 fun i j=>.int (g i j)):=by
  intro pins s σ H x y v u Q I rx ry h
  obtain ⟨i,j,rfl,rfl,q⟩:=h
  obtain ⟨t,rfl⟩:=rx
  obtain ⟨t',rfl⟩:=ry
  exact rule i j t t' s _ _ ⟨.int (g i j),H,I.tok _,⟨_,rfl⟩,q⟩
theorem opB0 {f:Value→Value→Sem Value} {g:Int→Int→Bool}
    (rule:∀ (i j:Int) (t u:Tok) (s:Shared) (Q:Value→Shared→Prop) (E:Value→Shared→Prop),Q (.bool (g i j)) s→wpAny (model X.prog X.w) X.A (f (.int i t) (.int j u)) Q E s) :
    OpR X f (rI0 fun i j=>.bl (g i j)):=by
  intro pins s σ H x y v u Q I rx ry h
  obtain ⟨i,j,rfl,rfl,q⟩:=h
  obtain ⟨t,rfl⟩:=rx
  obtain ⟨t',rfl⟩:=ry
  exact rule i j t t' s _ _ ⟨.bl (g i j),H,I,rfl,q⟩
def CDiv (i j:Int):Prop:=0 < j∧j < 1073741824
def CPow (i j:Int):Prop:=0≤j∧j≤1000000∧i.natAbs < 2 ^ 64
def CMul (i j:Int):Prop:=(-(2 ^ 64) < i∧i < 2 ^ 64)∨(-(2 ^ 64) < j∧j < 2 ^ 64)
theorem CMul.ok {i j:Int} (h:CMul i j):IntMulOk i j:=by
  rcases h with ⟨h1,h2⟩ | ⟨h1,h2⟩
  · exact .of_left (intBits_le_64 h1 h2)
  · exact .of_right (intBits_le_64 h1 h2)
theorem op_add:OpR X (binaryOp .Add) (rI0 fun i j=>.int (i+j)):=opI0 fun _ _ _ _ _ _ _ q=>add_int q
theorem op_sub:OpR X (binaryOp .Sub) (rI0 fun i j=>.int (i - j)):=opI0 fun _ _ _ _ _ _ _ q=>sub_int q
theorem op_mul:OpR X (binaryOp .Mult) (rI CMul fun i j=>.int (i * j)):=opI fun _ _ _ _ _ _ _ hc q=>mul_int q hc.ok
theorem op_fdiv:OpR X (binaryOp .FloorDiv) (rI CDiv fun i j=>.int (i / j)):=opI fun i j _ _ _ _ _ hc q=>by
  have h1:(0:Int) < j:=hc.1
  have h2:j < 1073741824:=hc.2
  exact floordiv_int (by omega) (by rw [Int.fdiv_eq_ediv_of_nonneg i (by omega)];exact q) (.inl (PyProof.noPylong_small (by omega)))
theorem op_mod:OpR X (binaryOp .Mod) (rI (fun _ j=>0 < j) fun i j=>.int (i % j)):=opI fun i j _ _ _ _ _ hc q=>by
  have h1:(0:Int) < j:=hc
  exact mod_int' (by omega) (by rw [Int.fmod_eq_emod_of_nonneg i (by omega)];exact q)
theorem op_pow:OpR X (binaryOp .Pow) (rI CPow fun i j=>.int (i ^ j.toNat)):=opI fun _ _ _ _ _ _ _ hc q=>pow_int_small hc.1 hc.2.1 hc.2.2 q
theorem unI {f:Value→Sem Value} {g:Int→Int}
    (rule:∀ (i:Int) (t:Tok) (s:Shared) (Q:Value→Shared→Prop) (E:Value→Shared→Prop),Q (.int (g i) s.toks) { s with toks:=s.toks+1 }→wpAny (model X.prog X.w) X.A (f (.int i t)) Q E s) :
    UnR X f (rU fun i=>.int (g i)):=by
  intro pins s σ H x v Q I rx h
  obtain ⟨i,rfl,q⟩:=h
  obtain ⟨t,rfl⟩:=rx
  exact rule i t s _ _ ⟨.int (g i),H,I.tok _,⟨_,rfl⟩,q⟩
theorem un_neg:UnR X (unaryOp .USub) (rU fun i=>.int (-i)):=unI fun _ _ _ _ _ q=>neg_int q
end
def scal:V→V→Bool
  | .non,.non=>true | .non,.int _=>true | .int _,.non=>true | .non,.bl _=>true | .bl _,.non=>true | .non,.str _=>true | .str _,.non=>true
  | .int _,.int _=>true | .bl _,.bl _=>true | .str _,.str _=>true | .byt _,.byt _=>true
  | .int _,.str _=>true | .str _,.int _=>true | .bl _,.str _=>true | .str _,.bl _=>true
  | _,_=>false
def rEq:R2:=fun x y H Q=>scal x y=true∧Q (.bl (decide (x=y))) H
def rNe:R2:=fun x y H Q=>scal x y=true∧Q (.bl (!decide (x=y))) H
theorem dec_int {i j:Int}:decide (V.int i=V.int j)=(i == j):=by
  rw [Bool.eq_iff_iff]
  simp
theorem dec_bl {i j:Bool}:decide (V.bl i=V.bl j)=(i == j):=by
  rw [Bool.eq_iff_iff]
  simp
theorem dec_str {i j:Str}:decide (V.str i=V.str j)=(i == j):=by
  rw [Bool.eq_iff_iff]
  simp
theorem dec_byt {i j:Array UInt8}:decide (V.byt i=V.byt j)=(i.toList == j.toList):=by
  rw [Bool.eq_iff_iff]
  cases i
  cases j
  simp
section
variable {X:Cx} {a b c:Expr} {ta tb tc:TE} {pos:Pos}
theorem fin_bl {pins:List (Addr×Obj)} {σ:St} {H:Hp} {s:Shared} {Q:VK} {k k':Bool} (I:Inv X pins σ H s) (q:Q (.bl k) H) (e:k=k'):EP X pins σ Q (.bool k') s:=by
  subst e
  exact ⟨.bl k,H,I,rfl,q⟩
theorem op_eq:OpR X (compareOp .Eq) rEq:=by
  intro pins s σ H x y v u Q I rx ry h
  obtain ⟨hs,q⟩:=h
  cases x with
  | non=>
    cases rx
    cases y with
    | non=>cases ry;exact PySem.EqNone.eq_none_none (fin_bl I q (by simp))
    | bl j=>cases ry;exact PySem.EqNone.eq_none_bool (fin_bl I q (by simp))
    | int j=>obtain ⟨t',rfl⟩:=ry;exact PySem.EqNone.eq_none_int (fin_bl I q (by simp))
    | str j=>obtain ⟨t',rfl⟩:=ry;exact PySem.EqNone.eq_none_str (fin_bl I q (by simp))
    | _=>exact absurd (show false=true from hs) Bool.false_ne_true
  | bl i=>
    cases rx
    cases y with
    | non=>cases ry;exact PySem.EqNone.eq_bool_none (fin_bl I q (by simp))
    | bl j=>cases ry;exact eq_bool (fin_bl I q dec_bl)
    | str j=>obtain ⟨t',rfl⟩:=ry;exact PySem.EqMixed.eq_bool_str (fin_bl I q (by simp))
    | _=>exact absurd (show false=true from hs) Bool.false_ne_true
  | int i=>
    obtain ⟨t,rfl⟩:=rx
    cases y with
    | non=>cases ry;exact PySem.EqNone.eq_int_none (fin_bl I q (by simp))
    | int j=>obtain ⟨t',rfl⟩:=ry;exact eq_int (fin_bl I q dec_int)
    | str j=>obtain ⟨t',rfl⟩:=ry;exact PySem.EqMixed.eq_int_str (fin_bl I q (by simp))
    | _=>exact absurd (show false=true from hs) Bool.false_ne_true
  | str i=>
    obtain ⟨t,rfl⟩:=rx
    cases y with
    | non=>cases ry;exact PySem.EqNone.eq_str_none (fin_bl I q (by simp))
    | bl j=>cases ry;exact PySem.EqMixed.eq_str_bool (fin_bl I q (by simp))
    | int j=>obtain ⟨t',rfl⟩:=ry;exact PySem.EqMixed.eq_str_int (fin_bl I q (by simp))
    | str j=>obtain ⟨t',rfl⟩:=ry;exact eq_str (fin_bl I q dec_str)
    | _=>exact absurd (show false=true from hs) Bool.false_ne_true
  | byt i=>
    obtain ⟨t,rfl⟩:=rx
    cases y with
    | byt j=>obtain ⟨t',rfl⟩:=ry;exact PySem.W.eq_bytes (fin_bl I q dec_byt)
    | _=>exact absurd (show false=true from hs) Bool.false_ne_true
  | _=>cases y <;> exact absurd (show false=true from hs) Bool.false_ne_true
theorem op_ne:OpR X (compareOp .NotEq) rNe:=by
  intro pins s σ H x y v u Q I rx ry h
  obtain ⟨hs,q⟩:=h
  cases x with
  | non=>
    cases rx
    cases y with
    | non=>cases ry;exact PySem.EqNone.ne_none_none (fin_bl I q (by simp))
    | bl j=>cases ry;exact PySem.EqNone.ne_none_bool (fin_bl I q (by simp))
    | int j=>obtain ⟨t',rfl⟩:=ry;exact PySem.EqNone.ne_none_int (fin_bl I q (by simp))
    | str j=>obtain ⟨t',rfl⟩:=ry;exact PySem.EqNone.ne_none_str (fin_bl I q (by simp))
    | _=>exact absurd (show false=true from hs) Bool.false_ne_true
  | bl i=>
    cases rx
    cases y with
    | non=>cases ry;exact PySem.EqNone.ne_bool_none (fin_bl I q (by simp))
    | bl j=>cases ry;exact ne_bool (fin_bl I q (congrArg not dec_bl))
    | str j=>obtain ⟨t',rfl⟩:=ry;exact PySem.EqMixed.ne_bool_str (fin_bl I q (by simp))
    | _=>exact absurd (show false=true from hs) Bool.false_ne_true
  | int i=>
    obtain ⟨t,rfl⟩:=rx
    cases y with
    | non=>cases ry;exact PySem.EqNone.ne_int_none (fin_bl I q (by simp))
    | int j=>obtain ⟨t',rfl⟩:=ry;exact ne_int (fin_bl I q (congrArg not dec_int))
    | str j=>obtain ⟨t',rfl⟩:=ry;exact PySem.EqMixed.ne_int_str (fin_bl I q (by simp))
    | _=>exact absurd (show false=true from hs) Bool.false_ne_true
  | str i=>
    obtain ⟨t,rfl⟩:=rx
    cases y with
    | non=>cases ry;exact PySem.EqNone.ne_str_none (fin_bl I q (by simp))
    | bl j=>cases ry;exact PySem.EqMixed.ne_str_bool (fin_bl I q (by simp))
    | int j=>obtain ⟨t',rfl⟩:=ry;exact PySem.EqMixed.ne_str_int (fin_bl I q (by simp))
    | str j=>obtain ⟨t',rfl⟩:=ry;exact ne_str (fin_bl I q (congrArg not dec_str))
    | _=>exact absurd (show false=true from hs) Bool.false_ne_true
  | byt i=>
    obtain ⟨t,rfl⟩:=rx
    cases y with
    | byt j=>obtain ⟨t',rfl⟩:=ry;exact PySem.W.ne_bytes (fin_bl I q (congrArg not dec_byt))
    | _=>exact absurd (show false=true from hs) Bool.false_ne_true
  | _=>cases y <;> exact absurd (show false=true from hs) Bool.false_ne_true
theorem op_lt:OpR X (compareOp .Lt) (rI0 fun i j=>.bl (decide (i < j))):=opB0 fun _ _ _ _ _ _ _ q=>lt_int q
theorem op_le:OpR X (compareOp .LtE) (rI0 fun i j=>.bl (decide (i≤j))):=opB0 fun _ _ _ _ _ _ _ q=>le_int q
theorem op_gt:OpR X (compareOp .Gt) (rI0 fun i j=>.bl (decide (j < i))):=opB0 fun _ _ _ _ _ _ _ q=>gt_int q
theorem nomark (b:Expr) {op:CmpOp} (h:op≠.In:=by decide) (h2:op≠.NotIn:=by decide):behindInMarks op b=false:=by
  have e1:(op == CmpOp.In)=false:=by cases op <;> first | rfl | exact absurd rfl h
  have e2:(op == CmpOp.NotIn)=false:=by cases op <;> first | rfl | exact absurd rfl h2
  cases b <;> simp [behindInMarks,e1,e2]
theorem pe_cmpR {op:CmpOp} {r:R2} (ho:OpR X (compareOp op) r) (ha:PE X a ta) (hb:PE X b tb) (hm:behindInMarks op b=false):PE X (.Compare a [op] [b] pos) (tOp r ta tb):=by
  intro pins s σ H Q I h
  exact wpAny_Compare1 (binT ha hb I h fun v u s2 x y H2 I2 rx ry q=>ho pins s2 σ H2 x y v u Q I2 rx ry q) hm
def tTest (t:TE):TT:=fun σ H Q=>t σ H fun x H'=>∃ k,x = .bl k∧Q k H'
theorem pt_cmpR {op:CmpOp} {r:R2} (ho:OpR X (compareOp op) r) (ha:PE X a ta) (hb:PE X b tb) (hm:behindInMarks op b=false):PT X (.Compare a [op] [b] pos) (tTest (tOp r ta tb)):=by
  intro pins s σ H Q I h
  refine wpAny_isTrue_Compare1 (thn (ha pins s σ H _ I h) fun v s1 ⟨x,H1,I1,r1,q1⟩=>thn (hb pins s1 σ H1 _ I1 q1) fun u s2 ⟨y,H2,I2,r2,q2⟩=>
    thn (ho pins s2 σ H2 x y v u _ I2 r1 r2 q2) fun c s3 ⟨z,H3,I3,r3,k,e,q3⟩=>?_) hm
  subst e
  cases r3
  exact wpAny_truthy_bool ⟨H3,I3,q3⟩
def tChain (r r':R2) (ta tb tc:TE):TE:=fun σ H Q=>ta σ H fun x H1=>tb σ H1 fun y H2=>r x y H2 fun z H3=>∃ k,z = .bl k∧
  (if k=true then tc σ H3 fun w' H4=>r' y w' H4 Q else Q (.bl false) H3)
theorem pe_chain {op op':CmpOp} {r r':R2} (ho:OpR X (compareOp op) r) (ho':OpR X (compareOp op') r') (ha:PE X a ta) (hb:PE X b tb) (hc:PE X c tc)
    (hm:lastMarks [op,op'] [b,c]=false:=by with_unfolding_all rfl):PE X (.Compare a [op,op'] [b,c] pos) (tChain r r' ta tb tc):=by
  intro pins s σ H Q I h
  refine Compare_chain (thn (ha pins s σ H _ I h) fun v s1 ⟨x,H1,I1,r1,q1⟩=>chain_link (thn (hb pins s1 σ H1 _ I1 q1) fun u s2 ⟨y,H2,I2,r2,q2⟩=>
    thn (ho pins s2 σ H2 x y v u _ I2 r1 r2 q2) fun d s3 ⟨z,H3,I3,r3,k,e,q3⟩=>?_)) hm
  subst e
  cases r3
  refine wpAny_truthy_bool ?_
  cases k with
  | false=>exact ite_ff ⟨.bl false,H3,I3,rfl,q3⟩
  | true=>exact ite_tt (chain_last (thn (hc pins s3 σ H3 _ I3 q3) fun w' s4 ⟨z',H4,I4,r4,q4⟩=>ho' pins s4 σ H4 y z' u w' Q I4 r2 r4 q4))
theorem pt_chain {op op':CmpOp} {r r':R2} (ho:OpR X (compareOp op) r) (ho':OpR X (compareOp op') r') (ha:PE X a ta) (hb:PE X b tb) (hc:PE X c tc)
    (hm:lastMarks [op,op'] [b,c]=false:=by with_unfolding_all rfl):PT X (.Compare a [op,op'] [b,c] pos) (tTest (tChain r r' ta tb tc)):=by
  intro pins s σ H Q I h
  refine isTrue_chain (thn (ha pins s σ H _ I h) fun v s1 ⟨x,H1,I1,r1,q1⟩=>test_link (thn (hb pins s1 σ H1 _ I1 q1) fun u s2 ⟨y,H2,I2,r2,q2⟩=>
    thn (ho pins s2 σ H2 x y v u _ I2 r1 r2 q2) fun d s3 ⟨z,H3,I3,r3,k,e,q3⟩=>?_)) hm
  subst e
  cases r3
  refine wpAny_truthy_bool ?_
  cases k with
  | false=>
    obtain ⟨k',e',q'⟩:=q3
    cases e'
    exact ite_ff ⟨H3,I3,q'⟩
  | true=>
    refine ite_tt (test_last (thn (hc pins s3 σ H3 _ I3 q3) fun w' s4 ⟨z',H4,I4,r4,q4⟩=>thn (ho' pins s4 σ H4 y z' u w' _ I4 r2 r4 q4) fun d' s5 ⟨z2,H5,I5,r5,k2,e2,q5⟩=>?_))
    subst e2
    cases r5
    exact wpAny_truthy_bool ⟨H5,I5,q5⟩
def TruV (K:Frag) (x:V) (H:Hp) (k:Bool):Prop:=
  match x with
  | .non=>k=false
  | .bl b=>k=b
  | .int i=>k=(i != 0)
  | .str y=>y.length≤sizeLine∧k=((y.length:Int) != 0)
  | .byt y=>y.size≤sizeLine∧k=((y.size:Int) != 0)
  | .ref p=>(∃ xs,SqL K H p xs∧k = !xs.isEmpty)∨(∃ xs,SqT K H p xs∧k = !xs.isEmpty)∨∃ kvs,H p=some (.dK kvs)∧k = !kvs.isEmpty
  | _=>False
theorem isEmpty_kv {κ:Type} {kvs:List (κ×V)} {vs:List (κ×Value)} (r:KV kvs vs):(!vs.isEmpty) = !kvs.isEmpty:=by
  cases r <;> rfl
theorem isEmpty_of {xs:List V} {its:List Value} (r:Vals xs its):(!its.toArray.isEmpty) = !xs.isEmpty:=by
  cases r <;> simp
theorem line63:(sizeLine:Nat) < 2 ^ 63:=by rw [sizeLine_eq];decide
theorem tru_ok:TruR X (fun x H Q=>∃ k,TruV X.K x H k∧Q k H):=by
  intro pins s σ H x v Q I rx h
  obtain ⟨k,e,q⟩:=h
  have hl:=line63
  have hs:sizeLine=16777216:=sizeLine_eq
  cases x with
  | non=>
    cases rx
    have e':k=false:=e
    subst e'
    exact truthy_none ⟨H,I,q⟩
  | bl b=>
    cases rx
    have e':k=b:=e
    subst e'
    exact wpAny_truthy_bool ⟨H,I,q⟩
  | int i=>
    obtain ⟨t,rfl⟩:=rx
    have e':k=(i != 0):=e
    subst e'
    exact PySem.P.truthy_int ⟨H,I,q⟩
  | str y=>
    obtain ⟨t,rfl⟩:=rx
    obtain ⟨hy,e'⟩ : y.length≤sizeLine∧k=((y.length:Int) != 0):=e
    subst e'
    exact PySem.P.truthy_str (by omega) ⟨H,I.tok _,q⟩
  | byt y=>
    obtain ⟨t,rfl⟩:=rx
    obtain ⟨hy,e'⟩ : y.size≤sizeLine∧k=((y.size:Int) != 0):=e
    subst e'
    exact PySem.W.truthy_bytes (by omega) ⟨H,I.tok _,q⟩
  | ref p=>
    cases rx
    have e':(∃ xs,SqL X.K H p xs∧k = !xs.isEmpty)∨(∃ xs,SqT X.K H p xs∧k = !xs.isEmpty)∨∃ kvs,H p=some (.dK kvs)∧k = !kvs.isEmpty:=e
    rcases e' with ⟨xs,hx,e'⟩ | ⟨xs,hx,e'⟩ | ⟨kvs,hx,e'⟩
    · subst e'
      obtain ⟨its,r,pl,hz⟩:=I.list hx
      have hlen:=r.length
      exact wpAny_truthy_list pl.isList (by simp only [List.size_toArray];omega) ⟨H,I.tok _,by rw [isEmpty_of r];exact q⟩
    · subst e'
      obtain ⟨its,r,pl,hz⟩:=I.tuple hx
      have hlen:=r.length
      exact truthy_tuple pl (by simp only [List.size_toArray];omega) ⟨H,I.tok _,by rw [isEmpty_of r];exact q⟩
    · subst e'
      obtain ⟨hz,hS,vs,r,m⟩ : kvs.length≤sizeLine∧(p == sysModules)=false∧∃ vs,KV kvs vs∧s.heap.DictOf (mixKind X.prog X.w) p vs:=I.hok p _ hx
      have hlen:kvs.length=vs.length:=Paired.length r
      exact wpAny_truthy_dict hS m (by omega) ⟨H,I.tok _,by rw [isEmpty_kv r];exact q⟩
  | _=>exact (show False from e).elim
theorem pt_truth (ha:PE X a ta) (he:∀ whole,isTrue a X.env whole=(do let v ← whole;standAt a.pos;holding [v] (truthy v))) :
    PT X a (fun σ H Q=>ta σ H fun x H'=>∃ k,TruV X.K x H' k∧Q k H'):=by
  intro pins s σ H Q I h
  exact isTrue_plain (thn (ha pins s σ H _ I h) fun v s1 ⟨x,H1,I1,r1,q1⟩=>tru_ok pins s1 σ H1 x v Q I1 r1 q1) (he _)
theorem vals1 {x:V} {us:List Value} (r:Vals [x] us):∃ u,us=[u]∧RelV x u:=by
  cases r with
  | cons r1 r2=>cases r2;exact ⟨_,rfl,r1⟩
theorem vals2 {x y:V} {us:List Value} (r:Vals [x,y] us):∃ u w',us=[u,w']∧RelV x u∧RelV y w':=by
  cases r with
  | cons r1 r2=>
    cases r2 with
    | cons r3 r4=>cases r4;exact ⟨_,_,rfl,r1,r3⟩
theorem call_max2 (hc:X.calm=true):CallR X (.builtin "max") (fun xs H Q=>∃ i j,xs=[.int i,.int j]∧Q (.int (if j > i then j else i)) H):=by
  intro pins s σ H xs us Q I r h
  obtain ⟨i,j,rfl,q⟩:=h
  obtain ⟨u,w',rfl,⟨t,rfl⟩,⟨t',rfl⟩⟩:=vals2 r
  refine max_two_ints (I.ok.hd hc) fun h' tk k=>⟨_,H,I.kept k,?_,q⟩
  by_cases hj:j > i
  · rw [if_pos hj,if_pos hj];exact ⟨_,rfl⟩
  · rw [if_neg hj,if_neg hj];exact ⟨_,rfl⟩
theorem call_min2 (hc:X.calm=true):CallR X (.builtin "min") (fun xs H Q=>∃ i j,xs=[.int i,.int j]∧Q (.int (if j < i then j else i)) H):=by
  intro pins s σ H xs us Q I r h
  obtain ⟨i,j,rfl,q⟩:=h
  obtain ⟨u,w',rfl,⟨t,rfl⟩,⟨t',rfl⟩⟩:=vals2 r
  refine min_two_ints (I.ok.hd hc) fun h' tk k=>⟨_,H,I.kept k,?_,q⟩
  by_cases hj:j < i
  · rw [if_pos hj,if_pos hj];exact ⟨_,rfl⟩
  · rw [if_neg hj,if_neg hj];exact ⟨_,rfl⟩
end
end L2
namespace L2
open PySem PySem.Spec PyProof.Rows
structure ObjM (h:Heap) (x dx C:Addr) (mA:Str→Option Value):Prop where
  obj:h.get? x=some (PySem.W.instObj C dx)
  ns:h.Ns1 dx mA
  ne:dx≠x
theorem lookIn_ns {h:Heap} {dx:Addr} {mA:Str→Option Value} (n:h.Ns1 dx mA):∃ od,h.get? dx=some od∧∀ name,PySem.W.lookIn name od=some (mA name):=by
  obtain ⟨o,es,ep,ho,hd,hk,_,hm⟩:=n
  refine ⟨o,ho,fun name=>?_⟩
  have e:=hm name
  unfold nsFind findBy at e
  rw [← Array.find?_toList] at e
  unfold PySem.W.lookIn
  rw [hd]
  dsimp only
  split
  · rename_i y q
    rw [q] at e
    exact congrArg some e
  · rename_i q
    rw [q] at e
    have a:es.toList.any (·.refKey)=false:=by
      rw [List.any_eq_false]
      intro y hy
      obtain ⟨z,t,hkey⟩:=hk y (Array.mem_toList_iff.mp hy)
      simp [DictEntry.refKey,hkey]
    have a':¬ es.toList.any (·.refKey)=true:=by rw [a];exact Bool.false_ne_true
    rw [if_neg a']
    exact congrArg some e
theorem ObjM.look {h:Heap} {x dx C:Addr} {mA:Str→Option Value} (I:ObjM h x dx C mA):∃ od,PySem.W.InstAt h x (PySem.W.instObj C dx) C (some od)∧∀ name,PySem.W.lookIn name od=some (mA name):=
  let ⟨od,ho,hl⟩:=lookIn_ns I.ns
  ⟨od,⟨I.obj,rfl,rfl,ho⟩,hl⟩
section
variable {prog:Program} {w:World} {A:Around} {E:Value→Shared→Prop} {s:Shared} {K:Frag} {x dx C f:Addr} {mA:Str→Option Value} {name:Str} {v:Value}
theorem get_map {expr:Bool} {Q:Value→Shared→Prop} (X:K.In s.heap) (I:ObjM s.heap x dx C mA) (hg:PySem.W.plainGet K C name=true) (hh:PySem.W.hasDictIn K C=true)
    (ha:findIn K (.ref C) name=some none) (hv:mA name=some v) (hv':PySem.W.handedIn v=true) (h:Q v { s with toks:=s.toks+1 }) :
    wpAny (model prog w) A (getAttr (.ref x) name expr) Q E s:=by
  obtain ⟨od,J,hl⟩:=I.look
  exact PySem.W.get_value X J (PySem.W.plainGet_of hg).1 (PySem.W.findObj_own hh ha rfl (by rw [hl,hv])) hv' h
theorem get_meth {pl:Sem Bool} {Q:Value×List Value→Shared→Prop} (X:K.In s.heap) (I:ObjM s.heap x dx C mA) (hg:PySem.W.plainGet K C name=true)
    (hf:findIn K (.ref C) name=some (some (.ref f))) (ht:PySem.W.isFn K (.ref f)=true) (hv:mA name=none) (h:Q (.ref f,[.ref x]) s) :
    wpAny (model prog w) A (getMethod (.ref x) name pl) Q E s:=by
  obtain ⟨od,J,hl⟩:=I.look
  exact PySem.W.method_fn X J (PySem.W.plainGet_of hg).1 (PySem.W.plainGet_of hg).2 hf (beq_iff_eq.mp ht) (by show (PySem.W.lookIn name od).map (·.isSome)=some false;rw [hl,hv];rfl) h
theorem set_map {ns:List Str} {Q:Unit→Shared→Prop} (X:K.In s.heap) (I:ObjM s.heap x dx C mA)
    (hs:findIn K (.ref C) "__setattr__" = some (some (.builtin "object.__setattr__"))) (hp:PySem.W.plainOver K C=true) (ht:PySem.W.takerIn K C name=some none) (hh:PySem.W.hasDictIn K C=true)
    (hw:PySem.Within mA ns) (hsz:ns.length≤sizeLine)
    (h:∀ h',ObjM h' x dx C (fun y=>if y=name then some v else mA y)→Heap.SameBut dx s.heap h'→Q () { s with heap:=h',toks:=s.toks+2 }) :
    wpAny (model prog w) A (setAttr (.ref x) name v) Q E s:=by
  obtain ⟨od,J,hl⟩:=I.look
  refine PySem.W.set_plain X J hs (PySem.W.osa_open (s:={ s with toks:=s.toks+1 }) (r:=none) X J hp ht fun b=>?_)
  obtain ⟨cd,hc,hd'⟩:=PySem.W.any_some hh
  have hx:s.heap.get? x=some ⟨.ref C,some dx,.plain,#[]⟩:=I.obj
  refine wpAny_bind (wpAny_pure (wpAny_bind (wpAny_bind (wpAny_loadPart hx (wpAny_bind (PySem.W.Looks.here (s:={ s with toks:=s.toks+1 }) (PySem.W.looks_clsIn X hc) ?_))))))
  rw [hd']
  refine wpAny_pure (a:=some dx) (wpAny_bind (wpAny_pure (wpAny_bind ?_)))
  refine wpAny_nsSet1 (s:={ s with toks:=s.toks+1 }) I.ns fun h' hn2 hs2=>?_
  obtain ⟨oD,esD,epD,hoD,hdD,hcD⟩:=hn2.count (PySem.Within.cons name v hw)
  refine wpAny_bind (wpAny_lookBehind hoD (by rw [hdD];exact pastItsLine_dict (Nat.le_trans hcD (by rw [List.length_cons];omega))) ?_)
  exact wpAny_pure (h _ ⟨(hs2.2 _ (Ne.symm I.ne)).trans I.obj,hn2,I.ne⟩ hs2)
theorem make_map {R:Result→Shared→Prop} {vs:List Value} {kw:List (Str×Value)} (X:K.In s.heap) (hm:PySem.W.makesIn K C=true)
    (hi:findIn K (.ref C) "__init__" = some (some (.ref f))) (hf:PySem.W.typeIn K (.ref f)=some (.type "function"))
    (h:codeAny (model prog w) (A.under (.builtin "type.__call__" ⟨.ref C :: vs,kw⟩)) (.call (.ref f) ⟨.ref (s.heap.objs.size+1) :: vs,kw⟩) (PySem.W.InitBack (s.heap.objs.size+1) R)
      { s with heap:=(s.heap.push PySem.W.emptyDict).push (PySem.W.instObj C s.heap.objs.size) }) :
    codeAny (model prog w) A (.call (.ref C) ⟨vs,kw⟩) R s:=by
  obtain ⟨hh,g,d,t,os⟩:=s
  exact PySem.W.make_core (PySem.W.makes_of X hm) (PySem.W.looks_findIn X hi) (fun self=>PySem.W.bind_fn X self hf) (.inl rfl) h
end
def putF (f:Str) (v:V):List (Str×V)→List (Str×V)
  | []=>[(f,v)]
  | (g,x) :: r=>if g=f then (g,v) :: r else (g,x) :: putF f v r
theorem lookup_putF (f g:Str) (v:V):∀ fs:List (Str×V),(putF f v fs).lookup g=if g=f then some v else fs.lookup g
  | []=>by
    show List.lookup g [(f,v)]=_
    by_cases h:g=f
    · have hb:(g == f)=true:=beq_iff_eq.mpr h
      simp only [List.lookup,hb,if_pos h]
    · have hb:(g == f)=false:=beq_eq_false_iff_ne.mpr h
      simp only [List.lookup,hb,if_neg h]
  | (k,x) :: r=>by
    have ih:=lookup_putF f g v r
    rw [show putF f v ((k,x) :: r)=(if k=f then (k,v) :: r else (k,x) :: putF f v r) from rfl]
    by_cases hk:k=f
    · rw [if_pos hk]
      by_cases h:g=k
      · have hb:(g == k)=true:=beq_iff_eq.mpr h
        simp only [List.lookup,hb,if_pos (h.trans hk)]
      · have hb:(g == k)=false:=beq_eq_false_iff_ne.mpr h
        simp only [List.lookup,hb,if_neg (fun e:g=f=>h (e.trans hk.symm))]
    · rw [if_neg hk]
      by_cases h:g=k
      · have hb:(g == k)=true:=beq_iff_eq.mpr h
        simp only [List.lookup,hb,if_neg (fun e:g=f=>hk (h.symm.trans e))]
      · have hb:(g == k)=false:=beq_eq_false_iff_ne.mpr h
        simp only [List.lookup,hb]
        exact ih
theorem keys_putF (f:Str) (v:V):∀ fs:List (Str×V),f∈(putF f v fs).map (·.1)∧∀ g,g∈fs.map (·.1)→g∈(putF f v fs).map (·.1)
  | []=>⟨by simp [putF],fun g h=>by simp at h⟩
  | (k,x) :: r=>by
    obtain ⟨i1,i2⟩:=keys_putF f v r
    rw [show putF f v ((k,x) :: r)=(if k=f then (k,v) :: r else (k,x) :: putF f v r) from rfl]
    by_cases hk:k=f
    · rw [if_pos hk]
      subst hk
      exact ⟨by simp,fun g h=>by simpa using h⟩
    · rw [if_neg hk]
      refine ⟨?_,fun g h=>?_⟩
      · rw [List.map_cons]
        exact List.mem_cons_of_mem _ i1
      · rw [List.map_cons] at h ⊢
        rcases List.mem_cons.mp h with e | e
        · exact List.mem_cons.mpr (.inl e)
        · exact List.mem_cons_of_mem _ (i2 g e)
theorem length_putF (f:Str) (v:V):∀ fs:List (Str×V),(putF f v fs).length≤fs.length+1
  | []=>by simp [putF]
  | (k,x) :: r=>by
    have ih:=length_putF f v r
    rw [show putF f v ((k,x) :: r)=(if k=f then (k,v) :: r else (k,x) :: putF f v r) from rfl]
    by_cases hk:k=f
    · rw [if_pos hk,List.length_cons,List.length_cons];omega
    · rw [if_neg hk,List.length_cons,List.length_cons];omega
theorem RelO.some_of {v:V} {o:Option Value} (r:RelO (some v) o):∃ u,o=some u∧RelV v u:=by
  cases o with
  | none=>exact (show False from r).elim
  | some u=>exact ⟨u,rfl,r⟩
theorem RelO.none_of {o:Option Value} (r:RelO none o):o=none:=by
  cases o with
  | none=>rfl
  | some u=>exact (show False from r).elim
theorem handed_of {v:V} {u:Value} (r:RelV v u):PySem.W.handedIn u=true:=by
  cases v with
  | non=>cases (show u=Value.none from r);rfl
  | bl b=>cases (show u=Value.bool b from r);rfl
  | int i=>obtain ⟨t,e⟩:=(show ∃ t,u=Value.int i t from r);cases e;rfl
  | str x=>obtain ⟨t,e⟩:=(show ∃ t,u=Value.str x t from r);cases e;rfl
  | byt b=>obtain ⟨t,e⟩:=(show ∃ t,u=Value.bytes b t from r);cases e;rfl
  | flt b=>obtain ⟨t,e⟩:=(show ∃ t,u=Value.float b t from r);cases e;rfl
  | ref a=>cases (show u=Value.ref a from r);rfl
  | ty n=>cases (show u=Value.type n from r);rfl
section
variable {P:Program} {w:World} {H H':Hp} {h h':Heap} {a C dx:Addr} {fs fs':List (Str×V)}
theorem ins_get (hok:HOk P w H h) (e:H a=some (.ins C dx fs)):∃ mA,ObjM h a dx C mA∧(∀ f,RelO (fs.lookup f) (mA f))∧PySem.Within mA (fs.map (·.1))∧fs.length≤1000∧H dx=some (.own a):=by
  obtain ⟨d,z,ne,ob,mA,n,r,q⟩:=(show ObjOk P w H h a (.ins C dx fs) from hok a _ e)
  exact ⟨mA,⟨ob,n,ne⟩,r,q,z,d⟩
end
structure Cls (K:Frag) (C:Addr):Prop where
  pg:PySem.W.plainGet K C Str.empty=true
  hd:PySem.W.hasDictIn K C=true
  po:PySem.W.plainOver K C=true
  sa:findIn K (.ref C) "__setattr__" = some (some (.builtin "object.__setattr__"))
theorem Cls.get {K:Frag} {C:Addr} (c:Cls K C) (f:Str):PySem.W.plainGet K C f=true:=c.pg
def NoAttr (K:Frag) (C:Addr) (f:Str):Prop:=findIn K (.ref C) f=some none
theorem NoAttr.taker {K:Frag} {C:Addr} {f:Str} (n:NoAttr K C f):PySem.W.takerIn K C f=some none:=by
  unfold PySem.W.takerIn
  rw [show findIn K (.ref C) f=some none from n]
  rfl
structure Meth (K:Frag) (C:Addr) (m:Str) (f:Addr):Prop where
  at_:findIn K (.ref C) m=some (some (.ref f))
  fn:PySem.W.isFn K (.ref f)=true
  kp:keepIn K (.ref f)=true
section
variable {X:Cx} {pins:List (Addr×Obj)} {σ:St} {H:Hp} {s:Shared} {a C dx:Addr} {fs:List (Str×V)} {f:Str} {v:V} {A:Around} {E:Value→Shared→Prop}
theorem getattr_ok {b:Bool} {Q:Value→Shared→Prop} (I:Inv X pins σ H s) (e:H a=some (.ins C dx fs)) (c:Cls X.K C) (n:NoAttr X.K C f) (l:fs.lookup f=some v)
    (h:∀ u s',Inv X pins σ H s'→RelV v u→Q u s'):wpAny (model X.prog X.w) A (getAttr (.ref a) f b) Q E s:=by
  obtain ⟨mA,O,r,_,_,_⟩:=ins_get I.hok e
  obtain ⟨u,hu,ru⟩:=RelO.some_of (v:=v) (o:=mA f) (by rw [← l];exact r f)
  exact get_map I.kIn O (c.get f) c.hd n hu (handed_of ru) (h u _ (I.tok _) ru)
theorem getmeth_ok {m:Str} {g:Addr} {pl:Sem Bool} {Q:Value×List Value→Shared→Prop} (I:Inv X pins σ H s) (e:H a=some (.ins C dx fs)) (c:Cls X.K C) (k:Meth X.K C m g) (l:fs.lookup m=none)
    (h:Q (.ref g,[.ref a]) s):wpAny (model X.prog X.w) A (getMethod (.ref a) m pl) Q E s:=by
  obtain ⟨mA,O,r,_,_,_⟩:=ins_get I.hok e
  have hn:mA m=none:=RelO.none_of (by rw [← l];exact r m)
  exact get_meth I.kIn O (c.get m) k.at_ k.fn hn h
theorem setattr_ok {y:V} {u:Value} {Q:Unit→Shared→Prop} (I:Inv X pins σ H s) (e:H a=some (.ins C dx fs)) (c:Cls X.K C) (n:NoAttr X.K C f) (hl:fs.length < 1000) (ry:RelV y u)
    (h:∀ s',Inv X pins σ (upd H a (.ins C dx (putF f y fs))) s'→Q () s'):wpAny (model X.prog X.w) A (setAttr (.ref a) f u) Q E s:=by
  obtain ⟨mA,O,r,wi,_,ho⟩:=ins_get I.hok e
  have hz:(fs.map (·.1)).length≤sizeLine:=by rw [List.length_map,sizeLine_eq];omega
  refine set_map I.kIn O c.sa c.po n.taker c.hd wi hz fun h' O' sb=>h _ ?_
  have hd:∃ o,h'.get? dx=some o:=let ⟨o,_,_,e',_⟩:=O'.ns;⟨o,e'⟩
  refine I.write (x:=a) (e:=dx) (by rw [e];exact True.intro) (.inr ho) (fun b q hb z=>(sb.2 b hb).trans z) hd ?_
  refine ⟨by rw [upd_ne O.ne];exact ho,?_,O.ne,O'.obj,_,O'.ns,fun g=>?_,fun g hg=>?_⟩
  · have:=length_putF f y fs;omega
  · show RelO ((putF f y fs).lookup g) (if g=f then some u else mA g)
    rw [lookup_putF]
    by_cases q:g=f
    · rw [if_pos q,if_pos q];exact ry
    · rw [if_neg q,if_neg q];exact r g
  · by_cases q:g=f
    · rw [q];exact (keys_putF f y fs).1
    · refine (keys_putF f y fs).2 g (wi g fun z=>hg ?_)
      show (if g=f then some u else mA g)=none
      rw [if_neg q];exact z
theorem Inv.made (I:Inv X pins σ H s):Inv X pins σ (upd (upd H s.heap.objs.size (.own (s.heap.objs.size+1))) (s.heap.objs.size+1) (.ins C s.heap.objs.size []))
    { s with heap:=(s.heap.push PySem.W.emptyDict).push (PySem.W.instObj C s.heap.objs.size) }:=by
  have e1:(s.heap.push PySem.W.emptyDict).get? s.heap.objs.size=some PySem.W.emptyDict:=Heap.get?_push_size s.heap rfl
  have e2:((s.heap.push PySem.W.emptyDict).push (PySem.W.instObj C s.heap.objs.size)).get? (s.heap.objs.size+1)=some (PySem.W.instObj C s.heap.objs.size):=by
    have:=Heap.get?_push_size (s.heap.push PySem.W.emptyDict) (o:=PySem.W.instObj C s.heap.objs.size) rfl
    rwa [Heap.size_push] at this
  have e3:(s.heap.push PySem.W.emptyDict).Ns s.heap.objs.size (fun _=>none):=⟨PySem.W.emptyDict,#[],_,e1,rfl,(fun e he=>absurd he (by simp)),fun _=>rfl⟩
  have I1:=I.laid (a:=s.heap.objs.size) (o:=.own (s.heap.objs.size+1)) (h':=s.heap.push PySem.W.emptyDict) (t':=s.toks) (fun b u q=>Heap.get?_push_of_some _ q) (Nat.le_refl _) ⟨_,e1⟩
  refine I1.laid (a:=s.heap.objs.size+1) (o:=.ins C s.heap.objs.size []) (t':=s.toks) (fun b u q=>Heap.get?_push_of_some _ q) (Nat.le_of_eq (Heap.size_push _ _)) ?_
  have ne:s.heap.objs.size≠s.heap.objs.size+1:=Nat.ne_of_lt (Nat.lt_succ_self _)
  refine ⟨by rw [upd_ne ne,upd_same],Nat.zero_le _,ne,e2,fun _=>none,(Heap.Ns1.of_empty e3).at fun o q=>Heap.get?_push_of_some _ q,fun _=>True.intro,fun y hy=>absurd rfl hy⟩
theorem attr_of {prog:Program} {w:World} {env:Env} {e:Expr} {f:Str} {pos:Pos} {s:Shared} {Q:Value→Shared→Prop} (hb:attributeBase e f env (eval e env)=eval e env)
    (h:wpAny (model prog w) A (eval e env) (fun o s₁=>wpAny (model prog w) A (getAttr o f true) Q E s₁) E s):wpAny (model prog w) A (eval (.Attribute e f pos) env) Q E s:=
  Attribute_any_ h (by rw [arm_eval_Attribute,hb])
end
def tFld (K:Frag) (ta:TE) (f:Str):TE:=fun σ H Q=>ta σ H fun x H1=>∃ a C dx fs v,x = .ref a∧H1 a=some (.ins C dx fs)∧Cls K C∧NoAttr K C f∧fs.lookup f=some v∧Q v H1
def sFld (K:Frag) (ta tv:TE) (f:Str):TS:=fun D σ H=>tv σ H fun y H1=>ta σ H1 fun x H2=>∃ a C dx fs,x = .ref a∧H2 a=some (.ins C dx fs)∧Cls K C∧NoAttr K C f∧fs.length < 1000∧
  D.nx σ (upd H2 a (.ins C dx (putF f y fs)))
section
variable {X:Cx} {o e value:Expr} {f:Str} {pos pos' tpos:Pos} {ta tv:TE}
theorem pe_fld (he:PE X e ta) (hb:attributeBase e f X.env (eval e X.env)=eval e X.env):PE X (.Attribute e f pos) (tFld X.K ta f):=by
  intro pins s σ H Q I h
  refine attr_of hb (thn (he pins s σ H _ I h) fun u s1 ⟨x,H1,I1,rx,a,C,dx,fs,v,ex,ea,c,n,l,q⟩=>?_)
  subst ex
  obtain rfl:u=Value.ref a:=rx
  exact getattr_ok I1 ea c n l fun u' s2 I2 ru=>⟨v,H1,I2,ru,q⟩
theorem ps_fld (ha:PE X o ta) (hv:PE X value tv) (hs:swapsWith value (some (.Attribute o f pos')) pos.line X.env=pure false):PS X (.Assign [.Attribute o f pos'] value pos) (sFld X.K ta tv f):=by
  intro pins s σ H D I h
  refine plainObj_wpAny_Assign_Attribute (thn (hv pins s σ H _ I h) fun u s1 ⟨y,H1,I1,ry,q⟩=>thn (ha pins s1 σ H1 _ I1 q) fun ov s2 ⟨x,H2,I2,rx,a,C,dx,fs,ex,ea,c,n,l,q2⟩=>?_) hs
  subst ex
  obtain rfl:ov=Value.ref a:=rx
  exact setattr_ok I2 ea c n l ry fun s3 I3=>⟨σ,_,I3,q2⟩
end
section
variable {X:Cx} {pins:List (Addr×Obj)} {σ:St} {H:Hp} {s:Shared} {A:Around} {E:Value→Shared→Prop} {Q:Value→Shared→Prop} {c:Value} {b:Bool}
end
end L2
namespace L2
open PySem PySem.Spec PyProof.Rows
structure Room (k:Nat) (A:Around):Prop where
  hd:A.handled=none
  dp:A.depth+3 * k+5 < recursionLimit
  un:A.units+16 * k+200 < cLine
theorem Room.mono {j k:Nat} {A:Around} (r:Room k A) (h:j≤k):Room j A:=⟨r.hd,by have:=r.dp;omega,by have:=r.un;omega⟩
theorem Room.deeper {k:Nat} {A:Around} (r:Room (k+1) A) (env:Env):Room k (A.deeper env):=
  ⟨r.hd,by have:=r.dp;show A.depth+1+3 * k+5 < _;omega,by have:=r.un;show A.units+3+16 * k+200 < _;omega⟩
theorem make_depth {A:Around} {C:Addr} {us:List Value} {kw:List (Str×Value)}:(A.under (.builtin "type.__call__" ⟨.ref C :: us,kw⟩)).depth=A.depth+1:=by
  first | rfl | simp [Around.under,Code.weight,Code.isCreation,Code.isGuard,Code.isCaller,Code.frames,Code.isFrame,guardIds]
theorem make_units {A:Around} {C:Addr} {us:List Value} {kw:List (Str×Value)}:(A.under (.builtin "type.__call__" ⟨.ref C :: us,kw⟩)).units=A.units+1:=by
  first | rfl | simp [Around.under,Code.cUnits,Code.frames,Code.isFrame]
theorem Room.make {k:Nat} {A:Around} (r:Room (k+1) A) (C:Addr) (us:List Value) (kw:List (Str×Value)):Room k (A.under (.builtin "type.__call__" ⟨.ref C :: us,kw⟩)):=
  ⟨r.hd,by have:=r.dp;rw [make_depth];omega,by have:=r.un;rw [make_units];omega⟩
theorem Room.depth {k:Nat} {A:Around} (r:Room k A):A.depth < recursionLimit:=by have:=r.dp;omega
theorem Room.units {k:Nat} {A:Around} (r:Room k A):A.units+64 < cLine:=by have:=r.un;omega
def tNil:TA:=fun _ H Q=>Q [] H
def tCons (ta:TE) (tr:TA):TA:=fun σ H Q=>ta σ H fun x H1=>tr σ H1 fun xs H2=>Q (x :: xs) H2
section
variable {X:Cx} {e:Expr} {es:List Expr} {te:TE} {t:TA} {pos:Pos}
theorem pa_nil:PA X [] tNil:=fun _ _ _ _ H Q I h=>Calls.spliced_nil ⟨[],H,I,.nil,h⟩
theorem pa_cons (ha:PE X e te) (hr:PA X es t) (hs:starEach (e :: es) X.env=(false,eval e X.env) :: starEach es X.env:=by rfl):PA X (e :: es) (tCons te t):=by
  intro pos pins s σ H Q I h
  rw [hs]
  show wpAny _ _ (spliced ((false,eval e X.env) :: backTo pos (starEach es X.env))) _ _ s
  refine Calls.spliced_cons (thn (ha pins s σ H _ I h) fun u s1 ⟨x,H1,I1,r1,q1⟩=>?_)
  exact thn (hr pos pins s1 σ H1 _ I1 q1) fun us s2 ⟨xs,H2,I2,r2,q2⟩=>⟨x :: xs,H2,I2,.cons r1 r2,q2⟩
def tTup (t:TA):TE:=fun σ H Q=>t σ H fun xs H1=>xs.length≤sizeLine∧∀ p,H1 p=none→Q (.ref p) (upd H1 p (.tup xs))
def tLst (t:TA):TE:=fun σ H Q=>t σ H fun xs H1=>xs.length≤sizeLine∧∀ p,H1 p=none→Q (.ref p) (upd H1 p (.lst xs))
theorem pe_tup {x1} (h:PA X es t):PE X (.Tuple es x1 pos) (tTup t):=by
  intro pins s σ H Q I hq
  refine wpAny_Tuple_spliced (thn (h pos pins s σ H _ I hq) fun us s1 ⟨xs,H1,I1,r,z,q⟩=>⟨by rw [← r.length];exact z,?_⟩)
  have hf:H1 s1.heap.objs.size=none:=I1.hok.fresh (Nat.le_refl _)
  refine ⟨.ref s1.heap.objs.size,upd H1 s1.heap.objs.size (.tup xs),I1.laid (t':=s1.toks) (fun b u e=>Heap.get?_push_of_some _ e) (Nat.le_refl _) ?_,rfl,q _ hf⟩
  exact ⟨z,us,r,⟨_,Heap.get?_push_size _ rfl,rfl,_,rfl⟩⟩
theorem pe_lst (h:PA X es t):PE X (.List es pos) (tLst t):=by
  intro pins s σ H Q I hq
  refine wpAny_List_spliced (thn (h pos pins s σ H _ I hq) fun us s1 ⟨xs,H1,I1,r,z,q⟩=>⟨by rw [← r.length];exact z,?_⟩)
  have hf:H1 s1.heap.objs.size=none:=I1.hok.fresh (Nat.le_refl _)
  refine ⟨.ref s1.heap.objs.size,upd H1 s1.heap.objs.size (.lst xs),I1.laid (t':=s1.toks) (fun b u e=>Heap.get?_push_of_some _ e) (Nat.le_refl _) ?_,rfl,q _ hf⟩
  exact ⟨z,us,0,r,Heap.get?_push_size _ rfl⟩
end
abbrev Sp:=List V→Hp→VK→XK→Prop
abbrev CXT:=List Env→Hp→Shared→XK→Value→Shared→Prop
structure Env0 (P:Program) (w:World) (K:Frag) (mg:Str→Option Value) (base:Heap) (A:Around) (outer:List Env) (s:Shared) (H:Hp):Prop where
  frames:A.frames=some outer
  mod:Mod K mg base
  bs:∀ b o,base.get? b=some o→s.heap.get? b=some o∧H b=none
  bsz:base.objs.size≤s.heap.objs.size
  funs:s.heap.FunFrames base outer
  frf:∀ b∈frs outer,H b=none
  hok:HOk P w H s.heap
  bare:AllBare s.gens
def CE (outer:List Env) (P:Program) (w:World) (H:Hp) (s:Shared) (Q:VK) (u:Value) (s':Shared):Prop:=
  ∃ v H',s'.os=s.os∧AllBare s'.gens∧Un (frs outer) [] H H' s.heap s'.heap∧HOk P w H' s'.heap∧RelV v u∧Q v H'
def CR (CX:CXT) (outer:List Env) (P:Program) (w:World) (H:Hp) (s:Shared) (Q:VK) (E:XK) (r:Result) (s':Shared):Prop:=
  match r with
  | .ok (.ret u)=>CE outer P w H s Q u s'
  | .ok _=>False
  | .error e=>CX outer H s E e s'
structure FnOk (P:Program) (w:World) (K:Frag) (mg:Str→Option Value) (base:Heap) (CX:CXT) (k:Nat) (f:Addr) (fd:FuncData) (ps:List Str) (sp:Sp):Prop where
  len:∀ vs H Q E,sp vs H Q E→vs.length=ps.length
  run:∀ (A:Around) (outer:List Env) (s:Shared) (H:Hp) (args:Args) (us:List Value) (vs:List V) (Q:VK) (E:XK),Room k A→Env0 P w K mg base A outer s H→BindsTo s fd args (ps.zip us)→Vals vs us→sp vs H Q E→
    codeAny (model P w) A (.call (.ref f) args) (CR CX outer P w H s Q E) s
theorem FnOk.mono {P:Program} {w:World} {K:Frag} {mg:Str→Option Value} {base:Heap} {CX:CXT} {j k:Nat} {f:Addr} {fd:FuncData} {ps:List Str} {sp:Sp} (F:FnOk P w K mg base CX j f fd ps sp) (h:j≤k) :
    FnOk P w K mg base CX k f fd ps sp:=⟨F.len,fun A outer s H args us vs Q E hr=>F.run A outer s H args us vs Q E (hr.mono h)⟩
theorem Env0.make {P:Program} {w:World} {K:Frag} {mg:Str→Option Value} {base:Heap} {A:Around} {outer:List Env} {s:Shared} {H:Hp} (e:Env0 P w K mg base A outer s H) (C:Addr) (us:List Value) (kw:List (Str×Value)) :
    Env0 P w K mg base (A.under (.builtin "type.__call__" ⟨.ref C :: us,kw⟩)) outer s H:=⟨by first | exact e.frames | (simpa [Around.under,Code.envs,Code.isFrame,pushEnvs] using e.frames),e.mod,e.bs,e.bsz,e.funs,e.frf,e.hok,e.bare⟩
section
variable {X:Cx} {pins:List (Addr×Obj)} {σ:St} {H:Hp} {s s':Shared}
theorem Inv.env0 (I:Inv X pins σ H s):Env0 X.prog X.w X.K X.mg X.base X.A X.stack s H:=
  ⟨I.ok.frames,I.ok.mod,I.bs,Nat.le_trans I.ok.bsz I.sz,I.stack,I.stkFree,I.hok,I.bare⟩
theorem Inv.after {Q:VK} {u:Value} (I:Inv X pins σ H s) (h:CE X.stack X.prog X.w H s Q u s'):EP X pins σ Q u s':=by
  obtain ⟨v,H',os,bare,un,hok,r,q⟩:=h
  obtain ⟨hh,g,d,t,os'⟩:=s'
  obtain rfl:os'=s.os:=os
  exact ⟨v,H',I.call (h':=hh) (g':=g) (d':=d) (t':=t) (ch:=[]) un hok bare (fun b z=>absurd z (by simp)),r,q⟩
end
def tCall (sp:Sp) (dvs:List V) (E:XK) (t:TA):TE:=fun σ H Q=>t σ H fun vs H1=>sp (vs ++ dvs) H1 Q E
def tMeth (C:Addr) (m:Str) (sp:Sp) (dvs:List V) (E:XK) (ta:TE) (t:TA):TE:=fun σ H Q=>ta σ H fun x H1=>∃ a dx fs,x = .ref a∧H1 a=some (.ins C dx fs)∧fs.lookup m=none∧
  t σ H1 fun vs H2=>sp (x :: (vs ++ dvs)) H2 Q E
def tMake (C:Addr) (sp:Sp) (dvs:List V) (E:XK) (t:TA):TE:=fun σ H Q=>t σ H fun vs H1=>∀ x dx,H1 x=none→H1 dx=none→dx≠x→
  sp (.ref x :: (vs ++ dvs)) (upd (upd H1 dx (.own x)) x (.ins C dx [])) (fun v H2=>v = .non∧Q (.ref x) H2) E
def Binds (K:Frag) (fd:FuncData) (ps:List Str) (ds:List Value):Prop:=
  ∀ (s:Shared) (us:List Value),K.In s.heap→(us ++ ds).length=ps.length→BindsTo s fd ⟨us,[]⟩ (ps.zip (us ++ ds))
theorem Binds.all {K:Frag} {fd:FuncData} {ps:List Str} (h:∀ us:List Value,us.length=ps.length→bindArgs fd ⟨us,[]⟩=pure (ps.zip us)):Binds K fd ps []:=fun s us _ hl=>by
  rw [List.append_nil] at hl ⊢
  exact .of_eq (h us hl)
def Passes (CX:CXT) (X:Cx) (E:XK):Prop:=∀ (pins:List (Addr×Obj)) (σ:St) (H:Hp) (s:Shared) (e:Value) (s':Shared),Inv X pins σ H s→CX X.stack H s E e s'→X.xe e s'
section
variable {X:Cx} {CX:CXT} {k:Nat} {f C:Addr} {fd:FuncData} {ps:List Str} {sp:Sp} {dvs:List V} {ds:List Value} {E:XK} {x m:Str} {p pos apos:Pos} {e o:Expr} {es:List Expr} {ta:TE} {t:TA}
theorem run_fn {pins:List (Addr×Obj)} {σ:St} {H:Hp} {s:Shared} {Q:VK} {us:List Value} {vs:List V} (F:FnOk X.prog X.w X.K X.mg X.base CX k f fd ps sp) (hr:Room k X.A) (hb:Binds X.K fd ps ds) (hd:Vals dvs ds) (hx:Passes CX X E)
    (I:Inv X pins σ H s) (r:Vals vs us) (h:sp (vs ++ dvs) H Q E):wpAny (model X.prog X.w) X.A (call (.ref f) us) (EP X pins σ Q) X.xe s:=by
  have r2:Vals (vs ++ dvs) (us ++ ds):=r.append hd
  have hl:(us ++ ds).length=ps.length:=by rw [← r2.length];exact F.len _ _ _ _ h
  refine wpAny_call (codeAny_mono (F.run X.A X.stack s H ⟨us,[]⟩ (us ++ ds) (vs ++ dvs) Q E hr I.env0 (hb s us I.kIn hl) r2 h) fun r s' hq=>?_)
  cases r with
  | error e=>exact hx pins σ H s e s' I hq
  | ok fl=>
    cases fl with
    | ret u=>exact I.after hq
    | next=>exact False.elim hq
    | brk=>exact False.elim hq
    | cont=>exact False.elim hq
theorem pe_call (F:FnOk X.prog X.w X.K X.mg X.base CX k f fd ps sp) (hr:Room k X.A) (hg:Gl X x) (hm:X.mg x=some (.ref f)) (hk:keepIn X.K (.ref f)=true) (hb:Binds X.K fd ps ds) (hd:Vals dvs ds) (hx:Passes CX X E)
    (ha:PA X (e :: es) t) (hdb:(x == ("__debug__" : Str))=false:=by decide) (he:starEach (e :: es) X.env=(false,eval e X.env) :: starEach es X.env:=by rfl) (hpl:(backTo pos (starEach es X.env)).any (·.1)=false:=by rfl) :
    PE X (.Call (.Name x p) (e :: es) [] pos) (tCall sp dvs E t):=by
  intro pins s σ H Q I h
  refine wpAny_Call_Name_kw (ld_glob I hg hm ?_ hdb)
  refine PySem.W.callWith_K (h₀:=X.base) I.ok.mod.kin hk (thn (ha pos pins s σ H _ I h) fun us s1 ⟨vs,H1,I1,r,q⟩=>⟨I1.kIn,?_⟩) he hpl
  exact run_fn F hr hb hd hx I1 r q
theorem pe_meth {pl:Sem Bool} (he:PE X o ta) (c:Cls X.K C) (hm:Meth X.K C m f) (F:FnOk X.prog X.w X.K X.mg X.base CX k f fd ps sp) (hr:Room k X.A) (hb:Binds X.K fd ps ds) (hd:Vals dvs ds) (hx:Passes CX X E) (ha:PA X (e :: es) t)
    (hst:starEach (e :: es) X.env=(false,eval e X.env) :: starEach es X.env:=by rfl) (hpl:(backTo pos (starEach es X.env)).any (·.1)=false:=by rfl)
    (ht:eval (.Call (.Attribute o m apos) (e :: es) [] pos) X.env=(do
      let ov ← eval o X.env
      standAt apos.atName
      let (f,first) ← holding [ov] (getMethod ov m pl)
      callWith pos f first (backTo pos (starEach (e :: es) X.env)) (backToKw pos (keywordEach [] X.env))):=by rfl) :
    PE X (.Call (.Attribute o m apos) (e :: es) [] pos) (tMeth C m sp dvs E ta t):=by
  intro pins s σ H Q I h
  refine PySem.W.methodCall_KW (pl:=pl) (thn (he pins s σ H _ I h) fun u s1 ⟨x,H1,I1,rx,a,dx,fs,ex,ea,l,q⟩=>?_) ht
  subst ex
  obtain rfl:u=Value.ref a:=rx
  refine getmeth_ok I1 ea c hm l ?_
  refine PySem.W.callWith_K (first:=[.ref a]) (h₀:=X.base) I.ok.mod.kin hm.kp (thn (ha pos pins s1 σ H1 _ I1 q) fun us s2 ⟨vs,H2,I2,r,q2⟩=>⟨I2.kIn,?_⟩) hst hpl
  exact run_fn (us:=.ref a :: us) (vs:=.ref a :: vs) F hr hb hd hx I2 (.cons rfl r) q2
theorem pe_meth0 {pl:Sem Bool} (he:PE X o ta) (c:Cls X.K C) (hm:Meth X.K C m f) (F:FnOk X.prog X.w X.K X.mg X.base CX k f fd ps sp) (hr:Room k X.A) (hb:Binds X.K fd ps ds) (hd:Vals dvs ds) (hx:Passes CX X E)
    (ht:eval (.Call (.Attribute o m apos) [] [] pos) X.env=(do
      let ov ← eval o X.env
      standAt apos.atName
      let (f,first) ← holding [ov] (getMethod ov m pl)
      callWith pos f first (backTo pos (starEach [] X.env)) (backToKw pos (keywordEach [] X.env))):=by rfl) :
    PE X (.Call (.Attribute o m apos) [] [] pos) (tMeth C m sp dvs E ta tNil):=by
  intro pins s σ H Q I h
  refine PySem.W.methodCall_KW (pl:=pl) (thn (he pins s σ H _ I h) fun u s1 ⟨x,H1,I1,rx,a,dx,fs,ex,ea,l,q⟩=>?_) ht
  subst ex
  obtain rfl:u=Value.ref a:=rx
  refine getmeth_ok I1 ea c hm l ?_
  exact PySem.W.callWith_K0 (first:=[.ref a]) I1.kIn hm.kp (run_fn (us:=[.ref a]) (vs:=[.ref a]) F hr hb hd hx I1 (.cons rfl .nil) q)
structure Mk (K:Frag) (C f:Addr):Prop where
  makes:PySem.W.makesIn K C=true
  init:findIn K (.ref C) "__init__" = some (some (.ref f))
  fn:PySem.W.isFn K (.ref f)=true
  kp:keepIn K (.ref C)=true
theorem run_make {pins:List (Addr×Obj)} {σ:St} {H:Hp} {s:Shared} {Q:VK} {us:List Value} {vs:List V} (M:Mk X.K C f) (F:FnOk X.prog X.w X.K X.mg X.base CX k f fd ps sp) (hr:Room (k+1) X.A) (hb:Binds X.K fd ps ds) (hd:Vals dvs ds)
    (hx:Passes CX X E) (I:Inv X pins σ H s) (r:Vals vs us)
    (h:∀ x dx,H x=none→H dx=none→dx≠x→sp (.ref x :: (vs ++ dvs)) (upd (upd H dx (.own x)) x (.ins C dx [])) (fun v H2=>v = .non∧Q (.ref x) H2) E) :
    wpAny (model X.prog X.w) X.A (call (.ref C) us) (EP X pins σ Q) X.xe s:=by
  have hq:=h (s.heap.objs.size+1) s.heap.objs.size (I.hok.fresh (Nat.le_succ _)) (I.hok.fresh (Nat.le_refl _)) (Nat.ne_of_lt (Nat.lt_succ_self _))
  have I2:=Inv.made (C:=C) I
  have r2:Vals (V.ref (s.heap.objs.size+1) :: (vs ++ dvs)) (Value.ref (s.heap.objs.size+1) :: (us ++ ds)):=.cons rfl (r.append hd)
  have hl:(Value.ref (s.heap.objs.size+1) :: us ++ ds).length=ps.length:=by
    have e:=r2.length
    rw [F.len _ _ _ _ hq] at e
    exact e.symm
  refine wpAny_call (make_map (f:=f) I.kIn M.makes M.init (beq_iff_eq.mp M.fn) (codeAny_mono (F.run _ X.stack _ _ ⟨Value.ref (s.heap.objs.size+1) :: us,[]⟩ (Value.ref (s.heap.objs.size+1) :: (us ++ ds)) _ _ E (hr.make C us [])
    (I2.env0.make C us []) (hb _ (Value.ref (s.heap.objs.size+1) :: us) I2.kIn hl) r2 hq) fun r s' hq'=>?_))
  cases r with
  | error e=>exact hx pins σ _ _ e s' I2 hq'
  | ok fl=>
    cases fl with
    | ret u=>
      obtain ⟨v,H',I3,rv,ev,q3⟩:=I2.after hq'
      subst ev
      exact ⟨rv,⟨V.ref (s.heap.objs.size+1),H',I3,rfl,q3⟩⟩
    | next=>exact False.elim hq'
    | brk=>exact False.elim hq'
    | cont=>exact False.elim hq'
theorem pe_make (M:Mk X.K C f) (F:FnOk X.prog X.w X.K X.mg X.base CX k f fd ps sp) (hr:Room (k+1) X.A) (hg:Gl X x) (hm:X.mg x=some (.ref C)) (hb:Binds X.K fd ps ds) (hd:Vals dvs ds) (hx:Passes CX X E)
    (ha:PA X (e :: es) t) (hdb:(x == ("__debug__" : Str))=false:=by decide) (he:starEach (e :: es) X.env=(false,eval e X.env) :: starEach es X.env:=by rfl) (hpl:(backTo pos (starEach es X.env)).any (·.1)=false:=by rfl) :
    PE X (.Call (.Name x p) (e :: es) [] pos) (tMake C sp dvs E t):=by
  intro pins s σ H Q I h
  refine wpAny_Call_Name_kw (ld_glob I hg hm ?_ hdb)
  refine PySem.W.callWith_K (h₀:=X.base) I.ok.mod.kin M.kp (thn (ha pos pins s σ H _ I h) fun us s1 ⟨vs,H1,I1,r,q⟩=>⟨I1.kIn,?_⟩) he hpl
  exact run_make M F hr hb hd hx I1 r q
end
section
variable {X:Cx} {CX:CXT} {k:Nat} {f C:Addr} {fd:FuncData} {ps ks:List Str} {sp:Sp} {E:XK} {x m:Str} {p pos apos kpos:Pos} {e o:Expr} {es:List Expr} {kws:List Keyword} {te ta:TE} {t tk:TA} {nm:Option Str}
variable {g:List Value→List Value→List Value} {gV:List V→List V→List V}
end
structure FnScope (N P:List Str) (sc:Scope):Prop where
  kind:sc.kind = .function
  co:sc.isCoroutine=false
  gen:sc.isGenerator=false
  nd:N.Nodup
  pre:N.take P.length=P
  par:∀ x∈P,sc.names.lookup x=some .local∨sc.names.lookup x=some .cell
  nofree:∀ y∈sc.names,y.2≠.free
theorem bindL_out {kindOf:Str→Option NameKind} {x:Str}:∀ {binds:List (Str×Value)} {m:Str→Option Value},(∀ v,(x,v)∉binds)→bindL kindOf binds m x=m x
  | [],_,_=>rfl
  | (n,v) :: r,m,h=>by
    unfold bindL
    rw [bindL_out fun w hw=>h w (List.mem_cons_of_mem _ hw)]
    split
    · have:x≠n:=by rintro rfl;exact h v List.mem_cons_self
      simp [this]
    · rfl
theorem bindC_out {kindOf:Str→Option NameKind} {x:Str}:∀ {binds:List (Str×Value)} {m:Str→Option Value},(∀ v,(x,v)∉binds)→bindC kindOf binds m x=m x
  | [],_,_=>rfl
  | (n,v) :: r,m,h=>by
    unfold bindC
    rw [bindC_out fun w hw=>h w (List.mem_cons_of_mem _ hw)]
    split
    · rfl
    · have:x≠n:=by rintro rfl;exact h v List.mem_cons_self
      simp [this]
theorem bindL_get {kindOf:Str→Option NameKind} {x:Str} {v:Value}:∀ {P:List Str} {vs:List Value} {i:Nat} {m:Str→Option Value},P.Nodup→P[i]? = some x→vs[i]? = some v→kindOf x=some .local→
    bindL kindOf (P.zip vs) m x=some v
  | [],_,_,_,_,h,_,_=>by simp at h
  | _ :: _,[],_,_,_,_,h,_=>by simp at h
  | p :: P,w :: vs,0,m,nd,h1,h2,hk=>by
    simp at h1 h2;subst h1;subst h2
    show bindL kindOf ((p,w) :: P.zip vs) m p=_
    unfold bindL
    rw [bindL_out fun v hv=>(List.nodup_cons.mp nd).1 (List.of_mem_zip hv).1,if_pos hk]
    simp
  | p :: P,w :: vs,i+1,m,nd,h1,h2,hk=>by
    show bindL kindOf ((p,w) :: P.zip vs) m x=_
    unfold bindL
    exact bindL_get (i:=i) (List.nodup_cons.mp nd).2 (by simpa using h1) (by simpa using h2) hk
theorem bindC_get {kindOf:Str→Option NameKind} {x:Str} {v:Value}:∀ {P:List Str} {vs:List Value} {i:Nat} {m:Str→Option Value},P.Nodup→P[i]? = some x→vs[i]? = some v→kindOf x≠some .local→
    bindC kindOf (P.zip vs) m x=some v
  | [],_,_,_,_,h,_,_=>by simp at h
  | _ :: _,[],_,_,_,_,h,_=>by simp at h
  | p :: P,w :: vs,0,m,nd,h1,h2,hk=>by
    simp at h1 h2;subst h1;subst h2
    show bindC kindOf ((p,w) :: P.zip vs) m p=_
    unfold bindC
    rw [bindC_out fun v hv=>(List.nodup_cons.mp nd).1 (List.of_mem_zip hv).1,if_neg hk]
    simp
  | p :: P,w :: vs,i+1,m,nd,h1,h2,hk=>by
    show bindC kindOf ((p,w) :: P.zip vs) m x=_
    unfold bindC
    exact bindC_get (i:=i) (List.nodup_cons.mp nd).2 (by simpa using h1) (by simpa using h2) hk
def start (N:List Str) (vs:List V):St:=vs.map some ++ List.replicate (N.length - vs.length) none
def cxOf (CX:CXT) (P:Program) (w:World) (K:Frag) (mg:Str→Option Value) (base:Heap) (N:List Str) (qual:Str) (scope:Scope) (f:Addr) (cd:Value) (A:Around) (outer:List Env) (s:Shared) (H:Hp) (E:XK):Cx where
  prog:=P
  w:=w
  K:=K
  mg:=mg
  base:=base
  A:=A.deeper (envOfC qual scope s.heap.objs.size f cd)
  N:=N
  s₀:=s
  H₀:=H
  env:=envOfC qual scope s.heap.objs.size f cd
  outer:=outer
  stack:=envOfC qual scope s.heap.objs.size f cd :: outer
  ex:=[]
  calm:=true
  fn:=fun _=>true
  pn:=[]
  xe:=fun e s'=>wpAny (model P w) (A.deeper (envOfC qual scope s.heap.objs.size f cd)) (leaving (envOfC qual scope s.heap.objs.size f cd) e) (fun _ s''=>CX outer H s E e s'') (fun e' s''=>CX outer H s E e' s'') s'
theorem cell_has {sc:Scope} {n:Nat} {x:Str} (h:sc.names.lookup x=some .cell):∃ c,(cellsFrom n sc.names []).lookup x=some c:=by
  have q:=PySem.W.cellsFrom_some sc.names n [] (.inl h)
  exact Option.isSome_iff_exists.mp q
theorem inv_start {CX:CXT} {P:Program} {w:World} {K:Frag} {mg:Str→Option Value} {base:Heap} {N ps:List Str} {qual:Str} {scope:Scope} {f:Addr} {cd:Value} {A:Around} {outer:List Env} {s s1:Shared} {H:Hp} {E:XK} {us:List Value} {vs:List V}
    (S:FnScope N ps scope) (hd:A.handled=none) (e0:Env0 P w K mg base A outer s H) (hl:vs.length=ps.length) (r:Vals vs us)
    (x:InCallC s s.heap.objs.size (bindL (envOfC qual scope s.heap.objs.size f cd).kindOf (ps.zip us) fun _=>none) (cellsFrom (s.heap.objs.size+1) scope.names []) (bindC (envOfC qual scope s.heap.objs.size f cd).kindOf (ps.zip us) fun _=>none) s1) :
    Inv (cxOf CX P w K mg base N qual scope f cd A outer s H E) [] (start N vs) H s1:=by
  have hpl:ps.length≤N.length:=by have:=congrArg List.length S.pre;rw [List.length_take] at this;omega
  obtain ⟨h1,tk,rfl,hk⟩:=x.done
  have noA:∀ b:Addr,b∉(cxOf CX P w K mg base N qual scope f cd A outer s H E).ex:=fun b z=>absurd (show b∈([]:List Addr) from z) (by simp)
  refine ⟨⟨e0.mod,S.kind,rfl,rfl,Nat.le_refl _,fun y z c h1 h2=>?_,fun y hy=>?_,fun y c _ h=>?_,fun _=>hd,Around.frames_deeper e0.frames,.inr ⟨rfl,rfl⟩,fun b z=>absurd z (noA b),e0.bs,e0.bsz,fun b _ _=>noA b,fun b z=>absurd z (noA b),e0.funs,e0.frf⟩,
    rfl,e0.bare,Un.kept hk,⟨_,x.toInCall.ns,fun i y v h1 h2 h3=>?_⟩,fun y c h=>⟨_,x.cell y c h⟩,e0.hok.fresh (Nat.le_refl _),fun y c h=>?_,fun p hp=>absurd (show p∈([]:List (Addr×Obj)) from hp) (by simp),e0.hok.kept hk,?_⟩
  · exact name_of_addr x.apart (PySem.mem_of_lookup h1) (PySem.mem_of_lookup h2)
  · have hy:scope.names.lookup y=some .cell∨scope.names.lookup y=some .free:=hy
    rcases hy with hy | hy
    · exact cell_has hy
    · exact absurd rfl (S.nofree _ (PySem.mem_of_lookup hy))
  · exact Nat.le_of_lt (x.above y c (PySem.mem_of_lookup h))
  · have hi:i < vs.length:=by
      unfold start at h2
      by_cases hi:i < vs.length
      · exact hi
      · rw [List.getElem?_append_right (by simpa using hi)] at h2
        rw [List.getElem?_replicate] at h2
        split at h2 <;> cases h2
    have ha:vs[i]? = some v:=by
      unfold start at h2
      rw [List.getElem?_append_left (by simpa using hi),List.getElem?_map] at h2
      cases e:vs[i]? with
      | none=>rw [e] at h2;cases h2
      | some a=>rw [e] at h2;cases h2;rfl
    obtain ⟨u,hu,rv⟩:=r.get ha
    have hp:ps[i]? = some y:=by
      rw [← S.pre,List.getElem?_take_of_lt (by omega)];exact h1
    have ndP:ps.Nodup:=by rw [← S.pre];exact S.nd.sublist (List.take_sublist _ _)
    refine ⟨u,rv,?_⟩
    rcases S.par y (List.mem_of_getElem? hp) with k | k
    · exact .inl ⟨k,bindL_get ndP hp hu k⟩
    · obtain ⟨c,e⟩:=cell_has (n:=s.heap.objs.size+1) k
      refine .inr ⟨.inl k,c,e,?_⟩
      have q:=x.cell y c e
      rw [bindC_get ndP hp hu (by show scope.names.lookup y≠_;rw [k];decide)] at q
      exact q
  · exact e0.hok.fresh (Nat.le_of_lt (x.above y c (PySem.mem_of_lookup h)))
  · unfold start
    show _=N.length
    rw [List.length_append,List.length_map,List.length_replicate]
    omega
theorem fn_of {CX:CXT} {P:Program} {w:World} {K:Frag} {mg:Str→Option Value} {base:Heap} {k:Nat} {f:Addr} {name qual:Str} {params:Arguments} {body:List Stmt} {scope:Scope} {dV kV doc pm cdv ct oc:Value} {an od:Option Addr}
    {osl:Array (Option Value)} {N ps:List Str} {sp:Sp} (lk:K.lookup f=some ⟨oc,od,.func (fnOf name qual params body scope dV kV doc pm an cdv ct),osl⟩) (hcd:PySem.W.codeIn K cdv qual=true) (S:FnScope N ps scope)
    (len:∀ vs H Q E,sp vs H Q E→vs.length=ps.length)
    (hbody:∀ (A:Around) (outer:List Env) (s:Shared) (H:Hp) (vs:List V) (Q:VK) (E:XK),Room k (A.deeper (envOfC qual scope s.heap.objs.size f cdv))→sp vs H Q E→
      ∃ t,PSs (cxOf CX P w K mg base N qual scope f cdv A outer s H E) body t∧t { nx:=fun _ H'=>Q .non H',rt:=Q } (start N vs) H) :
    FnOk P w K mg base CX (k+1) f (fnOf name qual params body scope dV kV doc pm an cdv ct) ps sp:=by
  refine ⟨len,fun A outer s H args us vs Q E hr e0 hb r hsp=>?_⟩
  have hl:=len _ _ _ _ hsp
  have KX:K.In s.heap:=e0.mod.kin.keeps fun b o e=>(e0.bs b o e).1
  have lim:s.heap.NoLimit:=e0.mod.nolimit.keeps fun b o e=>(e0.bs b o e).1
  have hkind:∀ y∈ps.zip us,scope.names.lookup y.1=some .local∨(scope.names.lookup y.1=some .cell∧((cellsFrom (s.heap.objs.size+1) scope.names []).lookup y.1).isSome=true):=fun ⟨n,v⟩ hy=>by
    rcases S.par n (List.of_mem_zip hy).1 with q | q
    · exact .inl q
    · exact .inr ⟨q,PySem.W.cellsFrom_some _ _ _ (.inl q)⟩
  refine codeAny_call_function hr.depth (KX _ _ lk) rfl S.co S.gen rfl (PySem.W.codeRec_of KX hcd) (hb _ _ _ _ ?_)
  refine wpAny_newFunctionEnv_cells S.kind hkind fun env he s1 x=>?_
  subst he
  refine ⟨lim.keeps x.toInCall.keep,codeAny_func ?_⟩
  obtain ⟨t,ht,hq⟩:=hbody A outer s H vs Q E (hr.deeper _) hsp
  have I:Inv (cxOf CX P w K mg base N qual scope f cdv A outer s H E) [] (start N vs) H s1:=inv_start S hr.hd e0 hl r x
  refine wpAny_mono (ht [] s1 (start N vs) H _ I hq) (fun fl s' hs=>?_) fun e s' hs=>hs
  have fin:∀ {σ':St} {H':Hp} {v:V} {u:Value},Inv (cxOf CX P w K mg base N qual scope f cdv A outer s H E) [] σ' H' s'→RelV v u→Q v H'→CE outer P w H s Q u s':=
    fun {σ' H' v u} J rv q=>⟨v,H',J.os,J.bare,J.base,J.hok,rv,q⟩
  cases fl with
  | ret u=>
    obtain ⟨v,σ',H',J,rv,q⟩:=hs
    exact fin J rv q
  | next=>
    obtain ⟨σ',H',J,q⟩:=hs
    exact fin (v:=V.non) (u:=Value.none) J rfl q
  | brk=>
    obtain ⟨_,_,_,q⟩:=hs
    exact False.elim q
  | cont=>
    obtain ⟨_,_,_,q⟩:=hs
    exact False.elim q
end L2
namespace L2
open PySem PySem.Spec PyProof.Rows
section
variable {X:Cx} {x:Str} {p pos:Pos} {e:Expr} {es:List Expr} {t:TA} {id T:String} {r:List V→Hp→VK→Prop}
def tCB (r:List V→Hp→VK→Prop) (t:TA):TE:=fun σ H Q=>t σ H fun vs H1=>r vs H1 Q
theorem pe_callB (hc:CallR X (.builtin id) r) (hg:Gl X x) (hm:X.mg x=none) (hv:bootBuiltins x=some (.builtin id)) (ha:PA X (e :: es) t) (hn:x ≠ "__name__" := by decide) (hdb:(x == ("__debug__" : Str))=false:=by decide)
    (he:starEach (e :: es) X.env=(false,eval e X.env) :: starEach es X.env:=by rfl) (hpl:(backTo pos (starEach es X.env)).any (·.1)=false:=by rfl):PE X (.Call (.Name x p) (e :: es) [] pos) (tCB r t):=by
  intro pins s σ H Q I h
  refine wpAny_Call_Name_kw (ld_blt I hg hm hv ?_ hn hdb)
  exact PyProof.Rows.callWith_builtin1 (thn (ha pos pins s σ H _ I h) fun us s1 ⟨vs,H1,I1,r1,q1⟩=>hc pins s1 σ H1 vs us Q I1 r1 q1) he hpl
theorem pe_callTy (hc:CallR X (.type T) r) (hg:Gl X x) (hm:X.mg x=none) (hv:bootBuiltins x=some (.type T)) (ha:PA X (e :: es) t) (hn:x ≠ "__name__" := by decide) (hdb:(x == ("__debug__" : Str))=false:=by decide)
    (he:starEach (e :: es) X.env=(false,eval e X.env) :: starEach es X.env:=by rfl) (hpl:(backTo pos (starEach es X.env)).any (·.1)=false:=by rfl):PE X (.Call (.Name x p) (e :: es) [] pos) (tCB r t):=by
  intro pins s σ H Q I h
  refine wpAny_Call_Name_kw (ld_blt I hg hm hv ?_ hn hdb)
  exact PyProof.Rows.callWith_type1 (thn (ha pos pins s σ H _ I h) fun us s1 ⟨vs,H1,I1,r1,q1⟩=>hc pins s1 σ H1 vs us Q I1 r1 q1) he hpl
end
end L2
namespace HT
open PySem PyProof.Rows
section
open PySem.SeqAt
open PySem.AutoSeq1 (wpAny_loadPart')
open PySem.MeetsSeq PySem.MeetsSeq2 PySem.MeetsSeq3
end
section
variable {prog:Program} {w:World} {A:Around} {E:Value→Shared→Prop} {s:Shared}
def sIx (n d:Nat):Option Int→Nat
  | none=>d
  | some v=>if v < 0 then (v+(n:Int)).toNat else min v.toNat n
theorem sIx_none (n d:Nat):sIx n d none=d:=rfl
theorem sIx_nat (n d k:Nat):sIx n d (some (k:Int))=min k n:=by
  show (if (k:Int) < 0 then ((k:Int)+(n:Int)).toNat else min (k:Int).toNat n)=min k n
  rw [if_neg (by omega),Int.toNat_natCast]
end
end HT
namespace L2
open PySem PySem.Spec PyProof.Rows
abbrev TO:=St→Hp→(Option Int→Hp→Prop)→Prop
def PO (X:Cx) (e:Option Expr) (t:TO):Prop:=
  ∀ (pins:List (Addr×Obj)) (s:Shared) (σ:St) (H:Hp) (Q:Option Int→Hp→Prop),Inv X pins σ H s→t σ H Q→
    wpAny (model X.prog X.w) X.A (evalPart e X.env) (fun u s'=>∃ o H',Inv X pins σ H' s'∧IsPart u o∧Q o H') X.xe s
def tNoPart:TO:=fun _ H Q=>Q none H
def tPart (t:TE):TO:=fun σ H Q=>t σ H fun x H1=>∃ i,x = .int i∧Q (some i) H1
theorem intsAre_of {ns:List Int}:∀ {us:List Value},Vals (ns.map V.int) us→IntsAre us ns:=by
  induction ns with
  | nil=>intro us r;rw [List.map_nil] at r;cases r;exact .nil
  | cons n ns ih=>
    intro us r
    rw [List.map_cons] at r
    cases r with
    | cons r1 r2=>
      obtain ⟨t,e⟩:=r1
      subst e
      exact .cons n t (ih r2)
section
variable {X:Cx} {e:Expr} {te:TE} {lo hi:Option Expr} {tl th:TO} {pos p2:Pos}
theorem po_none:PO X none tNoPart:=by
  intro pins s σ H Q I h
  rw [evalPart_none]
  exact wpAny_pure ⟨none,H,I,.none,h⟩
theorem po_some (h:PE X e te):PO X (some e) (tPart te):=by
  intro pins s σ H Q I hw
  rw [evalPart_some]
  refine thn (h pins s σ H _ I hw) fun u s1 ⟨x,H1,I1,r1,q1⟩=>?_
  obtain ⟨i,rfl,q⟩:=q1
  obtain ⟨t,rfl⟩:=r1
  exact ⟨some i,H1,I1,.int i t,q⟩
def SlR (X:Cx) (r:V→Option Int→Option Int→Hp→VK→Prop):Prop:=
  ∀ (pins:List (Addr×Obj)) (s:Shared) (σ:St) (H:Hp) (x:V) (v vl vu:Value) (lo hi:Option Int) (sl:Addr) (Q:VK),Inv X pins σ H s→RelV x v→s.heap.IsSliceOf sl vl vu .none→IsPart vl lo→IsPart vu hi→r x lo hi H Q→
    ∃ T id,typeLookup (.type T) "__getitem__" = pure (some (.builtin id))∧s.TypeIs v T∧wpAny (model X.prog X.w) X.A (getItem v (.ref sl)) (EP X pins σ Q) X.xe s
def tSl (r:V→Option Int→Option Int→Hp→VK→Prop) (te:TE) (tl th:TO):TE:=fun σ H Q=>te σ H fun x H1=>tl σ H1 fun l H2=>th σ H2 fun u H3=>r x l u H3 Q
theorem pe_slice {r:V→Option Int→Option Int→Hp→VK→Prop} (hr:SlR X r) (he:PE X e te) (hl:PO X lo tl) (hu:PO X hi th):PE X (.Subscript e (.Slice lo hi none p2) pos) (tSl r te tl th):=by
  intro pins s σ H Q I h
  refine Subscript_ (thn (he pins s σ H _ I h) fun v s1 ⟨x,H1,I1,r1,q1⟩=>?_)
  refine wpAny_Slice (thn (hl pins s1 σ H1 _ I1 q1) fun vl s2 ⟨l,H2,I2,pl,q2⟩=>thn (hu pins s2 σ H2 _ I2 q2) fun vu s3 ⟨u,H3,I3,pu,q3⟩=>?_)
  rw [evalPart_none]
  refine wpAny_pure ?_
  have I4:Inv X pins σ H3 { s3 with heap:=s3.heap.push { cls:=.type "slice", data:=.fields #[vl,vu,.none] } }:=I3.kept (t':=s3.toks) fun b ob q=>Heap.get?_push_of_some _ q
  obtain ⟨T,id,hT,ht,hg⟩:=hr pins { s3 with heap:=s3.heap.push { cls:=.type "slice", data:=.fields #[vl,vu,.none] } } σ H3 x v vl vu l u s3.heap.objs.size Q I4 r1 (Heap.IsSliceOf.new ..) pl pu q3
  show wpAny (model X.prog X.w) X.A (subscriptTail e (.Slice lo hi none p2) v (.ref s3.heap.objs.size)) (EP X pins σ Q) X.xe { s3 with heap:=s3.heap.push { cls:=.type "slice", data:=.fields #[vl,vu,.none] } }
  exact tail_any (ops:=[.ref s3.heap.objs.size,v]) ht hT hg (by with_unfolding_all rfl)
def cutV (xs:List V) (lo hi:Option Int):List V:=(xs.drop (HT.sIx xs.length 0 lo)).take (HT.sIx xs.length xs.length hi - HT.sIx xs.length 0 lo)
theorem cutV_length (xs:List V) (lo hi:Option Int):(cutV xs lo hi).length≤xs.length:=by
  unfold cutV
  rw [List.length_take,List.length_drop]
  omega
end
end L2
namespace L2
open PySem PySem.Spec PyProof.Rows
def ixN (n:Nat) (i:Int):Option Nat:=if 0≤i then (if i < n then some i.toNat else none) else if -(n:Int)≤i then some (i+n).toNat else none
def atI {α:Type} (xs:List α) (i:Int):Option α:=(ixN xs.length i).bind fun j=>xs[j]?
theorem ixN_seq {n:Nat} {i:Int} {j:Nat} (h:ixN n i=some j):seqIndex? i n=some j∧j < n∧-(n:Int)≤i∧i < n:=by
  unfold ixN at h
  by_cases h0:0≤i
  · rw [if_pos h0] at h
    by_cases h1:i < n
    · rw [if_pos h1] at h
      have e:i.toNat=j:=Option.some.inj h
      exact ⟨by rw [seqIndex_of h0 h1,e],by omega,by omega,h1⟩
    · rw [if_neg h1] at h;cases h
  · rw [if_neg h0] at h
    by_cases h1 : -(n:Int)≤i
    · rw [if_pos h1] at h
      have e:(i+n).toNat=j:=Option.some.inj h
      exact ⟨by rw [seqIndex_neg (by omega) h1,e],by omega,h1,by omega⟩
    · rw [if_neg h1] at h;cases h
theorem atI_get {α:Type} {xs:List α} {i:Int} {v:α} (h:atI xs i=some v):∃ j,seqIndex? i xs.length=some j∧xs[j]? = some v∧j < xs.length∧-(xs.length:Int)≤i∧i < xs.length:=by
  unfold atI at h
  cases e:ixN xs.length i with
  | none=>rw [e] at h;cases h
  | some j=>
    rw [e] at h
    obtain ⟨h1,h2,h3,h4⟩:=ixN_seq e
    exact ⟨j,h1,h,h2,h3,h4⟩
theorem atI_nat {α:Type} {xs:List α} {j:Nat} {v:α} (h:xs[j]? = some v):atI xs (j:Int)=some v:=by
  have hj:j < xs.length:=(List.getElem?_eq_some_iff.mp h).1
  have e:ixN xs.length (j:Int)=some j:=by
    unfold ixN
    rw [if_pos (by omega),if_pos (by omega)];simp
  unfold atI;rw [e];exact h
def PlainIx (b:Expr):Prop:=∀ o i,subscripted b false o i=operate [o,i] (getItem o i)
def IxR (X:Cx) (r:R2):Prop:=
  ∀ (value slice:Expr) (pins:List (Addr×Obj)) (s:Shared) (σ:St) (H:Hp) (x y:V) (v u:Value) (Q:VK),Inv X pins σ H s→RelV x v→RelV y u→r x y H Q→
    subscripted slice false v u=operate [v,u] (getItem v u)→wpAny (model X.prog X.w) X.A (subscriptTail value slice v u) (EP X pins σ Q) X.xe s
def MtR (X:Cx) (id:String) (r:V→List V→Hp→VK→Prop):Prop:=
  ∀ (pins:List (Addr×Obj)) (s:Shared) (σ:St) (H:Hp) (x:V) (xs:List V) (v:Value) (us:List Value) (Q:VK),Inv X pins σ H s→RelV x v→Vals xs us→r x xs H Q→
    wpAny (model X.prog X.w) X.A (call (.builtin id) (v :: us)) (EP X pins σ Q) X.xe s
section
variable {X:Cx} {a b:Expr} {ta tb:TE} {pos:Pos}
theorem pe_ix {r:R2} (hr:IxR X r) (ha:PE X a ta) (hb:PE X b tb) (hs:PlainIx b):PE X (.Subscript a b pos) (tOp r ta tb):=by
  intro pins s σ H Q I h
  exact Subscript_ (binT ha hb I h fun v u s2 x y H2 I2 rx ry q=>hr a b pins s2 σ H2 x y v u Q I2 rx ry q (hs _ _))
def rIxL (K:Frag):R2:=fun x y H Q=>∃ p xs i v,x = .ref p∧y = .int i∧SqL K H p xs∧atI xs i=some v∧Q v H
def rIxT (K:Frag):R2:=fun x y H Q=>∃ p xs i v,x = .ref p∧y = .int i∧SqT K H p xs∧atI xs i=some v∧Q v H
theorem ix_list:IxR X (rIxL X.K):=by
  intro value slice pins s σ H x y v u Q I rx ry h hs
  obtain ⟨p,xs,i,z,rfl,rfl,hq,he,q⟩:=h
  cases rx
  obtain ⟨t,rfl⟩:=ry
  obtain ⟨its,r,pl,hz⟩:=I.list hq
  obtain ⟨j,h1,h2,h3,h4,h5⟩:=atI_get he
  obtain ⟨w,ew,rw'⟩:=r.get h2
  have hl:=r.length
  have hn:=line63
  have fin:EP X pins σ Q w s:=⟨z,H,I,rw',q⟩
  by_cases h0:0≤i
  · have hj:i.toNat=j:=by
      rw [seqIndex_of h0 h5] at h1
      exact Option.some.inj h1
    exact item_listR pl.isList h0 (by omega) (by rw [hj];simpa using ew) fin hs
  · have hj:(i+(its.toArray.size:Int)).toNat=j:=by
      rw [seqIndex_neg (by omega) h4] at h1
      rw [List.size_toArray,← hl]
      exact Option.some.inj h1
    exact subscriptTail_builtinR (x:=w) pl.isList.typeIs slot_list_getitem.lookup
      (wpAny_getItem_list_neg (Q:=fun r s'=>r=w∧EP X pins σ Q r s') pl.isList (by omega) (by rw [List.size_toArray] <;> omega) (by omega) (by rw [hj];simpa using ew) ⟨rfl,fin⟩) hs
theorem ix_tup:IxR X (rIxT X.K):=by
  intro value slice pins s σ H x y v u Q I rx ry h hs
  obtain ⟨p,xs,i,z,rfl,rfl,hq,he,q⟩:=h
  cases rx
  obtain ⟨t,rfl⟩:=ry
  obtain ⟨its,r,pl,hz⟩:=I.tuple hq
  obtain ⟨j,h1,h2,h3,h4,h5⟩:=atI_get he
  obtain ⟨w,ew,rw'⟩:=r.get h2
  have hl:=r.length
  have hn:=line63
  have fin:EP X pins σ Q w s:=⟨z,H,I,rw',q⟩
  exact subscriptTail_builtinR (x:=w) pl.typeIs slot_tuple_getitem.lookup
    (getItem_tuple (j:=j) (Q:=fun r s'=>r=w∧EP X pins σ Q r s') pl (by omega) (by omega) (by rw [List.size_toArray,← hl];exact h1) (by simpa using ew) ⟨rfl,fin⟩) hs
theorem mapSeq_set (its:List Value) (n j:Nat) (u:Value):Obj.mapSeq (·.setIfInBounds j u) { cls:=.type "list", data:=.seq its.toArray n }={ cls:=.type "list", data:=.seq (its.set j u).toArray n }:=by
  simp [Obj.mapSeq]
theorem Inv.lst {pins:List (Addr×Obj)} {σ:St} {H:Hp} {s:Shared} {p:Addr} {xs:List V} (I:Inv X pins σ H s) (h:H p=some (.lst xs)) :
    ∃ (its:List Value) (n:Nat),Vals xs its∧s.heap.get? p=some { cls:=.type "list", data:=.seq its.toArray n }∧xs.length≤sizeLine:=by
  obtain ⟨z,its,n,r,e⟩:=I.hok p _ h
  exact ⟨its,n,r,e,z⟩
theorem Inv.lstUpd {pins:List (Addr×Obj)} {σ:St} {H:Hp} {s:Shared} {p:Addr} {xs ys:List V} {its its':List Value} {n n':Nat} {f:Obj→Obj} (I:Inv X pins σ H s) (h:H p=some (.lst xs))
    (ho:s.heap.get? p=some { cls:=.type "list", data:=.seq its.toArray n }) (hf:f { cls:=.type "list", data:=.seq its.toArray n }={ cls:=.type "list", data:=.seq its'.toArray n' }) (r:Vals ys its') (hz:ys.length≤sizeLine) (t:Nat) :
    Inv X pins σ (upd H p (.lst ys)) { s with heap:=s.heap.update p f,toks:=t }:=by
  have e:(s.heap.update p f).get? p=some { cls:=.type "list", data:=.seq its'.toArray n' }:=by
    rw [Heap.get?_update_self f ho (by rw [hf] <;> rfl),hf]
  refine I.write (x:=p) (e:=p) (by rw [h];trivial) (.inl rfl) (fun b u hb q=>(Heap.get?_update_other _ _ (Ne.symm hb)).trans q) ⟨_,e⟩ ?_
  exact ⟨hz,its',n',r,e⟩
def rSetL:V→V→V→Hp→(Hp→Prop)→Prop:=fun o i v H Q=>∃ p xs k j,o = .ref p∧i = .int k∧H p=some (.lst xs)∧ixN xs.length k=some j∧Q (upd H p (.lst (xs.set j v)))
theorem set_list:PSet X rSetL:=by
  intro pins s σ H o i v ov iv u Q I ro ri rv h
  obtain ⟨p,xs,k,j,rfl,rfl,hp,hj,q⟩:=h
  cases ro
  obtain ⟨t,rfl⟩:=ri
  obtain ⟨its,n,r,ho,hz⟩:=I.lst hp
  obtain ⟨h1,h2,h3,h4⟩:=ixN_seq hj
  have hl:=r.length
  have hn:=line63
  have I':Inv X pins σ (upd H p (.lst (xs.set j v))) { s with heap:=s.heap.update p (Obj.mapSeq (·.setIfInBounds j u)) }:=
    I.lstUpd hp ho (mapSeq_set its n j u) (r.set rv j) (by rw [List.length_set];exact hz) s.toks
  by_cases h0:0≤k
  · have hk:k.toNat=j:=by
      rw [seqIndex_of h0 h4] at h1
      exact Option.some.inj h1
    exact PySem.W.ki_setAt ho h0 (by omega) (by rw [List.size_toArray,← hl];exact h4) (by rw [hk];exact ⟨_,I',q⟩)
  · have hk:(k+(its.toArray.size:Int)).toNat=j:=by
      rw [seqIndex_neg (by omega) h3] at h1
      rw [List.size_toArray,← hl]
      exact Option.some.inj h1
    exact PySem.W.ki_setBack ho (by omega) (by rw [List.size_toArray,← hl];exact h3) (by omega) (by rw [hk];exact ⟨_,I',q⟩)
theorem slice_bounds (lo hi:Option Int) (n:Nat):(sliceBounds lo hi none n).1=((HT.sIx n 0 lo:Nat):Int)∧(sliceBounds lo hi none n).2.1=((HT.sIx n n hi:Nat):Int)∧(sliceBounds lo hi none n).2.2=1:=by
  refine ⟨?_,?_,rfl⟩
  · cases lo with
    | none=>simp [sliceBounds,HT.sIx]
    | some i=>
      simp only [sliceBounds,HT.sIx,Option.getD_none,show (1:Int) > 0 by decide,if_true]
      by_cases h:i < 0
      · simp only [h,if_true] <;> omega
      · simp only [h,if_false] <;> omega
  · cases hi with
    | none=>simp [sliceBounds,HT.sIx]
    | some i=>
      simp only [sliceBounds,HT.sIx,Option.getD_none,show (1:Int) > 0 by decide,if_true]
      by_cases h:i < 0
      · simp only [h,if_true] <;> omega
      · simp only [h,if_false] <;> omega
theorem slicePick_cut (its:List Value) (lo hi:Option Int):slicePick its.toArray lo hi none=((its.drop (HT.sIx its.length 0 lo)).take (HT.sIx its.length its.length hi - HT.sIx its.length 0 lo)).toArray:=by
  obtain ⟨h1,h2,h3⟩:=slice_bounds lo hi its.toArray.size
  unfold slicePick
  rw [h1,h2,h3]
  simp only [sliceRange_one,pick_run,List.size_toArray] <;> rfl
def rSlL (K:Frag):V→Option Int→Option Int→Hp→VK→Prop:=fun x lo hi H Q=>∃ a xs,x = .ref a∧SqL K H a xs∧∀ p,H p=none→Q (.ref p) (upd H p (.lst (cutV xs lo hi)))
theorem sl_list:SlR X (rSlL X.K):=by
  intro pins s σ H x v vl vu lo hi sl Q I rx hs pl pu h
  obtain ⟨a,xs,rfl,hx,q⟩:=h
  cases rx
  obtain ⟨its,r,ht,hz⟩:=I.list hx
  have hlen:=r.length
  refine ⟨"list", _,slot_list_getitem.lookup,ht.isList.typeIs,?_⟩
  refine wpAny_getItem_list_slice ht.isList hs pl pu .none (by simp) ?_ (by rw [List.size_toArray] <;> omega)
  rw [slicePick_cut,← hlen]
  refine ⟨.ref s.heap.objs.size,_,I.laid (t':=s.toks) (o:=.lst (cutV xs lo hi)) (fun b ob q=>Heap.get?_push_of_some _ q) (Nat.le_refl _) ?_,rfl,q _ (I.hok.fresh (Nat.le_refl _))⟩
  exact ⟨Nat.le_trans (cutV_length xs lo hi) hz,_,0,(r.drop (HT.sIx xs.length 0 lo)).take (HT.sIx xs.length xs.length hi - HT.sIx xs.length 0 lo),Heap.get?_push_size _ rfl⟩
def flatV:V→Bool
  | .non=>true
  | .bl _=>true
  | .int _=>true
  | .str _=>true
  | _=>false
def eqV:V→V→Bool
  | .non,.non=>true
  | .bl a,.bl b=>a == b
  | .bl a,.int b=>(if a then 1 else 0) == b
  | .int a,.bl b=>a == (if b then 1 else 0)
  | .int a,.int b=>a == b
  | .str a,.str b=>a == b
  | _,_=>false
theorem eqAt_V {A:Around} {s:Shared} {y x:V} {u v:Value} (ry:RelV y u) (rx:RelV x v) (fy:flatV y=true) (fx:flatV x=true):SeqAt.EqAt A s u v (eqV y x):=by
  cases y with
  | non=>
    cases ry
    cases x with
    | non=>cases rx;exact SeqAt.EqAt.same _
    | bl b=>cases rx;exact SeqAt.EqAt.none_bool b
    | int b=>obtain ⟨t,rfl⟩:=rx;exact SeqAt.EqAt.none_int b t
    | str b=>obtain ⟨t,rfl⟩:=rx;exact SeqAt.EqAt.none_str b t
    | _=>exact absurd (show false=true from fx) Bool.false_ne_true
  | bl a=>
    cases ry
    cases x with
    | non=>cases rx;exact SeqAt.EqAt.bool_none a
    | bl b=>cases rx;exact SeqAt.EqAt.bool_bool a b
    | int b=>obtain ⟨t,rfl⟩:=rx;exact SeqAt.EqAt.bool_int a b t
    | str b=>obtain ⟨t,rfl⟩:=rx;exact SeqAt.EqAt.bool_str a b t
    | _=>exact absurd (show false=true from fx) Bool.false_ne_true
  | int a=>
    obtain ⟨t',rfl⟩:=ry
    cases x with
    | non=>cases rx;exact SeqAt.EqAt.int_none a t'
    | bl b=>cases rx;exact SeqAt.EqAt.int_bool a t' b
    | int b=>obtain ⟨t,rfl⟩:=rx;exact SeqAt.EqAt.int_int a t' b t
    | str b=>obtain ⟨t,rfl⟩:=rx;exact SeqAt.EqAt.int_str a t' b t
    | _=>exact absurd (show false=true from fx) Bool.false_ne_true
  | str a=>
    obtain ⟨t',rfl⟩:=ry
    cases x with
    | non=>cases rx;exact SeqAt.EqAt.str_none a t'
    | bl b=>cases rx;exact SeqAt.EqAt.str_bool a t' b
    | int b=>obtain ⟨t,rfl⟩:=rx;exact SeqAt.EqAt.str_int a t' b t
    | str b=>obtain ⟨t,rfl⟩:=rx;exact SeqAt.EqAt.str_str a t' b t
    | _=>exact absurd (show false=true from fx) Bool.false_ne_true
  | _=>exact absurd (show false=true from fy) Bool.false_ne_true
def eqU (x:V) (u:Value):Bool:=match u with
  | .none=>eqV .non x
  | .bool b=>eqV (.bl b) x
  | .int i _=>eqV (.int i) x
  | .str z _=>eqV (.str z) x
  | _=>false
theorem eqU_of {x y:V} {u:Value} (r:RelV y u) (f:flatV y=true):eqU x u=eqV y x:=by
  cases y with
  | non=>cases r;rfl
  | bl b=>cases r;rfl
  | int i=>obtain ⟨t,rfl⟩:=r;rfl
  | str z=>obtain ⟨t,rfl⟩:=r;rfl
  | _=>exact absurd (show false=true from f) Bool.false_ne_true
theorem any_eqU {x:V}:∀ {xs:List V} {us:List Value},Vals xs us→xs.all flatV=true→us.any (eqU x)=xs.any fun y=>eqV y x
  | _,_,.nil,_=>rfl
  | y :: xs,u :: us,.cons r t,f=>by
    rw [List.all_cons,Bool.and_eq_true] at f
    rw [List.any_cons,List.any_cons,eqU_of r f.1,any_eqU t f.2]
theorem mem_eqAt {A:Around} {s:Shared} {x:V} {v:Value} (rx:RelV x v) (fx:flatV x=true):∀ {xs:List V} {us:List Value},Vals xs us→xs.all flatV=true→∀ u∈us,SeqAt.EqAt A s u v (eqU x u)
  | _,_,.nil,_=>fun u hu=>by cases hu
  | y :: xs,u :: us,.cons r t,f=>fun u' hu=>by
    rw [List.all_cons,Bool.and_eq_true] at f
    rcases List.mem_cons.mp hu with rfl | hu
    · rw [eqU_of r f.1];exact eqAt_V r rx f.1 fx
    · exact mem_eqAt rx fx t f.2 u' hu
def inV (x:V) (xs:List V):Bool:=xs.any fun y=>eqV y x
def rIn (K:Frag) (neg:Bool):R2:=fun x y H Q=>∃ p xs,y = .ref p∧(SqL K H p xs∨SqT K H p xs)∧flatV x=true∧xs.all flatV=true∧Q (.bl (if neg then !inV x xs else inV x xs)) H
theorem op_in_seq:OpR X (compareOp .In) (rIn X.K false):=by
  intro pins s σ H x y v u Q I rx ry h
  obtain ⟨p,xs,rfl,hq,fx,fs,q⟩:=h
  cases ry
  rcases hq with hq | hq
  · obtain ⟨its,r,pl,hz⟩:=I.list hq
    refine SeqAt.in_listAt (eqU x) pl.isList (fun w hw=>mem_eqAt rx fx r fs w (by simpa using hw)) ⟨.bl _,H,I,rfl,?_⟩
    rw [show its.toArray.any (eqU x)=its.any (eqU x) by simp,any_eqU r fs]
    exact q
  · obtain ⟨its,r,pl,hz⟩:=I.tuple hq
    refine SeqAt.in_tupleAt (eqU x) pl (fun w hw=>mem_eqAt rx fx r fs w (by simpa using hw)) ⟨.bl _,H,I,rfl,?_⟩
    rw [show its.toArray.any (eqU x)=its.any (eqU x) by simp,any_eqU r fs]
    exact q
theorem call_len_seq:CallR X (.builtin "len") (fun xs H Q=>∃ p ys,xs=[.ref p]∧(SqL X.K H p ys∨SqT X.K H p ys)∧Q (.int ys.length) H):=by
  intro pins s σ H xs us Q I r h
  obtain ⟨p,ys,rfl,hq,q⟩:=h
  obtain ⟨u,rfl,rx⟩:=vals1 r
  cases rx
  have hn:=line63
  rcases hq with hq | hq
  · obtain ⟨its,r',pl,hz⟩:=I.list hq
    have hlen:=r'.length
    exact Calls.call_len_list pl.isList (by simp only [List.size_toArray] <;> omega) ⟨.int ys.length,H,I.tok _,⟨s.toks+1,by rw [List.size_toArray,hlen]⟩,q⟩
  · obtain ⟨its,r',pl,hz⟩:=I.tuple hq
    have hlen:=r'.length
    exact len_tuple pl (by simp only [List.size_toArray] <;> omega) ⟨.int ys.length,H,I.tok _,⟨s.toks+1,by rw [List.size_toArray,hlen]⟩,q⟩
theorem call_list_of:CallR X (.type "list") (fun xs H Q=>∃ p ys,xs=[.ref p]∧(SqL X.K H p ys∨SqT X.K H p ys)∧∀ l,H l=none→Q (.ref l) (upd H l (.lst ys))):=by
  intro pins s σ H xs us Q I r h
  obtain ⟨p,ys,rfl,hq,q⟩:=h
  obtain ⟨u,rfl,rx⟩:=vals1 r
  cases rx
  have fin:∀ (its:List Value),Vals ys its→ys.length≤sizeLine→∀ (h':Heap) (c':Nat),(∀ b o',s.heap.get? b=some o'→h'.get? b=some o')→
      h'.get? s.heap.objs.size=some { cls:=.type "list", dict:=none,data:=.seq its.toArray c',slots:=#[] }→EP X pins σ Q (.ref s.heap.objs.size) { s with heap:=h' }:=fun its r' hz h' c' kp e=>
    ⟨.ref s.heap.objs.size,_,I.laid (t':=s.toks) kp (Nat.le_refl _) (show ObjOk X.prog X.w _ h' _ (.lst ys) from ⟨hz,its,c',r',e⟩),rfl,q _ (I.hok.fresh (Nat.le_refl _))⟩
  rcases hq with hq | hq
  · obtain ⟨its,r',pl,hz⟩:=I.list hq
    have hlen:=r'.length
    obtain ⟨o,ho,hc,n,hd⟩:=pl.isList
    exact call_list_seq p (.inl rfl) ho hc hd (fun h' c' kp e=>fin its r' hz h' c' kp e) (by simp only [List.size_toArray] <;> omega)
  · obtain ⟨its,r',pl,hz⟩:=I.tuple hq
    have hlen:=r'.length
    obtain ⟨o,ho,hc,n,hd⟩:=pl
    exact call_list_seq p (.inr rfl) ho hc hd (fun h' c' kp e=>fin its r' hz h' c' kp e) (by simp only [List.size_toArray] <;> omega)
theorem call_tuple_of:CallR X (.type "tuple") (fun xs H Q=>∃ p ys,xs=[.ref p]∧((SqL X.K H p ys∧∀ l,H l=none→Q (.ref l) (upd H l (.tup ys)))∨(SqT X.K H p ys∧Q (.ref p) H))):=by
  intro pins s σ H xs us Q I r h
  obtain ⟨p,ys,rfl,h⟩:=h
  obtain ⟨u,rfl,rx⟩:=vals1 r
  cases rx
  rcases h with ⟨hq,q⟩ | ⟨hq,q⟩
  · obtain ⟨its,r',pl,hz⟩:=I.list hq
    have hlen:=r'.length
    refine call_tuple_list pl.isList (fun h' kp=>?_) (by simp only [List.size_toArray] <;> omega)
    have I1:Inv X pins σ H { s with heap:=h' }:=I.kept (t':=s.toks) kp
    have I2:Inv X pins σ (upd H h'.objs.size (.tup ys)) { s with heap:=h'.push { cls:=.type "tuple", data:=.seq its.toArray } }:=
      I1.laid (t':=s.toks) (fun b o e=>Heap.get?_push_of_some _ e) (Nat.le_refl _) (show ObjOk X.prog X.w _ _ _ (.tup ys) from ⟨hz,its,r',IsTup.new _ _⟩)
    exact ⟨.ref h'.objs.size,_,I2,rfl,q _ (I1.hok.fresh (Nat.le_refl _))⟩
  · obtain ⟨its,r',pl,hz⟩:=I.tuple hq
    exact call_tuple_same pl ⟨.ref p,H,I,rfl,q⟩
def tyV (K:Frag) (T:String) (x:V) (H:Hp):Prop:=match x with
  | .str _=>T = "str"
  | .int _=>T = "int"
  | .ref p=>(T = "list" ∧ ∃ xs,SqL K H p xs)∨(T = "tuple" ∧ ∃ o,K.lookup p=some o∧o.cls = .type "tuple" ∧ o.dict=none)∨
      (T = "dict" ∧ ((∃ kvs,H p=some (.dK kvs))∨∃ kvs,H p=some (.dT kvs)))∨(T = "set" ∧ ∃ S n,H p=some (.set S n))
  | _=>False
theorem tyV_is {pins:List (Addr×Obj)} {σ:St} {H:Hp} {s:Shared} {T:String} {x:V} {v:Value} (I:Inv X pins σ H s) (r:RelV x v) (ty:tyV X.K T x H) :
    s.TypeIs v T∧∀ a,v = .ref a→∃ ob,s.heap.get? a=some ob∧ob.dict=none:=by
  cases x with
  | str z=>
    obtain ⟨t,rfl⟩:=r
    cases (show T = "str" from ty)
    exact ⟨typeIs_str s z t,fun _ e=>nomatch e⟩
  | int i=>
    obtain ⟨t,rfl⟩:=r
    cases (show T = "int" from ty)
    exact ⟨typeIs_int s i t,fun _ e=>nomatch e⟩
  | ref p=>
    cases r
    rcases ty with ⟨rfl,xs,hq⟩ | ⟨rfl,o,hk,hc,hd⟩ | ⟨rfl,hk⟩ | ⟨rfl,S,n,hk⟩
    · obtain ⟨its,_,pl,_⟩:=I.list hq
      refine ⟨pl.isList.typeIs,fun a e=>?_⟩
      cases e
      obtain ⟨o,n,e,c,hd,_⟩:=pl
      exact ⟨o,e,hd⟩
    · refine ⟨⟨o,I.kIn p o hk,hc⟩,fun a e=>?_⟩
      cases e
      exact ⟨o,I.kIn _ o hk,hd⟩
    · have z:∃ o,s.heap.get? p=some o∧o.ExactDict:=by
        rcases hk with ⟨kvs,hk⟩ | ⟨kvs,hk⟩
        · obtain ⟨_,_,_,_,o,_,_,e,ex,_⟩:=I.hok p _ hk
          exact ⟨o,e,ex⟩
        · obtain ⟨_,_,_,_,o,_,_,e,ex,_⟩:=I.hok p _ hk
          exact ⟨o,e,ex⟩
      obtain ⟨o,e,ex⟩:=z
      refine ⟨⟨o,e,ex.1⟩,fun a e2=>?_⟩
      cases e2
      exact ⟨o,e,ex.2.1⟩
    · obtain ⟨o,_,_,_,e,ex,_⟩:=I.hok p _ hk
      refine ⟨⟨o,e,ex.1⟩,fun a e2=>?_⟩
      cases e2
      exact ⟨o,e,ex.2.1⟩
  | _=>exact False.elim ty
def tBM (K:Frag) (T:String) (r:V→List V→Hp→VK→Prop) (to:TE) (t:TA):TE:=fun σ H Q=>to σ H fun x H1=>tyV K T x H1∧t σ H1 fun xs H2=>r x xs H2 Q
variable {o e:Expr} {es:List Expr} {to:TE} {t:TA} {name:Str} {apos cpos:Pos} {T id:String} {r:V→List V→Hp→VK→Prop}
theorem pe_bm (pa:PlainAttrs T) (slot:Slot T name id) (hty:typeOf (.builtin id)=pure (.type "method_descriptor")) (hm:MtR X id r) (ho:PE X o to) (ha:PA X (e :: es) t)
    (hbase:attributeBase o name X.env (eval o X.env)=eval o X.env:=by rfl)
    (hfew:((backTo cpos (starEach (e :: es) X.env)).all (fun x=>!x.1) && (backToKw cpos (keywordEach [] X.env)).all (fun x=>x.1.isSome)
      && decide ((e :: es).length+([]:List Keyword).length+(if ([]:List Keyword).isEmpty then 0 else 1) < 30))=true:=by rfl)
    (hline:(apos.endLine == cpos.line)=true:=by rfl) (hs:starEach (e :: es) X.env=(false,eval e X.env) :: starEach es X.env:=by rfl) (hplain:(backTo cpos (starEach es X.env)).any (·.1)=false:=by rfl) :
    PE X (.Call (.Attribute o name apos) (e :: es) [] cpos) (tBM X.K T r to t):=by
  intro pins s σ H Q I h
  refine wpAny_Call_method_late hbase hfew hline rfl (thn (ho pins s σ H _ I h) fun v s1 ⟨x,H1,I1,r1,ty,q1⟩=>?_)
  obtain ⟨h1,h2⟩:=tyV_is I1 r1 ty
  refine ⟨T,id,pa,slot,hty,h1,h2,?_⟩
  have hA:=ha cpos pins s1 σ H1 _ I1 q1
  rw [hs] at hA ⊢
  refine Calls.callWith_builtin (by show (false || (backTo cpos (starEach es X.env)).any (·.1))=false;rw [hplain] <;> rfl) (Calls.evalArgs_plain ?_)
  exact thn hA fun us s2 ⟨vs,H2,I2,r2,q2⟩=>hm pins s2 σ H2 x vs v us Q I2 r1 r2 q2
end
end L2
namespace L2
open PySem PySem.Spec PyProof.Rows
def MtM (X:Cx) (id:String) (r:V→List V→Hp→VK→Prop):Prop:=
  ∀ (pins:List (Addr×Obj)) (s:Shared) (σ:St) (H:Hp) (x:V) (xs:List V) (v:Value) (us:List Value) (Q:VK),Inv X pins σ H s→RelV x v→Vals xs us→r x xs H Q→
    wpAny (model X.prog X.w) X.A (call (.builtin id) (v :: us)) (EP X pins σ Q) X.xe s
theorem Vals.one:∀ {x:V} {us:List Value},Vals [x] us→∃ u,us=[u]∧RelV x u
  | _,_,.cons r .nil=>⟨_,rfl,r⟩
theorem Vals.eraseIdx:∀ {xs:List V} {us:List Value} (i:Nat),Vals xs us→Vals (xs.eraseIdx i) (us.eraseIdx i)
  | _,_,_,.nil=>.nil
  | _,_,0,.cons _ t=>t
  | _,_,i+1,.cons r t=>.cons r (Vals.eraseIdx i t)
theorem Vals.rep {xs:List V} {us:List Value} (h:Vals xs us):∀ k:Nat,Vals (List.replicate k xs).flatten (List.replicate k us).flatten
  | 0=>.nil
  | k+1=>by
    rw [List.replicate_succ,List.replicate_succ,List.flatten_cons,List.flatten_cons]
    exact Vals.append h (Vals.rep h k)
theorem len_erase {α:Type}:∀ (l:List α) (i:Nat),(l.eraseIdx i).length≤l.length
  | [],_=>Nat.le_refl _
  | _ :: _,0=>Nat.le_succ _
  | _ :: r,i+1=>Nat.succ_le_succ (len_erase r i)
theorem foldl_rep (its:List Value):∀ (k:Nat) (acc:List Value),
    List.foldl (fun x1 x2=>x1 ++ x2) acc.toArray (List.replicate k its.toArray)=(acc ++ (List.replicate k its).flatten).toArray
  | 0,acc=>by simp
  | k+1,acc=>by
    have e:acc.toArray ++ its.toArray=(acc ++ its).toArray:=by simp
    have e2:(acc ++ its) ++ (List.replicate k its).flatten=acc ++ (List.replicate (k+1) its).flatten:=by
      rw [List.replicate_succ,List.flatten_cons,List.append_assoc]
    rw [← e2,← foldl_rep its k (acc ++ its),← e,List.replicate_succ,List.foldl_cons]
section
variable {X:Cx} {pins:List (Addr×Obj)} {σ:St} {H:Hp} {s:Shared} {l b:Addr} {xs ys zs:List V}
theorem Inv.lset {its its':List Value} {n:Nat} {f:Array Value→Array Value} {t':Nat} (I:Inv X pins σ H s) (hH:H l=some (.lst xs))
    (e:s.heap.get? l=some { cls:=.type "list", data:=.seq its.toArray n }) (hf:f its.toArray=its'.toArray) (hv:Vals ys its') (hz:ys.length≤sizeLine) :
    Inv X pins σ (upd H l (.lst ys)) { s with heap:=s.heap.update l (Obj.mapSeq f),toks:=t' }:=by
  have q:=PySem.IsL.update e f
  rw [hf] at q
  refine I.write (x:=l) (e:=l) (by rw [hH];exact trivial) (.inl rfl) (fun b' u hb hu=>(Heap.get?_update_other s.heap (Obj.mapSeq f) (Ne.symm hb)).trans hu) ⟨_,q⟩ ?_
  exact ⟨hz,its',_,hv,q⟩
theorem Inv.lnew {its:List Value} {t':Nat} (I:Inv X pins σ H s) (hv:Vals ys its) (hz:ys.length≤sizeLine) :
    Inv X pins σ (upd H s.heap.objs.size (.lst ys)) { s with heap:=s.heap.push { cls:=.type "list", data:=.seq its.toArray },toks:=t' }:=
  I.laid (fun _ _ q=>Heap.get?_push_of_some _ q) (Nat.le_refl _) ⟨hz,its,0,hv,Heap.get?_push_size _ rfl⟩
theorem Inv.fresh (I:Inv X pins σ H s):H s.heap.objs.size=none:=I.hok.fresh (Nat.le_refl _)
theorem Inv.lstM (I:Inv X pins σ H s) (hH:H l=some (.lst xs)):xs.length≤sizeLine∧∃ (its:List Value) (n:Nat),Vals xs its∧xs.length=its.length∧s.heap.get? l=some { cls:=.type "list", data:=.seq its.toArray n }:=by
  obtain ⟨z,its,n,r,e⟩:=I.hok l _ hH
  exact ⟨z,its,n,r,r.length,e⟩
theorem notLongL {n:Nat} (h:n≤sizeLine):Builtin.List.listTooLong n=false:=by
  unfold Builtin.List.listTooLong
  exact decide_eq_false (by omega)
end
section
variable {X:Cx}
def rAppend:V→List V→Hp→VK→Prop:=fun x vs H Q=>∃ l xs y,x = .ref l∧vs=[y]∧H l=some (.lst xs)∧xs.length < sizeLine∧Q .non (upd H l (.lst (xs ++ [y])))
theorem mt_append:MtM X "list.append" rAppend:=by
  intro pins s σ H x vs v us Q I rx rv h
  obtain ⟨l,xs,y,rfl,rfl,hH,hz,q⟩:=h
  cases rx
  obtain ⟨u,rfl,ru⟩:=rv.one
  obtain ⟨z,its,n,r,hl,e⟩:=I.lstM hH
  refine call_meets F.slot_list_append ⟨_,e,rfl⟩ F.entry_list_append (F.args_list_append_2 _ _) (PySem.list_append l its.toArray n u (by rw [List.size_toArray];omega)) ⟨e,?_⟩
  refine ⟨.non,_,I.lset (its':=its ++ [u]) hH e (by simp) (r.append (.cons ru .nil)) ?_,rfl,q⟩
  rw [List.length_append,List.length_singleton]
  omega
def rPopAt:V→List V→Hp→VK→Prop:=fun x vs H Q=>∃ l xs i k y,x = .ref l∧vs=[.int i]∧H l=some (.lst xs)∧-(2 ^ 63)≤i∧i < 2 ^ 63∧seqIndex? i xs.length=some k∧xs[k]? = some y∧Q y (upd H l (.lst (xs.eraseIdx k)))
theorem mt_popAt:MtM X "list.pop" rPopAt:=by
  intro pins s σ H x vs v us Q I rx rv h
  obtain ⟨l,xs,i,k,y,rfl,rfl,hH,h1,h2,hk,hy,q⟩:=h
  cases rx
  obtain ⟨u,rfl,ru⟩:=rv.one
  obtain ⟨t,rfl⟩:=ru
  obtain ⟨z,its,n,r,hl,e⟩:=I.lstM hH
  obtain ⟨w,hw,rw'⟩:=r.get hy
  refine call_meets F.slot_list_pop ⟨_,e,rfl⟩ F.entry_list_pop (F.args_list_pop_2 _ _)
    (MeetsSeq.list_pop_at l its.toArray n i t k w (fitsIndex_both h1 h2) (by rw [List.size_toArray,← hl];exact hk) (by rw [← Array.getElem?_toList];exact hw) (by rw [List.size_toArray];omega)) ⟨e,?_⟩
  refine ⟨y,_,I.lset (its':=its.eraseIdx k) hH e ?_ (r.eraseIdx k) ?_,rw',q⟩
  · show its.toArray.eraseIdxIfInBounds k=(its.eraseIdx k).toArray
    rw [List.eraseIdxIfInBounds_toArray]
  · have:=len_erase xs k
    omega
def rCat:R2:=fun x y H Q=>∃ l b xs zs,x = .ref l∧y = .ref b∧H l=some (.lst xs)∧H b=some (.lst zs)∧xs.length+zs.length≤sizeLine∧∀ p,H p=none→Q (.ref p) (upd H p (.lst (xs ++ zs)))
theorem op_cat:OpR X (binaryOp .Add) rCat:=by
  intro pins s σ H x y v u Q I rx ry h
  obtain ⟨l,b,xs,zs,rfl,rfl,hH,hB,hz,q⟩:=h
  cases rx
  cases ry
  obtain ⟨z,its,n,r,hl,e⟩:=I.lstM hH
  obtain ⟨z2,its2,n2,r2,hl2,e2⟩:=I.lstM hB
  refine PySem.P.add_list e e2 ?_ (by rw [List.size_toArray,List.size_toArray];omega)
  have ea:its.toArray ++ its2.toArray=(its ++ its2).toArray:=by simp
  rw [ea]
  exact ⟨.ref _,_,I.lnew (t':=s.toks) (r.append r2) (by rw [List.length_append];omega),rfl,q _ I.fresh⟩
def rRep:R2:=fun x y H Q=>∃ l k xs,x = .ref l∧y = .int k∧H l=some (.lst xs)∧-(2 ^ 63)≤k∧k < 2 ^ 63∧xs.length * k.toNat≤sizeLine∧
  ∀ p,H p=none→Q (.ref p) (upd H p (.lst (List.replicate k.toNat xs).flatten))
theorem len_rep {α:Type} (xs:List α) (k:Nat):(List.replicate k xs).flatten.length=k * xs.length:=by
  induction k with
  | zero=>simp
  | succ k ih=>rw [List.replicate_succ,List.flatten_cons,List.length_append,ih,Nat.succ_mul,Nat.add_comm]
theorem op_rep:OpR X (binaryOp .Mult) rRep:=by
  intro pins s σ H x y v u Q I rx ry h
  obtain ⟨l,k,xs,rfl,rfl,hH,h1,h2,hz,q⟩:=h
  cases rx
  obtain ⟨t,rfl⟩:=ry
  obtain ⟨z,its,n,r,hl,e⟩:=I.lstM hH
  have hlen:its.toArray.size * k.toNat≤sizeLine:=by rw [List.size_toArray,← hl];exact hz
  have hcap:¬ its.toArray.size * k.toNat > (2 ^ 63 - 1) / 8:=by
    have:(sizeLine:Nat)≤(2 ^ 63 - 1) / 8:=by decide
    omega
  have hfit:¬ (!Builtin.List.listFitsIndex k)=true:=by
    rw [fitsIndex_both h1 h2]
    exact Bool.false_ne_true
  have hlong:¬ Builtin.List.listTooLong (its.toArray.size * k.toNat)=true:=by
    rw [notLongL hlen]
    exact Bool.false_ne_true
  have hnew:List.foldl (fun x1 x2=>x1 ++ x2) #[] (List.replicate (if its.toArray.isEmpty=true then 0 else k.toNat) its.toArray)=(List.replicate k.toNat its).flatten.toArray:=by
    have f0:∀ m:Nat,List.foldl (fun x1 x2=>x1 ++ x2) #[] (List.replicate m its.toArray)=(List.replicate m its).flatten.toArray:=fun m=>by
      have:=foldl_rep its m []
      rw [List.nil_append] at this
      exact this
    rw [f0]
    cases its with
    | nil=>simp
    | cons a r'=>rw [if_neg (by simp)]
  refine wpAny_binaryOp_repeat_ref (T := "list") (U := "int") (by decide) ⟨_,e,rfl⟩ (fun s'=>typeIs_int s' k t) noFill_list_mul F.fills_int_mul F.slot_int_rmul repeat_list F.slot_int_index.lookup
    (call_meets F.slot_int_rmul (typeIs_int s k t) F.entry_int_rmul (F.args_int_rmul_2 _ _) (int___rmul___int_list k t l its.toArray n)
      ⟨e,rfl,⟨_,e,rfl⟩,call_meets F.slot_list_mul ⟨_,e,rfl⟩ F.entry_list_mul (F.args_list_mul_2 _ _) (AutoListH.list___mul___list_int_3 l its.toArray n k t hfit hcap hlong) ⟨e,?_⟩⟩)
  rw [hnew]
  exact ⟨.ref _,_,I.lnew (t':=s.toks) (r.rep k.toNat) (by rw [len_rep,Nat.mul_comm];exact hz),rfl,q _ I.fresh⟩
end
section
variable {prog:Program} {w:World} {A:Around} {E:Value→Shared→Prop} {s:Shared}
end
section
variable {X:Cx}
end
end L2
namespace Att
open PySem PySem.W PySem.Calls PyProof.Rows
theorem ints_of_wellAll {P:Params} {h:Heap}:∀ (ns:List Int) (vs:List Value),WellAll P h vs (ns.map WData.int)→IntsAre vs ns:=by
  intro ns
  induction ns with
  | nil=>
    intro vs w
    rw [List.map_nil] at w
    cases w
    exact .nil
  | cons n ns ih=>
    intro vs w
    rw [List.map_cons] at w
    cases w with
    | cons a b=>
      cases a
      exact .cons _ _ (ih _ b)
theorem script_of {l:OpenLaw} {n:Nat} (hn:l.most=some n) {P:Params} {h:Heap} {args:List WData} {vals:List Value}
    (hpre:l.row.toRowW.claim.pre args=true) (hwl:WellAll P h vals args) :
    ∃ a vs ns,vals=[Value.ref a]∧args=[WData.list (ns.map WData.int)]∧h.get? a=some { cls:=.type "list", data:=.seq vs.toArray }∧IntsAre vs ns∧ns.length≤n:=by
  have hsh:WShape.hasAll [] args [.list .int]=true:=(pre_splitW hpre).1
  have hc:l.pre.holds [] { args:=args }=true:=(pre_splitW hpre).2
  obtain ⟨d,r,rfl,h1,h2⟩:=hasAllW_cons hsh
  obtain rfl:=hasAllW_nil h2
  obtain ⟨xs,rfl,h3⟩:=hasW_list h1
  obtain ⟨ns,rfl⟩:=items_int h3
  have hlen:ns.length≤n:=by
    unfold OpenLaw.pre at hc
    have h4:(WTm.not (.lt (.lit (.int (n:Int))) (.len (.arg 0)))).holds [] { args:=[.list (ns.map .int)] }=true:=by
      have h4:=(holds_andW hc).1
      rw [hn] at h4
      exact h4
    have h5:=condW_of h4 (w_not (w_lt w_lit (w_len_list (w_arg rfl))))
    rw [List.length_map] at h5
    refine Nat.le_of_not_lt fun q=>?_
    have q':(n:Int) < ((ns.length:Nat):Int):=by omega
    first
      | (rw [decide_eq_true q'] at h5;exact absurd h5 (by decide))
      | (simp at h5;omega)
  cases hwl with
  | cons w1 w2=>
    cases w2
    cases w1 with
    | list ho hall=>exact ⟨_,_,ns,rfl,rfl,ho,ints_of_wellAll ns _ hall,hlen⟩
theorem post_true (l:OpenLaw) (args:List WData):l.row.toRowW.claim.post args (.bool true) args=true:=
  postW_of (r:=l.row.toRowW) (X:=(true == true))
    (show WShape.has [] (.bool true) .bool=true by first | rfl | decide | simp [WShape.has,WShape.arms,WShape.armsAll])
    (show (WTm.eq .res (.lit (.bool true))).value [] { args:=args,res:=some (.bool true),after:=args }=some (.bool (true == true)) from w_eq_bool (w_res rfl) w_lit) rfl
theorem attach_call {l:OpenLaw} {n:Nat} {q:Program} {loose:List Str} {XP:(Str→Option Value)→Heap→Prop} {YP:World→Heap→Prop} {d:DefRec}
    (hn:l.most=some n) (hdf:d.params.defaults=[])
    (call:∀ (w:World) (s₀ s₁:Shared) (mg mb:Str→Option Value) (fa:Addr) (o:Obj) (pm cd doc:Value) (a:Addr) (vs:List Value) (ns:List Int),
      Ground q loose [] XP w s₀ mg mb s₁.heap→YP w s₁.heap→
      s₁.heap.get? fa=some o→o.data = .func (docDef d.name d.params d.body d.scope pm cd doc)→s₁.heap.CodeRec cd d.name→mg d.name=some (.ref fa)→
      s₁.heap.get? a=some { cls:=.type "list", data:=.seq vs.toArray }→IntsAre vs ns→ns.length≤n→s₁.gens = #[]→
      codeAny (model l.prog w) callerA (.call (.ref fa) ⟨[.ref a],[]⟩) (fun r s'=>r = .ok (.ret (.bool true))∧OldK s₁.heap s'.heap∧s'.os=s₁.os∧AllBare s'.gens) s₁) :
    WalkO q loose XP YP l.row.toRowW d [] (fun f vs=>PySem.call f vs):=by
  intro w s₀ s₁ mg mb G Y fa o pm cd doc dV kV ho hd hcd hD hmg hg args vals as hpre hlay hrd hwl hlo
  obtain rfl:dV = .none:=Dflts.none hD hdf
  obtain rfl:kV = .none:=Dflts.noKw hD
  obtain ⟨a,vs,ns,rfl,rfl,hobj,hints,hlen⟩:=script_of hn hpre hwl
  refine enter_call (codeAny_mono (call w s₀ s₁ mg mb fa o pm cd doc a vs ns G Y ho (fd_plain hd) hcd hmg hobj hints hlen hg) fun r s' hq=>?_)
  obtain ⟨rfl,h2,h3,h4⟩:=hq
  exact ⟨.inl ⟨.bool true,.bool true,[],rfl,fun _=>rfl,.bool true,post_true l _,fun _=>⟨List.Pairwise.nil,fun _ hm=>(nomatch hm)⟩⟩,h2,h3,h4⟩
section
variable {prog:Program} {w:World} {A:Around} {E:Value→Shared→Prop} {s:Shared} {K:Frag}
end
end Att
namespace L2
open PySem PySem.Spec PyProof.Rows
theorem vals_ints:∀ {vs:List Value} {ns:List Int},IntsAre vs ns→Vals (ns.map V.int) vs
  | _,_,.nil=>.nil
  | _,_,.cons n t h=>.cons ⟨t,rfl⟩ (vals_ints h)
def Only (H:Hp):Prop:=∀ b,H b=none∨∃ o xs,H b=some (.frz o (.lst xs))
theorem law_call {P:Program} {w:World} {K:Frag} {mg mb:Str→Option Value} {CX:CXT} {k:Nat} {fa a:Addr} {fd:FuncData} {x:Str} {sp:Sp} {s₁:Shared} {vs:List Value} {ns:List Int}
    (KX:K.In s₁.heap) (hns:s₁.heap.Ns mainGlobals mg) (hb:s₁.heap.Ns builtinsNs mb) (hbb:∀ x:Str,x ≠ "__name__" → mb x=bootBuiltins x) (hlim:s₁.heap.NoLimit) (hg:s₁.gens = #[])
    (ha:s₁.heap.get? a=some { cls:=.type "list", data:=.seq vs.toArray }) (hi:IntsAre vs ns) (hl:ns.length≤sizeLine) (hr:Room k callerA)
    (F:∀ base:Heap,K.In base→base.Ns mainGlobals mg→FnOk P w K mg base CX k fa fd [x] sp) (hbind:∀ (s:Shared) (u:Value),BindsTo s fd ⟨[u],[]⟩ [(x,u)])
    (hsp:∀ H:Hp,Only H→SqL K H a (ns.map V.int)→sp [.ref a] H (fun v _=>v = .bl true) fun _ _ _=>False)
    (hCX:∀ H e s',CX [] H s₁ (fun _ _ _=>False) e s'→False) :
    codeAny (model P w) callerA (.call (.ref fa) ⟨[.ref a],[]⟩) (fun r s'=>r = .ok (.ret (.bool true))∧OldK s₁.heap s'.heap∧s'.os=s₁.os∧AllBare s'.gens) s₁:=by
  have rv:=vals_ints hi
  have lenV:=hi.length
  have core:∀ H:Hp,Only H→SqL K H a (ns.map V.int)→HOk P w H s₁.heap→(∀ b,H b≠none→b=a)→(H a≠none→K.lookup a=none)→
      codeAny (model P w) callerA (.call (.ref fa) ⟨[.ref a],[]⟩) (fun r s'=>r = .ok (.ret (.bool true))∧OldK s₁.heap s'.heap∧s'.os=s₁.os∧AllBare s'.gens) s₁:=by
    intro H hO hS hok hA hK
    have base_of:∀ {b:Addr} {o:Obj},s₁.heap.get? b=some o→H b=none→(hidT s₁.heap H).get? b=some o:=fun e n=>hidT_get e n
    have noA:∀ {b:Addr} {o:Obj} {es:Array DictEntry} {ep:Nat},s₁.heap.get? b=some o→o.data = .dict es ep→H b=none:=fun {b o es ep} e d=>by
      cases q:H b with
      | none=>rfl
      | some u=>
        have e':b=a:=hA b (by rw [q];simp)
        subst e'
        rw [ha] at e;cases e
        have d':Data.seq vs.toArray _=Data.dict es ep:=d
        cases d'
    have nsK:∀ {b:Addr} {m:Str→Option Value},s₁.heap.Ns b m→(hidT s₁.heap H).Ns b m:=fun {b m} ⟨o,es,ep,e,d,r⟩=>⟨o,es,ep,base_of e (noA e d),d,r⟩
    have hKb:K.In (hidT s₁.heap H):=fun b o e=>base_of (KX b o e) (by
      cases q:H b with
      | none=>rfl
      | some u=>
        have e':b=a:=hA b (by rw [q];simp)
        subst e'
        rw [hK (by rw [q];simp)] at e;cases e)
    have hM:Mod K mg (hidT s₁.heap H):=⟨hKb,nsK hns,⟨mb,nsK hb,hbb⟩,let ⟨mc,h1,h2⟩:=hlim;⟨mc,nsK h1,h2⟩⟩
    have e0:Env0 P w K mg (hidT s₁.heap H) callerA [] s₁ H:=⟨rfl,hM,fun b o e=>of_hidT e,Nat.le_of_eq (hidT_size _ _),trivial,fun b hb=>absurd (show b∈([]:List Addr) from hb) (by simp),hok,.of_eq hg⟩
    refine codeAny_mono ((F _ hKb (nsK hns)).run callerA [] s₁ H ⟨[.ref a],[]⟩ [.ref a] [.ref a] _ _ hr e0 (hbind s₁ (.ref a)) (.cons rfl .nil) (hsp H hO hS)) fun r s' h=>?_
    cases r with
    | error e=>exact (hCX H e s' h).elim
    | ok fl=>
      cases fl with
      | next=>exact False.elim h
      | brk=>exact False.elim h
      | cont=>exact False.elim h
      | ret u=>
        obtain ⟨v,H',os,bare,un,hok',r',q⟩:=h
        have q':v = .bl true:=q
        subst q'
        obtain rfl:u=Value.bool true:=r'
        refine ⟨rfl,OldK.of_keep fun b o e=>?_,os,bare⟩
        cases q:H b with
        | none=>exact un.keep b o e q (by intro z;exact absurd (show b∈([]:List Addr) from z) (by simp)) (by simp)
        | some u=>
          rcases hO b with z | ⟨ob,xs,z⟩
          · rw [q] at z;cases z
          · have z2:=un.frzs b ob _ z
            obtain ⟨e1,_⟩:=hok b _ z
            obtain ⟨e2,_⟩:=hok' b _ z2
            rw [e] at e1;cases e1
            exact e2
  cases hk:K.lookup a with
  | some o=>
    have e:=KX a o hk
    rw [ha] at e
    cases e
    refine core (fun _=>none) (fun _=>.inl rfl) (.inr ⟨_,vs.toArray,_,hk,rfl,rfl,rfl,by rw [List.size_toArray,lenV];exact hl,by simpa using rv⟩) (fun b u z=>by have z':(none:Option HO)=some u:=z;cases z') (fun b z=>absurd rfl z) fun z=>absurd rfl z
  | none=>
    refine core (fun b=>if b=a then some (.frz { cls:=.type "list", data:=.seq vs.toArray } (.lst (ns.map V.int))) else none) (fun b=>?_) (.inl (.inr ⟨{ cls:=.type "list", data:=.seq vs.toArray },if_pos rfl⟩)) (fun b u z=>?_) (fun b z=>?_) fun _=>hk
    · by_cases hb:b=a
      · exact .inr ⟨_,_,if_pos hb⟩
      · exact .inl (if_neg hb)
    · by_cases hb:b=a
      · have z':=(if_pos hb).symm.trans z
        cases z'
        subst hb
        exact ⟨ha,by rw [List.length_map];exact hl,vs,_,rv,ha⟩
      · have z':=(if_neg hb).symm.trans z
        cases z'
    · by_cases hb:b=a
      · exact hb
      · exact absurd (if_neg hb) z
end L2
namespace L2
open PySem PySem.Spec PyProof.Rows
theorem walk_of {l:PySem.W.OpenLaw} {n k:Nat} {q:Program} {loose:List Str} {XP:(Str→Option Value)→Heap→Prop} {YP:World→Heap→Prop} {d:DefRec} {K:Params→Frag} {CX:World→CXT} {sp:World→Sp} {x:Str}
    (hn:l.most=some n) (hn2:n≤sizeLine) (hdf:d.params.defaults=[]) (hr:Room k callerA)
    (hY:∀ (w:World) (h:Heap),YP w h→(K w.params).In h)
    (F:∀ (w:World) (mg:Str→Option Value) (fa:Addr) (h:Heap),(K w.params).In h→h.Ns mainGlobals mg→mg d.name=some (.ref fa)→
      ∃ fd:FuncData,(∀ (s:Shared) (u:Value),BindsTo s fd ⟨[u],[]⟩ [(x,u)])∧
        ∀ base:Heap,(K w.params).In base→base.Ns mainGlobals mg→FnOk l.prog w (K w.params) mg base (CX w) k fa fd [x] (sp w))
    (hsp:∀ (w:World) (H:Hp) (a:Addr) (ns:List Int),ns.length≤n→Only H→SqL (K w.params) H a (ns.map V.int)→sp w [.ref a] H (fun v _=>v = .bl true) fun _ _ _=>False)
    (hCX:∀ (w:World) (H:Hp) (s:Shared) (e:Value) (s':Shared),CX w [] H s (fun _ _ _=>False) e s'→False) :
    PySem.W.WalkO q loose XP YP l.row.toRowW d [] (fun f vs=>PySem.call f vs):=by
  refine Att.attach_call hn hdf fun w s₀ s₁ mg mb fa o pm cd doc a vs ns G Y ho hd hcd hmg hobj hints hlen hg=>?_
  have KX:=hY w _ Y
  obtain ⟨fd,hb,hF⟩:=F w mg fa _ KX G.T.g hmg
  exact law_call KX G.T.g G.T.b G.T.builtins G.T.nolimit hg hobj hints (Nat.le_trans hlen hn2) hr hF hb (fun H hO hS=>hsp w H a ns hlen hO hS) fun H e s'=>hCX w H s₁ e s'
end L2
namespace L2
open PySem PySem.Spec PyProof.Rows
def inClass (s:Stmt) (j:Nat):Stmt:=match s with
  | .ClassDef _ _ _ body _ _ _ _ _ _ _=>body.getD j (.Pass ⟨0,0,0,0⟩)
  | _=>.Pass ⟨0,0,0,0⟩
def defArgs (s:Stmt):Arguments:=match s with
  | .FunctionDef _ a _ _ _ _ _ _ _ _=>a
  | _=>{ posonlyargs:=[],args:=[],vararg:=none,kwonlyargs:=[],kw_defaults:=[],kwarg:=none,defaults:=[] }
def defBody (s:Stmt):List Stmt:=match s with
  | .FunctionDef _ _ b _ _ _ _ _ _ _=>b
  | _=>[]
def defScope (s:Stmt):Scope:=match s with
  | .FunctionDef _ _ _ _ _ _ sc _ _ _=>sc
  | _=>{ kind:=.function,names:=[],isGenerator:=false,isCoroutine:=false }
abbrev CX0:CXT:=fun _ _ _ _ _ _=>False
abbrev E0:XK:=fun _ _ _=>False
theorem pass0 {X:Cx}:Passes CX0 X E0:=fun _ _ _ _ _ _ _ h=>h.elim
structure Fun (K:Frag) (x qual:Str) (st:Stmt) (f:Addr) (fd:FuncData):Prop where
  ex:∃ (oc:Value) (od:Option Addr) (kV doc pm:Value) (an:Option Addr) (cdv ct:Value) (osl:Array (Option Value)),
    fd=fnOf x qual (defArgs st) (defBody st) (defScope st) .none kV doc pm an cdv ct∧K.lookup f=some ⟨oc,od,.func fd,osl⟩∧PySem.W.codeIn K cdv qual=true
  kp:keepIn K (.ref f)=true
section
variable {P:Program} {w:World} {K:Frag} {mg:Str→Option Value} {base:Heap}
theorem Fun.ok {x qual:Str} {st:Stmt} {f:Addr} {fd:FuncData} {N ps:List Str} {k:Nat} {sp:Sp} (F:Fun K x qual st f fd) (S:FnScope N ps (defScope st)) (len:∀ vs H Q E,sp vs H Q E→vs.length=ps.length)
    (hbody:∀ (cdv:Value) (A:Around) (outer:List Env) (s:Shared) (H:Hp) (vs:List V) (Q:VK) (E:XK),Room k (A.deeper (envOfC qual (defScope st) s.heap.objs.size f cdv))→sp vs H Q E→
      ∃ t,PSs (cxOf CX0 P w K mg base N qual (defScope st) f cdv A outer s H E).nox (defBody st) t∧t { nx:=fun _ H'=>Q .non H',rt:=Q } (start N vs) H):FnOk P w K mg base CX0 (k+1) f fd ps sp:=by
  obtain ⟨oc,od,kV,doc,pm,an,cdv,ct,osl,rfl,lk,hcd⟩:=F.ex
  refine fn_of lk hcd S len fun A outer s H vs Q E hr hsp=>?_
  obtain ⟨t,h,q⟩:=hbody cdv A outer s H vs Q E hr hsp
  exact ⟨t,h.nox,q⟩
theorem Fun.binds {x qual:Str} {st:Stmt} {f:Addr} {fd:FuncData} {ps:List Str} (F:Fun K x qual st f fd)
    (h:∀ (kV doc pm:Value) (an:Option Addr) (cdv ct:Value) (us:List Value),us.length=ps.length→bindArgs (fnOf x qual (defArgs st) (defBody st) (defScope st) .none kV doc pm an cdv ct) ⟨us,[]⟩=pure (ps.zip us)):Binds K fd ps []:=by
  obtain ⟨oc,od,kV,doc,pm,an,cdv,ct,osl,rfl,lk,hcd⟩:=F.ex
  exact .all (h kV doc pm an cdv ct)
theorem fun_mk {x qual:Str} {st:Stmt} {f:Addr} {oc:Value} {od an:Option Addr} {osl:Array (Option Value)} {kV doc pm cdv ct:Value} (l:K.lookup f=some ⟨oc,od,.func (fnOf x qual (defArgs st) (defBody st) (defScope st) .none kV doc pm an cdv ct),osl⟩)
    (c:PySem.W.codeIn K cdv qual=true) (k:keepIn K (.ref f)=true):Fun K x qual st f (fnOf x qual (defArgs st) (defBody st) (defScope st) .none kV doc pm an cdv ct):=⟨⟨oc,od,kV,doc,pm,an,cdv,ct,osl,rfl,l,c⟩,k⟩
end
section
variable {X:Cx}
end
theorem iteF {A B:Prop} (h:B):if false=true then A else B:=by
  rw [if_neg Bool.false_ne_true]
  exact h
theorem iteT {A B:Prop} (h:A):if true=true then A else B:=by
  rw [if_pos rfl]
  exact h
theorem ite2 {c A B:Prop} [Decidable c] (h1:c→A) (h2:¬ c→B):if c then A else B:=by
  by_cases h:c
  · rw [if_pos h]
    exact h1 h
  · rw [if_neg h]
    exact h2 h
def Same (H H':Hp):Prop:=∀ b o,H b=some o→H' b=some o
theorem Same.refl (H:Hp):Same H H:=fun _ _ h=>h
theorem Same.trans {H H1 H2:Hp} (a:Same H H1) (b:Same H1 H2):Same H H2:=fun c o h=>b c o (a c o h)
theorem Same.free {H H':Hp} (e:Same H H') {l:Addr} (h:H' l=Option.none):H l=Option.none:=by
  cases q:H l with
  | none=>rfl
  | some o=>
    rw [e l o q] at h
    cases h
theorem Same.seq {K:Frag} {H H':Hp} {a:Addr} {xs:List V} (e:Same H H') (h:SqL K H a xs):SqL K H' a xs:=by
  rcases h with (h | ⟨o,h⟩) | h
  · exact .inl (.inl (e _ _ h))
  · exact .inl (.inr ⟨o,e _ _ h⟩)
  · exact .inr h
end L2
namespace PySem
open Sem (wp)
theorem closureFor_some {scope:Scope} {env:Env} (h:∀ y∈scope.names,y.2 = .free→∃ c,env.cells.lookup y.1=some c) :
    ∃ cl,closureFor scope env=pure cl∧(∀ x c,cl.lookup x=some c→env.cells.lookup x=some c)∧
      ∀ y∈scope.names,y.2 = .free→∃ c,cl.lookup y.1=some c:=by
  have key:∀ (names:List (Str×NameKind)) (acc:List (Str×Addr)),(∀ y∈names,y.2 = .free→∃ c,env.cells.lookup y.1=some c)→
      (∀ x c,acc.lookup x=some c→env.cells.lookup x=some c)→
      ∃ cl,(forIn names acc fun (x:Str×NameKind) (r:List (Str×Addr))=>(if (x.2 == NameKind.free)=true then do let c ← cellOf env x.1;pure (ForInStep.yield ((x.1,c) :: r)) else pure (ForInStep.yield r):Sem _))=pure cl∧
        (∀ x c,cl.lookup x=some c→env.cells.lookup x=some c)∧(∀ y∈names,y.2 = .free→∃ c,cl.lookup y.1=some c)∧∀ x c,acc.lookup x=some c→∃ c',cl.lookup x=some c':=by
    intro names
    induction names with
    | nil=>intro acc _ ha;exact ⟨acc,rfl,ha,(fun _ hy=>nomatch hy),fun x c e=>⟨c,e⟩⟩
    | cons y r ih=>
      intro acc hf ha
      obtain ⟨n,k⟩:=y
      have hr:∀ y∈r,y.2 = .free→∃ c,env.cells.lookup y.1=some c:=fun y hy=>hf y (List.mem_cons_of_mem _ hy)
      by_cases hk:k = .free
      · subst hk
        obtain ⟨c,hc⟩:=hf (n,.free) List.mem_cons_self rfl
        have ha':∀ x d,((n,c) :: acc).lookup x=some d→env.cells.lookup x=some d:=fun x d e=>by
          rw [List.lookup_cons] at e
          by_cases hx:x=n
          · subst hx;simp at e;rw [← e];exact hc
          · have:(x == n)=false:=by simpa using hx
            rw [this] at e;exact ha x d e
        obtain ⟨cl,e1,e2,e3,e4⟩:=ih ((n,c) :: acc) hr ha'
        refine ⟨cl,?_,e2,fun y hy hyf=>?_,fun x d e=>?_⟩
        · rw [List.forIn_cons]
          have q:cellOf env n=pure c:=by unfold cellOf;rw [hc]
          simp only [beq_self_eq_true,if_true,q]
          exact e1
        · rcases List.mem_cons.mp hy with rfl | hy
          · obtain ⟨c',q⟩:=e4 n c (by rw [List.lookup_cons];simp)
            exact ⟨c',q⟩
          · exact e3 y hy hyf
        · by_cases hx:x=n
          · subst hx;exact e4 x c (by rw [List.lookup_cons];simp)
          · have hb:(x == n)=false:=by simpa using hx
            exact e4 x d (by rw [List.lookup_cons,hb];exact e)
      · have hb:(k == NameKind.free)=false:=by simpa using hk
        obtain ⟨cl,e1,e2,e3,e4⟩:=ih acc hr ha
        refine ⟨cl,?_,e2,fun y hy hyf=>?_,e4⟩
        · rw [List.forIn_cons]
          simp only [hb,Bool.false_eq_true,if_false]
          exact e1
        · rcases List.mem_cons.mp hy with rfl | hy
          · exact absurd hyf hk
          · exact e3 y hy hyf
  obtain ⟨cl,e1,e2,e3,_⟩:=key scope.names [] h (fun x c e=>by simp at e)
  refine ⟨cl,?_,e2,e3⟩
  unfold closureFor
  simp only [bind_pure]
  exact e1
theorem compTurn_set (elt target iter:Expr) (ifs:List Expr) (scope:Scope) (pos:Pos) (it acc:Value) (env:Env) :
    compTurn (.SetComp elt [⟨target,iter,ifs,0⟩] scope pos) 0 it acc env=(do
      standAt iter.pos
      match ← pyNext it with
      | none=>pure (.done .next)
      | some v=>
        letOwnedTupleGo target it v
        assign target env v
        let mut ok:=true
        for c in ifs do
          if ok then ok ← isTrue c env (eval c env)
        if ok then
          (do let v ← eval elt env;standAt elt.pos;let _ ← call (.builtin "set.add") [acc,v])
        again (.compLoop (.SetComp elt [⟨target,iter,ifs,0⟩] scope pos) 0 it acc env)):=by rfl
section
variable {prog:Program} {w:World} {A:Around} {E:Value→Shared→Prop} {R:Result→Shared→Prop} {s:Shared}
theorem codeAny_compLoop_listG {elt target iter:Expr} {ifs:List Expr} {scope:Scope} {pos:Pos} {it acc:Value} {env:Env} (I:Nat→Shared→Prop)
    (turn:∀ n s,I n s→wpAny (model prog w) A (pyNext it) (fun r s₁=>match r with
      | none=>R (.ok .next) s₁
      | some v=>wpAny (model prog w) A (letOwnedTupleGo target it v) (fun _ s₁'=>wpAny (model prog w) A (assign target env v) (fun _ s₂=>
          wpAny (model prog w) A (forIn ifs true fun c r=>if r=true then do let ok ← isTrue c env (eval c env);pure (ForInStep.yield ok) else pure (ForInStep.yield r)) (fun ok s₃=>
            if ok=true then wpAny (model prog w) A (eval elt env) (fun x s₄=>
              wpAny (model prog w) A (call (.builtin "list.append") [acc,x]) (fun _ s₅=>∃ m,m < n∧I m s₅) (fun _ _=>False) s₄) (fun _ _=>False) s₃
            else ∃ m,m < n∧I m s₃) (fun _ _=>False) s₂) (fun _ _=>False) s₁') (fun _ _=>False) s₁) (fun _ _=>False) s)
    (n:Nat) (h:I n s) :
    codeAny (model prog w) A (.compLoop (.ListComp elt [⟨target,iter,ifs,0⟩] scope pos) 0 it acc env) R s:=by
  refine codeAny_loop rfl I (fun n s hI=>?_) n h
  show wpAny _ A ((compTurn (.ListComp elt [⟨target,iter,ifs,0⟩] scope pos) 0 it acc env).onRaise (fun x=>do noteFrame x env;theTreesLotGoes x)) _ _ s
  refine wpAny_noted ?_
  rw [compTurn_list]
  refine wpAny_bind (wpAny_standAt (wpAny_bind (wpAny_mono (turn n s hI) (fun r s₁ h₁=>?_) fun _ _ h'=>h'.elim)))
  cases r with
  | none=>exact wpAny_pure h₁
  | some v=>
    refine wpAny_bind (wpAny_mono h₁ (fun _ s₁' h₁'=>?_) fun _ _ h'=>h'.elim)
    refine wpAny_bind (wpAny_mono h₁' (fun _ s₂ h₂=>wpAny_bind (wpAny_mono h₂ (fun ok s₃ h₃=>?_) fun _ _ h'=>h'.elim)) fun _ _ h'=>h'.elim)
    cases ok with
    | false=>exact wpAny_pure ⟨rfl,h₃⟩
    | true=>
      exact wpAny_bind (wpAny_bind (wpAny_mono h₃ (fun x s₄ h₄=>wpAny_bind (wpAny_mono h₄ (fun _ s₅ h₅=>wpAny_pure (wpAny_pure ⟨rfl,h₅⟩)) fun _ _ h'=>h'.elim)) fun _ _ h'=>h'.elim))
theorem codeAny_compLoop_setG {elt target iter:Expr} {ifs:List Expr} {scope:Scope} {pos:Pos} {it acc:Value} {env:Env} (I:Nat→Shared→Prop)
    (turn:∀ n s,I n s→wpAny (model prog w) A (pyNext it) (fun r s₁=>match r with
      | none=>R (.ok .next) s₁
      | some v=>wpAny (model prog w) A (letOwnedTupleGo target it v) (fun _ s₁'=>wpAny (model prog w) A (assign target env v) (fun _ s₂=>
          wpAny (model prog w) A (forIn ifs true fun c r=>if r=true then do let ok ← isTrue c env (eval c env);pure (ForInStep.yield ok) else pure (ForInStep.yield r)) (fun ok s₃=>
            if ok=true then wpAny (model prog w) A (eval elt env) (fun x s₄=>
              wpAny (model prog w) A (call (.builtin "set.add") [acc,x]) (fun _ s₅=>∃ m,m < n∧I m s₅) (fun _ _=>False) s₄) (fun _ _=>False) s₃
            else ∃ m,m < n∧I m s₃) (fun _ _=>False) s₂) (fun _ _=>False) s₁') (fun _ _=>False) s₁) (fun _ _=>False) s)
    (n:Nat) (h:I n s) :
    codeAny (model prog w) A (.compLoop (.SetComp elt [⟨target,iter,ifs,0⟩] scope pos) 0 it acc env) R s:=by
  refine codeAny_loop rfl I (fun n s hI=>?_) n h
  show wpAny _ A ((compTurn (.SetComp elt [⟨target,iter,ifs,0⟩] scope pos) 0 it acc env).onRaise (fun x=>do noteFrame x env;theTreesLotGoes x)) _ _ s
  refine wpAny_noted ?_
  rw [compTurn_set]
  refine wpAny_bind (wpAny_standAt (wpAny_bind (wpAny_mono (turn n s hI) (fun r s₁ h₁=>?_) fun _ _ h'=>h'.elim)))
  cases r with
  | none=>exact wpAny_pure h₁
  | some v=>
    refine wpAny_bind (wpAny_mono h₁ (fun _ s₁' h₁'=>?_) fun _ _ h'=>h'.elim)
    refine wpAny_bind (wpAny_mono h₁' (fun _ s₂ h₂=>wpAny_bind (wpAny_mono h₂ (fun ok s₃ h₃=>?_) fun _ _ h'=>h'.elim)) fun _ _ h'=>h'.elim)
    cases ok with
    | false=>exact wpAny_pure ⟨rfl,h₃⟩
    | true=>
      exact wpAny_bind (wpAny_bind (wpAny_mono h₃ (fun x s₄ h₄=>wpAny_bind (wpAny_standAt (wpAny_bind (wpAny_mono h₄ (fun _ s₅ h₅=>wpAny_pure (wpAny_pure ⟨rfl,h₅⟩)) fun _ _ h'=>h'.elim)))) fun _ _ h'=>h'.elim))
theorem codeAny_compStart_set {elt target iter ifs rest scope pos it acc env}
    (h0:codeAny (model prog w) A (.compLoop (.SetComp elt (⟨target,iter,ifs,0⟩ :: rest) scope pos) 0 it acc env) R s)
    (h:wpAny (model prog w) A (pyIter it) (fun it' s'=>codeAny (model prog w) A (.compLoop (.SetComp elt (⟨target,iter,ifs,0⟩ :: rest) scope pos) 0 it' acc env) R s')
      (notedBy (model prog w) A env fun x s'=>R (.error x) s') s) :
    codeAny (model prog w) A (.compStart (.SetComp elt (⟨target,iter,ifs,0⟩ :: rest) scope pos) 0 it acc env) R s:=by
  refine codeAny_of_tree ?_
  show wpAny _ _ ((compStart (.SetComp elt (⟨target,iter,ifs,0⟩ :: rest) scope pos) 0 it acc env).onRaise (fun x=>do noteFrame x env;standAt theWindowsPlace)) _ _ s
  refine wpAny_notedAt ?_
  unfold compStart
  show wpAny _ _ (ask >>= _) _ _ s
  refine wpAny_bind (wpAny_askSetting (wpAny_ite ?_))
  split
  · first
      | exact wpAny_bind (wpAny_pure (wpAny_pure (And.intro rfl h0)))
      | exact wpAny_pure (And.intro rfl h0)
  · first
      | exact wpAny_bind (wpAny_rule (wpAny_bind (wpAny_standAt (wpAny_bind (wpAny_mono h (fun it' s' h'=>wpAny_pure (And.intro rfl h')) fun _ _ x=>x)))))
      | (refine wpAny_bind (wpAny_rule ?_);show wpAny _ _ (standAt iter.pos >>= _) _ _ s;exact wpAny_bind (wpAny_standAt (wpAny_bind (wpAny_mono h (fun it' s' h'=>wpAny_pure (And.intro rfl h')) fun _ _ x=>x))))
end
end PySem
namespace L2
open PySem PySem.Spec PyProof.Rows
def slotOf:List Str→St→Str→Option V
  | n :: N,v :: σ,x=>if n=x then v else slotOf N σ x
  | _,_,_=>none
def cmpSt (N:List Str) (σ:St) (names:List (Str×NameKind)):St:=names.map fun p=>if p.2=NameKind.free then slotOf N σ p.1 else none
theorem slotOf_get:∀ {N:List Str} {σ:St} {x:Str} {v:V},slotOf N σ x=some v→∃ i:Nat,N[i]? = some x∧σ[i]? = some (some v)
  | [],_,_,_,h=>by simp [slotOf] at h
  | _ :: _,[],_,_,h=>by simp [slotOf] at h
  | n :: N,u :: σ,x,v,h=>by
    unfold slotOf at h
    by_cases e:n=x
    · rw [if_pos e] at h;exact ⟨0,by simp [e],by simp [h]⟩
    · rw [if_neg e] at h
      obtain ⟨i,h1,h2⟩:=slotOf_get h
      exact ⟨i+1,by simpa using h1,by simpa using h2⟩
def Cx.cmp (X:Cx) (scope:Scope) (cl:List (Str×Addr)) (C:Addr) (s₀:Shared) (H₀:Hp) (fp:List Addr):Cx where
  prog:=X.prog
  w:=X.w
  K:=X.K
  mg:=X.mg
  base:=X.base
  A:=X.A
  N:=scope.names.map (·.1)
  s₀:=s₀
  H₀:=H₀
  env:=compEnvC scope cl C X.env
  outer:=X.stack
  stack:=X.stack
  ex:=fp
  fn:=fun _=>false
  calm:=X.calm
  pn:=[]
  xe:=fun _ _=>False
def cmpB (sc scope:Scope):Bool:=
  decide (scope.kind = .function) && scope.names.all (fun y=>decide (y.2≠.cell) && (decide (y.2≠.free) || decide (sc.names.lookup y.1=some .cell) || decide (sc.names.lookup y.1=some .free))) && decide (scope.names.map (·.1)).Nodup
structure CmpOk (X:Cx) (scope:Scope):Prop where
  kind:scope.kind = .function
  nocell:∀ y∈scope.names,y.2≠.cell
  free:∀ y∈scope.names,y.2 = .free→X.env.kindOf y.1=some .cell∨X.env.kindOf y.1=some .free
  nd:(scope.names.map (·.1)).Nodup
theorem CmpOk.of {X:Cx} {scope:Scope} (h:cmpB X.env.scope scope=true):CmpOk X scope:=by
  unfold cmpB at h
  rw [Bool.and_eq_true,Bool.and_eq_true] at h
  obtain ⟨⟨h1,h2⟩,h3⟩:=h
  rw [List.all_eq_true] at h2
  refine ⟨of_decide_eq_true h1,fun y hy=>?_,fun y hy e=>?_,of_decide_eq_true h3⟩
  · have:=h2 y hy;rw [Bool.and_eq_true] at this;exact of_decide_eq_true this.1
  · have:=h2 y hy;rw [Bool.and_eq_true,Bool.or_eq_true,Bool.or_eq_true] at this
    rcases this.2 with (q | q) | q
    · exact absurd e (of_decide_eq_true q)
    · exact .inl (of_decide_eq_true q)
    · exact .inr (of_decide_eq_true q)
theorem lookup_of_mem {names:List (Str×NameKind)} (nd:(names.map (·.1)).Nodup) {y:Str×NameKind} (hy:y∈names):names.lookup y.1=some y.2:=by
  induction names with
  | nil=>nomatch hy
  | cons z r ih=>
    obtain ⟨n,k⟩:=z
    simp only [List.map_cons,List.nodup_cons] at nd
    rcases List.mem_cons.mp hy with rfl | hy
    · simp [List.lookup_cons]
    · have hne:(y.1 == n)=false:=by
        simp only [beq_eq_false_iff_ne,ne_eq]
        rintro e
        exact nd.1 (e ▸ List.mem_map_of_mem (f:=(·.1)) hy)
      rw [List.lookup_cons,hne]
      exact ih nd.2 hy
theorem mem_lookup {names:List (Str×NameKind)} {x:Str} {k:NameKind} (h:names.lookup x=some k):(x,k)∈names:=by
  induction names with
  | nil=>simp at h
  | cons z r ih=>
    obtain ⟨n,j⟩:=z
    rw [List.lookup_cons] at h
    by_cases e:x=n
    · subst e;simp at h;subst h;exact List.mem_cons_self
    · have hb:(x == n)=false:=by simpa using e
      rw [hb] at h;exact List.mem_cons_of_mem _ (ih h)
theorem relabel_kind {scope:Scope} {env:Env} {x:Str} {k:NameKind} (h:(relabel scope env).names.lookup x=some k) :
    scope.names.lookup x=some k∨(scope.names.lookup x=some .free∧k = .cell∧env.kindOf x=some .cell):=by
  unfold relabel at h
  simp only at h
  generalize scope.names=names at h ⊢
  induction names with
  | nil=>simp at h
  | cons z r ih=>
    obtain ⟨n,j⟩:=z
    rw [List.map_cons,List.lookup_cons] at h
    rw [List.lookup_cons]
    by_cases e:x=n
    · subst e
      by_cases hc:(j == NameKind.free && env.scope.kind == .function && env.kindOf x == some .cell)=true
      · simp only [hc,if_true,beq_self_eq_true] at h ⊢
        simp only [Bool.and_eq_true,beq_iff_eq] at hc
        cases h
        exact .inr ⟨by rw [hc.1.1],rfl,hc.2⟩
      · simp only [hc,Bool.false_eq_true,if_false,beq_self_eq_true] at h ⊢
        exact .inl h
    · have hb:(x == n)=false:=by simpa using e
      by_cases hc:(j == NameKind.free && env.scope.kind == .function && env.kindOf n == some .cell)=true
      · simp only [hc,if_true,hb] at h ⊢;exact ih h
      · simp only [hc,Bool.false_eq_true,if_false,hb] at h ⊢;exact ih h
theorem cmp_nd {X:Cx} {scope:Scope} {cl:List (Str×Addr)} {C:Addr} {s₀:Shared} {H₀:Hp} {fp:List Addr} (h:(scope.names.map (·.1)).Nodup):(X.cmp scope cl C s₀ H₀ fp).N.Nodup:=h
theorem inv_cmp {X:Cx} {pins:List (Addr×Obj)} {σ:St} {H:Hp} {s3:Shared} {scope:Scope} {cl:List (Str×Addr)} {fp:List Addr} {h':Heap} {tk:Nat} (I:Inv X pins σ H s3) (ok:CmpOk X scope)
    (hcl:∀ x c,cl.lookup x=some c→X.env.cells.lookup x=some c) (hcf:∀ y∈scope.names,y.2 = .free→∃ c,cl.lookup y.1=some c)
    (hfp:∀ b∈fp,FpOk X pins H b) (hlt:∀ b∈fp,b < s3.heap.objs.size) (hns:h'.Ns s3.heap.objs.size fun _=>none) (hk:∀ b o,s3.heap.get? b=some o→h'.get? b=some o) :
    Inv (X.cmp scope cl s3.heap.objs.size s3 H fp) [] (cmpSt X.N σ scope.names) H { s3 with heap:=h',toks:=tk }:=by
  have kinds:∀ x,((X.cmp scope cl s3.heap.objs.size s3 H fp).env.kindOf x=some .cell∨(X.cmp scope cl s3.heap.objs.size s3 H fp).env.kindOf x=some .free)→scope.names.lookup x=some .free:=fun x hx=>by
    rcases hx with hx | hx
    · rcases relabel_kind hx with q | q
      · exact absurd rfl (ok.nocell _ (mem_lookup q))
      · exact q.1
    · rcases relabel_kind hx with q | q
      · exact q
      · exact q.1
  refine ⟨⟨I.ok.mod,ok.kind,I.ok.glob,I.ok.blt,Nat.le_refl _,fun x y c h1 h2=>I.ok.inj x y c (hcl _ _ h1) (hcl _ _ h2),fun x hx=>?_,(fun x c z _=>nomatch z),I.ok.hd,I.ok.frames,.inl rfl,
      fun b hb=>⟨Nat.ne_of_lt (hlt b hb),fun x c e=>(hfp b hb).2.2.2.2.1 x c (hcl _ _ e)⟩,I.bs,Nat.le_trans I.ok.bsz I.sz,fun b o e hb=>?_,fun b hb z=>?_,I.stack,I.stkFree⟩,
    rfl,I.bare,Un.kept hk,⟨_,hns,fun i x v h1 h2 h3=>?_⟩,fun x c e=>?_,I.hok.fresh (Nat.le_refl _),fun x c e=>I.freeC x c (hcl _ _ e),fun p hp=>absurd (show p∈([]:List (Addr×Obj)) from hp) (by simp),I.hok.kept hk,?_⟩
  · have q:=kinds x hx
    exact hcf _ (mem_lookup q) rfl
  · rcases (hfp b hb).2.2.2.1 with z | z
    · exact I.ok.noex b o e z
    · exact Nat.lt_irrefl _ (Nat.lt_of_lt_of_le (Heap.lt_size e) (Nat.le_trans I.ok.bsz z))
  · rcases List.mem_cons.mp (I.stkSub b z) with q | q
    · exact (hfp b hb).2.1 q
    · exact (hfp b hb).2.2.1 q
  · -- the names
    have e1:(scope.names.map (·.1))[i]? = some x:=h1
    have e2:(cmpSt X.N σ scope.names)[i]? = some (some v):=h2
    unfold cmpSt at e2
    rw [List.getElem?_map] at e1 e2
    cases q:scope.names[i]? with
    | none=>rw [q] at e1;cases e1
    | some y=>
      rw [q] at e1 e2
      simp only [Option.map_some,Option.some.injEq] at e1 e2
      have hy:y∈scope.names:=List.mem_of_getElem? q
      by_cases hf:y.2 = .free
      · rw [if_pos hf] at e2
        obtain ⟨j,j1,j2⟩:=slotOf_get e2
        obtain ⟨m,hn,hl⟩:=I.loc
        have vis:Vis X.env.scope y.1:=by
          rcases ok.free y hy hf with z | z
          · exact .inr (.inl z)
          · exact .inr (.inr z)
        obtain ⟨u,ru,lk⟩:=hl j y.1 v j1 j2 vis
        refine ⟨u,ru,.inr ?_⟩
        obtain ⟨c,hc⟩:=hcf y hy hf
        have hc':=hcl _ _ hc
        rcases lk with ⟨hkl,_⟩ | ⟨_,c2,hc2,hcell⟩
        · rcases ok.free y hy hf with z | z
          · rw [hkl] at z;cases z
          · rw [hkl] at z;cases z
        · rw [hc'] at hc2
          cases hc2
          subst e1
          refine ⟨?_,c,hc,let ⟨o,ho,hd⟩:=hcell;⟨o,hk _ o ho,hd⟩⟩
          have h3':Vis (relabel scope X.env) y.1:=h3
          have lf:scope.names.lookup y.1=some .free:=by rw [lookup_of_mem ok.nd hy,hf]
          rcases h3' with z | z | z
          · rcases relabel_kind z with q | q
            · rw [lf] at q;cases q
            · cases q.2.1
          · exact .inl z
          · exact .inr z
      · rw [if_neg hf] at e2;cases e2
  · obtain ⟨v,hv⟩:=I.cell x c (hcl _ _ e)
    obtain ⟨o,ho,hd⟩:=hv
    exact ⟨v,o,hk _ o ho,hd⟩
  · show (cmpSt X.N σ scope.names).length=(scope.names.map (·.1)).length
    unfold cmpSt
    rw [List.length_map,List.length_map]
def PTs (X:Cx) (ifs:List Expr) (t:TT):Prop:=
  ∀ (pins:List (Addr×Obj)) (s:Shared) (σ:St) (H:Hp) (Q:Bool→Hp→Prop),Inv X pins σ H s→t σ H Q→
    wpAny (model X.prog X.w) X.A (forIn ifs true fun c r=>if r=true then do let ok ← isTrue c X.env (eval c X.env);pure (ForInStep.yield ok) else pure (ForInStep.yield r)) (TP X pins σ Q) X.xe s
def tNoIf:TT:=fun _ H Q=>Q true H
theorem pts_nil {X:Cx}:PTs X [] tNoIf:=fun _ _ _ H _ I h=>wpAny_tests_nil ⟨H,I,h⟩
theorem pts_one {X:Cx} {c:Expr} {t:TT} (h:PT X c t):PTs X [c] t:=fun pins s σ H Q I q=>wpAny_tests_one (h pins s σ H Q I q)
def tLC (N:List Str) (names:List (Str×NameKind)) (wi:TI) (g:TG) (tc:TT) (te:TE):TE:=fun σ H Q=>wi σ H fun J H1=>∀ D,H1 D=none→
  ∃ W:Nat→Nat→St→Hp→Prop,(∃ m,W 0 m (cmpSt N σ names) (upd H1 D (.lst [])))∧∀ i m σ2 H2,W i m σ2 H2→
    (J.stop i H2∧Q (.ref D) H2)∨(J.go i H2∧∀ x H3,J.yld i H2 x H3→g x σ2 H3 fun σ4 H4=>tc σ4 H4 fun b H5=>
      if b=true then te σ4 H5 fun v H6=>∃ ys m',H6 D=some (.lst ys)∧ys.length < sizeLine∧m' < m∧W (i+1) m' σ4 (upd H6 D (.lst (ys ++ [v]))) else ∃ m',m' < m∧W (i+1) m' σ4 H5)
theorem pinsAt_get {X:Cx} {pins:List (Addr×Obj)} {σ:St} {H:Hp} {s:Shared} {fp:List Addr} {h:Heap} (I:Inv X (pins ++ pinsAt fp h) σ H s) {b:Addr} {o:Obj} (hb:b∈fp) (e:h.get? b=some o):s.heap.get? b=some o∧H b=none:=by
  have q:=I.pin (b,o) (List.mem_append_right _ (List.mem_append_right _ (mem_pinsAt hb e)))
  exact ⟨q.1,q.2.1⟩
theorem after_cmp {X:Cx} {pins:List (Addr×Obj)} {σ σc:St} {H H':Hp} {s3 s':Shared} {scope:Scope} {cl:List (Str×Addr)} {fp:List Addr} {h':Heap} {pins':List (Addr×Obj)} (I:Inv X pins σ H s3)
    (hfp:∀ b∈fp,FpOk X pins H b) (J:Inv (X.cmp scope cl s3.heap.objs.size s3 H fp) pins' σc H' s') (hb:Heap.SameBut s3.heap.objs.size s'.heap h'):Inv X pins σ H' { s' with heap:=h' }:=by
  have hC:H' s3.heap.objs.size=none:=J.free
  have u:Un (frs X.stack) fp H H' s3.heap s'.heap:=J.base
  have lt:∀ b o,s3.heap.get? b=some o→b≠s3.heap.objs.size:=fun b o e z=>by subst z;exact Nat.lt_irrefl _ (Heap.lt_size e)
  have u':Un (frs X.stack) fp H H' s3.heap h':=⟨fun b o e n h1 h2=>hb.extBut b o (lt b o e) (u.keep b o e n h1 h2),fun b o e n h1 h2=>(by
      obtain ⟨sl,q⟩:=u.slot b o e n h1 h2;exact ⟨sl,hb.extBut b _ (lt b o e) q⟩),u.free,fun b o e h2=>(by
      obtain ⟨o',q⟩:=u.there b o e h2;exact ⟨o',hb.extBut b _ (lt b o e) q⟩),u.tups,u.frzs,u.tbls⟩
  have hok:HOk X.prog X.w H' h':=fun a o e=>(J.hok a o e).stay (fun b v hbv q=>hb.extBut b v (fun z=>by
      subst z
      rcases hbv with z | z
      · subst z;rw [hC] at e;cases e
      · rw [hC] at z;cases z) q) (fun _ q=>q) fun _ _ q=>q
  exact I.call' (ch:=fp) (J.os.trans rfl) u' hok J.bare fun b hbf=>⟨(hfp b hbf).2.2.2.1,(hfp b hbf).2.1,(hfp b hbf).2.2.2.2.1,(hfp b hbf).2.2.2.2.2⟩
theorem Inv.but {X:Cx} {pins:List (Addr×Obj)} {σ:St} {H:Hp} {s:Shared} {C:Addr} {h':Heap} (I:Inv X pins σ H s) (f:FpOk X pins H C) (sb:Heap.SameBut C s.heap h'):Inv X pins σ H { s with heap:=h' }:=
  I.turned (t':=s.toks) (fun b o hb e=>sb.extBut b o hb e) f.1 f.2.1 f.2.2.2.1 f.2.2.2.2.1 f.2.2.2.2.2
theorem ns_lookup_nil {h:Heap} {a:Addr} (x:h.Ns a fun y=>([]:List (Str×Value)).reverse.lookup y):h.Ns a fun _=>none:=by
  have e:(fun y:Str=>([]:List (Str×Value)).reverse.lookup y)=fun _=>none:=by funext y;simp
  rw [e] at x;exact x
theorem block_lc {X:Cx} {elt tg iter:Expr} {ifs:List Expr} {scope:Scope} {pos:Pos} {g:TG} {tc:TT} {te:TE} (hc:X.calm=true) (ok:CmpOk X scope)
    (hg:∀ cl C s₀ H₀ fp,PG (X.cmp scope cl C s₀ H₀ fp) tg g) (ht:∀ cl C s₀ H₀ fp,PTs (X.cmp scope cl C s₀ H₀ fp) ifs tc) (he:∀ cl C s₀ H₀ fp,PE (X.cmp scope cl C s₀ H₀ fp) elt te)
    {pins:List (Addr×Obj)} {σ:St} {H1:Hp} {s2:Shared} {cl:List (Str×Addr)} {it:Addr} {fp:List Addr} {tn:Nat→Heap→Prop} {J:It} {Q:VK} {E:Value→Shared→Prop} {RR:Value→Addr→Result→Shared→Prop}
    (hcl:∀ x c,cl.lookup x=some c→X.env.cells.lookup x=some c) (hcf:∀ y∈scope.names,y.2 = .free→∃ c,cl.lookup y.1=some c)
    (I:Inv X pins σ H1 s2) (T:Turn X.prog X.w X.K tg J fp it tn) (st:tn 0 s2.heap) (hf:∀ b∈fp,FpOk X pins H1 b)
    (h:∀ D,H1 D=none→∃ W:Nat→Nat→St→Hp→Prop,(∃ m,W 0 m (cmpSt X.N σ scope.names) (upd H1 D (.lst [])))∧∀ i m σ2 H2,W i m σ2 H2→
      (J.stop i H2∧Q (.ref D) H2)∨(J.go i H2∧∀ x H3,J.yld i H2 x H3→g x σ2 H3 fun σ4 H4=>tc σ4 H4 fun b H5=>
        if b=true then te σ4 H5 fun v H6=>∃ ys m',H6 D=some (.lst ys)∧ys.length < sizeLine∧m' < m∧W (i+1) m' σ4 (upd H6 D (.lst (ys ++ [v]))) else ∃ m',m' < m∧W (i+1) m' σ4 H5))
    (hRR:∀ D C H' s' m,s'.heap.Ns C m→Inv X pins σ H' s'→FpOk X pins H' C→Q (.ref D) H'→RR (.ref D) C (.ok .next) s') :
    wpAny (model X.prog X.w) X.A (newList []) (fun acc s₃=>wpAny (model X.prog X.w) X.A (newFunctionEnv scope X.env.globals cl [] X.env.qual none .none (some X.env)) (fun cenv s₄=>
      codeAny (model X.prog X.w) X.A (.compStart (.ListComp elt [⟨tg,iter,ifs,0⟩] scope pos) 0 (.ref it) acc { cenv with scope:=relabel scope X.env }) (RR acc cenv.locals) s₄) E s₃) E s2:=by
  refine wpAny_newObj_type ?_
  have I3:Inv X pins σ (upd H1 s2.heap.objs.size (.lst [])) { s2 with heap:=s2.heap.push { cls:=.type "list", data:=.seq ([]:List Value).toArray },toks:=s2.toks }:=I.lnew (its:=[]) .nil (Nat.zero_le _)
  have hD:H1 s2.heap.objs.size=none:=I.fresh
  obtain ⟨W,⟨m0,w0⟩,turn⟩:=h _ hD
  generalize hs3:({ s2 with heap:=s2.heap.push { cls:=.type "list", data:=.seq ([]:List Value).toArray },toks:=s2.toks }:Shared)=s3 at I3
  have kp3:∀ b o,s2.heap.get? b=some o→s3.heap.get? b=some o:=fun b o e=>by rw [← hs3];exact Heap.get?_push_of_some _ e
  have fpD:∀ b∈fp,b≠s2.heap.objs.size:=fun b hb z=>by
    obtain ⟨o,e,_⟩:=T.obj _ _ st b hb
    subst z
    exact Nat.lt_irrefl _ (Heap.lt_size e)
  have hf3:∀ b∈fp,FpOk X pins (upd H1 s2.heap.objs.size (.lst [])) b:=fun b hb=>⟨by rw [upd_ne (fpD b hb)];exact (hf b hb).1,(hf b hb).2⟩
  have st3:tn 0 s3.heap:=T.keep _ _ _ st fun b _ o e=>kp3 b o e
  have lt3:∀ b∈fp,b < s3.heap.objs.size:=fun b hb=>by
    obtain ⟨o,e,_⟩:=T.obj _ _ st3 b hb
    exact Heap.lt_size e
  generalize hDD:s2.heap.objs.size=D at *
  refine wpAny_newFunctionEnv ok.nocell (by intro y hy;simp at hy) (fun h₁ hns₁ hsb₁=>?_) ok.kind
  have kp4:∀ b o,s3.heap.get? b=some o→h₁.get? b=some o:=fun b o e=>hsb₁.extBut b o (fun z=>by subst z;exact Nat.lt_irrefl _ (Heap.lt_size e)) (Heap.get?_push_of_some _ e)
  have I4:=inv_cmp (tk:=s3.toks+([]:List (Str×Value)).length) I3 ok hcl hcf hf3 lt3 (ns_lookup_nil hns₁) kp4
  generalize hs4:({ s3 with heap:=h₁,toks:=s3.toks+([]:List (Str×Value)).length }:Shared)=s4 at I4
  have st4:tn 0 s4.heap:=by rw [← hs4];exact T.keep _ _ _ st3 fun b _ o e=>kp4 b o e
  show codeAny _ _ (.compStart (.ListComp elt [⟨tg,iter,ifs,0⟩] scope pos) 0 (.ref it) (.ref D) (compEnvC scope cl s3.heap.objs.size X.env)) (RR (.ref D) s3.heap.objs.size) s4
  generalize hX:X.cmp scope cl s3.heap.objs.size s3 (upd H1 D (.lst [])) fp=Y at I4
  have eA:Y.A=X.A:=by rw [← hX];rfl
  have eP:Y.prog=X.prog:=by rw [← hX];rfl
  have eW:Y.w=X.w:=by rw [← hX];rfl
  have eK:Y.K=X.K:=by rw [← hX];rfl
  have eC:Y.calm=true:=by rw [← hX];exact hc
  have eE:Y.env=compEnvC scope cl s3.heap.objs.size X.env:=by rw [← hX];rfl
  have eX:Y.xe=fun _ _=>False:=by rw [← hX];rfl
  have stat:∀ {H':Hp},(∀ b∈fp,H' b=none)→∀ b∈fp,FpOk Y [] H' b:=fun {H'} hn b hb=>by
    subst hX
    refine ⟨hn b hb,Nat.ne_of_lt (lt3 b hb),fun z=>?_,.inl hb,fun x c e=>(hf3 b hb).2.2.2.2.1 x c (hcl _ _ e),fun p hp=>absurd (show p∈([]:List (Addr×Obj)) from hp) (by simp)⟩
    rcases List.mem_cons.mp (I3.stkSub b z) with q | q
    · exact (hf3 b hb).2.1 q
    · exact (hf3 b hb).2.2.1 q
  have loop:codeAny (model X.prog X.w) X.A (.compLoop (.ListComp elt [⟨tg,iter,ifs,0⟩] scope pos) 0 (.ref it) (.ref D) (compEnvC scope cl s3.heap.objs.size X.env)) (RR (.ref D) s3.heap.objs.size) s4:=by
    refine codeAny_compLoop_listG (fun n s'=>∃ i σ' H',Inv Y [] σ' H' s'∧tn i s'.heap∧(∀ b∈fp,H' b=none)∧W i n σ' H') ?_ m0 ⟨0,_,_,I4,st4,fun b hb=>(hf3 b hb).1,w0⟩
    rintro n s5 ⟨i,σ5,H5,I5,st5,fr5,w5⟩
    rcases turn i n σ5 H5 w5 with ⟨stop,qn⟩ | ⟨go,step⟩
    · have q:=T.done Y eP eW eK eC i [] s5 σ5 H5 (fun _ _=>False) I5 (stat fr5) st5 stop
      rw [eA] at q
      refine thn q fun r s6 ⟨hr,I6⟩=>?_
      subst hr
      obtain ⟨m6,hn6,_⟩:=I6.loc
      have hn6':s6.heap.Ns s3.heap.objs.size m6:=by rw [eE] at hn6;exact hn6
      rw [← hX] at I6
      exact hRR D s3.heap.objs.size H5 s6 m6 hn6' (after_cmp I3 hf3 I6 (.refl ..)) (I3.fpOk (Nat.le_refl _) I6.free) qn
    · have q:=T.item Y eP eW eK eC i [] s5 σ5 H5 (fun _ _=>False) I5 (stat fr5) st5 go
      rw [eA] at q
      refine thn q fun r s6 ⟨u,hr,h6⟩=>?_
      subst hr
      refine thn h6 fun _ s7 ⟨x,H7,I7,r7,y7,st7,fr7⟩=>?_
      have I7':=I7.pinned (stat fr7) (T.obj _ _ st7)
      have gg:PG Y tg g:=by rw [← hX];exact hg _ _ _ _ _
      have tt:PTs Y ifs tc:=by rw [← hX];exact ht _ _ _ _ _
      have ee:PE Y elt te:=by rw [← hX];exact he _ _ _ _ _
      have q1:=gg _ s7 σ5 H7 x u _ I7' r7 (step x H7 y7)
      rw [eA,eP,eW,eE,eX] at q1
      refine thn q1 fun _ s8 ⟨σ8,H8,I8,q8⟩=>?_
      have q2:=tt _ s8 σ8 H8 _ I8 q8
      rw [eA,eP,eW,eE,eX] at q2
      refine thn q2 fun b s9 ⟨H9,I9,q9⟩=>?_
      have again:∀ {H10:Hp} {s10:Shared},Inv Y ([] ++ pinsAt fp s7.heap) σ8 H10 s10→(∃ m',m' < n∧W (i+1) m' σ8 H10)→∃ m,m < n∧∃ i σ' H',Inv Y [] σ' H' s10∧tn i s10.heap∧(∀ b∈fp,H' b=none)∧W i m σ' H':=fun {H10 s10} J10 ⟨m',hm,w10⟩=>by
        refine ⟨m',hm,i+1,σ8,H10,J10.unpinned,T.keep _ _ _ st7 fun b hb o e=>(pinsAt_get J10 hb e).1,fun b hb=>?_,w10⟩
        obtain ⟨o,e,_⟩:=T.obj _ _ st7 b hb
        exact (pinsAt_get J10 hb e).2
      cases b with
      | false=>
        rw [if_neg Bool.false_ne_true] at q9 ⊢
        exact again I9 q9
      | true=>
        rw [if_pos rfl] at q9 ⊢
        have q3:=ee _ s9 σ8 H9 _ I9 q9
        rw [eA,eP,eW,eE,eX] at q3
        refine thn q3 fun u9 s10 ⟨v,H10,I10,r10,ys,m',hys,hz,hm,w10⟩=>?_
        have q4:=mt_append (X:=Y) _ s10 σ8 H10 (.ref D) [v] (.ref D) [u9] (fun _ H'=>H'=upd H10 D (.lst (ys ++ [v]))) I10 rfl (.cons r10 .nil) ⟨D,ys,v,rfl,rfl,hys,hz,rfl⟩
        rw [eA,eP,eW,eX] at q4
        refine thn q4 fun _ s11 ⟨_,H11,I11,_,e11⟩=>?_
        subst e11
        exact again I11 ⟨m',hm,w10⟩
  exact codeAny_compStart_list loop (T.self X.A 0 s4 _ _ st4 loop)
theorem pe_lc {X:Cx} {elt tg iter:Expr} {ifs:List Expr} {scope:Scope} {pos:Pos} {wi:TI} {g:TG} {tc:TT} {te:TE} {sc:Scope} (hc:X.calm=true) (hsc:X.env.scope=sc) (hok:cmpB sc scope=true) (hi:PI X tg iter wi)
    (hg:∀ cl C s₀ H₀ fp,PG (X.cmp scope cl C s₀ H₀ fp) tg g) (ht:∀ cl C s₀ H₀ fp,PTs (X.cmp scope cl C s₀ H₀ fp) ifs tc) (he:∀ cl C s₀ H₀ fp,PE (X.cmp scope cl C s₀ H₀ fp) elt te)
    (hs:∀ x,foldedSetIterable iter X.env x=pure x:=by intro _;rfl):PE X (.ListComp elt [⟨tg,iter,ifs,0⟩] scope pos) (tLC X.N scope.names wi g tc te):=by
  intro pins s σ H Q I h
  have ok:=CmpOk.of (X:=X) (hsc ▸ hok)
  obtain ⟨cl,e1,e2,e3⟩:=closureFor_some (scope:=scope) (env:=X.env) fun y hy hf=>I.ok.has y.1 (ok.free y hy hf)
  rw [eval_ListComp]
  refine wpAny_comprehension_free (use:=none) rfl hs e1 ok.kind (fun y hy hl=>by rw [lookup_of_mem ok.nd hy,hl]) (thn (hi pins s σ H _ I h) fun v s1 h1=>thn h1 fun itv s2 h2=>?_)
  obtain ⟨it,fp,tn,J,H2,e,I2,T,st2,f2,q⟩:=h2
  subst e
  refine block_lc (E:=X.xe) (RR:=fun acc C=>compPost (model X.prog X.w) X.A X.xe none (EP X pins σ Q) acc C) hc ok hg ht he e2 e3 I2 T st2 f2 q ?_
  intro D C H' s' m hn hI f hQ
  exact ⟨m,hn,fun h' sb=>⟨.ref D,H',hI.but f sb,rfl,hQ⟩⟩
theorem ps_lc {X:Cx} {elt tg iter:Expr} {ifs:List Expr} {scope:Scope} {pos spos py:Pos} {wi:TI} {g:TG} {tc:TT} {te:TE} {i:Nat} {y:Str} (hN:X.N.Nodup) (hy:X.N[i]? = some y) (hyl:X.env.scope.names.lookup y=some .local)
    (hsw:swapsWith (.ListComp elt [⟨tg,iter,ifs,0⟩] scope pos) (some (.Name y py)) spos.line X.env=pure true)
    {sc:Scope} (hc:X.calm=true) (hsc:X.env.scope=sc) (hok:cmpB sc scope=true) (hi:PI X tg iter wi)
    (hg:∀ cl C s₀ H₀ fp,PG (X.cmp scope cl C s₀ H₀ fp) tg g) (ht:∀ cl C s₀ H₀ fp,PTs (X.cmp scope cl C s₀ H₀ fp) ifs tc) (he:∀ cl C s₀ H₀ fp,PE (X.cmp scope cl C s₀ H₀ fp) elt te)
    (hs:∀ x,foldedSetIterable iter X.env x=pure x:=by intro _;rfl):PS X (.Assign [.Name y py] (.ListComp elt [⟨tg,iter,ifs,0⟩] scope pos) spos) (tAsg (tLC X.N scope.names wi g tc te) (gName i)):=by
  intro pins s σ H D I h
  have ok:=CmpOk.of (X:=X) (hsc ▸ hok)
  obtain ⟨cl,e1,e2,e3⟩:=closureFor_some (scope:=scope) (env:=X.env) fun y hy hf=>I.ok.has y.1 (ok.free y hy hf)
  rw [exec_Assign_Name_used _ _ _ _ hsw]
  refine wpAny_bind (wpAny_standAt (wpAny_bind ?_))
  show wpAny _ X.A (do let _ ← comprehension (.ListComp elt [⟨tg,iter,ifs,0⟩] scope pos) scope X.env _ (newList []) false (eval iter X.env) (some (assign (.Name y py) X.env))) _ _ s
  have hh:tLC X.N scope.names wi g tc te σ H fun x H1=>D.nx (σ.set i (some x)) H1:=h
  refine wpAny_bind (wpAny_mono (wpAny_comprehension_free (use:=some (assign (.Name y py) X.env)) (Q:=fun _ s'=>SP X pins D .next s') rfl hs e1 ok.kind (fun y hy hl=>by rw [lookup_of_mem ok.nd hy,hl])
    (thn (hi pins s σ H _ I hh) fun v s1 h1=>thn h1 fun itv s2 h2=>?_)) (fun _ s' hq=>wpAny_pure (wpAny_pure hq)) fun _ _ e=>e)
  obtain ⟨it,fp,tn,J,H2,e,I2,T,st2,f2,q⟩:=h2
  subst e
  refine block_lc (Q:=fun x H1=>D.nx (σ.set i (some x)) H1) (E:=X.xe) (RR:=fun acc C=>compPost (model X.prog X.w) X.A X.xe (some (assign (.Name y py) X.env)) (fun _ s'=>SP X pins D .next s') acc C) hc ok hg ht he e2 e3 I2 T st2 f2 q ?_
  intro D' C H' s' m hn I' f hQ
  refine wpAny_assign_Name (store_ok2 I' hN hy (.inl hyl) (v:=.ref D') rfl (fun s'' I'' hd=>?_) (.inr hyl))
  obtain ⟨a,sb,ha⟩:=hd
  have hne:C≠a:=by
    rcases ha with rfl | ha
    · exact f.2.1
    · exact fun z=>f.2.2.2.2.1 y a ha z.symm
  exact ⟨m,hn.sameBut sb hne,fun h' sb'=>⟨_,H',I''.but f sb',hQ⟩⟩
end L2
namespace L2
open PySem PySem.Spec PyProof.Rows
section
variable {X:Cx}
theorem set_add {pins:List (Addr×Obj)} {s:Shared} {σ:St} {H:Hp} {D:Addr} {S:Int→Bool} {n:Nat} {k:Int} {u:Value} {Q:VK} {E:Value→Shared→Prop} (I:Inv X pins σ H s) (hD:H D=some (.set S n)) (r:RelV (.int k) u) (hb:n+1 < scanBound)
    (q:Q .non (upd H D (.set (fun k'=>S k' || decide (k'=k)) (if S k then n else n+1)))):wpAny (model X.prog X.w) X.A (call (.builtin "set.add") [.ref D,u]) (EP X pins σ Q) E s:=by
  obtain ⟨t,rfl⟩:=r
  have hS:s.heap.SetOf (intKind X.prog X.w) D S n:=I.hok D _ hD
  refine call_set_add (knd:=intKind X.prog X.w) (k:=k) (by simp [intKind,Value.isInt]) rfl hS hb fun h' sb hS'=>?_
  refine ⟨.non,_,I.write (o:=.set (fun k'=>S k' || decide (k'=k)) (if S k then n else n+1)) (t':=s.toks+1) (x:=D) (e:=D) (by rw [hD];exact trivial) (.inl rfl) (fun b u hb e=>sb.extBut b u hb e) ?_ hS',rfl,q⟩
  obtain ⟨o,_,_,_,e,_⟩:=hS'
  exact ⟨o,e⟩
theorem call_len_setI:CallR X (.builtin "len") (fun xs H Q=>∃ p S n,xs=[.ref p]∧H p=some (.set S n)∧Q (.int n) H):=by
  intro pins s σ H xs us Q I r h
  obtain ⟨p,S,n,rfl,hp,q⟩:=h
  obtain ⟨u,rfl,ru⟩:=vals1 r
  cases (show u=Value.ref p from ru)
  obtain ⟨o,es,ep,t,e,hex,hd,_,_,hb,hf,hn⟩:=(show s.heap.SetOf (intKind X.prog X.w) p S n from I.hok p _ hp)
  subst hn
  refine call_len_set e hex hd hf ?_ ⟨.int es.size,H,I.tok _,⟨_,rfl⟩,q⟩
  have:es.size < 4096:=hb
  omega
theorem vals_bl:∀ {bs:List Bool} {us:List Value},Vals (bs.map V.bl) us→us=bs.map Value.bool
  | [],_,.nil=>rfl
  | b :: r,_,.cons h t=>by rw [List.map_cons,← vals_bl t,(show _=Value.bool b from h)]
theorem range_allB (bs:List Bool):((List.range bs.length).all fun i=>(bs[i]?).getD true)=bs.all id:=by
  rw [Bool.eq_iff_iff,List.all_eq_true,List.all_eq_true]
  constructor
  · intro h b hb
    obtain ⟨i,hi,rfl⟩:=List.mem_iff_getElem.mp hb
    have:=h i (List.mem_range.mpr hi)
    simpa [hi] using this
  · intro h i hi
    have hi':=List.mem_range.mp hi
    have:=h bs[i] (List.getElem_mem hi')
    simpa [hi'] using this
theorem call_allB (hc:X.calm=true):CallR X (.builtin "all") (fun xs H Q=>∃ (p:Addr) (bs:List Bool),xs=[.ref p]∧SqL X.K H p (bs.map V.bl)∧Q (.bl (bs.all id)) H):=by
  intro pins s σ H xs us Q I r h
  obtain ⟨l,bs,rfl,hp,q⟩:=h
  obtain ⟨u,rfl,ru⟩:=vals1 r
  cases (show u=Value.ref l from ru)
  obtain ⟨its,rv,pl,hz⟩:=I.list hp
  have ei:=vals_bl rv
  subst ei
  have hl:=pl.isList
  have hlt:l < s.heap.objs.size:=by obtain ⟨_,e,_⟩:=hl;exact Heap.lt_size e
  refine call_all_walk (wpAny_pyIter_list hl ?_)
  refine ⟨s.heap.objs.size,[s.heap.objs.size,l],[s.heap.objs.size],(bs.map Value.bool).toArray.size,_,_,fun i=>(bs[i]?).getD true,rfl,Walks.list (A:=X.A.in1) (I.ok.hd hc) _ l (Nat.ne_of_lt hlt) (bs.map Value.bool).toArray,
    ⟨⟨_,Heap.get?_push_size _ rfl,rfl,rfl⟩,hl.push _⟩,fun i v s' Q' E' hP hQ=>?_,fun h' tk hk=>?_⟩
  · have hP':(bs.map Value.bool)[i]? = some v:=by simpa using hP
    rw [List.getElem?_map] at hP'
    cases e:bs[i]? with
    | none=>rw [e] at hP';cases hP'
    | some b=>
      rw [e] at hP'
      simp only [Option.map_some,Option.some.injEq] at hP'
      subst hP'
      simp only [e,Option.getD_some] at hQ
      exact wpAny_truthy_bool hQ
  · have e:((List.range (bs.map Value.bool).toArray.size).all fun i=>(bs[i]?).getD true)=bs.all id:=by
      rw [List.size_toArray,List.length_map];exact range_allB bs
    rw [e]
    exact ⟨.bl (bs.all id),H,I.kept (PyProof.Rows.LSm.kept_iter hk),rfl,q⟩
def rEqL (K:Frag):R2:=fun x y H Q=>∃ (a b:Addr) (ns ms:List Int),x = .ref a∧y = .ref b∧SqL K H a (ns.map V.int)∧SqL K H b (ms.map V.int)∧Q (.bl (decide (ns=ms))) H
theorem op_eqL (hu:X.A.units+64 < cLine):OpR X (compareOp .Eq) (rEqL X.K):=by
  intro pins s σ H x y v u Q I rx ry h
  obtain ⟨a,b,ns,ms,rfl,rfl,ha,hb,q⟩:=h
  cases (show v=Value.ref a from rx)
  cases (show u=Value.ref b from ry)
  obtain ⟨its,rv,pl,_⟩:=I.list ha
  obtain ⟨its2,rv2,pl2,_⟩:=I.list hb
  exact PySem.W.eq_intsK pl.isList (L2.intsAre_of rv) pl2.isList (L2.intsAre_of rv2) hu ⟨.bl _,H,I,rfl,q⟩
def rNeL (K:Frag):R2:=fun x y H Q=>∃ (a b:Addr) (ns ms:List Int),x = .ref a∧y = .ref b∧SqL K H a (ns.map V.int)∧SqL K H b (ms.map V.int)∧Q (.bl (!decide (ns=ms))) H
theorem op_neL (hu:X.A.units+64 < cLine):OpR X (compareOp .NotEq) (rNeL X.K):=by
  intro pins s σ H x y v u Q I rx ry h
  obtain ⟨a,b,ns,ms,rfl,rfl,ha,hb,q⟩:=h
  cases (show v=Value.ref a from rx)
  cases (show u=Value.ref b from ry)
  obtain ⟨its,rv,pl,_⟩:=I.list ha
  obtain ⟨its2,rv2,pl2,_⟩:=I.list hb
  exact PySem.W.ne_intsK pl.isList (L2.intsAre_of rv) pl2.isList (L2.intsAre_of rv2) hu ⟨.bl _,H,I,rfl,q⟩
end
def tSC (N:List Str) (names:List (Str×NameKind)) (wi:TI) (g:TG) (tc:TT) (te:TE):TE:=fun σ H Q=>wi σ H fun J H1=>∀ D,H1 D=none→
  ∃ W:Nat→Nat→St→Hp→Prop,(∃ m,W 0 m (cmpSt N σ names) (upd H1 D (.set (fun _=>false) 0)))∧∀ i m σ2 H2,W i m σ2 H2→
    (J.stop i H2∧Q (.ref D) H2)∨(J.go i H2∧∀ x H3,J.yld i H2 x H3→g x σ2 H3 fun σ4 H4=>tc σ4 H4 fun b H5=>
      if b=true then te σ4 H5 fun v H6=>∃ k S n m',v = .int k∧H6 D=some (.set S n)∧n+1 < scanBound∧m' < m∧W (i+1) m' σ4 (upd H6 D (.set (fun k'=>S k' || decide (k'=k)) (if S k then n else n+1))) else ∃ m',m' < m∧W (i+1) m' σ4 H5)
theorem block_sc {X:Cx} {elt tg iter:Expr} {ifs:List Expr} {scope:Scope} {pos:Pos} {g:TG} {tc:TT} {te:TE} (hc:X.calm=true) (ok:CmpOk X scope)
    (hg:∀ cl C s₀ H₀ fp,PG (X.cmp scope cl C s₀ H₀ fp) tg g) (ht:∀ cl C s₀ H₀ fp,PTs (X.cmp scope cl C s₀ H₀ fp) ifs tc) (he:∀ cl C s₀ H₀ fp,PE (X.cmp scope cl C s₀ H₀ fp) elt te)
    {pins:List (Addr×Obj)} {σ:St} {H1:Hp} {s2:Shared} {cl:List (Str×Addr)} {it:Addr} {fp:List Addr} {tn:Nat→Heap→Prop} {J:It} {Q:VK} {E:Value→Shared→Prop} {RR:Value→Addr→Result→Shared→Prop}
    (hcl:∀ x c,cl.lookup x=some c→X.env.cells.lookup x=some c) (hcf:∀ y∈scope.names,y.2 = .free→∃ c,cl.lookup y.1=some c)
    (I:Inv X pins σ H1 s2) (T:Turn X.prog X.w X.K tg J fp it tn) (st:tn 0 s2.heap) (hf:∀ b∈fp,FpOk X pins H1 b)
    (h:∀ D,H1 D=none→∃ W:Nat→Nat→St→Hp→Prop,(∃ m,W 0 m (cmpSt X.N σ scope.names) (upd H1 D (.set (fun _=>false) 0)))∧∀ i m σ2 H2,W i m σ2 H2→
      (J.stop i H2∧Q (.ref D) H2)∨(J.go i H2∧∀ x H3,J.yld i H2 x H3→g x σ2 H3 fun σ4 H4=>tc σ4 H4 fun b H5=>
        if b=true then te σ4 H5 fun v H6=>∃ k S n m',v = .int k∧H6 D=some (.set S n)∧n+1 < scanBound∧m' < m∧W (i+1) m' σ4 (upd H6 D (.set (fun k'=>S k' || decide (k'=k)) (if S k then n else n+1))) else ∃ m',m' < m∧W (i+1) m' σ4 H5))
    (hRR:∀ D C H' s' m,s'.heap.Ns C m→Inv X pins σ H' s'→FpOk X pins H' C→Q (.ref D) H'→RR (.ref D) C (.ok .next) s') :
    wpAny (model X.prog X.w) X.A (newSet (.type "set")) (fun acc s₃=>wpAny (model X.prog X.w) X.A (newFunctionEnv scope X.env.globals cl [] X.env.qual none .none (some X.env)) (fun cenv s₄=>
      codeAny (model X.prog X.w) X.A (.compStart (.SetComp elt [⟨tg,iter,ifs,0⟩] scope pos) 0 (.ref it) acc { cenv with scope:=relabel scope X.env }) (RR acc cenv.locals) s₄) E s₃) E s2:=by
  refine wpAny_newSet_of (knd:=intKind X.prog X.w) fun led hS0=>?_
  have I3:Inv X pins σ (upd H1 s2.heap.objs.size (.set (fun _=>false) 0)) { s2 with heap:=s2.heap.push { cls:=.type "set", dict:=none,data:=.set #[] 0 (.fresh 0 0 led) },toks:=s2.toks }:=I.laid (t':=s2.toks) (fun b u e=>Heap.get?_push_of_some _ e) (Nat.le_refl _) hS0
  have hD:H1 s2.heap.objs.size=none:=I.fresh
  obtain ⟨W,⟨m0,w0⟩,turn⟩:=h _ hD
  generalize hs3:({ s2 with heap:=s2.heap.push { cls:=.type "set", dict:=none,data:=.set #[] 0 (.fresh 0 0 led) },toks:=s2.toks }:Shared)=s3 at I3
  have kp3:∀ b o,s2.heap.get? b=some o→s3.heap.get? b=some o:=fun b o e=>by rw [← hs3];exact Heap.get?_push_of_some _ e
  have fpD:∀ b∈fp,b≠s2.heap.objs.size:=fun b hb z=>by
    obtain ⟨o,e,_⟩:=T.obj _ _ st b hb
    subst z
    exact Nat.lt_irrefl _ (Heap.lt_size e)
  have hf3:∀ b∈fp,FpOk X pins (upd H1 s2.heap.objs.size (.set (fun _=>false) 0)) b:=fun b hb=>⟨by rw [upd_ne (fpD b hb)];exact (hf b hb).1,(hf b hb).2⟩
  have st3:tn 0 s3.heap:=T.keep _ _ _ st fun b _ o e=>kp3 b o e
  have lt3:∀ b∈fp,b < s3.heap.objs.size:=fun b hb=>by
    obtain ⟨o,e,_⟩:=T.obj _ _ st3 b hb
    exact Heap.lt_size e
  generalize hDD:s2.heap.objs.size=D at *
  refine wpAny_newFunctionEnv ok.nocell (by intro y hy;simp at hy) (fun h₁ hns₁ hsb₁=>?_) ok.kind
  have kp4:∀ b o,s3.heap.get? b=some o→h₁.get? b=some o:=fun b o e=>hsb₁.extBut b o (fun z=>by subst z;exact Nat.lt_irrefl _ (Heap.lt_size e)) (Heap.get?_push_of_some _ e)
  have I4:=inv_cmp (tk:=s3.toks+([]:List (Str×Value)).length) I3 ok hcl hcf hf3 lt3 (ns_lookup_nil hns₁) kp4
  generalize hs4:({ s3 with heap:=h₁,toks:=s3.toks+([]:List (Str×Value)).length }:Shared)=s4 at I4
  have st4:tn 0 s4.heap:=by rw [← hs4];exact T.keep _ _ _ st3 fun b _ o e=>kp4 b o e
  show codeAny _ _ (.compStart (.SetComp elt [⟨tg,iter,ifs,0⟩] scope pos) 0 (.ref it) (.ref D) (compEnvC scope cl s3.heap.objs.size X.env)) (RR (.ref D) s3.heap.objs.size) s4
  generalize hX:X.cmp scope cl s3.heap.objs.size s3 (upd H1 D (.set (fun _=>false) 0)) fp=Y at I4
  have eA:Y.A=X.A:=by rw [← hX];rfl
  have eP:Y.prog=X.prog:=by rw [← hX];rfl
  have eW:Y.w=X.w:=by rw [← hX];rfl
  have eK:Y.K=X.K:=by rw [← hX];rfl
  have eC:Y.calm=true:=by rw [← hX];exact hc
  have eE:Y.env=compEnvC scope cl s3.heap.objs.size X.env:=by rw [← hX];rfl
  have eX:Y.xe=fun _ _=>False:=by rw [← hX];rfl
  have stat:∀ {H':Hp},(∀ b∈fp,H' b=none)→∀ b∈fp,FpOk Y [] H' b:=fun {H'} hn b hb=>by
    subst hX
    refine ⟨hn b hb,Nat.ne_of_lt (lt3 b hb),fun z=>?_,.inl hb,fun x c e=>(hf3 b hb).2.2.2.2.1 x c (hcl _ _ e),fun p hp=>absurd (show p∈([]:List (Addr×Obj)) from hp) (by simp)⟩
    rcases List.mem_cons.mp (I3.stkSub b z) with q | q
    · exact (hf3 b hb).2.1 q
    · exact (hf3 b hb).2.2.1 q
  have loop:codeAny (model X.prog X.w) X.A (.compLoop (.SetComp elt [⟨tg,iter,ifs,0⟩] scope pos) 0 (.ref it) (.ref D) (compEnvC scope cl s3.heap.objs.size X.env)) (RR (.ref D) s3.heap.objs.size) s4:=by
    refine codeAny_compLoop_setG (fun n s'=>∃ i σ' H',Inv Y [] σ' H' s'∧tn i s'.heap∧(∀ b∈fp,H' b=none)∧W i n σ' H') ?_ m0 ⟨0,_,_,I4,st4,fun b hb=>(hf3 b hb).1,w0⟩
    rintro n s5 ⟨i,σ5,H5,I5,st5,fr5,w5⟩
    rcases turn i n σ5 H5 w5 with ⟨stop,qn⟩ | ⟨go,step⟩
    · have q:=T.done Y eP eW eK eC i [] s5 σ5 H5 (fun _ _=>False) I5 (stat fr5) st5 stop
      rw [eA] at q
      refine thn q fun r s6 ⟨hr,I6⟩=>?_
      subst hr
      obtain ⟨m6,hn6,_⟩:=I6.loc
      have hn6':s6.heap.Ns s3.heap.objs.size m6:=by rw [eE] at hn6;exact hn6
      rw [← hX] at I6
      exact hRR D s3.heap.objs.size H5 s6 m6 hn6' (after_cmp I3 hf3 I6 (.refl ..)) (I3.fpOk (Nat.le_refl _) I6.free) qn
    · have q:=T.item Y eP eW eK eC i [] s5 σ5 H5 (fun _ _=>False) I5 (stat fr5) st5 go
      rw [eA] at q
      refine thn q fun r s6 ⟨u,hr,h6⟩=>?_
      subst hr
      refine thn h6 fun _ s7 ⟨x,H7,I7,r7,y7,st7,fr7⟩=>?_
      have I7':=I7.pinned (stat fr7) (T.obj _ _ st7)
      have gg:PG Y tg g:=by rw [← hX];exact hg _ _ _ _ _
      have tt:PTs Y ifs tc:=by rw [← hX];exact ht _ _ _ _ _
      have ee:PE Y elt te:=by rw [← hX];exact he _ _ _ _ _
      have q1:=gg _ s7 σ5 H7 x u _ I7' r7 (step x H7 y7)
      rw [eA,eP,eW,eE,eX] at q1
      refine thn q1 fun _ s8 ⟨σ8,H8,I8,q8⟩=>?_
      have q2:=tt _ s8 σ8 H8 _ I8 q8
      rw [eA,eP,eW,eE,eX] at q2
      refine thn q2 fun b s9 ⟨H9,I9,q9⟩=>?_
      have again:∀ {H10:Hp} {s10:Shared},Inv Y ([] ++ pinsAt fp s7.heap) σ8 H10 s10→(∃ m',m' < n∧W (i+1) m' σ8 H10)→∃ m,m < n∧∃ i σ' H',Inv Y [] σ' H' s10∧tn i s10.heap∧(∀ b∈fp,H' b=none)∧W i m σ' H':=fun {H10 s10} J10 ⟨m',hm,w10⟩=>by
        refine ⟨m',hm,i+1,σ8,H10,J10.unpinned,T.keep _ _ _ st7 fun b hb o e=>(pinsAt_get J10 hb e).1,fun b hb=>?_,w10⟩
        obtain ⟨o,e,_⟩:=T.obj _ _ st7 b hb
        exact (pinsAt_get J10 hb e).2
      cases b with
      | false=>
        rw [if_neg Bool.false_ne_true] at q9 ⊢
        exact again I9 q9
      | true=>
        rw [if_pos rfl] at q9 ⊢
        have q3:=ee _ s9 σ8 H9 _ I9 q9
        rw [eA,eP,eW,eE,eX] at q3
        refine thn q3 fun u9 s10 ⟨v,H10,I10,r10,k,S,n',m',hv,hys,hz,hm,w10⟩=>?_
        subst hv
        have q4:=set_add (X:=Y) (E:=Y.xe) (Q:=fun _ H'=>H'=upd H10 D (.set (fun k'=>S k' || decide (k'=k)) (if S k then n' else n'+1))) I10 hys r10 hz rfl
        rw [eA,eP,eW,eX] at q4
        refine thn q4 fun _ s11 ⟨_,H11,I11,_,e11⟩=>?_
        subst e11
        exact again I11 ⟨m',hm,w10⟩
  exact codeAny_compStart_set loop (T.self X.A 0 s4 _ _ st4 loop)
theorem pe_sc {X:Cx} {elt tg iter:Expr} {ifs:List Expr} {scope:Scope} {pos:Pos} {wi:TI} {g:TG} {tc:TT} {te:TE} {sc:Scope} (hc:X.calm=true) (hsc:X.env.scope=sc) (hok:cmpB sc scope=true) (hi:PI X tg iter wi)
    (hg:∀ cl C s₀ H₀ fp,PG (X.cmp scope cl C s₀ H₀ fp) tg g) (ht:∀ cl C s₀ H₀ fp,PTs (X.cmp scope cl C s₀ H₀ fp) ifs tc) (he:∀ cl C s₀ H₀ fp,PE (X.cmp scope cl C s₀ H₀ fp) elt te)
    (hs:∀ x,foldedSetIterable iter X.env x=pure x:=by intro _;rfl):PE X (.SetComp elt [⟨tg,iter,ifs,0⟩] scope pos) (tSC X.N scope.names wi g tc te):=by
  intro pins s σ H Q I h
  have ok:=CmpOk.of (X:=X) (hsc ▸ hok)
  obtain ⟨cl,e1,e2,e3⟩:=closureFor_some (scope:=scope) (env:=X.env) fun y hy hf=>I.ok.has y.1 (ok.free y hy hf)
  show wpAny _ _ (comprehension (.SetComp elt [⟨tg,iter,ifs,0⟩] scope pos) scope X.env _ (newSet (.type "set")) false (eval iter X.env)) _ _ s
  refine wpAny_comprehension_free (use:=none) rfl hs e1 ok.kind (fun y hy hl=>by rw [lookup_of_mem ok.nd hy,hl]) (thn (hi pins s σ H _ I h) fun v s1 h1=>thn h1 fun itv s2 h2=>?_)
  obtain ⟨it,fp,tn,J,H2,e,I2,T,st2,f2,q⟩:=h2
  subst e
  refine block_sc (E:=X.xe) (RR:=fun acc C=>compPost (model X.prog X.w) X.A X.xe none (EP X pins σ Q) acc C) hc ok hg ht he e2 e3 I2 T st2 f2 q ?_
  intro D C H' s' m hn hI f hQ
  exact ⟨m,hn,fun h' sb=>⟨.ref D,H',hI.but f sb,rfl,hQ⟩⟩
end L2
namespace L2
open PySem PySem.Spec PyProof.Rows
theorem same_upd {H:Hp} {D:Addr} {o:HO} (h:H D=none):Same H (upd H D o):=fun b u e=>by rw [upd_ne (ne_of_none e h)];exact e
theorem Same.tupS {K:Frag} {H H':Hp} {a:Addr} {xs:List V} (e:Same H H') (h:SqT K H a xs):SqT K H' a xs:=by
  rcases h with (h | ⟨o,h⟩) | h
  · exact .inl (.inl (e _ _ h))
  · exact .inl (.inr ⟨o,e _ _ h⟩)
  · exact .inr h
def ItOf (J:It) (H1:Hp) (xs:List V):Prop:=∀ H2,Same H1 H2→∀ i,(i < xs.length→J.go i H2∧∀ x H3,J.yld i H2 x H3→H3=H2∧xs[i]? = some x)∧(i=xs.length→J.stop i H2)
theorem itOf_list {K:Frag} {H:Hp} {a:Addr} {xs:List V} (h:SqL K H a xs):ItOf (Itl K a) H xs:=fun H2 s i=>
  ⟨fun hi=>⟨⟨xs,xs[i],s.seq h,by simp [hi]⟩,fun x H3 y=>⟨y.1,y.2 xs (s.seq h)⟩⟩,fun e=>⟨xs,s.seq h,by omega⟩⟩
theorem itOf_tup {K:Frag} {H:Hp} {a:Addr} {xs:List V} (h:SqT K H a xs):ItOf (Itt K a) H xs:=fun H2 s i=>
  ⟨fun hi=>⟨⟨xs,xs[i],s.tupS h,by simp [hi]⟩,fun x H3 y=>⟨y.1,y.2 xs (s.tupS h)⟩⟩,fun e=>⟨xs,s.tupS h,by omega⟩⟩
def rngV (lo:Int) (n:Nat):List V:=(List.range n).map fun i=>V.int (lo+(i:Nat))
theorem rngV_len (lo:Int) (n:Nat):(rngV lo n).length=n:=by unfold rngV;simp
theorem itOf_rng {H:Hp} (lo:Int) (n:Nat):ItOf (Itr lo n) H (rngV lo n):=fun H2 s i=>
  ⟨fun hi=>⟨by rw [rngV_len] at hi;exact hi,fun x H3 y=>⟨y.1,by
    rw [rngV_len] at hi
    unfold rngV
    rw [List.getElem?_map,List.getElem?_range hi,y.2];rfl⟩⟩,fun e=>by rw [rngV_len] at e;exact Nat.le_of_eq e.symm⟩
theorem take_snoc {α:Type} {xs:List α} {i:Nat} {x:α} (h:xs[i]? = some x):xs.take (i+1)=xs.take i ++ [x]:=by
  rw [List.take_add_one,h];rfl
theorem lc_pure {J:It} {H1:Hp} {xs:List V} {g:TG} {tc:TT} {te:TE} {σ0:St} {Q:Addr→Hp→Prop} (hJ:ItOf J H1 xs) (S:St→Prop) (p:V→Bool) (f:V→V) (h0:S σ0) (hz:xs.length≤sizeLine)
    (hs:∀ (x:V) (σ2:St) (H2:Hp) (Qt:St→V→Hp→Prop) (Qf:St→Hp→Prop),x∈xs→Same H1 H2→S σ2→(p x=true→∀ σ4,S σ4→Qt σ4 (f x) H2)→(p x=false→∀ σ4,S σ4→Qf σ4 H2)→
      g x σ2 H2 fun σ4 H4=>tc σ4 H4 fun b H5=>if b=true then te σ4 H5 fun v H6=>Qt σ4 v H6 else Qf σ4 H5)
    (hQ:∀ D,H1 D=none→Q D (upd H1 D (.lst ((xs.filter p).map f)))) :
    ∀ D,H1 D=none→∃ W:Nat→Nat→St→Hp→Prop,(∃ m,W 0 m σ0 (upd H1 D (.lst [])))∧∀ i m σ2 H2,W i m σ2 H2→
      (J.stop i H2∧Q D H2)∨(J.go i H2∧∀ x H3,J.yld i H2 x H3→g x σ2 H3 fun σ4 H4=>tc σ4 H4 fun b H5=>
        if b=true then te σ4 H5 fun v H6=>∃ ys m',H6 D=some (.lst ys)∧ys.length < sizeLine∧m' < m∧W (i+1) m' σ4 (upd H6 D (.lst (ys ++ [v]))) else ∃ m',m' < m∧W (i+1) m' σ4 H5):=by
  intro D hD
  refine ⟨fun i m σ2 H2=>i≤xs.length∧m=xs.length - i∧S σ2∧H2=upd H1 D (.lst (((xs.take i).filter p).map f)),⟨xs.length,Nat.zero_le _,by omega,h0,by simp⟩,?_⟩
  rintro i m σ2 H2 ⟨hi,rfl,hS,rfl⟩
  obtain ⟨j1,j2⟩:=hJ _ (same_upd hD) i
  by_cases hlt:i < xs.length
  · obtain ⟨go,yl⟩:=j1 hlt
    refine .inr ⟨go,fun x H3 y=>?_⟩
    obtain ⟨rfl,hx⟩:=yl x H3 y
    have et:=take_snoc hx
    refine hs x σ2 _ _ _ (List.mem_of_getElem? hx) (same_upd hD) hS (fun hp σ4 h4=>?_) fun hp σ4 h4=>?_
    · refine ⟨_,xs.length - (i+1),upd_same,?_,by omega,hlt,rfl,h4,?_⟩
      · rw [List.length_map]
        have:=List.length_filter_le p (xs.take i)
        rw [List.length_take] at this
        omega
      · rw [upd_upd,et,List.filter_append,List.map_append,List.filter_cons,hp];rfl
    · refine ⟨xs.length - (i+1),by omega,hlt,rfl,h4,?_⟩
      rw [et,List.filter_append,List.filter_cons,hp]
      simp
  · have e:i=xs.length:=by omega
    refine .inl ⟨j2 e,?_⟩
    subst e
    rw [List.take_length]
    exact hQ D hD
def dset (ks:List Int):(Int→Bool)×Nat:=ks.foldl (fun a k=>(fun k'=>a.1 k' || decide (k'=k),if a.1 k then a.2 else a.2+1)) (fun _=>false,0)
theorem dset_snoc (ks:List Int) (k:Int):dset (ks ++ [k])=(fun k'=>(dset ks).1 k' || decide (k'=k),if (dset ks).1 k then (dset ks).2 else (dset ks).2+1):=by
  unfold dset;rw [List.foldl_append];rfl
theorem revInd {P:List Int→Prop} (h0:P []) (hs:∀ l a,P l→P (l ++ [a])) (l:List Int):P l:=by
  have key:∀ r:List Int,P r.reverse:=fun r=>by
    induction r with
    | nil=>exact h0
    | cons a r ih=>rw [List.reverse_cons];exact hs _ _ ih
  rw [← List.reverse_reverse l];exact key _
theorem dset_mem (ks:List Int) (k:Int):(dset ks).1 k=true↔k∈ks:=by
  revert k
  induction ks using revInd with
  | h0=>intro k;simp [dset]
  | hs l a ih=>intro k;rw [dset_snoc];simp [ih]
theorem dset_le (ks:List Int):(dset ks).2≤ks.length:=by
  induction ks using revInd with
  | h0=>simp [dset]
  | hs l a ih=>rw [dset_snoc];simp only [List.length_append,List.length_singleton];split <;> omega
theorem nodup_snoc {l:List Int} {a:Int}:(l ++ [a]).Nodup↔l.Nodup∧a∉l:=by
  rw [List.nodup_append]
  constructor
  · rintro ⟨h1,_,h3⟩;exact ⟨h1,fun h=>h3 a h a (by simp) rfl⟩
  · rintro ⟨h1,h2⟩
    refine ⟨h1,by simp,fun x hx y hy e=>?_⟩
    simp at hy;subst hy;subst e;exact h2 hx
theorem dset_nodup (ks:List Int):(dset ks).2=ks.length↔ks.Nodup:=by
  induction ks using revInd with
  | h0=>simp [dset]
  | hs l a ih=>
    rw [dset_snoc,nodup_snoc,← ih]
    have hle:=dset_le l
    simp only [List.length_append,List.length_singleton]
    by_cases h:(dset l).1 a=true
    · rw [if_pos h]
      constructor
      · intro e;omega
      · rintro ⟨_,h2⟩;exact absurd ((dset_mem l a).mp h) h2
    · rw [if_neg h]
      constructor
      · intro e;exact ⟨by omega,fun h2=>h ((dset_mem l a).mpr h2)⟩
      · rintro ⟨e,_⟩;omega
end L2
namespace L2
open PySem PySem.Spec PyProof.Rows
theorem boot_ty_list:bootBuiltins "list" = some (.type "list"):=by decide +kernel
theorem boot_ty_tuple:bootBuiltins "tuple" = some (.type "tuple"):=by decide +kernel
section
variable {X:Cx}
theorem pe_globI {x:Str} {i:Int} {pos:Pos} (hg:Gl X x) (hm:∃ t,X.mg x=some (.int i t)) (hd:(x == ("__debug__" : Str))=false:=by decide):PE X (.Name x pos) (tC (.int i)):=by
  obtain ⟨t,hm⟩:=hm
  exact pe_glob hg hm ⟨t,rfl⟩ hd
def rGetL (K:Frag):V→V→Hp→VK→Prop:=fun o i H Q=>∃ (p:Addr) (xs:List V) (j:Nat) (v:V),o = .ref p∧i = .int j∧SqL K H p xs∧xs[j]? = some v∧Q v H
theorem get_listG:PGet X (rGetL X.K):=by
  intro pins s σ H o i ov iv Q I ro ri h
  obtain ⟨p,xs,j,v,rfl,rfl,hp,hx,q⟩:=h
  cases (show ov=Value.ref p from ro)
  obtain ⟨t,rfl⟩:=ri
  obtain ⟨its,r,pl,hz⟩:=I.list hp
  obtain ⟨w,ew,rw'⟩:=r.get hx
  have hj:j < xs.length:=by
    by_cases h:j < xs.length
    · exact h
    · rw [List.getElem?_eq_none (Nat.le_of_not_lt h)] at hx;cases hx
  have hn:=line63
  exact wpAny_getItem_list pl.isList (Int.natCast_nonneg _) (by omega) (by simpa using ew) ⟨v,H,I,rw',q⟩
end
end L2
namespace L2
open PySem
theorem PSs.rd {X:Cx} {st:List Stmt} {t:TS} {D:Ends} {σ:St} {H:Hp} (h:PSs X st t) (q:t D σ H):∃ t,PSs X st t∧t D σ H:=⟨t,h,q⟩
end L2
namespace L2
open PySem
def tCut (t:TS):TS:=fun D σ H=>∃ M:L2.St→Hp→Prop,t { D with nx:=M } σ H∧∀ σ' H',M σ' H'→D.nx σ' H'
theorem ps_cut {X:Cx} {st:Stmt} {t:TS} (h:PS X st t):PS X st (tCut t):=by
  intro pins s σ H D I q
  obtain ⟨M,q,hM⟩:=q
  refine thn (h pins s σ H _ I q) fun f s' r=>?_
  cases f with
  | next=>obtain ⟨σ',H',I',m⟩:=r;exact ⟨σ',H',I',hM _ _ m⟩
  | brk=>exact r
  | cont=>exact r
  | ret u=>exact r
end L2
namespace L2
theorem pj {j:Int} (h:decide ((0:Int) < j)=true:=by decide):(0:Int) < j:=of_decide_eq_true h
theorem cdiv {x j:Int} (h:decide ((0:Int) < j∧j < 1073741824)=true:=by decide):CDiv x j:=by unfold CDiv;exact of_decide_eq_true h
theorem cmulR {x j:Int} (h:decide (-(2 ^ 64) < j∧j < 2 ^ 64)=true:=by decide):CMul x j:=.inr (of_decide_eq_true h)
theorem cmulL {x j:Int} (h:decide (-(2 ^ 64) < x∧x < 2 ^ 64)=true:=by decide):CMul x j:=.inl (of_decide_eq_true h)
end L2
namespace L2
open PySem PySem.Spec PyProof.Rows
theorem iteD {c A B:Prop} [Decidable c] (h1:c→A) (h2:¬ c→B):if decide c=true then A else B:=by
  by_cases h:c
  · rw [if_pos (decide_eq_true h)];exact h1 h
  · rw [if_neg (by rw [decide_eq_false h];decide)];exact h2 h
theorem iteND {c A B:Prop} [Decidable c] (h1:¬ c→A) (h2:c→B):if (!decide c)=true then A else B:=by
  by_cases h:c
  · rw [if_neg (by rw [decide_eq_true h];decide)];exact h2 h
  · rw [if_pos (by rw [decide_eq_false h];rfl)];exact h1 h
theorem iteB {b:Bool} {A B:Prop} (h1:b=true→A) (h2:b=false→B):if b=true then A else B:=by
  cases b with
  | true=>exact iteT (h1 rfl)
  | false=>exact iteF (h2 rfl)
theorem iteNB {b:Bool} {A B:Prop} (h1:b=false→A) (h2:b=true→B):if (!b)=true then A else B:=by
  cases b with
  | true=>exact iteF (h2 rfl)
  | false=>exact iteT (h1 rfl)
theorem get_lt {α:Type} {xs:List α} {i:Nat} {x:α} (h:xs[i]? = some x):i < xs.length:=by
  by_cases q:i < xs.length
  · exact q
  · rw [List.getElem?_eq_none (Nat.le_of_not_lt q)] at h;cases h
theorem get_some {α:Type} {xs:List α} {i:Nat} (h:i < xs.length):∃ x,xs[i]? = some x:=⟨xs[i],by simp [h]⟩
theorem lc_by {J:It} {H1:Hp} {xs ws:List V} {g:TG} {tc:TT} {te:TE} {σ0:L2.St} {Q:Addr→Hp→Prop} (hJ:ItOf J H1 xs) (S:L2.St→Prop) (h0:S σ0) (hw:ws.length=xs.length) (hz:xs.length≤sizeLine)
    (hs:∀ (i:Nat) (x w:V) (σ2:L2.St) (H2:Hp) (Qt:L2.St→V→Hp→Prop) (Qf:L2.St→Hp→Prop),xs[i]? = some x→ws[i]? = some w→Same H1 H2→S σ2→(∀ σ4,S σ4→Qt σ4 w H2)→
      g x σ2 H2 fun σ4 H4=>tc σ4 H4 fun b H5=>if b=true then te σ4 H5 fun v H6=>Qt σ4 v H6 else Qf σ4 H5)
    (hQ:∀ D,H1 D=none→Q D (upd H1 D (.lst ws))) :
    ∀ D,H1 D=none→∃ W:Nat→Nat→L2.St→Hp→Prop,(∃ m,W 0 m σ0 (upd H1 D (.lst [])))∧∀ i m σ2 H2,W i m σ2 H2→
      (J.stop i H2∧Q D H2)∨(J.go i H2∧∀ x H3,J.yld i H2 x H3→g x σ2 H3 fun σ4 H4=>tc σ4 H4 fun b H5=>
        if b=true then te σ4 H5 fun v H6=>∃ ys m',H6 D=some (.lst ys)∧ys.length < sizeLine∧m' < m∧W (i+1) m' σ4 (upd H6 D (.lst (ys ++ [v]))) else ∃ m',m' < m∧W (i+1) m' σ4 H5):=by
  intro D hD
  refine ⟨fun i m σ2 H2=>i≤xs.length∧m=xs.length - i∧S σ2∧H2=upd H1 D (.lst (ws.take i)),⟨xs.length,Nat.zero_le _,by omega,h0,by simp⟩,?_⟩
  rintro i m σ2 H2 ⟨hi,rfl,hS,rfl⟩
  obtain ⟨j1,j2⟩:=hJ _ (same_upd hD) i
  by_cases hlt:i < xs.length
  · obtain ⟨go,yl⟩:=j1 hlt
    refine .inr ⟨go,fun x H3 y=>?_⟩
    obtain ⟨rfl,hx⟩:=yl x H3 y
    obtain ⟨w,hw'⟩:=get_some (xs:=ws) (i:=i) (by omega)
    have et:=take_snoc hw'
    refine hs i x w σ2 _ _ _ hx hw' (same_upd hD) hS fun σ4 h4=>?_
    refine ⟨_,xs.length - (i+1),upd_same,?_,by omega,hlt,rfl,h4,?_⟩
    · rw [List.length_take];omega
    · rw [upd_upd,et]
  · have e:i=xs.length:=by omega
    refine .inl ⟨j2 e,?_⟩
    rw [e,← hw,List.take_length]
    exact hQ D hD
theorem sc_by {J:It} {H1:Hp} {xs:List V} {ks:List Int} {g:TG} {tc:TT} {te:TE} {σ0:L2.St} {Q:Addr→Hp→Prop} (hJ:ItOf J H1 xs) (S:L2.St→Prop) (h0:S σ0) (hw:ks.length=xs.length) (hz:xs.length < 4000)
    (hs:∀ (i:Nat) (x:V) (k:Int) (σ2:L2.St) (H2:Hp) (Qt:L2.St→V→Hp→Prop) (Qf:L2.St→Hp→Prop),xs[i]? = some x→ks[i]? = some k→Same H1 H2→S σ2→(∀ σ4,S σ4→Qt σ4 (.int k) H2)→
      g x σ2 H2 fun σ4 H4=>tc σ4 H4 fun b H5=>if b=true then te σ4 H5 fun v H6=>Qt σ4 v H6 else Qf σ4 H5)
    (hQ:∀ D,H1 D=none→Q D (upd H1 D (.set (dset ks).1 (dset ks).2))) :
    ∀ D,H1 D=none→∃ W:Nat→Nat→L2.St→Hp→Prop,(∃ m,W 0 m σ0 (upd H1 D (.set (fun _=>false) 0)))∧∀ i m σ2 H2,W i m σ2 H2→
      (J.stop i H2∧Q D H2)∨(J.go i H2∧∀ x H3,J.yld i H2 x H3→g x σ2 H3 fun σ4 H4=>tc σ4 H4 fun b H5=>
        if b=true then te σ4 H5 fun v H6=>∃ k S n m',v = .int k∧H6 D=some (.set S n)∧n+1 < scanBound∧m' < m∧W (i+1) m' σ4 (upd H6 D (.set (fun k'=>S k' || decide (k'=k)) (if S k then n else n+1))) else ∃ m',m' < m∧W (i+1) m' σ4 H5):=by
  intro D hD
  refine ⟨fun i m σ2 H2=>i≤xs.length∧m=xs.length - i∧S σ2∧H2=upd H1 D (.set (dset (ks.take i)).1 (dset (ks.take i)).2),⟨xs.length,Nat.zero_le _,by omega,h0,by simp [dset]⟩,?_⟩
  rintro i m σ2 H2 ⟨hi,rfl,hS,rfl⟩
  obtain ⟨j1,j2⟩:=hJ _ (same_upd hD) i
  by_cases hlt:i < xs.length
  · obtain ⟨go,yl⟩:=j1 hlt
    refine .inr ⟨go,fun x H3 y=>?_⟩
    obtain ⟨rfl,hx⟩:=yl x H3 y
    obtain ⟨k,hk⟩:=get_some (xs:=ks) (i:=i) (by omega)
    have et:=take_snoc hk
    refine hs i x k σ2 _ _ _ hx hk (same_upd hD) hS fun σ4 h4=>?_
    refine ⟨k,_,_,xs.length - (i+1),rfl,upd_same,?_,by omega,hlt,rfl,h4,?_⟩
    · have h1:=dset_le (ks.take i)
      rw [List.length_take] at h1
      show (dset (ks.take i)).2+1 < 4096
      omega
    · rw [upd_upd,et,dset_snoc]
  · have e:i=xs.length:=by omega
    refine .inl ⟨j2 e,?_⟩
    rw [e,← hw,List.take_length]
    exact hQ D hD
def PairAt (K:Frag) (H:Hp) (v:V) (l:Int×Int):Prop:=∃ q,v = .ref q∧SqT K H q [.int l.1,.int l.2]
structure PairsAt (K:Frag) (H:Hp) (vs:List V) (L:List (Int×Int)):Prop where
  len:vs.length=L.length
  at_:∀ (i:Nat) (l:Int×Int),L[i]? = some l→∃ v,vs[i]? = some v∧PairAt K H v l
structure LinesAt (K:Frag) (H:Hp) (p:Addr) (L:List (Int×Int)):Prop where
  ex:∃ vs,SqT K H p vs∧PairsAt K H vs L
theorem PairAt.same {K:Frag} {H H':Hp} {v:V} {l:Int×Int} (h:PairAt K H v l) (s:Same H H'):PairAt K H' v l:=let ⟨q,e,t⟩:=h;⟨q,e,s.tupS t⟩
theorem PairsAt.same {K:Frag} {H H':Hp} {vs:List V} {L:List (Int×Int)} (h:PairsAt K H vs L) (s:Same H H'):PairsAt K H' vs L:=
  ⟨h.len,fun i l e=>let ⟨v,e1,e2⟩:=h.at_ i l e;⟨v,e1,e2.same s⟩⟩
theorem LinesAt.same {K:Frag} {H H':Hp} {p:Addr} {L:List (Int×Int)} (h:LinesAt K H p L) (s:Same H H'):LinesAt K H' p L:=let ⟨vs,e1,e2⟩:=h.ex;⟨vs,s.tupS e1,e2.same s⟩
theorem PairsAt.snoc {K:Frag} {H:Hp} {vs:List V} {L:List (Int×Int)} {v:V} {l:Int×Int} (h:PairsAt K H vs L) (p:PairAt K H v l):PairsAt K H (vs ++ [v]) (L ++ [l]):=by
  refine ⟨by rw [List.length_append,List.length_append,h.len];rfl,fun i m e=>?_⟩
  by_cases hi:i < L.length
  · rw [List.getElem?_append_left hi] at e
    obtain ⟨u,e1,e2⟩:=h.at_ i m e
    exact ⟨u,by rw [List.getElem?_append_left (by rw [h.len];exact hi)];exact e1,e2⟩
  · have hlt:=get_lt e
    rw [List.length_append,List.length_singleton] at hlt
    have ei:i=L.length:=by omega
    subst ei
    rw [List.getElem?_append_right (Nat.le_refl _),Nat.sub_self] at e
    simp at e;subst e
    exact ⟨v,by rw [List.getElem?_append_right (by rw [h.len];exact Nat.le_refl _),h.len,Nat.sub_self];rfl,p⟩
theorem PairsAt.get {K:Frag} {H:Hp} {vs:List V} {L:List (Int×Int)} {i:Nat} {v:V} (h:PairsAt K H vs L) (e:vs[i]? = some v):∃ l,L[i]? = some l∧PairAt K H v l:=by
  have hi:=get_lt e
  obtain ⟨l,hl⟩:=get_some (xs:=L) (i:=i) (by rw [← h.len];exact hi)
  obtain ⟨u,e1,e2⟩:=h.at_ i l hl
  rw [e] at e1;cases e1
  exact ⟨l,hl,e2⟩
end L2
namespace L2
open PySem PySem.Spec PyProof.Rows
theorem pgc (i:Nat) {X:Cx} {scope:Scope} {cl:List (Str×Addr)} {C:Addr} {s₀:Shared} {H₀:Hp} {fp:List Addr} {x:Str} {pos:Pos} (hN:(scope.names.map (·.1)).Nodup:=by decide +kernel)
    (hi:(scope.names.map (·.1))[i]? = some x:=by rfl) (hx:(relabel scope X.env).names.lookup x=some .local:=by rfl):PG (X.cmp scope cl C s₀ H₀ fp) (.Name x pos) (gName i):=
  pg_name (X:=X.cmp scope cl C s₀ H₀ fp) (cmp_nd hN) hi (.inl hx) (.inr hx)
theorem pgc2 (i j:Nat) {X:Cx} {scope:Scope} {cl:List (Str×Addr)} {C:Addr} {s₀:Shared} {H₀:Hp} {fp:List Addr} {x y:Str} {px py pos:Pos} {k:Nat} (hN:(scope.names.map (·.1)).Nodup:=by decide +kernel)
    (hi:(scope.names.map (·.1))[i]? = some x:=by rfl) (hx:(relabel scope X.env).names.lookup x=some .local:=by rfl)
    (hj:(scope.names.map (·.1))[j]? = some y:=by rfl) (hy:(relabel scope X.env).names.lookup y=some .local:=by rfl) (hc:X.calm=true:=by rfl) :
    PG (X.cmp scope cl C s₀ H₀ fp) (.Tuple [.Name x px,.Name y py] k pos) (gTup X.K 2 (gCons (gName i) (gCons (gName j) gNil))):=
  pg_tup (X:=X.cmp scope cl C s₀ H₀ fp) (n:=2) hc (pgs_cons (pg_name (cmp_nd hN) hi (.inl hx) (.inr hx)) (pgs_cons (pg_name (cmp_nd hN) hj (.inl hy) (.inr hy)) pgs_nil))
section
variable {X:Cx} {elt tg iter:Expr} {ifs:List Expr} {scope:Scope} {pos:Pos} {wi:TI} {g:TG} {tc:TT} {te:TE}
theorem lcA (sc:Scope) (hi:PI X tg iter wi)
    (hg:∀ cl C s₀ H₀ fp,PG (X.cmp scope cl C s₀ H₀ fp) tg g) (ht:∀ cl C s₀ H₀ fp,PTs (X.cmp scope cl C s₀ H₀ fp) ifs tc) (he:∀ cl C s₀ H₀ fp,PE (X.cmp scope cl C s₀ H₀ fp) elt te)
    (hc:X.calm=true:=by rfl) (hsc:X.env.scope=sc:=by rfl) (hok:cmpB sc scope=true:=by decide +kernel)
    (hs:∀ x,foldedSetIterable iter X.env x=pure x:=by intro _;rfl):PE X (.ListComp elt [⟨tg,iter,ifs,0⟩] scope pos) (tLC X.N scope.names wi g tc te):=pe_lc hc hsc hok hi hg ht he hs
theorem scA (sc:Scope) (hi:PI X tg iter wi)
    (hg:∀ cl C s₀ H₀ fp,PG (X.cmp scope cl C s₀ H₀ fp) tg g) (ht:∀ cl C s₀ H₀ fp,PTs (X.cmp scope cl C s₀ H₀ fp) ifs tc) (he:∀ cl C s₀ H₀ fp,PE (X.cmp scope cl C s₀ H₀ fp) elt te)
    (hc:X.calm=true:=by rfl) (hsc:X.env.scope=sc:=by rfl) (hok:cmpB sc scope=true:=by decide +kernel)
    (hs:∀ x,foldedSetIterable iter X.env x=pure x:=by intro _;rfl):PE X (.SetComp elt [⟨tg,iter,ifs,0⟩] scope pos) (tSC X.N scope.names wi g tc te):=pe_sc hc hsc hok hi hg ht he hs
theorem lcS (sc:Scope) (i:Nat) {y:Str} {spos py:Pos} (hN:X.N.Nodup) (hi:PI X tg iter wi)
    (hg:∀ cl C s₀ H₀ fp,PG (X.cmp scope cl C s₀ H₀ fp) tg g) (ht:∀ cl C s₀ H₀ fp,PTs (X.cmp scope cl C s₀ H₀ fp) ifs tc) (he:∀ cl C s₀ H₀ fp,PE (X.cmp scope cl C s₀ H₀ fp) elt te)
    (hy:X.N[i]? = some y:=by rfl) (hyl:X.env.scope.names.lookup y=some .local:=by rfl)
    (hsw:swapsWith (.ListComp elt [⟨tg,iter,ifs,0⟩] scope pos) (some (.Name y py)) spos.line X.env=pure true:=by rfl)
    (hc:X.calm=true:=by rfl) (hsc:X.env.scope=sc:=by rfl) (hok:cmpB sc scope=true:=by decide +kernel)
    (hs:∀ x,foldedSetIterable iter X.env x=pure x:=by intro _;rfl):PS X (.Assign [.Name y py] (.ListComp elt [⟨tg,iter,ifs,0⟩] scope pos) spos) (tAsg (tLC X.N scope.names wi g tc te) (gName i)):=
  ps_lc hN hy hyl hsw hc hsc hok hi hg ht he hs
end
end L2
namespace L2
theorem iteF' {b:Bool} {A B:Prop} (e:b=false) (h:B):if b=true then A else B:=by rw [e];exact iteF h
end L2
namespace L2
open PySem
section
variable {X:Cx}
end
end L2
namespace L2
open PySem
end L2
namespace L2
open PySem PySem.Spec PyProof.Rows
structure KDict (w:World) (K:Frag) (d:Addr) (kvs:List (Key×Value)):Prop where
  low:(d == sysModules)=false
  at_:∀ (P:Program) (h:Heap),K.In h→h.DictOf (mixKind P w) d kvs
def KTup (K:Frag) (a:Addr) (xs:List V):Prop:=∃ (o:Obj) (its:Array Value) (n:Nat),K.lookup a=some o∧o.cls = .type "tuple" ∧ o.data = .seq its n∧its.size≤sizeLine∧Vals xs its.toList
theorem KTup.sq {K:Frag} {a:Addr} {xs:List V} (h:KTup K a xs) (H:Hp):SqT K H a xs:=.inr h
theorem kdict_mk {w:World} {K:Frag} {d:Addr} {es:List DictEntry} {ep:Nat} {kvs:List (Key×Value)} (l:K.lookup d=some ⟨.type "dict", none,.dict es.toArray ep,#[]⟩) (low:(d == sysModules)=false)
    (hk:∀ e∈es,∃ k:Key,keyIs k e.key=true∧e.hash=keyH w k) (hp:∀ P:Program,Pairs (mixKind P w) es kvs) (nd:(kvs.map (·.1)).Nodup):KDict w K d kvs:=
  ⟨low,fun P h X=>⟨_,es.toArray,ep,X _ _ l,⟨rfl,rfl,rfl⟩,rfl,fun e he=>hk e (by simpa using he),by simpa using hp P,nd⟩⟩
section
variable {X:Cx}
theorem op_knotin:OpR X (compareOp .NotIn) (fun x y H Q=>∃ (k:Str) (d:Addr) (kvs:List (Key×Value)),x = .str k∧y = .ref d∧KDict X.w X.K d kvs∧Q (.bl (!(valueAt kvs (Sum.inr k)).isSome)) H):=by
  intro pins s σ H x y v u Q I rx ry h
  obtain ⟨k,d,kvs,rfl,rfl,kd,q⟩:=h
  cases (show u=Value.ref d from ry)
  obtain ⟨t,rfl⟩:=rx
  exact wpAny_notIn_of (knd:=mixKind X.prog X.w) (k:=Sum.inr k) (mixKind_str _ _ k t) kd.low (kd.at_ X.prog _ I.kIn).mapOf ⟨.bl _,H,I.tok _,rfl,q⟩
theorem ix_kdict:IxR X (fun x y H Q=>∃ (k:Str) (d:Addr) (kvs:List (Key×Value)) (v:V) (u:Value),x = .ref d∧y = .str k∧KDict X.w X.K d kvs∧valueAt kvs (Sum.inr k)=some u∧RelV v u∧Q v H):=by
  intro value slice pins s σ H x y v u Q I rx ry h hs
  obtain ⟨k,d,kvs,z,uz,rfl,rfl,kd,hv,rz,q⟩:=h
  cases (show v=Value.ref d from rx)
  obtain ⟨t,rfl⟩:=ry
  have dd:=kd.at_ X.prog _ I.kIn
  exact subscriptTail_builtinR (x:=uz) dd.mapOf.typeIs PySem.F.slot_dict_getitem.lookup
    (wpAny_getItem_of (Q:=fun r s'=>r=uz∧EP X pins σ Q r s') (knd:=mixKind X.prog X.w) (k:=Sum.inr k) (mixKind_str _ _ k t) dd.mapOf hv ⟨rfl,z,H,I.tok _,rz,q⟩) hs
end
end L2
namespace HT
open PySem PySem.Spec PyProof.Rows
section
variable {prog:Program} {w:World} {A:Around} {E:Value→Shared→Prop} {s:Shared}
end
end HT
namespace L2
open PySem PySem.Spec PyProof.Rows
section
variable {X:Cx}
end
end L2
namespace L2
open PySem
end L2
namespace L2
open PySem PySem.Spec PyProof.Rows
section
variable {X:Cx}
def rCount:V→List V→Hp→VK→Prop:=fun x vs H Q=>∃ (l:Addr) (ns:List Int) (k:Int),x = .ref l∧vs=[.int k]∧H l=some (.lst (ns.map V.int))∧Q (.int (ns.count k:Nat)) H
theorem mt_count:MtM X "list.count" rCount:=by
  intro pins s σ H x vs v us Q I rx rv h
  obtain ⟨l,ns,k,rfl,rfl,hH,q⟩:=h
  cases rx
  obtain ⟨u,rfl,⟨t,rfl⟩⟩:=rv.one
  obtain ⟨z,its,n,r,hl,e⟩:=I.lstM hH
  exact count_list_ints ⟨_,e,rfl,n,rfl⟩ (L2.intsAre_of r) ⟨.int (ns.count k:Nat),H,I.tok _,⟨_,rfl⟩,q⟩
variable {o e:Expr} {es:List Expr} {to:TE} {t:TA} {name:Str} {apos cpos:Pos} {T id:String} {r:V→List V→Hp→VK→Prop}
theorem pe_bmK (K:Frag) (hK:X.K=K) (pa:PlainAttrs T) (slot:Slot T name id) (hty:typeOf (.builtin id)=pure (.type "method_descriptor")) (hm:MtR X id r) (ho:PE X o to) (ha:PA X (e :: es) t)
    (hbase:attributeBase o name X.env (eval o X.env)=eval o X.env:=by rfl)
    (hfew:((backTo cpos (starEach (e :: es) X.env)).all (fun x=>!x.1) && (backToKw cpos (keywordEach [] X.env)).all (fun x=>x.1.isSome)
      && decide ((e :: es).length+([]:List Keyword).length+(if ([]:List Keyword).isEmpty then 0 else 1) < 30))=true:=by rfl)
    (hline:(apos.endLine == cpos.line)=true:=by rfl) (hs:starEach (e :: es) X.env=(false,eval e X.env) :: starEach es X.env:=by rfl) (hplain:(backTo cpos (starEach es X.env)).any (·.1)=false:=by rfl) :
    PE X (.Call (.Attribute o name apos) (e :: es) [] cpos) (tBM K T r to t):=by
  subst hK;exact pe_bm pa slot hty hm ho ha hbase hfew hline hs hplain
end
section
variable {X:Cx} {e:Expr} {f:Str} {pos:Pos} {ta:TE}
end
theorem pgc5 (i0 i1 i2 i3 i4:Nat) {X:Cx} {scope:Scope} {cl:List (Str×Addr)} {C:Addr} {s₀:Shared} {H₀:Hp} {fp:List Addr} {x0 x1 x2 x3 x4:Str} {p0 p1 p2 p3 p4 pos:Pos} {k:Nat} (hN:(scope.names.map (·.1)).Nodup:=by decide +kernel)
    (h0:(scope.names.map (·.1))[i0]? = some x0:=by rfl) (l0:(relabel scope X.env).names.lookup x0=some .local:=by rfl)
    (h1:(scope.names.map (·.1))[i1]? = some x1:=by rfl) (l1:(relabel scope X.env).names.lookup x1=some .local:=by rfl)
    (h2:(scope.names.map (·.1))[i2]? = some x2:=by rfl) (l2:(relabel scope X.env).names.lookup x2=some .local:=by rfl)
    (h3:(scope.names.map (·.1))[i3]? = some x3:=by rfl) (l3:(relabel scope X.env).names.lookup x3=some .local:=by rfl)
    (h4:(scope.names.map (·.1))[i4]? = some x4:=by rfl) (l4:(relabel scope X.env).names.lookup x4=some .local:=by rfl)
    (hc:X.calm=true:=by rfl):PG (X.cmp scope cl C s₀ H₀ fp) (.Tuple [.Name x0 p0,.Name x1 p1,.Name x2 p2,.Name x3 p3,.Name x4 p4] k pos) (gTup X.K 5 (gCons (gName i0) (gCons (gName i1) (gCons (gName i2) (gCons (gName i3) (gCons (gName i4) gNil)))))):=
  pg_tup (X:=X.cmp scope cl C s₀ H₀ fp) (n:=5) hc (pgs_cons (pg_name (cmp_nd hN) h0 (.inl l0) (.inr l0)) (pgs_cons (pg_name (cmp_nd hN) h1 (.inl l1) (.inr l1)) (pgs_cons (pg_name (cmp_nd hN) h2 (.inl l2) (.inr l2)) (pgs_cons (pg_name (cmp_nd hN) h3 (.inl l3) (.inr l3)) (pgs_cons (pg_name (cmp_nd hN) h4 (.inl l4) (.inr l4)) pgs_nil)))))
section
variable {X:Cx}
theorem sl_listK (K:Frag) (h:X.K=K):SlR X (rSlL K):=by subst h;exact sl_list
end
theorem for_rangeO {lo:Int} {n:Nat} {g:TG} {tb:TS} {D:Ends} {σ:St} {H:Hp} (Pv:Nat→St→Hp→Prop) (h0:Pv 0 σ H)
    (hs:∀ (N:St→Hp→Prop) (R:VK) (B:St→Hp→Prop) (i:Nat) (σ:St) (H:Hp),i < n→Pv i σ H→(∀ σ' H',Pv (i+1) σ' H'→N σ' H')→(∀ v H',D.rt v H'→R v H')→g (.int (lo+i)) σ H fun σ2 H2=>tb ⟨N,R,B,N⟩ σ2 H2) (hd:∀ σ H,Pv n σ H→D.nx σ H) :
    ∃ W:Nat→Nat→St→Hp→Prop,(∃ m,W 0 m σ H)∧∀ i m σ H,W i m σ H→
      ((Itr lo n).stop i H∧D.nx σ H)∨((Itr lo n).go i H∧∃ N:St→Hp→Prop,(∀ σ' H',N σ' H'→∃ m',m' < m∧W (i+1) m' σ' H')∧∀ x H',(Itr lo n).yld i H x H'→g x σ H' fun σ2 H2=>tb { D with nx:=N,ct:=N,bk:=D.nx } σ2 H2):=
  for_range Pv h0 (fun i σ H hi p=>hs (Pv (i+1)) D.rt D.nx i σ H hi p (fun _ _ x=>x) fun _ _ x=>x) hd
theorem for_listO {K:Frag} {a:Addr} {xs:List V} {g:TG} {tb:TS} {D:Ends} {σ:St} {H:Hp} (Pv:Nat→St→Hp→Prop) (h0:Pv 0 σ H) (hl:∀ i σ H,i≤xs.length→Pv i σ H→SqL K H a xs)
    (hs:∀ (N:St→Hp→Prop) (R:VK) (B:St→Hp→Prop) (i:Nat) (x:V) (σ:St) (H:Hp),xs[i]? = some x→Pv i σ H→(∀ σ' H',Pv (i+1) σ' H'→N σ' H')→(∀ v H',D.rt v H'→R v H')→g x σ H fun σ2 H2=>tb ⟨N,R,B,N⟩ σ2 H2) (hd:∀ σ H,Pv xs.length σ H→D.nx σ H) :
    ∃ W:Nat→Nat→St→Hp→Prop,(∃ m,W 0 m σ H)∧∀ i m σ H,W i m σ H→
      ((Itl K a).stop i H∧D.nx σ H)∨((Itl K a).go i H∧∃ N:St→Hp→Prop,(∀ σ' H',N σ' H'→∃ m',m' < m∧W (i+1) m' σ' H')∧∀ x H',(Itl K a).yld i H x H'→g x σ H' fun σ2 H2=>tb { D with nx:=N,ct:=N,bk:=D.nx } σ2 H2):=
  for_list Pv h0 hl (fun i x σ H hx p=>hs (Pv (i+1)) D.rt D.nx i x σ H hx p (fun _ _ x=>x) fun _ _ x=>x) hd
end L2
namespace L2
open PySem PySem.Spec PyProof.Rows
section
variable {X:Cx} {pins:List (Addr×Obj)} {σ:St} {H:Hp} {s:Shared} {h':Heap}
theorem Inv.turnedL {t':Nat} (its:List Addr) (I:Inv X pins σ H s) (k:∀ b o,b∉its→s.heap.get? b=some o→h'.get? b=some o) (hf:∀ b∈its,FpOk X pins H b):Inv X pins σ H { s with heap:=h',toks:=t' }:=by
  have nit:∀ b u,H b=some u→b∉its:=fun b u e z=>by have:=(hf b z).1;rw [this] at e;cases e
  refine I.step (g':=s.gens) (d':=s.drawn) (ch:=its) (fun b hb=>?_) (fun b o _ _ hc e _=>k b o hc e) (fun b o _ _ hc e _=>⟨o.slots,k b o hc e⟩) (fun _ _ _ _ n=>n)
    (fun b o hc e=>⟨o,k b o hc e⟩) (fun _ _ e=>e) (fun _ _ _ e=>e) (fun b ps e=>⟨#[],by rw [e];simp⟩) (fun m hm=>?_) (fun b u e=>?_) I.bare
  · obtain ⟨_,f1,_,f3,f4,f5⟩:=hf b hb
    exact ⟨f3,f1,f4,f5⟩
  · obtain ⟨o,es,ep,ho,r⟩:=hm
    exact ⟨o,es,ep,k _ o (fun z=>(hf _ z).2.1 rfl) ho,r⟩
  · refine (I.hok b u e).stay (fun c v hc q=>k c v ?_ q) (fun _ q=>q) fun _ _ q=>q
    rcases hc with z | z
    · rw [z];exact nit b u e
    · exact nit c _ z
theorem FpOk.upd {a b:Addr} {o:HO} (f:FpOk X pins H b) (n:b≠a):FpOk X pins (upd H a o) b:=by
  obtain ⟨f0,r⟩:=f
  exact ⟨by rw [upd_ne n];exact f0,r⟩
theorem Inv.pairT {t':Nat} {x y:V} {u v:Value} (its:List Addr) (I:Inv X pins σ H s) (hf:∀ b∈its,FpOk X pins H b) (hlt:∀ b∈its,b < s.heap.objs.size) (ru:RelV x u) (rv:RelV y v)
    (hp:h'.get? s.heap.objs.size=some { cls:=.type "tuple", data:=.seq #[u,v] }) (k:∀ b o,b∉its→s.heap.get? b=some o→h'.get? b=some o) :
    Inv X pins σ (upd H s.heap.objs.size (.tup [x,y])) { s with heap:=h',toks:=t' }:=by
  have I1:Inv X pins σ (upd H s.heap.objs.size (.tup [x,y])) { s with heap:=s.heap.push { cls:=.type "tuple", data:=.seq #[u,v] },toks:=t' }:=
    I.laid (fun b o e=>Heap.get?_push_of_some _ e) (Nat.le_refl _) ⟨by show 2≤sizeLine;decide,[u,v],.cons ru (.cons rv .nil),⟨_,Heap.get?_push_size _ rfl,rfl,_,rfl⟩⟩
  refine Inv.turnedL (s:={ s with heap:=s.heap.push { cls:=.type "tuple", data:=.seq #[u,v] },toks:=t' }) its I1 (fun b o hb e=>?_) fun b hb=>(hf b hb).upd (Nat.ne_of_lt (hlt b hb))
  rcases Heap.get?_push_cases e with ⟨rfl,rfl⟩ | e
  · exact hp
  · exact k b o hb e
end
def Itz (K:Frag) (a b:Addr):It:=
  ⟨fun i H=>∃ xs ys x y,SqL K H a xs∧SqL K H b ys∧xs[i]? = some x∧ys[i]? = some y,
   fun i H x H'=>∃ T u v,x = .ref T∧H T=none∧H'=upd H T (.tup [u,v])∧∀ xs ys,SqL K H a xs→SqL K H b ys→xs[i]? = some u∧ys[i]? = some v,
   fun i H=>∃ xs ys,SqL K H a xs∧SqL K H b ys∧(xs.length≤i∨ys.length≤i)⟩
def Ite (K:Frag) (a:Addr):It:=
  ⟨fun i H=>∃ xs x,SqL K H a xs∧xs[i]? = some x,
   fun i H x H'=>∃ T v,x = .ref T∧H T=none∧H'=upd H T (.tup [.int (i:Nat),v])∧∀ xs,SqL K H a xs→xs[i]? = some v,
   fun i H=>∃ xs,SqL K H a xs∧xs.length≤i⟩
theorem pins_lt {h:Heap} {b:Addr} {o:Obj} (e:h.get? b=some o):b < h.objs.size:=Heap.lt_size e
theorem turn_zip {P:Program} {w:World} {K:Frag} {es:List Expr} {kk:Nat} {tp:Pos} (z TI TO i1 i2 l1 l2:Addr) (D:ZipApart z TI TO i1 i2 l1 l2) :
    Turn P w K (.Tuple es kk tp) (Itz K l1 l2) [z,TI,TO,i1,i2] z (fun i h=>IsZip h z TI TO .none∧IsPair h TI (.ref i1) (.ref i2)∧(∃ a b,IsPair h TO a b)∧h.IsListIter i1 l1 i∧h.IsListIter i2 l2 i) where
  mem:=by simp
  obj:=fun i h st b hb=>by
    obtain ⟨hz,hTI,⟨p,q,hTO⟩,⟨o1,e1,c1,d1⟩,⟨o2,e2,c2,d2⟩⟩:=st
    simp only [List.mem_cons,List.not_mem_nil,or_false] at hb
    rcases hb with rfl | rfl | rfl | rfl | rfl
    · exact ⟨_,hz,fun v z=>by cases z⟩
    · exact ⟨_,hTI,fun v z=>by cases z⟩
    · exact ⟨_,hTO,fun v z=>by cases z⟩
    · exact ⟨_,e1,fun v z=>by rw [d1] at z;cases z⟩
    · exact ⟨_,e2,fun v z=>by rw [d2] at z;cases z⟩
  keep:=fun i h h' st k=>by
    obtain ⟨hz,hTI,⟨p,q,hTO⟩,h1,h2⟩:=st
    exact ⟨k z (by simp) _ hz,k TI (by simp) _ hTI,⟨p,q,k TO (by simp) _ hTO⟩,h1.at fun o e=>k i1 (by simp) o e,h2.at fun o e=>k i2 (by simp) o e⟩
  item:=by
    intro X hP hw hK hc i pins s σ H E I hf st hg
    subst hP hw hK
    obtain ⟨xs,ys,x,y,hq1,hq2,hx,hy⟩:=hg
    obtain ⟨ws,rw1,p1,z1⟩:=I.list hq1
    obtain ⟨vs,rw2,p2,z2⟩:=I.list hq2
    obtain ⟨u,hu,ru⟩:=rw1.get hx
    obtain ⟨v,hv,rv⟩:=rw2.get hy
    obtain ⟨hz,hTI,⟨p,q,hTO⟩,h1,h2⟩:=st
    have lz:=pins_lt hz
    have lTO:=pins_lt hTO
    have l1':i1 < s.heap.objs.size:=by obtain ⟨o,e,_⟩:=h1;exact pins_lt e
    have l2':i2 < s.heap.objs.size:=by obtain ⟨o,e,_⟩:=h2;exact pins_lt e
    refine wpAny_pyNext_zip_item D hz hTI hTO h1 h2 p1.isList p2.isList (x:=u) (y:=v) (by simpa using hu) (by simpa using hv) fun h' a1 a2 a3 a4 a5 a6 a7=>⟨_,rfl,wpAny_letOwnedTupleGo_zip a1 fun h2' b1 b2=>?_⟩
    have I2:Inv X pins σ (upd H s.heap.objs.size (.tup [x,y])) { s with heap:=h2',toks:=s.toks }:=by
      refine I.pairT [z,TO,i1,i2] (fun b hb=>hf b ?_) (fun b hb=>?_) ru rv ?_ fun b o hb e=>?_
      · simp only [List.mem_cons,List.not_mem_nil,or_false] at hb ⊢
        rcases hb with rfl | rfl | rfl | rfl <;> simp
      · simp only [List.mem_cons,List.not_mem_nil,or_false] at hb
        rcases hb with rfl | rfl | rfl | rfl <;> assumption
      · exact b2.extBut _ _ (Nat.ne_of_gt lz) a5
      · simp only [List.mem_cons,List.not_mem_nil,or_false,not_or] at hb
        exact b2.extBut _ _ hb.1 (a7 b o hb.1 hb.2.1 hb.2.2.1 hb.2.2.2 e)
    refine ⟨.ref s.heap.objs.size,_,I2,rfl,⟨_,x,y,rfl,I.hok.fresh (Nat.le_refl _),rfl,fun xs' ys' g1 g2=>?_⟩,⟨b1,?_,⟨_,_,b2.extBut _ _ D.TOz a2⟩,a3.extBut b2.extBut D.i1z,a4.extBut b2.extBut D.i2z⟩,fun b hb=>?_⟩
    · rw [I.list_inj g1 hq1,I.list_inj g2 hq2];exact ⟨hx,hy⟩
    · exact b2.extBut _ _ D.TIz (a7 TI _ D.TIz D.TITO D.TIi1 D.TIi2 hTI)
    · have hlt:b < s.heap.objs.size:=by
        simp only [List.mem_cons,List.not_mem_nil,or_false] at hb
        rcases hb with rfl | rfl | rfl | rfl | rfl
        · exact lz
        · exact pins_lt hTI
        · exact lTO
        · exact l1'
        · exact l2'
      rw [upd_ne (Nat.ne_of_lt hlt)];exact (hf b hb).1
  done:=by
    intro X hP hw hK hc i pins s σ H E I hf st hg
    subst hP hw hK
    obtain ⟨xs,ys,hq1,hq2,hx⟩:=hg
    obtain ⟨ws,rw1,p1,z1⟩:=I.list hq1
    obtain ⟨vs,rw2,p2,z2⟩:=I.list hq2
    have e1:=rw1.length
    have e2:=rw2.length
    obtain ⟨hz,hTI,⟨p,q,hTO⟩,h1,h2⟩:=st
    refine wpAny_pyNext_zip_end (I.ok.hd hc) D hz hTI hTO h1 h2 p1.isList p2.isList ?_ fun h' k=>⟨rfl,I.turnedL (t':=s.toks) [z,TO,i1,i2] (fun b o hb e=>?_) fun b hb=>hf b ?_⟩
    · rcases hx with hx | hx
      · exact .inl (by simp;omega)
      · exact .inr (by simp;omega)
    · simp only [List.mem_cons,List.not_mem_nil,or_false,not_or] at hb
      exact k b o hb.1 hb.2.1 hb.2.2.1 hb.2.2.2 e
    · simp only [List.mem_cons,List.not_mem_nil,or_false] at hb ⊢
      rcases hb with rfl | rfl | rfl | rfl <;> simp
  self:=fun _ _ _ _ _ st h=>wpAny_pyIter_zip st.1 h
theorem turn_enum {P:Program} {w:World} {K:Frag} {es:List Expr} {kk:Nat} {tp:Pos} (e it l:Addr) (hne:e≠it) :
    Turn P w K (.Tuple es kk tp) (Ite K l) [e,it] e (fun i h=>(∃ old,IsEnum h e it (i:Nat) old)∧h.IsListIter it l i) where
  mem:=by simp
  obj:=fun i h st b hb=>by
    obtain ⟨⟨old,he⟩,⟨o1,e1,c1,d1⟩⟩:=st
    simp only [List.mem_cons,List.not_mem_nil,or_false] at hb
    rcases hb with rfl | rfl
    · exact ⟨_,he,fun v z=>by cases z⟩
    · exact ⟨_,e1,fun v z=>by rw [d1] at z;cases z⟩
  keep:=fun i h h' st k=>by
    obtain ⟨⟨old,he⟩,h1⟩:=st
    exact ⟨⟨old,k e (by simp) _ he⟩,h1.at fun o e=>k it (by simp) o e⟩
  item:=by
    intro X hP hw hK hc i pins s σ H E I hf st hg
    subst hP hw hK
    obtain ⟨xs,x,hq1,hx⟩:=hg
    obtain ⟨ws,rw1,p1,z1⟩:=I.list hq1
    obtain ⟨u,hu,ru⟩:=rw1.get hx
    obtain ⟨⟨old,he⟩,h1⟩:=st
    have lz:=pins_lt he
    have l1':it < s.heap.objs.size:=by obtain ⟨o,e,_⟩:=h1;exact pins_lt e
    refine wpAny_pyNext_enum_item he h1 p1.isList (x:=u) (by simpa using hu) hne fun h' a1 a3 a5 a6 a7=>⟨_,rfl,wpAny_letOwnedTupleGo_enum a1 fun h2' b1 b2=>?_⟩
    have I2:Inv X pins σ (upd H s.heap.objs.size (.tup [.int (i:Nat),x])) { s with heap:=h2',toks:=s.toks+1 }:=by
      refine I.pairT (u:=.int (i:Nat) s.toks) [e,it] (fun b hb=>hf b hb) (fun b hb=>?_) ⟨_,rfl⟩ ru ?_ fun b o hb e=>?_
      · simp only [List.mem_cons,List.not_mem_nil,or_false] at hb
        rcases hb with rfl | rfl <;> assumption
      · exact b2.extBut _ _ (Nat.ne_of_gt lz) a5
      · simp only [List.mem_cons,List.not_mem_nil,or_false,not_or] at hb
        exact b2.extBut _ _ hb.1 (a7 b o hb.1 hb.2 e)
    refine ⟨.ref s.heap.objs.size,_,I2,rfl,⟨_,x,rfl,I.hok.fresh (Nat.le_refl _),rfl,fun xs' g1=>?_⟩,⟨⟨_,b1⟩,a3.extBut b2.extBut hne.symm⟩,fun b hb=>?_⟩
    · rw [I.list_inj g1 hq1];exact hx
    · have hlt:b < s.heap.objs.size:=by
        simp only [List.mem_cons,List.not_mem_nil,or_false] at hb
        rcases hb with rfl | rfl
        · exact lz
        · exact l1'
      rw [upd_ne (Nat.ne_of_lt hlt)];exact (hf b hb).1
  done:=by
    intro X hP hw hK hc i pins s σ H E I hf st hg
    subst hP hw hK
    obtain ⟨xs,hq1,hx⟩:=hg
    obtain ⟨ws,rw1,p1,z1⟩:=I.list hq1
    have e1:=rw1.length
    obtain ⟨⟨old,he⟩,h1⟩:=st
    refine wpAny_pyNext_enum_end (I.ok.hd hc) he h1 p1.isList (by simp;omega) fun h' k=>⟨rfl,I.turnedL (t':=s.toks) [it] (fun b o hb e=>?_) fun b hb=>hf b ?_⟩
    · simp only [List.mem_cons,List.not_mem_nil,or_false] at hb
      exact k b o hb e
    · simp only [List.mem_cons,List.not_mem_nil,or_false] at hb ⊢
      exact .inr hb
  self:=fun _ _ _ _ _ st h=>by obtain ⟨⟨old,he⟩,_⟩:=st;exact wpAny_pyIter_enum he h
section
variable {X:Cx} {es:List Expr} {kk:Nat} {tp:Pos}
def iZip (K:Frag) (ta:TA):TI:=fun σ H R=>ta σ H fun vs H1=>∃ a b xs ys,vs=[.ref a,.ref b]∧SqL K H1 a xs∧SqL K H1 b ys∧R (Itz K a b) H1
def iEnum (K:Frag) (ta:TA):TI:=fun σ H R=>ta σ H fun vs H1=>∃ a xs,vs=[.ref a]∧SqL K H1 a xs∧R (Ite K a) H1
theorem pi_zip {a b:Expr} {ta:TA} {p pos:Pos} (hg:Gl X "zip") (hm:X.mg "zip" = none) (ha:PA X [a,b] ta) (hs:starEach [a,b] X.env=[(false,eval a X.env),(false,eval b X.env)]:=by rfl) (hs2:starEach [b] X.env=[(false,eval b X.env)]:=by rfl) :
    PI X (.Tuple es kk tp) (.Call (.Name "zip" p) [a,b] [] pos) (iZip X.K ta):=by
  intro pins s σ H R I h
  refine Call_ (ld_blt I hg hm boot_zip (PyProof.Rows.callWith_type1 (thn (ha pos pins s σ H _ I h) fun us s1 ⟨vs,H1,I1,r1,q1⟩=>?_) (by rw [hs,hs2]) (by rw [hs2];rfl)))
  obtain ⟨l1,l2,xs,ys,e,q1,q2,q⟩:=q1
  subst e
  cases r1 with
  | cons r rr=>
    cases rr with
    | cons r' rr=>
      cases rr
      cases r
      cases r'
      obtain ⟨ws,rw1,p1,z1⟩:=I1.list q1
      obtain ⟨vs,rw2,p2,z2⟩:=I1.list q2
      have lt1:l1 < s1.heap.objs.size:=by obtain ⟨o,e,_⟩:=p1.isList;exact pins_lt e
      have lt2:l2 < s1.heap.objs.size:=by obtain ⟨o,e,_⟩:=p2.isList;exact pins_lt e
      refine call_zip_2 p1.isList p2.isList fun h' a1 a2 a3 a4 a5 a6 a7=>?_
      refine wpAny_pyIter_zip a1 ⟨_,[s1.heap.objs.size+4,s1.heap.objs.size+2,s1.heap.objs.size+3,s1.heap.objs.size,s1.heap.objs.size+1],_,_,H1,rfl,I1.kept (t':=s1.toks) a7,turn_zip _ _ _ _ _ _ _ (zipApart_new lt1 lt2),⟨a1,a2,⟨_,_,a3⟩,a4,a5⟩,fun b hb=>?_,q⟩
      have hb':s1.heap.objs.size≤b:=by
        simp only [List.mem_cons,List.not_mem_nil,or_false] at hb
        rcases hb with rfl | rfl | rfl | rfl | rfl <;> first | exact Nat.le_refl _ | exact Nat.le_add_right _ _
      exact I1.fpOk hb' (I1.hok.fresh hb')
theorem pi_enum {a:Expr} {ta:TA} {p pos:Pos} (hg:Gl X "enumerate") (hm:X.mg "enumerate" = none) (ha:PA X [a] ta) (hs:starEach [a] X.env=[(false,eval a X.env)]:=by rfl) :
    PI X (.Tuple es kk tp) (.Call (.Name "enumerate" p) [a] [] pos) (iEnum X.K ta):=by
  intro pins s σ H R I h
  refine Call_ (ld_blt I hg hm boot_enumerate (PyProof.Rows.callWith_type1 (thn (ha pos pins s σ H _ I h) fun us s1 ⟨vs,H1,I1,r1,q1⟩=>?_) hs rfl))
  obtain ⟨l,xs,e,q1,q⟩:=q1
  subst e
  cases r1 with
  | cons r rr=>
    cases rr
    cases r
    obtain ⟨ws,rw1,p1,z1⟩:=I1.list q1
    refine call_enumerate_list p1.isList fun h' a1 a4 a6 a7=>?_
    refine wpAny_pyIter_enum a1 ⟨_,[s1.heap.objs.size+1,s1.heap.objs.size],_,_,H1,rfl,I1.kept (t':=s1.toks) a7,turn_enum _ _ _ (Nat.ne_of_gt (Nat.lt_succ_self _)),⟨⟨_,a1⟩,a4⟩,fun b hb=>?_,q⟩
    have hb':s1.heap.objs.size≤b:=by
      simp only [List.mem_cons,List.not_mem_nil,or_false] at hb
      rcases hb with rfl | rfl <;> first | exact Nat.le_refl _ | exact Nat.le_add_right _ _
    exact I1.fpOk hb' (I1.hok.fresh hb')
end
theorem for_zip {K:Frag} {a b:Addr} {xs ys:List V} {g:TG} {tb:TS} {D:Ends} {σ:St} {H:Hp} (Pv:Nat→St→Hp→Prop) (hxy:ys.length=xs.length) (h0:Pv 0 σ H) (hl:∀ i σ H,i≤xs.length→Pv i σ H→SqL K H a xs∧SqL K H b ys)
    (hs:∀ i x y T σ H,xs[i]? = some x→ys[i]? = some y→Pv i σ H→H T=none→g (.ref T) σ (upd H T (.tup [x,y])) fun σ2 H2=>tb { D with nx:=Pv (i+1),ct:=Pv (i+1),bk:=D.nx } σ2 H2) (hd:∀ σ H,Pv xs.length σ H→D.nx σ H) :
    ∃ W:Nat→Nat→St→Hp→Prop,(∃ m,W 0 m σ H)∧∀ i m σ H,W i m σ H→
      ((Itz K a b).stop i H∧D.nx σ H)∨((Itz K a b).go i H∧∃ N:St→Hp→Prop,(∀ σ' H',N σ' H'→∃ m',m' < m∧W (i+1) m' σ' H')∧∀ x H',(Itz K a b).yld i H x H'→g x σ H' fun σ2 H2=>tb { D with nx:=N,ct:=N,bk:=D.nx } σ2 H2):=by
  refine ⟨fun i m σ H=>m=xs.length - i∧i≤xs.length∧Pv i σ H,⟨xs.length,by simp,Nat.zero_le _,h0⟩,?_⟩
  rintro i m σ H ⟨rfl,hi,p⟩
  obtain ⟨q1,q2⟩:=hl i σ H hi p
  by_cases hlt:i < xs.length
  · refine .inr ⟨⟨xs,ys,xs[i],ys[i]'(by omega),q1,q2,by simp [hlt],by simp [show i < ys.length by omega]⟩,Pv (i+1),fun σ' H' p'=>⟨xs.length - (i+1),by omega,rfl,hlt,p'⟩,fun x H' y=>?_⟩
    obtain ⟨T,u,v,rfl,hT,rfl,y⟩:=y
    obtain ⟨y1,y2⟩:=y xs ys q1 q2
    exact hs i u v T σ _ y1 y2 p hT
  · have e:i=xs.length:=by omega
    subst e
    exact .inl ⟨⟨xs,ys,q1,q2,.inl (Nat.le_refl _)⟩,hd σ H p⟩
theorem for_enum {K:Frag} {a:Addr} {xs:List V} {g:TG} {tb:TS} {D:Ends} {σ:St} {H:Hp} (Pv:Nat→St→Hp→Prop) (h0:Pv 0 σ H) (hl:∀ i σ H,i≤xs.length→Pv i σ H→SqL K H a xs)
    (hs:∀ i x T σ H,xs[i]? = some x→Pv i σ H→H T=none→g (.ref T) σ (upd H T (.tup [.int (i:Nat),x])) fun σ2 H2=>tb { D with nx:=Pv (i+1),ct:=Pv (i+1),bk:=D.nx } σ2 H2) (hd:∀ σ H,Pv xs.length σ H→D.nx σ H) :
    ∃ W:Nat→Nat→St→Hp→Prop,(∃ m,W 0 m σ H)∧∀ i m σ H,W i m σ H→
      ((Ite K a).stop i H∧D.nx σ H)∨((Ite K a).go i H∧∃ N:St→Hp→Prop,(∀ σ' H',N σ' H'→∃ m',m' < m∧W (i+1) m' σ' H')∧∀ x H',(Ite K a).yld i H x H'→g x σ H' fun σ2 H2=>tb { D with nx:=N,ct:=N,bk:=D.nx } σ2 H2):=by
  refine ⟨fun i m σ H=>m=xs.length - i∧i≤xs.length∧Pv i σ H,⟨xs.length,by simp,Nat.zero_le _,h0⟩,?_⟩
  rintro i m σ H ⟨rfl,hi,p⟩
  have q:=hl i σ H hi p
  by_cases hlt:i < xs.length
  · refine .inr ⟨⟨xs,xs[i],q,by simp [hlt]⟩,Pv (i+1),fun σ' H' p'=>⟨xs.length - (i+1),by omega,rfl,hlt,p'⟩,fun x H' y=>?_⟩
    obtain ⟨T,v,rfl,hT,rfl,y⟩:=y
    exact hs i v T σ _ (y xs q) p hT
  · have e:i=xs.length:=by omega
    subst e
    exact .inl ⟨⟨xs,q,Nat.le_refl _⟩,hd σ H p⟩
def ItG (J:It) (H1:Hp) (n:Nat) (Y:Nat→V→Hp→Prop):Prop:=∀ H2,Same H1 H2→∀ i,(i < n→J.go i H2∧∀ x H3,J.yld i H2 x H3→Same H2 H3∧Y i x H3)∧(i=n→J.stop i H2)
theorem itG_of {J:It} {H1:Hp} {xs:List V} (h:ItOf J H1 xs):ItG J H1 xs.length (fun i x _=>xs[i]? = some x):=fun H2 s i=>
  ⟨fun hi=>⟨((h H2 s i).1 hi).1,fun x H3 y=>by obtain ⟨rfl,e⟩:=((h H2 s i).1 hi).2 x H3 y;exact ⟨fun _ _ q=>q,e⟩⟩,(h H2 s i).2⟩
theorem itG_zip {K:Frag} {H:Hp} {a b:Addr} {xs ys:List V} (h1:SqL K H a xs) (h2:SqL K H b ys) (hxy:ys.length=xs.length) :
    ItG (Itz K a b) H xs.length (fun i x H'=>∃ T u v,x = .ref T∧H' T=some (.tup [u,v])∧xs[i]? = some u∧ys[i]? = some v):=fun H2 s i=>
  ⟨fun hi=>⟨⟨xs,ys,xs[i],ys[i]'(by omega),s.seq h1,s.seq h2,by simp [hi],by simp [show i < ys.length by omega]⟩,fun x H3 y=>by
    obtain ⟨T,u,v,rfl,hT,rfl,y⟩:=y
    obtain ⟨y1,y2⟩:=y xs ys (s.seq h1) (s.seq h2)
    exact ⟨same_upd hT,T,u,v,rfl,upd_same,y1,y2⟩⟩,fun e=>⟨xs,ys,s.seq h1,s.seq h2,.inl (by omega)⟩⟩
theorem itG_enum {K:Frag} {H:Hp} {a:Addr} {xs:List V} (h1:SqL K H a xs) :
    ItG (Ite K a) H xs.length (fun i x H'=>∃ T v,x = .ref T∧H' T=some (.tup [.int (i:Nat),v])∧xs[i]? = some v):=fun H2 s i=>
  ⟨fun hi=>⟨⟨xs,xs[i],s.seq h1,by simp [hi]⟩,fun x H3 y=>by
    obtain ⟨T,v,rfl,hT,rfl,y⟩:=y
    exact ⟨same_upd hT,T,v,rfl,upd_same,y xs (s.seq h1)⟩⟩,fun e=>⟨xs,s.seq h1,by omega⟩⟩
theorem lc_fG {J:It} {H1:Hp} {n:Nat} {Y:Nat→V→Hp→Prop} {g:TG} {tc:TT} {te:TE} {σ0:L2.St} {Q:Addr→Hp→Prop} (f:Nat→Option V) (hJ:ItG J H1 n Y) (S:L2.St→Prop) (h0:S σ0) (hz:n≤sizeLine)
    (hs:∀ (i:Nat) (x:V) (σ2:L2.St) (H2:Hp) (Qt:L2.St→V→Hp→Prop) (Qf:L2.St→Hp→Prop),i < n→Y i x H2→Same H1 H2→S σ2→(∀ w σ4 H6,f i=some w→S σ4→Same H2 H6→Qt σ4 w H6)→(∀ σ4 H5,f i=none→S σ4→Same H2 H5→Qf σ4 H5)→
      g x σ2 H2 fun σ4 H4=>tc σ4 H4 fun b H5=>if b=true then te σ4 H5 fun v H6=>Qt σ4 v H6 else Qf σ4 H5)
    (hQ:∀ D H2,H1 D=none→Same H1 H2→H2 D=some (.lst ((List.range n).filterMap f))→Q D H2) :
    ∀ D,H1 D=none→∃ W:Nat→Nat→L2.St→Hp→Prop,(∃ m,W 0 m σ0 (upd H1 D (.lst [])))∧∀ i m σ2 H2,W i m σ2 H2→
      (J.stop i H2∧Q D H2)∨(J.go i H2∧∀ x H3,J.yld i H2 x H3→g x σ2 H3 fun σ4 H4=>tc σ4 H4 fun b H5=>
        if b=true then te σ4 H5 fun v H6=>∃ ys m',H6 D=some (.lst ys)∧ys.length < sizeLine∧m' < m∧W (i+1) m' σ4 (upd H6 D (.lst (ys ++ [v]))) else ∃ m',m' < m∧W (i+1) m' σ4 H5):=by
  intro D hD
  have fm:∀ i,(List.range (i+1)).filterMap f=(List.range i).filterMap f ++ (f i).toList:=fun i=>by
    rw [List.range_succ,List.filterMap_append];cases h:f i <;> simp [h]
  have fl:∀ i,((List.range i).filterMap f).length≤i:=fun i=>by
    have:=List.length_filterMap_le f (List.range i);rw [List.length_range] at this;exact this
  refine ⟨fun i m σ2 H2=>i≤n∧m=n - i∧S σ2∧Same H1 H2∧H2 D=some (.lst ((List.range i).filterMap f)),⟨n,Nat.zero_le _,by omega,h0,same_upd hD,upd_same⟩,?_⟩
  rintro i m σ2 H2 ⟨hi,rfl,hS,sm,hys⟩
  obtain ⟨j1,j2⟩:=hJ _ sm i
  by_cases hlt:i < n
  · obtain ⟨go,yl⟩:=j1 hlt
    refine .inr ⟨go,fun x H3 y=>?_⟩
    obtain ⟨s3,hY⟩:=yl x H3 y
    refine hs i x σ2 _ _ _ hlt hY (sm.trans s3) hS (fun w σ4 H6 e h4 s6=>?_) fun σ4 H5 e h4 s5=>?_
    · have h6:=s6 _ _ (s3 _ _ hys)
      have l6:=fl i
      refine ⟨_,n - (i+1),h6,by omega,by omega,hlt,rfl,h4,fun b o e=>?_,?_⟩
      · rw [upd_ne (ne_of_none e hD)];exact s6 _ _ (s3 _ _ (sm _ _ e))
      · rw [upd_same,fm,e];rfl
    · refine ⟨n - (i+1),by omega,hlt,rfl,h4,(sm.trans s3).trans s5,?_⟩
      rw [fm,e,Option.toList_none,List.append_nil];exact s5 _ _ (s3 _ _ hys)
  · have e:i=n:=by omega
    refine .inl ⟨j2 e,hQ D H2 hD sm ?_⟩
    rw [← e];exact hys
theorem range_fm {f:Nat→Option V} {ws:List V} (h:∀ i,i < ws.length→f i=ws[i]?):(List.range ws.length).filterMap f=ws:=by
  have:∀ n,n≤ws.length→(List.range n).filterMap f=ws.take n:=fun n=>by
    induction n with
    | zero=>intro _;simp
    | succ n ih=>
      intro hn
      obtain ⟨w,hw⟩:=get_some (xs:=ws) (i:=n) hn
      rw [List.range_succ,List.filterMap_append,ih (by omega),take_snoc hw]
      simp [h n hn,hw]
  rw [this _ (Nat.le_refl _),List.take_length]
theorem lc_growD {J:It} {H1:Hp} {n:Nat} {Y:Nat→V→Hp→Prop} {g:TG} {tc:TT} {te:TE} {σ0:L2.St} {Q:Addr→Hp→Prop} (hJ:ItG J H1 n Y) (S:L2.St→Prop) (P:Addr→Nat→List V→Hp→Prop) (h0:S σ0) (hz:n≤sizeLine) (hP0:∀ D H2,P D 0 [] H2)
    (hPS:∀ D i ys H2 H3,P D i ys H2→Same H2 H3→P D i ys H3) (hPD:∀ D i ys zs H2 o,H2 D=some (.lst zs)→P D i ys H2→P D i ys (upd H2 D o))
    (hs:∀ (D:Addr) (i:Nat) (x:V) (ys:List V) (σ2:L2.St) (H2:Hp) (Qt:L2.St→V→Hp→Prop) (Qf:L2.St→Hp→Prop),i < n→ys.length=i→Y i x H2→H2 D=some (.lst ys)→Same H1 H2→S σ2→P D i ys H2→(∀ σ4 v H6,S σ4→Same H2 H6→P D (i+1) (ys ++ [v]) H6→Qt σ4 v H6)→
      g x σ2 H2 fun σ4 H4=>tc σ4 H4 fun b H5=>if b=true then te σ4 H5 fun v H6=>Qt σ4 v H6 else Qf σ4 H5)
    (hQ:∀ D H2 ys,H1 D=none→Same H1 H2→H2 D=some (.lst ys)→ys.length=n→P D n ys H2→Q D H2) :
    ∀ D,H1 D=none→∃ W:Nat→Nat→L2.St→Hp→Prop,(∃ m,W 0 m σ0 (upd H1 D (.lst [])))∧∀ i m σ2 H2,W i m σ2 H2→
      (J.stop i H2∧Q D H2)∨(J.go i H2∧∀ x H3,J.yld i H2 x H3→g x σ2 H3 fun σ4 H4=>tc σ4 H4 fun b H5=>
        if b=true then te σ4 H5 fun v H6=>∃ ys m',H6 D=some (.lst ys)∧ys.length < sizeLine∧m' < m∧W (i+1) m' σ4 (upd H6 D (.lst (ys ++ [v]))) else ∃ m',m' < m∧W (i+1) m' σ4 H5):=by
  intro D hD
  refine ⟨fun i m σ2 H2=>i≤n∧m=n - i∧S σ2∧Same H1 H2∧∃ ys,H2 D=some (.lst ys)∧ys.length=i∧P D i ys H2,⟨n,Nat.zero_le _,by omega,h0,same_upd hD,[],upd_same,rfl,hP0 _ _⟩,?_⟩
  rintro i m σ2 H2 ⟨hi,rfl,hS,sm,ys,hys,hyl,hP⟩
  obtain ⟨j1,j2⟩:=hJ _ sm i
  by_cases hlt:i < n
  · obtain ⟨go,yl⟩:=j1 hlt
    refine .inr ⟨go,fun x H3 y=>?_⟩
    obtain ⟨s3,hY⟩:=yl x H3 y
    refine hs D i x ys σ2 _ _ _ hlt hyl hY (s3 _ _ hys) (sm.trans s3) hS (hPS _ _ _ _ _ hP s3) fun σ4 v H6 h4 s6 p6=>?_
    have h6:=s6 _ _ (s3 _ _ hys)
    refine ⟨ys,n - (i+1),h6,by omega,by omega,hlt,rfl,h4,fun b o e=>?_,ys ++ [v],upd_same,by rw [List.length_append,hyl];rfl,hPD _ _ _ _ _ _ h6 p6⟩
    rw [upd_ne (ne_of_none e hD)]
    exact s6 _ _ (s3 _ _ (sm _ _ e))
  · have e:i=n:=by omega
    exact .inl ⟨j2 e,hQ D H2 ys hD sm hys (hyl.trans e) (e ▸ hP)⟩
theorem itG_range {H:Hp} {lo:Int} {n:Nat}:ItG (Itr lo n) H n (fun i x _=>x = .int (lo+(i:Nat))):=fun H2 s i=>
  ⟨fun hi=>⟨hi,fun x H3 y=>by obtain ⟨rfl,e⟩:=y;exact ⟨fun _ _ q=>q,e⟩⟩,fun e=>by show n≤i;omega⟩
end L2
namespace L2
theorem byC {p:Prop} (h:¬ ¬ p):p:=Classical.byContradiction h
open PySem PySem.Spec PyProof.Rows
inductive tVarI (i:Nat) (σ:St) (H:Hp) (Q:VK):Prop
  | mk (v:V) (h:σ[i]? = some (some v)) (q:Q v H):tVarI i σ H Q
inductive rI0I (g:Int→Int→V) (x y:V) (H:Hp) (Q:VK):Prop
  | mk (i j:Int) (hx:x = .int i) (hy:y = .int j) (q:Q (g i j) H):rI0I g x y H Q
inductive rII (C:Int→Int→Prop) (g:Int→Int→V) (x y:V) (H:Hp) (Q:VK):Prop
  | mk (i j:Int) (hx:x = .int i) (hy:y = .int j) (c:C i j) (q:Q (g i j) H):rII C g x y H Q
inductive rIxLI (K:Frag) (x y:V) (H:Hp) (Q:VK):Prop
  | mk (p:Addr) (xs:List V) (i:Int) (v:V) (hx:x = .ref p) (hy:y = .int i) (hs:SqL K H p xs) (ha:atI xs i=some v) (q:Q v H):rIxLI K x y H Q
inductive rIxTI (K:Frag) (x y:V) (H:Hp) (Q:VK):Prop
  | mk (p:Addr) (xs:List V) (i:Int) (v:V) (hx:x = .ref p) (hy:y = .int i) (hs:SqT K H p xs) (ha:atI xs i=some v) (q:Q v H):rIxTI K x y H Q
section
variable {X:Cx}
theorem PE.imp {e:Expr} {t t':TE} (h:PE X e t) (i:∀ σ H Q,t' σ H Q→t σ H Q):PE X e t':=fun pins s σ H Q I q=>h pins s σ H Q I (i σ H Q q)
theorem OpR.imp {f:Value→Value→Sem Value} {r r':R2} (h:OpR X f r) (i:∀ x y H Q,r' x y H Q→r x y H Q):OpR X f r':=fun pins s σ H x y v u Q I rx ry q=>h pins s σ H x y v u Q I rx ry (i x y H Q q)
theorem pvI (i:Nat) {x:Str} {pos:Pos} (hN:X.N[i]? = some x:=by rfl) (hv:Vis X.env.scope x:=by first | exact Or.inl rfl | exact Or.inr (Or.inl rfl) | exact Or.inr (Or.inr rfl)) (hd:(x == ("__debug__" : Str))=false:=by decide)
    (hcd:(x == ("__classdict__" : Str))=false:=by decide):PE X (.Name x pos) (tVarI i):=(pe_var hN hv hd hcd).imp fun _ _ _ ⟨v,h,q⟩=>⟨v,h,q⟩
theorem o0 {f:Value→Value→Sem Value} {g:Int→Int→V} (h:OpR X f (rI0 g)):OpR X f (rI0I g):=h.imp fun _ _ _ _ ⟨i,j,a,b,q⟩=>⟨i,j,a,b,q⟩
theorem o1 {f:Value→Value→Sem Value} {C:Int→Int→Prop} {g:Int→Int→V} (h:OpR X f (rI C g)):OpR X f (rII C g):=h.imp fun _ _ _ _ ⟨i,j,a,b,c,q⟩=>⟨i,j,a,b,c,q⟩
theorem op_addI:OpR X (binaryOp .Add) (rI0I fun i j=>.int (i+j)):=o0 op_add
theorem op_subI:OpR X (binaryOp .Sub) (rI0I fun i j=>.int (i - j)):=o0 op_sub
theorem op_mulI:OpR X (binaryOp .Mult) (rII CMul fun i j=>.int (i * j)):=o1 op_mul
theorem op_fdivI:OpR X (binaryOp .FloorDiv) (rII CDiv fun i j=>.int (i / j)):=o1 op_fdiv
theorem op_modI:OpR X (binaryOp .Mod) (rII (fun _ j=>0 < j) fun i j=>.int (i % j)):=o1 op_mod
theorem op_ltI:OpR X (compareOp .Lt) (rI0I fun i j=>.bl (decide (i < j))):=o0 op_lt
theorem op_leI:OpR X (compareOp .LtE) (rI0I fun i j=>.bl (decide (i≤j))):=o0 op_le
theorem op_gtI:OpR X (compareOp .Gt) (rI0I fun i j=>.bl (decide (j < i))):=o0 op_gt
theorem IxR.imp {r r':R2} (h:IxR X r) (i:∀ x y H Q,r' x y H Q→r x y H Q):IxR X r':=fun value slice pins s σ H x y v u Q I rx ry q e=>h value slice pins s σ H x y v u Q I rx ry (i x y H Q q) e
theorem ix_listI (K:Frag) (h:X.K=K):IxR X (rIxLI K):=by subst h;exact ix_list.imp fun _ _ _ _ ⟨p,xs,i,v,a,b,c,d,q⟩=>⟨p,xs,i,v,a,b,c,d,q⟩
theorem ix_tupI (K:Frag) (h:X.K=K):IxR X (rIxTI K):=by subst h;exact ix_tup.imp fun _ _ _ _ ⟨p,xs,i,v,a,b,c,d,q⟩=>⟨p,xs,i,v,a,b,c,d,q⟩
end
end L2
namespace L2
open PySem PySem.Spec PyProof.Rows PyProof
section
variable {X:Cx}
end
end L2
namespace Mt
def stp (ls b:List Int) (best place:Nat):Nat:=
  if (b.getD place 0+1) * ls.getD best 0 < (b.getD best 0+1) * ls.getD place 0 then place else best
def pickTo (ls b:List Int) (n:Nat):Nat:=(List.range n).foldl (stp ls b) 0
def pick (ls b:List Int):Nat:=pickTo ls b ls.length
def give (ls b:List Int):List Int:=b.set (pick ls b) (b.getD (pick ls b) 0+1)
def deal (ls:List Int):Nat→List Int
  | 0=>List.replicate ls.length 0
  | k+1=>give ls (deal ls k)
theorem pickTo_succ (ls b:List Int) (n:Nat):pickTo ls b (n+1)=stp ls b (pickTo ls b n) n:=by
  unfold pickTo;rw [List.range_succ,List.foldl_append];rfl
theorem pickTo_zero (ls b:List Int):pickTo ls b 0=0:=rfl
theorem pickTo_one (ls b:List Int):pickTo ls b 1=0:=by
  rw [pickTo_succ,pickTo_zero];unfold stp;split <;> rfl
theorem pickTo_lt (ls b:List Int):∀ n,0 < n→pickTo ls b n < n
  | 0,h=>absurd h (Nat.lt_irrefl _)
  | 1,_=>by rw [pickTo_one];exact Nat.one_pos
  | n+2,_=>by
    have ih:=pickTo_lt ls b (n+1) (Nat.succ_pos _)
    rw [pickTo_succ];unfold stp;split <;> omega
theorem pick_lt {ls b:List Int} (h:0 < ls.length):pick ls b < ls.length:=pickTo_lt ls b _ h
theorem give_length (ls b:List Int):(give ls b).length=b.length:=by unfold give;rw [List.length_set]
theorem deal_length (ls:List Int):∀ k,(deal ls k).length=ls.length
  | 0=>List.length_replicate
  | k+1=>by rw [deal,give_length,deal_length ls k]
theorem sum_replicate0 (n:Nat):(List.replicate n (0:Int)).sum=0:=by
  induction n with
  | zero=>rfl
  | succ n ih=>rw [List.replicate_succ,List.sum_cons,ih];rfl
end Mt
namespace Rc
open PySem PySem.Spec PyProof.Rows L2
def InD (ds:List Int):Prop:=∀ d∈ds,0≤d∧d < 997
theorem InD.snoc {ds:List Int} {d:Int} (h:InD ds) (h0:0≤d) (h1:d < 997):InD (ds ++ [d]):=fun x hx=>by
  rcases List.mem_append.mp hx with hx | hx
  · exact h x hx
  · rw [List.mem_singleton.mp hx];exact ⟨h0,h1⟩
theorem map_snoc (ds:List Int) (d:Int):ds.map V.int ++ [V.int d]=(ds ++ [d]).map V.int:=by rw [List.map_append];rfl
theorem small_line {n:Nat} (h:n≤100000):n < sizeLine:=Nat.lt_of_le_of_lt h (by decide)
structure DrawSt (H0 H:Hp) (a r sl:Addr) (n:Nat) (ys:List V) (least most:Nat) (σ:L2.St):Prop where
  ex:∃ (row:List Int) (seed:Int) (c rest k:Option V),σ=[some (.ref a),some (.int n),some (.ref r),some (.int seed),c,rest,k]∧0≤seed∧seed < 2147483629∧H r=some (.lst (row.map V.int))∧least≤row.length∧row.length≤most∧InD row
  same:Same H0 H
  slc:H sl=some (.lst ys)
def lineB (l:Int×Int):Bool:=decide (0≤l.1∧l.1≤5∧1≤l.2∧l.2≤20)
def isLinesB (L:List (Int×Int)):Bool:=decide (1≤L.length∧L.length≤4) && (decide (L.map (·.1)).Nodup && L.all lineB)
structure GoodL (L:List (Int×Int)):Prop where
  l1:1≤L.length
  l4:L.length≤4
  nd:(L.map (·.1)).Nodup
  all:∀ l∈L,0≤l.1∧l.1≤5∧1≤l.2∧l.2≤20
theorem GoodL.isB {L:List (Int×Int)} (g:GoodL L):isLinesB L=true:=by
  unfold isLinesB
  rw [decide_eq_true ⟨g.l1,g.l4⟩,decide_eq_true g.nd,Bool.true_and,Bool.true_and,List.all_eq_true]
  exact fun l hl=>decide_eq_true (g.all l hl)
theorem getD_of {b:List Int} {i:Nat} {v:Int} (h:b[i]? = some v):b.getD i 0=v:=by simp [List.getD,h]
theorem ix_of {b:List Int} {i:Nat} (h:i < b.length):atI (b.map V.int) (i:Int)=some (V.int (b.getD i 0)):=by
  obtain ⟨v,hv⟩:=get_some h
  rw [getD_of hv]
  exact atI_nat (by rw [List.getElem?_map,hv];rfl)
theorem _root_.L2.PairsAt.ix {K:Frag} {H:Hp} {us:List V} {L:List (Int×Int)} {i:Nat} (h:PairsAt K H us L) (hi:i < L.length) :
    ∃ q a,atI us (i:Int)=some (.ref q)∧SqT K H q [.int a,.int ((L.map (·.2)).getD i 0)]∧L[i]? = some (a,(L.map (·.2)).getD i 0):=by
  obtain ⟨l,hl⟩:=get_some (xs:=L) hi
  obtain ⟨v,e1,q,rfl,e2⟩:=h.at_ i l hl
  have e:(L.map (·.2)).getD i 0=l.2:=getD_of (by rw [List.getElem?_map,hl];rfl)
  rw [e]
  exact ⟨q,l.1,atI_nat e1,e2,hl⟩
def SmallL (L:List (Int×Int)):Prop:=∀ l∈L,-100000 < l.2∧l.2 < 100000
theorem SmallL.get {L:List (Int×Int)} (h:SmallL L) (i:Nat) : -(2 ^ 64) < (L.map (·.2)).getD i 0∧(L.map (·.2)).getD i 0 < 2 ^ 64:=by
  cases e:L[i]? with
  | none=>simp [List.getD,e]
  | some l=>
    have e2:(L.map (·.2)).getD i 0=l.2:=getD_of (by rw [List.getElem?_map,e];rfl)
    rw [e2]
    have:=h l (List.mem_of_getElem? e)
    omega
theorem GoodL.small {L:List (Int×Int)} (g:GoodL L):SmallL L:=fun l hl=>by have:=g.all l hl;omega
def bearerOf (L:List (Int×Int)) (n:Nat):Int:=(L.map (·.1)).getD (Mt.pick (L.map (·.2)) (Mt.deal (L.map (·.2)) n)) 0
theorem fst_of {L:List (Int×Int)} {i:Nat} {a b:Int} (h:L[i]? = some (a,b)):(L.map (·.1)).getD i 0=a:=getD_of (by rw [List.getElem?_map,h];rfl)
theorem not_mem_erase:∀ {l:List Int} {k:Nat} {x:Int},l.Nodup→l[k]? = some x→x∉l.eraseIdx k
  | [],_,_,_,h=>by simp at h
  | y :: r,0,x,hn,h=>by
    simp at h;subst h
    rw [List.eraseIdx_cons_zero]
    exact (List.nodup_cons.mp hn).1
  | y :: r,k+1,x,hn,h=>by
    rw [List.eraseIdx_cons_succ,List.mem_cons]
    have hn':=List.nodup_cons.mp hn
    have hx:r[k]? = some x:=by simpa using h
    rintro (e | e)
    · subst e;exact hn'.1 (List.mem_of_getElem? hx)
    · exact not_mem_erase hn'.2 hx e
theorem map_erase (l:List Int) (k:Nat):(l.map V.int).eraseIdx k=(l.eraseIdx k).map V.int:=by
  induction l generalizing k with
  | nil=>simp
  | cons a r ih=>cases k with
    | zero=>simp
    | succ k=>simp [ih]
def othersOf (n o:Nat):List Int:=((List.range n).map fun i=>(0:Int)+(i:Nat)).filter fun i=>!decide (i=(o:Int))
def othersB (n o:Nat):Bool:=decide (othersOf n o).Nodup && (othersOf n o).all (fun x=>decide (0≤x∧x < (n:Int)∧x≠(o:Int))) && decide ((othersOf n o).length=n - 1)
theorem othersB_all:(List.range 7).all (fun n=>(List.range n).all fun o=>othersB n o)=true:=by decide +kernel
theorem othersOf_facts (n:Nat) (hn:n < 7) (o:Nat) (ho:o < n):(othersOf n o).Nodup∧(∀ x∈othersOf n o,0≤x∧x < (n:Int)∧x≠(o:Int))∧(othersOf n o).length=n - 1:=by
  have h:=List.all_eq_true.mp (List.all_eq_true.mp othersB_all n (List.mem_range.mpr hn)) o (List.mem_range.mpr ho)
  unfold othersB at h
  rw [Bool.and_eq_true,Bool.and_eq_true] at h
  exact ⟨of_decide_eq_true h.1.1,fun x hx=>of_decide_eq_true (List.all_eq_true.mp h.1.2 x hx),of_decide_eq_true h.2⟩
theorem PairAt.updL {K:Frag} {H:Hp} {x:Addr} {xs:List V} {o:HO} {v:V} {l:Int×Int} (h:PairAt K H v l) (hx:H x=some (.lst xs)):PairAt K (upd H x o) v l:=by
  obtain ⟨q,rfl,(h | ⟨ob,h⟩) | h⟩:=h
  · exact ⟨q,rfl,.inl (.inl (by rw [upd_ne (ne_of h hx (by intro z;cases z))];exact h))⟩
  · exact ⟨q,rfl,.inl (.inr ⟨ob,by rw [upd_ne (ne_of h hx (by intro z;cases z))];exact h⟩)⟩
  · exact ⟨q,rfl,.inr h⟩
theorem PairsAt.updL {K:Frag} {H:Hp} {x:Addr} {xs:List V} {o:HO} {vs:List V} {L:List (Int×Int)} (h:PairsAt K H vs L) (hx:H x=some (.lst xs)):PairsAt K (upd H x o) vs L:=
  ⟨h.len,fun i l e=>let ⟨v,e1,e2⟩:=h.at_ i l e;⟨v,e1,PairAt.updL e2 hx⟩⟩
structure LineSt (K:Frag) (H0 H:Hp) (h o:Nat) (d oth r:Addr) (many:Nat) (i:Nat) (all:Nat) (σ:L2.St):Prop where
  ex:∃ (os:List Int) (L:List (Int×Int)) (us:List V) (k s l:Option V),σ=[some (.int h),some (.int o),some (.ref d),k,some (.ref oth),some (.int many),some (.ref r),s,l]∧
    H oth=some (.lst (os.map V.int))∧H r=some (.lst us)∧PairsAt K H us L∧L.length=i∧os.length+i=all∧os.Nodup∧(L.map (·.1)).Nodup∧(∀ l∈L,l.1∉os)∧
    (∀ x∈os,0≤x∧x < (h:Int)∧x≠(o:Int))∧(∀ l∈L,(0≤l.1∧l.1 < (h:Int)∧l.1≠(o:Int))∧1≤l.2∧l.2≤20)
  same:Same H0 H
theorem flat_rep (n:Nat):(List.replicate n [V.int 0]).flatten=(List.replicate n (0:Int)).map V.int:=by
  induction n with
  | zero=>rfl
  | succ n ih=>rw [List.replicate_succ,List.flatten_cons,ih,List.replicate_succ];rfl
theorem ixN_nat {n j:Nat} (h:j < n):ixN n (j:Int)=some j:=by
  unfold ixN
  rw [if_pos (Int.natCast_nonneg _),if_pos (by omega)]
  rfl
def RowsAt (H:Hp) (ls:List Int) (qs:List Addr) (n:Nat):Prop:=∀ k,k≤n→∃ q,qs[k]? = some q∧H q=some (.lst ((Mt.deal ls k).map V.int))
structure SplitSt (H0 H:Hp) (p b rw:Addr) (n:Nat) (ls:List Int) (i:Nat) (σ:L2.St):Prop where
  ex:∃ (qs:List Addr) (c be at_ he:Option V),σ=[some (.ref p),some (.int n),some (.ref b),some (.ref rw),c,be,at_,he]∧H rw=some (.lst (qs.map V.ref))∧qs.length=i+1∧RowsAt H ls qs i∧(∀ q∈qs,q≠b∧q≠rw)
  bo:H b=some (.lst ((Mt.deal ls i).map V.int))
  same:Same H0 H
theorem cut_ints (ds:List Int) (i j:Nat) (hj:j≤ds.length) (hij:i≤j):cutV (ds.map V.int) (some (i:Int)) (some (j:Int))=((ds.drop i).take (j - i)).map V.int:=by
  unfold cutV
  rw [HT.sIx_nat,HT.sIx_nat,List.length_map,Nat.min_eq_left hj,Nat.min_eq_left (Nat.le_trans hij hj),List.map_take,List.map_drop]
theorem cut_len (ds:List Int) (i j:Nat) (hj:j≤ds.length):((ds.drop i).take (j - i)).length=j - i:=by
  rw [List.length_take,List.length_drop];omega
theorem cut_in {ds:List Int} (h:InD ds) (i n:Nat):InD ((ds.drop i).take n):=fun d hd=>h d (List.mem_of_mem_drop (List.mem_of_mem_take hd))
theorem draw_at {ds:List Int} (h:InD ds) {i:Nat} (hi:i < ds.length):∃ d:Nat,d < 997∧atI (ds.map V.int) (i:Int)=some (V.int (d:Int)):=by
  obtain ⟨v,hv⟩:=get_some hi
  have:=h v (List.mem_of_getElem? hv)
  refine ⟨v.toNat,by omega,?_⟩
  have e:((v.toNat:Nat):Int)=v:=by omega
  rw [e]
  exact atI_nat (by rw [List.getElem?_map,hv];rfl)
theorem nodup_getD {l:List Int} (h:l.Nodup) {i j:Nat} (hi:i < l.length) (hj:j < l.length) (e:l.getD i 0=l.getD j 0):i=j:=by
  rw [getD_of (List.getElem?_eq_getElem hi),getD_of (List.getElem?_eq_getElem hj)] at e
  exact (List.getElem_inj h).mp e
def measB (kind:Str) (by_ most:Int):Bool:=(if kind=("share" : Str) then decide (1≤by_∧by_≤100) else if kind=("layer" : Str) then decide (0≤by_∧by_≤200) else false) && decide (0≤most∧most≤24)
theorem share_ne:¬ ("share" : Str) = "layer" := by decide +kernel
def wishZ (kind:Str) (b r:Int):Int:=if kind=("share" : Str) then r * b / 100 else if r - b > 0 then r - b else 0
theorem dec_strV {x y:Str}:decide (V.str x=V.str y)=decide (x=y):=by
  by_cases h:x=y
  · rw [h,decide_eq_true rfl,decide_eq_true rfl]
  · rw [decide_eq_false h,decide_eq_false (fun z=>h (V.str.inj z))]
def takeZ (kind:Str) (b m r:Int):Int:=if wishZ kind b r < m then wishZ kind b r else m
theorem ix3 {x y z:V} {i:Nat} (h:i < 3):atI [x,y,z] (i:Int)=some (if i=0 then x else if i=1 then y else z):=by
  match i,h with
  | 0,_=>rfl
  | 1,_=>rfl
  | 2,_=>rfl
theorem ix2 {x y:V} {i:Nat} (h:i < 2):atI [x,y] (i:Int)=some (if i=0 then x else y):=by
  match i,h with
  | 0,_=>rfl
  | 1,_=>rfl
end Rc
namespace Rc
open PySem PySem.Spec PyProof.Rows L2
abbrev Row:=Int×Str×Int×Int×List (Int×Int)
def RowAt (K:Frag) (H:Hp) (p:Addr):Option Row→Prop
  | none=>∃ xs,SqT K H p xs∧xs.length≠5∧xs.length≤100
  | some (ho,k,b,m,L)=>∃ lp,SqT K H p [.int ho,.str k,.int b,.int m,.ref lp]∧LinesAt K H lp L∧L.length≤100
theorem RowAt.same {K:Frag} {H H':Hp} {p:Addr} (s:Same H H'):∀ {r:Option Row},RowAt K H p r→RowAt K H' p r
  | none,⟨xs,h,h1⟩=>⟨xs,s.tupS h,h1⟩
  | some (_,_,_,_,_),⟨lp,h,h1,h2⟩=>⟨lp,s.tupS h,h1.same s,h2⟩
def othersBL (h ho:Int) (L:List (Int×Int)):Bool:=L.all fun l=>decide (l.1 < h) && !decide (l.1=ho)
def isCoverB (h:Int):Option Row→Bool
  | none=>false
  | some (ho,k,b,m,L)=>decide (0≤ho∧ho < h) && (measB k b m && (isLinesB L && othersBL h ho L))
theorem isCoverB_some {h ho:Int} {k:Str} {b m:Int} {L:List (Int×Int)}:isCoverB h (some (ho,k,b,m,L))=(decide (0≤ho∧ho < h) && (measB k b m && (isLinesB L && othersBL h ho L))):=rfl
theorem isCoverB_iff {h ho:Int} {k:Str} {b m:Int} {L:List (Int×Int)} (h6:h≤6):isCoverB h (some (ho,k,b,m,L))=true ↔
    (0≤ho∧ho < h)∧measB k b m=true∧(1≤L.length∧L.length≤4)∧(L.map (·.1)).Nodup∧∀ l∈L,(0≤l.1∧l.1 < h∧l.1≠ho)∧1≤l.2∧l.2≤20:=by
  unfold isCoverB isLinesB othersBL
  simp only [Bool.and_eq_true,decide_eq_true_eq,List.all_eq_true,lineB,Bool.not_eq_true',decide_eq_false_iff_not]
  constructor
  · rintro ⟨a1,a2,⟨a3,a4,a5⟩,a6⟩
    exact ⟨a1,a2,a3,a4,fun l hl=>⟨⟨(a5 l hl).1,(a6 l hl).1,(a6 l hl).2⟩,(a5 l hl).2.2.1,(a5 l hl).2.2.2⟩⟩
  · rintro ⟨a1,a2,a3,a4,a5⟩
    refine ⟨a1,a2,⟨a3,a4,fun l hl=>?_⟩,fun l hl=>⟨(a5 l hl).1.2.1,(a5 l hl).1.2.2⟩⟩
    have:=a5 l hl
    omega
theorem dec_intV {x y:Int}:decide (V.int x=V.int y)=decide (x=y):=by
  by_cases h:x=y
  · rw [h,decide_eq_true rfl,decide_eq_true rfl]
  · rw [decide_eq_false h,decide_eq_false (fun z=>h (V.int.inj z))]
end Rc
namespace Rc
open PySem PySem.Spec PyProof.Rows L2
theorem measB_cases {k:Str} {b m:Int} (h:measB k b m=true):((k = "share" ∧ 1≤b∧b≤100)∨(k = "layer" ∧ 0≤b∧b≤200))∧0≤m∧m≤24:=by
  unfold measB at h
  rw [Bool.and_eq_true] at h
  refine ⟨?_,of_decide_eq_true h.2⟩
  by_cases e1:k=("share" : Str)
  · rw [if_pos e1] at h;exact .inl ⟨e1,of_decide_eq_true h.1⟩
  · rw [if_neg e1] at h
    by_cases e2:k=("layer" : Str)
    · rw [if_pos e2] at h;exact .inr ⟨e2,of_decide_eq_true h.1⟩
    · rw [if_neg e2] at h;cases h.1
theorem flat_ints (ns:List Int):(ns.map V.int).all flatV=true:=by
  rw [List.all_eq_true]
  intro x hx
  obtain ⟨i,_,rfl⟩:=List.mem_map.mp hx
  rfl
theorem inV_ints {x:Int} {ns:List Int}:(if false=true then !inV (V.int x) (ns.map V.int) else inV (V.int x) (ns.map V.int))=decide (x∈ns):=by
  show inV (V.int x) (ns.map V.int)=decide (x∈ns)
  unfold inV
  rw [List.any_map,Bool.eq_iff_iff,List.any_eq_true,decide_eq_true_iff]
  constructor
  · rintro ⟨y,hy,e⟩
    have:y=x:=eq_of_beq e
    rw [← this];exact hy
  · intro h
    exact ⟨x,h,beq_self_eq_true x⟩
end Rc
namespace Rc
open PySem PySem.Spec PyProof.Rows L2
def bearersL (L:List (Int×Int)) (n:Nat):List Int:=(List.range n).map (bearerOf L)
theorem bearersL_succ (L:List (Int×Int)) (n:Nat):bearersL L (n+1)=bearersL L n ++ [bearerOf L n]:=by
  unfold bearersL;rw [List.range_succ,List.map_append];rfl
theorem bearersL_len (L:List (Int×Int)) (n:Nat):(bearersL L n).length=n:=by unfold bearersL;rw [List.length_map,List.length_range]
theorem count_deal {L:List (Int×Int)} (h1:1≤L.length) (nd:(L.map (·.1)).Nodup):∀ (n i:Nat),i < L.length→(((bearersL L n).count ((L.map (·.1)).getD i 0):Nat):Int)=(Mt.deal (L.map (·.2)) n).getD i 0
  | 0,i,hi=>by simp [bearersL,Mt.deal,List.getD,hi]
  | n+1,i,hi=>by
    have ih:=count_deal h1 nd n i hi
    have hpk:Mt.pick (L.map (·.2)) (Mt.deal (L.map (·.2)) n) < L.length:=by
      have:=Mt.pick_lt (ls:=L.map (·.2)) (b:=Mt.deal (L.map (·.2)) n) (by rw [List.length_map];exact h1)
      rw [List.length_map] at this;exact this
    have hdl:(Mt.deal (L.map (·.2)) n).length=L.length:=by rw [Mt.deal_length,List.length_map]
    rw [bearersL_succ,List.count_append,Mt.deal,Mt.give]
    unfold bearerOf
    generalize Mt.pick (L.map (·.2)) (Mt.deal (L.map (·.2)) n)=k at *
    by_cases e:k=i
    · subst e
      rw [List.count_singleton_self,getD_of (List.getElem?_set_self (by omega))]
      push_cast;omega
    · have hne:¬ (L.map (·.1)).getD k 0=(L.map (·.1)).getD i 0:=fun z=>e (nodup_getD nd (by rw [List.length_map];exact hpk) (by rw [List.length_map];exact hi) z)
      rw [List.count_singleton,if_neg (by simpa using hne)]
      have e2:∀ v:Int,((Mt.deal (L.map (·.2)) n).set k v).getD i 0=(Mt.deal (L.map (·.2)) n).getD i 0:=fun v=>by
        simp only [List.getD_eq_getElem?_getD,List.getElem?_set_ne e]
      rw [e2,Nat.add_zero];exact ih
theorem len1 {p:List Value→Prop}:∀ {us:List Value},us.length=1→(∀ a0,p [a0])→p us
  | [a0],_,h=>h a0
theorem len2 {p:List Value→Prop}:∀ {us:List Value},us.length=2→(∀ a0 a1,p [a0,a1])→p us
  | [a0,a1],_,h=>h a0 a1
theorem len3 {p:List Value→Prop}:∀ {us:List Value},us.length=3→(∀ a0 a1 a2,p [a0,a1,a2])→p us
  | [a0,a1,a2],_,h=>h a0 a1 a2
theorem len4 {p:List Value→Prop}:∀ {us:List Value},us.length=4→(∀ a0 a1 a2 a3,p [a0,a1,a2,a3])→p us
  | [a0,a1,a2,a3],_,h=>h a0 a1 a2 a3
end Rc
namespace Rc
open PySem PySem.Spec PyProof.Rows L2
structure FL (K:Frag) (x q:Str) (st:Stmt) (f:Addr):Prop where
  ex:∃ (od an:Option Addr) (sl:Array (Option Value)) (oc kV dc pm cd ct:Value),K.lookup f=some ⟨oc,od,.func (fnOf x q (defArgs st) (defBody st) (defScope st) .none kV dc pm an cd ct),sl⟩∧PySem.W.codeIn K cd q=true∧keepIn K (.ref f)=true
theorem fl_mk {K:Frag} {x q:Str} {st:Stmt} {f:Addr} {od an:Option Addr} {sl:Array (Option Value)} {oc kV dc pm cd ct:Value} (l:K.lookup f=some ⟨oc,od,.func (fnOf x q (defArgs st) (defBody st) (defScope st) .none kV dc pm an cd ct),sl⟩) (c:PySem.W.codeIn K cd q=true) (k:keepIn K (.ref f)=true):FL K x q st f:=
  ⟨od,an,sl,oc,kV,dc,pm,cd,ct,l,c,k⟩
theorem FL.fn {K:Frag} {x q:Str} {st:Stmt} {f:Addr} (l:FL K x q st f) (ps:List Str)
    (h:∀ (kV doc pm:Value) (an:Option Addr) (cdv ct:Value) (us:List Value),us.length=ps.length→bindArgs (fnOf x q (defArgs st) (defBody st) (defScope st) .none kV doc pm an cdv ct) ⟨us,[]⟩=pure (ps.zip us)) :
    ∃ fd,Fun K x q st f fd∧keepIn K (.ref f)=true∧Binds K fd ps []:=by
  obtain ⟨od,an,sl,oc,kV,dc,pm,cd,ct,l1,c,k⟩:=l.ex
  exact ⟨_,fun_mk l1 c k,k,(fun_mk l1 c k).binds h⟩
section
variable {K:Frag} {x q:Str} {st:Stmt} {f:Addr}
theorem FL.fn1 (l:FL K x q st f) (ps:List Str) (h:∀ (kV doc pm:Value) (an:Option Addr) (cdv ct u0:Value),bindArgs (fnOf x q (defArgs st) (defBody st) (defScope st) .none kV doc pm an cdv ct) ⟨[u0],[]⟩=pure (ps.zip [u0])) (hp:ps.length=1:=by rfl):∃ fd,Fun K x q st f fd∧keepIn K (.ref f)=true∧Binds K fd ps []:=
  l.fn ps fun kV doc pm an cdv ct us hl=>len1 (p:=fun us=>bindArgs (fnOf x q (defArgs st) (defBody st) (defScope st) .none kV doc pm an cdv ct) ⟨us,[]⟩=pure (ps.zip us)) (hl.trans hp) fun u0=>h kV doc pm an cdv ct u0
theorem FL.fn2 (l:FL K x q st f) (ps:List Str) (h:∀ (kV doc pm:Value) (an:Option Addr) (cdv ct u0 u1:Value),bindArgs (fnOf x q (defArgs st) (defBody st) (defScope st) .none kV doc pm an cdv ct) ⟨[u0,u1],[]⟩=pure (ps.zip [u0,u1])) (hp:ps.length=2:=by rfl):∃ fd,Fun K x q st f fd∧keepIn K (.ref f)=true∧Binds K fd ps []:=
  l.fn ps fun kV doc pm an cdv ct us hl=>len2 (p:=fun us=>bindArgs (fnOf x q (defArgs st) (defBody st) (defScope st) .none kV doc pm an cdv ct) ⟨us,[]⟩=pure (ps.zip us)) (hl.trans hp) fun u0 u1=>h kV doc pm an cdv ct u0 u1
theorem FL.fn3 (l:FL K x q st f) (ps:List Str) (h:∀ (kV doc pm:Value) (an:Option Addr) (cdv ct u0 u1 u2:Value),bindArgs (fnOf x q (defArgs st) (defBody st) (defScope st) .none kV doc pm an cdv ct) ⟨[u0,u1,u2],[]⟩=pure (ps.zip [u0,u1,u2])) (hp:ps.length=3:=by rfl):∃ fd,Fun K x q st f fd∧keepIn K (.ref f)=true∧Binds K fd ps []:=
  l.fn ps fun kV doc pm an cdv ct us hl=>len3 (p:=fun us=>bindArgs (fnOf x q (defArgs st) (defBody st) (defScope st) .none kV doc pm an cdv ct) ⟨us,[]⟩=pure (ps.zip us)) (hl.trans hp) fun u0 u1 u2=>h kV doc pm an cdv ct u0 u1 u2
theorem FL.fn4 (l:FL K x q st f) (ps:List Str) (h:∀ (kV doc pm:Value) (an:Option Addr) (cdv ct u0 u1 u2 u3:Value),bindArgs (fnOf x q (defArgs st) (defBody st) (defScope st) .none kV doc pm an cdv ct) ⟨[u0,u1,u2,u3],[]⟩=pure (ps.zip [u0,u1,u2,u3])) (hp:ps.length=4:=by rfl):∃ fd,Fun K x q st f fd∧keepIn K (.ref f)=true∧Binds K fd ps []:=
  l.fn ps fun kV doc pm an cdv ct us hl=>len4 (p:=fun us=>bindArgs (fnOf x q (defArgs st) (defBody st) (defScope st) .none kV doc pm an cdv ct) ⟨us,[]⟩=pure (ps.zip us)) (hl.trans hp) fun u0 u1 u2 u3=>h kV doc pm an cdv ct u0 u1 u2 u3
end
end Rc
namespace Rc
open PySem PySem.Spec PyProof.Rows L2
def CovAt (K:Frag) (H:Hp) (v:V) (c:Row):Prop:=∃ p,v = .ref p∧RowAt K H p (some c)
structure CovsAt (K:Frag) (H:Hp) (vs:List V) (cs:List Row):Prop where
  len:vs.length=cs.length
  at_:∀ (i:Nat) (c:Row),cs[i]? = some c→∃ v,vs[i]? = some v∧CovAt K H v c
section
variable {K:Frag} {H H':Hp} {v:V} {vs:List V} {c:Row} {cs:List Row} {x:Addr} {xs:List V} {o:HO}
theorem CovAt.same (h:CovAt K H v c) (s:Same H H'):CovAt K H' v c:=let ⟨p,e,r⟩:=h;⟨p,e,RowAt.same s r⟩
theorem CovsAt.same (h:CovsAt K H vs cs) (s:Same H H'):CovsAt K H' vs cs:=⟨h.len,fun i c e=>let ⟨v,e1,e2⟩:=h.at_ i c e;⟨v,e1,e2.same s⟩⟩
theorem SqT.but {p:Addr} {ys:List V} {o':HO} (h:SqT K H p ys) (hx:H x=some o') (hn:∀ zs,o'≠.tup zs) (hf:∀ ob u,o'≠.frz ob u) (s:∀ b o,b≠x→H b=some o→H' b=some o):SqT K H' p ys:=by
  rcases h with (h | ⟨ob,h⟩) | h
  · exact .inl (.inl (s p _ (fun z=>by rw [z,hx] at h;cases h;exact hn _ rfl) h))
  · exact .inl (.inr ⟨ob,s p _ (fun z=>by rw [z,hx] at h;cases h;exact hf _ _ rfl) h⟩)
  · exact .inr h
theorem LinesAt.but {p:Addr} {L:List (Int×Int)} {o':HO} (h:LinesAt K H p L) (hx:H x=some o') (hn:∀ zs,o'≠.tup zs) (hf:∀ ob u,o'≠.frz ob u) (s:∀ b o,b≠x→H b=some o→H' b=some o):LinesAt K H' p L:=by
  obtain ⟨us,h1,h2⟩:=h.ex
  exact ⟨us,SqT.but h1 hx hn hf s,h2.len,fun i l e=>let ⟨v,e1,q,e2,e3⟩:=h2.at_ i l e;⟨v,e1,q,e2,SqT.but e3 hx hn hf s⟩⟩
theorem CovAt.but {o':HO} (h:CovAt K H v c) (hx:H x=some o') (hn:∀ zs,o'≠.tup zs) (hf:∀ ob u,o'≠.frz ob u) (s:∀ b o,b≠x→H b=some o→H' b=some o):CovAt K H' v c:=by
  obtain ⟨p,e,lp,h1,h2,h3⟩:=h
  exact ⟨p,e,lp,SqT.but h1 hx hn hf s,LinesAt.but h2 hx hn hf s,h3⟩
theorem CovsAt.but {o':HO} (h:CovsAt K H vs cs) (hx:H x=some o') (hn:∀ zs,o'≠.tup zs) (hf:∀ ob u,o'≠.frz ob u) (s:∀ b o,b≠x→H b=some o→H' b=some o):CovsAt K H' vs cs:=
  ⟨h.len,fun i c e=>let ⟨v,e1,e2⟩:=h.at_ i c e;⟨v,e1,CovAt.but e2 hx hn hf s⟩⟩
theorem CovsAt.updL (h:CovsAt K H vs cs) (hx:H x=some (.lst xs)):CovsAt K (upd H x o) vs cs:=
  CovsAt.but h hx (fun _ z=>by cases z) (fun _ _ z=>by cases z) fun b o n e=>by rw [upd_ne n];exact e
theorem CovsAt.get {i:Nat} (h:CovsAt K H vs cs) (e:vs[i]? = some v):∃ c,cs[i]? = some c∧CovAt K H v c:=by
  have hi:=get_lt e
  obtain ⟨c,hc⟩:=get_some (xs:=cs) (i:=i) (by rw [← h.len];exact hi)
  obtain ⟨u,e1,e2⟩:=h.at_ i c hc
  rw [e] at e1;cases e1
  exact ⟨c,hc,e2⟩
theorem CovsAt.nil:CovsAt K H [] []:=⟨rfl,fun i c e=>by simp at e⟩
theorem CovsAt.snoc (h:CovsAt K H vs cs) (p:CovAt K H v c):CovsAt K H (vs ++ [v]) (cs ++ [c]):=by
  refine ⟨by rw [List.length_append,List.length_append,h.len];rfl,fun i m e=>?_⟩
  by_cases hi:i < cs.length
  · rw [List.getElem?_append_left hi] at e
    obtain ⟨u,e1,e2⟩:=h.at_ i m e
    exact ⟨u,by rw [List.getElem?_append_left (by rw [h.len];exact hi)];exact e1,e2⟩
  · have hlt:=get_lt e
    rw [List.length_append,List.length_singleton] at hlt
    have ei:i=cs.length:=by omega
    subst ei
    rw [List.getElem?_append_right (Nat.le_refl _),Nat.sub_self] at e
    simp at e;subst e
    exact ⟨v,by rw [List.getElem?_append_right (by rw [h.len];exact Nat.le_refl _),h.len,Nat.sub_self];rfl,p⟩
end
structure GoodC (h:Int) (c:Row):Prop where
  ho:0≤c.1∧c.1 < h
  ms:measB c.2.1 c.2.2.1 c.2.2.2.1=true
  gl:GoodL c.2.2.2.2
  ot:∀ l∈c.2.2.2.2,l.1 < h∧l.1≠c.1
theorem goodC_iff {h:Int} {c:Row} (h6:h≤6):isCoverB h (some c)=true↔GoodC h c:=by
  obtain ⟨ho,k,b,m,L⟩:=c
  rw [isCoverB_iff h6]
  constructor
  · rintro ⟨a1,a2,a3,a4,a5⟩
    exact ⟨a1,a2,⟨a3.1,a3.2,a4,fun l hl=>by have:=a5 l hl;omega⟩,fun l hl=>(a5 l hl).1.2⟩
  · rintro ⟨a1,a2,a3,a4⟩
    exact ⟨a1,a2,⟨a3.l1,a3.l4⟩,a3.nd,fun l hl=>⟨⟨(a3.all l hl).1,a4 l hl⟩,(a3.all l hl).2.2⟩⟩
theorem GoodC.most {h:Int} {c:Row} (g:GoodC h c):0≤c.2.2.2.1∧c.2.2.2.1≤24:=(measB_cases g.ms).2
structure GoodT (h:Nat) (cs:List Row) (ls:List Int):Prop where
  h1:1≤h
  h6:h≤6
  c10:cs.length≤10
  cov:∀ c∈cs,GoodC h c
  ll:ls.length=h
  lb:∀ x∈ls,0≤x∧x≤9999
theorem hn1:¬ (("house_count" : Str) = "cover_rows"):=by decide +kernel
theorem hn2:¬ (("house_count" : Str) = "befallen"):=by decide +kernel
theorem hn3:¬ (("house_count" : Str) = "crown_bearers"):=by decide +kernel
theorem hn4:¬ (("cover_rows" : Str) = "befallen"):=by decide +kernel
theorem hn5:¬ (("cover_rows" : Str) = "crown_bearers"):=by decide +kernel
theorem hn6:¬ (("befallen" : Str) = "crown_bearers"):=by decide +kernel
def tabF (h:Int) (a b c:Addr):List (Str×V):=putF "crown_bearers" (.ref c) (putF "befallen" (.ref b) (putF "cover_rows" (.ref a) (putF "house_count" (.int h) [])))
section
variable {h:Int} {a b c:Addr}
theorem tabF_houses:(tabF h a b c).lookup ("house_count" : Str)=some (.int h):=by
  unfold tabF;rw [lookup_putF,if_neg hn3,lookup_putF,if_neg hn2,lookup_putF,if_neg hn1,lookup_putF,if_pos rfl]
theorem tabF_covers:(tabF h a b c).lookup ("cover_rows" : Str)=some (.ref a):=by
  unfold tabF;rw [lookup_putF,if_neg hn5,lookup_putF,if_neg hn4,lookup_putF,if_pos rfl]
theorem tabF_losses:(tabF h a b c).lookup ("befallen" : Str)=some (.ref b):=by
  unfold tabF;rw [lookup_putF,if_neg hn6,lookup_putF,if_pos rfl]
theorem tabF_bearers:(tabF h a b c).lookup ("crown_bearers" : Str)=some (.ref c):=by
  unfold tabF;rw [lookup_putF,if_pos rfl]
theorem tabF_no {m:Str} (h1:¬ m = "crown_bearers") (h2:¬ m = "befallen") (h3:¬ m = "cover_rows") (h4:¬ m = "house_count"):(tabF h a b c).lookup m=none:=by
  unfold tabF;rw [lookup_putF,if_neg h1,lookup_putF,if_neg h2,lookup_putF,if_neg h3,lookup_putF,if_neg h4];rfl
end
structure TabAt (C:Addr) (K:Frag) (H:Hp) (t:Addr) (h:Nat) (cs:List Row) (ls:List Int):Prop where
  ex:∃ (dx a b c:Addr) (us:List V) (qs:List Addr),H t=some (.ins C dx (tabF h a b c))∧H a=some (.lst us)∧CovsAt K H us cs∧H b=some (.lst (ls.map V.int))∧H c=some (.lst (qs.map V.ref))∧qs.length=cs.length∧
    ∀ (i:Nat) (cv:Row) (q:Addr),cs[i]? = some cv→qs[i]? = some q→H q=some (.lst ((bearersL cv.2.2.2.2 cv.2.2.2.1.toNat).map V.int))
  good:GoodT h cs ls
theorem TabAt.same {C:Addr} {K:Frag} {H H':Hp} {t:Addr} {h:Nat} {cs:List Row} {ls:List Int} (x:TabAt C K H t h cs ls) (s:Same H H'):TabAt C K H' t h cs ls:=by
  obtain ⟨dx,a,b,c,us,qs,h1,h2,h3,h4,h5,h6,h7⟩:=x.ex
  exact ⟨⟨dx,a,b,c,us,qs,s _ _ h1,s _ _ h2,h3.same s,s _ _ h4,s _ _ h5,h6,fun i cv q e1 e2=>s _ _ (h7 i cv q e1 e2)⟩,x.good⟩
def plusF (row:List Int) (f:Nat→Int):List Int:=row.mapIdx fun j x=>x+f j
theorem plusF_len (row:List Int) (f:Nat→Int):(plusF row f).length=row.length:=by unfold plusF;rw [List.length_mapIdx]
theorem plusF_get (row:List Int) (f:Nat→Int) (j:Nat) (hj:j < row.length):(plusF row f).getD j 0=row.getD j 0+f j:=by
  unfold plusF;simp [List.getD,hj]
theorem plusF_zero (row:List Int):plusF row (fun _=>0)=row:=by
  unfold plusF
  refine List.ext_getElem (by rw [List.length_mapIdx]) fun i h1 h2=>?_
  rw [List.getElem_mapIdx];exact Int.add_zero _
theorem plusF_congr {row:List Int} {f g:Nat→Int} (h:∀ j,j < row.length→f j=g j):plusF row f=plusF row g:=by
  unfold plusF
  refine List.ext_getElem (by rw [List.length_mapIdx,List.length_mapIdx]) fun i h1 h2=>?_
  rw [List.length_mapIdx] at h1
  rw [List.getElem_mapIdx,List.getElem_mapIdx,h i h1]
theorem plusF_getE (row:List Int) (f:Nat→Int) (i:Nat):(plusF row f)[i]? = row[i]?.map (· + f i):=by unfold plusF;rw [List.getElem?_mapIdx]
theorem plusF_set (row:List Int) (f:Nat→Int) (j:Nat) (d:Int) (hj:j < row.length):(plusF row f).set j ((plusF row f).getD j 0+d)=plusF row (fun k=>f k+if k=j then d else 0):=by
  rw [plusF_get _ _ _ hj]
  refine List.ext_getElem? fun i=>?_
  rw [plusF_getE,List.getElem?_set,plusF_getE,plusF_len]
  by_cases e:j=i
  · subst e
    rw [if_pos rfl,if_pos hj,getD_of (List.getElem?_eq_getElem hj),List.getElem?_eq_getElem hj]
    simp only [Option.map_some,if_true]
    congr 1;omega
  · rw [if_neg e]
    have e2:(if i=j then d else 0)=0:=if_neg (fun z=>e z.symm)
    simp only [e2,Int.add_zero]
def cnt (L:List (Int×Int)) (n:Nat) (j:Nat):Int:=((bearersL L n).count (j:Int):Nat)
def crOf:Option Row→Int→Nat→Int
  | none,_,_=>0
  | some c,b,j=>cnt c.2.2.2.2 b.toNat j
def crs (cs:List Row) (acc:List Int):Nat→Nat→Int
  | 0,_=>0
  | i+1,j=>crs cs acc i j+crOf cs[i]? (acc.getD i 0) j
def burdL (cs:List Row) (ls acc:List Int):List Int:=plusF ls (crs cs acc cs.length)
theorem burdL_len (cs:List Row) (ls acc:List Int):(burdL cs ls acc).length=ls.length:=plusF_len _ _
theorem bearersL_take (L:List (Int×Int)) {n m:Nat} (h:n≤m):(bearersL L m).take n=bearersL L n:=by
  unfold bearersL;rw [← List.map_take,List.take_range,Nat.min_eq_left h]
theorem bearerOf_mem {L:List (Int×Int)} (h1:1≤L.length) (n:Nat):∃ l∈L,bearerOf L n=l.1:=by
  have hpk:Mt.pick (L.map (·.2)) (Mt.deal (L.map (·.2)) n) < L.length:=by
    have:=Mt.pick_lt (ls:=L.map (·.2)) (b:=Mt.deal (L.map (·.2)) n) (by rw [List.length_map];exact h1)
    rw [List.length_map] at this;exact this
  obtain ⟨l,hl⟩:=get_some hpk
  refine ⟨l,List.mem_of_getElem? hl,?_⟩
  unfold bearerOf
  exact getD_of (by rw [List.getElem?_map,hl];rfl)
theorem bearersL_mem {L:List (Int×Int)} (h1:1≤L.length) {n:Nat} {x:Int} (h:x∈bearersL L n):∃ l∈L,x=l.1:=by
  unfold bearersL at h
  obtain ⟨k,_,rfl⟩:=List.mem_map.mp h
  exact bearerOf_mem h1 k
def sgs (L:List (Int×Int)) (m:List Int):Nat→Nat→Int
  | 0,_=>0
  | k+1,j=>sgs L m k j+if (L.map (·.1)).getD k 0=(j:Int) then m.getD k 0 else 0
theorem sgs_none {L:List (Int×Int)} {m:List Int} {j:Nat}:∀ k,(∀ i,i < k→(L.map (·.1)).getD i 0≠(j:Int))→sgs L m k j=0
  | 0,_=>rfl
  | k+1,h=>by rw [sgs,sgs_none k fun i hi=>h i (by omega),if_neg (h k (by omega))];rfl
theorem sgs_one {L:List (Int×Int)} {m:List Int} {j i:Nat} (hi:(L.map (·.1)).getD i 0=(j:Int)):∀ k,(∀ i',i' < k→i'≠i→(L.map (·.1)).getD i' 0≠(j:Int))→i < k→sgs L m k j=m.getD i 0
  | 0,_,h=>absurd h (Nat.not_lt_zero _)
  | k+1,h,hk=>by
    rw [sgs]
    by_cases e:k=i
    · subst e
      rw [sgs_none k fun i' hi'=>h i' (by omega) (by omega),if_pos hi];omega
    · rw [sgs_one hi k (fun i' h1 h2=>h i' (by omega) h2) (by omega),if_neg (h k (by omega) e)];omega
theorem sgs_deal {L:List (Int×Int)} (h1:1≤L.length) (nd:(L.map (·.1)).Nodup) (n j:Nat):sgs L (Mt.deal (L.map (·.2)) n) L.length j=cnt L n j:=by
  by_cases h:∃ i,i < L.length∧(L.map (·.1)).getD i 0=(j:Int)
  · obtain ⟨i,hi,e⟩:=h
    rw [sgs_one e L.length (fun i' hi' hne z=>hne (nodup_getD nd (by rw [List.length_map];exact hi') (by rw [List.length_map];exact hi) (z.trans e.symm))) hi]
    unfold cnt
    rw [← count_deal h1 nd n i hi,e]
  · have h':∀ i,i < L.length→(L.map (·.1)).getD i 0≠(j:Int):=fun i hi z=>h ⟨i,hi,z⟩
    rw [sgs_none L.length h']
    unfold cnt
    have:(j:Int)∉bearersL L n:=fun z=>by
      obtain ⟨l,hl,e⟩:=bearersL_mem h1 z
      obtain ⟨i,hi,rfl⟩:=List.mem_iff_getElem.mp hl
      exact h' i hi (by rw [getD_of (show (L.map (·.1))[i]? = some L[i].1 by rw [List.getElem?_map,List.getElem?_eq_getElem hi];rfl)];exact e.symm)
    rw [List.count_eq_zero.mpr this];rfl
structure AccOk (cs:List Row) (acc:List Int):Prop where
  len:acc.length=cs.length
  bd:∀ (i:Nat) (c:Row) (b:Int),cs[i]? = some c→acc[i]? = some b→0≤b∧b≤c.2.2.2.1
structure SplitsAt (H:Hp) (cs:List Row) (ss:List Addr):Prop where
  len:ss.length=cs.length
  at_:∀ (i:Nat) (c:Row) (s:Addr),cs[i]? = some c→ss[i]? = some s→∃ qs:List Addr,H s=some (.lst (qs.map V.ref))∧RowsAt H (c.2.2.2.2.map (·.2)) qs c.2.2.2.1.toNat
theorem SplitsAt.same {H H':Hp} {cs:List Row} {ss:List Addr} (h:SplitsAt H cs ss) (s:Same H H'):SplitsAt H' cs ss:=
  ⟨h.len,fun i c x e1 e2=>let ⟨qs,a,b⟩:=h.at_ i c x e1 e2;⟨qs,s _ _ a,fun k hk=>let ⟨q,z1,z2⟩:=b k hk;⟨q,z1,s _ _ z2⟩⟩⟩
theorem ints_refs {H:Hp} {D q:Addr} {ns:List Int} {ss:List Addr} (hD:H D=some (.lst (ss.map V.ref))) (hq:H q=some (.lst (ns.map V.int))) (h1:1≤ns.length):q≠D:=fun z=>by
  rw [z,hD] at hq
  cases ns with
  | nil=>simp at h1
  | cons n r=>
    cases ss with
    | nil=>simp at hq
    | cons a t=>simp at hq
theorem cut_to (ds:List V) {n:Nat} (h:n≤ds.length):cutV ds none (some (n:Int))=ds.take n:=by
  unfold cutV
  rw [HT.sIx_none,HT.sIx_nat,List.drop_zero,Nat.sub_zero,Nat.min_eq_left h]
theorem filterMap_const {α β:Type} (l:List α) (v:β):l.filterMap (fun _=>some v)=List.replicate l.length v:=by
  induction l with
  | nil=>rfl
  | cons a r ih=>simp [List.filterMap_cons,ih,List.replicate_succ]
theorem CovsAt.pick {K:Frag} {H:Hp} {us:List V} {cs:List Row} (h:CovsAt K H us cs) (f:Nat→Nat):∀ n,(∀ i,i < n→f i < cs.length)→CovsAt K H ((List.range n).filterMap fun i=>us[f i]?) ((List.range n).filterMap fun i=>cs[f i]?)
  | 0,_=>CovsAt.nil
  | n+1,hn=>by
    obtain ⟨c,hc⟩:=get_some (hn n (Nat.lt_succ_self _))
    obtain ⟨v,hv,hcv⟩:=h.at_ _ _ hc
    have ih:=CovsAt.pick h f n fun i hi=>hn i (by omega)
    have e1:(List.range (n+1)).filterMap (fun i=>us[f i]?)=(List.range n).filterMap (fun i=>us[f i]?) ++ [v]:=by rw [List.range_succ,List.filterMap_append];simp [hv]
    have e2:(List.range (n+1)).filterMap (fun i=>cs[f i]?)=(List.range n).filterMap (fun i=>cs[f i]?) ++ [c]:=by rw [List.range_succ,List.filterMap_append];simp [hc]
    rw [e1,e2]
    exact ih.snoc hcv
theorem mem_pick {cs:List Row} {f:Nat→Nat} {n:Nat} {c:Row} (h:c∈(List.range n).filterMap fun i=>cs[f i]?):c∈cs:=by
  obtain ⟨i,_,e⟩:=List.mem_filterMap.mp h
  exact List.mem_of_getElem? e
theorem make_same {H H':Hp} {x dx:Addr} {o1 o2:HO} (hx:H x=none) (hdx:H dx=none) (s:∀ b o,b≠x→(upd (upd H dx o2) x o1) b=some o→H' b=some o):Same H H':=fun b o e=>
  s b o (ne_of_none e hx) (by rw [upd_ne (ne_of_none e hx),upd_ne (ne_of_none e hdx)];exact e)
theorem make_pre {H:Hp} {x dx:Addr} {o1 o2:HO} (hx:H x=none) (hdx:H dx=none):Same H (upd (upd H dx o2) x o1):=fun b o e=>by
  rw [upd_ne (ne_of_none e hx),upd_ne (ne_of_none e hdx)];exact e
structure TabF (F:Addr→Prop) (C:Addr) (K:Frag) (H:Hp) (t:Addr) (h:Nat) (cs:List Row) (ls:List Int):Prop where
  ex:∃ (dx a b c:Addr) (us:List V) (qs:List Addr),H t=some (.ins C dx (tabF h a b c))∧H a=some (.lst us)∧CovsAt K H us cs∧H b=some (.lst (ls.map V.int))∧H c=some (.lst (qs.map V.ref))∧qs.length=cs.length∧
    (∀ (i:Nat) (cv:Row) (q:Addr),cs[i]? = some cv→qs[i]? = some q→H q=some (.lst ((bearersL cv.2.2.2.2 cv.2.2.2.1.toNat).map V.int)))∧F a∧F b∧F c∧∀ q∈qs,F q
  good:GoodT h cs ls
section
variable {F:Addr→Prop} {C:Addr} {K:Frag} {H H':Hp} {t:Addr} {h:Nat} {cs:List Row} {ls:List Int}
theorem TabF.tab (x:TabF F C K H t h cs ls):TabAt C K H t h cs ls:=by
  obtain ⟨dx,a,b,c,us,qs,h1,h2,h3,h4,h5,h6,h7,_⟩:=x.ex
  exact ⟨⟨dx,a,b,c,us,qs,h1,h2,h3,h4,h5,h6,h7⟩,x.good⟩
theorem TabF.same (x:TabF F C K H t h cs ls) (s:Same H H'):TabF F C K H' t h cs ls:=by
  obtain ⟨dx,a,b,c,us,qs,h1,h2,h3,h4,h5,h6,h7,h8⟩:=x.ex
  exact ⟨⟨dx,a,b,c,us,qs,s _ _ h1,s _ _ h2,h3.same s,s _ _ h4,s _ _ h5,h6,fun i cv q e1 e2=>s _ _ (h7 i cv q e1 e2),h8⟩,x.good⟩
theorem TabF.updL {x:Addr} {xs:List V} {o:HO} (y:TabF F C K H t h cs ls) (hx:H x=some (.lst xs)) (nx:¬ F x):TabF F C K (upd H x o) t h cs ls:=by
  obtain ⟨dx,a,b,c,us,qs,h1,h2,h3,h4,h5,h6,h7,f1,f2,f3,f4⟩:=y.ex
  have n:∀ z,F z→z≠x:=fun z hz e=>nx (e ▸ hz)
  refine ⟨⟨dx,a,b,c,us,qs,?_,?_,h3.updL hx,?_,?_,h6,fun i cv q e1 e2=>?_,f1,f2,f3,f4⟩,y.good⟩
  · rw [upd_ne (ne_of h1 hx (by intro z;cases z))];exact h1
  · rw [upd_ne (n a f1)];exact h2
  · rw [upd_ne (n b f2)];exact h4
  · rw [upd_ne (n c f3)];exact h5
  · rw [upd_ne (n q (f4 q (List.mem_of_getElem? e2)))];exact h7 i cv q e1 e2
end
end Rc
namespace Rc
open PySem PySem.Spec PyProof.Rows L2
theorem takeZ_bd {k:Str} {b m r:Int} (h:measB k b m=true) (h0:0≤r):0≤takeZ k b m r∧takeZ k b m r≤r∧takeZ k b m r≤m:=by
  obtain ⟨hk,m0,m24⟩:=measB_cases h
  have hw:0≤wishZ k b r∧wishZ k b r≤r:=by
    unfold wishZ
    rcases hk with ⟨rfl,b1,b2⟩ | ⟨rfl,b1,b2⟩
    · rw [if_pos rfl]
      have h1:0≤r * b:=Int.mul_nonneg h0 (by omega)
      have h2:r * b≤r * 100:=Int.mul_le_mul_of_nonneg_left b2 h0
      omega
    · rw [if_neg (fun z=>share_ne z.symm)]
      split <;> omega
  unfold takeZ
  split <;> omega
def passL (cs:List Row) (l0:List Int):Nat→List Int×List Int
  | 0=>(l0,[])
  | i+1=>match cs[i]? with
    | none=>passL cs l0 i
    | some c=>((passL cs l0 i).1.set c.1.toNat ((passL cs l0 i).1.getD c.1.toNat 0 - takeZ c.2.1 c.2.2.1 c.2.2.2.1 ((passL cs l0 i).1.getD c.1.toNat 0)),(passL cs l0 i).2 ++ [takeZ c.2.1 c.2.2.1 c.2.2.2.1 ((passL cs l0 i).1.getD c.1.toNat 0)])
theorem passL_succ {cs:List Row} {l0:List Int} {i:Nat} {c:Row} (h:cs[i]? = some c):passL cs l0 (i+1)=((passL cs l0 i).1.set c.1.toNat ((passL cs l0 i).1.getD c.1.toNat 0 - takeZ c.2.1 c.2.2.1 c.2.2.2.1 ((passL cs l0 i).1.getD c.1.toNat 0)),(passL cs l0 i).2 ++ [takeZ c.2.1 c.2.2.1 c.2.2.2.1 ((passL cs l0 i).1.getD c.1.toNat 0)]):=by
  rw [passL,h]
theorem passL_len1 (cs:List Row) (l0:List Int):∀ i,(passL cs l0 i).1.length=l0.length
  | 0=>rfl
  | i+1=>by
    cases h:cs[i]? with
    | none=>rw [passL,h];exact passL_len1 cs l0 i
    | some c=>rw [passL_succ h,List.length_set];exact passL_len1 cs l0 i
theorem passL_len2 (cs:List Row) (l0:List Int):∀ i,i≤cs.length→(passL cs l0 i).2.length=i
  | 0,_=>rfl
  | i+1,hi=>by
    obtain ⟨c,h⟩:=get_some (xs:=cs) hi
    rw [passL_succ h,List.length_append,passL_len2 cs l0 i (by omega)];rfl
theorem getD_mem {l:List Int} {j:Nat} (h:j < l.length):l.getD j 0∈l:=by
  rw [getD_of (List.getElem?_eq_getElem h)];exact List.getElem_mem h
theorem getD_bd {l:List Int} {B:Int} (h:∀ x∈l,0≤x∧x≤B) (hB:0≤B) (j:Nat):0≤l.getD j 0∧l.getD j 0≤B:=by
  by_cases hj:j < l.length
  · exact h _ (getD_mem hj)
  · rw [List.getD_eq_getElem?_getD,List.getElem?_eq_none (by omega)];exact ⟨Int.le_refl _,hB⟩
theorem passL_bd {cs:List Row} {l0:List Int} {B h:Int} (hb:∀ x∈l0,0≤x∧x≤B) (hB:0≤B) (hg:∀ c∈cs,GoodC h c):∀ i,∀ x∈(passL cs l0 i).1,0≤x∧x≤B
  | 0=>hb
  | i+1=>by
    have ih:=passL_bd hb hB hg i
    cases e:cs[i]? with
    | none=>rw [passL,e];exact ih
    | some c=>
      have gc:=hg c (List.mem_of_getElem? e)
      rw [passL_succ e]
      intro x hx
      have g1:=getD_bd ih hB c.1.toNat
      rcases List.mem_or_eq_of_mem_set hx with hx | rfl
      · exact ih x hx
      · have:=takeZ_bd gc.ms g1.1
        omega
theorem passL_get {cs:List Row} {l0:List Int} {B h:Int} (hb:∀ x∈l0,0≤x∧x≤B) (hB:0≤B) (hg:∀ c∈cs,GoodC h c):∀ i,i≤cs.length→∀ (j:Nat) (c:Row) (b:Int),cs[j]? = some c→(passL cs l0 i).2[j]? = some b→0≤b∧b≤c.2.2.2.1
  | 0,_,j,c,b,_,e=>by simp [passL] at e
  | i+1,hi,j,c,b,e1,e2=>by
    obtain ⟨c',h'⟩:=get_some (xs:=cs) hi
    have ih:=passL_get hb hB hg i (by omega) j c b e1
    have hl:=passL_len2 cs l0 i (by omega)
    rw [passL_succ h'] at e2
    by_cases hj:j < i
    · rw [List.getElem?_append_left (by omega)] at e2;exact ih e2
    · have hlt:=get_lt e2
      rw [List.length_append,hl,List.length_singleton] at hlt
      have ej:j=i:=by omega
      subst ej
      rw [List.getElem?_append_right (by omega),hl,Nat.sub_self] at e2
      simp at e2;subst e2
      rw [h'] at e1;cases e1
      have g1:=getD_bd (passL_bd hb hB hg j) hB c.1.toNat
      have:=takeZ_bd (hg c (List.mem_of_getElem? h')).ms g1.1
      exact ⟨this.1,this.2.2⟩
theorem cnt_bd (L:List (Int×Int)) (n j:Nat):0≤cnt L n j∧cnt L n j≤n:=by
  unfold cnt
  have:=List.count_le_length (a:=(j:Int)) (l:=bearersL L n)
  rw [bearersL_len] at this
  omega
theorem crs_bd {cs:List Row} {acc:List Int} {h:Int} (hg:∀ c∈cs,GoodC h c) (hA:AccOk cs acc) (j:Nat):∀ i,0≤crs cs acc i j∧crs cs acc i j≤24 * i
  | 0=>by simp [crs]
  | i+1=>by
    have ih:=crs_bd hg hA j i
    rw [crs]
    cases e:cs[i]? with
    | none=>rw [crOf];omega
    | some c=>
      have hi:=get_lt e
      obtain ⟨b,hb⟩:=get_some (xs:=acc) (i:=i) (by rw [hA.len];exact hi)
      have hbd:=hA.bd i c b e hb
      have gm:=(hg c (List.mem_of_getElem? e)).most
      rw [getD_of hb,crOf]
      have:=cnt_bd c.2.2.2.2 b.toNat j
      omega
theorem burd_bd {h:Nat} {cs:List Row} {ls acc:List Int} (g:GoodT h cs ls) (hA:AccOk cs acc):∀ x∈burdL cs ls acc,0≤x∧x≤10239:=fun x hx=>by
  obtain ⟨j,hj⟩:=List.mem_iff_getElem?.mp hx
  unfold burdL at hj
  rw [plusF_getE] at hj
  obtain ⟨y,hy,rfl⟩:=Option.map_eq_some_iff.mp hj
  have h1:=g.lb y (List.mem_of_getElem? hy)
  have h2:=crs_bd g.cov hA j cs.length
  have h3:=g.c10
  omega
def askL (cs:List Row) (ls acc:List Int):List Int:=(passL cs (burdL cs ls acc) cs.length).2
theorem askL_ok {h:Nat} {cs:List Row} {ls acc:List Int} (g:GoodT h cs ls) (hA:AccOk cs acc):AccOk cs (askL cs ls acc):=
  ⟨passL_len2 _ _ _ (Nat.le_refl _),passL_get (burd_bd g hA) (by decide) g.cov _ (Nat.le_refl _)⟩
end Rc
namespace Rc
open PySem PySem.Spec PyProof.Rows L2
inductive LeL:List Int→List Int→Prop
  | nil:LeL [] []
  | cons {x y:Int} {a b:List Int}:x≤y→LeL a b→LeL (x :: a) (y :: b)
theorem LeL.len {a b:List Int} (h:LeL a b):a.length=b.length:=by
  induction h with
  | nil=>rfl
  | cons _ _ ih=>rw [List.length_cons,List.length_cons,ih]
theorem LeL.get {a b:List Int} (h:LeL a b):∀ i,a.getD i 0≤b.getD i 0:=by
  induction h with
  | nil=>intro i;exact Int.le_refl _
  | cons h1 _ ih=>
    intro i
    cases i with
    | zero=>exact h1
    | succ i=>simpa using ih i
theorem LeL.of:∀ {a b:List Int},a.length=b.length→(∀ i,i < a.length→a.getD i 0≤b.getD i 0)→LeL a b
  | [],[],_,_=>.nil
  | [],_ :: _,h,_=>by simp at h
  | _ :: _,[],h,_=>by simp at h
  | x :: a,y :: b,h,hl=>.cons (by simpa using hl 0 (by simp)) (LeL.of (by simpa using h) fun i hi=>by simpa using hl (i+1) (by simpa using hi))
theorem LeL.refl:∀ a:List Int,LeL a a
  | []=>.nil
  | x :: a=>.cons (Int.le_refl _) (LeL.refl a)
theorem LeL.trans {a b c:List Int} (h1:LeL a b) (h2:LeL b c):LeL a c:=
  LeL.of (h1.len.trans h2.len) fun i _=>Int.le_trans (h1.get i) (h2.get i)
theorem LeL.set {a b:List Int} {x y:Int} (h:LeL a b) (hx:x≤y):∀ j,LeL (a.set j x) (b.set j y):=by
  induction h with
  | nil=>intro j;exact .nil
  | cons h1 h2 ih=>
    intro j
    cases j with
    | zero=>exact .cons hx h2
    | succ j=>exact .cons h1 (ih j)
theorem LeL.snoc {a b:List Int} {x y:Int} (h:LeL a b) (hx:x≤y):LeL (a ++ [x]) (b ++ [y]):=by
  induction h with
  | nil=>exact .cons hx .nil
  | cons h1 _ ih=>exact .cons h1 ih
theorem LeL.sum {a b:List Int} (h:LeL a b):a.sum≤b.sum:=by
  induction h with
  | nil=>exact Int.le_refl _
  | cons h1 _ ih=>rw [List.sum_cons,List.sum_cons];omega
theorem LeL.sum_lt {a b:List Int} (h:LeL a b):a≠b→a.sum < b.sum:=by
  induction h with
  | nil=>intro h;exact absurd rfl h
  | @cons x y a b h1 h2 ih=>
    intro hne
    rw [List.sum_cons,List.sum_cons]
    by_cases e:a=b
    · subst e
      have:x≠y:=fun z=>hne (by rw [z])
      omega
    · have:=ih e;omega
theorem LeL.anti {a b:List Int} (h:LeL a b):LeL b a→a=b:=by
  induction h with
  | nil=>intro _;rfl
  | cons h1 _ ih=>
    intro h
    cases h with
    | cons g1 g2=>rw [ih g2,Int.le_antisymm h1 g1]
theorem wishZ_lip {k:Str} {b m r r':Int} (h:measB k b m=true) (h0:0≤r) (hr:r≤r'):wishZ k b r≤wishZ k b r'∧r - wishZ k b r≤r' - wishZ k b r':=by
  obtain ⟨hk,m0,m24⟩:=measB_cases h
  unfold wishZ
  rcases hk with ⟨rfl,b1,b2⟩ | ⟨rfl,b1,b2⟩
  · rw [if_pos rfl,if_pos rfl]
    have h1:r * b≤r' * b:=Int.mul_le_mul_of_nonneg_right hr (by omega)
    have h2:(r' - r) * b≤(r' - r) * 100:=Int.mul_le_mul_of_nonneg_left b2 (by omega)
    rw [Int.sub_mul] at h2
    omega
  · have e:¬ ("layer" : Str) = "share" := fun z=>share_ne z.symm
    simp only [if_neg e]
    split <;> split <;> omega
theorem takeZ_lip {k:Str} {b m r r':Int} (h:measB k b m=true) (h0:0≤r) (hr:r≤r'):takeZ k b m r≤takeZ k b m r'∧r - takeZ k b m r≤r' - takeZ k b m r':=by
  have:=wishZ_lip h h0 hr
  unfold takeZ
  split <;> split <;> omega
theorem cnt_mono (L:List (Int×Int)) {n n':Nat} (h:n≤n') (j:Nat):cnt L n j≤cnt L n' j:=by
  unfold cnt
  rw [← bearersL_take L h]
  have:=(List.take_sublist n (bearersL L n')).count_le (j:Int)
  omega
theorem crs_mono {cs:List Row} {acc acc':List Int} (h:LeL acc acc') (j:Nat):∀ i,crs cs acc i j≤crs cs acc' i j
  | 0=>Int.le_refl _
  | i+1=>by
    have ih:=crs_mono h (cs:=cs) j i
    rw [crs,crs]
    have hg:=h.get i
    cases e:cs[i]? with
    | none=>rw [crOf,crOf];omega
    | some c=>
      rw [crOf,crOf]
      have:=cnt_mono c.2.2.2.2 (n:=(acc.getD i 0).toNat) (n':=(acc'.getD i 0).toNat) (by omega) j
      omega
theorem plusF_mono {ls:List Int} {f g:Nat→Int} (h:∀ j,f j≤g j):LeL (plusF ls f) (plusF ls g):=
  LeL.of (by rw [plusF_len,plusF_len]) fun i hi=>by
    rw [plusF_len] at hi
    rw [plusF_get _ _ _ hi,plusF_get _ _ _ hi];have:=h i;omega
theorem burd_mono {cs:List Row} {ls acc acc':List Int} (h:LeL acc acc'):LeL (burdL cs ls acc) (burdL cs ls acc'):=plusF_mono fun j=>crs_mono h j _
theorem passL_mono {cs:List Row} {l l':List Int} {B h:Int} (hb:∀ x∈l,0≤x∧x≤B) (hB:0≤B) (hg:∀ c∈cs,GoodC h c) (hl:LeL l l'):∀ i,LeL (passL cs l i).1 (passL cs l' i).1∧LeL (passL cs l i).2 (passL cs l' i).2
  | 0=>⟨hl,.nil⟩
  | i+1=>by
    obtain ⟨i1,i2⟩:=passL_mono hb hB hg hl i
    cases e:cs[i]? with
    | none=>rw [passL,e,passL,e];exact ⟨i1,i2⟩
    | some c=>
      have gc:=hg c (List.mem_of_getElem? e)
      have g1:=getD_bd (passL_bd hb hB hg i) hB c.1.toNat
      have:=takeZ_lip gc.ms g1.1 (i1.get c.1.toNat)
      rw [passL_succ e,passL_succ e]
      exact ⟨i1.set this.2 _,i2.snoc this.1⟩
theorem askL_mono {h:Nat} {cs:List Row} {ls acc acc':List Int} (g:GoodT h cs ls) (hA:AccOk cs acc) (hl:LeL acc acc'):LeL (askL cs ls acc) (askL cs ls acc'):=
  (passL_mono (burd_bd g hA) (by decide) g.cov (burd_mono hl) _).2
def iterL (cs:List Row) (ls acc:List Int):Nat→List Int
  | 0=>acc
  | n+1=>askL cs ls (iterL cs ls acc n)
section
variable {h:Nat} {cs:List Row} {ls acc:List Int}
theorem iter_ok (g:GoodT h cs ls) (hA:AccOk cs acc):∀ n,AccOk cs (iterL cs ls acc n)
  | 0=>hA
  | n+1=>askL_ok g (iter_ok g hA n)
theorem iter_fix {n:Nat} (e:iterL cs ls acc (n+1)=iterL cs ls acc n):∀ k,iterL cs ls acc (n+k)=iterL cs ls acc n
  | 0=>rfl
  | k+1=>by rw [show n+(k+1)=(n+k)+1 from rfl,iterL,iter_fix e k];exact e
theorem iter_up (g:GoodT h cs ls) (hA:AccOk cs acc) (hu:LeL acc (askL cs ls acc)):∀ n,LeL (iterL cs ls acc n) (iterL cs ls acc (n+1))
  | 0=>hu
  | n+1=>askL_mono g (iter_ok g hA n) (iter_up g hA hu n)
theorem iter_down (g:GoodT h cs ls) (hA:AccOk cs acc) (hu:LeL (askL cs ls acc) acc):∀ n,LeL (iterL cs ls acc (n+1)) (iterL cs ls acc n)
  | 0=>hu
  | n+1=>askL_mono g (iter_ok g hA (n+1)) (iter_down g hA hu n)
def mostsL (cs:List Row):List Int:=cs.map fun c=>c.2.2.2.1
theorem AccOk.le (hA:AccOk cs acc):LeL acc (mostsL cs):=LeL.of (by unfold mostsL;rw [List.length_map];exact hA.len) fun i hi=>by
  have hi':i < cs.length:=by rw [← hA.len];exact hi
  have e1:=List.getElem?_eq_getElem hi
  have e2:=List.getElem?_eq_getElem hi'
  unfold mostsL
  rw [getD_of e1,getD_of (show (cs.map fun c=>c.2.2.2.1)[i]? = some cs[i].2.2.2.1 by rw [List.getElem?_map,e2];rfl)]
  exact (hA.bd i _ _ e2 e1).2
theorem AccOk.zero (hA:AccOk cs acc):LeL (List.replicate cs.length 0) acc:=LeL.of (by rw [List.length_replicate];exact hA.len.symm) fun i hi=>by
  rw [List.length_replicate] at hi
  have e1:=List.getElem?_eq_getElem (l:=acc) (i:=i) (by rw [hA.len];exact hi)
  rw [getD_of e1,getD_of (show (List.replicate cs.length (0:Int))[i]? = some 0 by simp [hi])]
  exact (hA.bd i _ _ (List.getElem?_eq_getElem hi) e1).1
theorem sum_le24:∀ {l:List Int},(∀ x∈l,x≤24)→l.sum≤24 * (l.length:Int)
  | [],_=>by simp
  | x :: r,h=>by
    have ih:=sum_le24 (l:=r) fun y hy=>h y (List.mem_cons_of_mem _ hy)
    have:=h x List.mem_cons_self
    rw [List.sum_cons,List.length_cons];omega
theorem AccOk.sums (g:GoodT h cs ls) (hA:AccOk cs acc):0≤acc.sum∧acc.sum≤240:=by
  have h1:=hA.le.sum
  have h2:=hA.zero.sum
  rw [Mt.sum_replicate0] at h2
  have h3:(mostsL cs).sum≤24 * ((mostsL cs).length:Int):=sum_le24 fun x hx=>by
    unfold mostsL at hx
    obtain ⟨c,hc,rfl⟩:=List.mem_map.mp hx
    exact (g.cov c hc).most.2
  have h4:(mostsL cs).length=cs.length:=List.length_map _
  have h5:=g.c10
  rw [h4] at h3
  omega
def comeL (cs:List Row) (ls acc:List Int):List Int:=iterL cs ls acc 241
def Moves (cs:List Row) (ls acc:List Int):Prop:=LeL acc (askL cs ls acc)∨LeL (askL cs ls acc) acc
theorem iter_stop (g:GoodT h cs ls) (hA:AccOk cs acc) (hm:Moves cs ls acc) {n:Nat} (hne:iterL cs ls acc (n+1)≠iterL cs ls acc n):n < 240:=by
  have back:∀ n,iterL cs ls acc (n+2)≠iterL cs ls acc (n+1)→iterL cs ls acc (n+1)≠iterL cs ls acc n:=fun n hn z=>hn (iter_fix z 2 |>.trans (iter_fix z 1).symm)
  rcases hm with hu | hd
  · have key:∀ n,iterL cs ls acc (n+1)≠iterL cs ls acc n→(n:Int)+1≤(iterL cs ls acc (n+1)).sum:=fun n=>by
      induction n with
      | zero=>
        intro hn
        have:=(iter_up g hA hu 0).sum_lt (Ne.symm hn)
        have:=(AccOk.sums g (iter_ok g hA 0)).1
        omega
      | succ n ih=>
        intro hn
        have h1:=ih (back n hn)
        have:=(iter_up g hA hu (n+1)).sum_lt (Ne.symm hn)
        push_cast;omega
    have h1:=key n hne
    have h2:=(AccOk.sums g (iter_ok g hA (n+1))).2
    omega
  · have key:∀ n,iterL cs ls acc (n+1)≠iterL cs ls acc n→(iterL cs ls acc (n+1)).sum≤240 - ((n:Int)+1):=fun n=>by
      induction n with
      | zero=>
        intro hn
        have:=(iter_down g hA hd 0).sum_lt hn
        have:=(AccOk.sums g (iter_ok g hA 0)).2
        simp at *;omega
      | succ n ih=>
        intro hn
        have h1:=ih (back n hn)
        have:=(iter_down g hA hd (n+1)).sum_lt hn
        push_cast;omega
    have h1:=key n hne
    have h2:=(AccOk.sums g (iter_ok g hA (n+1))).1
    omega
theorem come_fix (g:GoodT h cs ls) (hA:AccOk cs acc) (hm:Moves cs ls acc):askL cs ls (comeL cs ls acc)=comeL cs ls acc:=by
  by_cases e:iterL cs ls acc (241+1)=iterL cs ls acc 241
  · exact e
  · have:=iter_stop g hA hm e;omega
theorem come_of (g:GoodT h cs ls) (hA:AccOk cs acc) (hm:Moves cs ls acc) {n:Nat} (e:iterL cs ls acc (n+1)=iterL cs ls acc n):iterL cs ls acc n=comeL cs ls acc:=by
  by_cases hn:n≤241
  · have:=iter_fix e (241 - n)
    rw [show n+(241 - n)=241 by omega] at this
    exact this.symm
  · have:=iter_fix (n:=241) (come_fix g hA hm) (n - 241)
    rw [show 241+(n - 241)=n by omega] at this
    exact this
theorem acc_zero (g:GoodT h cs ls):AccOk cs (List.replicate cs.length 0):=⟨List.length_replicate,fun i c b e1 e2=>by
  rw [List.getElem?_replicate] at e2
  split at e2
  · cases e2;exact ⟨Int.le_refl _,(g.cov c (List.mem_of_getElem? e1)).most.1⟩
  · cases e2⟩
theorem acc_mosts (g:GoodT h cs ls):AccOk cs (mostsL cs):=⟨List.length_map _,fun i c b e1 e2=>by
  unfold mostsL at e2
  rw [List.getElem?_map,e1] at e2
  cases e2
  exact ⟨(g.cov c (List.mem_of_getElem? e1)).most.1,Int.le_refl _⟩⟩
theorem moves_zero (g:GoodT h cs ls):Moves cs ls (List.replicate cs.length 0):=.inl (askL_ok g (acc_zero g)).zero
theorem moves_mosts (g:GoodT h cs ls):Moves cs ls (mostsL cs):=.inr (askL_ok g (acc_mosts g)).le
theorem iter_mono (g:GoodT h cs ls) {acc':List Int} (hA:AccOk cs acc) (hl:LeL acc acc'):∀ n,LeL (iterL cs ls acc n) (iterL cs ls acc' n)
  | 0=>hl
  | n+1=>askL_mono g (iter_ok g hA n) (iter_mono g hA hl n)
end
def spinL (cs:List Row) (ls:List Int):List Int:=(List.range cs.length).map fun i=>(comeL cs ls (mostsL cs)).getD i 0 - (comeL cs ls (List.replicate cs.length 0)).getD i 0
theorem spinL_len {cs:List Row} {ls:List Int}:(spinL cs ls).length=cs.length:=by unfold spinL;rw [List.length_map,List.length_range]
theorem spinL_get {cs:List Row} {ls:List Int} {i:Nat} (hi:i < cs.length):(spinL cs ls)[i]? = some ((comeL cs ls (mostsL cs)).getD i 0 - (comeL cs ls (List.replicate cs.length 0)).getD i 0):=by
  unfold spinL;rw [List.getElem?_map,List.getElem?_range hi];rfl
theorem least_le {h:Nat} {cs:List Row} {ls acc:List Int} (g:GoodT h cs ls) (hA:AccOk cs acc):LeL (comeL cs ls (List.replicate cs.length 0)) (comeL cs ls acc):=iter_mono g (acc_zero g) hA.zero 241
end Rc
namespace Rc
open PySem PySem.Spec PyProof.Rows L2
section
variable {h:Nat} {cs:List Row} {ls acc:List Int} {f:Int→Int→Int}
end
end Rc
namespace Rc
open PySem PySem.Spec PyProof.Rows L2
section
variable {h:Nat} {cs:List Row} {ls acc:List Int}
theorem come_ok (g:GoodT h cs ls) (hA:AccOk cs acc):AccOk cs (comeL cs ls acc):=iter_ok g hA 241
theorem come_of_fix (e:askL cs ls acc=acc):∀ n,iterL cs ls acc n=acc
  | 0=>rfl
  | n+1=>by rw [iterL,come_of_fix e n,e]
end
end Rc
namespace Rc
open PySem PySem.Spec PyProof.Rows L2
def keptL (cs:List Row) (ls acc:List Int):List Int:=(passL cs (burdL cs ls acc) cs.length).1
theorem keptL_len (cs:List Row) (ls acc:List Int):(keptL cs ls acc).length=ls.length:=by unfold keptL;rw [passL_len1,burdL_len]
theorem passL_at {cs:List Row} {l0:List Int} {i:Nat} {c:Row} (hc:cs[i]? = some c):∀ n,i < n→n≤cs.length→(passL cs l0 n).2[i]? = some (takeZ c.2.1 c.2.2.1 c.2.2.2.1 ((passL cs l0 i).1.getD c.1.toNat 0))
  | 0,h,_=>absurd h (Nat.not_lt_zero _)
  | n+1,h,hn=>by
    obtain ⟨c',h'⟩:=get_some (xs:=cs) hn
    have hl:=passL_len2 cs l0 n (by omega)
    rw [passL_succ h']
    by_cases e:i=n
    · subst e
      rw [hc] at h';cases h'
      rw [List.getElem?_append_right (by omega),hl,Nat.sub_self];rfl
    · rw [List.getElem?_append_left (by omega)]
      exact passL_at hc n (by omega) (by omega)
theorem kept_step {cs:List Row} {ls acc:List Int} {i:Nat} {c:Row} (ha:askL cs ls acc=acc) (hc:cs[i]? = some c):(passL cs (burdL cs ls acc) (i+1)).1=(passL cs (burdL cs ls acc) i).1.set c.1.toNat ((passL cs (burdL cs ls acc) i).1.getD c.1.toNat 0 - acc.getD i 0):=by
  have h1:=passL_at (l0:=burdL cs ls acc) hc cs.length (get_lt hc) (Nat.le_refl _)
  have h2:(askL cs ls acc)[i]? = some (takeZ c.2.1 c.2.2.1 c.2.2.2.1 ((passL cs (burdL cs ls acc) i).1.getD c.1.toNat 0)):=h1
  rw [ha] at h2
  rw [passL_succ hc,getD_of h2]
theorem sum_setD:∀ {l:List Int} {j:Nat} (x:Int),j < l.length→(l.set j x).sum=l.sum - l.getD j 0+x
  | a :: r,0,x,_=>by rw [List.set_cons_zero,List.sum_cons,List.sum_cons,List.getD_cons_zero];omega
  | a :: r,j+1,x,h=>by
    rw [List.set_cons_succ,List.sum_cons,List.sum_cons,List.getD_cons_succ,sum_setD x (by simpa using h)];omega
theorem passL_sum {cs:List Row} {l0:List Int} (hb:∀ c∈cs,c.1.toNat < l0.length):∀ i,(passL cs l0 i).1.sum+(passL cs l0 i).2.sum=l0.sum
  | 0=>by simp [passL]
  | i+1=>by
    have ih:=passL_sum hb i
    cases e:cs[i]? with
    | none=>rw [passL,e];exact ih
    | some c=>
      rw [passL_succ e,sum_setD _ (by rw [passL_len1];exact hb c (List.mem_of_getElem? e)),List.sum_append,List.sum_singleton]
      omega
def sumN (f:Nat→Int):Nat→Int
  | 0=>0
  | n+1=>sumN f n+f n
theorem sumN_add (f g:Nat→Int):∀ n,sumN (fun j=>f j+g j) n=sumN f n+sumN g n
  | 0=>rfl
  | n+1=>by rw [sumN,sumN,sumN,sumN_add f g n];omega
theorem sumN_zero:∀ n,sumN (fun _=>0) n=0
  | 0=>rfl
  | n+1=>by rw [sumN,sumN_zero n];rfl
theorem sumN_congr {f g:Nat→Int}:∀ n,(∀ j,j < n→f j=g j)→sumN f n=sumN g n
  | 0,_=>rfl
  | n+1,h=>by rw [sumN,sumN,sumN_congr n fun j hj=>h j (by omega),h n (by omega)]
theorem sum_sumN (l:List Int):l.sum=sumN (fun j=>l.getD j 0) l.length:=by
  have key:∀ n,n≤l.length→(l.take n).sum=sumN (fun j=>l.getD j 0) n:=fun n=>by
    induction n with
    | zero=>intro _;simp [sumN]
    | succ n ih=>
      intro hn
      have e:=List.getElem?_eq_getElem (l:=l) (i:=n) hn
      rw [List.take_add_one,e,List.sum_append,ih (by omega),sumN,getD_of e];simp
  have:=key l.length (Nat.le_refl _)
  rwa [List.take_length] at this
theorem plusF_sum (ls:List Int) (f:Nat→Int):(plusF ls f).sum=ls.sum+sumN f ls.length:=by
  rw [sum_sumN,sum_sumN ls,plusF_len,← sumN_add]
  exact sumN_congr _ fun j hj=>plusF_get ls f j hj
theorem sumN_one {k:Nat}:∀ n,sumN (fun j=>if (j:Int)=(k:Int) then 1 else 0) n=if k < n then 1 else 0
  | 0=>by simp [sumN]
  | n+1=>by
    rw [sumN,sumN_one n]
    split <;> split <;> split <;> omega
theorem count_sum {h:Nat}:∀ {l:List Int},(∀ x∈l,0≤x∧x < (h:Int))→sumN (fun j=>((l.count (j:Int):Nat):Int)) h=(l.length:Int)
  | [],_=>by simp [sumN_zero]
  | x :: r,hx=>by
    have ih:=count_sum (l:=r) fun y hy=>hx y (List.mem_cons_of_mem _ hy)
    have h0:=hx x List.mem_cons_self
    have e:sumN (fun j=>(((x :: r).count (j:Int):Nat):Int)) h=sumN (fun j=>((r.count (j:Int):Nat):Int)+if (j:Int)=((x.toNat:Nat):Int) then 1 else 0) h:=by
      refine sumN_congr _ fun j _=>?_
      rw [List.count_cons]
      by_cases z:(j:Int)=((x.toNat:Nat):Int)
      · rw [if_pos z,if_pos (by simp;omega)];push_cast;rfl
      · rw [if_neg z,if_neg (by simp;omega)];push_cast;rfl
    rw [e,sumN_add,ih,sumN_one,if_pos (by omega),List.length_cons];push_cast;rfl
theorem cnt_sum {h:Nat} {L:List (Int×Int)} (h1:1≤L.length) (hb:∀ l∈L,0≤l.1∧l.1 < (h:Int)) (n:Nat):sumN (cnt L n) h=(n:Int):=by
  have:=count_sum (h:=h) (l:=bearersL L n) fun x hx=>by
    obtain ⟨l,hl,rfl⟩:=bearersL_mem h1 hx
    exact hb l hl
  rw [bearersL_len] at this
  exact this
section
variable {h:Nat} {cs:List Row} {ls acc:List Int}
theorem crs_sum (g:GoodT h cs ls) (hA:AccOk cs acc):∀ i,i≤cs.length→sumN (crs cs acc i) h=(acc.take i).sum
  | 0,_=>by
    have:crs cs acc 0=fun _=>0:=rfl
    rw [this,sumN_zero];simp
  | i+1,hi=>by
    obtain ⟨c,hc⟩:=get_some (xs:=cs) hi
    have hi':i < acc.length:=by rw [hA.len];exact hi
    have e:=List.getElem?_eq_getElem hi'
    have gc:=g.cov c (List.mem_of_getElem? hc)
    have hb:=hA.bd i c _ hc e
    have e1:crs cs acc (i+1)=fun j=>crs cs acc i j+cnt c.2.2.2.2 (acc.getD i 0).toNat j:=by
      funext j;rw [crs,hc,crOf]
    rw [e1,sumN_add,crs_sum g hA i (by omega),cnt_sum gc.gl.l1 (fun l hl=>⟨(gc.gl.all l hl).1,(gc.ot l hl).1⟩),List.take_add_one,e,List.sum_append,getD_of e]
    simp only [Option.toList_some,List.sum_singleton]
    omega
theorem burd_sum (g:GoodT h cs ls) (hA:AccOk cs acc):(burdL cs ls acc).sum=ls.sum+acc.sum:=by
  unfold burdL
  rw [plusF_sum,g.ll,crs_sum g hA _ (Nat.le_refl _),← hA.len,List.take_length]
theorem house_lt (g:GoodT h cs ls):∀ c∈cs,c.1.toNat < ls.length:=fun c hc=>by
  have:=(g.cov c hc).ho
  rw [g.ll];omega
theorem kept_sum (g:GoodT h cs ls) (hA:AccOk cs acc) (ha:askL cs ls acc=acc):(keptL cs ls acc).sum=ls.sum:=by
  have h1:=passL_sum (cs:=cs) (l0:=burdL cs ls acc) (fun c hc=>by rw [burdL_len];exact house_lt g c hc) cs.length
  have h2:(passL cs (burdL cs ls acc) cs.length).2=acc:=ha
  rw [h2,burd_sum g hA] at h1
  unfold keptL;omega
theorem burd_mono2 {ls' acc':List Int} (h1:LeL ls ls') (h2:LeL acc acc'):LeL (burdL cs ls acc) (burdL cs ls' acc'):=
  LeL.of (by rw [burdL_len,burdL_len];exact h1.len) fun i hi=>by
    rw [burdL_len] at hi
    unfold burdL
    rw [plusF_get _ _ _ hi,plusF_get _ _ _ (by rw [← h1.len];exact hi)]
    have:=h1.get i
    have:=crs_mono (cs:=cs) h2 i cs.length
    omega
theorem ask_mono2 (g:GoodT h cs ls) (hA:AccOk cs acc) {ls' acc':List Int} (h1:LeL ls ls') (h2:LeL acc acc'):LeL (askL cs ls acc) (askL cs ls' acc'):=
  (passL_mono (burd_bd g hA) (by decide) g.cov (burd_mono2 h1 h2) _).2
theorem kept_mono (g:GoodT h cs ls) (hA:AccOk cs acc) {ls' acc':List Int} (h1:LeL ls ls') (h2:LeL acc acc'):LeL (keptL cs ls acc) (keptL cs ls' acc'):=
  (passL_mono (burd_bd g hA) (by decide) g.cov (burd_mono2 h1 h2) _).1
theorem iter_mono2 (g:GoodT h cs ls) (hA:AccOk cs acc) {ls' acc':List Int} (h1:LeL ls ls') (h2:LeL acc acc'):∀ n,LeL (iterL cs ls acc n) (iterL cs ls' acc' n)
  | 0=>h2
  | n+1=>ask_mono2 g (iter_ok g hA n) h1 (iter_mono2 g hA h1 h2 n)
def leastL (cs:List Row) (ls:List Int):List Int:=comeL cs ls (List.replicate cs.length 0)
theorem least_ok (g:GoodT h cs ls):AccOk cs (leastL cs ls):=come_ok g (acc_zero g)
theorem least_fix (g:GoodT h cs ls):askL cs ls (leastL cs ls)=leastL cs ls:=come_fix g (acc_zero g) (moves_zero g)
theorem least_mono (g:GoodT h cs ls) {ls':List Int} (h1:LeL ls ls'):LeL (leastL cs ls) (leastL cs ls'):=iter_mono2 g (acc_zero g) h1 (LeL.refl _) 241
def moreL (ls:List Int) (j:Nat) (k:Int):List Int:=ls.set j (ls.getD j 0+k)
theorem moreL_len (ls:List Int) (j:Nat) (k:Int):(moreL ls j k).length=ls.length:=List.length_set
theorem more_le {j:Nat} {k:Int} (hk:0≤k):LeL ls (moreL ls j k):=LeL.of (by rw [moreL_len]) fun i hi=>by
  unfold moreL
  by_cases e:j=i
  · subst e
    rw [getD_of (show (ls.set j (ls.getD j 0+k))[j]? = some (ls.getD j 0+k) by rw [List.getElem?_set,if_pos rfl,if_pos hi])];omega
  · rw [List.getD_eq_getElem?_getD,List.getD_eq_getElem?_getD,List.getElem?_set,if_neg e];exact Int.le_refl _
theorem more_sum {j:Nat} {k:Int} (hj:j < ls.length):(moreL ls j k).sum=ls.sum+k:=by unfold moreL;rw [sum_setD _ hj];omega
theorem more_good (g:GoodT h cs ls) {j:Nat} {k:Int} (h0:0≤ls.getD j 0+k) (h9:ls.getD j 0+k≤9999):GoodT h cs (moreL ls j k):=
  ⟨g.h1,g.h6,g.c10,g.cov,by rw [moreL_len];exact g.ll,fun x hx=>by
    unfold moreL at hx
    rcases List.mem_or_eq_of_mem_set hx with hx | rfl
    · exact g.lb x hx
    · exact ⟨h0,h9⟩⟩
theorem one_more:∀ {a b:List Int},LeL a b→b.sum=a.sum+1→∃ f,f < a.length∧b=moreL a f 1
  | [],[],.nil,h=>by simp at h
  | x :: a,y :: b,.cons h1 h2,hs=>by
    rw [List.sum_cons,List.sum_cons] at hs
    by_cases e:a=b
    · subst e
      have:y=x+1:=by omega
      exact ⟨0,Nat.succ_pos _,by rw [this];rfl⟩
    · have hlt:=h2.sum_lt e
      have exy:x=y:=by omega
      subst exy
      obtain ⟨f,hf,eb⟩:=one_more h2 (by omega)
      refine ⟨f+1,by simpa using hf,?_⟩
      rw [eb];rfl
theorem fall_one (g:GoodT h cs ls) {j:Nat} (hj:j < h) (h9:ls.getD j 0+1≤9999):∃ f,f < h∧keptL cs (moreL ls j 1) (leastL cs (moreL ls j 1))=moreL (keptL cs ls (leastL cs ls)) f 1:=by
  have hj':j < ls.length:=by rw [g.ll];exact hj
  have g':=more_good (k:=1) g (by have:=g.lb _ (getD_mem hj');omega) h9
  have hm:LeL ls (moreL ls j 1):=more_le (by decide)
  have h1:=kept_mono g (least_ok g) hm (least_mono g hm)
  obtain ⟨f,hf,e⟩:=one_more h1 (by rw [kept_sum g' (least_ok g') (least_fix g'),kept_sum g (least_ok g) (least_fix g),more_sum hj'])
  rw [keptL_len,g.ll] at hf
  exact ⟨f,hf,e⟩
end
end Rc
namespace Rc
open PySem PySem.Spec PyProof.Rows L2
section
variable {C:Addr} {K:Frag} {H H':Hp} {dh r lo sp x:Addr} {ds:List Int} {us:List V} {cs:List Row} {ls:List Int} {ss:List Addr} {h:Nat}
end
theorem fm_none {β:Type} {g:Nat→Option β}:∀ n,(∀ i,i < n→g i=none)→(List.range n).filterMap g=[]
  | 0,_=>rfl
  | n+1,h=>by rw [List.range_succ,List.filterMap_append,fm_none n fun i hi=>h i (by omega)];simp [h n (by omega)]
theorem fm_one {β:Type} {g:Nat→Option β} {f:Nat} {v:β} (h1:g f=some v):∀ n,f < n→(∀ i,i < n→i≠f→g i=none)→(List.range n).filterMap g=[v]
  | 0,hf,_=>absurd hf (Nat.not_lt_zero _)
  | n+1,hf,h2=>by
    rw [List.range_succ,List.filterMap_append]
    by_cases e:f=n
    · subst e
      rw [fm_none f fun i hi=>h2 i (by omega) (by omega)];simp [h1]
    · rw [fm_one h1 n (by omega) fun i hi hne=>h2 i (by omega) hne];simp [h2 n (by omega) (fun z=>e z.symm)]
theorem more_get {ls:List Int} {f:Nat} {k:Int} (hf:f < ls.length) (i:Nat):(moreL ls f k).getD i 0=ls.getD i 0+if i=f then k else 0:=by
  unfold moreL
  rw [List.getD_eq_getElem?_getD,List.getElem?_set]
  by_cases e:f=i
  · subst e;rw [if_pos rfl,if_pos hf,if_pos rfl];rfl
  · rw [if_neg e,if_neg (fun z=>e z.symm),← List.getD_eq_getElem?_getD];omega
theorem upd_same_of {H H1:Hp} {r:Addr} {o:HO} (s:Same H H1) (hr:H r=none):Same H (upd H1 r o):=fun b o e=>by rw [upd_ne (ne_of_none e hr)];exact s b o e
end Rc
namespace Rc
open PySem PySem.Spec PyProof.Rows L2
section
variable {h:Nat} {cs:List Row} {ls a b c:List Int}
end
end Rc
namespace Rc
open PySem PySem.Spec PyProof.Rows L2
def standB (cs:List Row) (ls acc:List Int) (c b:Int):Bool:=decide (0≤c∧c < (cs.length:Int)∧acc.getD c.toNat 0 < b∧b≤(askL cs ls acc).getD c.toNat 0)
def walkL (cs:List Row) (ls:List Int):List (Int×Int)→List Int→Option (List Int)
  | [],acc=>some acc
  | s :: r,acc=>if standB cs ls acc s.1 s.2=true then walkL cs ls r (acc.set s.1.toNat s.2) else none
section
variable {h:Nat} {cs:List Row} {ls acc:List Int}
theorem stand_ok (g:GoodT h cs ls) (hA:AccOk cs acc) {c b:Int} (hs:standB cs ls acc c b=true):AccOk cs (acc.set c.toNat b):=by
  obtain ⟨h0,h1,h2,h3⟩:=of_decide_eq_true hs
  have ok:=askL_ok g hA
  have hc:c.toNat < cs.length:=by omega
  refine ⟨by rw [List.length_set];exact hA.len,fun i cc x e1 e2=>?_⟩
  rw [List.getElem?_set] at e2
  by_cases e:c.toNat=i
  · rw [if_pos e,if_pos (by rw [hA.len];omega)] at e2
    cases e2
    subst e
    have hl:c.toNat < (askL cs ls acc).length:=by rw [ok.len];exact hc
    have hl2:c.toNat < acc.length:=by rw [hA.len];exact hc
    have q1:=ok.bd _ cc _ e1 (List.getElem?_eq_getElem hl)
    have q2:=hA.bd _ cc _ e1 (List.getElem?_eq_getElem hl2)
    rw [getD_of (List.getElem?_eq_getElem hl)] at h3
    rw [getD_of (List.getElem?_eq_getElem hl2)] at h2
    omega
  · rw [if_neg e] at e2
    exact hA.bd i cc x e1 e2
theorem walk_snoc:∀ {st:List (Int×Int)} {a a':List Int} {s:Int×Int},walkL cs ls st a=some a'→standB cs ls a' s.1 s.2=true→walkL cs ls (st ++ [s]) a=some (a'.set s.1.toNat s.2)
  | [],a,a',s,e,hs=>by cases e;show (if _ then _ else _)=_;rw [if_pos hs];rfl
  | x :: r,a,a',s,e,hs=>by
    rw [walkL] at e
    by_cases hx:standB cs ls a x.1 x.2=true
    · rw [if_pos hx] at e
      rw [List.cons_append,walkL,if_pos hx]
      exact walk_snoc e hs
    · rw [if_neg hx] at e;cases e
theorem walk_ok (g:GoodT h cs ls):∀ {st:List (Int×Int)} {a a':List Int},AccOk cs a→walkL cs ls st a=some a'→AccOk cs a'
  | [],a,a',hA,e=>by cases e;exact hA
  | x :: r,a,a',hA,e=>by
    rw [walkL] at e
    by_cases hx:standB cs ls a x.1 x.2=true
    · rw [if_pos hx] at e;exact walk_ok g (stand_ok g hA hx) e
    · rw [if_neg hx] at e;cases e
theorem walk_le (g:GoodT h cs ls) {e:List Int} (hE:LeL (askL cs ls e) e):∀ {st:List (Int×Int)} {a a':List Int},AccOk cs a→LeL a e→walkL cs ls st a=some a'→LeL a' e
  | [],a,a',hA,hl,w=>by cases w;exact hl
  | x :: r,a,a',hA,hl,w=>by
    rw [walkL] at w
    by_cases hx:standB cs ls a x.1 x.2=true
    · rw [if_pos hx] at w
      obtain ⟨h0,h1,h2,h3⟩:=of_decide_eq_true hx
      refine walk_le g hE (stand_ok g hA hx) (LeL.of (by rw [List.length_set];exact hl.len) fun i hi=>?_) w
      rw [List.length_set] at hi
      rw [List.getD_eq_getElem?_getD,List.getElem?_set]
      by_cases ei:x.1.toNat=i
      · rw [if_pos ei,if_pos (by omega)]
        have q1:=(askL_mono g hA hl).get i
        have q2:=hE.get i
        subst ei
        show x.2≤_
        omega
      · rw [if_neg ei,← List.getD_eq_getElem?_getD];exact hl.get i
    · rw [if_neg hx] at w;cases w
end
theorem fm_filter {p:Nat→Bool}:∀ n,(List.range n).filterMap (fun i=>if p i=true then some (V.int (i:Nat)) else none)=((List.range n).filter p).map fun i=>V.int ((i:Nat):Int)
  | 0=>rfl
  | n+1=>by
    rw [List.range_succ,List.filterMap_append,fm_filter n,List.filter_append,List.map_append]
    congr 1
    cases e:p n <;> simp [e]
end Rc
namespace Rc
open PySem PySem.Spec PyProof.Rows L2
theorem rn1:¬ (("ground" : Str) = "standing"):=by decide +kernel
def rdF (t s:Addr):List (Str×V):=putF "standing" (.ref s) (putF "ground" (.ref t) [])
theorem rdF_standing {t s:Addr}:(rdF t s).lookup ("standing" : Str)=some (.ref s):=by unfold rdF;rw [lookup_putF,if_pos rfl]
theorem rdF_ground {t s:Addr}:(rdF t s).lookup ("ground" : Str)=some (.ref t):=by unfold rdF;rw [lookup_putF,if_neg rn1,lookup_putF,if_pos rfl]
theorem rdF_no {t s:Addr} {m:Str} (h1:¬ m = "standing") (h2:¬ m = "ground"):(rdF t s).lookup m=none:=by unfold rdF;rw [lookup_putF,if_neg h1,lookup_putF,if_neg h2];rfl
theorem TabAt.toF {C:Addr} {K:Frag} {H:Hp} {t s:Addr} {h:Nat} {cs:List Row} {ls:List Int} (x:TabAt C K H t h cs ls) (hs:H s=none):TabF (fun z=>z≠s) C K H t h cs ls:=by
  obtain ⟨dx,a,b,c,us,qs,h1,h2,h3,h4,h5,h6,h7⟩:=x.ex
  refine ⟨⟨dx,a,b,c,us,qs,h1,h2,h3,h4,h5,h6,h7,ne_of_none h2 hs,ne_of_none h4 hs,ne_of_none h5 hs,fun q hq=>?_⟩,x.good⟩
  obtain ⟨i,hi⟩:=List.mem_iff_getElem?.mp hq
  obtain ⟨cv,hcv⟩:=get_some (xs:=cs) (i:=i) (by rw [← h6];exact get_lt hi)
  exact ne_of_none (h7 i cv q hcv hi) hs
theorem TabAt.updI {C C' d:Addr} {K:Frag} {H:Hp} {t x:Addr} {o:HO} {h:Nat} {cs:List Row} {ls:List Int} (y:TabAt C K H t h cs ls) (hx:H x=some (.ins C' d [])):TabAt C K (upd H x o) t h cs ls:=by
  obtain ⟨dx,a,b,c,us,qs,h1,h2,h3,h4,h5,h6,h7⟩:=y.ex
  have nt:t≠x:=fun z=>by
    rw [z,hx] at h1
    have e:=tabF_houses (h:=(h:Int)) (a:=a) (b:=b) (c:=c)
    cases h1
  have nl:∀ {q:Addr} {xs:List V},H q=some (.lst xs)→q≠x:=fun e z=>by rw [z,hx] at e;cases e
  refine ⟨⟨dx,a,b,c,us,qs,by rw [upd_ne nt];exact h1,by rw [upd_ne (nl h2)];exact h2,?_,by rw [upd_ne (nl h4)];exact h4,by rw [upd_ne (nl h5)];exact h5,h6,fun i cv q e1 e2=>?_⟩,y.good⟩
  · exact CovsAt.but h3 hx (fun _ z=>by cases z) (fun _ _ z=>by cases z) fun b o n e=>by rw [upd_ne n];exact e
  · have:=h7 i cv q e1 e2
    rw [upd_ne (nl this)];exact this
structure RdAt (CT CR:Addr) (K:Frag) (H:Hp) (x s t:Addr) (h:Nat) (cs:List Row) (ls acc:List Int):Prop where
  obj:∃ dx,H x=some (.ins CR dx (rdF t s))
  tab:TabF (fun z=>z≠s) CT K H t h cs ls
  st:H s=some (.lst (acc.map V.int))
  ok:AccOk cs acc
section
variable {CT CR:Addr} {K:Frag} {H H':Hp} {x s t:Addr} {h:Nat} {cs:List Row} {ls acc:List Int}
theorem RdAt.same (y:RdAt CT CR K H x s t h cs ls acc) (q:Same H H'):RdAt CT CR K H' x s t h cs ls acc:=
  ⟨let ⟨dx,e⟩:=y.obj;⟨dx,q _ _ e⟩,y.tab.same q,q _ _ y.st,y.ok⟩
theorem RdAt.good (y:RdAt CT CR K H x s t h cs ls acc):GoodT h cs ls:=y.tab.good
theorem RdAt.tabAt (y:RdAt CT CR K H x s t h cs ls acc):TabAt CT K H t h cs ls:=y.tab.tab
theorem RdAt.put (y:RdAt CT CR K H x s t h cs ls acc) {acc':List Int} (ok:AccOk cs acc'):RdAt CT CR K (upd H s (.lst (acc'.map V.int))) x s t h cs ls acc':=by
  obtain ⟨dx,e⟩:=y.obj
  have nx:x≠s:=fun z=>by rw [z,y.st] at e;cases e
  exact ⟨⟨dx,by rw [upd_ne nx];exact e⟩,y.tab.updL y.st (fun z=>z rfl),upd_same,ok⟩
theorem RdAt.updL {z:Addr} {zs:List V} {o:HO} (y:RdAt CT CR K H x s t h cs ls acc) (hz:H z=some (.lst zs)) (nz:z≠s) (ht:TabF (fun q=>q≠z) CT K H t h cs ls):RdAt CT CR K (upd H z o) x s t h cs ls acc:=by
  obtain ⟨dx,e⟩:=y.obj
  have nx:x≠z:=fun q=>by rw [q,hz] at e;cases e
  obtain ⟨dx',a,b,c,us,qs,h1,h2,h3,h4,h5,h6,h7,f1,f2,f3,f4⟩:=y.tab.ex
  obtain ⟨dx2,a2,b2,c2,us2,qs2,k1,k2,k3,k4,k5,k6,k7,g1,g2,g3,g4⟩:=ht.ex
  have e2:dx2=dx'∧tabF h a2 b2 c2=tabF h a b c:=by rw [h1] at k1;cases k1;exact ⟨rfl,rfl⟩
  have ea:a2=a:=by have q1:=tabF_covers (h:=(h:Int)) (a:=a2) (b:=b2) (c:=c2);rw [e2.2,tabF_covers] at q1;cases q1;rfl
  have eb:b2=b:=by have q1:=tabF_losses (h:=(h:Int)) (a:=a2) (b:=b2) (c:=c2);rw [e2.2,tabF_losses] at q1;cases q1;rfl
  have ec:c2=c:=by have q1:=tabF_bearers (h:=(h:Int)) (a:=a2) (b:=b2) (c:=c2);rw [e2.2,tabF_bearers] at q1;cases q1;rfl
  subst ea eb ec
  have eq:qs2.map V.ref=qs.map V.ref:=by
    rw [h5] at k5
    exact (HO.lst.inj (Option.some.inj k5)).symm
  refine ⟨⟨dx,by rw [upd_ne nx];exact e⟩,⟨⟨dx',a2,b2,c2,us,qs,?_,?_,h3.updL hz,?_,?_,h6,fun i cv q z1 z2=>?_,f1,f2,f3,f4⟩,y.good⟩,by rw [upd_ne (fun q=>nz q.symm)];exact y.st,y.ok⟩
  · rw [upd_ne (ne_of h1 hz (by intro z;cases z))];exact h1
  · rw [upd_ne g1];exact h2
  · rw [upd_ne g2];exact h4
  · rw [upd_ne g3];exact h5
  · have hq:q∈qs2:=by
      have:V.ref q∈qs2.map V.ref:=by rw [eq];exact List.mem_map.mpr ⟨q,List.mem_of_getElem? z2,rfl⟩
      obtain ⟨q',hq',e'⟩:=List.mem_map.mp this
      cases e';exact hq'
    rw [upd_ne (g4 q hq)];exact h7 i cv q z1 z2
def waitL (cs:List Row) (ls acc:List Int):List Nat:=(List.range cs.length).filter fun i=>decide (acc.getD i 0 < (askL cs ls acc).getD i 0)
theorem wait_mem {j:Nat}:j∈waitL cs ls acc↔j < cs.length∧acc.getD j 0 < (askL cs ls acc).getD j 0:=by
  unfold waitL
  rw [List.mem_filter,List.mem_range,decide_eq_true_eq]
theorem wait_nodup:(waitL cs ls acc).Nodup:=List.Pairwise.filter _ List.nodup_range
theorem wait_len:(waitL cs ls acc).length≤cs.length:=Nat.le_trans (List.length_filter_le _ _) (by rw [List.length_range];exact Nat.le_refl _)
theorem backed_set (g:GoodT h cs ls) (hA:AccOk cs acc) (hb:LeL acc (askL cs ls acc)) {j:Nat} {v:Int} (h1:acc.getD j 0≤v) (h2:v≤(askL cs ls acc).getD j 0) (hj:j < cs.length):AccOk cs (acc.set j v)∧LeL acc (acc.set j v)∧LeL (acc.set j v) (askL cs ls (acc.set j v)):=by
  have ok:=askL_ok g hA
  have hal:=hA.len
  have hAs:AccOk cs (acc.set j v):=⟨by rw [List.length_set];exact hal,fun i c b e1 e2=>by
    rw [List.getElem?_set] at e2
    by_cases e:j=i
    · subst e
      rw [if_pos rfl,if_pos (by omega)] at e2
      cases e2
      have l1:j < acc.length:=by omega
      have l2:j < (askL cs ls acc).length:=by rw [ok.len];omega
      have q1:=hA.bd j c _ e1 (List.getElem?_eq_getElem l1)
      have q2:=ok.bd j c _ e1 (List.getElem?_eq_getElem l2)
      rw [getD_of (List.getElem?_eq_getElem l1)] at h1
      rw [getD_of (List.getElem?_eq_getElem l2)] at h2
      omega
    · rw [if_neg e] at e2;exact hA.bd i c b e1 e2⟩
  have gs:∀ i,(acc.set j v).getD i 0=if i=j then v else acc.getD i 0:=fun i=>by
    rw [List.getD_eq_getElem?_getD,List.getElem?_set]
    by_cases e:j=i
    · subst e;rw [if_pos rfl,if_pos (by omega),if_pos rfl];rfl
    · rw [if_neg e,if_neg (fun z=>e z.symm),← List.getD_eq_getElem?_getD]
  have le:LeL acc (acc.set j v):=LeL.of (by rw [List.length_set]) fun i hi=>by
    rw [gs]
    split
    · rename_i e;subst e;exact h1
    · exact Int.le_refl _
  refine ⟨hAs,le,LeL.of (by rw [(askL_ok g hAs).len,hAs.len]) fun i hi=>?_⟩
  have m:=(askL_mono g hA le).get i
  rw [gs]
  split
  · rename_i e;subst e;omega
  · have:=hb.get i;omega
theorem set_sum {j:Nat} {v:Int} (hj:j < acc.length):(acc.set j v).sum=acc.sum - acc.getD j 0+v:=sum_setD v hj
theorem walked_least (g:GoodT h cs ls) {st:List (Int×Int)} (hw:walkL cs ls st (List.replicate cs.length 0)=some acc) (hb:LeL acc (askL cs ls acc)) (hn:waitL cs ls acc=[]):acc=leastL cs ls:=by
  have hA:=walk_ok g (acc_zero g) hw
  have ok:=askL_ok g hA
  have he:LeL (askL cs ls acc) acc:=LeL.of (by rw [ok.len,hA.len]) fun i hi=>Int.not_lt.mp fun z=>by
    have:i∈waitL cs ls acc:=wait_mem.mpr ⟨by rw [ok.len] at hi;exact hi,z⟩
    rw [hn] at this;simp at this
  have fx:askL cs ls acc=acc:=he.anti hb
  have l1:LeL acc (leastL cs ls):=walk_le g (by rw [least_fix g];exact LeL.refl _) (acc_zero g) (least_ok g).zero hw
  have l2:LeL (leastL cs ls) acc:=by
    have:=least_le g hA
    rwa [show comeL cs ls acc=acc from come_of_fix fx 241] at this
  exact l1.anti l2
end
theorem nodup_getElem {α:Type} {l:List α} (h:l.Nodup) {i j:Nat} {x:α} (hi:l[i]? = some x) (hj:l[j]? = some x):i=j:=by
  have li:=get_lt hi
  have lj:=get_lt hj
  rw [List.getElem?_eq_getElem li] at hi
  rw [List.getElem?_eq_getElem lj] at hj
  exact (List.getElem_inj h).mp ((Option.some.inj hi).trans (Option.some.inj hj).symm)
structure PairsT (H:Hp) (vs:List V) (L:List (Int×Int)):Prop where
  len:vs.length=L.length
  at_:∀ (i:Nat) (l:Int×Int),L[i]? = some l→∃ q,vs[i]? = some (.ref q)∧H q=some (.tup [.int l.1,.int l.2])
section
variable {K:Frag} {H H':Hp} {vs:List V} {L:List (Int×Int)}
theorem PairsT.toAt (h:PairsT H vs L):PairsAt K H vs L:=⟨h.len,fun i l e=>let ⟨q,e1,e2⟩:=h.at_ i l e;⟨.ref q,e1,q,rfl,SqT.of e2⟩⟩
theorem PairsT.same (h:PairsT H vs L) (s:Same H H'):PairsT H' vs L:=⟨h.len,fun i l e=>let ⟨q,e1,e2⟩:=h.at_ i l e;⟨q,e1,s _ _ e2⟩⟩
theorem PairsT.but {x:Addr} {xs:List V} (h:PairsT H vs L) (hx:H x=some (.lst xs)) (s:∀ b o,b≠x→H b=some o→H' b=some o):PairsT H' vs L:=
  ⟨h.len,fun i l e=>let ⟨q,e1,e2⟩:=h.at_ i l e;⟨q,e1,s _ _ (fun z=>by rw [z,hx] at e2;cases e2) e2⟩⟩
theorem PairsT.updL {x:Addr} {xs:List V} {o:HO} (h:PairsT H vs L) (hx:H x=some (.lst xs)):PairsT (upd H x o) vs L:=h.but hx fun b o n e=>by rw [upd_ne n];exact e
theorem PairsT.nil:PairsT H [] []:=⟨rfl,fun i l e=>by simp at e⟩
theorem PairsT.snoc {q:Addr} {l:Int×Int} (h:PairsT H vs L) (hq:H q=some (.tup [.int l.1,.int l.2])):PairsT H (vs ++ [.ref q]) (L ++ [l]):=by
  refine ⟨by rw [List.length_append,List.length_append,h.len];rfl,fun i m e=>?_⟩
  by_cases hi:i < L.length
  · rw [List.getElem?_append_left hi] at e
    obtain ⟨u,e1,e2⟩:=h.at_ i m e
    exact ⟨u,by rw [List.getElem?_append_left (by rw [h.len];exact hi)];exact e1,e2⟩
  · have hlt:=get_lt e
    rw [List.length_append,List.length_singleton] at hlt
    have ei:i=L.length:=by omega
    subst ei
    rw [List.getElem?_append_right (Nat.le_refl _),Nat.sub_self] at e
    simp at e;subst e
    exact ⟨q,by rw [List.getElem?_append_right (by rw [h.len];exact Nat.le_refl _),h.len,Nat.sub_self];rfl,hq⟩
end
section
variable {F G:Addr→Prop} {C:Addr} {K:Frag} {H H':Hp} {t s:Addr} {h:Nat} {cs:List Row} {ls acc:List Int}
end
end Rc
namespace Rc
open PySem PySem.Spec PyProof.Rows L2
section
variable {F:Addr→Prop} {C:Addr} {K:Frag} {H H':Hp} {t:Addr} {h:Nat} {cs:List Row} {ls:List Int}
end
section
variable {n hop:Nat} {kind:Str} {b:Int} {ms ws:Nat→Int} {cs:List Row} {acc:List Int}
end
end Rc
namespace Rc
open PySem PySem.Spec PyProof.Rows L2
section
variable {h:Nat} {cs:List Row} {ls a b:List Int}
end
end Rc
namespace L2
open PySem PySem.Spec PyProof.Rows
section
variable {P:Program} {w:World} {H H':Hp} {h h':Heap} {a:Addr} {o:HO}
end
section
variable {X:Cx} {pins:List (Addr×Obj)} {σ:St} {H:Hp} {s s':Shared} {E E1:XK} {a C:Addr} {args:List Value}
end
end L2
namespace L2
open PySem PySem.Spec PyProof.Rows
section
variable {X:Cx} {E:XK} {x:Str} {C:Addr} {e:Expr} {es:List Expr} {t:TA} {np cpos pos:Pos} {B newId initId:String} {bmB:List Value}
end
section
variable {P:Program} {w:World} {K:Frag} {mg:Str→Option Value} {base:Heap} {k:Nat} {f:Addr} {fd:FuncData} {ps:List Str} {sp:Sp}
end
section
variable {X:Cx} {v₁ v₂:Expr} {rest:List Expr} {pos:Pos}
end
section
variable {P:Program} {w:World} {K:Frag} {mg:Str→Option Value} {base:Heap} {k:Nat} {f:Addr} {fd:FuncData} {ps:List Str} {sp:Sp}
end
section
variable {X:Cx} {k:Nat} {f:Addr} {fd:FuncData} {ps:List Str} {sp:Sp} {x:Str} {p pos:Pos} {e:Expr} {es:List Expr} {t:TA}
end
end L2
namespace L2
open PySem PySem.Spec PyProof.Rows
section
variable {X:Cx} {pins pl:List (Addr×Obj)} {σ:St} {H H':Hp} {s s':Shared} {Ex:St→XK} {v:Value}
end
section
variable {X:Cx} {k:Nat} {f:Addr} {fd:FuncData} {ps:List Str} {sp:Sp} {x n:Str} {p np hpos pos:Pos} {e:Expr} {es:List Expr} {t:TA} {pins:List (Addr×Obj)} {Ex:St→XK}
end
end L2
namespace L2
open PySem PySem.Spec PyProof.Rows PySem.W Builtin Builtin.ObjectAttr Builtin.Getset_descriptor
section
variable {prog:Program} {w:World} {A:Around} {E:Value→Shared→Prop} {K:Frag} {C a:Addr} {o:Obj} {hh:Heap} {g:Array GenState} {d:Drawn} {t:Nat} {os:OsState}
end
section
variable {X:Cx}
end
end L2
namespace L2
open PySem PySem.Spec PyProof.Rows PySem.Calls PyProof.V PySem.SeqAt
mutual
inductive DV (K:Frag) (H:Hp):V→PyData→Prop
  | non:DV K H .non .none
  | bl (b:Bool):DV K H (.bl b) (.bool b)
  | int (i:Int):DV K H (.int i) (.int i)
  | str (x:Str):DV K H (.str x) (.str x)
  | lst {a:Addr} {xs:List V} {ds:List PyData}:SqL K H a xs→DVs K H xs ds→DV K H (.ref a) (.list ds)
  | tup {a:Addr} {xs:List V} {ds:List PyData}:SqT K H a xs→DVs K H xs ds→DV K H (.ref a) (.tuple ds)
inductive DVs (K:Frag) (H:Hp):List V→List PyData→Prop
  | nil:DVs K H [] []
  | cons {x:V} {xs:List V} {d:PyData} {ds:List PyData}:DV K H x d→DVs K H xs ds→DVs K H (x :: xs) (d :: ds)
end
section
variable {X:Cx} {pins:List (Addr×Obj)} {σ:St} {H:Hp} {s:Shared}
mutual
theorem DV.reads (I:Inv X pins σ H s):∀ {v:V} {d:PyData} {u:Value},DV X.K H v d→RelV v u→∃ as,Reads s.heap u d as
  | _,_,_,.non,r=>by cases (show _=Value.none from r);exact ⟨_,.none⟩
  | _,_,_,.bl b,r=>by cases (show _=Value.bool b from r);exact ⟨_,.bool b⟩
  | _,_,_,.int i,r=>by obtain ⟨t,q⟩:=(show ∃ t,_=Value.int i t from r);cases q;exact ⟨_,.int i t⟩
  | _,_,_,.str x,r=>by obtain ⟨t,q⟩:=(show ∃ t,_=Value.str x t from r);cases q;exact ⟨_,.str x t⟩
  | _,_,_,.lst (a:=a) h hs,r=>by
    cases (show _=Value.ref a from r)
    obtain ⟨its,rv,pl,_⟩:=I.list h
    obtain ⟨as,q⟩:=DVs.reads I hs rv
    obtain ⟨o,ho,hc,n,hd⟩:=pl.isList
    exact ⟨_,.list ho hc hd (by simpa using q)⟩
  | _,_,_,.tup (a:=a) h hs,r=>by
    cases (show _=Value.ref a from r)
    obtain ⟨its,rv,pl,_⟩:=I.tuple h
    obtain ⟨as,q⟩:=DVs.reads I hs rv
    obtain ⟨o,ho,hc,n,hd⟩:=pl
    exact ⟨_,.tuple ho hc hd (by simpa using q)⟩
theorem DVs.reads (I:Inv X pins σ H s):∀ {vs:List V} {ds:List PyData} {us:List Value},DVs X.K H vs ds→Vals vs us→∃ as,ReadsAll s.heap us ds as
  | _,_,_,.nil,r=>by cases r;exact ⟨_,.nil⟩
  | _,_,_,.cons h hs,r=>by
    cases r with
    | cons r1 r2=>
      obtain ⟨as,q⟩:=DV.reads I h r1
      obtain ⟨bs,q2⟩:=DVs.reads I hs r2
      exact ⟨_,.cons q q2⟩
end
def rEqD (K:Frag):R2:=fun x y H Q=>∃ d1 d2,DV K H x d1∧DV K H y d2∧shaped d1=true∧shaped d2=true∧noMix d1 d2=true∧Q (.bl (PySem.Spec.same d1 d2)) H
theorem op_eqD (hu:X.A.units+64 < cLine):OpR X (compareOp .Eq) (rEqD X.K):=by
  intro pins s σ H x y v u Q I rx ry h
  obtain ⟨d1,d2,h1,h2,s1,s2,m,q⟩:=h
  obtain ⟨as,r1⟩:=h1.reads I rx
  obtain ⟨bs,r2⟩:=h2.reads I ry
  exact eq_dataH_same r1 r2 s1 s2 hu m ⟨.bl _,H,I,rfl,q⟩
def rNeD (K:Frag):R2:=fun x y H Q=>∃ d1 d2,DV K H x d1∧DV K H y d2∧shaped d1=true∧shaped d2=true∧noMix d1 d2=true∧Q (.bl (!PySem.Spec.same d1 d2)) H
theorem op_neD (hu:X.A.units+64 < cLine):OpR X (compareOp .NotEq) (rNeD X.K):=by
  intro pins s σ H x y v u Q I rx ry h
  obtain ⟨d1,d2,h1,h2,s1,s2,m,q⟩:=h
  obtain ⟨as,r1⟩:=h1.reads I rx
  obtain ⟨bs,r2⟩:=h2.reads I ry
  exact ne_dataH_same r1 r2 s1 s2 hu m ⟨.bl _,H,I,rfl,q⟩
end
theorem DVs.ints {K:Frag} {H:Hp}:∀ bs:List Int,DVs K H (bs.map V.int) (bs.map PyData.int)
  | []=>.nil
  | b :: bs=>.cons (.int b) (DVs.ints bs)
section
variable {X:Cx}
end
end L2
namespace L2
open PySem PySem.Spec PyProof.Rows
end L2
namespace L2
open PySem PySem.Spec PyProof.Rows
section
variable {X:Cx} {k:Nat} {f C:Addr} {fd:FuncData} {ps:List Str} {sp:Sp} {x m:Str} {p pos apos:Pos} {e o:Expr} {es:List Expr} {t:TA} {ta:TE} {pins:List (Addr×Obj)} {Ex:St→XK}
end
end L2
namespace L2
open PySem PySem.Spec PyProof.Rows
section
variable {X:Cx}
end
end L2
namespace Rc
open PySem PySem.Spec PyProof.Rows L2 PySem.Calls PyProof.V PySem.SeqAt
def pairD (l:Int×Int):PyData:=.tuple [.int l.1,.int l.2]
theorem dvs_pairs {K:Frag} {H:Hp}:∀ {vs:List V} {L:List (Int×Int)},PairsAt K H vs L→DVs K H vs (L.map pairD)
  | [],[],_=>.nil
  | [],_ :: _,h=>by have:=h.len;simp at this
  | _ :: _,[],h=>by have:=h.len;simp at this
  | v :: vs,l :: L,h=>by
    obtain ⟨u,e1,q,rfl,t⟩:=h.at_ 0 l rfl
    simp at e1;subst e1
    exact .cons (.tup t (.cons (.int _) (.cons (.int _) .nil))) (dvs_pairs ⟨by have:=h.len;simpa using this,fun i m e=>by
      obtain ⟨v',a1,a2⟩:=h.at_ (i+1) m (by simpa using e)
      exact ⟨v',by simpa using a1,a2⟩⟩)
theorem lay_pairs:∀ L:List (Int×Int),PyData.canLayAll0 (L.map pairD)=true
  | []=>by simp [PyData.canLayAll0]
  | _ :: r=>by simp [PyData.canLayAll0,PyData.canLay0,pairD,lay_pairs r]
theorem depth_pairs:∀ L:List (Int×Int),PyData.depthAll (L.map pairD)≤3
  | []=>by simp [PyData.depthAll]
  | _ :: r=>by
    have:=depth_pairs r
    simp only [List.map_cons,PyData.depthAll,PyData.depth,pairD]
    omega
theorem noMix_pairs:∀ L:List (Int×Int),noMixAll (L.map pairD) (L.map pairD)=true
  | []=>by simp [noMixAll]
  | _ :: r=>by simp [noMixAll,noMix,pairD,noMix_pairs r]
theorem u64 {k:Nat} {A:Around} (r:Room k A):A.units+64 < cLine:=by have:=r.un;omega
theorem lay_ints:∀ ns:List Int,PyData.canLayAll0 (ns.map PyData.int)=true
  | []=>by simp [PyData.canLayAll0]
  | _ :: r=>by simp [PyData.canLayAll0,PyData.canLay0,lay_ints r]
theorem depth_ints:∀ ns:List Int,PyData.depthAll (ns.map PyData.int)≤2
  | []=>by simp [PyData.depthAll]
  | _ :: r=>by
    have:=depth_ints r
    simp only [List.map_cons,PyData.depthAll,PyData.depth]
    omega
theorem noMix_ints:∀ ns:List Int,noMixAll (ns.map PyData.int) (ns.map PyData.int)=true
  | []=>by simp [noMixAll]
  | _ :: r=>by simp [noMixAll,noMix,noMix_ints r]
end Rc
namespace HT
open PySem PySem.Calls PyProof.Rows PyProof.V PySem.Spec PySem.W
abbrev IsZipO (h:Heap) (z TI TO a:Addr) (f:Bool):Prop:=
  h.get? z=some { cls:=.type "zip", dict:=none,data:=.fields #[rawInt a,.bool f,.bool false,.ref TI,.ref TO],slots:=#[] }
section
variable {prog:Program} {w:World} {A:Around} {E:Value→Shared→Prop} {s:Shared}
theorem zip_out_false {z TI TO a:Addr} {f:Bool} {oa:Obj} {Q:Bool→Shared→Prop} (hz:IsZipO s.heap z TI TO a f) (ha:s.heap.get? a=some oa)
    (hQ:∀ h',IsZipO h' z TI TO a true→Heap.SameBut z s.heap h'→Q false { s with heap:=h' }):wpAny (model prog w) A (Builtin.SmallTypes.ownedTupleIsFree (.ref z)) Q E s:=by
  unfold Builtin.SmallTypes.ownedTupleIsFree
  refine wpAny_bind (wpAny_field hz rfl (x:=rawInt a) rfl ?_)
  show wpAny _ _ (loadIfAlive ((a:Int).toNat) >>= _) _ _ _
  rw [Int.toNat_natCast]
  refine wpAny_bind (kdx_alive ha ?_)
  simp only [Option.isNone_some,Bool.false_eq_true,if_false]
  refine wpAny_bind (wpAny_field hz rfl (x:=.bool f) rfl ?_)
  cases f with
  | true=>
    rw [if_neg (show ¬ ((Value.bool true != Value.bool true)=true) from Bool.false_ne_true)]
    exact wpAny_pure (hQ _ hz (Heap.SameBut.refl _ _))
  | false=>
    rw [if_pos (show (Value.bool false != Value.bool true)=true from rfl)]
    refine wpAny_bind (wpAny_setField_rec hz (by simp) fun h₃ he₃ hs₃=>?_)
    exact wpAny_pure (hQ h₃ he₃ hs₃)
theorem zip_next_out {z TI TO i1 i2 l1 l2 a:Addr} {f:Bool} {oa:Obj} {k1 k2:Nat} {xs ys:Array Value} {x y:Value} {Q:Value→Shared→Prop} (D:ZipApart z TI TO i1 i2 l1 l2)
    (hz:IsZipO s.heap z TI TO a f) (ha:s.heap.get? a=some oa) (hTI:IsPair s.heap TI (.ref i1) (.ref i2))
    (h1:s.heap.IsListIter i1 l1 k1) (h2:s.heap.IsListIter i2 l2 k2) (hl1:s.heap.IsList l1 xs) (hl2:s.heap.IsList l2 ys) (hx:xs[k1]? = some x) (hy:ys[k2]? = some y)
    (hQ:∀ h',IsZipO h' z TI TO a true→h'.IsListIter i1 l1 (k1+1)→h'.IsListIter i2 l2 (k2+1)→IsPair h' s.heap.objs.size x y→h'.objs.size=s.heap.objs.size+1→
      (∀ c o,c≠z→c≠i1→c≠i2→s.heap.get? c=some o→h'.get? c=some o)→Q (.ref s.heap.objs.size) { s with heap:=h' }) :
    wpAny (model prog w) A (Builtin.«zip.__next__» ⟨[.ref z],[]⟩) (fun fin s'=>∃ v,fin = .done (.ret v)∧Q v s') E s:=by
  show wpAny _ _ (field (.ref z) 2 >>= _) _ _ _
  refine wpAny_bind (wpAny_field hz rfl (x:=.bool false) rfl ?_)
  show wpAny _ _ (field (.ref z) 3 >>= _) _ _ _
  refine wpAny_bind (wpAny_field hz rfl (x:=.ref TI) rfl ?_)
  refine wpAny_bind (wpAny_seqItems hTI rfl ?_)
  show wpAny _ _ (Builtin.SmallTypes.ownedTupleIsFree (.ref z) >>= _) _ _ _
  refine wpAny_bind (zip_out_false hz ha fun h₁ hz₁ hs₁=>?_)
  simp only [Bool.false_eq_true,if_false]
  refine wpAny_bind ?_
  rw [← Array.forIn_toList]
  simp only [List.forIn_cons,List.forIn_nil]
  refine wpAny_bind (wpAny_bind (wpAny_holding ?_))
  show wpAny _ _ (Builtin.SmallTypes.nextOf (.ref i1) >>= _) _ _ _
  refine wpAny_bind (wpAny_nextOf_list_item (h1.extBut hs₁.extBut D.i1z) (hl1.extBut hs₁.extBut D.l1z) hx fun h₂ h1₂ hs₂=>wpAny_pure ?_)
  refine wpAny_pure ?_
  refine wpAny_bind (wpAny_bind (wpAny_holding ?_))
  show wpAny _ _ (Builtin.SmallTypes.nextOf (.ref i2) >>= _) _ _ _
  refine wpAny_bind (wpAny_nextOf_list_item ((h2.extBut hs₁.extBut D.i2z).extBut hs₂.extBut D.i12.symm) ((hl2.extBut hs₁.extBut D.l2z).extBut hs₂.extBut D.l2i1) hy fun h₄ h2₄ hs₄=>wpAny_pure ?_)
  refine wpAny_pure (wpAny_pure ?_)
  refine wpAny_bind (wpAny_newTuple ?_ (hsz:=by show 2≤sizeLine;decide))
  have hsz:h₄.objs.size=s.heap.objs.size:=by rw [hs₄.1,hs₂.1,hs₁.1]
  have hz₄:IsZipO h₄ z TI TO a true:=hs₄.extBut _ _ D.i2z.symm (hs₂.extBut _ _ D.i1z.symm hz₁)
  have h1₄:h₄.IsListIter i1 l1 (k1+1):=h1₂.extBut hs₄.extBut D.i12
  have hk₄:∀ c o,c≠z→c≠i1→c≠i2→s.heap.get? c=some o→h₄.get? c=some o:=fun c o c1 c3 c4 e=>hs₄.extBut _ _ c4 (hs₂.extBut _ _ c3 (hs₁.extBut _ _ c1 e))
  refine wpAny_pure ⟨_,rfl,?_⟩
  show Q (.ref h₄.objs.size) _
  have up:∀ c o,h₄.get? c=some o→(h₄.push { cls:=.type "tuple", data:=.seq #[x,y] }).get? c=some o:=fun c o e=>Heap.get?_push_of_some _ e
  have q:=hQ (h₄.push { cls:=.type "tuple", data:=.seq #[x,y] }) (up _ _ hz₄) (h1₄.at fun o e=>up _ o e) (h2₄.at fun o e=>up _ o e) (by rw [← hsz];exact Heap.get?_push_size _ rfl) (by rw [Heap.size_push,hsz]) fun c o c1 c2 c3 e=>up c o (hk₄ c o c1 c2 c3 e)
  rw [hsz]
  exact q
theorem zip_end_out {z TI TO i1 i2 l1 l2 a:Addr} {f:Bool} {oa:Obj} {k1:Nat} {xs:Array Value} {Q:Fin→Shared→Prop} (hh:A.handled=none) (D:ZipApart z TI TO i1 i2 l1 l2)
    (hz:IsZipO s.heap z TI TO a f) (ha:s.heap.get? a=some oa) (hTI:IsPair s.heap TI (.ref i1) (.ref i2))
    (h1:s.heap.IsListIter i1 l1 k1) (hl1:s.heap.IsList l1 xs) (hx:xs[k1]? = none)
    (hE:∀ h' e,(∀ c o,c≠z→c≠i1→s.heap.get? c=some o→h'.get? c=some o)→(∃ o,h'.get? e=some o∧o.cls = .type "StopIteration")→E (.ref e) { s with heap:=h' }) :
    wpAny (model prog w) A (Builtin.«zip.__next__» ⟨[.ref z],[]⟩) Q E s:=by
  show wpAny _ _ (field (.ref z) 2 >>= _) _ _ _
  refine wpAny_bind (wpAny_field hz rfl (x:=.bool false) rfl ?_)
  show wpAny _ _ (field (.ref z) 3 >>= _) _ _ _
  refine wpAny_bind (wpAny_field hz rfl (x:=.ref TI) rfl ?_)
  refine wpAny_bind (wpAny_seqItems hTI rfl ?_)
  show wpAny _ _ (Builtin.SmallTypes.ownedTupleIsFree (.ref z) >>= _) _ _ _
  refine wpAny_bind (zip_out_false hz ha fun h₁ hz₁ hs₁=>?_)
  simp only [Bool.false_eq_true,if_false]
  refine wpAny_bind ?_
  rw [← Array.forIn_toList]
  simp only [List.forIn_cons,List.forIn_nil]
  refine wpAny_bind (wpAny_bind (wpAny_holding ?_))
  show wpAny _ _ (Builtin.SmallTypes.nextOf (.ref i1) >>= _) _ _ _
  refine wpAny_bind (wpAny_nextOf_list_end hh (h1.extBut hs₁.extBut D.i1z) (hl1.extBut hs₁.extBut D.l1z) hx fun h₂ e hs₂ he=>?_)
  exact hE h₂ e (fun c o c1 c3 e=>hs₂ _ _ c3 (hs₁.extBut _ _ c1 e)) he
theorem pyNext_out {z TI TO i1 i2 l1 l2 a:Addr} {f:Bool} {oa:Obj} {k1 k2:Nat} {xs ys:Array Value} {x y:Value} {Q:Option Value→Shared→Prop} (D:ZipApart z TI TO i1 i2 l1 l2)
    (hz:IsZipO s.heap z TI TO a f) (ha:s.heap.get? a=some oa) (hTI:IsPair s.heap TI (.ref i1) (.ref i2))
    (h1:s.heap.IsListIter i1 l1 k1) (h2:s.heap.IsListIter i2 l2 k2) (hl1:s.heap.IsList l1 xs) (hl2:s.heap.IsList l2 ys) (hx:xs[k1]? = some x) (hy:ys[k2]? = some y)
    (hQ:∀ h',IsZipO h' z TI TO a true→h'.IsListIter i1 l1 (k1+1)→h'.IsListIter i2 l2 (k2+1)→IsPair h' s.heap.objs.size x y→h'.objs.size=s.heap.objs.size+1→
      (∀ c o,c≠z→c≠i1→c≠i2→s.heap.get? c=some o→h'.get? c=some o)→Q (some (.ref s.heap.objs.size)) { s with heap:=h' }) :
    wpAny (model prog w) A (pyNext (.ref z)) Q E s:=by
  have hT:s.TypeIs (.ref z) "zip" := ⟨_,hz,rfl⟩
  unfold pyNext
  exact wpAny_bind (wpAny_attempt (wpAny_callSpecial?_slot (name:=Str.ofString "__next__") hT F.slot_zip_next
    (wpAny_call_entry F.slot_zip_next hT F.entry_zip_next
      (zip_next_out D hz ha hTI h1 h2 hl1 hl2 hx hy fun h' a1 a2 a3 a4 a5 a6=>wpAny_pure (hQ h' a1 a2 a3 a4 a5 a6)) (F.args_zip_next_1 _))))
theorem pyNext_outEnd {z TI TO i1 i2 l1 l2 a:Addr} {f:Bool} {oa:Obj} {k1:Nat} {xs:Array Value} {Q:Option Value→Shared→Prop} (hh:A.handled=none) (D:ZipApart z TI TO i1 i2 l1 l2)
    (hz:IsZipO s.heap z TI TO a f) (ha:s.heap.get? a=some oa) (hTI:IsPair s.heap TI (.ref i1) (.ref i2))
    (h1:s.heap.IsListIter i1 l1 k1) (hl1:s.heap.IsList l1 xs) (hx:xs[k1]? = none)
    (hQ:∀ h',(∀ c o,c≠z→c≠i1→s.heap.get? c=some o→h'.get? c=some o)→Q none { s with heap:=h' }):wpAny (model prog w) A (pyNext (.ref z)) Q E s:=by
  have hT:s.TypeIs (.ref z) "zip" := ⟨_,hz,rfl⟩
  unfold pyNext
  refine wpAny_bind (wpAny_attempt (wpAny_callSpecial?_slot (name:=Str.ofString "__next__") hT F.slot_zip_next
    (wpAny_call_entry F.slot_zip_next hT F.entry_zip_next (zip_end_out hh D hz ha hTI h1 hl1 hx fun h' e hk he=>?_) (F.args_zip_next_1 _))))
  obtain ⟨o,ho,hc⟩:=he
  refine wpAny_bind (wpAny_isInstance (T := "StopIteration") (b:=true) ⟨o,ho,hc⟩ isSubtype_stop ?_)
  exact wpAny_pure (hQ _ hk)
def ZSt (h:Heap) (z TI TO S:Addr) (i:Nat):Prop:=
  (i=0∧IsZip h z TI TO .none∧∃ a b,IsPair h TO a b)∨∃ a f oa,IsZipO h z TI TO a f∧h.get? a=some oa∧S < a
structure ZG (xs ys:Array Value) (lo:Addr) (h:Heap) (as:List Addr):Prop where
  rise:as.Pairwise (· < ·)
  above:∀ a∈as,lo < a
  pairs:∀ (j:Nat) (a:Addr),as[j]? = some a→∃ x y,xs[j]? = some x∧ys[j]? = some y∧IsPair h a x y
theorem ZG.there {xs ys:Array Value} {lo:Addr} {h:Heap} {as:List Addr} (g:ZG xs ys lo h as) {a:Addr} (ha:a∈as):a < h.objs.size:=by
  obtain ⟨j,hj⟩:=List.mem_iff_getElem?.mp ha
  obtain ⟨_,_,_,_,e⟩:=g.pairs j a hj
  exact Heap.lt_size e
end
section
variable {prog:Program} {w:World} {A:Around} {s:Shared} {R:Result→Shared→Prop}
theorem zl_loop {S z TI TO i1 i2 l1 l2:Addr} {xs ys:Array Value} (hh:A.handled=none) (D:ZipApart z TI TO i1 i2 l1 l2) (bz:z < S) (bTI:TI < S) (bTO:TO < S) (b1:i1 < S) (b2:i2 < S) (bl1:l1 < S) (bl2:l2 < S) (hn:xs.size≤sizeLine) (hxy:ys.size=xs.size) (res:Value) {h₁:Heap}
    (hR:∀ h' tk acc c as,(∀ b o,b≠S→b≠z→b≠TO→b≠i1→b≠i2→h₁.get? b=some o→h'.get? b=some o)→h'.get? S=some { cls:=.type "list", dict:=none,data:=.seq acc c,slots:=#[] }→as.length=xs.size→ZG xs ys S h' as→
      acc.toList=as.map Value.ref→R (.ok (.ret res)) { s with heap:=h',toks:=tk }) :
    ∀ (k i:Nat) (h:Heap) (tk c:Nat) (acc:Array Value) (as:List Addr),xs.size - i=k→i≤xs.size→ZSt h z TI TO S i→IsPair h TI (.ref i1) (.ref i2)→h.IsListIter i1 l1 i→h.IsListIter i2 l2 i→h.IsList l1 xs→h.IsList l2 ys→
      (∀ b o,b≠S→b≠z→b≠TO→b≠i1→b≠i2→h₁.get? b=some o→h.get? b=some o)→
      h.get? S=some { cls:=.type "list", dict:=none,data:=.seq acc c,slots:=#[] }→acc.toList=as.map Value.ref→as.length=i→ZG xs ys S h as→
      codeAny (model prog w) A (.builtin "list.extend.loop" ⟨[.ref S,.ref z,res],[]⟩) R { s with heap:=h,toks:=tk }:=by
  intro k
  induction k with
  | zero=>
    intro i h tk c acc as hk hi hst hTI hi1 hi2 hl1 hl2 hkeep hS hacc hal hG
    have hin:i=xs.size:=by omega
    refine codeAny_builtin PySem.F.entry_extend_loop ?_
    rw [Around.under_plainId PySem.F.plain_extend_loop _]
    show wpAny _ A.in1 (pyNext (.ref z) >>= _) _ _ _
    have fin:∀ h',(∀ c o,c≠z→c≠TO→c≠i1→c≠i2→h.get? c=some o→h'.get? c=some o)→R (.ok (.ret res)) { s with heap:=h',toks:=tk }:=fun h' he=>by
      refine hR h' tk acc c as (fun b o h1 h2 h3 h4 h5 e=>he b o h2 h3 h4 h5 (hkeep b o h1 h2 h3 h4 h5 e)) (he S _ (Nat.ne_of_gt bz) (Nat.ne_of_gt bTO) (Nat.ne_of_gt b1) (Nat.ne_of_gt b2) hS) (by omega) ⟨hG.rise,hG.above,fun j a hj=>?_⟩ hacc
      obtain ⟨x,y,e1,e2,e3⟩:=hG.pairs j a hj
      have hb:=hG.above a (List.mem_of_getElem? hj)
      exact ⟨x,y,e1,e2,he a _ (Nat.ne_of_gt (Nat.lt_trans bz hb)) (Nat.ne_of_gt (Nat.lt_trans bTO hb)) (Nat.ne_of_gt (Nat.lt_trans b1 hb)) (Nat.ne_of_gt (Nat.lt_trans b2 hb)) e3⟩
    rcases hst with ⟨rfl,hz,p,q,hTO⟩ | ⟨a,f,oa,hz,ha,haS⟩
    · refine wpAny_bind (wpAny_pyNext_zip_end (s:={ s with heap:=h,toks:=tk }) (A:=A.in1) hh D hz hTI hTO hi1 hi2 hl1 hl2 (.inl (by rw [Array.getElem?_eq_none];omega)) fun h' he=>?_)
      exact wpAny_pure (fin h' he)
    · refine wpAny_bind (pyNext_outEnd (s:={ s with heap:=h,toks:=tk }) (A:=A.in1) hh D hz ha hTI hi1 hl1 (by rw [Array.getElem?_eq_none];omega) fun h' he=>?_)
      exact wpAny_pure (fin h' fun c o c1 _ c3 _ e=>he c o c1 c3 e)
  | succ k ih=>
    intro i h tk c acc as hk hi hst hTI hi1 hi2 hl1 hl2 hkeep hS hacc hal hG
    have hlt:i < xs.size:=by omega
    have hx:xs[i]? = some xs[i]:=Array.getElem?_eq_getElem hlt
    have hy:ys[i]? = some (ys[i]'(by omega)):=Array.getElem?_eq_getElem (by omega)
    have hsz:acc.size=i:=by rw [← Array.length_toList,hacc,List.length_map,hal]
    have hSl:S < h.objs.size:=Heap.lt_size hS
    refine codeAny_builtin PySem.F.entry_extend_loop ?_
    rw [Around.under_plainId PySem.F.plain_extend_loop _]
    show wpAny _ A.in1 (pyNext (.ref z) >>= _) _ _ _
    have fin:∀ h',(∀ g,(∀ b o,b≠S→h'.get? b=some o→g.get? b=some o)→ZSt g z TI TO S (i+1))→h'.IsListIter i1 l1 (i+1)→h'.IsListIter i2 l2 (i+1)→IsPair h' h.objs.size xs[i] (ys[i]'(by omega))→h'.objs.size=h.objs.size+1→
        (∀ c o,c≠z→c≠TO→c≠i1→c≠i2→h.get? c=some o→h'.get? c=some o)→
        wpAny (model prog w) A.in1 (updateSeq S (·.push (Value.ref h.objs.size)) >>= fun _=>(again (.builtin "list.extend.loop" ⟨[.ref S,.ref z,res],[]⟩):Sem Fin)) (fun fin s'=>match fin with | .done f=>R (.ok f) s' | .again c'=>c'.quiet=true∧codeAny (model prog w) A c' R s') (fun e s'=>R (.error e) s') { s with heap:=h',toks:=tk }:=fun h' hst' a1 a2 a3 a4 hkp=>by
      have hS':=hkp S _ (Nat.ne_of_gt bz) (Nat.ne_of_gt bTO) (Nat.ne_of_gt b1) (Nat.ne_of_gt b2) hS
      have up:∀ b o,b≠S→h'.get? b=some o→(h'.update S (Obj.mapSeq (·.push (Value.ref h.objs.size)))).get? b=some o:=fun b o hb e=>(Heap.get?_update_other _ _ (Ne.symm hb)).trans e
      have D1:=D.l1z
      refine wpAny_bind ?_
      refine wpAny_updateSeq hS' rfl (wpAny_pure ⟨plainId_quiet PySem.F.plain_extend_loop _,ih (i+1) _ tk _ (acc.push (Value.ref h.objs.size)) (as ++ [h.objs.size]) (by omega) hlt (hst' _ up) (up _ _ (Nat.ne_of_lt bTI) (hkp _ _ D.TIz D.TITO D.TIi1 D.TIi2 hTI)) (a1.at fun o e=>up _ o (Nat.ne_of_lt b1) e) (a2.at fun o e=>up _ o (Nat.ne_of_lt b2) e) ?_ ?_
        (fun b o c1 c2 c3 c4 c5 e=>up b o c1 (hkp b o c2 c3 c4 c5 (hkeep b o c1 c2 c3 c4 c5 e))) (Heap.get?_update_self _ hS' rfl) (by rw [Array.toList_push,hacc,List.map_append];rfl) (by rw [List.length_append,hal];rfl) ⟨?_,?_,?_⟩⟩) (by rw [hsz];omega) (by show (acc.push (Value.ref h.objs.size)).size≤sizeLine+1;rw [Array.size_push,hsz];omega)
      · obtain ⟨o,e,x⟩:=hl1
        exact ⟨o,up _ _ (Nat.ne_of_lt bl1) (hkp _ _ D.l1z D.l1TO D.l1i1 D.l1i2 e),x⟩
      · obtain ⟨o,e,x⟩:=hl2
        exact ⟨o,up _ _ (Nat.ne_of_lt bl2) (hkp _ _ D.l2z D.l2TO D.l2i1 D.l2i2 e),x⟩
      · refine List.pairwise_append.mpr ⟨hG.rise,List.pairwise_singleton _ _,fun a ha b hb=>?_⟩
        rw [List.mem_singleton.mp hb]
        exact hG.there ha
      · intro a ha
        rcases List.mem_append.mp ha with ha | ha
        · exact hG.above a ha
        · rw [List.mem_singleton.mp ha];exact hSl
      · intro j b hj
        rcases Nat.lt_trichotomy j as.length with h1 | h1 | h1
        · rw [List.getElem?_append_left h1] at hj
          obtain ⟨x,y,e1,e2,e3⟩:=hG.pairs j b hj
          have hb:=hG.above b (List.mem_of_getElem? hj)
          exact ⟨x,y,e1,e2,up b _ (Nat.ne_of_gt hb) (hkp b _ (Nat.ne_of_gt (Nat.lt_trans bz hb)) (Nat.ne_of_gt (Nat.lt_trans bTO hb)) (Nat.ne_of_gt (Nat.lt_trans b1 hb)) (Nat.ne_of_gt (Nat.lt_trans b2 hb)) e3)⟩
        · subst h1
          have hb:h.objs.size=b:=by simpa using hj
          subst hb
          exact ⟨_,_,by rw [hal];exact hx,by rw [hal];exact hy,up _ _ (Nat.ne_of_gt hSl) a3⟩
        · have hnone:(as ++ [h.objs.size])[j]? = none:=List.getElem?_eq_none (by rw [List.length_append,List.length_singleton];omega)
          rw [hnone] at hj;cases hj
    rcases hst with ⟨rfl,hz,p,q,hTO⟩ | ⟨a,f,oa,hz,ha,haS⟩
    · refine wpAny_bind (wpAny_pyNext_zip_item (s:={ s with heap:=h,toks:=tk }) D hz hTI hTO hi1 hi2 hl1 hl2 hx hy fun h' a1 a2 a3 a4 a5 a6 a7=>?_)
      exact fin h' (fun g hg=>.inr ⟨h.objs.size,false,_,hg _ _ (Nat.ne_of_lt bz) a1,hg _ _ (Nat.ne_of_gt hSl) a5,hSl⟩) a3 a4 a5 a6 a7
    · refine wpAny_bind (pyNext_out (s:={ s with heap:=h,toks:=tk }) D hz ha hTI hi1 hi2 hl1 hl2 hx hy fun h' a1 a3 a4 a5 a6 a7=>?_)
      exact fin h' (fun g hg=>.inr ⟨a,true,oa,hg _ _ (Nat.ne_of_lt bz) a1,hg _ _ (Nat.ne_of_gt haS) (a7 a oa (Nat.ne_of_gt (Nat.lt_trans bz haS)) (Nat.ne_of_gt (Nat.lt_trans b1 haS)) (Nat.ne_of_gt (Nat.lt_trans b2 haS)) ha),haS⟩) a3 a4 a5 a6 fun c o c1 _ c3 c4 e=>a7 c o c1 c3 c4 e
end
theorem zl_len:typeLookup (.type "zip") "__len__" = pure none:=by rw [typeLookup_type,builtinLookup_eq_fast];kernel_rfl
theorem zl_lenHint:typeLookup (.type "zip") "__length_hint__" = pure none:=by rw [typeLookup_type,builtinLookup_eq_fast];kernel_rfl
structure ZNew (h:Heap) (z TI TO i1 i2 l1 l2:Addr) (xs ys:Array Value):Prop where
  apart:ZipApart z TI TO i1 i2 l1 l2
  hz:IsZip h z TI TO .none
  hTI:IsPair h TI (.ref i1) (.ref i2)
  hTO:IsPair h TO .none .none
  h1:h.IsListIter i1 l1 0
  h2:h.IsListIter i2 l2 0
  hl1:h.IsList l1 xs
  hl2:h.IsList l2 ys
section
variable {h h':Heap} {z TI TO i1 i2 l1 l2:Addr} {xs ys:Array Value}
theorem ZNew.keep (n:ZNew h z TI TO i1 i2 l1 l2 xs ys) {S:Addr} (bz:z < S) (bTI:TI < S) (bTO:TO < S) (b1:i1 < S) (b2:i2 < S) (bl1:l1 < S) (bl2:l2 < S) (k:∀ b o,b≠S→h.get? b=some o→h'.get? b=some o):ZNew h' z TI TO i1 i2 l1 l2 xs ys:=
  ⟨n.apart,k _ _ (Nat.ne_of_lt bz) n.hz,k _ _ (Nat.ne_of_lt bTI) n.hTI,k _ _ (Nat.ne_of_lt bTO) n.hTO,n.h1.at fun o e=>k _ o (Nat.ne_of_lt b1) e,n.h2.at fun o e=>k _ o (Nat.ne_of_lt b2) e,
    let ⟨o,e,x⟩:=n.hl1;⟨o,k _ _ (Nat.ne_of_lt bl1) e,x⟩,let ⟨o,e,x⟩:=n.hl2;⟨o,k _ _ (Nat.ne_of_lt bl2) e,x⟩⟩
end
section
variable {prog:Program} {w:World} {A:Around} {E:Value→Shared→Prop} {s:Shared} {z TI TO i1 i2 l1 l2:Addr} {xs ys:Array Value}
theorem zl_hint (hT:s.TypeIs (.ref z) "zip") {Q:Bool→Shared→Prop} (h:Q true s):wpAny (model prog w) A (Builtin.List.listLengthHint (.ref z)) Q E s:=by
  unfold Builtin.List.listLengthHint
  refine wpAny_bind (wpAny_specialOf hT zl_len ?_)
  refine wpAny_ite_split (fun hab=>absurd hab (by decide)) (fun _=>?_)
  refine wpAny_ite_split (fun hab=>absurd hab (by decide)) (fun _=>?_)
  refine wpAny_bind (wpAny_specialOf hT zl_lenHint ?_)
  exact wpAny_pure h
theorem zl_extend {R:Result→Shared→Prop} (hh:A.handled=none) (n:ZNew s.heap z TI TO i1 i2 l1 l2 xs ys) (S:Addr) (bz:z < S) (bTI:TI < S) (bTO:TO < S) (b1:i1 < S) (b2:i2 < S) (bl1:l1 < S) (bl2:l2 < S) (hn:xs.size≤sizeLine) (hxy:ys.size=xs.size) (res:Value) (c₀:Nat) (hS:s.heap.get? S=some { cls:=.type "list", data:=.seq #[] c₀ })
    (hR:∀ h' tk acc c as,(∀ b o,b≠S→b≠z→b≠TO→b≠i1→b≠i2→s.heap.get? b=some o→h'.get? b=some o)→h'.get? S=some { cls:=.type "list", dict:=none,data:=.seq acc c,slots:=#[] }→as.length=xs.size→ZG xs ys S h' as→
      acc.toList=as.map Value.ref→R (.ok (.ret res)) { s with heap:=h',toks:=tk }) :
    wpAny (model prog w) A.in1 (Builtin.List.listExtendWith (.ref S) (.ref z) res)
      (fun fin s'=>match fin with | .done f=>R (.ok f) s' | .again c'=>c'.quiet=true∧codeAny (model prog w) A c' R s') (fun e s'=>R (.error e) s') s:=by
  have hT:s.TypeIs (.ref z) "zip" := ⟨_,n.hz,rfl⟩
  unfold Builtin.List.listExtendWith
  refine wpAny_bind (wpAny_typeOf (T := "zip") hT ?_)
  have h1:Builtin.List.listSameRef (.ref S) (.ref z)=false:=by simp [Builtin.List.listSameRef,Nat.ne_of_gt bz]
  have h2:(Value.type "zip" == Value.type "list")=false:=by decide
  have h3:(Value.type "zip" == Value.type "tuple")=false:=by decide
  simp only [h1,h2,h3,Bool.or_false,Bool.false_eq_true,if_false]
  refine wpAny_bind (wpAny_pyIter_zip n.hz ?_)
  refine wpAny_bind (wpAny_holding (zl_hint hT ?_))
  refine wpAny_ite_split (fun _=>?_) (fun hab=>absurd (by simp) hab)
  refine wpAny_bind (wpAny_rule ?_)
  refine wpAny_bind ?_
  show wpAny _ _ (updateSeq S (·.push .none) >>= fun _=>updateSeq S (·.pop)) _ _ _
  refine wpAny_bind (wpAny_updateSeq hS rfl ?_)
  have hS₂:=Heap.get?_update_self (Obj.mapSeq (·.push Value.none)) hS rfl
  refine wpAny_updateSeq (hz:=by seq_fits) hS₂ rfl ?_
  have hS₃:=Heap.get?_update_self (Obj.mapSeq (·.pop)) hS₂ rfl
  have up:∀ b o,b≠S→s.heap.get? b=some o→((s.heap.update S (Obj.mapSeq (·.push Value.none))).update S (Obj.mapSeq (·.pop))).get? b=some o:=fun b o hb e=>(Heap.get?_update_other _ _ (Ne.symm hb)).trans ((Heap.get?_update_other _ _ (Ne.symm hb)).trans e)
  have n3:=n.keep bz bTI bTO b1 b2 bl1 bl2 up
  refine wpAny_pure ⟨plainId_quiet PySem.F.plain_extend_loop _,?_⟩
  exact zl_loop (s:=s) (h₁:=s.heap) hh n.apart bz bTI bTO b1 b2 bl1 bl2 hn hxy res hR xs.size 0 _ _ _ #[] [] (Nat.sub_zero _) (Nat.zero_le _) (.inl ⟨rfl,n3.hz,_,_,n3.hTO⟩) n3.hTI n3.h1 n3.h2 n3.hl1 n3.hl2 (fun b o c1 _ _ _ _ e=>up b o c1 e) hS₃ rfl rfl ⟨List.Pairwise.nil,(fun _ ha=>nomatch ha),(fun j a hj=>by simp at hj)⟩
theorem zl_init {R:Result→Shared→Prop} (hh:A.handled=none) (n:ZNew s.heap z TI TO i1 i2 l1 l2 xs ys) (S:Addr) (bz:z < S) (bTI:TI < S) (bTO:TO < S) (b1:i1 < S) (b2:i2 < S) (bl1:l1 < S) (bl2:l2 < S) (hn:xs.size≤sizeLine) (hxy:ys.size=xs.size) (hS:s.heap.get? S=some { cls:=.type "list", data:=.seq #[] })
    (hR:∀ h' tk acc c as,(∀ b o,b≠S→b≠z→b≠TO→b≠i1→b≠i2→s.heap.get? b=some o→h'.get? b=some o)→h'.get? S=some { cls:=.type "list", dict:=none,data:=.seq acc c,slots:=#[] }→as.length=xs.size→ZG xs ys S h' as→
      acc.toList=as.map Value.ref→R (.ok (.ret .none)) { s with heap:=h',toks:=tk }) :
    wpAny (model prog w) A.in1 (Builtin.«list.__init__» ⟨[.ref S,.ref z],[]⟩)
      (fun fin s'=>match fin with | .done f=>R (.ok f) s' | .again c'=>c'.quiet=true∧codeAny (model prog w) A c' R s') (fun e s'=>R (.error e) s') s:=by
  show wpAny _ _ (do let old ← Builtin.List.listItems (.ref S);Builtin.List.listUpdate (.ref S) (fun _=>#[]);letGo old.toList.reverse;Builtin.List.listExtendWith (.ref S) (.ref z) .none) _ _ s
  refine wpAny_bind ?_
  unfold Builtin.List.listItems
  refine wpAny_bind (wpAny_seqItems hS rfl (wpAny_pure ?_))
  show wpAny _ _ (updateSeq S (fun _=>#[]) >>= fun _=>letGo (#[]:Array Value).toList.reverse >>= fun _=>Builtin.List.listExtendWith (.ref S) (.ref z) .none) _ _ s
  refine wpAny_bind (wpAny_updateSeq hS rfl ?_)
  have hS₂:=Heap.get?_update_self (Obj.mapSeq (fun _=>(#[]:Array Value))) hS rfl
  have oth:∀ b o,b≠S→s.heap.get? b=some o→(s.heap.update S (Obj.mapSeq (fun _=>(#[]:Array Value)))).get? b=some o:=
    fun b o hb e=>(Heap.get?_update_other _ _ (Ne.symm hb)).trans e
  refine wpAny_bind (wpAny_letGo ?_)
  refine zl_extend hh (n.keep bz bTI bTO b1 b2 bl1 bl2 oth) S bz bTI bTO b1 b2 bl1 bl2 hn hxy .none _ hS₂ fun h' tk acc c as hk hS' hl hG hacc=>?_
  exact hR h' tk acc c as (fun b o c1 c2 c3 c4 c5 e=>hk b o c1 c2 c3 c4 c5 (oth b o c1 e)) hS' hl hG hacc
theorem zl_call {Q:Value→Shared→Prop} (hh:A.handled=none) (n:ZNew s.heap z TI TO i1 i2 l1 l2 xs ys) (hn:xs.size≤sizeLine) (hxy:ys.size=xs.size)
    (hQ:∀ h' tk acc c as,(∀ b o,b≠z→b≠TO→b≠i1→b≠i2→s.heap.get? b=some o→h'.get? b=some o)→h'.get? s.heap.objs.size=some { cls:=.type "list", dict:=none,data:=.seq acc c,slots:=#[] }→as.length=xs.size→ZG xs ys s.heap.objs.size h' as→
      acc.toList=as.map Value.ref→Q (.ref s.heap.objs.size) { s with heap:=h',toks:=tk }) :
    wpAny (model prog w) A (call (.type "list") [.ref z]) Q E s:=by
  refine callType_codes (Q₁:=fun obj s₁=>obj = .ref s.heap.objs.size∧s₁={ s with heap:=s.heap.push { cls:=.type "list", data:=.seq #[] } }) PySem.F.called_list (PySem.F.typeCall_list_1 _) PySem.F.entry_list_init
    (code_list_new _ ⟨rfl,rfl⟩) fun obj s₁ h₁=>?_
  obtain ⟨rfl,rfl⟩:=h₁
  have hS:(s.heap.push { cls:=.type "list", data:=.seq #[] }).get? s.heap.objs.size=some { cls:=.type "list", data:=.seq #[] }:=Heap.get?_push_size _ rfl
  have lt:∀ {b o},s.heap.get? b=some o→b < s.heap.objs.size:=fun e=>Heap.lt_size e
  have bz:=lt n.hz
  have bTI:=lt n.hTI
  have bTO:=lt n.hTO
  have b1:i1 < s.heap.objs.size:=let ⟨_,e,_⟩:=n.h1;lt e
  have b2:i2 < s.heap.objs.size:=let ⟨_,e,_⟩:=n.h2;lt e
  have bl1:l1 < s.heap.objs.size:=let ⟨_,e,_⟩:=n.hl1;lt e
  have bl2:l2 < s.heap.objs.size:=let ⟨_,e,_⟩:=n.hl2;lt e
  refine ⟨⟨_,hS,rfl⟩,PySem.F.args_list_init_2 _ _,zl_init (A:=A.in1) hh (n.keep bz bTI bTO b1 b2 bl1 bl2 fun b o _ e=>Heap.get?_push_of_some _ e) _ bz bTI bTO b1 b2 bl1 bl2 hn hxy hS fun h' tk acc c as hk hS' hl hG hacc=>?_⟩
  exact ⟨rfl,hQ h' tk acc c as (fun b o c2 c3 c4 c5 e=>hk b o (Nat.ne_of_lt (Heap.lt_size e)) c2 c3 c4 c5 (Heap.get?_push_of_some _ e)) hS' hl hG hacc⟩
end
end HT
namespace L2
open PySem PySem.Spec PyProof.Rows HT
section
variable {X:Cx} {pins:List (Addr×Obj)} {σ:St} {H H':Hp} {s:Shared} {h':Heap}
theorem Inv.many {t':Nat} (I:Inv X pins σ H s) (k:∀ b u,s.heap.get? b=some u→h'.get? b=some u) (old:∀ b,b < s.heap.objs.size→H' b=H b)
    (new:∀ b o,s.heap.objs.size≤b→H' b=some o→((∃ xs,o = .tup xs)∨∃ xs,o = .lst xs)∧ObjOk X.prog X.w H' h' b o):Inv X pins σ H' { s with heap:=h',toks:=t' }:=by
  have up:∀ b o,H b=some o→H' b=some o:=fun b o e=>by rw [old b (I.hok.lt e)];exact e
  refine I.un ⟨fun b ob q _ _ _=>k b ob q,fun b ob q _ _ _=>⟨ob.slots,k b ob q⟩,fun b ob q n _=>by rw [old b (Heap.lt_size q)];exact n,fun b ob q _=>⟨ob,k b ob q⟩,fun b xs q=>up b _ q,fun b o u q=>up b _ q,fun b ps q=>⟨#[],by rw [up b _ q];simp⟩⟩ fun b o e=>?_
  rcases Nat.lt_or_ge b s.heap.objs.size with hb | hb
  · rw [old b hb] at e
    exact (I.hok b o e).stay (fun c v _ q=>k c v q) (fun c q=>up c _ q) fun c xs q=>up c _ q
  · exact (new b o hb e).2
def pairH (H:Hp) (S:Addr) (as:List Addr) (xs ys:List V):Hp:=fun b=>
  if b=S then some (.lst (as.map V.ref)) else match as.findIdx? (· == b) with
    | some j=>match xs[j]?,ys[j]? with | some x,some y=>some (.tup [x,y]) | _,_=>none
    | none=>H b
theorem pairH_S {S:Addr} {as:List Addr} {xs ys:List V}:pairH H S as xs ys S=some (.lst (as.map V.ref)):=if_pos rfl
theorem findIdx_of {as:List Addr} (nd:as.Nodup) {j:Nat} {a:Addr} (h:as[j]? = some a):as.findIdx? (· == a)=some j:=by
  have hj:=get_lt h
  rw [List.findIdx?_eq_some_iff_getElem]
  refine ⟨hj,?_,fun i hi=>?_⟩
  · rw [List.getElem?_eq_getElem hj] at h;cases h;simp
  · rw [List.getElem?_eq_getElem hj] at h;cases h
    intro z
    have e:as[i]'(by omega)=as[j]:=by simpa using z
    have:=(List.getElem_inj nd).mp e
    omega
theorem findIdx_no {as:List Addr} {b:Addr} (h:b∉as):as.findIdx? (· == b)=none:=by
  rw [List.findIdx?_eq_none_iff]
  intro x hx
  simp only [beq_eq_false_iff_ne,ne_eq]
  exact fun z=>h (z ▸ hx)
def tLZ (K:Frag) (ta:TA):TE:=fun σ H Q=>ta σ H fun vs H1=>∃ a b xs ys,vs=[.ref a,.ref b]∧SqL K H1 a xs∧SqL K H1 b ys∧ys.length=xs.length∧
  ∀ (l:Addr) (ts:List Addr) (H2:Hp),H1 l=none→Same H1 H2→H2 l=some (.lst (ts.map V.ref))→ts.length=xs.length→(∀ (j:Nat) (t:Addr),ts[j]? = some t→∃ x y,xs[j]? = some x∧ys[j]? = some y∧H2 t=some (.tup [x,y]))→Q (.ref l) H2
theorem pe_lz {a b:Expr} {ta:TA} {p1 p2 pos1 pos2:Pos} (hc:X.calm=true) (hg1:Gl X "list") (hm1:X.mg "list" = none) (hg:Gl X "zip") (hm:X.mg "zip" = none) (ha:PA X [a,b] ta)
    (hs:starEach [a,b] X.env=[(false,eval a X.env),(false,eval b X.env)]:=by rfl) (hs2:starEach [b] X.env=[(false,eval b X.env)]:=by rfl)
    (hs3:starEach [.Call (.Name "zip" p2) [a,b] [] pos2] X.env=[(false,eval (.Call (.Name "zip" p2) [a,b] [] pos2) X.env)]:=by rfl) :
    PE X (.Call (.Name "list" p1) [.Call (.Name "zip" p2) [a,b] [] pos2] [] pos1) (tLZ X.K ta):=by
  intro pins s σ H Q I h
  refine wpAny_Call_Name_kw (ld_blt I hg1 hm1 boot_ty_list (PyProof.Rows.callWith_type1 ?_ (by rw [hs3];rfl) rfl))
  rw [hs3]
  show wpAny _ _ (spliced ((false,_) :: backTo pos1 [])) _ _ s
  refine Calls.spliced_cons (Call_ (ld_blt I hg hm boot_zip (PyProof.Rows.callWith_type1 (thn (ha pos2 pins s σ H _ I h) fun us s1 ⟨vs,H1,I1,r1,q1⟩=>?_) (by rw [hs,hs2]) (by rw [hs2];rfl))))
  obtain ⟨l1,l2,xs,ys,e,q1,q2,hxy,q⟩:=q1
  subst e
  cases r1 with
  | cons r rr=>
    cases rr with
    | cons r' rr=>
      cases rr
      cases r
      cases r'
      obtain ⟨ws,rw1,p1,z1⟩:=I1.list q1
      obtain ⟨vs,rw2,p2,z2⟩:=I1.list q2
      have lt1:l1 < s1.heap.objs.size:=by obtain ⟨o,e,_⟩:=p1.isList;exact pins_lt e
      have lt2:l2 < s1.heap.objs.size:=by obtain ⟨o,e,_⟩:=p2.isList;exact pins_lt e
      refine call_zip_2 p1.isList p2.isList fun h' a1 a2 a3 a4 a5 a6 a7=>?_
      refine Calls.spliced_nil ?_
      have e1:=rw1.length
      have e2:=rw2.length
      have n:ZNew h' (s1.heap.objs.size+4) (s1.heap.objs.size+2) (s1.heap.objs.size+3) s1.heap.objs.size (s1.heap.objs.size+1) l1 l2 ws.toArray vs.toArray:=
        ⟨zipApart_new lt1 lt2,a1,a2,a3,a4,a5,let ⟨o,e,x⟩:=p1.isList;⟨o,a7 _ _ e,x⟩,let ⟨o,e,x⟩:=p2.isList;⟨o,a7 _ _ e,x⟩⟩
      refine zl_call (s:={ s1 with heap:=h' }) (I1.ok.hd hc) n (by simp only [List.size_toArray];omega) (by simp only [List.size_toArray];omega) fun h2 tk acc c as hk hS hal hG hacc=>?_
      dsimp only at hk hS hG
      have hlt:s1.heap.objs.size < h'.objs.size:=by omega
      generalize hSS:h'.objs.size=S at *
      have nd:as.Nodup:=List.Pairwise.imp (fun h=>Nat.ne_of_lt h) hG.rise
      have nin:∀ b,b < s1.heap.objs.size→b≠S∧b∉as:=fun b hb=>⟨Nat.ne_of_lt (Nat.lt_trans hb hlt),fun z=>absurd (Nat.lt_trans hb (Nat.lt_trans hlt (hG.above b z))) (Nat.lt_irrefl _)⟩
      have old:∀ b,b < s1.heap.objs.size→pairH H1 S as xs ys b=H1 b:=fun b hb=>by
        unfold pairH
        rw [if_neg (nin b hb).1,findIdx_no (nin b hb).2]
      have at_:∀ (j:Nat) (t:Addr),as[j]? = some t→∃ x y,xs[j]? = some x∧ys[j]? = some y∧pairH H1 S as xs ys t=some (.tup [x,y]):=fun j t ht=>by
        have hj:=get_lt ht
        obtain ⟨x,hx⟩:=get_some (xs:=xs) (i:=j) (by simp only [List.size_toArray] at hal;omega)
        obtain ⟨y,hy⟩:=get_some (xs:=ys) (i:=j) (by simp only [List.size_toArray] at hal;omega)
        refine ⟨x,y,hx,hy,?_⟩
        unfold pairH
        rw [if_neg (Nat.ne_of_gt (hG.above t (List.mem_of_getElem? ht))),findIdx_of nd ht]
        dsimp only
        rw [hx,hy]
      have vr:∀ l:List Addr,Vals (l.map V.ref) (l.map Value.ref):=fun l=>by
        induction l with
        | nil=>exact .nil
        | cons a l ih=>exact .cons rfl ih
      have I2:Inv X pins σ (pairH H1 S as xs ys) { s1 with heap:=h2,toks:=tk }:=by
        refine I1.many (fun b u e=>?_) old fun b o hb e=>?_
        · have hb:=Heap.lt_size e
          exact hk b u (Nat.ne_of_lt (Nat.lt_of_lt_of_le hb (Nat.le_add_right _ _))) (Nat.ne_of_lt (Nat.lt_of_lt_of_le hb (Nat.le_add_right _ _))) (Nat.ne_of_lt hb) (Nat.ne_of_lt (Nat.lt_of_lt_of_le hb (Nat.le_add_right _ _))) (a7 b u e)
        · by_cases hbS:b=S
          · subst hbS
            rw [pairH_S] at e
            cases e
            exact ⟨.inr ⟨_,rfl⟩,by rw [List.length_map];simp only [List.size_toArray] at hal;omega,acc.toList,c,by rw [hacc];exact vr as,by rw [Array.toArray_toList];exact hS⟩
          · by_cases hba:b∈as
            · obtain ⟨j,hj⟩:=List.mem_iff_getElem?.mp hba
              obtain ⟨x,y,hx,hy,e'⟩:=at_ j b hj
              rw [e'] at e
              cases e
              obtain ⟨u,v,hu,hv,hp⟩:=hG.pairs j b hj
              obtain ⟨u',hu',ru⟩:=rw1.get hx
              obtain ⟨v',hv',rv⟩:=rw2.get hy
              have eu:u'=u:=by simpa [hu'] using hu
              have ev:v'=v:=by simpa [hv'] using hv
              subst eu ev
              exact ⟨.inl ⟨_,rfl⟩,by show 2≤sizeLine;decide,[u',v'],.cons ru (.cons rv .nil),⟨_,hp,rfl,_,rfl⟩⟩
            · unfold pairH at e
              rw [if_neg hbS,findIdx_no hba,I1.hok.fresh hb] at e
              cases e
      refine ⟨.ref S,_,I2,rfl,q S as _ (I1.hok.fresh (Nat.le_of_lt hlt)) (fun b o e=>?_) pairH_S (by simp only [List.size_toArray] at hal;omega) at_⟩
      rw [old b (I1.hok.lt e)];exact e
end
end L2
namespace L2
open PySem PySem.Spec PyProof.Rows
theorem pgcNT (i0 i1 i2:Nat) {X:Cx} {scope:Scope} {cl:List (Str×Addr)} {C:Addr} {s₀:Shared} {H₀:Hp} {fp:List Addr} {x0 x1 x2:Str} {p0 p1 p2 pos pos':Pos} {k k':Nat} (hN:(scope.names.map (·.1)).Nodup:=by decide +kernel)
    (h0:(scope.names.map (·.1))[i0]? = some x0:=by rfl) (l0:(relabel scope X.env).names.lookup x0=some .local:=by rfl)
    (h1:(scope.names.map (·.1))[i1]? = some x1:=by rfl) (l1:(relabel scope X.env).names.lookup x1=some .local:=by rfl)
    (h2:(scope.names.map (·.1))[i2]? = some x2:=by rfl) (l2:(relabel scope X.env).names.lookup x2=some .local:=by rfl)
    (hc:X.calm=true:=by rfl):PG (X.cmp scope cl C s₀ H₀ fp) (.Tuple [.Name x0 p0,.Tuple [.Name x1 p1,.Name x2 p2] k' pos'] k pos) (gTup X.K 2 (gCons (gName i0) (gCons (gTup X.K 2 (gCons (gName i1) (gCons (gName i2) gNil))) gNil))):=
  pg_tup (X:=X.cmp scope cl C s₀ H₀ fp) (n:=2) hc (pgs_cons (pg_name (cmp_nd hN) h0 (.inl l0) (.inr l0)) (pgs_cons (pg_tup (X:=X.cmp scope cl C s₀ H₀ fp) (n:=2) hc (pgs_cons (pg_name (cmp_nd hN) h1 (.inl l1) (.inr l1)) (pgs_cons (pg_name (cmp_nd hN) h2 (.inl l2) (.inr l2)) pgs_nil))) pgs_nil))
theorem pgcTN (i0 i1 i2:Nat) {X:Cx} {scope:Scope} {cl:List (Str×Addr)} {C:Addr} {s₀:Shared} {H₀:Hp} {fp:List Addr} {x0 x1 x2:Str} {p0 p1 p2 pos pos':Pos} {k k':Nat} (hN:(scope.names.map (·.1)).Nodup:=by decide +kernel)
    (h0:(scope.names.map (·.1))[i0]? = some x0:=by rfl) (l0:(relabel scope X.env).names.lookup x0=some .local:=by rfl)
    (h1:(scope.names.map (·.1))[i1]? = some x1:=by rfl) (l1:(relabel scope X.env).names.lookup x1=some .local:=by rfl)
    (h2:(scope.names.map (·.1))[i2]? = some x2:=by rfl) (l2:(relabel scope X.env).names.lookup x2=some .local:=by rfl)
    (hc:X.calm=true:=by rfl):PG (X.cmp scope cl C s₀ H₀ fp) (.Tuple [.Tuple [.Name x0 p0,.Name x1 p1] k' pos',.Name x2 p2] k pos) (gTup X.K 2 (gCons (gTup X.K 2 (gCons (gName i0) (gCons (gName i1) gNil))) (gCons (gName i2) gNil))):=
  pg_tup (X:=X.cmp scope cl C s₀ H₀ fp) (n:=2) hc (pgs_cons (pg_tup (X:=X.cmp scope cl C s₀ H₀ fp) (n:=2) hc (pgs_cons (pg_name (cmp_nd hN) h0 (.inl l0) (.inr l0)) (pgs_cons (pg_name (cmp_nd hN) h1 (.inl l1) (.inr l1)) pgs_nil))) (pgs_cons (pg_name (cmp_nd hN) h2 (.inl l2) (.inr l2)) pgs_nil))
end L2
namespace L2
open PySem PySem.Spec PyProof.Rows
end L2
namespace L2
open PySem PySem.Spec PyProof.Rows
section
variable (P:Program) (w:World)
end
section
variable {P:Program} {w:World} {H H':Hp} {h h':Heap} {a:Addr} {o:HO}
end
section
variable {P:Program} {w:World} {H:Hp} {h h':Heap} {x e:Addr} {o':HO}
end
section
variable {fs fs' ex ex':List Addr} {H H1 H2:Hp} {h h1 h2 h':Heap} {a x e:Addr} {o:HO}
end
end L2
namespace L2
open PySem PySem.Spec PyProof.Rows
section
variable {X:Cx} {pins:List (Addr×Obj)} {σ:List (Option V)} {H H':Hp} {s:Shared} {h':Heap}
end
end L2
namespace L2
open PySem PySem.Spec PyProof.Rows
section
variable {X:Cx}
variable {a b:Expr} {ta tb:TE} {pos:Pos}
variable {tA tB':TT} {rest:List Expr}
end
end L2
namespace L2
open PySem PySem.Spec PyProof.Rows
section
variable {X:Cx} {pins:List (Addr×Obj)} {σ:St} {H:Hp} {s:Shared} {a:Addr} {xs ys:List V}
end
section
variable {X:Cx} {pins:List (Addr×Obj)} {σ:St} {H:Hp} {s:Shared} {E:Value→Shared→Prop}
end
section
variable {X:Cx} {st:Stmt} {rest:List Stmt} {t u:TS} {e:Expr} {te:TE} {pos:Pos}
end
section
variable {X:Cx} {pos:Pos}
end
section
variable {X:Cx} {pos:Pos}
end
end L2
namespace L2
open PySem PySem.Spec PyProof.Rows
section
variable {X:Cx} {tg:Expr}
end
end L2
namespace L2
open PySem PySem.Spec PyProof.Rows
section
variable {X:Cx} {a b c:Expr} {ta tb tc:TE} {pos:Pos}
end
section
variable {X:Cx} {a b c:Expr} {ta tb tc:TE} {pos:Pos}
end
end L2
namespace L2
open PySem PySem.Spec PyProof.Rows
section
variable {prog:Program} {w:World} {A:Around} {E:Value→Shared→Prop} {s:Shared} {K:Frag} {x dx C f:Addr} {mA:Str→Option Value} {name:Str} {v:Value}
end
section
variable {P:Program} {w:World} {H H':Hp} {h h':Heap} {a C dx:Addr} {fs fs':List (Str×V)}
end
section
variable {X:Cx} {pins:List (Addr×Obj)} {σ:St} {H:Hp} {s:Shared} {a C dx:Addr} {fs:List (Str×V)} {f:Str} {v:V} {A:Around} {E:Value→Shared→Prop}
end
section
variable {X:Cx} {o e value:Expr} {f:Str} {pos pos' tpos:Pos} {ta tv:TE}
end
section
variable {X:Cx} {pins:List (Addr×Obj)} {σ:St} {H:Hp} {s:Shared} {A:Around} {E:Value→Shared→Prop} {Q:Value→Shared→Prop} {c:Value} {b:Bool}
end
end L2
namespace L2
open PySem PySem.Spec PyProof.Rows
section
variable {X:Cx} {e:Expr} {es:List Expr} {te:TE} {t:TA} {pos:Pos}
end
section
variable {X:Cx} {pins:List (Addr×Obj)} {σ:St} {H:Hp} {s s':Shared}
end
section
variable {X:Cx} {CX:CXT} {k:Nat} {f C:Addr} {fd:FuncData} {ps:List Str} {sp:Sp} {dvs:List V} {ds:List Value} {E:XK} {x m:Str} {p pos apos:Pos} {e o:Expr} {es:List Expr} {ta:TE} {t:TA}
end
section
variable {X:Cx} {CX:CXT} {k:Nat} {f C:Addr} {fd:FuncData} {ps ks:List Str} {sp:Sp} {E:XK} {x m:Str} {p pos apos kpos:Pos} {e o:Expr} {es:List Expr} {kws:List Keyword} {te ta:TE} {t tk:TA} {nm:Option Str}
variable {g:List Value→List Value→List Value} {gV:List V→List V→List V}
end
end L2
namespace L2
open PySem PySem.Spec PyProof.Rows
section
variable {X:Cx} {x:Str} {p pos:Pos} {e:Expr} {es:List Expr} {t:TA} {id T:String} {r:List V→Hp→VK→Prop}
end
end L2
namespace L2
open PySem PySem.Spec PyProof.Rows
section
variable {κ:Type} [DecidableEq κ]
def valV (kvs:List (κ×V)) (k:κ):Option V:=(kvs.find? fun kv=>decide (kv.1=k)).map (·.2)
def putK (kvs:List (κ×V)) (k:κ) (v:V):List (κ×V):=
  if (kvs.any fun kv=>decide (kv.1=k))=true then kvs.map (fun kv=>if kv.1=k then (kv.1,v) else kv) else kvs ++ [(k,v)]
theorem valV_pos {p:κ×V} {r:List (κ×V)} {k:κ} (e:p.1=k):valV (p :: r) k=some p.2:=by simp [valV,List.find?_cons,e]
theorem valV_neg {p:κ×V} {r:List (κ×V)} {k:κ} (e:¬ p.1=k):valV (p :: r) k=valV r k:=by simp [valV,List.find?_cons,e]
theorem valV_any (k:κ):∀ kvs:List (κ×V),(kvs.any fun kv=>decide (kv.1=k))=(valV kvs k).isSome
  | []=>rfl
  | p :: r=>by
    rw [List.any_cons]
    by_cases e:p.1=k
    · simp only [valV_pos e,decide_eq_true e,Bool.true_or,Option.isSome_some]
    · rw [valV_neg e,decide_eq_false e,Bool.false_or];exact valV_any k r
theorem length_putK (kvs:List (κ×V)) (k:κ) (v:V):(putK kvs k v).length≤kvs.length+1:=by
  unfold putK
  split
  · rw [List.length_map];omega
  · rw [List.length_append,List.length_cons,List.length_nil];omega
theorem putK_new {kvs:List (κ×V)} {k:κ} (v:V) (h:valV kvs k=none):putK kvs k v=kvs ++ [(k,v)]:=by
  unfold putK
  rw [valV_any,h]
  exact if_neg (by decide)
theorem RelO.isSome_eq {o:Option V} {u:Option Value} (r:RelO o u):o.isSome=u.isSome:=by
  cases o with
  | none=>cases u with
    | none=>rfl
    | some _=>exact (show False from r).elim
  | some _=>cases u with
    | none=>exact (show False from r).elim
    | some _=>rfl
theorem KV.val {kvs:List (κ×V)} {vs:List (κ×Value)} (r:KV kvs vs) (k:κ):RelO (valV kvs k) (valueAt vs k):=by
  unfold KV at r
  induction r with
  | nil=>exact True.intro
  | @cons p q ps qs h t ih=>
    obtain ⟨h1,h2⟩:=h
    by_cases e:p.1=k
    · have e':q.1=k:=h1.symm.trans e
      have b:valueAt (q :: qs) k=some q.2:=by simp [valueAt,List.find?_cons,e']
      rw [valV_pos e,b];exact h2
    · have e':¬ q.1=k:=fun z=>e (h1.trans z)
      have b:valueAt (q :: qs) k=valueAt qs k:=by simp [valueAt,List.find?_cons,e']
      rw [valV_neg e,b];exact ih
theorem KV.any {kvs:List (κ×V)} {vs:List (κ×Value)} (r:KV kvs vs) (k:κ):(kvs.any fun kv=>decide (kv.1=k))=vs.any fun kv=>decide (kv.1=k):=by
  unfold KV at r
  induction r with
  | nil=>rfl
  | cons h t ih=>rw [List.any_cons,List.any_cons,ih,h.1]
theorem KV.repl {kvs:List (κ×V)} {vs:List (κ×Value)} (r:KV kvs vs) (k:κ) {y:V} {u:Value} (ry:RelV y u) :
    KV (kvs.map fun kv=>if kv.1=k then (kv.1,y) else kv) (vs.map fun kv=>if kv.1=k then (kv.1,u) else kv):=by
  unfold KV at r ⊢
  induction r with
  | nil=>exact .nil
  | @cons p q ps qs h t ih=>
    rw [List.map_cons,List.map_cons]
    refine .cons ?_ ih
    obtain ⟨h1,h2⟩:=h
    by_cases e:p.1=k
    · rw [if_pos e,if_pos (h1.symm.trans e)];exact ⟨h1,ry⟩
    · rw [if_neg e,if_neg (fun z=>e (h1.trans z))];exact ⟨h1,h2⟩
theorem KV.put {kvs:List (κ×V)} {vs:List (κ×Value)} (r:KV kvs vs) (k:κ) {y:V} {u:Value} (ry:RelV y u):KV (putK kvs k y) (stored vs k u):=by
  unfold putK stored
  rw [r.any k]
  by_cases e:(vs.any fun kv=>decide (kv.1=k))=true
  · rw [if_pos e,if_pos e];exact r.repl k ry
  · rw [if_neg e,if_neg e];exact Paired.snoc r ⟨rfl,ry⟩
theorem KV.keys {kvs:List (κ×V)} {vs:List (κ×Value)} (r:KV kvs vs):kvs.map (·.1)=vs.map (·.1):=by
  unfold KV at r
  induction r with
  | nil=>rfl
  | cons h t ih=>rw [List.map_cons,List.map_cons,ih,h.1]
theorem KV.length {kvs:List (κ×V)} {vs:List (κ×Value)} (r:KV kvs vs):kvs.length=vs.length:=Paired.length r
end
theorem kV_is {P:Program} {w:World} {k:Key} {u:Value} (r:RelV (kV k) u):(mixKind P w).is k u=true:=by
  cases k with
  | inl i=>obtain ⟨t,e⟩:=(show ∃ t,u=Value.int i t from r);subst e;exact mixKind_int P w i t
  | inr x=>obtain ⟨t,e⟩:=(show ∃ t,u=Value.str x t from r);subst e;exact mixKind_str P w x t
theorem items_are {P:Program} {w:World}:∀ {ks:List Key} {us:List Value},Vals (ks.map kV) us→ItemsAre (mixKind P w) ks us
  | [],_,r=>by rw [List.map_nil] at r;cases r;exact .nil
  | k :: ks,_,r=>by
    rw [List.map_cons] at r
    cases r with
    | cons h t=>exact .cons (kV_is h) (items_are t)
abbrev KT (H:Hp):List (List Key×V)→List (List Key×Addr×Value)→Prop:=Paired fun p q=>p.1=q.1∧H q.2.1=some (.tup (p.1.map kV))∧RelV p.2 q.2.2
theorem KT.val {H:Hp} {kvs:List (List Key×V)} {xs:List (List Key×Addr×Value)} (r:KT H kvs xs) (k:List Key):RelO (valV kvs k) ((atKey xs k).map (·.2)):=by
  induction r with
  | nil=>exact True.intro
  | @cons p q ps qs h t ih=>
    obtain ⟨h1,_,h2⟩:=h
    by_cases e:p.1=k
    · have e':q.1=k:=h1.symm.trans e
      have b:atKey (q :: qs) k=some q.2:=by simp [atKey,List.find?_cons,e']
      rw [valV_pos e,b];exact h2
    · have e':¬ q.1=k:=fun z=>e (h1.trans z)
      have b:atKey (q :: qs) k=atKey qs k:=by simp [atKey,List.find?_cons,e']
      rw [valV_neg e,b];exact ih
theorem KT.repl {H:Hp} {kvs:List (List Key×V)} {xs:List (List Key×Addr×Value)} (r:KT H kvs xs) (k:List Key) {y:V} {u:Value} (ry:RelV y u) :
    KT H (kvs.map fun kv=>if kv.1=k then (kv.1,y) else kv) (xs.map (putAt k u)):=by
  induction r with
  | nil=>exact .nil
  | @cons p q ps qs h t ih=>
    rw [List.map_cons,List.map_cons]
    refine .cons ?_ ih
    obtain ⟨h1,h2,h3⟩:=h
    unfold putAt
    by_cases e:p.1=k
    · rw [if_pos e,if_pos (h1.symm.trans e)];exact ⟨h1,h2,ry⟩
    · rw [if_neg e,if_neg (fun z=>e (h1.trans z))];exact ⟨h1,h2,h3⟩
theorem KT.put {H:Hp} {kvs:List (List Key×V)} {xs:List (List Key×Addr×Value)} (r:KT H kvs xs) (k:List Key) {b:Addr} {y:V} {u:Value} (hb:H b=some (.tup (k.map kV))) (ry:RelV y u) :
    KT H (putK kvs k y) (storedH xs k b u):=by
  have e:(kvs.any fun kv=>decide (kv.1=k))=(atKey xs k).isSome:=by
    rw [valV_any,(r.val k).isSome_eq,Option.isSome_map]
  unfold putK storedH
  rw [e]
  by_cases q:(atKey xs k).isSome=true
  · rw [if_pos q,if_pos q];exact r.repl k ry
  · rw [if_neg q,if_neg q];exact Paired.snoc r ⟨rfl,hb,ry⟩
theorem KT.keeps {H H':Hp} {kvs:List (List Key×V)} {xs:List (List Key×Addr×Value)} (r:KT H kvs xs) (ht:∀ b ys,H b=some (.tup ys)→H' b=some (.tup ys)):KT H' kvs xs:=
  Paired.mapP r fun _ _ z=>⟨z.1,ht _ _ z.2.1,z.2.2⟩
section
variable {P:Program} {w:World} {H:Hp} {h:Heap} {a:Addr}
theorem rd_of {u:HO} (ok:HOk P w H h) (e:Rd H a u):ObjOk P w H h a u:=e.ok ok
theorem dk_rd {kvs:List (Key×V)} (ok:HOk P w H h) (e:Rd H a (.dK kvs)):kvs.length≤sizeLine∧(a == sysModules)=false∧∃ vs,KV kvs vs∧h.DictOf (mixKind P w) a vs:=
  show ObjOk P w H h a (.dK kvs) from rd_of ok e
theorem dk_of {kvs:List (Key×V)} (ok:HOk P w H h) (e:H a=some (.dK kvs)):kvs.length≤sizeLine∧(a == sysModules)=false∧∃ vs,KV kvs vs∧h.DictOf (mixKind P w) a vs:=dk_rd ok (.inl e)
theorem key_of {ks:List Key} (ok:HOk P w H h) (e:H a=some (.tup (ks.map kV))):(tupleKind (mixKind P w)).is h ks a:=by
  obtain ⟨_,its,r,o,h1,h2,n,h3⟩:=(show ObjOk P w H h a (.tup (ks.map kV)) from ok a _ e)
  exact ⟨o,its.toArray,n,h1,h2,h3,by simpa using items_are r⟩
theorem dt_rd {kvs:List (List Key×V)} (ok:HOk P w H h) (e:Rd H a (.dT kvs)):kvs.length≤sizeLine∧(a == sysModules)=false∧
    ∃ xs,KT H kvs xs∧h.DictOfH (tupleKind (mixKind P w)) a xs:=by
  obtain ⟨z,y,xs,r,o,es,ep,h1,h2,h3,h4,h5⟩:=(show ObjOk P w H h a (.dT kvs) from rd_of ok e)
  refine ⟨z,y,xs,r,o,es,ep,h1,h2,h3,h4,fun x hx=>?_,h5⟩
  have all:∀ {l:List (List Key×V)} {m:List (List Key×Addr×Value)},KT H l m→∀ x∈m,(tupleKind (mixKind P w)).is h x.1 x.2.1:=by
    intro l m q
    induction q with
    | nil=>intro x hx;exact nomatch hx
    | @cons p q ps qs hq t ih=>
      intro x hx
      rcases List.mem_cons.mp hx with e | hx
      · subst e
        exact key_of ok (by rw [← hq.1];exact hq.2.1)
      · exact ih x hx
  exact all r x hx
theorem dt_of {kvs:List (List Key×V)} (ok:HOk P w H h) (e:H a=some (.dT kvs)):kvs.length≤sizeLine∧(a == sysModules)=false∧
    ∃ xs,KT H kvs xs∧h.DictOfH (tupleKind (mixKind P w)) a xs:=dt_rd ok (.inl e)
end
def DGet (H:Hp) (a:Addr) (y:V) (r:Option V):Prop:=
  (∃ kvs k,Rd H a (.dK kvs)∧y=kV k∧r=valV kvs k)∨∃ kvs k b,Rd H a (.dT kvs)∧y = .ref b∧H b=some (.tup (k.map kV))∧r=valV kvs k
def DPut (H:Hp) (a:Addr) (y v:V) (H':Hp):Prop:=
  (∃ kvs k,H a=some (.dK kvs)∧y=kV k∧kvs.length < sizeLine∧H'=upd H a (.dK (putK kvs k v)))∨
  ∃ kvs k b,H a=some (.dT kvs)∧y = .ref b∧H b=some (.tup (k.map kV))∧kvs.length < sizeLine∧H'=upd H a (.dT (putK kvs k v))
theorem DGet.k {H:Hp} {a:Addr} {kvs:List (Key×V)} {k:Key} (e:H a=some (.dK kvs)):DGet H a (kV k) (valV kvs k):=.inl ⟨kvs,k,.inl e,rfl,rfl⟩
theorem DPut.k {H:Hp} {a:Addr} {kvs:List (Key×V)} {k:Key} {v:V} (e:H a=some (.dK kvs)) (hl:kvs.length < sizeLine):DPut H a (kV k) v (upd H a (.dK (putK kvs k v))):=.inl ⟨kvs,k,e,rfl,hl,rfl⟩
section
variable {X:Cx} {pins:List (Addr×Obj)} {σ:St} {H:Hp} {s:Shared} {a:Addr} {y v:V} {u r:Value} {o:Option V} {A:Around} {E:Value→Shared→Prop}
theorem Inv.big (I:Inv X pins σ H s):sysModules < s.heap.objs.size:=by
  have h:mainGlobals < s.heap.objs.size:=(I.mod.glob.keeps I.bk).lt
  exact Nat.lt_trans (by decide) h
theorem d_getItem {Q:Value→Shared→Prop} (hu:A.units+1 < cLine) (I:Inv X pins σ H s) (g:DGet H a y (some v)) (ry:RelV y u) (h:∀ w' s',Inv X pins σ H s'→RelV v w'→Q w' s') :
    wpAny (model X.prog X.w) A (getItem (.ref a) u) Q E s:=by
  rcases g with ⟨kvs,k,e,ey,l⟩ | ⟨kvs,k,b,e,ey,eb,l⟩
  · subst ey
    obtain ⟨z,hd,vs,rel,dd⟩:=dk_rd I.hok e
    obtain ⟨w',hw,rw'⟩:=RelO.some_of (v:=v) (o:=valueAt vs k) (by rw [l];exact rel.val k)
    exact wpAny_getItem_of (kV_is ry) dd.mapOf hw (h w' _ (I.tok _) rw')
  · subst ey
    cases (show u=Value.ref b from ry)
    obtain ⟨z,hd,xs,rel,dd⟩:=dt_rd I.hok e
    obtain ⟨w',hw,rw'⟩:=RelO.some_of (v:=v) (o:=(atKey xs k).map (·.2)) (by rw [l];exact rel.val k)
    obtain ⟨p,hp,hp2⟩:=Option.map_eq_some_iff.mp hw
    refine wpAny_getItem_heap (tupleKind_room_in1 hu) (key_of I.hok eb) dd hp ?_
    rw [hp2]
    exact h w' _ (I.tok _) rw'
theorem d_notIn {Q:Value→Shared→Prop} (hu:A.units+1 < cLine) (I:Inv X pins σ H s) (g:DGet H a y o) (ry:RelV y u) (h:∀ s',Inv X pins σ H s'→Q (.bool (!o.isSome)) s') :
    wpAny (model X.prog X.w) A (compareOp .NotIn u (.ref a)) Q E s:=by
  rcases g with ⟨kvs,k,e,ey,l⟩ | ⟨kvs,k,b,e,ey,eb,l⟩
  · subst ey
    obtain ⟨z,hd,vs,rel,dd⟩:=dk_rd I.hok e
    refine wpAny_notIn_of (kV_is ry) hd dd.mapOf ?_
    rw [← (rel.val k).isSome_eq,← l]
    exact h _ (I.tok _)
  · subst ey
    cases (show u=Value.ref b from ry)
    obtain ⟨z,hd,xs,rel,dd⟩:=dt_rd I.hok e
    refine wpAny_notIn_heap (tupleKind_room_in1 hu) (key_of I.hok eb) hd dd ?_
    have q:=(rel.val k).isSome_eq
    rw [Option.isSome_map] at q
    rw [← q,← l]
    exact h _ (I.tok _)
theorem d_write {h':Heap} {t':Nat} {ob:HO} (I:Inv X pins σ H s) (mu:Mut (H a)) (hs:Heap.SameBut a s.heap h') (he:∃ q,h'.get? a=some q) (new:ObjOk X.prog X.w (upd H a ob) h' a ob) :
    Inv X pins σ (upd H a ob) { s with heap:=h',toks:=t' }:=
  I.write (x:=a) (e:=a) mu (.inl rfl) (fun b q hb z=>(hs.2 b hb).trans z) he new
theorem dk_new {P:Program} {w:World} {H':Hp} {h':Heap} {kvs:List (Key×V)} {vs:List (Key×Value)} (z:kvs.length≤sizeLine) (hd:(a == sysModules)=false) (rel:KV kvs vs) (dd:h'.DictOf (mixKind P w) a vs) :
    ObjOk P w H' h' a (.dK kvs):=⟨z,hd,vs,rel,dd⟩
theorem d_setItem {H':Hp} {Q:Unit→Shared→Prop} (hu:A.units+1 < cLine) (I:Inv X pins σ H s) (g:DPut H a y v H') (ry:RelV y u) (rv:RelV v r) (h:∀ s',Inv X pins σ H' s'→Q () s') :
    wpAny (model X.prog X.w) A (setItem (.ref a) u r) Q E s:=by
  rcases g with ⟨kvs,k,e,ey,l,eH⟩ | ⟨kvs,k,b,e,ey,eb,l,eH⟩
  · subst ey eH
    obtain ⟨z,hd,vs,rel,dd⟩:=dk_of I.hok e
    have hz:vs.length≤sizeLine:=by rw [← rel.length];exact z
    have hl:(putK kvs k v).length≤sizeLine:=by have:=length_putK kvs k v;omega
    refine wpAny_setItem_pairs (hsz:=hz) (kV_is ry) dd fun h' dd' hs=>h _ ?_
    have he:∃ q,h'.get? a=some q:=let ⟨q,_,_,hq,_⟩:=dd';⟨q,hq⟩
    exact d_write I (by rw [e];exact True.intro) hs he (dk_new hl hd (rel.put k rv) dd')
  · subst ey eH
    cases (show u=Value.ref b from ry)
    obtain ⟨z,hd,xs,rel,dd⟩:=dt_of I.hok e
    have hz:xs.length≤sizeLine:=by rw [← Paired.length rel];exact z
    have hl:(putK kvs k v).length≤sizeLine:=by have:=length_putK kvs k v;omega
    refine wpAny_setItem_heap (hsz:=hz) (tupleKind_room_in1 hu) (key_of I.hok eb) dd fun h' dd' hs=>h _ ?_
    obtain ⟨q,es,ep,hq,h2,h3,h4,_,h5⟩:=dd'
    refine d_write I (by rw [e];exact True.intro) hs ⟨q,hq⟩ ⟨hl,hd,_,(rel.put k eb rv).keeps fun c ys ec=>?_,q,es,ep,hq,h2,h3,h4,h5⟩
    rw [upd_ne (ne_of ec e (fun z=>nomatch z))]
    exact ec
end
section
variable {X:Cx} {pins:List (Addr×Obj)} {σ:St} {H:Hp} {s:Shared} {a:Addr} {kvs:List (Key×V)} {k:Key} {u:Value} {A:Around} {E:Value→Shared→Prop}
end
def NoSl (i:Expr):Prop:=∀ ov iv,subscripted i false ov iv=operate [ov,iv] (getItem ov iv)
theorem subD_of {prog:Program} {w:World} {A:Around} {E:Value→Shared→Prop} {s:Shared} {env:Env} {value slice:Expr} {pos:Pos} {T id:String} {Q:Value→Shared→Prop}
    (hl:typeLookup (.type T) "__getitem__" = pure (some (.builtin id))) (hs:NoSl slice)
    (h:wpAny (model prog w) A (eval value env) (fun o s₁=>wpAny (model prog w) A (eval slice env) (fun i s₂=>s₂.TypeIs o T∧wpAny (model prog w) A (getItem o i) Q E s₂) E s₁) E s) :
    wpAny (model prog w) A (eval (.Subscript value slice pos) env) Q E s:=by
  refine Subscript_ (wpAny_mono h (fun o s₁ h₁=>wpAny_mono h₁ (fun i s₂ h₂=>?_) fun _ _ x=>x) fun _ _ x=>x)
  obtain ⟨hT,h₂⟩:=h₂
  unfold subscriptTail
  refine wpAny_bind ?_
  rw [getitemInPython_of_ne hT.not_modules]
  refine wpAny_bind (wpAny_specialOf hT hl ?_)
  have fin:wpAny (model prog w) A (subscripted slice false o i) (fun r s₃=>wpAny (model prog w) A (letTemporaryGo value o r >>= fun _=>pure r) Q E s₃) E s₂:=by
    rw [hs o i]
    exact wpAny_operating (wpAny_mono h₂ (fun r s₃ h₃=>wpAny_bind (wpAny_letTemporaryGo (wpAny_pure h₃))) fun _ _ x=>x)
  first
    | exact wpAny_pure (wpAny_bind fin)
    | exact wpAny_bind (wpAny_pure (wpAny_bind fin))
    | exact wpAny_bind fin
theorem dict_typeIs {X:Cx} {pins:List (Addr×Obj)} {σ:St} {H:Hp} {s:Shared} {a:Addr} {y:V} {o:Option V} (I:Inv X pins σ H s) (g:DGet H a y o):s.TypeIs (.ref a) "dict" := by
  rcases g with ⟨kvs,k,e,_,_⟩ | ⟨kvs,k,b,e,_,_,_⟩
  · obtain ⟨_,_,vs,_,dd⟩:=dk_rd I.hok e
    exact dd.typeIs
  · obtain ⟨_,_,xs,_,dd⟩:=dt_rd I.hok e
    exact dd.typeIs
def tDGet (td ty:TE):TE:=fun σ H Q=>td σ H fun x H1=>ty σ H1 fun y H2=>∃ a v,x = .ref a∧DGet H2 a y (some v)∧Q v H2
def sDPut (td ty tv:TE):TS:=fun D σ H=>tv σ H fun v H1=>td σ H1 fun x H2=>ty σ H2 fun y H3=>∃ a H4,x = .ref a∧DPut H3 a y v H4∧D.nx σ H4
section
variable {X:Cx} {o i e value:Expr} {pos pos' tpos:Pos} {td ty tv:TE}
theorem pe_dget (hu:X.A.units+1 < cLine) (ho:PE X o td) (hi:PE X i ty) (hs:NoSl i):PE X (.Subscript o i pos) (tDGet td ty):=by
  intro pins s σ H Q I h
  refine subD_of PySem.F.slot_dict_getitem.lookup hs (thn (ho pins s σ H _ I h) fun u s1 ⟨x,H1,I1,rx,q1⟩=>thn (hi pins s1 σ H1 _ I1 q1) fun iv s2 ⟨y,H2,I2,ry,a,v,ex,g,q2⟩=>?_)
  subst ex
  obtain rfl:u=Value.ref a:=rx
  exact ⟨dict_typeIs I2 g,d_getItem hu I2 g ry fun w' s3 I3 rw'=>⟨v,H2,I3,rw',q2⟩⟩
theorem ps_dput (hu:X.A.units+1 < cLine) (ho:PE X o td) (hi:PE X i ty) (hv:PE X value tv) (hs:swapsWith value (some (.Subscript o i pos')) pos.line X.env=pure false) :
    PS X (.Assign [.Subscript o i pos'] value pos) (sDPut td ty tv):=by
  intro pins s σ H D I h
  refine wpAny_Assign_Subscript (thn (hv pins s σ H _ I h) fun r s1 ⟨v,H1,I1,rv,q1⟩=>thn (ho pins s1 σ H1 _ I1 q1) fun u s2 ⟨x,H2,I2,rx,q2⟩=>thn (hi pins s2 σ H2 _ I2 q2) fun iv s3 ⟨y,H3,I3,ry,a,H4,ex,g,q3⟩=>?_) hs
  subst ex
  obtain rfl:u=Value.ref a:=rx
  exact d_setItem hu I3 g ry rv fun s4 I4=>⟨σ,H4,I4,q3⟩
end
theorem dk_empty {P:Program} {w:World} {H:Hp} (h:Heap) (hb:sysModules < h.objs.size):ObjOk P w H (h.push { cls:=.type "dict", data:=.dict #[] }) h.objs.size (.dK []):=
  ⟨Nat.zero_le _,beq_eq_false_iff_ne.mpr (Ne.symm (Nat.ne_of_lt hb)),[],.nil,Heap.DictOf.new h⟩
def tDNewK:TE:=fun _ H Q=>∀ p,H p=none→Q (.ref p) (upd H p (.dK []))
section
variable {X:Cx} {pos:Pos}
theorem pe_dnewK:PE X (.Dict [] [] pos) tDNewK:=fun pins s σ H Q I h=>
  wpAny_Dict_empty ⟨.ref s.heap.objs.size,_,I.laid (a:=s.heap.objs.size) (o:=.dK []) (t':=s.toks) (fun _ _ q=>Heap.get?_push_of_some _ q) (Nat.le_refl _) (dk_empty s.heap I.big),rfl,h _ (I.hok.fresh (Nat.le_refl _))⟩
end
def mergeK (kvs more:List (Key×V)):List (Key×V):=more.foldl (fun acc kv=>putK acc kv.1 kv.2) kvs
theorem KV.merge:∀ {more:List (Key×V)} {rs:List (Key×Value)} {kvs:List (Key×V)} {vs:List (Key×Value)},KV more rs→KV kvs vs→KV (mergeK kvs more) (merged vs rs):=by
  intro more rs kvs vs r
  unfold KV at r
  induction r generalizing kvs vs with
  | nil=>intro q;exact q
  | @cons p q ps qs h t ih=>
    intro r0
    have e:KV (putK kvs p.1 p.2) (stored vs q.1 q.2):=by
      have:=r0.put p.1 h.2
      rw [← h.1];exact this
    exact ih e
theorem length_mergeK:∀ (more kvs:List (Key×V)),(mergeK kvs more).length≤kvs.length+more.length
  | [],kvs=>by show kvs.length≤kvs.length+0;omega
  | p :: r,kvs=>by
    have h1:=length_mergeK r (putK kvs p.1 p.2)
    have h2:=length_putK kvs p.1 p.2
    show (mergeK (putK kvs p.1 p.2) r).length≤_
    rw [List.length_cons];omega
structure M1 (X:Cx) (o:Expr) (m:Str) (apos:Pos) (e:Expr) (cpos:Pos):Prop where
  base:attributeBase o m X.env (eval o X.env)=eval o X.env
  few:((backTo cpos (starEach [e] X.env)).all (fun x=>!x.1) && (backToKw cpos (keywordEach [] X.env)).all (fun x=>x.1.isSome)
    && decide (([e]:List Expr).length+([]:List Keyword).length+(if ([]:List Keyword).isEmpty then 0 else 1) < 30))=true
  line:(apos.endLine == cpos.line)=true
  trees:backTo cpos (starEach [e] X.env)=[(false,eval e X.env)]
def IsD (H:Hp) (a:Addr):Prop:=(∃ kvs,Rd H a (.dK kvs))∨∃ kvs,Rd H a (.dT kvs)
theorem isD_at {X:Cx} {pins:List (Addr×Obj)} {σ:St} {H:Hp} {s:Shared} {a:Addr} (I:Inv X pins σ H s) (d:IsD H a) :
    s.TypeIs (.ref a) "dict" ∧ (∀ b,Value.ref a = .ref b→∃ ob,s.heap.get? b=some ob∧ob.dict=none)∧(a == sysModules)=false:=by
  rcases d with ⟨kvs,e⟩ | ⟨kvs,e⟩
  · obtain ⟨_,hd,vs,_,dd⟩:=dk_rd I.hok e
    refine ⟨dd.typeIs,fun b q=>?_,hd⟩
    cases q
    obtain ⟨ob,_,_,h1,h2,_⟩:=dd
    exact ⟨ob,h1,h2.2.1⟩
  · obtain ⟨_,hd,xs,_,dd⟩:=dt_rd I.hok e
    refine ⟨dd.typeIs,fun b q=>?_,hd⟩
    cases q
    obtain ⟨ob,_,_,h1,h2,_⟩:=dd
    exact ⟨ob,h1,h2.2.1⟩
section
variable {X:Cx} {pins:List (Addr×Obj)} {σ:St} {H:Hp} {s:Shared} {a:Addr} {y d:V} {u r:Value} {o:Option V} {A:Around} {E:Value→Shared→Prop}
end
section
variable {X:Cx} {o e f:Expr} {apos cpos:Pos} {td ty tx:TE}
end
section
variable {X:Cx} {pins:List (Addr×Obj)} {σ:St} {H:Hp} {s:Shared} {a:Addr} {kvs:List (Key×V)} {A:Around} {E:Value→Shared→Prop}
end
section
variable {X:Cx} {pins:List (Addr×Obj)} {σ:St} {H:Hp} {s:Shared} {a:Addr} {y:V} {u:Value} {A:Around} {E:Value→Shared→Prop}
end
end L2
namespace Att
open PySem PySem.W PySem.Calls PyProof.Rows
section
variable {prog:Program} {w:World} {A:Around} {E:Value→Shared→Prop} {s:Shared} {K:Frag}
end
end Att
namespace L2
open PySem PySem.Spec PyProof.Rows
end L2
namespace L2
open PySem PySem.Spec PyProof.Rows
end L2
namespace L2
open PySem PySem.Spec PyProof.Rows
section
variable {P:Program} {w:World} {K:Frag} {mg:Str→Option Value} {base:Heap}
end
section
variable {X:Cx}
end
section
variable {κ:Type} [DecidableEq κ]
theorem valV_not {kvs:List (κ×V)} {k:κ} (h:valV kvs k=none):¬ k∈kvs.map (·.1):=by
  intro m
  obtain ⟨p,hp,e⟩:=List.mem_map.mp m
  have q:(kvs.any fun kv=>decide (kv.1=k))=true:=List.any_eq_true.mpr ⟨p,hp,decide_eq_true e⟩
  rw [valV_any,h] at q
  exact absurd q (by simp)
end
end L2
namespace L2
open PySem PySem.Spec PyProof.Rows HT
section
variable {X:Cx} {pins:List (Addr×Obj)} {σ:St} {H:Hp} {s:Shared} {a:Addr} {A:Around} {E:Value→Shared→Prop}
theorem vals_of:∀ (xs:List V) (us:List Value),xs.length=us.length→(∀ (i:Nat) (x:V) (u:Value),xs[i]? = some x→us[i]? = some u→RelV x u)→Vals xs us
  | [],[],_,_=>.nil
  | x :: xs,u :: us,h,f=>.cons (f 0 x u rfl rfl) (vals_of xs us (Nat.succ.inj h) fun i y v h1 h2=>f (i+1) y v h1 h2)
theorem key_rel {P:Program} {w:World} {k:Key} {v:Value} (h:(mixKind P w).is k v=true):RelV (kV k) v:=by
  rcases keyIs_shape (k:=k) (v:=v) h with ⟨i,t,rfl,rfl⟩ | ⟨x,t,rfl,rfl⟩
  · exact ⟨t,rfl⟩
  · exact ⟨t,rfl⟩
theorem call_listD (hc:X.calm=true):CallR X (.type "list") (fun xs H Q=>∃ a kvs,xs=[V.ref a]∧H a=some (.dK kvs)∧∀ l,H l=none→Q (.ref l) (upd H l (.lst (kvs.map fun kv=>kV kv.1)))):=by
  intro pins s σ H xs us Q I r h
  obtain ⟨a,kvs,rfl,ha,q⟩:=h
  obtain ⟨u,rfl,ru⟩:=vals1 r
  cases ru
  obtain ⟨z,hd,vs,rel,o,es,ep,d1,d2,d3,d4,d5,d6⟩:=dk_of I.hok ha
  have dd:s.heap.DictAt (mixKind X.prog X.w) a vs ep:=⟨o,es,d1,d2,d3,d4,d5,d6⟩
  have hl:=rel.length
  refine PySem.W.kdl_call (PySem.W.kdl_dict hd) (I.ok.hd hc) dd (by rw [← hl];exact z) fun h' tk acc c hk hS hI=>?_
  have hv:Vals (kvs.map fun kv=>kV kv.1) acc.toList:=by
    have hks:=rel.keys
    refine vals_of _ _ (by rw [List.length_map];exact hl.trans (hI.1.symm.trans Array.length_toList.symm)) fun i x u hx hu=>?_
    obtain ⟨k,y,hy,hk⟩:=hI.2 i u (by rw [← Array.getElem?_toList];exact hu)
    have h1:(kvs.map (·.1))[i]? = some k:=by rw [hks,List.getElem?_map,hy];rfl
    rw [List.getElem?_map] at h1 hx
    obtain ⟨kv,h2,rfl⟩:=Option.map_eq_some_iff.mp h1
    rw [h2] at hx
    have ex:x=kV kv.1:=(Option.some.inj hx).symm
    rw [ex]
    exact key_rel hk
  exact ⟨.ref s.heap.objs.size,_,I.laid (t':=tk) hk (Nat.le_refl _) (show ObjOk X.prog X.w _ h' _ (.lst _) from ⟨by rw [List.length_map];exact z,acc.toList,c,hv,by rw [Array.toArray_toList];exact hS⟩),rfl,q _ (I.hok.fresh (Nat.le_refl _))⟩
theorem d_update {b:Addr} {kvs more:List (Key×V)} {Q:Value→Shared→Prop} (I:Inv X pins σ H s) (e:H a=some (.dK kvs)) (e2:H b=some (.dK more)) (hab:a≠b) (hz:kvs.length+more.length≤sizeLine)
    (h:∀ s',Inv X pins σ (upd H a (.dK (mergeK kvs more))) s'→Q .none s'):wpAny (model X.prog X.w) A (call (.builtin "dict.update") [.ref a,.ref b]) Q E s:=by
  obtain ⟨z,hd,vs,rel,dd⟩:=dk_of I.hok e
  obtain ⟨z2,hd2,vs2,rel2,dd2⟩:=dk_of I.hok e2
  refine call_meetsIn PySem.F.slot_dict_update dd.typeIs PySem.F.entry_dict_update (PySem.F.args_dict_update_2 _ _) (meets_dict_update (mixKind X.prog X.w) a b hab hd2) ⟨vs,vs2,dd,dd2,by rw [← rel.length,← rel2.length];exact hz,fun h' dd' _ hs=>h _ ?_⟩
  have he:∃ q,h'.get? a=some q:=let ⟨q,_,_,hq,_⟩:=dd';⟨q,hq⟩
  exact d_write (t':=s.toks) I (by rw [e];exact True.intro) hs he (dk_new (Nat.le_trans (length_mergeK more kvs) hz) hd (KV.merge rel2 rel) dd')
end
section
variable {X:Cx} {o e:Expr} {td ty:TE} {apos cpos:Pos}
def tDUpd (td ty:TE):TE:=fun σ H Q=>td σ H fun x H1=>∃ a,x = .ref a∧IsD H1 a∧ty σ H1 fun y H2=>∃ b kvs more,y = .ref b∧H2 a=some (.dK kvs)∧H2 b=some (.dK more)∧a≠b∧kvs.length+more.length≤sizeLine∧Q .non (upd H2 a (.dK (mergeK kvs more)))
theorem pe_dupdate (ho:PE X o td) (he:PE X e ty) (m:M1 X o "update" apos e cpos):PE X (.Call (.Attribute o "update" apos) [e] [] cpos) (tDUpd td ty):=by
  intro pins s σ H Q I h
  refine wpAny_Call_method m.base m.few m.line PySem.F.plainAttrs_dict PySem.F.slot_dict_update PySem.F.type_dict_update (thn (ho pins s σ H _ I h) fun u s1 ⟨x,H1,I1,rx,a,ex,d,q1⟩=>?_)
  subst ex
  obtain rfl:u=Value.ref a:=rx
  obtain ⟨t1,t2,_⟩:=isD_at I1 d
  refine ⟨t1,t2,?_⟩
  rw [m.trees]
  refine Calls.callWith_builtin rfl (Calls.evalArgs_plain (Calls.spliced_cons (thn (he pins s1 σ H1 _ I1 q1) fun iv s2 ⟨y,H2,I2,ry,b,kvs,more,ey,ea,eb,hab,hz,q2⟩=>Calls.spliced_nil ?_)))
  subst ey
  obtain rfl:iv=Value.ref b:=ry
  exact d_update I2 ea eb hab hz fun s3 I3=>⟨.non,_,I3,rfl,q2⟩
end
end L2
namespace L2
open PySem PySem.Spec PyProof.Rows
section
variable {X:Cx} {pins:List (Addr×Obj)} {σ:St} {H:Hp} {s:Shared} {a:Addr} {A:Around} {E:Value→Shared→Prop}
theorem d_set {kvs:List (Key×V)} {k:Key} {v:V} {u r:Value} {Q:Unit→Shared→Prop} (I:Inv X pins σ H s) (e:H a=some (.dK kvs)) (ry:RelV (kV k) u) (rv:RelV v r) (l:kvs.length < sizeLine) (h:∀ s',Inv X pins σ (upd H a (.dK (putK kvs k v))) s'→Q () s') :
    wpAny (model X.prog X.w) A (dictSet a u r) Q E s:=by
  obtain ⟨z,hd,vs,rel,dd⟩:=dk_of I.hok e
  have hz:vs.length≤sizeLine:=by rw [← rel.length];exact z
  have hl:(putK kvs k v).length≤sizeLine:=by have:=length_putK kvs k v;omega
  refine wpAny_dictSet_pairs (hsz:=hz) (kV_is ry) dd fun h' dd' hs=>h _ ?_
  have he:∃ q,h'.get? a=some q:=let ⟨q,_,_,hq,_⟩:=dd';⟨q,hq⟩
  exact d_write I (by rw [e];exact True.intro) hs he (dk_new hl hd (rel.put k rv) dd')
theorem wpAny_newDictW {M:Model} {Q:Value→Shared→Prop} (h:Q (.ref s.heap.objs.size) { s with heap:=s.heap.push { cls:=.type "dict", data:=.dict #[] } }):wpAny M A newDict Q E s:=wpAny_newObj_type h
end
section
variable {prog:Program} {w:World} {A:Around} {R:Result→Shared→Prop} {s:Shared}
theorem codeAny_compLoop_dictG {kx vx target iter:Expr} {ifs:List Expr} {scope:Scope} {pos:Pos} {it:Value} {D:Addr} {env:Env} (I:Nat→Shared→Prop)
    (turn:∀ n s,I n s→wpAny (model prog w) A (pyNext it) (fun r s₁=>match r with
      | none=>R (.ok .next) s₁
      | some v=>wpAny (model prog w) A (letOwnedTupleGo target it v) (fun _ s₁'=>wpAny (model prog w) A (assign target env v) (fun _ s₂=>
          wpAny (model prog w) A (forIn ifs true fun c r=>if r=true then do let ok ← isTrue c env (eval c env);pure (ForInStep.yield ok) else pure (ForInStep.yield r)) (fun ok s₃=>
            if ok=true then wpAny (model prog w) A (eval kx env) (fun kv s₄=>wpAny (model prog w) A (eval vx env) (fun vv s₅=>
              wpAny (model prog w) A (dictSet D kv vv) (fun _ s₆=>∃ m,m < n∧I m s₆) (fun _ _=>False) s₅) (fun _ _=>False) s₄) (fun _ _=>False) s₃
            else ∃ m,m < n∧I m s₃) (fun _ _=>False) s₂) (fun _ _=>False) s₁') (fun _ _=>False) s₁) (fun _ _=>False) s)
    (n:Nat) (h:I n s) :
    codeAny (model prog w) A (.compLoop (.DictComp kx vx [⟨target,iter,ifs,0⟩] scope pos) 0 it (.ref D) env) R s:=by
  refine codeAny_loop rfl I (fun n s hI=>?_) n h
  show wpAny _ A ((compTurn (.DictComp kx vx [⟨target,iter,ifs,0⟩] scope pos) 0 it (.ref D) env).onRaise (fun x=>do noteFrame x env;theTreesLotGoes x)) _ _ s
  refine wpAny_noted ?_
  rw [compTurn_dict]
  refine wpAny_bind (wpAny_standAt (wpAny_bind (wpAny_mono (turn n s hI) (fun r s₁ h₁=>?_) fun _ _ h'=>h'.elim)))
  cases r with
  | none=>exact wpAny_pure h₁
  | some v=>
    refine wpAny_bind (wpAny_mono h₁ (fun _ s₁' h₁'=>?_) fun _ _ h'=>h'.elim)
    refine wpAny_bind (wpAny_mono h₁' (fun _ s₂ h₂=>wpAny_bind (wpAny_mono h₂ (fun ok s₃ h₃=>?_) fun _ _ h'=>h'.elim)) fun _ _ h'=>h'.elim)
    cases ok with
    | false=>exact wpAny_pure ⟨rfl,h₃⟩
    | true=>
      exact wpAny_bind (wpAny_bind (wpAny_mono h₃ (fun kv s₄ h₄=>wpAny_bind (wpAny_holding (wpAny_mono h₄ (fun vv s₅ h₅=>wpAny_bind (wpAny_standAt (wpAny_holding (wpAny_mono h₅ (fun _ s₆ h₆=>wpAny_pure ⟨rfl,h₆⟩) fun _ _ h'=>h'.elim)))) fun _ _ h'=>h'.elim))) fun _ _ h'=>h'.elim))
end
def tDC (N:List Str) (names:List (Str×NameKind)) (wi:TI) (g:TG) (tc:TT) (tk te:TE):TE:=fun σ H Q=>wi σ H fun J H1=>∀ D,H1 D=none→
  ∃ W:Nat→Nat→St→Hp→Prop,(∃ m,W 0 m (cmpSt N σ names) (upd H1 D (.dK [])))∧∀ i m σ2 H2,W i m σ2 H2→
    (J.stop i H2∧Q (.ref D) H2)∨(J.go i H2∧∀ x H3,J.yld i H2 x H3→g x σ2 H3 fun σ4 H4=>tc σ4 H4 fun b H5=>
      if b=true then tk σ4 H5 fun kv H6=>te σ4 H6 fun v H7=>∃ k kvs m',kv=kV k∧H7 D=some (.dK kvs)∧kvs.length < sizeLine∧m' < m∧W (i+1) m' σ4 (upd H7 D (.dK (putK kvs k v))) else ∃ m',m' < m∧W (i+1) m' σ4 H5)
theorem block_dc {X:Cx} {kx vx tg iter:Expr} {ifs:List Expr} {scope:Scope} {pos:Pos} {g:TG} {tc:TT} {tk te:TE} (hc:X.calm=true) (ok:CmpOk X scope)
    (hg:∀ cl C s₀ H₀ fp,PG (X.cmp scope cl C s₀ H₀ fp) tg g) (ht:∀ cl C s₀ H₀ fp,PTs (X.cmp scope cl C s₀ H₀ fp) ifs tc) (hk:∀ cl C s₀ H₀ fp,PE (X.cmp scope cl C s₀ H₀ fp) kx tk) (he:∀ cl C s₀ H₀ fp,PE (X.cmp scope cl C s₀ H₀ fp) vx te)
    {pins:List (Addr×Obj)} {σ:St} {H1:Hp} {s2:Shared} {cl:List (Str×Addr)} {it:Addr} {fp:List Addr} {tn:Nat→Heap→Prop} {J:It} {Q:VK} {E:Value→Shared→Prop} {RR:Value→Addr→Result→Shared→Prop}
    (hcl:∀ x c,cl.lookup x=some c→X.env.cells.lookup x=some c) (hcf:∀ y∈scope.names,y.2 = .free→∃ c,cl.lookup y.1=some c)
    (I:Inv X pins σ H1 s2) (T:Turn X.prog X.w X.K tg J fp it tn) (st:tn 0 s2.heap) (hf:∀ b∈fp,FpOk X pins H1 b)
    (h:∀ D,H1 D=none→∃ W:Nat→Nat→St→Hp→Prop,(∃ m,W 0 m (cmpSt X.N σ scope.names) (upd H1 D (.dK [])))∧∀ i m σ2 H2,W i m σ2 H2→
      (J.stop i H2∧Q (.ref D) H2)∨(J.go i H2∧∀ x H3,J.yld i H2 x H3→g x σ2 H3 fun σ4 H4=>tc σ4 H4 fun b H5=>
        if b=true then tk σ4 H5 fun kv H6=>te σ4 H6 fun v H7=>∃ k kvs m',kv=kV k∧H7 D=some (.dK kvs)∧kvs.length < sizeLine∧m' < m∧W (i+1) m' σ4 (upd H7 D (.dK (putK kvs k v))) else ∃ m',m' < m∧W (i+1) m' σ4 H5))
    (hRR:∀ D C H' s' m,s'.heap.Ns C m→Inv X pins σ H' s'→FpOk X pins H' C→Q (.ref D) H'→RR (.ref D) C (.ok .next) s') :
    wpAny (model X.prog X.w) X.A (newDict) (fun acc s₃=>wpAny (model X.prog X.w) X.A (newFunctionEnv scope X.env.globals cl [] X.env.qual none .none (some X.env)) (fun cenv s₄=>
      codeAny (model X.prog X.w) X.A (.compStart (.DictComp kx vx [⟨tg,iter,ifs,0⟩] scope pos) 0 (.ref it) acc { cenv with scope:=relabel scope X.env }) (RR acc cenv.locals) s₄) E s₃) E s2:=by
  refine wpAny_newDictW ?_
  have I3:Inv X pins σ (upd H1 s2.heap.objs.size (.dK [])) { s2 with heap:=s2.heap.push { cls:=.type "dict", data:=.dict #[] },toks:=s2.toks }:=I.laid (t':=s2.toks) (fun b u e=>Heap.get?_push_of_some _ e) (Nat.le_refl _) (dk_empty s2.heap I.big)
  have hD:H1 s2.heap.objs.size=none:=I.fresh
  obtain ⟨W,⟨m0,w0⟩,turn⟩:=h _ hD
  generalize hs3:({ s2 with heap:=s2.heap.push { cls:=.type "dict", data:=.dict #[] },toks:=s2.toks }:Shared)=s3 at I3
  have kp3:∀ b o,s2.heap.get? b=some o→s3.heap.get? b=some o:=fun b o e=>by rw [← hs3];exact Heap.get?_push_of_some _ e
  have fpD:∀ b∈fp,b≠s2.heap.objs.size:=fun b hb z=>by
    obtain ⟨o,e,_⟩:=T.obj _ _ st b hb
    subst z
    exact Nat.lt_irrefl _ (Heap.lt_size e)
  have hf3:∀ b∈fp,FpOk X pins (upd H1 s2.heap.objs.size (.dK [])) b:=fun b hb=>⟨by rw [upd_ne (fpD b hb)];exact (hf b hb).1,(hf b hb).2⟩
  have st3:tn 0 s3.heap:=T.keep _ _ _ st fun b _ o e=>kp3 b o e
  have lt3:∀ b∈fp,b < s3.heap.objs.size:=fun b hb=>by
    obtain ⟨o,e,_⟩:=T.obj _ _ st3 b hb
    exact Heap.lt_size e
  generalize hDD:s2.heap.objs.size=D at *
  refine wpAny_newFunctionEnv ok.nocell (by intro y hy;simp at hy) (fun h₁ hns₁ hsb₁=>?_) ok.kind
  have kp4:∀ b o,s3.heap.get? b=some o→h₁.get? b=some o:=fun b o e=>hsb₁.extBut b o (fun z=>by subst z;exact Nat.lt_irrefl _ (Heap.lt_size e)) (Heap.get?_push_of_some _ e)
  have I4:=inv_cmp (tk:=s3.toks+([]:List (Str×Value)).length) I3 ok hcl hcf hf3 lt3 (ns_lookup_nil hns₁) kp4
  generalize hs4:({ s3 with heap:=h₁,toks:=s3.toks+([]:List (Str×Value)).length }:Shared)=s4 at I4
  have st4:tn 0 s4.heap:=by rw [← hs4];exact T.keep _ _ _ st3 fun b _ o e=>kp4 b o e
  show codeAny _ _ (.compStart (.DictComp kx vx [⟨tg,iter,ifs,0⟩] scope pos) 0 (.ref it) (.ref D) (compEnvC scope cl s3.heap.objs.size X.env)) (RR (.ref D) s3.heap.objs.size) s4
  generalize hX:X.cmp scope cl s3.heap.objs.size s3 (upd H1 D (.dK [])) fp=Y at I4
  have eA:Y.A=X.A:=by rw [← hX];rfl
  have eP:Y.prog=X.prog:=by rw [← hX];rfl
  have eW:Y.w=X.w:=by rw [← hX];rfl
  have eK:Y.K=X.K:=by rw [← hX];rfl
  have eC:Y.calm=true:=by rw [← hX];exact hc
  have eE:Y.env=compEnvC scope cl s3.heap.objs.size X.env:=by rw [← hX];rfl
  have eX:Y.xe=fun _ _=>False:=by rw [← hX];rfl
  have stat:∀ {H':Hp},(∀ b∈fp,H' b=none)→∀ b∈fp,FpOk Y [] H' b:=fun {H'} hn b hb=>by
    subst hX
    refine ⟨hn b hb,Nat.ne_of_lt (lt3 b hb),fun z=>?_,.inl hb,fun x c e=>(hf3 b hb).2.2.2.2.1 x c (hcl _ _ e),fun p hp=>absurd (show p∈([]:List (Addr×Obj)) from hp) (by simp)⟩
    rcases List.mem_cons.mp (I3.stkSub b z) with q | q
    · exact (hf3 b hb).2.1 q
    · exact (hf3 b hb).2.2.1 q
  have loop:codeAny (model X.prog X.w) X.A (.compLoop (.DictComp kx vx [⟨tg,iter,ifs,0⟩] scope pos) 0 (.ref it) (.ref D) (compEnvC scope cl s3.heap.objs.size X.env)) (RR (.ref D) s3.heap.objs.size) s4:=by
    refine codeAny_compLoop_dictG (fun n s'=>∃ i σ' H',Inv Y [] σ' H' s'∧tn i s'.heap∧(∀ b∈fp,H' b=none)∧W i n σ' H') ?_ m0 ⟨0,_,_,I4,st4,fun b hb=>(hf3 b hb).1,w0⟩
    rintro n s5 ⟨i,σ5,H5,I5,st5,fr5,w5⟩
    rcases turn i n σ5 H5 w5 with ⟨stop,qn⟩ | ⟨go,step⟩
    · have q:=T.done Y eP eW eK eC i [] s5 σ5 H5 (fun _ _=>False) I5 (stat fr5) st5 stop
      rw [eA] at q
      refine thn q fun r s6 ⟨hr,I6⟩=>?_
      subst hr
      obtain ⟨m6,hn6,_⟩:=I6.loc
      have hn6':s6.heap.Ns s3.heap.objs.size m6:=by rw [eE] at hn6;exact hn6
      rw [← hX] at I6
      exact hRR D s3.heap.objs.size H5 s6 m6 hn6' (after_cmp I3 hf3 I6 (.refl ..)) (I3.fpOk (Nat.le_refl _) I6.free) qn
    · have q:=T.item Y eP eW eK eC i [] s5 σ5 H5 (fun _ _=>False) I5 (stat fr5) st5 go
      rw [eA] at q
      refine thn q fun r s6 ⟨u,hr,h6⟩=>?_
      subst hr
      refine thn h6 fun _ s7 ⟨x,H7,I7,r7,y7,st7,fr7⟩=>?_
      have I7':=I7.pinned (stat fr7) (T.obj _ _ st7)
      have gg:PG Y tg g:=by rw [← hX];exact hg _ _ _ _ _
      have tt:PTs Y ifs tc:=by rw [← hX];exact ht _ _ _ _ _
      have ek:PE Y kx tk:=by rw [← hX];exact hk _ _ _ _ _
      have ee:PE Y vx te:=by rw [← hX];exact he _ _ _ _ _
      have q1:=gg _ s7 σ5 H7 x u _ I7' r7 (step x H7 y7)
      rw [eA,eP,eW,eE,eX] at q1
      refine thn q1 fun _ s8 ⟨σ8,H8,I8,q8⟩=>?_
      have q2:=tt _ s8 σ8 H8 _ I8 q8
      rw [eA,eP,eW,eE,eX] at q2
      refine thn q2 fun b s9 ⟨H9,I9,q9⟩=>?_
      have again:∀ {H10:Hp} {s10:Shared},Inv Y ([] ++ pinsAt fp s7.heap) σ8 H10 s10→(∃ m',m' < n∧W (i+1) m' σ8 H10)→∃ m,m < n∧∃ i σ' H',Inv Y [] σ' H' s10∧tn i s10.heap∧(∀ b∈fp,H' b=none)∧W i m σ' H':=fun {H10 s10} J10 ⟨m',hm,w10⟩=>by
        refine ⟨m',hm,i+1,σ8,H10,J10.unpinned,T.keep _ _ _ st7 fun b hb o e=>(pinsAt_get J10 hb e).1,fun b hb=>?_,w10⟩
        obtain ⟨o,e,_⟩:=T.obj _ _ st7 b hb
        exact (pinsAt_get J10 hb e).2
      cases b with
      | false=>
        rw [if_neg Bool.false_ne_true] at q9 ⊢
        exact again I9 q9
      | true=>
        rw [if_pos rfl] at q9 ⊢
        have q3:=ek _ s9 σ8 H9 _ I9 q9
        rw [eA,eP,eW,eE,eX] at q3
        refine thn q3 fun u9 s10 ⟨kv,H10,I10,rk,q10⟩=>?_
        have q4:=ee _ s10 σ8 H10 _ I10 q10
        rw [eA,eP,eW,eE,eX] at q4
        refine thn q4 fun u10 s11 ⟨v,H11,I11,rv,k,kvs,m',hkv,hys,hz,hm,w11⟩=>?_
        subst hkv
        have q5:=d_set (X:=Y) (E:=Y.xe) (A:=Y.A) (Q:=fun _ s'=>Inv Y ([] ++ pinsAt fp s7.heap) σ8 (upd H11 D (.dK (putK kvs k v))) s') I11 hys rk rv hz fun s' I'=>I'
        rw [eA,eP,eW,eX] at q5
        refine thn q5 fun _ s12 I12=>?_
        exact again I12 ⟨m',hm,w11⟩
  exact codeAny_compStart_dict loop (T.self X.A 0 s4 _ _ st4 loop)
theorem pe_dc {X:Cx} {kx vx tg iter:Expr} {ifs:List Expr} {scope:Scope} {pos:Pos} {wi:TI} {g:TG} {tc:TT} {tk te:TE} {sc:Scope} (hc:X.calm=true) (hsc:X.env.scope=sc) (hok:cmpB sc scope=true) (hi:PI X tg iter wi)
    (hg:∀ cl C s₀ H₀ fp,PG (X.cmp scope cl C s₀ H₀ fp) tg g) (ht:∀ cl C s₀ H₀ fp,PTs (X.cmp scope cl C s₀ H₀ fp) ifs tc) (hk:∀ cl C s₀ H₀ fp,PE (X.cmp scope cl C s₀ H₀ fp) kx tk) (he:∀ cl C s₀ H₀ fp,PE (X.cmp scope cl C s₀ H₀ fp) vx te)
    (hs:∀ x,foldedSetIterable iter X.env x=pure x:=by intro _;rfl):PE X (.DictComp kx vx [⟨tg,iter,ifs,0⟩] scope pos) (tDC X.N scope.names wi g tc tk te):=by
  intro pins s σ H Q I h
  have ok:=CmpOk.of (X:=X) (hsc ▸ hok)
  obtain ⟨cl,e1,e2,e3⟩:=closureFor_some (scope:=scope) (env:=X.env) fun y hy hf=>I.ok.has y.1 (ok.free y hy hf)
  show wpAny _ _ (comprehension (.DictComp kx vx [⟨tg,iter,ifs,0⟩] scope pos) scope X.env _ (newDict) false (eval iter X.env)) _ _ s
  refine wpAny_comprehension_free (use:=none) rfl hs e1 ok.kind (fun y hy hl=>by rw [lookup_of_mem ok.nd hy,hl]) (thn (hi pins s σ H _ I h) fun v s1 h1=>thn h1 fun itv s2 h2=>?_)
  obtain ⟨it,fp,tn,J,H2,e,I2,T,st2,f2,q⟩:=h2
  subst e
  refine block_dc (E:=X.xe) (RR:=fun acc C=>compPost (model X.prog X.w) X.A X.xe none (EP X pins σ Q) acc C) hc ok hg ht hk he e2 e3 I2 T st2 f2 q ?_
  intro D C H' s' m hn hI f hQ
  exact ⟨m,hn,fun h' sb=>⟨.ref D,H',hI.but f sb,rfl,hQ⟩⟩
theorem lt1 {n c:Nat} (h:n+64 < c):n+1 < c:=by omega
section
variable {X:Cx}
theorem op_in_seqK (K:Frag) (h:X.K=K):OpR X (compareOp .In) (rIn K false):=by subst h;exact op_in_seq
theorem op_dnotin (hu:X.A.units+64 < cLine):OpR X (compareOp .NotIn) (fun x y H Q=>∃ a o,y = .ref a∧DGet H a x o∧Q (.bl (!o.isSome)) H):=by
  intro pins s σ H x y v u Q I rx ry h
  obtain ⟨a,o,rfl,g,q⟩:=h
  cases (show u=Value.ref a from ry)
  exact d_notIn (lt1 hu) I g rx fun s3 I3=>⟨.bl (!o.isSome),H,I3,rfl,q⟩
end
section
variable {X:Cx} {kx vx tg iter:Expr} {ifs:List Expr} {scope:Scope} {pos:Pos} {wi:TI} {g:TG} {tc:TT} {tk te:TE}
theorem dcA (sc:Scope) (hi:PI X tg iter wi)
    (hg:∀ cl C s₀ H₀ fp,PG (X.cmp scope cl C s₀ H₀ fp) tg g) (ht:∀ cl C s₀ H₀ fp,PTs (X.cmp scope cl C s₀ H₀ fp) ifs tc) (hk:∀ cl C s₀ H₀ fp,PE (X.cmp scope cl C s₀ H₀ fp) kx tk) (he:∀ cl C s₀ H₀ fp,PE (X.cmp scope cl C s₀ H₀ fp) vx te)
    (hc:X.calm=true:=by rfl) (hsc:X.env.scope=sc:=by rfl) (hok:cmpB sc scope=true:=by decide +kernel)
    (hs:∀ x,foldedSetIterable iter X.env x=pure x:=by intro _;rfl):PE X (.DictComp kx vx [⟨tg,iter,ifs,0⟩] scope pos) (tDC X.N scope.names wi g tc tk te):=pe_dc hc hsc hok hi hg ht hk he hs
end
end L2
namespace HT
open PySem PySem.Calls PyProof.Rows PyProof.V PySem.Spec PySem.W
section
variable {prog:Program} {w:World} {A:Around} {E:Value→Shared→Prop} {s:Shared}
theorem nextOfT_item {it l:Addr} {i:Nat} {items} {x:Value} {Q:Value→Shared→Prop} (hit:s.heap.IsTupleIter it l i)
    (hl:s.heap.IsTuple l items) (hx:items[i]? = some x)
    (hQ:∀ h',h'.IsTupleIter it l (i+1)→Heap.SameBut it s.heap h'→Q x { s with heap:=h' }) :
    wpAny (model prog w) A (Builtin.SmallTypes.nextOf (.ref it)) Q E s:=by
  obtain ⟨o,ho,hc,hd⟩:=id hit
  obtain ⟨ol,hol,_,nl,hdl⟩:=hl
  unfold Builtin.SmallTypes.nextOf
  refine wpAny_bind (wpAny_callSpecial?_slot (name:=Str.ofString "__next__") hit.typeIs F.slot_tuple_iterator_next
    (wpAny_call_entry F.slot_tuple_iterator_next hit.typeIs F.entry_tuple_iterator_next ?_ (F.args_tuple_iterator_next_1 _)))
  show wpAny _ _ (field (.ref it) 0 >>= _) _ _ s
  refine wpAny_bind (wpAny_field ho hd (x:=.ref l) rfl ?_)
  show wpAny _ _ (if (Value.ref l == Value.none)=true then _ else _) _ _ s
  rw [if_neg (show ¬ ((Value.ref l == Value.none)=true) from Bool.false_ne_true)]
  show wpAny _ _ (field (.ref it) 1 >>= _) _ _ s
  refine wpAny_bind (wpAny_field ho hd (x:=.int i 0) rfl ?_)
  show wpAny _ _ (seqItems? (.ref l) >>= _) _ _ s
  refine wpAny_bind (wpAny_seqItems hol hdl ?_)
  simp only [Int.toNat_natCast,hx]
  refine wpAny_bind (wpAny_setField ho hd (by simp) (wpAny_pure ⟨x,rfl,wpAny_pure (hQ _ ?_ (Heap.SameBut.update ..))⟩))
  exact ⟨_,Heap.get?_update_self _ ho (Obj.isFreed_of_fields (Obj.data_mapFields hd _)),(Obj.cls_mapFields ..).trans hc,by
    rw [Obj.data_mapFields hd];simp [rawInt]⟩
theorem nextOfT_end {it l:Addr} {i:Nat} {items} {Q:Value→Shared→Prop} (hh:A.handled=none)
    (hit:s.heap.IsTupleIter it l i) (hl:s.heap.IsTuple l items) (hx:items[i]? = none)
    (hE:∀ h' e,Heap.ExtBut it s.heap h'→(∃ o,h'.get? e=some o∧o.cls = .type "StopIteration")→E (.ref e) { s with heap:=h' }) :
    wpAny (model prog w) A (Builtin.SmallTypes.nextOf (.ref it)) Q E s:=by
  obtain ⟨o,ho,hc,hd⟩:=id hit
  obtain ⟨ol,hol,_,nl,hdl⟩:=hl
  unfold Builtin.SmallTypes.nextOf
  refine wpAny_bind (wpAny_callSpecial?_slot (name:=Str.ofString "__next__") hit.typeIs F.slot_tuple_iterator_next
    (wpAny_call_entry F.slot_tuple_iterator_next hit.typeIs F.entry_tuple_iterator_next ?_ (F.args_tuple_iterator_next_1 _)))
  show wpAny _ _ (field (.ref it) 0 >>= _) _ _ s
  refine wpAny_bind (wpAny_field ho hd (x:=.ref l) rfl ?_)
  show wpAny _ _ (if (Value.ref l == Value.none)=true then _ else _) _ _ s
  rw [if_neg (show ¬ ((Value.ref l == Value.none)=true) from Bool.false_ne_true)]
  show wpAny _ _ (field (.ref it) 1 >>= _) _ _ s
  refine wpAny_bind (wpAny_field ho hd (x:=.int i 0) rfl ?_)
  show wpAny _ _ (seqItems? (.ref l) >>= _) _ _ s
  refine wpAny_bind (wpAny_seqItems hol hdl ?_)
  simp only [Int.toNat_natCast,hx]
  refine wpAny_bind (wpAny_rule (wpAny_bind (wpAny_setField ho hd (by simp) ?_)))
  show wpAny _ _ (newExc (.type "StopIteration") [] >>= _) _ _ _
  refine wpAny_bind ?_
  simp only [newExc,newTuple]
  refine wpAny_bind (wpAny_newObj_type ?_ (by size_fits))
  refine wpAny_bind (m:=firstArgMember _ _) (wpAny_of_eq (a:=Value.none) (by first | rfl | (simp only [firstArgMember];rfl)) ?_)
  refine wpAny_newObj_type ?_ (by size_fits)
  simp only [raiseNew]
  refine wpAny_bind (wpAny_handled ?_)
  first | rw [show A.in1.handled=none from hh] | rw [hh]
  refine wpAny_bind (wpAny_pure (wpAny_throw ?_))
  exact hE _ _ (((Heap.SameBut.update ..).extBut.push _).push _) ⟨_,Heap.get?_push_size _ rfl,rfl⟩
theorem zip_next_itemT {z TI TO i1 i2 l1 l2:Addr} {k1 k2:Nat} {xs ys:Array Value} {x y a b:Value} {Q:Value→Shared→Prop} (D:ZipApart z TI TO i1 i2 l1 l2)
    (hz:IsZip s.heap z TI TO .none) (hTI:IsPair s.heap TI (.ref i1) (.ref i2)) (hTO:IsPair s.heap TO a b)
    (h1:s.heap.IsTupleIter i1 l1 k1) (h2:s.heap.IsListIter i2 l2 k2) (hl1:s.heap.IsTuple l1 xs) (hl2:s.heap.IsList l2 ys) (hx:xs[k1]? = some x) (hy:ys[k2]? = some y)
    (hQ:∀ h',IsZip h' z TI TO (rawInt s.heap.objs.size)→IsPair h' TO x y→h'.IsTupleIter i1 l1 (k1+1)→h'.IsListIter i2 l2 (k2+1)→IsPair h' s.heap.objs.size x y→h'.objs.size=s.heap.objs.size+1→
      (∀ c o,c≠z→c≠TO→c≠i1→c≠i2→s.heap.get? c=some o→h'.get? c=some o)→Q (.ref s.heap.objs.size) { s with heap:=h' }) :
    wpAny (model prog w) A (Builtin.«zip.__next__» ⟨[.ref z],[]⟩) (fun fin s'=>∃ v,fin = .done (.ret v)∧Q v s') E s:=by
  show wpAny _ _ (field (.ref z) 2 >>= _) _ _ _
  refine wpAny_bind (wpAny_field hz rfl (x:=.bool false) rfl ?_)
  show wpAny _ _ (field (.ref z) 3 >>= _) _ _ _
  refine wpAny_bind (wpAny_field hz rfl (x:=.ref TI) rfl ?_)
  refine wpAny_bind (wpAny_seqItems hTI rfl ?_)
  show wpAny _ _ (Builtin.SmallTypes.ownedTupleIsFree (.ref z) >>= _) _ _ _
  refine wpAny_bind ?_
  unfold Builtin.SmallTypes.ownedTupleIsFree
  refine wpAny_bind (wpAny_field hz rfl (x:=.none) rfl (wpAny_pure ?_))
  simp only [if_true]
  refine wpAny_bind (wpAny_rule ?_)
  refine wpAny_bind (wpAny_field hz rfl (x:=.ref TO) rfl ?_)
  refine wpAny_bind (wpAny_setField_rec hz (by simp) fun h₁ hz₁ hs₁=>?_)
  replace hz₁:IsZip h₁ z TI TO .ellipsis:=hz₁
  refine wpAny_bind ?_
  simp only [List.zipIdx_cons,List.zipIdx_nil,List.forIn_cons,List.forIn_nil]
  refine wpAny_bind (wpAny_bind (wpAny_onRaise ?_))
  show wpAny _ _ (Builtin.SmallTypes.nextOf (.ref i1) >>= _) _ _ _
  refine wpAny_bind (nextOfT_item (h1.extBut hs₁.extBut D.i1z) (hl1.extBut hs₁.extBut D.l1z) hx fun h₂ h1₂ hs₂=>wpAny_pure ?_)
  have hTO₂:IsPair h₂ TO a b:=hs₂.extBut _ _ D.TOi1 (hs₁.extBut _ _ D.TOz hTO)
  refine wpAny_bind (wpAny_seqItems hTO₂ rfl ?_)
  refine wpAny_bind (wpAny_updateSeq_pair hTO₂ fun h₃ hTO₃ hs₃=>?_)
  replace hTO₃:IsPair h₃ TO x b:=hTO₃
  refine wpAny_bind (wpAny_letGo (wpAny_pure ?_))
  refine wpAny_bind (wpAny_bind (wpAny_onRaise ?_))
  show wpAny _ _ (Builtin.SmallTypes.nextOf (.ref i2) >>= _) _ _ _
  refine wpAny_bind (wpAny_nextOf_list_item (((h2.extBut hs₁.extBut D.i2z).extBut hs₂.extBut D.i12.symm).extBut hs₃.extBut D.TOi2.symm)
    (((hl2.extBut hs₁.extBut D.l2z).extBut hs₂.extBut D.l2i1).extBut hs₃.extBut D.l2TO) hy fun h₄ h2₄ hs₄=>wpAny_pure ?_)
  have hTO₄:IsPair h₄ TO x b:=hs₄.extBut _ _ D.TOi2 hTO₃
  refine wpAny_bind (wpAny_seqItems hTO₄ rfl ?_)
  refine wpAny_bind (wpAny_updateSeq_pair hTO₄ fun h₅ hTO₅ hs₅=>?_)
  replace hTO₅:IsPair h₅ TO x y:=hTO₅
  refine wpAny_bind (wpAny_letGo (wpAny_pure (wpAny_pure ?_)))
  refine wpAny_bind (wpAny_seqItems hTO₅ rfl ?_)
  refine wpAny_bind (wpAny_newTuple ?_)
  have hsz:h₅.objs.size=s.heap.objs.size:=by rw [hs₅.1,hs₄.1,hs₃.1,hs₂.1,hs₁.1]
  have hz₅:IsZip h₅ z TI TO .ellipsis:=hs₅.extBut _ _ D.TOz.symm (hs₄.extBut _ _ D.i2z.symm (hs₃.extBut _ _ D.TOz.symm (hs₂.extBut _ _ D.i1z.symm hz₁)))
  have hk₅:∀ c o,c≠z→c≠TO→c≠i1→c≠i2→s.heap.get? c=some o→h₅.get? c=some o:=fun c o c1 c2 c3 c4 e=>
    hs₅.extBut _ _ c2 (hs₄.extBut _ _ c4 (hs₃.extBut _ _ c2 (hs₂.extBut _ _ c3 (hs₁.extBut _ _ c1 e))))
  have h1₅:h₅.IsTupleIter i1 l1 (k1+1):=((h1₂.extBut hs₃.extBut D.TOi1.symm).extBut hs₄.extBut D.i12).extBut hs₅.extBut D.TOi1.symm
  have h2₅:h₅.IsListIter i2 l2 (k2+1):=h2₄.extBut hs₅.extBut D.TOi2.symm
  have hzlt:z < h₅.objs.size:=Heap.lt_size hz₅
  have hTOlt:TO < h₅.objs.size:=Heap.lt_size hTO₅
  have hi1lt:i1 < h₅.objs.size:=by obtain ⟨_,e,_⟩:=h1₅;exact Heap.lt_size e
  have hi2lt:i2 < h₅.objs.size:=by obtain ⟨_,e,_⟩:=h2₅;exact Heap.lt_size e
  show wpAny _ _ (Builtin.SmallTypes.ownedTupleHandOut (.ref z) (.ref h₅.objs.size) >>= _) _ _ _
  refine wpAny_bind ?_
  unfold Builtin.SmallTypes.ownedTupleHandOut
  have hz₆:IsZip (h₅.push { cls:=.type "tuple", data:=.seq #[x,y] }) z TI TO .ellipsis:=Heap.get?_push_of_some _ hz₅
  refine wpAny_bind (wpAny_setField_rec hz₆ (by simp) fun h₇ hz₇ hs₇=>?_)
  replace hz₇:IsZip h₇ z TI TO (rawInt h₅.objs.size):=hz₇
  refine wpAny_setField_rec hz₇ (by simp) fun h₈ hz₈ hs₈=>?_
  replace hz₈:IsZip h₈ z TI TO (rawInt h₅.objs.size):=hz₈
  have up:∀ c o,c≠z→h₅.get? c=some o→h₈.get? c=some o:=fun c o c1 e=>hs₈.extBut _ _ c1 (hs₇.extBut _ _ c1 (Heap.get?_push_of_some _ e))
  have hT₈:IsPair h₈ h₅.objs.size x y:=hs₈.extBut _ _ (Nat.ne_of_gt hzlt) (hs₇.extBut _ _ (Nat.ne_of_gt hzlt) (Heap.get?_push_size _ rfl))
  have hz8:h₈.objs.size=h₅.objs.size+1:=by rw [hs₈.1,hs₇.1,Heap.size_push]
  rw [hsz] at hz₈ hT₈ hz8
  refine wpAny_pure ⟨_,rfl,?_⟩
  show Q (.ref h₅.objs.size) _
  rw [hsz]
  exact hQ h₈ hz₈ (up _ _ D.TOz hTO₅) (h1₅.at fun o e=>up _ o D.i1z e) (h2₅.at fun o e=>up _ o D.i2z e) hT₈ hz8 fun c o c1 c2 c3 c4 e=>up c o c1 (hk₅ c o c1 c2 c3 c4 e)
theorem zip_next_endT {z TI TO i1 i2 l1 l2:Addr} {k1 k2:Nat} {xs ys:Array Value} {a b:Value} {Q:Fin→Shared→Prop} (hh:A.handled=none) (D:ZipApart z TI TO i1 i2 l1 l2)
    (hz:IsZip s.heap z TI TO .none) (hTI:IsPair s.heap TI (.ref i1) (.ref i2)) (hTO:IsPair s.heap TO a b)
    (h1:s.heap.IsTupleIter i1 l1 k1) (h2:s.heap.IsListIter i2 l2 k2) (hl1:s.heap.IsTuple l1 xs) (hl2:s.heap.IsList l2 ys) (hend:xs[k1]? = none∨ys[k2]? = none)
    (hE:∀ h' e,(∀ c o,c≠z→c≠TO→c≠i1→c≠i2→s.heap.get? c=some o→h'.get? c=some o)→(∃ o,h'.get? e=some o∧o.cls = .type "StopIteration")→E (.ref e) { s with heap:=h' }) :
    wpAny (model prog w) A (Builtin.«zip.__next__» ⟨[.ref z],[]⟩) Q E s:=by
  show wpAny _ _ (field (.ref z) 2 >>= _) _ _ _
  refine wpAny_bind (wpAny_field hz rfl (x:=.bool false) rfl ?_)
  show wpAny _ _ (field (.ref z) 3 >>= _) _ _ _
  refine wpAny_bind (wpAny_field hz rfl (x:=.ref TI) rfl ?_)
  refine wpAny_bind (wpAny_seqItems hTI rfl ?_)
  show wpAny _ _ (Builtin.SmallTypes.ownedTupleIsFree (.ref z) >>= _) _ _ _
  refine wpAny_bind ?_
  unfold Builtin.SmallTypes.ownedTupleIsFree
  refine wpAny_bind (wpAny_field hz rfl (x:=.none) rfl (wpAny_pure ?_))
  simp only [if_true]
  refine wpAny_bind (wpAny_rule ?_)
  refine wpAny_bind (wpAny_field hz rfl (x:=.ref TO) rfl ?_)
  refine wpAny_bind (wpAny_setField_rec hz (by simp) fun h₁ hz₁ hs₁=>?_)
  replace hz₁:IsZip h₁ z TI TO .ellipsis:=hz₁
  refine wpAny_bind ?_
  simp only [List.zipIdx_cons,List.zipIdx_nil,List.forIn_cons,List.forIn_nil]
  refine wpAny_bind (wpAny_bind (wpAny_onRaise ?_))
  show wpAny _ _ (Builtin.SmallTypes.nextOf (.ref i1) >>= _) _ _ _
  cases hx:xs[k1]? with
  | none=>
    refine wpAny_bind (nextOfT_end hh (h1.extBut hs₁.extBut D.i1z) (hl1.extBut hs₁.extBut D.l1z) hx fun h₂ e hs₂ he=>?_)
    obtain ⟨oe,hoe,hce⟩:=he
    have hz₂:IsZip h₂ z TI TO .ellipsis:=hs₂ _ _ D.i1z.symm hz₁
    have hez:e≠z:=fun x=>by subst x;rw [hz₂] at hoe;cases hoe;simp at hce
    refine wpAny_setField_rec hz₂ (by simp) fun h₃ _ hs₃=>hE h₃ e (fun c o c1 _ c3 _ x=>hs₃.extBut _ _ c1 (hs₂ _ _ c3 (hs₁.extBut _ _ c1 x))) ⟨oe,hs₃.extBut _ _ hez hoe,hce⟩
  | some x=>
    have hy:ys[k2]? = none:=by rcases hend with h | h;rw [hx] at h;cases h;exact h
    refine wpAny_bind (nextOfT_item (h1.extBut hs₁.extBut D.i1z) (hl1.extBut hs₁.extBut D.l1z) hx fun h₂ h1₂ hs₂=>wpAny_pure ?_)
    have hTO₂:IsPair h₂ TO a b:=hs₂.extBut _ _ D.TOi1 (hs₁.extBut _ _ D.TOz hTO)
    refine wpAny_bind (wpAny_seqItems hTO₂ rfl ?_)
    refine wpAny_bind (wpAny_updateSeq_pair hTO₂ fun h₃ hTO₃ hs₃=>?_)
    refine wpAny_bind (wpAny_letGo (wpAny_pure ?_))
    refine wpAny_bind (wpAny_bind (wpAny_onRaise ?_))
    show wpAny _ _ (Builtin.SmallTypes.nextOf (.ref i2) >>= _) _ _ _
    refine wpAny_bind (wpAny_nextOf_list_end hh (((h2.extBut hs₁.extBut D.i2z).extBut hs₂.extBut D.i12.symm).extBut hs₃.extBut D.TOi2.symm)
      (((hl2.extBut hs₁.extBut D.l2z).extBut hs₂.extBut D.l2i1).extBut hs₃.extBut D.l2TO) hy fun h₄ e hs₄ he=>?_)
    obtain ⟨oe,hoe,hce⟩:=he
    have hz₄:IsZip h₄ z TI TO .ellipsis:=hs₄ _ _ D.i2z.symm (hs₃.extBut _ _ D.TOz.symm (hs₂.extBut _ _ D.i1z.symm hz₁))
    have hez:e≠z:=fun x=>by subst x;rw [hz₄] at hoe;cases hoe;simp at hce
    refine wpAny_setField_rec hz₄ (by simp) fun h₅ _ hs₅=>hE h₅ e (fun c o c1 c2 c3 c4 x=>hs₅.extBut _ _ c1 (hs₄ _ _ c4 (hs₃.extBut _ _ c2 (hs₂.extBut _ _ c3 (hs₁.extBut _ _ c1 x))))) ⟨oe,hs₅.extBut _ _ hez hoe,hce⟩
theorem wpAny_pyNext_zip_itemT {z TI TO i1 i2 l1 l2:Addr} {k1 k2:Nat} {xs ys:Array Value} {x y a b:Value} {Q:Option Value→Shared→Prop} (D:ZipApart z TI TO i1 i2 l1 l2)
    (hz:IsZip s.heap z TI TO .none) (hTI:IsPair s.heap TI (.ref i1) (.ref i2)) (hTO:IsPair s.heap TO a b)
    (h1:s.heap.IsTupleIter i1 l1 k1) (h2:s.heap.IsListIter i2 l2 k2) (hl1:s.heap.IsTuple l1 xs) (hl2:s.heap.IsList l2 ys) (hx:xs[k1]? = some x) (hy:ys[k2]? = some y)
    (hQ:∀ h',IsZip h' z TI TO (rawInt s.heap.objs.size)→IsPair h' TO x y→h'.IsTupleIter i1 l1 (k1+1)→h'.IsListIter i2 l2 (k2+1)→IsPair h' s.heap.objs.size x y→h'.objs.size=s.heap.objs.size+1→
      (∀ c o,c≠z→c≠TO→c≠i1→c≠i2→s.heap.get? c=some o→h'.get? c=some o)→Q (some (.ref s.heap.objs.size)) { s with heap:=h' }) :
    wpAny (model prog w) A (pyNext (.ref z)) Q E s:=by
  have hT:s.TypeIs (.ref z) "zip" := ⟨_,hz,rfl⟩
  unfold pyNext
  exact wpAny_bind (wpAny_attempt (wpAny_callSpecial?_slot (name:=Str.ofString "__next__") hT F.slot_zip_next
    (wpAny_call_entry F.slot_zip_next hT F.entry_zip_next
      (zip_next_itemT D hz hTI hTO h1 h2 hl1 hl2 hx hy fun h' a1 a2 a3 a4 a5 a6 a7=>wpAny_pure (hQ h' a1 a2 a3 a4 a5 a6 a7)) (F.args_zip_next_1 _))))
theorem wpAny_pyNext_zip_endT {z TI TO i1 i2 l1 l2:Addr} {k1 k2:Nat} {xs ys:Array Value} {a b:Value} {Q:Option Value→Shared→Prop} (hh:A.handled=none) (D:ZipApart z TI TO i1 i2 l1 l2)
    (hz:IsZip s.heap z TI TO .none) (hTI:IsPair s.heap TI (.ref i1) (.ref i2)) (hTO:IsPair s.heap TO a b)
    (h1:s.heap.IsTupleIter i1 l1 k1) (h2:s.heap.IsListIter i2 l2 k2) (hl1:s.heap.IsTuple l1 xs) (hl2:s.heap.IsList l2 ys) (hend:xs[k1]? = none∨ys[k2]? = none)
    (hQ:∀ h',(∀ c o,c≠z→c≠TO→c≠i1→c≠i2→s.heap.get? c=some o→h'.get? c=some o)→Q none { s with heap:=h' }):wpAny (model prog w) A (pyNext (.ref z)) Q E s:=by
  have hT:s.TypeIs (.ref z) "zip" := ⟨_,hz,rfl⟩
  unfold pyNext
  refine wpAny_bind (wpAny_attempt (wpAny_callSpecial?_slot (name:=Str.ofString "__next__") hT F.slot_zip_next
    (wpAny_call_entry F.slot_zip_next hT F.entry_zip_next (zip_next_endT hh D hz hTI hTO h1 h2 hl1 hl2 hend fun h' e hk he=>?_) (F.args_zip_next_1 _))))
  obtain ⟨o,ho,hc⟩:=he
  refine wpAny_bind (wpAny_isInstance (T := "StopIteration") (b:=true) ⟨o,ho,hc⟩ isSubtype_stop ?_)
  exact wpAny_pure (hQ _ hk)
end
abbrev zipT1 (h:Heap) (l1:Addr):Heap:=h.push { cls:=.type "tuple_iterator", data:=.fields #[.ref l1,.int 0 0] }
abbrev zipT2 (h:Heap) (l1 l2:Addr):Heap:=(zipT1 h l1).push { cls:=.type "list_iterator", data:=.fields #[.ref l2,.int 0 0] }
abbrev zipT3 (h:Heap) (l1 l2:Addr):Heap:=(zipT2 h l1 l2).push { cls:=.type "tuple", data:=.seq #[.ref h.objs.size,.ref (zipT1 h l1).objs.size] }
abbrev zipT4 (h:Heap) (l1 l2:Addr):Heap:=(zipT3 h l1 l2).push { cls:=.type "tuple", data:=.seq #[.none,.none] }
abbrev zipT5 (h:Heap) (l1 l2:Addr):Heap:=(zipT4 h l1 l2).push { cls:=.type "zip", data:=.fields #[.none,.bool false,.bool false,.ref (zipT2 h l1 l2).objs.size,.ref (zipT3 h l1 l2).objs.size] }
theorem meets_zip_newT (l1 l2:Addr) (xs ys:Array Value) :
    Meets (Builtin.«zip.__new__» ⟨[.type "zip", .ref l1,.ref l2],[]⟩) (fun _ R s=>s.heap.IsTuple l1 xs∧s.heap.IsList l2 ys∧
      R (.ok (.ret (.ref (zipT4 s.heap l1 l2).objs.size))) { s with heap:=zipT5 s.heap l1 l2 }):=
  .of_wp fun prog w A R s h=>by
    obtain ⟨hp,g,d,tk,os⟩:=s;obtain ⟨hl1,hl2,h⟩:=h
    have hsub:=sub_zip
    have hL1:Heap.IsTuple (Shared.heap ⟨hp,g,d,tk,os⟩) l1 xs:=hl1
    have hL2:Heap.IsList (Shared.heap ⟨hp.push { cls:=.type "tuple_iterator", data:=.fields #[.ref l1,.int 0 0] },g,d,tk,os⟩) l2 ys:=Heap.IsList.push hl2 _
    wp_walk using wpAny_pyIter_tuple hL1,wpAny_pyIter_list hL2
    exact ⟨_,rfl,h⟩
section
variable {prog:Program} {w:World} {A:Around} {E:Value→Shared→Prop} {s:Shared}
theorem call_zipT {l1 l2:Addr} {xs ys:Array Value} {Q:Value→Shared→Prop} (hl1:s.heap.IsTuple l1 xs) (hl2:s.heap.IsList l2 ys)
    (h:∀ h',IsZip h' (s.heap.objs.size+4) (s.heap.objs.size+2) (s.heap.objs.size+3) .none→IsPair h' (s.heap.objs.size+2) (.ref s.heap.objs.size) (.ref (s.heap.objs.size+1))→
      IsPair h' (s.heap.objs.size+3) .none .none→h'.IsTupleIter s.heap.objs.size l1 0→h'.IsListIter (s.heap.objs.size+1) l2 0→h'.objs.size=s.heap.objs.size+5→
      (∀ c o,s.heap.get? c=some o→h'.get? c=some o)→Q (.ref (s.heap.objs.size+4)) { s with heap:=h' }) :
    wpAny (model prog w) A (call (.type "zip") [.ref l1,.ref l2]) Q E s:=by
  refine callType_new F.called_zip (by decide) (F.typeCall_zip_2 _ _) (F.newCall_zip_2 _ _) (fun obj=>F.args_object_init_3 obj _ _) F.entry_zip_new
    (meets_zip_newT l1 l2 xs ys) ⟨hl1,hl2,?_⟩
  have z1:(zipT1 s.heap l1).objs.size=s.heap.objs.size+1:=Heap.size_push ..
  have z2:(zipT2 s.heap l1 l2).objs.size=s.heap.objs.size+2:=by rw [Heap.size_push,z1]
  have z3:(zipT3 s.heap l1 l2).objs.size=s.heap.objs.size+3:=by rw [Heap.size_push,z2]
  have z4:(zipT4 s.heap l1 l2).objs.size=s.heap.objs.size+4:=by rw [Heap.size_push,z3]
  have z5:(zipT5 s.heap l1 l2).objs.size=s.heap.objs.size+5:=by rw [Heap.size_push,z4]
  have g5:(zipT5 s.heap l1 l2).get? (zipT4 s.heap l1 l2).objs.size=some _:=Heap.get?_push_size _ rfl
  have g4:(zipT5 s.heap l1 l2).get? (zipT3 s.heap l1 l2).objs.size=some _:=Heap.get?_push_of_some _ (Heap.get?_push_size _ rfl)
  have g3:(zipT5 s.heap l1 l2).get? (zipT2 s.heap l1 l2).objs.size=some _:=Heap.get?_push_of_some _ (Heap.get?_push_of_some _ (Heap.get?_push_size _ rfl))
  have g2:(zipT5 s.heap l1 l2).get? (zipT1 s.heap l1).objs.size=some _:=Heap.get?_push_of_some _ (Heap.get?_push_of_some _ (Heap.get?_push_of_some _ (Heap.get?_push_size _ rfl)))
  have g1:(zipT5 s.heap l1 l2).get? s.heap.objs.size=some _:=Heap.get?_push_of_some _ (Heap.get?_push_of_some _ (Heap.get?_push_of_some _ (Heap.get?_push_of_some _ (Heap.get?_push_size _ rfl))))
  show _∧_
  rw [z2,z3,z4] at g5
  rw [z1,z2] at g3
  rw [z3] at g4
  rw [z1] at g2
  rw [z4]
  exact ⟨⟨_,g5,rfl⟩,h _ g5 g3 g4 ⟨_,g1,rfl,rfl⟩ ⟨_,g2,rfl,rfl⟩ z5 fun c o x=>
    Heap.get?_push_of_some _ (Heap.get?_push_of_some _ (Heap.get?_push_of_some _ (Heap.get?_push_of_some _ (Heap.get?_push_of_some _ x))))⟩
end
end HT
namespace L2
open PySem PySem.Spec PyProof.Rows HT
def ItzT (K:Frag) (a b:Addr):It:=
  ⟨fun i H=>∃ xs ys x y,SqT K H a xs∧SqL K H b ys∧xs[i]? = some x∧ys[i]? = some y,
   fun i H x H'=>∃ T u v,x = .ref T∧H T=none∧H'=upd H T (.tup [u,v])∧∀ xs ys,SqT K H a xs→SqL K H b ys→xs[i]? = some u∧ys[i]? = some v,
   fun i H=>∃ xs ys,SqT K H a xs∧SqL K H b ys∧(xs.length≤i∨ys.length≤i)⟩
theorem turn_zipT {P:Program} {w:World} {K:Frag} {es:List Expr} {kk:Nat} {tp:Pos} (z TI TO i1 i2 l1 l2:Addr) (D:ZipApart z TI TO i1 i2 l1 l2) :
    Turn P w K (.Tuple es kk tp) (ItzT K l1 l2) [z,TI,TO,i1,i2] z (fun i h=>IsZip h z TI TO .none∧IsPair h TI (.ref i1) (.ref i2)∧(∃ a b,IsPair h TO a b)∧h.IsTupleIter i1 l1 i∧h.IsListIter i2 l2 i) where
  mem:=by simp
  obj:=fun i h st b hb=>by
    obtain ⟨hz,hTI,⟨p,q,hTO⟩,⟨o1,e1,c1,d1⟩,⟨o2,e2,c2,d2⟩⟩:=st
    simp only [List.mem_cons,List.not_mem_nil,or_false] at hb
    rcases hb with rfl | rfl | rfl | rfl | rfl
    · exact ⟨_,hz,fun v z=>by cases z⟩
    · exact ⟨_,hTI,fun v z=>by cases z⟩
    · exact ⟨_,hTO,fun v z=>by cases z⟩
    · exact ⟨_,e1,fun v z=>by rw [d1] at z;cases z⟩
    · exact ⟨_,e2,fun v z=>by rw [d2] at z;cases z⟩
  keep:=fun i h h' st k=>by
    obtain ⟨hz,hTI,⟨p,q,hTO⟩,h1,h2⟩:=st
    exact ⟨k z (by simp) _ hz,k TI (by simp) _ hTI,⟨p,q,k TO (by simp) _ hTO⟩,h1.at fun o e=>k i1 (by simp) o e,h2.at fun o e=>k i2 (by simp) o e⟩
  item:=by
    intro X hP hw hK hc i pins s σ H E I hf st hg
    subst hP hw hK
    obtain ⟨xs,ys,x,y,hq1,hq2,hx,hy⟩:=hg
    obtain ⟨ws,rw1,p1,z1⟩:=I.tuple hq1
    obtain ⟨vs,rw2,p2,z2⟩:=I.list hq2
    obtain ⟨u,hu,ru⟩:=rw1.get hx
    obtain ⟨v,hv,rv⟩:=rw2.get hy
    obtain ⟨hz,hTI,⟨p,q,hTO⟩,h1,h2⟩:=st
    have lz:=pins_lt hz
    have lTO:=pins_lt hTO
    have l1':i1 < s.heap.objs.size:=by obtain ⟨o,e,_⟩:=h1;exact pins_lt e
    have l2':i2 < s.heap.objs.size:=by obtain ⟨o,e,_⟩:=h2;exact pins_lt e
    refine wpAny_pyNext_zip_itemT D hz hTI hTO h1 h2 p1 p2.isList (x:=u) (y:=v) (by simpa using hu) (by simpa using hv) fun h' a1 a2 a3 a4 a5 a6 a7=>⟨_,rfl,wpAny_letOwnedTupleGo_zip a1 fun h2' b1 b2=>?_⟩
    have I2:Inv X pins σ (upd H s.heap.objs.size (.tup [x,y])) { s with heap:=h2',toks:=s.toks }:=by
      refine I.pairT [z,TO,i1,i2] (fun b hb=>hf b ?_) (fun b hb=>?_) ru rv ?_ fun b o hb e=>?_
      · simp only [List.mem_cons,List.not_mem_nil,or_false] at hb ⊢
        rcases hb with rfl | rfl | rfl | rfl <;> simp
      · simp only [List.mem_cons,List.not_mem_nil,or_false] at hb
        rcases hb with rfl | rfl | rfl | rfl <;> assumption
      · exact b2.extBut _ _ (Nat.ne_of_gt lz) a5
      · simp only [List.mem_cons,List.not_mem_nil,or_false,not_or] at hb
        exact b2.extBut _ _ hb.1 (a7 b o hb.1 hb.2.1 hb.2.2.1 hb.2.2.2 e)
    refine ⟨.ref s.heap.objs.size,_,I2,rfl,⟨_,x,y,rfl,I.hok.fresh (Nat.le_refl _),rfl,fun xs' ys' g1 g2=>?_⟩,⟨b1,?_,⟨_,_,b2.extBut _ _ D.TOz a2⟩,a3.extBut b2.extBut D.i1z,a4.extBut b2.extBut D.i2z⟩,fun b hb=>?_⟩
    · rw [I.tuple_inj g1 hq1,I.list_inj g2 hq2];exact ⟨hx,hy⟩
    · exact b2.extBut _ _ D.TIz (a7 TI _ D.TIz D.TITO D.TIi1 D.TIi2 hTI)
    · have hlt:b < s.heap.objs.size:=by
        simp only [List.mem_cons,List.not_mem_nil,or_false] at hb
        rcases hb with rfl | rfl | rfl | rfl | rfl
        · exact lz
        · exact pins_lt hTI
        · exact lTO
        · exact l1'
        · exact l2'
      rw [upd_ne (Nat.ne_of_lt hlt)];exact (hf b hb).1
  done:=by
    intro X hP hw hK hc i pins s σ H E I hf st hg
    subst hP hw hK
    obtain ⟨xs,ys,hq1,hq2,hx⟩:=hg
    obtain ⟨ws,rw1,p1,z1⟩:=I.tuple hq1
    obtain ⟨vs,rw2,p2,z2⟩:=I.list hq2
    have e1:=rw1.length
    have e2:=rw2.length
    obtain ⟨hz,hTI,⟨p,q,hTO⟩,h1,h2⟩:=st
    refine wpAny_pyNext_zip_endT (I.ok.hd hc) D hz hTI hTO h1 h2 p1 p2.isList ?_ fun h' k=>⟨rfl,I.turnedL (t':=s.toks) [z,TO,i1,i2] (fun b o hb e=>?_) fun b hb=>hf b ?_⟩
    · rcases hx with hx | hx
      · exact .inl (by simp;omega)
      · exact .inr (by simp;omega)
    · simp only [List.mem_cons,List.not_mem_nil,or_false,not_or] at hb
      exact k b o hb.1 hb.2.1 hb.2.2.1 hb.2.2.2 e
    · simp only [List.mem_cons,List.not_mem_nil,or_false] at hb ⊢
      rcases hb with rfl | rfl | rfl | rfl <;> simp
  self:=fun _ _ _ _ _ st h=>wpAny_pyIter_zip st.1 h
section
variable {X:Cx} {es:List Expr} {kk:Nat} {tp:Pos}
def iZipT (K:Frag) (ta:TA):TI:=fun σ H R=>ta σ H fun vs H1=>∃ a b xs ys,vs=[.ref a,.ref b]∧SqT K H1 a xs∧SqL K H1 b ys∧R (ItzT K a b) H1
theorem pi_zipT {a b:Expr} {ta:TA} {p pos:Pos} (hg:Gl X "zip") (hm:X.mg "zip" = none) (ha:PA X [a,b] ta) (hs:starEach [a,b] X.env=[(false,eval a X.env),(false,eval b X.env)]:=by rfl) (hs2:starEach [b] X.env=[(false,eval b X.env)]:=by rfl) :
    PI X (.Tuple es kk tp) (.Call (.Name "zip" p) [a,b] [] pos) (iZipT X.K ta):=by
  intro pins s σ H R I h
  refine Call_ (ld_blt I hg hm boot_zip (PyProof.Rows.callWith_type1 (thn (ha pos pins s σ H _ I h) fun us s1 ⟨vs,H1,I1,r1,q1⟩=>?_) (by rw [hs,hs2]) (by rw [hs2];rfl)))
  obtain ⟨l1,l2,xs,ys,e,q1,q2,q⟩:=q1
  subst e
  cases r1 with
  | cons r rr=>
    cases rr with
    | cons r' rr=>
      cases rr
      cases r
      cases r'
      obtain ⟨ws,rw1,p1,z1⟩:=I1.tuple q1
      obtain ⟨vs,rw2,p2,z2⟩:=I1.list q2
      have lt1:l1 < s1.heap.objs.size:=by obtain ⟨o,e,_⟩:=p1;exact pins_lt e
      have lt2:l2 < s1.heap.objs.size:=by obtain ⟨o,e,_⟩:=p2.isList;exact pins_lt e
      refine call_zipT p1 p2.isList fun h' a1 a2 a3 a4 a5 a6 a7=>?_
      refine wpAny_pyIter_zip a1 ⟨_,[s1.heap.objs.size+4,s1.heap.objs.size+2,s1.heap.objs.size+3,s1.heap.objs.size,s1.heap.objs.size+1],_,_,H1,rfl,I1.kept (t':=s1.toks) a7,turn_zipT _ _ _ _ _ _ _ (zipApart_new lt1 lt2),⟨a1,a2,⟨_,_,a3⟩,a4,a5⟩,fun b hb=>?_,q⟩
      have hb':s1.heap.objs.size≤b:=by
        simp only [List.mem_cons,List.not_mem_nil,or_false] at hb
        rcases hb with rfl | rfl | rfl | rfl | rfl <;> first | exact Nat.le_refl _ | exact Nat.le_add_right _ _
      exact I1.fpOk hb' (I1.hok.fresh hb')
theorem itG_zipT {K:Frag} {H:Hp} {a b:Addr} {xs ys:List V} (h1:SqT K H a xs) (h2:SqL K H b ys) (hxy:ys.length=xs.length) :
    ItG (ItzT K a b) H xs.length (fun i x H'=>∃ T u v,x = .ref T∧H' T=some (.tup [u,v])∧xs[i]? = some u∧ys[i]? = some v):=fun H2 s i=>
  ⟨fun hi=>⟨⟨xs,ys,xs[i],ys[i]'(by omega),s.tupS h1,s.seq h2,by simp [hi],by simp [show i < ys.length by omega]⟩,fun x H3 y=>by
    obtain ⟨T,u,v,rfl,hT,rfl,y⟩:=y
    obtain ⟨y1,y2⟩:=y xs ys (s.tupS h1) (s.seq h2)
    exact ⟨same_upd hT,T,u,v,rfl,upd_same,y1,y2⟩⟩,fun e=>⟨xs,ys,s.tupS h1,s.seq h2,.inl (by omega)⟩⟩
end
end L2
namespace Rc
open PySem PySem.Spec PyProof.Rows L2
def diffL (a b:List Int):List Int:=(List.range a.length).filterMap fun i=>if a.getD i 0=b.getD i 0 then none else some (i:Int)
theorem diff_fm (a b:List Int):(List.range a.length).filterMap (fun i=>if a.getD i 0=b.getD i 0 then none else some (V.int (i:Int)))=(diffL a b).map V.int:=by
  unfold diffL
  rw [List.map_filterMap]
  congr 1
  funext i
  split <;> rfl
def hangL (cs:List Row) (ls:List Int) (j:Nat):List Int:=diffL (leastL cs ls) (leastL cs (ls.set j 0))
theorem more_nought {ls:List Int} {j:Nat}:moreL ls j (-(ls.getD j 0))=ls.set j 0:=by
  unfold moreL
  rw [Int.add_right_neg]
end Rc
namespace Rc
open PySem PySem.Spec PyProof.Rows L2
end Rc
namespace Rc
open PySem PySem.Spec PyProof.Rows L2
section
variable {K:Frag} {H:Hp} {vs:List V} {L:List (Int×Int)} {us:List V} {cs:List Row}
end
end Rc
namespace Rc
open PySem PySem.Spec PyProof.Rows L2
end Rc
namespace Rc
open PySem PySem.Spec PyProof.Rows L2
section
variable {cs:List Row} {ls a b:List Int} {d:Nat}
end
end Rc
namespace Rc
open PySem PySem.Spec PyProof.Rows L2
end Rc
namespace Rc
open PySem PySem.Spec PyProof.Rows L2
end Rc
namespace L2
open PySem PySem.Spec PyProof.Rows
theorem dc_grow {J:It} {H1:Hp} {n:Nat} {Y:Nat→V→Hp→Prop} {g:TG} {tc:TT} {tk te:TE} {σ0:L2.St} {Q:Addr→Hp→Prop} (hJ:ItG J H1 n Y) (S:L2.St→Prop) (P:Addr→Nat→List (Key×V)→Hp→Prop) (h0:S σ0) (hz:n≤sizeLine)
    (hP0:∀ D,H1 D=none→P D 0 [] (upd H1 D (.dK []))) (hPS:∀ D i kvs H2 H3,P D i kvs H2→Same H2 H3→P D i kvs H3)
    (hs:∀ (D:Addr) (i:Nat) (x:V) (kvs:List (Key×V)) (σ2:L2.St) (H2:Hp) (Qt:L2.St→V→V→Hp→Prop) (Qf:L2.St→Hp→Prop),i < n→H1 D=none→H2 D=some (.dK kvs)→Same H1 H2→Y i x H2→S σ2→P D i kvs H2→
      (∀ σ4 k v H7,S σ4→Same H2 H7→P D (i+1) (putK kvs k v) (upd H7 D (.dK (putK kvs k v)))→Qt σ4 (kV k) v H7)→(∀ σ4 H5,S σ4→Same H2 H5→P D (i+1) kvs H5→Qf σ4 H5)→
      g x σ2 H2 fun σ4 H4=>tc σ4 H4 fun b H5=>if b=true then tk σ4 H5 fun kv H6=>te σ4 H6 fun v H7=>Qt σ4 kv v H7 else Qf σ4 H5)
    (hQ:∀ D H2 kvs,H1 D=none→Same H1 H2→H2 D=some (.dK kvs)→P D n kvs H2→Q D H2) :
    ∀ D,H1 D=none→∃ W:Nat→Nat→L2.St→Hp→Prop,(∃ m,W 0 m σ0 (upd H1 D (.dK [])))∧∀ i m σ2 H2,W i m σ2 H2→
      (J.stop i H2∧Q D H2)∨(J.go i H2∧∀ x H3,J.yld i H2 x H3→g x σ2 H3 fun σ4 H4=>tc σ4 H4 fun b H5=>
        if b=true then tk σ4 H5 fun kv H6=>te σ4 H6 fun v H7=>∃ k kvs m',kv=kV k∧H7 D=some (.dK kvs)∧kvs.length < sizeLine∧m' < m∧W (i+1) m' σ4 (upd H7 D (.dK (putK kvs k v))) else ∃ m',m' < m∧W (i+1) m' σ4 H5):=by
  intro D hD
  refine ⟨fun i m σ2 H2=>i≤n∧m=n - i∧S σ2∧Same H1 H2∧∃ kvs,H2 D=some (.dK kvs)∧kvs.length≤i∧P D i kvs H2,⟨n,Nat.zero_le _,by omega,h0,same_upd hD,[],upd_same,Nat.le_refl _,hP0 D hD⟩,?_⟩
  rintro i m σ2 H2 ⟨hi,rfl,hS,sm,kvs,hk,hkl,hP⟩
  obtain ⟨j1,j2⟩:=hJ _ sm i
  by_cases hlt:i < n
  · obtain ⟨go,yl⟩:=j1 hlt
    refine .inr ⟨go,fun x H3 hy=>?_⟩
    obtain ⟨s3,y3⟩:=yl x H3 hy
    refine hs D i x kvs σ2 H3 (fun σ4 kv v H7=>∃ k kvs m',kv=kV k∧H7 D=some (.dK kvs)∧kvs.length < sizeLine∧m' < n - i∧_) (fun σ4 H5=>∃ m',m' < n - i∧_) hlt hD (s3 _ _ hk) (sm.trans s3) y3 hS (hPS _ _ _ _ _ hP s3) (fun σ4 k v H7 hS4 s7 hP7=>?_) fun σ4 H5 hS4 s5 hP5=>?_
    · have hk7:=s7 _ _ (s3 _ _ hk)
      refine ⟨k,kvs,n - (i+1),rfl,hk7,by omega,by omega,hlt,rfl,hS4,fun b o e=>?_,putK kvs k v,upd_same,by have:=length_putK kvs k v;omega,hP7⟩
      rw [upd_ne (ne_of_none e hD)]
      exact s7 b o (s3 b o (sm b o e))
    · exact ⟨n - (i+1),by omega,hlt,rfl,hS4,sm.trans (s3.trans s5),kvs,s5 _ _ (s3 _ _ hk),by omega,hP5⟩
  · have e:i=n:=by omega
    subst e
    exact .inl ⟨j2 rfl,hQ D H2 kvs hD sm hk hP⟩
end L2
namespace Rc
open PySem PySem.Spec PyProof.Rows L2
def bearF (L:List (Int×Int)) (n:Nat) (i:Nat):Option Int:=if 0 < (Mt.deal (L.map (·.2)) n).getD i 0 then some ((L.map (·.1)).getD i 0) else none
def bearH (L:List (Int×Int)) (n:Nat):List Int:=(List.range L.length).filterMap (bearF L n)
def noCov:Row:=(0, "", 0,0,[])
def onwF (cs:List Row) (acc:List Int) (c k:Nat):Option Int:=if 0 < acc.getD k 0∧(cs.getD k noCov).1∈bearH (cs.getD c noCov).2.2.2.2 (acc.getD c 0).toNat then some (k:Int) else none
def onwL (cs:List Row) (acc:List Int) (c:Nat):List Int:=(List.range cs.length).filterMap (onwF cs acc c)
theorem fm_ints (f:Nat→Option Int) (n:Nat):(List.range n).filterMap (fun i=>(f i).map V.int)=((List.range n).filterMap f).map V.int:=by
  rw [List.map_filterMap]
theorem cov_getD {cs:List Row} {i:Nat} {c:Row} (h:cs[i]? = some c):cs.getD i noCov=c:=by simp [List.getD,h]
end Rc
namespace Rc
open PySem PySem.Spec PyProof.Rows L2
def RKV (H:Hp) (kvs:List (Key×V)) (rs:List (Nat×List Int)):Prop:=kvs.length=rs.length∧∀ (i:Nat) (r:Nat×List Int),rs[i]? = some r→∃ a,kvs[i]? = some (Sum.inl (r.1:Int),.ref a)∧H a=some (.lst (r.2.map V.int))
section
variable {H H':Hp} {kvs:List (Key×V)} {rs:List (Nat×List Int)} {d:Addr}
theorem RKV.same (h:RKV H kvs rs) (s:Same H H'):RKV H' kvs rs:=⟨h.1,fun i r e=>let ⟨a,e1,e2⟩:=h.2 i r e;⟨a,e1,s _ _ e2⟩⟩
theorem RKV.updD {ks:List (Key×V)} {o:HO} (h:RKV H kvs rs) (hd:H d=some (.dK ks)):RKV (upd H d o) kvs rs:=⟨h.1,fun i r e=>by
  obtain ⟨a,e1,e2⟩:=h.2 i r e
  have n:a≠d:=fun z=>by rw [z,hd] at e2;cases e2
  exact ⟨a,e1,by rw [upd_ne n];exact e2⟩⟩
theorem RKV.nil:RKV H [] []:=⟨rfl,fun i r e=>by simp at e⟩
theorem RKV.snoc {k:Nat} {a:Addr} {r:List Int} (h:RKV H kvs rs) (ha:H a=some (.lst (r.map V.int))):RKV H (kvs ++ [(Sum.inl (k:Int),.ref a)]) (rs ++ [(k,r)]):=by
  refine ⟨by rw [List.length_append,List.length_append,h.1];rfl,fun i q e=>?_⟩
  by_cases hi:i < rs.length
  · rw [List.getElem?_append_left hi] at e
    obtain ⟨b,e1,e2⟩:=h.2 i q e
    exact ⟨b,by rw [List.getElem?_append_left (by rw [h.1];exact hi)];exact e1,e2⟩
  · have hlt:=get_lt e
    rw [List.length_append,List.length_singleton] at hlt
    have ei:i=rs.length:=by omega
    subst ei
    rw [List.getElem?_append_right (Nat.le_refl _),Nat.sub_self] at e
    simp at e;subst e
    exact ⟨a,by rw [List.getElem?_append_right (by rw [h.1];exact Nat.le_refl _),h.1,Nat.sub_self];rfl,ha⟩
theorem RKV.key {k:Key} (h:RKV H kvs rs):k∈kvs.map (·.1)↔∃ r∈rs,k=Sum.inl (r.1:Int):=by
  constructor
  · intro hk
    obtain ⟨i,hi⟩:=List.mem_iff_getElem?.mp hk
    rw [List.getElem?_map] at hi
    obtain ⟨kv,h1,rfl⟩:=Option.map_eq_some_iff.mp hi
    obtain ⟨r,hr⟩:=get_some (xs:=rs) (i:=i) (by rw [← h.1];exact get_lt h1)
    obtain ⟨a,e1,_⟩:=h.2 i r hr
    rw [h1] at e1
    cases e1
    exact ⟨r,List.mem_of_getElem? hr,rfl⟩
  · rintro ⟨r,hr,rfl⟩
    obtain ⟨i,hi⟩:=List.mem_iff_getElem?.mp hr
    obtain ⟨a,e1,_⟩:=h.2 i r hi
    exact List.mem_map.mpr ⟨_,List.mem_of_getElem? e1,rfl⟩
end
theorem valV_no {kvs:List (Key×V)} {k:Key} (h:k∉kvs.map (·.1)):valV kvs k=none:=by
  unfold valV
  rw [Option.map_eq_none_iff,List.find?_eq_none]
  intro kv hkv z
  exact h (List.mem_map.mpr ⟨kv,hkv,of_decide_eq_true z⟩)
def firstF (cs:List Row) (ls acc:List Int) (k:Nat):Option (Nat×List Int):=if 0 < acc.getD k 0∧0 < ls.getD (cs.getD k noCov).1.toNat 0 then some (k,[(k:Int)]) else none
def firstR (cs:List Row) (ls acc:List Int) (n:Nat):List (Nat×List Int):=(List.range n).filterMap (firstF cs ls acc)
theorem firstR_succ (cs:List Row) (ls acc:List Int) (n:Nat):firstR cs ls acc (n+1)=firstR cs ls acc n ++ (firstF cs ls acc n).toList:=by
  unfold firstR
  rw [List.range_succ,List.filterMap_append];cases h:firstF cs ls acc n <;> simp [h]
theorem firstR_lt {cs:List Row} {ls acc:List Int} {n:Nat} {r:Nat×List Int} (h:r∈firstR cs ls acc n):r.1 < n:=by
  unfold firstR at h
  obtain ⟨k,hk,e⟩:=List.mem_filterMap.mp h
  unfold firstF at e
  split at e
  · cases e;exact List.mem_range.mp hk
  · cases e
end Rc
namespace Rc
open PySem PySem.Spec PyProof.Rows L2
section
variable {H:Hp} {kvs:List (Key×V)} {rs:List (Nat×List Int)}
theorem RKV.valV_some {k:Nat} {r:List Int} (h:RKV H kvs rs) (nd:(rs.map (·.1)).Nodup) (hr:(k,r)∈rs):∃ a,valV kvs (Sum.inl (k:Int))=some (.ref a)∧H a=some (.lst (r.map V.int)):=by
  obtain ⟨i,hi⟩:=List.mem_iff_getElem?.mp hr
  obtain ⟨a,e1,e2⟩:=h.2 i _ hi
  refine ⟨a,?_,e2⟩
  unfold valV
  have hf:kvs.find? (fun kv=>decide (kv.1=Sum.inl (k:Int)))=some (Sum.inl (k:Int),V.ref a):=by
    rw [List.find?_eq_some_iff_getElem]
    have hil:=get_lt e1
    refine ⟨by simp,i,hil,?_,fun j hj=>?_⟩
    · rw [List.getElem?_eq_getElem hil] at e1;exact Option.some.inj e1
    · obtain ⟨q,hq⟩:=get_some (xs:=rs) (i:=j) (by rw [← h.1];omega)
      obtain ⟨b,f1,_⟩:=h.2 j q hq
      have hjl:=get_lt f1
      rw [List.getElem?_eq_getElem hjl] at f1
      rw [Option.some.inj f1]
      simp only [Bool.not_eq_true',decide_eq_false_iff_not]
      intro z
      have e:q.1=k:=by have:=Sum.inl.inj z;omega
      have hi2:=get_lt hi
      have hj2:=get_lt hq
      have n1:(rs.map (·.1))[j]'(by rw [List.length_map];exact hj2)=(rs.map (·.1))[i]'(by rw [List.length_map];exact hi2):=by
        rw [List.getElem_map,List.getElem_map]
        rw [List.getElem?_eq_getElem hj2] at hq
        rw [List.getElem?_eq_getElem hi2] at hi
        rw [Option.some.inj hq,Option.some.inj hi,e]
      have:=(List.getElem_inj nd).mp n1
      omega
  rw [hf];rfl
end
end Rc
namespace Rc
open PySem PySem.Spec PyProof.Rows L2
structure LongerP (cs:List Row) (acc:List Int) (rs:List (Nat×List Int)) (done:Nat→Int→Prop) (rs':List (Nat×List Int)):Prop where
  nd:(rs'.map (·.1)).Nodup
  src:∀ q∈rs',q.1 < cs.length∧q.1∉rs.map (·.1)∧∃ e r,done e (q.1:Int)∧(e,r)∈rs∧(q.1:Int)∈onwL cs acc e∧q.2=r ++ [(q.1:Int)]
  all:∀ e (k:Nat),done e (k:Int)→(k:Int)∈onwL cs acc e→k∉rs.map (·.1)→k∈rs'.map (·.1)
theorem onw_mem {cs:List Row} {acc:List Int} {c:Nat} {x:Int} (h:x∈onwL cs acc c):∃ k:Nat,x=(k:Int)∧k < cs.length∧0 < acc.getD k 0:=by
  unfold onwL at h
  obtain ⟨k,hk,e⟩:=List.mem_filterMap.mp h
  unfold onwF at e
  split at e
  · rename_i hc;cases e;exact ⟨k,rfl,List.mem_range.mp hk,hc.1⟩
  · cases e
theorem LongerP.mono {cs:List Row} {acc:List Int} {rs rs':List (Nat×List Int)} {d1 d2:Nat→Int→Prop} (h:LongerP cs acc rs d1 rs') (h12:∀ e x,d1 e x→d2 e x) (h21:∀ e x,d2 e x→x∈onwL cs acc e→d1 e x):LongerP cs acc rs d2 rs':=
  ⟨h.nd,fun q hq=>let ⟨a1,a2,e,r,a3,a4⟩:=h.src q hq;⟨a1,a2,e,r,h12 _ _ a3,a4⟩,fun e k a1 a2 a3=>h.all e k (h21 _ _ a1 a2) a2 a3⟩
end Rc
namespace Rc
open PySem PySem.Spec PyProof.Rows L2
theorem RKV.isSome {H:Hp} {kvs:List (Key×V)} {rs:List (Nat×List Int)} (h:RKV H kvs rs) (k:Nat):(valV kvs (Sum.inl (k:Int))).isSome=true↔k∈rs.map (·.1):=by
  constructor
  · intro hs
    refine Classical.byContradiction fun hn=>?_
    rw [valV_no (fun z=>?_)] at hs
    · cases hs
    · obtain ⟨q,hq,e⟩:=h.key.mp z
      have:=Sum.inl.inj e
      exact hn (List.mem_map.mpr ⟨q,hq,by omega⟩)
  · intro hk
    obtain ⟨q,hq,rfl⟩:=List.mem_map.mp hk
    have hm:=h.key.mpr ⟨q,hq,rfl⟩
    cases hv:valV kvs (Sum.inl (q.1:Int)) with
    | none=>exact absurd hm (valV_not hv)
    | some v=>rfl
theorem LongerP.skip {cs:List Row} {acc:List Int} {rs rs':List (Nat×List Int)} {e i k:Nat} {d0:Nat→Prop} (h:LongerP cs acc rs (fun e' x=>d0 e'∨(e'=e∧x∈(onwL cs acc e).take i)) rs') (hx:(onwL cs acc e)[i]? = some (k:Int)) (hk:k∈rs.map (·.1)) :
    LongerP cs acc rs (fun e' x=>d0 e'∨(e'=e∧x∈(onwL cs acc e).take (i+1))) rs':=by
  refine ⟨h.nd,fun q hq=>?_,fun e' k' hd hm hn=>?_⟩
  · obtain ⟨a1,a2,e',r,a3,a4⟩:=h.src q hq
    refine ⟨a1,a2,e',r,a3.imp id fun z=>⟨z.1,?_⟩,a4⟩
    rw [take_snoc hx];exact List.mem_append_left _ z.2
  · refine h.all e' k' (hd.imp id fun z=>⟨z.1,?_⟩) hm hn
    have:=z.2
    rw [take_snoc hx] at this
    rcases List.mem_append.mp this with h1 | h1
    · exact h1
    · have e1:(k':Int)=(k:Int):=List.mem_singleton.mp h1
      exact absurd hk (by rw [show k=k' by omega];exact hn)
theorem LongerP.put {cs:List Row} {acc:List Int} {rs rs' rs5:List (Nat×List Int)} {e i k:Nat} {r0:List Int} {d0:Nat→Prop} (h:LongerP cs acc rs (fun e' x=>d0 e'∨(e'=e∧x∈(onwL cs acc e).take i)) rs') (hx:(onwL cs acc e)[i]? = some (k:Int)) (hkc:k < cs.length) (hk:k∉rs.map (·.1)) (hr0:(e,r0)∈rs)
    (nd5:(rs5.map (·.1)).Nodup) (hq5:∀ q∈rs5,q=(k,r0 ++ [(k:Int)])∨q∈rs') (hk5:k∈rs5.map (·.1)) (hsub:∀ j∈rs'.map (·.1),j∈rs5.map (·.1)) :
    LongerP cs acc rs (fun e' x=>d0 e'∨(e'=e∧x∈(onwL cs acc e).take (i+1))) rs5:=by
  refine ⟨nd5,fun q hq=>?_,fun e' k' hd hm hn=>?_⟩
  · rcases hq5 q hq with rfl | hq
    · exact ⟨hkc,hk,e,r0,.inr ⟨rfl,by rw [take_snoc hx];exact List.mem_append_right _ List.mem_cons_self⟩,hr0,List.mem_of_getElem? hx,rfl⟩
    · obtain ⟨a1,a2,e',r,a3,a4⟩:=h.src q hq
      refine ⟨a1,a2,e',r,a3.imp id fun z=>⟨z.1,?_⟩,a4⟩
      rw [take_snoc hx];exact List.mem_append_left _ z.2
  · rcases hd with hd | ⟨rfl,hd⟩
    · exact hsub _ (h.all e' k' (.inl hd) hm hn)
    · rw [take_snoc hx] at hd
      rcases List.mem_append.mp hd with h1 | h1
      · exact hsub _ (h.all e' k' (.inr ⟨rfl,h1⟩) hm hn)
      · have e1:(k':Int)=(k:Int):=List.mem_singleton.mp h1
        rw [show k'=k by omega];exact hk5
end Rc
namespace Rc
open PySem PySem.Spec PyProof.Rows L2
section
variable {h:Nat} {cs:List Row} {ls acc:List Int}
def lev (cs:List Row) (ls acc:List Int):Nat→Nat→Prop
  | 0,k=>k < cs.length∧0 < acc.getD k 0∧0 < ls.getD (cs.getD k noCov).1.toNat 0
  | n+1,k=>lev cs ls acc n k∨∃ c,lev cs ls acc n c∧(k:Int)∈onwL cs acc c
theorem bearH_of {L:List (Int×Int)} (g:GoodL L) {n:Nat} {x:Int} (hx:x∈bearersL L n):x∈bearH L n:=by
  obtain ⟨l,hl,rfl⟩:=bearersL_mem g.l1 hx
  obtain ⟨i,hi⟩:=List.mem_iff_getElem?.mp hl
  have hil:=get_lt hi
  have e:(L.map (·.1)).getD i 0=l.1:=getD_of (by rw [List.getElem?_map,hi];rfl)
  have hc:=count_deal g.l1 g.nd n i hil
  rw [e] at hc
  have hpos:0 < (bearersL L n).count l.1:=List.count_pos_iff.mpr hx
  unfold bearH
  refine List.mem_filterMap.mpr ⟨i,List.mem_range.mpr hil,?_⟩
  unfold bearF
  rw [if_pos (by omega),e]
theorem crs_pos {j:Nat}:∀ i,0 < crs cs acc i j→∃ c row,c < i∧cs[c]? = some row∧(j:Int)∈bearersL row.2.2.2.2 (acc.getD c 0).toNat
  | 0,hp=>absurd hp (by show ¬ (0:Int) < 0;omega)
  | i+1,hp=>by
    rw [crs] at hp
    cases hc:cs[i]? with
    | none=>
      rw [hc] at hp
      have hp':0 < crs cs acc i j+0:=hp
      obtain ⟨c,row,h1,h2⟩:=crs_pos i (show 0 < crs cs acc i j by omega)
      exact ⟨c,row,by omega,h2⟩
    | some row=>
      rw [hc] at hp
      by_cases hz:0 < crs cs acc i j
      · obtain ⟨c,row,h1,h2⟩:=crs_pos i hz
        exact ⟨c,row,by omega,h2⟩
      · refine ⟨i,row,by omega,hc,?_⟩
        have hq:0 < (bearersL row.2.2.2.2 (acc.getD i 0).toNat).count (j:Int):=by
          have hp':0 < crs cs acc i j+(((bearersL row.2.2.2.2 (acc.getD i 0).toNat).count (j:Int):Nat):Int):=hp
          omega
        exact List.count_pos_iff.mp hq
theorem passL_le {l0:List Int} {B h:Int} (hb:∀ x∈l0,0≤x∧x≤B) (hB:0≤B) (hg:∀ c∈cs,GoodC h c) (j:Nat):∀ i,(passL cs l0 i).1.getD j 0≤l0.getD j 0
  | 0=>Int.le_refl _
  | i+1=>by
    have ih:=passL_le hb hB hg j i
    cases hc:cs[i]? with
    | none=>rw [passL,hc];exact ih
    | some c=>
      rw [passL_succ hc]
      have gc:=hg c (List.mem_of_getElem? hc)
      have hbd:=getD_bd (passL_bd hb hB hg i) hB c.1.toNat
      have ht:=takeZ_bd gc.ms hbd.1
      show ((passL cs l0 i).1.set c.1.toNat _).getD j 0≤_
      rw [List.getD_eq_getElem?_getD,List.getElem?_set]
      by_cases e:c.1.toNat=j
      · rw [if_pos e]
        split
        · show _ - _≤_
          rw [e] at ht ⊢
          omega
        · rename_i hlt
          have h0:(passL cs l0 i).1.getD j 0=0:=by
            rw [List.getD_eq_getElem?_getD,List.getElem?_eq_none (by rw [e] at hlt;omega)];rfl
          rw [h0] at ih
          exact ih
      · rw [if_neg e,← List.getD_eq_getElem?_getD]
        exact ih
theorem ask_pos (g:GoodT h cs ls) (hA:AccOk cs acc) {k:Nat} {c:Row} (hc:cs[k]? = some c) (hp:0 < (askL cs ls acc).getD k 0):0 < (burdL cs ls acc).getD c.1.toNat 0:=by
  have hbd:=burd_bd g hA
  have gc:=g.cov c (List.mem_of_getElem? hc)
  have e:=passL_at (l0:=burdL cs ls acc) hc cs.length (get_lt hc) (Nat.le_refl _)
  have e2:(askL cs ls acc).getD k 0=takeZ c.2.1 c.2.2.1 c.2.2.2.1 ((passL cs (burdL cs ls acc) k).1.getD c.1.toNat 0):=getD_of e
  rw [e2] at hp
  have hb2:=getD_bd (passL_bd hbd (by decide) g.cov k) (by decide) c.1.toNat
  have ht:=takeZ_bd gc.ms hb2.1
  have hle:=passL_le hbd (by decide) g.cov c.1.toNat k
  omega
theorem reach_iter (g:GoodT h cs ls) (hA:AccOk cs acc) (top:∀ n,LeL (iterL cs ls (List.replicate cs.length 0) n) acc) :
    ∀ n k,0 < (iterL cs ls (List.replicate cs.length 0) n).getD k 0→∃ m,lev cs ls acc m k
  | 0,k,hp=>by
    have:(List.replicate cs.length (0:Int)).getD k 0=0:=by
      rw [List.getD_eq_getElem?_getD,List.getElem?_replicate];split <;> rfl
    rw [iterL,this] at hp
    omega
  | n+1,k,hp=>by
    have hz:=iter_ok g (acc_zero g) n
    have htop:=(top (n+1)).get k
    have hkl:k < cs.length:=Classical.byContradiction fun hn=>by
      rw [List.getD_eq_getElem?_getD,List.getElem?_eq_none (by rw [(iter_ok g (acc_zero g) (n+1)).len];omega)] at hp
      exact absurd hp (by decide)
    obtain ⟨ck,hck⟩:=get_some (xs:=cs) hkl
    have gk:=g.cov ck (List.mem_of_getElem? hck)
    have gho:=gk.ho
    have gll:=g.ll
    have eck:=cov_getD hck
    have hb:=ask_pos g hz hck hp
    have hjl:ck.1.toNat < ls.length:=by omega
    unfold burdL at hb
    rw [plusF_get _ _ _ hjl] at hb
    by_cases hl:0 < ls.getD ck.1.toNat 0
    · exact ⟨0,hkl,by omega,by rw [eck];exact hl⟩
    · obtain ⟨c,row,hcl,hcr,hm⟩:=crs_pos cs.length (show 0 < crs cs (iterL cs ls (List.replicate cs.length 0) n) cs.length ck.1.toNat by omega)
      have hcn:0 < (iterL cs ls (List.replicate cs.length 0) n).getD c 0:=Classical.byContradiction fun hn=>by
        have e0:((iterL cs ls (List.replicate cs.length 0) n).getD c 0).toNat=0:=by omega
        rw [e0] at hm
        simp [bearersL] at hm
      obtain ⟨m,hm2⟩:=reach_iter g hA top n c hcn
      refine ⟨m+1,.inr ⟨c,hm2,?_⟩⟩
      have htc:=(top n).get c
      have hm3:(ck.1.toNat:Int)∈bearersL row.2.2.2.2 (acc.getD c 0).toNat:=by
        have e3:=bearersL_take row.2.2.2.2 (n:=((iterL cs ls (List.replicate cs.length 0) n).getD c 0).toNat) (m:=(acc.getD c 0).toNat) (by omega)
        rw [← e3] at hm
        exact List.mem_of_mem_take hm
      have gr:=g.cov row (List.mem_of_getElem? hcr)
      have hmem:(cs.getD k noCov).1∈bearH (cs.getD c noCov).2.2.2.2 (acc.getD c 0).toNat:=by
        rw [eck,cov_getD hcr]
        have:=bearH_of gr.gl hm3
        rw [show ((ck.1.toNat:Nat):Int)=ck.1 by omega] at this
        exact this
      unfold onwL
      refine List.mem_filterMap.mpr ⟨k,List.mem_range.mpr hkl,?_⟩
      unfold onwF
      rw [if_pos ⟨by omega,hmem⟩]
theorem reach_least (g:GoodT h cs ls) {k:Nat} (hp:0 < (leastL cs ls).getD k 0):∃ m,lev cs ls (leastL cs ls) m k:=
  reach_iter g (least_ok g) (fun n=>by
    have hl:LeL (List.replicate cs.length 0) (leastL cs ls):=LeL.of (by rw [List.length_replicate,(least_ok g).len]) fun i hi=>by
      rw [List.length_replicate] at hi
      rw [getD_of (show (List.replicate cs.length (0:Int))[i]? = some 0 by rw [List.getElem?_replicate,if_pos hi])]
      obtain ⟨b,hb⟩:=get_some (xs:=leastL cs ls) (i:=i) (by rw [(least_ok g).len];exact hi)
      obtain ⟨c,hc⟩:=get_some (xs:=cs) hi
      rw [getD_of hb]
      exact ((least_ok g).bd i c b hc hb).1
    have:=iter_mono g (acc_zero g) hl n
    rw [come_of_fix (least_fix g) n] at this
    exact this) 241 k hp
end
end Rc
namespace Rc
open PySem PySem.Spec PyProof.Rows L2
section
variable {h:Nat} {cs:List Row} {ls acc:List Int}
theorem lev_up {n k:Nat} (hl:lev cs ls acc n k):∀ {m},n≤m→lev cs ls acc m k
  | 0,hm=>by
    have:n=0:=by omega
    subst this;exact hl
  | m+1,hm=>by
    rcases Nat.lt_or_ge n (m+1) with h1 | h1
    · exact .inl (lev_up hl (by omega))
    · have:n=m+1:=by omega
      subst this;exact hl
inductive Rd (cs:List Row) (ls acc:List Int):Nat→Nat→List Int→Prop
  | one {k:Nat}:lev cs ls acc 0 k→Rd cs ls acc 0 k [(k:Int)]
  | more {j e k:Nat} {r:List Int}:Rd cs ls acc j e r→(k:Int)∈onwL cs acc e→Rd cs ls acc (j+1) k (r ++ [(k:Int)])
theorem Rd.len {j k:Nat} {r:List Int} (h:Rd cs ls acc j k r):r.length=j+1:=by
  induction h with
  | one _=>rfl
  | more _ _ ih=>rw [List.length_append,ih];rfl
theorem Rd.lev {j k:Nat} {r:List Int} (h:Rd cs ls acc j k r):Rc.lev cs ls acc j k:=by
  induction h with
  | one h=>exact h
  | more _ ho ih=>exact .inr ⟨_,ih,ho⟩
theorem nodup_lt:∀ {n:Nat} {l:List Nat},l.Nodup→(∀ x∈l,x < n)→l.length≤n
  | 0,[],_,_=>Nat.le_refl _
  | 0,x :: l,_,h=>absurd (h x List.mem_cons_self) (Nat.not_lt_zero _)
  | n+1,l,nd,h=>by
    by_cases hn:n∈l
    · have h1:=List.length_erase_of_mem hn
      have h2:=nodup_lt (n:=n) (l:=l.erase n) (nd.erase n) fun x hx=>by
        have h3:=(nd.mem_erase_iff).mp hx
        have:=h x h3.2
        have:=h3.1
        omega
      omega
    · have:=nodup_lt (n:=n) (l:=l) nd fun x hx=>by
        have:=h x hx
        have:x≠n:=fun z=>hn (z ▸ hx)
        omega
      omega
structure RoadsP (cs:List Row) (ls acc:List Int) (n:Nat) (rs:List (Nat×List Int)) (es:List Nat):Prop where
  nd:(rs.map (·.1)).Nodup
  key:∀ k,k∈rs.map (·.1)↔lev cs ls acc n k
  ends:∀ e,e∈es↔lev cs ls acc n e∧∀ j,j < n→¬ lev cs ls acc j e
  road:∀ q∈rs,∃ j,Rd cs ls acc j q.1 q.2∧∀ i,i < j→¬ lev cs ls acc i q.1
  big:n≤rs.length
theorem lev_lt {n k:Nat}:lev cs ls acc n k→k < cs.length:=by
  induction n generalizing k with
  | zero=>exact fun h=>h.1
  | succ n ih=>
    rintro (h | ⟨c,_,ho⟩)
    · exact ih h
    · obtain ⟨k',e,hk,_⟩:=onw_mem ho
      have:k=k':=by omega
      omega
theorem RoadsP.len (P:RoadsP cs ls acc n rs es):rs.length≤cs.length:=by
  have:=nodup_lt P.nd fun x hx=>lev_lt ((P.key x).mp hx)
  rwa [List.length_map] at this
theorem first_mem {q:Nat×List Int}:q∈firstR cs ls acc cs.length↔lev cs ls acc 0 q.1∧q.2=[(q.1:Int)]:=by
  unfold firstR
  rw [List.mem_filterMap]
  constructor
  · rintro ⟨k,hk,e⟩
    unfold firstF at e
    split at e
    · rename_i hc;cases e;exact ⟨⟨List.mem_range.mp hk,hc⟩,rfl⟩
    · cases e
  · rintro ⟨⟨h1,h2⟩,h3⟩
    refine ⟨q.1,List.mem_range.mpr h1,?_⟩
    unfold firstF
    rw [if_pos h2,← h3]
theorem first_nd:∀ n,((firstR cs ls acc n).map (·.1)).Nodup
  | 0=>by simp [firstR]
  | n+1=>by
    rw [firstR_succ,List.map_append]
    refine List.pairwise_append.mpr ⟨first_nd n,?_,fun x hx y hy=>?_⟩
    · unfold firstF;split <;> simp
    · obtain ⟨q,hq,rfl⟩:=List.mem_map.mp hx
      have:=firstR_lt hq
      unfold firstF at hy
      split at hy
      · simp at hy;omega
      · simp at hy
theorem RoadsP.first:RoadsP cs ls acc 0 (firstR cs ls acc cs.length) ((firstR cs ls acc cs.length).map (·.1)):=by
  have key:∀ k,k∈(firstR cs ls acc cs.length).map (·.1)↔lev cs ls acc 0 k:=fun k=>by
    rw [List.mem_map]
    constructor
    · rintro ⟨q,hq,rfl⟩;exact (first_mem.mp hq).1
    · exact fun hk=>⟨(k,[(k:Int)]),first_mem.mpr ⟨hk,rfl⟩,rfl⟩
  refine ⟨first_nd _,key,fun e=>?_,fun q hq=>?_,Nat.zero_le _⟩
  · rw [key];exact ⟨fun h=>⟨h,fun j hj=>absurd hj (Nat.not_lt_zero _)⟩,fun h=>h.1⟩
  · obtain ⟨h1,h2⟩:=first_mem.mp hq
    exact ⟨0,by rw [h2];exact .one h1,fun i hi=>absurd hi (Nat.not_lt_zero _)⟩
theorem RoadsP.next {n:Nat} {rs rs':List (Nat×List Int)} {es:List Nat} (P:RoadsP cs ls acc n rs es) (L:LongerP cs acc rs (fun e _=>e∈es) rs') {k:Nat} (hk:∃ m,lev cs ls acc m k) (hn:k∉rs.map (·.1)) :
    RoadsP cs ls acc (n+1) (rs ++ rs') (rs'.map (·.1)):=by
  have key:∀ k,k∈(rs ++ rs').map (·.1)↔lev cs ls acc (n+1) k:=fun k=>by
    rw [List.map_append,List.mem_append]
    constructor
    · rintro (h | h)
      · exact .inl ((P.key k).mp h)
      · obtain ⟨q,hq,rfl⟩:=List.mem_map.mp h
        obtain ⟨_,_,e,r,he,_,ho,_⟩:=L.src q hq
        exact .inr ⟨e,((P.ends e).mp he).1,ho⟩
    · intro hl
      by_cases hr:k∈rs.map (·.1)
      · exact .inl hr
      · refine .inr ?_
        rcases hl with hl | ⟨c,hc,ho⟩
        · exact absurd ((P.key k).mpr hl) hr
        · refine L.all c k ((P.ends c).mpr ⟨hc,fun j hj hl=>?_⟩) ho hr
          exact hr ((P.key k).mpr (lev_up (n:=j+1) (.inr ⟨c,hl,ho⟩) (by omega)))
  have new:∀ q∈rs',∀ i,i≤n→¬ lev cs ls acc i q.1:=fun q hq i hi hl=>(L.src q hq).2.1 ((P.key _).mpr (lev_up hl hi))
  refine ⟨?_,key,fun e=>?_,fun q hq=>?_,?_⟩
  · rw [List.map_append]
    refine List.pairwise_append.mpr ⟨P.nd,L.nd,fun x hx y hy=>?_⟩
    obtain ⟨q,hq,rfl⟩:=List.mem_map.mp hy
    exact fun z=>(L.src q hq).2.1 (z ▸ hx)
  · constructor
    · intro he
      obtain ⟨q,hq,rfl⟩:=List.mem_map.mp he
      exact ⟨(key _).mp (by rw [List.map_append];exact List.mem_append_right _ he),fun j hj=>new q hq j (by omega)⟩
    · rintro ⟨h1,h2⟩
      have:=(key e).mpr h1
      rw [List.map_append] at this
      rcases List.mem_append.mp this with h3 | h3
      · exact absurd ((P.key e).mp h3) (h2 n (by omega))
      · exact h3
  · rcases List.mem_append.mp hq with hq | hq
    · exact P.road q hq
    · obtain ⟨_,_,e,r,he,hr,ho,e2⟩:=L.src q hq
      obtain ⟨j,hj,hmin⟩:=P.road _ hr
      have hen:=(P.ends e).mp he
      have e3:j=n:=by
        rcases Nat.lt_trichotomy j n with h1 | h1 | h1
        · exact absurd hj.lev (hen.2 j h1)
        · exact h1
        · exact absurd hen.1 (hmin n h1)
      subst e3
      exact ⟨j+1,by rw [e2];exact .more hj ho,fun i hi=>new q hq i (by omega)⟩
  · have hne:rs'≠[]:=fun z=>by
      subst z
      have stay:∀ m,∀ k,lev cs ls acc (n+m) k→lev cs ls acc n k:=fun m=>by
        induction m with
        | zero=>exact fun k h=>h
        | succ m ih=>
          intro k hl
          have h1:lev cs ls acc (n+1) k:=by
            rcases hl with hl | ⟨c,hc,ho⟩
            · exact .inl (ih k hl)
            · exact .inr ⟨c,ih c hc,ho⟩
          have:=(key k).mpr h1
          rw [List.append_nil] at this
          exact (P.key k).mp this
      obtain ⟨m,hm⟩:=hk
      exact hn ((P.key k).mpr (stay m k (lev_up hm (by omega))))
    have:=P.big
    have:=List.length_pos_iff.mpr hne
    rw [List.length_append];omega
end
end Rc
namespace Rc
open PySem PySem.Spec PyProof.Rows L2
def NewV (F:Hp) (kvs:List (Key×V)):Prop:=∀ kv∈kvs,∃ a,kv.2 = .ref a∧F a=none
theorem mem_putK {kvs:List (Key×V)} {k:Key} {v:V} {kv:Key×V} (h:kv∈putK kvs k v):kv∈kvs∨kv.2=v:=by
  unfold putK at h
  split at h
  · obtain ⟨q,hq,e⟩:=List.mem_map.mp h
    split at e
    · rw [← e];exact .inr rfl
    · rw [← e];exact .inl hq
  · rcases List.mem_append.mp h with h | h
    · exact .inl h
    · rw [List.mem_singleton.mp h];exact .inr rfl
theorem NewV.put {F:Hp} {kvs:List (Key×V)} {k:Key} {a:Addr} (h:NewV F kvs) (ha:F a=none):NewV F (putK kvs k (.ref a)):=fun kv hkv=>by
  rcases mem_putK hkv with h1 | h1
  · exact h kv h1
  · exact ⟨a,h1,ha⟩
theorem NewV.weak {F F':Hp} {kvs:List (Key×V)} (h:NewV F' kvs) (s:Same F F'):NewV F kvs:=fun kv hkv=>let ⟨a,e,ha⟩:=h kv hkv;⟨a,e,s.free ha⟩
theorem merge_app:∀ {more kvs:List (Key×V)},((kvs ++ more).map (·.1)).Nodup→mergeK kvs more=kvs ++ more
  | [],kvs,_=>by simp [mergeK]
  | kv :: more,kvs,nd=>by
    have hk:kv.1∉kvs.map (·.1):=fun z=>by
      rw [List.map_append] at nd
      exact (List.pairwise_append.mp nd).2.2 _ z _ (by simp) rfl
    have e:putK kvs kv.1 kv.2=kvs ++ [kv]:=putK_new _ (valV_no hk)
    show mergeK (putK kvs kv.1 kv.2) more=_
    rw [e,merge_app (by rw [List.append_assoc];exact nd),List.append_assoc];rfl
section
variable {H:Hp} {kvs kvs':List (Key×V)} {rs rs':List (Nat×List Int)}
theorem RKV.keys (h:RKV H kvs rs):kvs.map (·.1)=rs.map fun q=>(Sum.inl (q.1:Int):Key):=by
  refine List.ext_getElem? fun i=>?_
  rw [List.getElem?_map,List.getElem?_map]
  cases hr:rs[i]? with
  | none=>
    have:kvs[i]? = none:=List.getElem?_eq_none (by rw [h.1];exact List.getElem?_eq_none_iff.mp hr)
    rw [this];rfl
  | some q=>
    obtain ⟨a,e,_⟩:=h.2 i q hr
    rw [e];rfl
theorem RKV.merge (h:RKV H kvs rs) (h':RKV H kvs' rs') (nd:((rs ++ rs').map (·.1)).Nodup):RKV H (mergeK kvs kvs') (rs ++ rs')∧mergeK kvs kvs'=kvs ++ kvs':=by
  have e:mergeK kvs kvs'=kvs ++ kvs':=merge_app (by
    rw [List.map_append,h.keys,h'.keys,← List.map_append]
    have:((rs ++ rs').map fun q=>(Sum.inl (q.1:Int):Key))=((rs ++ rs').map (·.1)).map fun k:Nat=>(Sum.inl (k:Int):Key):=by rw [List.map_map];rfl
    rw [this]
    exact List.Pairwise.map _ (fun x y hxy z=>hxy (by have:=Sum.inl.inj z;omega)) nd)
  refine ⟨?_,e⟩
  rw [e]
  refine ⟨by rw [List.length_append,List.length_append,h.1,h'.1],fun i q hq=>?_⟩
  by_cases hi:i < rs.length
  · rw [List.getElem?_append_left hi] at hq
    obtain ⟨a,e1,e2⟩:=h.2 i q hq
    exact ⟨a,by rw [List.getElem?_append_left (by rw [h.1];exact hi)];exact e1,e2⟩
  · rw [List.getElem?_append_right (by omega)] at hq
    obtain ⟨a,e1,e2⟩:=h'.2 _ q hq
    exact ⟨a,by rw [List.getElem?_append_right (by rw [h.1];omega),h.1];exact e1,e2⟩
theorem RKV.listed (h:RKV H kvs rs):(kvs.map fun kv=>kV kv.1)=(rs.map (·.1)).map fun e:Nat=>V.int (e:Int):=by
  have:=congrArg (List.map kV) h.keys
  rw [List.map_map,List.map_map] at this
  rw [List.map_map]
  exact this
end
end Rc
namespace Rc
open PySem PySem.Spec PyProof.Rows L2
theorem NewV.val {F:Hp} {kvs:List (Key×V)} {k:Key} {a:Addr} (h:NewV F kvs) (hv:valV kvs k=some (.ref a)):F a=none:=by
  unfold valV at hv
  obtain ⟨kv,hf,e⟩:=Option.map_eq_some_iff.mp hv
  obtain ⟨b,e2,hb⟩:=h kv (List.mem_of_find?_eq_some hf)
  rw [e] at e2
  cases e2
  exact hb
theorem NewV.app {F:Hp} {kvs kvs':List (Key×V)} (h:NewV F kvs) (h':NewV F kvs'):NewV F (kvs ++ kvs'):=fun kv hkv=>(List.mem_append.mp hkv).elim (h kv) (h' kv)
theorem RoadsP.lens {cs:List Row} {ls acc:List Int} {n:Nat} {rs:List (Nat×List Int)} {es:List Nat} (P:RoadsP cs ls acc n rs es) {q:Nat×List Int} (hq:q∈rs):q.2.length≤n+1:=by
  obtain ⟨j,hj,hmin⟩:=P.road q hq
  have hl:=(P.key q.1).mp (List.mem_map.mpr ⟨q,hq,rfl⟩)
  rw [hj.len]
  rcases Nat.lt_or_ge n j with h1 | h1
  · exact absurd hl (hmin n h1)
  · omega
theorem LongerP.len {cs:List Row} {acc:List Int} {rs rs':List (Nat×List Int)} {dn:Nat→Int→Prop} (h:LongerP cs acc rs dn rs'):rs'.length≤cs.length:=by
  have:=nodup_lt h.nd fun x hx=>by
    obtain ⟨q,hq,rfl⟩:=List.mem_map.mp hx
    exact (h.src q hq).1
  rwa [List.length_map] at this
end Rc
namespace Rc
open PySem PySem.Spec PyProof.Rows L2
section
variable {cs:List Row} {ls acc:List Int}
end
end Rc
namespace Rc
open PySem PySem.Spec PyProof.Rows L2
section
variable {cs:List Row} {ls acc:List Int}
end
end Rc
namespace Rc
open PySem PySem.Spec PyProof.Rows L2
end Rc
namespace Rc
open PySem PySem.Spec PyProof.Rows L2 PySem.Calls PyProof.V PySem.SeqAt
section
variable {K:Frag} {H H':Hp} {v:V} {vs us:List V} {ws ts:List Vw}
end
end Rc
namespace Rc
open PySem PySem.Spec PyProof.Rows L2 PySem.Calls PyProof.V PySem.SeqAt
def putR (rs:List (Nat×List Int)) (k:Nat) (r:List Int):List (Nat×List Int):=if k∈rs.map (·.1) then rs.map (fun q=>if q.1=k then (k,r) else q) else rs ++ [(k,r)]
theorem RKV.putE {H:Hp} {kvs:List (Key×V)} {rs:List (Nat×List Int)} {k:Nat} {r:List Int} {a:Addr} (h:RKV H kvs rs) (nd:(rs.map (·.1)).Nodup) (ha:H a=some (.lst (r.map V.int))) :
    RKV H (putK kvs (Sum.inl (k:Int)) (.ref a)) (putR rs k r)∧((putR rs k r).map (·.1)).Nodup∧(∀ q∈putR rs k r,q=(k,r)∨q∈rs)∧k∈(putR rs k r).map (·.1)∧∀ j∈rs.map (·.1),j∈(putR rs k r).map (·.1):=by
  by_cases hk:k∈rs.map (·.1)
  · have hk2:(kvs.any fun kv=>decide (kv.1=Sum.inl (k:Int)))=true:=by
      obtain ⟨q,hq,e⟩:=List.mem_map.mp hk
      have:=h.key.mpr ⟨q,hq,rfl⟩
      obtain ⟨kv,hkv,e2⟩:=List.mem_map.mp this
      rw [List.any_eq_true]
      exact ⟨kv,hkv,decide_eq_true (by rw [e2,e])⟩
    have ek:(rs.map fun q=>if q.1=k then (k,r) else q).map (·.1)=rs.map (·.1):=by
      rw [List.map_map]
      refine List.map_congr_left fun q _=>?_
      show (if q.1=k then (k,r) else q).1=q.1
      split
      · rename_i e;exact e.symm
      · rfl
    unfold putR
    rw [if_pos hk]
    refine ⟨⟨?_,fun i q e=>?_⟩,by rw [ek];exact nd,fun q hq=>?_,by rw [ek];exact hk,fun j hj=>by rw [ek];exact hj⟩
    · unfold putK;rw [if_pos hk2,List.length_map,List.length_map,h.1]
    · rw [List.getElem?_map] at e
      obtain ⟨q0,h0,rfl⟩:=Option.map_eq_some_iff.mp e
      obtain ⟨b,f1,f2⟩:=h.2 i q0 h0
      unfold putK
      rw [if_pos hk2,List.getElem?_map,f1]
      by_cases e0:q0.1=k
      · exact ⟨a,by simp [e0],by rw [if_pos e0];exact ha⟩
      · refine ⟨b,?_,by rw [if_neg e0];exact f2⟩
        have:¬ (Sum.inl (q0.1:Int):Key)=Sum.inl (k:Int):=fun z=>e0 (by have:=Sum.inl.inj z;omega)
        simp [e0,this]
    · obtain ⟨q0,h0,e⟩:=List.mem_map.mp hq
      split at e
      · exact .inl e.symm
      · exact .inr (e ▸ h0)
  · have hk2:(Sum.inl (k:Int):Key)∉kvs.map (·.1):=fun z=>by
      obtain ⟨q,hq,e⟩:=h.key.mp z
      have:=Sum.inl.inj e
      exact hk (List.mem_map.mpr ⟨q,hq,by omega⟩)
    unfold putR
    rw [if_neg hk]
    refine ⟨by rw [putK_new _ (valV_no hk2)];exact h.snoc ha,?_,fun q hq=>?_,by rw [List.map_append];simp,fun j hj=>by rw [List.map_append];exact List.mem_append_left _ hj⟩
    · rw [List.map_append]
      refine List.pairwise_append.mpr ⟨nd,by simp,fun x hx y hy=>?_⟩
      simp at hy
      exact fun z=>hk (by rw [← hy,← z];exact hx)
    · rcases List.mem_append.mp hq with hq | hq
      · exact .inr hq
      · exact .inl (List.mem_singleton.mp hq)
def lookR (rs:List (Nat×List Int)) (e:Nat):List Int:=((rs.find? fun q=>decide (q.1=e)).map (·.2)).getD []
theorem lookR_mem:∀ {rs:List (Nat×List Int)} {e:Nat} {r:List Int},(rs.map (·.1)).Nodup→(e,r)∈rs→lookR rs e=r
  | [],_,_,_,h=>by simp at h
  | q :: rs,e,r,nd,h=>by
    rw [List.map_cons,List.nodup_cons] at nd
    unfold lookR
    rw [List.find?_cons]
    rcases List.mem_cons.mp h with rfl | h
    · simp
    · have n:q.1≠e:=fun z=>nd.1 (List.mem_map.mpr ⟨_,h,z.symm⟩)
      rw [decide_eq_false n]
      exact lookR_mem nd.2 h
theorem foldl_take {α β:Type} {f:β→α→β} {b:β} {xs:List α} {i:Nat} {x:α} (h:xs[i]? = some x):(xs.take (i+1)).foldl f b=f ((xs.take i).foldl f b) x:=by
  rw [take_snoc h,List.foldl_append];rfl
def longK (rs:List (Nat×List Int)) (e:Nat) (out:List (Nat×List Int)) (x:Int):List (Nat×List Int):=if x.toNat∈rs.map (·.1) then out else putR out x.toNat (lookR rs e ++ [x])
def longE (cs:List Row) (acc:List Int) (rs out:List (Nat×List Int)) (e:Nat):List (Nat×List Int):=(onwL cs acc e).foldl (longK rs e) out
def longR (cs:List Row) (acc:List Int) (rs:List (Nat×List Int)) (es:List Nat):List (Nat×List Int):=es.foldl (longE cs acc rs) []
def runR (cs:List Row) (ls acc:List Int):Nat→List (Nat×List Int)×List Nat
  | 0=>(firstR cs ls acc cs.length,(firstR cs ls acc cs.length).map (·.1))
  | n+1=>((runR cs ls acc n).1 ++ longR cs acc (runR cs ls acc n).1 (runR cs ls acc n).2,(longR cs acc (runR cs ls acc n).1 (runR cs ls acc n).2).map (·.1))
def RoadP (cs:List Row) (ls acc:List Int) (c:Nat) (rd:List Int):Prop:=∃ n,(∀ m,m < n→c∉(runR cs ls acc m).1.map (·.1))∧((runR cs ls acc n).1.map (·.1)).Nodup∧(c,rd)∈(runR cs ls acc n).1
theorem RoadP.one {cs:List Row} {ls acc:List Int} {c:Nat} {rd rd':List Int} (h:RoadP cs ls acc c rd) (h':RoadP cs ls acc c rd'):rd=rd':=by
  obtain ⟨n,a1,a2,a3⟩:=h
  obtain ⟨m,b1,b2,b3⟩:=h'
  have e1:¬ n < m:=fun z=>b1 n z (List.mem_map.mpr ⟨_,a3,rfl⟩)
  have e2:¬ m < n:=fun z=>a1 m z (List.mem_map.mpr ⟨_,b3,rfl⟩)
  have e:n=m:=by omega
  subst e
  rw [← lookR_mem a2 a3,lookR_mem a2 b3]
def askS (cs:List Row) (ls:List Int) (p:List (Int×Int)×List Int) (j:Nat):List (Int×Int)×List Int:=(p.1 ++ [((j:Int),(askL cs ls p.2).getD j 0)],p.2.set j ((askL cs ls p.2).getD j 0))
def runS (cs:List Row) (ls:List Int):Nat→List (Int×Int)×List Int
  | 0=>([],List.replicate cs.length 0)
  | n+1=>(waitL cs ls (runS cs ls n).2).foldl (askS cs ls) (runS cs ls n)
def StP (cs:List Row) (ls:List Int) (st:List (Int×Int)):Prop:=∃ n,(runS cs ls n).1=st∧waitL cs ls (runS cs ls n).2=[]
theorem runS_stay {cs:List Row} {ls:List Int} {n:Nat} (h:waitL cs ls (runS cs ls n).2=[]):∀ k,runS cs ls (n+k)=runS cs ls n
  | 0=>rfl
  | k+1=>by
    show (waitL cs ls (runS cs ls (n+k)).2).foldl (askS cs ls) (runS cs ls (n+k))=_
    rw [runS_stay h k,h];rfl
theorem StP.one {cs:List Row} {ls:List Int} {st st':List (Int×Int)} (h:StP cs ls st) (h':StP cs ls st'):st=st':=by
  obtain ⟨n,rfl,a⟩:=h
  obtain ⟨m,rfl,b⟩:=h'
  rcases Nat.le_total n m with z | z
  · rw [← runS_stay a (m - n),show n+(m - n)=m by omega]
  · rw [← runS_stay b (n - m),show m+(n - m)=n by omega]
def FallP (h:Nat) (cs:List Row) (ls:List Int) (j f:Nat):Prop:=f < h∧keptL cs (moreL ls j 1) (leastL cs (moreL ls j 1))=moreL (keptL cs ls (leastL cs ls)) f 1
theorem FallP.one {h:Nat} {cs:List Row} {ls:List Int} {j f f':Nat} (hl:ls.length=h) (a:FallP h cs ls j f) (b:FallP h cs ls j f'):f=f':=by
  have e:moreL (keptL cs ls (leastL cs ls)) f 1=moreL (keptL cs ls (leastL cs ls)) f' 1:=a.2.symm.trans b.2
  have kl:=keptL_len cs ls (leastL cs ls)
  have a1:=a.1
  have b1:=b.1
  generalize keptL cs ls (leastL cs ls)=k at *
  refine Classical.byContradiction fun n=>?_
  have:=congrArg (fun l=>l.getD f 0) e
  unfold moreL at this
  simp only [List.getD_eq_getElem?_getD] at this
  rw [List.getElem?_set_self (by omega),List.getElem?_set_ne (fun z=>n z.symm)] at this
  simp only [Option.getD_some] at this
  omega
def RoadO (cs:List Row) (ls:List Int) (c:Nat):Option (List Int)→Prop
  | none=>(leastL cs ls).getD c 0=0
  | some rd=>0 < (leastL cs ls).getD c 0∧RoadP cs ls (leastL cs ls) c rd
theorem RoadO.one {cs:List Row} {ls:List Int} {c:Nat}:∀ {a b:Option (List Int)},RoadO cs ls c a→RoadO cs ls c b→a=b
  | none,none,_,_=>rfl
  | none,some _,h,h'=>by have h1:(leastL cs ls).getD c 0=0:=h;have:=h'.1;omega
  | some _,none,h,h'=>by have h1:(leastL cs ls).getD c 0=0:=h';have:=h.1;omega
  | some _,some _,h,h'=>by rw [h.2.one h'.2]
def optD:Option (List Int)→PyData
  | none=>.none
  | some l=>.list (l.map PyData.int)
def vdat (cs:List Row) (ls:List Int) (h:Nat) (st:List (Int×Int)) (two:List Nat) (three:List (Option (List Int))):PyData:=
  .tuple [.tuple [.list ((leastL cs ls).map PyData.int),.list ((comeL cs ls (mostsL cs)).map PyData.int),.list ((spinL cs ls).map PyData.int),.list (st.map pairD),.list ((keptL cs ls (leastL cs ls)).map PyData.int)],
    .list ((two.map fun f:Nat=>(f:Int)).map PyData.int),.list (three.map optD),.list ((hangL cs ls (h - 1)).map PyData.int)]
structure ViewP (cs:List Row) (ls:List Int) (h:Nat) (st:List (Int×Int)) (two:List Nat) (three:List (Option (List Int))):Prop where
  s:StP cs ls st
  l2:two.length=min 2 h
  t:∀ i f,two[i]? = some f→FallP h cs ls i f
  l3:three.length=min 3 cs.length
  r:∀ i o,three[i]? = some o→RoadO cs ls i o
theorem ViewP.one {cs:List Row} {ls:List Int} {h:Nat} {st st':List (Int×Int)} {two two':List Nat} {three three':List (Option (List Int))} (hl:ls.length=h) (a:ViewP cs ls h st two three) (b:ViewP cs ls h st' two' three'):vdat cs ls h st two three=vdat cs ls h st' two' three':=by
  have e1:=a.s.one b.s
  have e2:two=two':=List.ext_getElem (by rw [a.l2,b.l2]) fun i h1 h2=>(a.t i _ (List.getElem?_eq_getElem h1)).one hl (b.t i _ (List.getElem?_eq_getElem h2))
  have e3:three=three':=List.ext_getElem (by rw [a.l3,b.l3]) fun i h1 h2=>(a.r i _ (List.getElem?_eq_getElem h1)).one (b.r i _ (List.getElem?_eq_getElem h2))
  rw [e1,e2,e3]
mutual
theorem dv_up {K:Frag} {H H':Hp} (s:Same H H'):∀ {v:V} {d:PyData},DV K H v d→DV K H' v d
  | _,_,.non=>.non
  | _,_,.bl b=>.bl b
  | _,_,.int i=>.int i
  | _,_,.str x=>.str x
  | _,_,.lst h t=>.lst (s.seq h) (dvs_up s t)
  | _,_,.tup h t=>.tup (s.tupS h) (dvs_up s t)
theorem dvs_up {K:Frag} {H H':Hp} (s:Same H H'):∀ {vs:List V} {ds:List PyData},DVs K H vs ds→DVs K H' vs ds
  | _,_,.nil=>.nil
  | _,_,.cons h t=>.cons (dv_up s h) (dvs_up s t)
end
theorem DVs.app {K:Frag} {H:Hp} {us:List V} {es:List PyData}:∀ {vs:List V} {ds:List PyData},DVs K H vs ds→DVs K H us es→DVs K H (vs ++ us) (ds ++ es)
  | _,_,.nil,g=>g
  | _,_,.cons h t,g=>.cons h (DVs.app t g)
theorem lay_opts:∀ t:List (Option (List Int)),PyData.canLayAll0 (t.map optD)=true
  | []=>by simp [PyData.canLayAll0]
  | none :: r=>by simp [PyData.canLayAll0,PyData.canLay0,optD,lay_opts r]
  | some _ :: r=>by simp [PyData.canLayAll0,PyData.canLay0,optD,lay_opts r,lay_ints]
theorem depth_opts:∀ t:List (Option (List Int)),PyData.depthAll (t.map optD)≤4
  | []=>by simp [PyData.depthAll]
  | none :: r=>by have:=depth_opts r;simp only [List.map_cons,PyData.depthAll,PyData.depth,optD];omega
  | some l :: r=>by have:=depth_opts r;have:=depth_ints l;simp only [List.map_cons,PyData.depthAll,PyData.depth,optD];omega
theorem noMix_opts:∀ t:List (Option (List Int)),noMixAll (t.map optD) (t.map optD)=true
  | []=>by simp [noMixAll]
  | none :: r=>by simp [noMixAll,noMix,optD,noMix_opts r]
  | some l :: r=>by simp [noMixAll,noMix,optD,noMix_opts r,noMix_ints]
theorem vdat_ok (cs:List Row) (ls:List Int) (h:Nat) (st:List (Int×Int)) (two:List Nat) (three:List (Option (List Int))):shaped (vdat cs ls h st two three)=true∧noMix (vdat cs ls h st two three) (vdat cs ls h st two three)=true:=by
  unfold vdat
  generalize (leastL cs ls)=a1
  generalize (comeL cs ls (mostsL cs))=a2
  generalize (spinL cs ls)=a3
  generalize (keptL cs ls a1)=a4
  generalize (two.map fun f:Nat=>(f:Int))=a5
  generalize (hangL cs ls (h - 1))=a6
  constructor
  · rw [shaped,Bool.and_eq_true]
    have h1:=depth_ints a1
    have h2:=depth_ints a2
    have h3:=depth_ints a3
    have h4:=depth_ints a4
    have h5:=depth_ints a5
    have h6:=depth_ints a6
    have h7:=depth_opts three
    have h8:=depth_pairs st
    exact ⟨by simp [PyData.canLay0,PyData.canLayAll0,lay_ints,lay_pairs,lay_opts],decide_eq_true (by simp only [PyData.depth,PyData.depthAll];omega)⟩
  · simp [noMix,noMixAll,noMix_ints,noMix_pairs,noMix_opts]
theorem neD_view {K:Frag} {H:Hp} {Q:VK} {v u:V} {d d':PyData} (h1:DV K H v d) (h2:DV K H u d') (e:d=d') (ok:shaped d=true∧noMix d d=true) (q:Q (.bl false) H):rNeD K v u H Q:=by
  subst e
  exact ⟨_,_,h1,h2,ok.1,ok.1,ok.2,by rw [PySem.Spec.same_self];exact q⟩
theorem eqD_view {K:Frag} {H:Hp} {Q:VK} {v u:V} {d d':PyData} (h1:DV K H v d) (h2:DV K H u d') (e:d=d') (ok:shaped d=true∧noMix d d=true) (q:Q (.bl true) H):rEqD K v u H Q:=by
  subst e
  exact ⟨_,_,h1,h2,ok.1,ok.1,ok.2,by rw [PySem.Spec.same_self];exact q⟩
inductive OptsR (D:Addr) (H:Hp):List V→List (Option (List Int))→Prop
  | nil:OptsR D H [] []
  | non {vs:List V} {ts:List (Option (List Int))}:OptsR D H vs ts→OptsR D H (vs ++ [.non]) (ts ++ [none])
  | lst {vs:List V} {ts:List (Option (List Int))} {a:Addr} {l:List Int}:OptsR D H vs ts→a≠D→H a=some (.lst (l.map V.int))→OptsR D H (vs ++ [.ref a]) (ts ++ [some l])
theorem OptsR.same {D:Addr} {H H':Hp} {vs:List V} {ts:List (Option (List Int))} (s:Same H H') (h:OptsR D H vs ts):OptsR D H' vs ts:=by
  induction h with
  | nil=>exact .nil
  | non _ i=>exact .non i
  | lst _ n e i=>exact .lst i n (s _ _ e)
theorem OptsR.updD {D:Addr} {H:Hp} {o:HO} {vs:List V} {ts:List (Option (List Int))} (h:OptsR D H vs ts):OptsR D (upd H D o) vs ts:=by
  induction h with
  | nil=>exact .nil
  | non _ i=>exact .non i
  | lst _ n e i=>exact .lst i n (by rw [upd_ne n];exact e)
theorem OptsR.dvs {K:Frag} {D:Addr} {H:Hp} {vs:List V} {ts:List (Option (List Int))} (h:OptsR D H vs ts):DVs K H vs (ts.map optD):=by
  induction h with
  | nil=>exact .nil
  | non _ i=>rw [List.map_append];exact DVs.app i (.cons .non .nil)
  | lst _ n e i=>rw [List.map_append];exact DVs.app i (.cons (.lst (SqL.of e) (.ints _)) .nil)
theorem at_snoc {α:Type} {p:Nat→α→Prop} {xs:List α} {x:α} (h:∀ i y,xs[i]? = some y→p i y) (hx:p xs.length x):∀ i y,(xs ++ [x])[i]? = some y→p i y:=fun i y e=>by
  by_cases hi:i < xs.length
  · rw [List.getElem?_append_left hi] at e;exact h i y e
  · have hlt:=get_lt e
    rw [List.length_append,List.length_singleton] at hlt
    have ei:i=xs.length:=by omega
    subst ei
    rw [List.getElem?_append_right (Nat.le_refl _),Nat.sub_self] at e
    cases (Option.some.inj e)
    exact hx
end Rc
namespace PySem.W.Fast
theorem tw16281558752584955566:True:=⟨⟩
theorem tw1433138258321944533:True:=⟨⟩
theorem tw16350061515352623163:True:=⟨⟩
theorem tw15793222838923372675:True:=⟨⟩
theorem tw248008371420943521:True:=⟨⟩
theorem tw3452434505940431664:True:=⟨⟩
theorem tw2298122376222715469:True:=⟨⟩
theorem tw15754413523983427336:True:=⟨⟩
theorem tw12869137559768545929:True:=⟨⟩
theorem tw15420950832629500170:True:=⟨⟩
theorem tw5918663969964321441:True:=⟨⟩
theorem tw8981791063877266061:True:=⟨⟩
theorem tw17534202293803153516:True:=⟨⟩
theorem tw15261085394536893815:True:=⟨⟩
theorem tw2585089745704588458:True:=⟨⟩
theorem tw2121650306369719040:True:=⟨⟩
theorem tw16394190717835864607:True:=⟨⟩
theorem tw2540625252668710177:True:=⟨⟩
theorem tw4204684329364748720:True:=⟨⟩
theorem tw9023131597734820827:True:=⟨⟩
theorem tw12467510117691929451:True:=⟨⟩
theorem tw8672746300716285412:True:=⟨⟩
theorem tw14558029443163075262:True:=⟨⟩
theorem tw12046364352109295080:True:=⟨⟩
theorem tw4013101881048134400:True:=⟨⟩
theorem tw2621735692489231911:True:=⟨⟩
theorem tw4928636959080866842:True:=⟨⟩
theorem tw13875054658124199360:True:=⟨⟩
theorem tw10382732502556978757:True:=⟨⟩
theorem tw10670875296068005294:True:=⟨⟩
theorem tw799283364274247909:True:=⟨⟩
theorem tw5248968172589810933:True:=⟨⟩
theorem tw5909383506397493943:True:=⟨⟩
theorem tw230599972378801542:True:=⟨⟩
theorem tw401460189391872597:True:=⟨⟩
theorem tw17401266143339596423:True:=⟨⟩
theorem tw6301488789451428300:True:=⟨⟩
theorem tw7858477288116684615:True:=⟨⟩
theorem tw11149442746242941715:True:=⟨⟩
theorem tw13217591586585065385:True:=⟨⟩
theorem tw8458348355443594656:True:=⟨⟩
theorem tw8147429664261574449:True:=⟨⟩
theorem tw10058019278342625910:True:=⟨⟩
theorem tw17572358912840316616:True:=⟨⟩
theorem tw382409218641784079:True:=⟨⟩
theorem tw2633274982386558742:True:=⟨⟩
theorem tw8858482985219753702:True:=⟨⟩
theorem tw13092082742433300455:True:=⟨⟩
theorem tw16568964555042019599:True:=⟨⟩
theorem tw17365725764159367690:True:=⟨⟩
theorem tw13009343036337705436:True:=⟨⟩
theorem tw8578935717417668372:True:=⟨⟩
theorem tw17433816732745803933:True:=⟨⟩
theorem tw4089669507100084708:True:=⟨⟩
theorem tw16721547220860804030:True:=⟨⟩
theorem tw2976286831534518463:True:=⟨⟩
theorem tw16101706139555200543:True:=⟨⟩
theorem tw2799095473206009312:True:=⟨⟩
theorem tw15662336790198782803:True:=⟨⟩
theorem tw10701604823058643628:True:=⟨⟩
theorem tw17193877653090220643:True:=⟨⟩
theorem tw545753201398029128:True:=⟨⟩
theorem tw15724542217430134993:True:=⟨⟩
theorem tw12769165713725825245:True:=⟨⟩
theorem tw798828412268004424:True:=⟨⟩
theorem tw892514574943754077:True:=⟨⟩
theorem tw3330661208544539663:True:=⟨⟩
theorem tw1782253487673308489:True:=⟨⟩
theorem tw15572501012103245253:True:=⟨⟩
theorem tw9268771376099533915:True:=⟨⟩
theorem tw9005209045516634909:True:=⟨⟩
theorem tw15996998415746736828:True:=⟨⟩
theorem tw6133208337932151407:True:=⟨⟩
theorem tw1312875708126237644:True:=⟨⟩
theorem tw4846953262661138758:True:=⟨⟩
theorem tw7259566524438186048:True:=⟨⟩
theorem tw3762665041457437631:True:=⟨⟩
theorem tw2339147938744717699:True:=⟨⟩
theorem tw12960718557333484005:True:=⟨⟩
theorem tw6913393833885592996:True:=⟨⟩
theorem tw2731649510129249750:True:=⟨⟩
theorem tw15265979253522367299:True:=⟨⟩
theorem tw14303279100087064337:True:=⟨⟩
theorem tw18266166934140884218:True:=⟨⟩
theorem tw18045690190556765934:True:=⟨⟩
theorem tw8341400744083722324:True:=⟨⟩
theorem tw2446461860802286365:True:=⟨⟩
theorem tw6983878603304044216:True:=⟨⟩
theorem tw14250740181584645688:True:=⟨⟩
theorem tw5184911346220191560:True:=⟨⟩
theorem tw14167291928042041458:True:=⟨⟩
theorem tw7861780579116647204:True:=⟨⟩
theorem tw1725445444045946396:True:=⟨⟩
theorem tw12370228555444516656:True:=⟨⟩
theorem tw1941985391904774153:True:=⟨⟩
theorem tw13499691807916288957:True:=⟨⟩
theorem tw8748212742729257026:True:=⟨⟩
theorem tw4051092404374359665:True:=⟨⟩
theorem tw15422808806172430480:True:=⟨⟩
theorem tw2539862455208628481:True:=⟨⟩
theorem tw1295597913926235860:True:=⟨⟩
theorem tw8733808772285066561:True:=⟨⟩
theorem tw2693152421722960136:True:=⟨⟩
theorem tw5659429803867318971:True:=⟨⟩
theorem tw13159983270965644952:True:=⟨⟩
theorem tw7023531210175143945:True:=⟨⟩
theorem tw4626241452139593996:True:=⟨⟩
theorem tw7041819686464665065:True:=⟨⟩
theorem tw4051027038555888049:True:=⟨⟩
theorem tw17962489227307754631:True:=⟨⟩
theorem tw11525213743861326381:True:=⟨⟩
theorem tw1711194431473673679:True:=⟨⟩
theorem tw893219759122741141:True:=⟨⟩
theorem tw2758381092081183081:True:=⟨⟩
theorem tw6982670007555790801:True:=⟨⟩
theorem tw15517195695471928721:True:=⟨⟩
theorem tw4630553584688112687:True:=⟨⟩
theorem tw1244334078951833544:True:=⟨⟩
theorem tw16340128562730081600:True:=⟨⟩
theorem tw14029503799857826633:True:=⟨⟩
theorem tw14706042677673470277:True:=⟨⟩
theorem tw14233798466448285085:True:=⟨⟩
theorem tw2193610886421931543:True:=⟨⟩
theorem tw7103463016511789304:True:=⟨⟩
theorem tw17666703669352215724:True:=⟨⟩
theorem tw12344222298015350876:True:=⟨⟩
theorem tw13125547346359271673:True:=⟨⟩
theorem tw2577579950441205739:True:=⟨⟩
theorem tw9220589468597976249:True:=⟨⟩
theorem tw14838485785770140946:True:=⟨⟩
theorem tw15902797225416147466:True:=⟨⟩
theorem tw4689576587048697710:True:=⟨⟩
theorem tw5121834801668728777:True:=⟨⟩
theorem tw8196076236413008064:True:=⟨⟩
theorem tw4639407433062027312:True:=⟨⟩
theorem tw15822447845427209997:True:=⟨⟩
theorem tw1341808627829043973:True:=⟨⟩
theorem tw15094897388722531043:True:=⟨⟩
theorem tw8544367075801387778:True:=⟨⟩
theorem tw17246713179687128867:True:=⟨⟩
theorem tw11079290215884850690:True:=⟨⟩
theorem tw7457237664962141798:True:=⟨⟩
theorem tw17449312793995667769:True:=⟨⟩
theorem tw9921315759939127007:True:=⟨⟩
theorem tw5450861594911540316:True:=⟨⟩
theorem tw7509914953907693024:True:=⟨⟩
theorem tw7880417103539235662:True:=⟨⟩
theorem tw686632830367417119:True:=⟨⟩
theorem tw14326244098090591332:True:=⟨⟩
theorem tw1366818361726077579:True:=⟨⟩
theorem tw48515314138459592:True:=⟨⟩
theorem tw2027934992473612407:True:=⟨⟩
theorem tw8307191222890862903:True:=⟨⟩
theorem tw4282805977525737979:True:=⟨⟩
theorem tw3835043144167075595:True:=⟨⟩
theorem tw12056458691214782875:True:=⟨⟩
theorem tw808826463111849176:True:=⟨⟩
theorem tw15359560765096498104:True:=⟨⟩
theorem tw4984642874183385684:True:=⟨⟩
theorem tw3324678118286780468:True:=⟨⟩
theorem tw5700874467045340035:True:=⟨⟩
theorem tw16412846336936980313:True:=⟨⟩
theorem tw12269633067712244556:True:=⟨⟩
theorem tw11302226049055040210:True:=⟨⟩
theorem tw4918150561868651412:True:=⟨⟩
theorem tw2745935164582488233:True:=⟨⟩
theorem tw2215021287365240115:True:=⟨⟩
theorem tw14943055991626928016:True:=⟨⟩
theorem tw1032636921982837472:True:=⟨⟩
theorem tw3575078506765404837:True:=⟨⟩
theorem tw3064997832554530265:True:=⟨⟩
theorem tw14694717112835274544:True:=⟨⟩
theorem tw11782604559731380502:True:=⟨⟩
theorem tw4728979524699888510:True:=⟨⟩
theorem tw16521848762101379166:True:=⟨⟩
theorem tw7324639463222456480:True:=⟨⟩
theorem tw11225002636615063268:True:=⟨⟩
theorem tw4896798962766152635:True:=⟨⟩
theorem tw12569631177030404625:True:=⟨⟩
theorem tw1217297314250891120:True:=⟨⟩
theorem tw17771189913201487240:True:=⟨⟩
theorem tw7362870476616806153:True:=⟨⟩
theorem tw7628552684583439164:True:=⟨⟩
theorem tw11715887629583219152:True:=⟨⟩
theorem tw11209736842586736786:True:=⟨⟩
theorem tw9827315028617947421:True:=⟨⟩
theorem tw18271463452200705318:True:=⟨⟩
theorem tw8561496013950188180:True:=⟨⟩
theorem tw9474900964135595870:True:=⟨⟩
theorem tw6492895260829946237:True:=⟨⟩
theorem tw3431446044569252948:True:=⟨⟩
theorem tw1910447369372478068:True:=⟨⟩
theorem tw1841388153328991910:True:=⟨⟩
theorem tw17610644134057574648:True:=⟨⟩
theorem tw153193775089937576:True:=⟨⟩
theorem tw9514471385536359484:True:=⟨⟩
theorem tw7189700288385893627:True:=⟨⟩
theorem tw9464871484017619158:True:=⟨⟩
theorem tw8289027149434018059:True:=⟨⟩
theorem tw7367731526941283555:True:=⟨⟩
theorem tw6141348455130809889:True:=⟨⟩
theorem tw269098122481336059:True:=⟨⟩
theorem tw3516684005252594749:True:=⟨⟩
theorem tw3636115293011886006:True:=⟨⟩
theorem tw215068851333161507:True:=⟨⟩
theorem tw17979181694010168327:True:=⟨⟩
theorem tw3783791952296337283:True:=⟨⟩
theorem tw4497859152948979200:True:=⟨⟩
theorem tw1986494612017927305:True:=⟨⟩
theorem tw5279309704562082857:True:=⟨⟩
theorem tw8684696383543755418:True:=⟨⟩
theorem tw11345931084316846518:True:=⟨⟩
theorem tw4102380738635664743:True:=⟨⟩
theorem tw13504694478293159361:True:=⟨⟩
theorem tw6807232949462287818:True:=⟨⟩
theorem tw16761975289935684465:True:=⟨⟩
theorem tw2250658980776077577:True:=⟨⟩
theorem tw5003499820525184640:True:=⟨⟩
theorem tw6832030308494880756:True:=⟨⟩
theorem tw561327780342861080:True:=⟨⟩
theorem tw1127013819490998987:True:=⟨⟩
theorem tw10140271048998345080:True:=⟨⟩
theorem tw15638530751150252628:True:=⟨⟩
theorem tw1398122189005523050:True:=⟨⟩
theorem tw16054181458422756039:True:=⟨⟩
theorem tw17547238730921736343:True:=⟨⟩
theorem tw17096099856543069257:True:=⟨⟩
theorem tw15090655515658503808:True:=⟨⟩
theorem tw15177225791105548992:True:=⟨⟩
theorem tw15129148588956209792:True:=⟨⟩
theorem tw1062094646587004243:True:=⟨⟩
theorem tw3881455314922717346:True:=⟨⟩
theorem tw8236591929467957917:True:=⟨⟩
theorem tw964924788731018274:True:=⟨⟩
theorem tw8640117893688939062:True:=⟨⟩
theorem tw7100715328242118201:True:=⟨⟩
theorem tw8693112453476331362:True:=⟨⟩
theorem tw14128330998239749717:True:=⟨⟩
theorem tw872564132046238154:True:=⟨⟩
theorem tw8642527506065965110:True:=⟨⟩
theorem tw5351669903720545549:True:=⟨⟩
theorem tw14102392110598750805:True:=⟨⟩
theorem tw15127029918333632622:True:=⟨⟩
theorem tw6700850096817519044:True:=⟨⟩
theorem tw17285668873930724927:True:=⟨⟩
theorem tw18370265976665170306:True:=⟨⟩
theorem tw9779723854970341119:True:=⟨⟩
theorem tw87897300707254689:True:=⟨⟩
theorem tw12913304400027379755:True:=⟨⟩
theorem tw763727077203805236:True:=⟨⟩
theorem tw655705060689495917:True:=⟨⟩
theorem tw14858742109903446743:True:=⟨⟩
theorem tw13315195559152672797:True:=⟨⟩
theorem tw14926254626121564737:True:=⟨⟩
theorem tw4893185338489012815:True:=⟨⟩
theorem tw561414292412819777:True:=⟨⟩
theorem tw217076894594240981:True:=⟨⟩
theorem tw1936136485120685301:True:=⟨⟩
theorem tw1396063218182566732:True:=⟨⟩
theorem tw5299059317983775339:True:=⟨⟩
theorem tw17352610768598613685:True:=⟨⟩
theorem tw4989832065491098425:True:=⟨⟩
theorem tw12790703800997131233:True:=⟨⟩
theorem tw16026073695949881246:True:=⟨⟩
theorem tw15343645558641293504:True:=⟨⟩
theorem tw6559743667806705481:True:=⟨⟩
theorem tw1515898048686300321:True:=⟨⟩
theorem tw5675927431925802219:True:=⟨⟩
theorem tw15010323148837929258:True:=⟨⟩
theorem tw13140205344825564203:True:=⟨⟩
theorem tw17454323716879663518:True:=⟨⟩
theorem tw5187967854417721128:True:=⟨⟩
theorem tw3957391662083444943:True:=⟨⟩
theorem tw2553659638877328377:True:=⟨⟩
theorem tw2487110702502439093:True:=⟨⟩
theorem tw5996834663633258448:True:=⟨⟩
theorem tw5836155098507277624:True:=⟨⟩
theorem tw2922008730401853703:True:=⟨⟩
theorem tw18302704565174993186:True:=⟨⟩
theorem tw3765891008081520323:True:=⟨⟩
theorem tw12770144094090600569:True:=⟨⟩
theorem tw12289965704954717429:True:=⟨⟩
theorem tw8077815492060138083:True:=⟨⟩
theorem tw6593037886487081250:True:=⟨⟩
theorem tw16680662087807466421:True:=⟨⟩
theorem tw1521427626249031660:True:=⟨⟩
theorem tw9111181474462903567:True:=⟨⟩
theorem tw11459170337752260706:True:=⟨⟩
theorem tw7937640246526557314:True:=⟨⟩
theorem tw17507519982768063285:True:=⟨⟩
theorem tw1649522908755408334:True:=⟨⟩
theorem tw16179784172194503119:True:=⟨⟩
theorem tw12965123662158044423:True:=⟨⟩
theorem tw10906011588037986191:True:=⟨⟩
theorem tw10954574074928876648:True:=⟨⟩
theorem tw16943738694712834919:True:=⟨⟩
theorem tw5087006742888858333:True:=⟨⟩
theorem tw365396222938154671:True:=⟨⟩
theorem tw244886119902478306:True:=⟨⟩
theorem tw12838821861119016858:True:=⟨⟩
theorem tw9795269592783044738:True:=⟨⟩
theorem tw7793140900355779563:True:=⟨⟩
theorem tw16550614332897667348:True:=⟨⟩
theorem tw1911432336269715055:True:=⟨⟩
theorem tw7091979608251311828:True:=⟨⟩
theorem tw14246707429050657448:True:=⟨⟩
theorem tw14206514437485970055:True:=⟨⟩
theorem tw14379219101025984505:True:=⟨⟩
theorem tw14825524473498991165:True:=⟨⟩
theorem tw18023456130770382501:True:=⟨⟩
theorem tw6012348914651969012:True:=⟨⟩
theorem tw18400827601621547872:True:=⟨⟩
theorem tw2219099495906003265:True:=⟨⟩
theorem tw4868631206596416140:True:=⟨⟩
theorem tw16101212807387773782:True:=⟨⟩
theorem tw10545396744763042393:True:=⟨⟩
theorem tw7164835050694782424:True:=⟨⟩
theorem tw15482375093708100133:True:=⟨⟩
theorem tw6917985757813918510:True:=⟨⟩
theorem tw16321156232803179552:True:=⟨⟩
theorem tw10212242069943426701:True:=⟨⟩
theorem tw11689081525282031426:True:=⟨⟩
theorem tw10172469182143933412:True:=⟨⟩
theorem tw3092909499743203687:True:=⟨⟩
theorem tw17148809786522072142:True:=⟨⟩
theorem tw14769082759515692885:True:=⟨⟩
theorem tw956924134408603456:True:=⟨⟩
theorem tw17854513753584862797:True:=⟨⟩
theorem tw1210451638805256381:True:=⟨⟩
theorem tw1882716702287621766:True:=⟨⟩
theorem tw6601021637214431639:True:=⟨⟩
theorem tw5325608384240035809:True:=⟨⟩
theorem tw5143250042067841358:True:=⟨⟩
theorem tw2614792991859596561:True:=⟨⟩
theorem tw2515476053843744628:True:=⟨⟩
theorem tw17980920544531688648:True:=⟨⟩
theorem tw16398975100558573037:True:=⟨⟩
theorem tw15257999661387172110:True:=⟨⟩
theorem tw11668593309083160769:True:=⟨⟩
theorem tw10336944815849440979:True:=⟨⟩
theorem tw5975215958075443545:True:=⟨⟩
theorem tw4144119035529639015:True:=⟨⟩
theorem tw3991293587194094363:True:=⟨⟩
theorem tw10544894017594356859:True:=⟨⟩
theorem tw4982861445961329364:True:=⟨⟩
theorem tw14565142459125451112:True:=⟨⟩
theorem tw11376599873562967509:True:=⟨⟩
theorem tw10850491240922666719:True:=⟨⟩
theorem tw10931965747535910641:True:=⟨⟩
theorem tw5379183454475384673:True:=⟨⟩
theorem tw13978819188405409799:True:=⟨⟩
theorem tw12971585003210793394:True:=⟨⟩
theorem tw6848767917922587925:True:=⟨⟩
theorem tw6523760416242478478:True:=⟨⟩
theorem tw4941052643440165639:True:=⟨⟩
theorem tw14050718370935011412:True:=⟨⟩
theorem tw12442351205882107159:True:=⟨⟩
theorem tw16782948712782121385:True:=⟨⟩
theorem tw7354947443185589659:True:=⟨⟩
theorem tw9298964835846974703:True:=⟨⟩
theorem tw8558847113098933957:True:=⟨⟩
theorem tw7032389850892677416:True:=⟨⟩
theorem tw6840387826213822167:True:=⟨⟩
theorem tw6756517158001104667:True:=⟨⟩
theorem tw4159744685319779821:True:=⟨⟩
theorem tw3249454405624357713:True:=⟨⟩
theorem tw16179886848480917920:True:=⟨⟩
theorem tw15080201881504918670:True:=⟨⟩
theorem tw14240921173302295246:True:=⟨⟩
theorem tw10728694066973555418:True:=⟨⟩
theorem tw10687009791445586961:True:=⟨⟩
theorem tw8572723352825476468:True:=⟨⟩
theorem tw6067939602155407283:True:=⟨⟩
theorem tw5814532988547284893:True:=⟨⟩
theorem tw233357954880549860:True:=⟨⟩
theorem tw2225607493893673377:True:=⟨⟩
theorem tw18085018267175649861:True:=⟨⟩
theorem tw17890071716362859794:True:=⟨⟩
theorem tw17373782348988275776:True:=⟨⟩
theorem tw15575423321803670048:True:=⟨⟩
theorem tw14593694768957472238:True:=⟨⟩
theorem tw12393348153409618282:True:=⟨⟩
theorem tw10021490943003251269:True:=⟨⟩
theorem tw11242579575589708117:True:=⟨⟩
theorem tw11116791946274301120:True:=⟨⟩
theorem tw17781341675099978656:True:=⟨⟩
theorem tw8270454854589668504:True:=⟨⟩
theorem tw8172278799939942504:True:=⟨⟩
theorem tw6913940752945355927:True:=⟨⟩
theorem tw6441611750544528909:True:=⟨⟩
theorem tw4325263292660187022:True:=⟨⟩
theorem tw3249351198525169204:True:=⟨⟩
theorem tw18317695784561464456:True:=⟨⟩
theorem tw17858262317589778293:True:=⟨⟩
theorem tw16656128588653685884:True:=⟨⟩
theorem tw8581496020877001496:True:=⟨⟩
theorem tw8465933539591915258:True:=⟨⟩
theorem tw5742448654349651474:True:=⟨⟩
theorem tw5004746103500029977:True:=⟨⟩
theorem tw4906085803080285890:True:=⟨⟩
theorem tw3714027640097520005:True:=⟨⟩
theorem tw3290014590544585998:True:=⟨⟩
theorem tw18095045289043519450:True:=⟨⟩
theorem tw1687788790353167549:True:=⟨⟩
theorem tw15236385015965995230:True:=⟨⟩
theorem tw13257225977260380427:True:=⟨⟩
theorem tw13158425641244579475:True:=⟨⟩
theorem tw9953913211508165487:True:=⟨⟩
theorem tw9946585652632375641:True:=⟨⟩
theorem tw9805642664167380003:True:=⟨⟩
theorem tw9433446749960284278:True:=⟨⟩
theorem tw9409530569326229194:True:=⟨⟩
theorem tw9335565173383687270:True:=⟨⟩
theorem tw9191979565841855972:True:=⟨⟩
theorem tw9129946225167075954:True:=⟨⟩
theorem tw9078252897476607605:True:=⟨⟩
theorem tw899262216019933847:True:=⟨⟩
theorem tw8906276181126312767:True:=⟨⟩
theorem tw8803612418741873222:True:=⟨⟩
theorem tw8795778352852106278:True:=⟨⟩
theorem tw8789042910698707633:True:=⟨⟩
theorem tw8780231554272108643:True:=⟨⟩
theorem tw8665228250552929377:True:=⟨⟩
theorem tw8590311589034704944:True:=⟨⟩
theorem tw8374771370361652341:True:=⟨⟩
theorem tw8289332135174072619:True:=⟨⟩
theorem tw8288473705828045250:True:=⟨⟩
theorem tw8206074480458466072:True:=⟨⟩
theorem tw8132195667338893016:True:=⟨⟩
theorem tw7963293464113614487:True:=⟨⟩
theorem tw776232636101777427:True:=⟨⟩
theorem tw7673896756956982276:True:=⟨⟩
theorem tw7619831266442233593:True:=⟨⟩
theorem tw7588905528969266207:True:=⟨⟩
theorem tw758481255225276235:True:=⟨⟩
theorem tw7489900102926849239:True:=⟨⟩
theorem tw7441763816923699155:True:=⟨⟩
theorem tw737608993243947962:True:=⟨⟩
theorem tw7306634840215343937:True:=⟨⟩
theorem tw7162874633119829892:True:=⟨⟩
theorem tw6953886927753308092:True:=⟨⟩
theorem tw6716013829960992983:True:=⟨⟩
theorem tw6696881760221883340:True:=⟨⟩
theorem tw6601274351148759155:True:=⟨⟩
theorem tw6445231701897497959:True:=⟨⟩
theorem tw6388659723421652773:True:=⟨⟩
theorem tw6256130816680393741:True:=⟨⟩
theorem tw6172119832580905583:True:=⟨⟩
theorem tw6114727359520379968:True:=⟨⟩
theorem tw5598683325199443918:True:=⟨⟩
theorem tw5564471104128367506:True:=⟨⟩
theorem tw5518080766345835786:True:=⟨⟩
theorem tw5378455052643978966:True:=⟨⟩
theorem tw4826978078489784528:True:=⟨⟩
theorem tw4668972193331653400:True:=⟨⟩
theorem tw4547532017614243890:True:=⟨⟩
theorem tw435720863595989277:True:=⟨⟩
theorem tw4032292757866187330:True:=⟨⟩
theorem tw3994113903701883272:True:=⟨⟩
theorem tw3868086703736480660:True:=⟨⟩
theorem tw372736606643351629:True:=⟨⟩
theorem tw3599285364060202133:True:=⟨⟩
theorem tw3509895891030195019:True:=⟨⟩
theorem tw3467810509375551116:True:=⟨⟩
theorem tw3267269523420658891:True:=⟨⟩
theorem tw3212741379678391870:True:=⟨⟩
theorem tw3198242700573434622:True:=⟨⟩
theorem tw3008835885341840158:True:=⟨⟩
theorem tw2976810724692518315:True:=⟨⟩
theorem tw2791312261655428518:True:=⟨⟩
theorem tw2646339183021896835:True:=⟨⟩
theorem tw2519479234823514386:True:=⟨⟩
theorem tw2397931201532151480:True:=⟨⟩
theorem tw2359041304452955982:True:=⟨⟩
theorem tw2160396762250992809:True:=⟨⟩
theorem tw2050643965351747615:True:=⟨⟩
theorem tw2015607636307824263:True:=⟨⟩
theorem tw1986505345389442672:True:=⟨⟩
theorem tw18355192544955390990:True:=⟨⟩
theorem tw18261489738952943444:True:=⟨⟩
theorem tw18031188488311528690:True:=⟨⟩
theorem tw1795246983067126633:True:=⟨⟩
theorem tw17938025832393151992:True:=⟨⟩
theorem tw17877168700012457921:True:=⟨⟩
theorem tw17604537411687737358:True:=⟨⟩
theorem tw17568452603047405148:True:=⟨⟩
theorem tw17479364908201254336:True:=⟨⟩
theorem tw1747710780233142154:True:=⟨⟩
theorem tw17194744934916306578:True:=⟨⟩
theorem tw16869652278468690774:True:=⟨⟩
theorem tw16793234873111430606:True:=⟨⟩
theorem tw16745305708463245902:True:=⟨⟩
theorem tw16574521266773761744:True:=⟨⟩
theorem tw16478868012037210528:True:=⟨⟩
theorem tw16292066583033203065:True:=⟨⟩
theorem tw16259462304211325749:True:=⟨⟩
theorem tw16109442659539391252:True:=⟨⟩
theorem tw16026743316408909112:True:=⟨⟩
theorem tw15862944870220447987:True:=⟨⟩
theorem tw15625072991757482391:True:=⟨⟩
theorem tw15617611892292578198:True:=⟨⟩
theorem tw15437518155632423206:True:=⟨⟩
theorem tw15374996574199125916:True:=⟨⟩
theorem tw15173887077261613901:True:=⟨⟩
theorem tw15075569599760996661:True:=⟨⟩
theorem tw15074150303362325525:True:=⟨⟩
theorem tw14695161687434901293:True:=⟨⟩
theorem tw14362567551220862851:True:=⟨⟩
theorem tw14331602559367904782:True:=⟨⟩
theorem tw14317545203852109017:True:=⟨⟩
theorem tw14266234937270977100:True:=⟨⟩
theorem tw13926122735496214494:True:=⟨⟩
theorem tw13855268893692715336:True:=⟨⟩
theorem tw13782780148000992849:True:=⟨⟩
theorem tw13381006403895910456:True:=⟨⟩
theorem tw13351927858699955078:True:=⟨⟩
theorem tw13206148924651787195:True:=⟨⟩
theorem tw13152800073535806190:True:=⟨⟩
theorem tw13048789118948232766:True:=⟨⟩
theorem tw12859130181347998767:True:=⟨⟩
theorem tw12682070936949226641:True:=⟨⟩
theorem tw12584544474654619843:True:=⟨⟩
theorem tw11751957556358862133:True:=⟨⟩
theorem tw11637642951134550455:True:=⟨⟩
theorem tw11369973110365668495:True:=⟨⟩
theorem tw11262991915827149883:True:=⟨⟩
theorem tw11260507486252253920:True:=⟨⟩
theorem tw10836722986963678771:True:=⟨⟩
theorem tw10820048838492616746:True:=⟨⟩
theorem tw10690419048086455656:True:=⟨⟩
theorem tw10078237757407121394:True:=⟨⟩
theorem tw10066275553925996811:True:=⟨⟩
theorem tw1000992089805702278:True:=⟨⟩
end PySem.W.Fast
namespace Rc
open PySem PySem.Spec PyProof.Rows L2
def top (i:Nat):Stmt:=PySem.Challenge.pw_ringcede_k65_two_tables_by_turns.main.body.getD i (.Pass ⟨0,0,0,0⟩)
abbrev s__wall:Stmt:=top 0
abbrev s_is_lines:Stmt:=top 18
abbrev s_require_lines:Stmt:=top 19
abbrev s_next_place:Stmt:=top 20
abbrev s_bearers:Stmt:=top 21
abbrev s_parts:Stmt:=top 22
abbrev s_is_measure:Stmt:=top 26
abbrev s_are_others:Stmt:=top 27
abbrev s_is_cover:Stmt:=top 28
abbrev s_wish:Stmt:=top 29
abbrev s_take:Stmt:=top 30
abbrev s_require_houses:Stmt:=top 34
abbrev s_require_house:Stmt:=top 35
abbrev s_require_covers:Stmt:=top 36
abbrev s_require_losses:Stmt:=top 37
abbrev s_Table___init__:Stmt:=inClass (top 38) 0
abbrev s_Table_houses:Stmt:=inClass (top 38) 1
abbrev s_Table_covers:Stmt:=inClass (top 38) 2
abbrev s_Table_losses:Stmt:=inClass (top 38) 3
abbrev s_Table_mosts:Stmt:=inClass (top 38) 4
abbrev s_Table_more:Stmt:=inClass (top 38) 5
abbrev s_nought:Stmt:=top 39
abbrev s_require_account:Stmt:=top 40
abbrev s_burdens:Stmt:=top 41
abbrev s_asked:Stmt:=top 42
abbrev s_require_cover:Stmt:=top 44
abbrev s_Rounds___init__:Stmt:=inClass (top 45) 0
abbrev s_Rounds_ask:Stmt:=inClass (top 45) 1
abbrev s_Rounds_account:Stmt:=inClass (top 45) 2
abbrev s_Rounds_waiting:Stmt:=inClass (top 45) 3
abbrev s_Rounds_twin:Stmt:=inClass (top 45) 4
abbrev s_settle:Stmt:=top 46
abbrev s_least:Stmt:=top 48
abbrev s_steps:Stmt:=top 49
abbrev s_agrees:Stmt:=top 51
abbrev s_require_agreeing:Stmt:=top 52
abbrev s_kept:Stmt:=top 54
abbrev s_falls:Stmt:=top 55
abbrev s_greatest:Stmt:=top 57
abbrev s_spin:Stmt:=top 58
abbrev s_reached:Stmt:=top 60
abbrev s_first_roads:Stmt:=top 61
abbrev s_longer_roads:Stmt:=top 62
abbrev s_road:Stmt:=top 63
abbrev s_hangs:Stmt:=top 64
abbrev s__law_draws:Stmt:=top 66
abbrev s__law_lines:Stmt:=top 67
abbrev s__law_cover:Stmt:=top 68
abbrev s__law_rows:Stmt:=top 69
abbrev s__law_losses:Stmt:=top 70
abbrev s__law_made:Stmt:=top 71
abbrev s__law_split:Stmt:=top 72
abbrev s__law_splits:Stmt:=top 73
abbrev s__law_loads:Stmt:=top 74
abbrev s__law_take:Stmt:=top 75
abbrev s__law_passed:Stmt:=top 76
abbrev s__law_come:Stmt:=top 77
abbrev s__law_least:Stmt:=top 78
abbrev s__law_view:Stmt:=top 79
abbrev s_law:Stmt:=top 80
def fl_Rounds:List Str:=["ground", "standing"]
def fl_Table:List Str:=["house_count", "cover_rows", "befallen", "crown_bearers"]
set_option genInjectivity false in
set_option genSizeOfSpec false in
set_option genSizeOf false in
structure Adr where
  a__wall:Addr
  f__wall:FuncData
  a_is_lines:Addr
  f_is_lines:FuncData
  a_require_lines:Addr
  f_require_lines:FuncData
  a_next_place:Addr
  f_next_place:FuncData
  a_bearers:Addr
  f_bearers:FuncData
  a_parts:Addr
  f_parts:FuncData
  a_is_measure:Addr
  f_is_measure:FuncData
  a_are_others:Addr
  f_are_others:FuncData
  a_is_cover:Addr
  f_is_cover:FuncData
  a_wish:Addr
  f_wish:FuncData
  a_take:Addr
  f_take:FuncData
  a_require_houses:Addr
  f_require_houses:FuncData
  a_require_house:Addr
  f_require_house:FuncData
  a_require_covers:Addr
  f_require_covers:FuncData
  a_require_losses:Addr
  f_require_losses:FuncData
  a_Table___init__:Addr
  f_Table___init__:FuncData
  a_Table_houses:Addr
  f_Table_houses:FuncData
  a_Table_covers:Addr
  f_Table_covers:FuncData
  a_Table_losses:Addr
  f_Table_losses:FuncData
  a_Table_mosts:Addr
  f_Table_mosts:FuncData
  a_Table_more:Addr
  f_Table_more:FuncData
  a_nought:Addr
  f_nought:FuncData
  a_require_account:Addr
  f_require_account:FuncData
  a_burdens:Addr
  f_burdens:FuncData
  a_asked:Addr
  f_asked:FuncData
  a_require_cover:Addr
  f_require_cover:FuncData
  a_Rounds___init__:Addr
  f_Rounds___init__:FuncData
  a_Rounds_ask:Addr
  f_Rounds_ask:FuncData
  a_Rounds_account:Addr
  f_Rounds_account:FuncData
  a_Rounds_waiting:Addr
  f_Rounds_waiting:FuncData
  a_Rounds_twin:Addr
  f_Rounds_twin:FuncData
  a_settle:Addr
  f_settle:FuncData
  a_least:Addr
  f_least:FuncData
  a_steps:Addr
  f_steps:FuncData
  a_agrees:Addr
  f_agrees:FuncData
  a_require_agreeing:Addr
  f_require_agreeing:FuncData
  a_kept:Addr
  f_kept:FuncData
  a_falls:Addr
  f_falls:FuncData
  a_greatest:Addr
  f_greatest:FuncData
  a_spin:Addr
  f_spin:FuncData
  a_reached:Addr
  f_reached:FuncData
  a_first_roads:Addr
  f_first_roads:FuncData
  a_longer_roads:Addr
  f_longer_roads:FuncData
  a_road:Addr
  f_road:FuncData
  a_hangs:Addr
  f_hangs:FuncData
  a__law_draws:Addr
  f__law_draws:FuncData
  a__law_lines:Addr
  f__law_lines:FuncData
  a__law_cover:Addr
  f__law_cover:FuncData
  a__law_rows:Addr
  f__law_rows:FuncData
  a__law_losses:Addr
  f__law_losses:FuncData
  a__law_made:Addr
  f__law_made:FuncData
  a__law_split:Addr
  f__law_split:FuncData
  a__law_splits:Addr
  f__law_splits:FuncData
  a__law_loads:Addr
  f__law_loads:FuncData
  a__law_take:Addr
  f__law_take:FuncData
  a__law_passed:Addr
  f__law_passed:FuncData
  a__law_come:Addr
  f__law_come:FuncData
  a__law_least:Addr
  f__law_least:FuncData
  a__law_view:Addr
  f__law_view:FuncData
  a_law:Addr
  f_law:FuncData
  c_Rounds:Addr
  c_Table:Addr
  o_BY_BOUNDS:Addr
  u_BY_BOUNDS_0:Addr
  u_BY_BOUNDS_1:Addr
structure Txt (w:World) (K:Frag) (mg:Str→Option Value) (A:Adr):Prop where
  F__wall:Fun K "_wall" "_wall" s__wall A.a__wall A.f__wall
  m__wall:mg "_wall" = some (.ref A.a__wall)
  k__wall:keepIn K (.ref A.a__wall)=true
  d__wall:Binds K A.f__wall ["k"] []
  F_is_lines:Fun K "is_lines" "is_lines" s_is_lines A.a_is_lines A.f_is_lines
  m_is_lines:mg "is_lines" = some (.ref A.a_is_lines)
  k_is_lines:keepIn K (.ref A.a_is_lines)=true
  d_is_lines:Binds K A.f_is_lines ["lines"] []
  F_require_lines:Fun K "require_lines" "require_lines" s_require_lines A.a_require_lines A.f_require_lines
  m_require_lines:mg "require_lines" = some (.ref A.a_require_lines)
  k_require_lines:keepIn K (.ref A.a_require_lines)=true
  d_require_lines:Binds K A.f_require_lines ["lines"] []
  F_next_place:Fun K "next_place" "next_place" s_next_place A.a_next_place A.f_next_place
  m_next_place:mg "next_place" = some (.ref A.a_next_place)
  k_next_place:keepIn K (.ref A.a_next_place)=true
  d_next_place:Binds K A.f_next_place ["lines", "borne"] []
  F_bearers:Fun K "bearers" "bearers" s_bearers A.a_bearers A.f_bearers
  m_bearers:mg "bearers" = some (.ref A.a_bearers)
  k_bearers:keepIn K (.ref A.a_bearers)=true
  d_bearers:Binds K A.f_bearers ["lines", "crowns"] []
  F_parts:Fun K "parts" "parts" s_parts A.a_parts A.f_parts
  m_parts:mg "parts" = some (.ref A.a_parts)
  k_parts:keepIn K (.ref A.a_parts)=true
  d_parts:Binds K A.f_parts ["lines", "crowns"] []
  F_is_measure:Fun K "is_measure" "is_measure" s_is_measure A.a_is_measure A.f_is_measure
  m_is_measure:mg "is_measure" = some (.ref A.a_is_measure)
  k_is_measure:keepIn K (.ref A.a_is_measure)=true
  d_is_measure:Binds K A.f_is_measure ["kind", "by", "most"] []
  F_are_others:Fun K "are_others" "are_others" s_are_others A.a_are_others A.f_are_others
  m_are_others:mg "are_others" = some (.ref A.a_are_others)
  k_are_others:keepIn K (.ref A.a_are_others)=true
  d_are_others:Binds K A.f_are_others ["houses", "house", "lines"] []
  F_is_cover:Fun K "is_cover" "is_cover" s_is_cover A.a_is_cover A.f_is_cover
  m_is_cover:mg "is_cover" = some (.ref A.a_is_cover)
  k_is_cover:keepIn K (.ref A.a_is_cover)=true
  d_is_cover:Binds K A.f_is_cover ["houses", "cover"] []
  F_wish:Fun K "wish" "wish" s_wish A.a_wish A.f_wish
  m_wish:mg "wish" = some (.ref A.a_wish)
  k_wish:keepIn K (.ref A.a_wish)=true
  d_wish:Binds K A.f_wish ["kind", "by", "reach"] []
  F_take:Fun K "take" "take" s_take A.a_take A.f_take
  m_take:mg "take" = some (.ref A.a_take)
  k_take:keepIn K (.ref A.a_take)=true
  d_take:Binds K A.f_take ["kind", "by", "most", "reach"] []
  F_require_houses:Fun K "require_houses" "require_houses" s_require_houses A.a_require_houses A.f_require_houses
  m_require_houses:mg "require_houses" = some (.ref A.a_require_houses)
  k_require_houses:keepIn K (.ref A.a_require_houses)=true
  d_require_houses:Binds K A.f_require_houses ["houses"] []
  F_require_house:Fun K "require_house" "require_house" s_require_house A.a_require_house A.f_require_house
  m_require_house:mg "require_house" = some (.ref A.a_require_house)
  k_require_house:keepIn K (.ref A.a_require_house)=true
  d_require_house:Binds K A.f_require_house ["houses", "house"] []
  F_require_covers:Fun K "require_covers" "require_covers" s_require_covers A.a_require_covers A.f_require_covers
  m_require_covers:mg "require_covers" = some (.ref A.a_require_covers)
  k_require_covers:keepIn K (.ref A.a_require_covers)=true
  d_require_covers:Binds K A.f_require_covers ["houses", "covers"] []
  F_require_losses:Fun K "require_losses" "require_losses" s_require_losses A.a_require_losses A.f_require_losses
  m_require_losses:mg "require_losses" = some (.ref A.a_require_losses)
  k_require_losses:keepIn K (.ref A.a_require_losses)=true
  d_require_losses:Binds K A.f_require_losses ["houses", "losses"] []
  F_Table___init__:Fun K "__init__" "Table.__init__" s_Table___init__ A.a_Table___init__ A.f_Table___init__
  k_Table___init__:keepIn K (.ref A.a_Table___init__)=true
  d_Table___init__:Binds K A.f_Table___init__ ["self", "houses", "covers", "losses"] []
  F_Table_houses:Fun K "houses" "Table.houses" s_Table_houses A.a_Table_houses A.f_Table_houses
  me_Table_houses:Meth K A.c_Table "houses" A.a_Table_houses
  k_Table_houses:keepIn K (.ref A.a_Table_houses)=true
  d_Table_houses:Binds K A.f_Table_houses ["self"] []
  F_Table_covers:Fun K "covers" "Table.covers" s_Table_covers A.a_Table_covers A.f_Table_covers
  me_Table_covers:Meth K A.c_Table "covers" A.a_Table_covers
  k_Table_covers:keepIn K (.ref A.a_Table_covers)=true
  d_Table_covers:Binds K A.f_Table_covers ["self"] []
  F_Table_losses:Fun K "losses" "Table.losses" s_Table_losses A.a_Table_losses A.f_Table_losses
  me_Table_losses:Meth K A.c_Table "losses" A.a_Table_losses
  k_Table_losses:keepIn K (.ref A.a_Table_losses)=true
  d_Table_losses:Binds K A.f_Table_losses ["self"] []
  F_Table_mosts:Fun K "mosts" "Table.mosts" s_Table_mosts A.a_Table_mosts A.f_Table_mosts
  me_Table_mosts:Meth K A.c_Table "mosts" A.a_Table_mosts
  k_Table_mosts:keepIn K (.ref A.a_Table_mosts)=true
  d_Table_mosts:Binds K A.f_Table_mosts ["self"] []
  F_Table_more:Fun K "more" "Table.more" s_Table_more A.a_Table_more A.f_Table_more
  me_Table_more:Meth K A.c_Table "more" A.a_Table_more
  k_Table_more:keepIn K (.ref A.a_Table_more)=true
  d_Table_more:Binds K A.f_Table_more ["self", "house", "crowns"] []
  F_nought:Fun K "nought" "nought" s_nought A.a_nought A.f_nought
  m_nought:mg "nought" = some (.ref A.a_nought)
  k_nought:keepIn K (.ref A.a_nought)=true
  d_nought:Binds K A.f_nought ["table"] []
  F_require_account:Fun K "require_account" "require_account" s_require_account A.a_require_account A.f_require_account
  m_require_account:mg "require_account" = some (.ref A.a_require_account)
  k_require_account:keepIn K (.ref A.a_require_account)=true
  d_require_account:Binds K A.f_require_account ["table", "account"] []
  F_burdens:Fun K "burdens" "burdens" s_burdens A.a_burdens A.f_burdens
  m_burdens:mg "burdens" = some (.ref A.a_burdens)
  k_burdens:keepIn K (.ref A.a_burdens)=true
  d_burdens:Binds K A.f_burdens ["table", "account"] []
  F_asked:Fun K "asked" "asked" s_asked A.a_asked A.f_asked
  m_asked:mg "asked" = some (.ref A.a_asked)
  k_asked:keepIn K (.ref A.a_asked)=true
  d_asked:Binds K A.f_asked ["table", "account"] []
  F_require_cover:Fun K "require_cover" "require_cover" s_require_cover A.a_require_cover A.f_require_cover
  m_require_cover:mg "require_cover" = some (.ref A.a_require_cover)
  k_require_cover:keepIn K (.ref A.a_require_cover)=true
  d_require_cover:Binds K A.f_require_cover ["table", "cover"] []
  F_Rounds___init__:Fun K "__init__" "Rounds.__init__" s_Rounds___init__ A.a_Rounds___init__ A.f_Rounds___init__
  k_Rounds___init__:keepIn K (.ref A.a_Rounds___init__)=true
  d_Rounds___init__:Binds K A.f_Rounds___init__ ["self", "table"] []
  F_Rounds_ask:Fun K "ask" "Rounds.ask" s_Rounds_ask A.a_Rounds_ask A.f_Rounds_ask
  me_Rounds_ask:Meth K A.c_Rounds "ask" A.a_Rounds_ask
  k_Rounds_ask:keepIn K (.ref A.a_Rounds_ask)=true
  d_Rounds_ask:Binds K A.f_Rounds_ask ["self", "cover"] []
  F_Rounds_account:Fun K "account" "Rounds.account" s_Rounds_account A.a_Rounds_account A.f_Rounds_account
  me_Rounds_account:Meth K A.c_Rounds "account" A.a_Rounds_account
  k_Rounds_account:keepIn K (.ref A.a_Rounds_account)=true
  d_Rounds_account:Binds K A.f_Rounds_account ["self"] []
  F_Rounds_waiting:Fun K "waiting" "Rounds.waiting" s_Rounds_waiting A.a_Rounds_waiting A.f_Rounds_waiting
  me_Rounds_waiting:Meth K A.c_Rounds "waiting" A.a_Rounds_waiting
  k_Rounds_waiting:keepIn K (.ref A.a_Rounds_waiting)=true
  d_Rounds_waiting:Binds K A.f_Rounds_waiting ["self"] []
  F_Rounds_twin:Fun K "twin" "Rounds.twin" s_Rounds_twin A.a_Rounds_twin A.f_Rounds_twin
  me_Rounds_twin:Meth K A.c_Rounds "twin" A.a_Rounds_twin
  k_Rounds_twin:keepIn K (.ref A.a_Rounds_twin)=true
  d_Rounds_twin:Binds K A.f_Rounds_twin ["self"] []
  F_settle:Fun K "settle" "settle" s_settle A.a_settle A.f_settle
  m_settle:mg "settle" = some (.ref A.a_settle)
  k_settle:keepIn K (.ref A.a_settle)=true
  d_settle:Binds K A.f_settle ["table", "account"] []
  F_least:Fun K "least" "least" s_least A.a_least A.f_least
  m_least:mg "least" = some (.ref A.a_least)
  k_least:keepIn K (.ref A.a_least)=true
  d_least:Binds K A.f_least ["table"] []
  F_steps:Fun K "steps" "steps" s_steps A.a_steps A.f_steps
  m_steps:mg "steps" = some (.ref A.a_steps)
  k_steps:keepIn K (.ref A.a_steps)=true
  d_steps:Binds K A.f_steps ["table"] []
  F_agrees:Fun K "agrees" "agrees" s_agrees A.a_agrees A.f_agrees
  m_agrees:mg "agrees" = some (.ref A.a_agrees)
  k_agrees:keepIn K (.ref A.a_agrees)=true
  d_agrees:Binds K A.f_agrees ["table", "account"] []
  F_require_agreeing:Fun K "require_agreeing" "require_agreeing" s_require_agreeing A.a_require_agreeing A.f_require_agreeing
  m_require_agreeing:mg "require_agreeing" = some (.ref A.a_require_agreeing)
  k_require_agreeing:keepIn K (.ref A.a_require_agreeing)=true
  d_require_agreeing:Binds K A.f_require_agreeing ["table", "accounts"] []
  F_kept:Fun K "kept" "kept" s_kept A.a_kept A.f_kept
  m_kept:mg "kept" = some (.ref A.a_kept)
  k_kept:keepIn K (.ref A.a_kept)=true
  d_kept:Binds K A.f_kept ["table", "account"] []
  F_falls:Fun K "falls" "falls" s_falls A.a_falls A.f_falls
  m_falls:mg "falls" = some (.ref A.a_falls)
  k_falls:keepIn K (.ref A.a_falls)=true
  d_falls:Binds K A.f_falls ["table", "house"] []
  F_greatest:Fun K "greatest" "greatest" s_greatest A.a_greatest A.f_greatest
  m_greatest:mg "greatest" = some (.ref A.a_greatest)
  k_greatest:keepIn K (.ref A.a_greatest)=true
  d_greatest:Binds K A.f_greatest ["table"] []
  F_spin:Fun K "spin" "spin" s_spin A.a_spin A.f_spin
  m_spin:mg "spin" = some (.ref A.a_spin)
  k_spin:keepIn K (.ref A.a_spin)=true
  d_spin:Binds K A.f_spin ["table"] []
  F_reached:Fun K "reached" "reached" s_reached A.a_reached A.f_reached
  m_reached:mg "reached" = some (.ref A.a_reached)
  k_reached:keepIn K (.ref A.a_reached)=true
  d_reached:Binds K A.f_reached ["table", "account", "cover"] []
  F_first_roads:Fun K "first_roads" "first_roads" s_first_roads A.a_first_roads A.f_first_roads
  m_first_roads:mg "first_roads" = some (.ref A.a_first_roads)
  k_first_roads:keepIn K (.ref A.a_first_roads)=true
  d_first_roads:Binds K A.f_first_roads ["table", "account"] []
  F_longer_roads:Fun K "longer_roads" "longer_roads" s_longer_roads A.a_longer_roads A.f_longer_roads
  m_longer_roads:mg "longer_roads" = some (.ref A.a_longer_roads)
  k_longer_roads:keepIn K (.ref A.a_longer_roads)=true
  d_longer_roads:Binds K A.f_longer_roads ["table", "account", "roads", "ends"] []
  F_road:Fun K "road" "road" s_road A.a_road A.f_road
  m_road:mg "road" = some (.ref A.a_road)
  k_road:keepIn K (.ref A.a_road)=true
  d_road:Binds K A.f_road ["table", "cover"] []
  F_hangs:Fun K "hangs" "hangs" s_hangs A.a_hangs A.f_hangs
  m_hangs:mg "hangs" = some (.ref A.a_hangs)
  k_hangs:keepIn K (.ref A.a_hangs)=true
  d_hangs:Binds K A.f_hangs ["table", "house"] []
  F__law_draws:Fun K "_law_draws" "_law_draws" s__law_draws A.a__law_draws A.f__law_draws
  m__law_draws:mg "_law_draws" = some (.ref A.a__law_draws)
  k__law_draws:keepIn K (.ref A.a__law_draws)=true
  d__law_draws:Binds K A.f__law_draws ["_law_script", "_law_many"] []
  F__law_lines:Fun K "_law_lines" "_law_lines" s__law_lines A.a__law_lines A.f__law_lines
  m__law_lines:mg "_law_lines" = some (.ref A.a__law_lines)
  k__law_lines:keepIn K (.ref A.a__law_lines)=true
  d__law_lines:Binds K A.f__law_lines ["_law_houses", "_law_house", "_law_draws_here"] []
  F__law_cover:Fun K "_law_cover" "_law_cover" s__law_cover A.a__law_cover A.f__law_cover
  m__law_cover:mg "_law_cover" = some (.ref A.a__law_cover)
  k__law_cover:keepIn K (.ref A.a__law_cover)=true
  d__law_cover:Binds K A.f__law_cover ["_law_houses", "_law_draws_here"] []
  F__law_rows:Fun K "_law_rows" "_law_rows" s__law_rows A.a__law_rows A.f__law_rows
  m__law_rows:mg "_law_rows" = some (.ref A.a__law_rows)
  k__law_rows:keepIn K (.ref A.a__law_rows)=true
  d__law_rows:Binds K A.f__law_rows ["_law_houses", "_law_draws_here"] []
  F__law_losses:Fun K "_law_losses" "_law_losses" s__law_losses A.a__law_losses A.f__law_losses
  m__law_losses:mg "_law_losses" = some (.ref A.a__law_losses)
  k__law_losses:keepIn K (.ref A.a__law_losses)=true
  d__law_losses:Binds K A.f__law_losses ["_law_houses", "_law_draws_here"] []
  F__law_made:Fun K "_law_made" "_law_made" s__law_made A.a__law_made A.f__law_made
  m__law_made:mg "_law_made" = some (.ref A.a__law_made)
  k__law_made:keepIn K (.ref A.a__law_made)=true
  d__law_made:Binds K A.f__law_made ["_law_draws_here"] []
  F__law_split:Fun K "_law_split" "_law_split" s__law_split A.a__law_split A.f__law_split
  m__law_split:mg "_law_split" = some (.ref A.a__law_split)
  k__law_split:keepIn K (.ref A.a__law_split)=true
  d__law_split:Binds K A.f__law_split ["_law_lines_here", "_law_most"] []
  F__law_splits:Fun K "_law_splits" "_law_splits" s__law_splits A.a__law_splits A.f__law_splits
  m__law_splits:mg "_law_splits" = some (.ref A.a__law_splits)
  k__law_splits:keepIn K (.ref A.a__law_splits)=true
  d__law_splits:Binds K A.f__law_splits ["_law_covers"] []
  F__law_loads:Fun K "_law_loads" "_law_loads" s__law_loads A.a__law_loads A.f__law_loads
  m__law_loads:mg "_law_loads" = some (.ref A.a__law_loads)
  k__law_loads:keepIn K (.ref A.a__law_loads)=true
  d__law_loads:Binds K A.f__law_loads ["_law_covers", "_law_losses_here", "_law_splits_here", "_law_account"] []
  F__law_take:Fun K "_law_take" "_law_take" s__law_take A.a__law_take A.f__law_take
  m__law_take:mg "_law_take" = some (.ref A.a__law_take)
  k__law_take:keepIn K (.ref A.a__law_take)=true
  d__law_take:Binds K A.f__law_take ["_law_kind", "_law_by", "_law_most", "_law_reach"] []
  F__law_passed:Fun K "_law_passed" "_law_passed" s__law_passed A.a__law_passed A.f__law_passed
  m__law_passed:mg "_law_passed" = some (.ref A.a__law_passed)
  k__law_passed:keepIn K (.ref A.a__law_passed)=true
  d__law_passed:Binds K A.f__law_passed ["_law_covers", "_law_losses_here", "_law_splits_here", "_law_account"] []
  F__law_come:Fun K "_law_come" "_law_come" s__law_come A.a__law_come A.f__law_come
  m__law_come:mg "_law_come" = some (.ref A.a__law_come)
  k__law_come:keepIn K (.ref A.a__law_come)=true
  d__law_come:Binds K A.f__law_come ["_law_covers", "_law_losses_here", "_law_splits_here", "_law_account"] []
  F__law_least:Fun K "_law_least" "_law_least" s__law_least A.a__law_least A.f__law_least
  m__law_least:mg "_law_least" = some (.ref A.a__law_least)
  k__law_least:keepIn K (.ref A.a__law_least)=true
  d__law_least:Binds K A.f__law_least ["_law_covers", "_law_losses_here", "_law_splits_here"] []
  F__law_view:Fun K "_law_view" "_law_view" s__law_view A.a__law_view A.f__law_view
  m__law_view:mg "_law_view" = some (.ref A.a__law_view)
  k__law_view:keepIn K (.ref A.a__law_view)=true
  d__law_view:Binds K A.f__law_view ["_law_table"] []
  F_law:Fun K "law" "law" s_law A.a_law A.f_law
  m_law:mg "law" = some (.ref A.a_law)
  k_law:keepIn K (.ref A.a_law)=true
  d_law:Binds K A.f_law ["_law_script"] []
  cl_Rounds:Cls K A.c_Rounds
  mc_Rounds:mg "Rounds" = some (.ref A.c_Rounds)
  mk_Rounds:Mk K A.c_Rounds A.a_Rounds___init__
  na_Rounds_ground:NoAttr K A.c_Rounds "ground"
  na_Rounds_standing:NoAttr K A.c_Rounds "standing"
  cl_Table:Cls K A.c_Table
  mc_Table:mg "Table" = some (.ref A.c_Table)
  mk_Table:Mk K A.c_Table A.a_Table___init__
  na_Table_house_count:NoAttr K A.c_Table "house_count"
  na_Table_cover_rows:NoAttr K A.c_Table "cover_rows"
  na_Table_befallen:NoAttr K A.c_Table "befallen"
  na_Table_crown_bearers:NoAttr K A.c_Table "crown_bearers"
  c_LAST_HOUSE:∃ t,mg "LAST_HOUSE" = some (.int 5 t)
  c_LEAST_LINE:∃ t,mg "LEAST_LINE" = some (.int 1 t)
  c_MOST_BILL:∃ t,mg "MOST_BILL" = some (.int 24 t)
  c_MOST_COVERS:∃ t,mg "MOST_COVERS" = some (.int 10 t)
  c_MOST_LINE:∃ t,mg "MOST_LINE" = some (.int 20 t)
  c_MOST_LOSS:∃ t,mg "MOST_LOSS" = some (.int 9999 t)
  c_MOST_PAIRS:∃ t,mg "MOST_PAIRS" = some (.int 4 t)
  c_MOST_REACH:∃ t,mg "MOST_REACH" = some (.int 99999 t)
  b_all:mg "all" = none
  b_enumerate:mg "enumerate" = none
  b_len:mg "len" = none
  b_list:mg "list" = none
  b_max:mg "max" = none
  b_min:mg "min" = none
  b_range:mg "range" = none
  b_tuple:mg "tuple" = none
  b_zip:mg "zip" = none
  g_BY_BOUNDS:mg "BY_BOUNDS" = some (.ref A.o_BY_BOUNDS)
  t_BY_BOUNDS:KDict w K A.o_BY_BOUNDS [(Sum.inr "share", .ref A.u_BY_BOUNDS_0),(Sum.inr "layer", .ref A.u_BY_BOUNDS_1)]
  s_BY_BOUNDS_0:KTup K A.u_BY_BOUNDS_0 [.int 1,.int 100]
  s_BY_BOUNDS_1:KTup K A.u_BY_BOUNDS_1 [.int 0,.int 200]
section
variable {P:Program} {w:World} {K:Frag} {mg:Str→Option Value} {base:Heap} {A:Adr}
def sp_is_lines (K:Frag):Sp:=fun vs H Q _=>∃ (p:Addr) (L:List (Int×Int)),vs=[.ref p]∧LinesAt K H p L∧L.length≤1000∧∀ H',Same H H'→Q (.bl (isLinesB L)) H'
theorem sc_is_lines:FnScope ["lines"] ["lines"] (defScope s_is_lines):=⟨rfl,rfl,rfl,by decide +kernel,rfl,by decide +kernel,by decide +kernel⟩
set_option maxHeartbeats 4000000 in
theorem ok_is_lines (T:Txt w K mg A):FnOk P w K mg base CX0 1 A.a_is_lines A.f_is_lines ["lines"] (sp_is_lines K):=by
  have nd:=sc_is_lines.nd
  refine T.F_is_lines.ok sc_is_lines (fun vs H Q E h=>?_) (fun cdv Ar outer s H vs Q E hr h=>?_)
  · obtain ⟨p,L,rfl,_⟩:=h;rfl
  · skip
    obtain ⟨p,L,rfl,⟨us,hp,hu⟩,hl,kk⟩:=h
    have hlen:=hu.len
    have hz:us.length≤sizeLine:=Nat.le_of_lt (small_line (by omega))
    have out:∀ H',isLinesB L=false→Same H H'→Q (.bl false) H':=fun H' e s=>by rw [← e];exact kk H' s
    refine PSs.rd (pss_cons (ps_if (pt_not (pt_chain op_leI op_leI pe_int (pe_callB call_len_seq rfl T.b_len PySem.boot_len (pa_cons (pvI 0) pa_nil)) (pe_globI rfl T.c_MOST_PAIRS)))
      (pss_one (ps_ret pe_bl))
      pss_nil)
    (pss_cons (ps_if (pt_cmpR op_ltI (pe_callB call_len_setI rfl T.b_len PySem.boot_len (pa_cons (scA (defScope s_is_lines) (pi_tup (pvI 0)) (fun _ _ _ _ _=>pgc2 1 2) (fun _ _ _ _ _=>pts_nil) (fun _ _ _ _ _=>(pvI 1))) pa_nil)) (pe_callB call_len_seq rfl T.b_len PySem.boot_len (pa_cons (pvI 0) pa_nil)) (nomark _))
      (pss_one (ps_ret pe_bl))
      pss_nil)
    (pss_one (ps_ret (pe_callB (call_allB rfl) rfl T.b_all boot_all (pa_cons (lcA (defScope s_is_lines) (pi_tup (pvI 0)) (fun _ _ _ _ _=>pgc2 1 2) (fun _ _ _ _ _=>pts_nil) (fun _ _ _ _ _=>(pe_and (pe_chain op_leI op_leI pe_int (pvI 1) (pe_globI rfl T.c_LAST_HOUSE)) (pe_one (pe_chain op_leI op_leI (pe_globI rfl T.c_LEAST_LINE) (pvI 2) (pe_globI rfl T.c_MOST_LINE)))))) pa_nil)))))) ?_
    try dsimp only [L2.cxOf,L2.Cx.nox]
    refine ⟨_,rfl,p,us,rfl,.inr hp,_,_,rfl,rfl,_,rfl,iteD (fun h1=>?_) (fun h1=>?_)⟩
    case refine_2=>
      refine ⟨_,rfl,iteT (out H ?_ (Same.refl H))⟩
      unfold isLinesB
      rw [decide_eq_false (by omega)];rfl
    refine ⟨_,_,rfl,rfl,_,rfl,iteND (fun h4=>?_) (fun h4=>?_)⟩
    · refine out H ?_ (Same.refl H)
      unfold isLinesB
      rw [decide_eq_false (by omega)];rfl
    refine ⟨_,rfl,p,rfl,⟨us,hp⟩,?_⟩
    refine sc_by (ks:=L.map (·.1)) (itOf_tup hp) (fun σ=>∃ x y z,σ=[x,y,z]) ?_ (by rw [List.length_map];exact hlen.symm) (by omega) ?_ ?_
    · exact ⟨_,_,_,rfl⟩
    · intro i x k σ2 H2 Qt Qf hx hk sm zz1 q
      refine byC fun hG=>?_
      obtain ⟨a,b,c,rfl⟩:=zz1
      obtain ⟨l,hl1,q1,rfl,hq⟩:=hu.get hx
      refine hG ?_
      rw [List.getElem?_map,hl1] at hk
      cases hk
      exact ⟨q1,_,rfl,sm.tupS hq,rfl,_,_,rfl,_,_,rfl,rfl,_,rfl,q _ ⟨_,_,_,rfl⟩⟩
    intro D hD
    have sD:Same H (upd H D (.set (dset (L.map (·.1))).1 (dset (L.map (·.1))).2)):=same_upd hD
    refine ⟨D,_,_,rfl,upd_same,_,rfl,p,us,rfl,.inr (sD.tupS hp),_,_,rfl,rfl,_,rfl,iteD (fun h5=>?_) (fun h5=>?_)⟩
    · refine out _ ?_ sD
      have hn:¬ (L.map (·.1)).Nodup:=fun hn=>by
        have:=(dset_nodup _).mpr hn
        rw [List.length_map] at this
        omega
      unfold isLinesB
      rw [decide_eq_false hn,Bool.false_and,Bool.and_false]
    have hn:(L.map (·.1)).Nodup:=(dset_nodup _).mp (by
      have:=dset_le (L.map (·.1))
      rw [List.length_map] at this ⊢
      omega)
    refine ⟨_,rfl,p,rfl,⟨us,sD.tupS hp⟩,?_⟩
    refine lc_by (ws:=L.map fun l=>V.bl (lineB l)) (itOf_tup (sD.tupS hp)) (fun σ=>∃ a b c d e f,σ=[a,b,c,d,e,f]) ?_ (by rw [List.length_map];exact hlen.symm) hz ?_ ?_
    · exact ⟨_,_,_,_,_,_,rfl⟩
    · intro i x w σ2 H2 Qt Qf hx hk sm zz2 q
      refine byC fun hG=>?_
      obtain ⟨a,b,c,d,e,f,rfl⟩:=zz2
      obtain ⟨l,hl1,q1,rfl,hq⟩:=hu.get hx
      refine hG ?_
      rw [List.getElem?_map,hl1] at hk
      cases hk
      refine ⟨q1,_,rfl,(sD.trans sm).tupS hq,rfl,_,_,rfl,_,_,rfl,rfl,?_⟩
      have q2:∀ (k:Bool) (σ4:L2.St),k=lineB l→(∃ a b c d e f,σ4=[a,b,c,d,e,f])→Qt σ4 (V.bl k) H2:=fun k σ4 e h=>by rw [e];exact q σ4 h
      refine ⟨_,rfl,_,_,rfl,rfl,_,rfl,iteD (fun g1=>?_) (fun g1=>?_)⟩
      case refine_2=>
        refine ⟨_,rfl,iteF ?_⟩
        have e:lineB l=false:=decide_eq_false (fun z=>g1 z.1)
        exact q2 _ _ e.symm ⟨_,_,_,_,_,_,rfl⟩
      refine ⟨_,_,rfl,rfl,_,rfl,iteD (fun g2=>?_) (fun g2=>?_)⟩
      case refine_2=>
        have e:lineB l=false:=decide_eq_false (fun z=>g2 z.2.1)
        exact q2 _ _ e.symm ⟨_,_,_,_,_,_,rfl⟩
      refine ⟨_,rfl,_,_,rfl,rfl,_,rfl,iteD (fun g3=>?_) (fun g3=>?_)⟩
      case refine_2=>
        have e:lineB l=false:=decide_eq_false (fun z=>g3 z.2.2.1)
        exact q2 _ _ e.symm ⟨_,_,_,_,_,_,rfl⟩
      refine ⟨_,_,rfl,rfl,?_⟩
      have e:lineB l=decide (l.2≤20):=by
        unfold lineB
        by_cases g4:l.2≤20
        · rw [decide_eq_true g4,decide_eq_true ⟨g1,g2,g3,g4⟩]
        · rw [decide_eq_false g4,decide_eq_false (fun z=>g4 z.2.2.2)]
      exact q2 _ _ e.symm ⟨_,_,_,_,_,_,rfl⟩
    intro D2 hD2
    refine ⟨D2,L.map lineB,rfl,SqL.of ?_,?_⟩
    · rw [upd_same,List.map_map];rfl
    have e:isLinesB L=(L.map lineB).all id:=by
      unfold isLinesB
      rw [decide_eq_true hn,Bool.true_and,decide_eq_true (show 1≤L.length∧L.length≤4 by omega),Bool.true_and,List.all_map]
      rfl
    rw [← e]
    exact kk _ (sD.trans (same_upd hD2))
def sp_require_lines (K:Frag):Sp:=fun vs H Q _=>∃ (p:Addr) (L:List (Int×Int)),vs=[.ref p]∧LinesAt K H p L∧GoodL L∧∀ H',Same H H'→Q .non H'
theorem sc_require_lines:FnScope ["lines"] ["lines"] (defScope s_require_lines):=⟨rfl,rfl,rfl,by decide +kernel,rfl,by decide +kernel,by decide +kernel⟩
set_option maxHeartbeats 4000000 in
theorem ok_require_lines (T:Txt w K mg A):FnOk P w K mg base CX0 2 A.a_require_lines A.f_require_lines ["lines"] (sp_require_lines K):=by
  have nd:=sc_require_lines.nd
  have G_is_lines:=ok_is_lines (P:=P) (w:=w) (base:=base) T
  refine T.F_require_lines.ok sc_require_lines (fun vs H Q E h=>?_) (fun cdv Ar outer s H vs Q E hr h=>?_)
  · obtain ⟨p,L,rfl,_⟩:=h;rfl
  · skip
    obtain ⟨p,L,rfl,hp,g,kk⟩:=h
    refine PSs.rd (pss_one (ps_if (pt_not (pt_truth (pe_call (G_is_lines.mono (by decide)) hr rfl T.m_is_lines T.k_is_lines T.d_is_lines .nil pass0 (pa_cons (pvI 0) pa_nil)) (fun _=>rfl)))
      (pss_one ps_never)
      pss_nil)) ?_
    try dsimp only [L2.cxOf,L2.Cx.nox]
    refine ⟨_,rfl,p,L,rfl,hp,by have:=g.l4;omega,fun H' s=>⟨_,rfl,?_⟩⟩
    rw [g.isB]
    exact iteF (kk H' s)
def sp_next_place (K:Frag):Sp:=fun vs H Q _=>∃ (p q:Addr) (L:List (Int×Int)) (b:List Int),vs=[.ref p,.ref q]∧LinesAt K H p L∧SqL K H q (b.map V.int)∧b.length=L.length∧1≤L.length∧L.length≤1000∧SmallL L∧
  Q (.int (Mt.pick (L.map (·.2)) b:Nat)) H
theorem sc_next_place:FnScope ["lines", "borne", "best", "place"] ["lines", "borne"] (defScope s_next_place):=⟨rfl,rfl,rfl,by decide +kernel,rfl,by decide +kernel,by decide +kernel⟩
set_option maxHeartbeats 4000000 in
theorem ok_next_place (T:Txt w K mg A):FnOk P w K mg base CX0 1 A.a_next_place A.f_next_place ["lines", "borne"] (sp_next_place K):=by
  have nd:=sc_next_place.nd
  refine T.F_next_place.ok sc_next_place (fun vs H Q E h=>?_) (fun cdv Ar outer s H vs Q E hr h=>?_)
  · obtain ⟨p,q,L,b,rfl,_⟩:=h;rfl
  · skip
    obtain ⟨p,q,L,b,rfl,⟨us,hp,hu⟩,hq,hb,h1,hl,sm,kk⟩:=h
    have hlen:=hu.len
    refine PSs.rd (pss_cons (ps_set (i:=2) nd rfl (Or.inl rfl) pe_int)
    (pss_cons (ps_for PassesOwn.never rfl (pi_range2 rfl T.b_range (pa_cons pe_int (pa_cons (pe_callB call_len_seq rfl T.b_len PySem.boot_len (pa_cons (pvI 0) pa_nil)) pa_nil))) (pg_name (i:=3) nd rfl (Or.inl rfl))
      (pss_one (ps_if (pt_cmpR op_ltI (pe_op op_mulI (pe_op op_addI (pe_ix (ix_listI K rfl) (pvI 1) (pvI 3) (fun _ _=>rfl)) pe_int) (pe_ix (ix_tupI K rfl) (pe_ix (ix_tupI K rfl) (pvI 0) (pvI 2) (fun _ _=>rfl)) pe_int (fun _ _=>rfl))) (pe_op op_mulI (pe_op op_addI (pe_ix (ix_listI K rfl) (pvI 1) (pvI 2) (fun _ _=>rfl)) pe_int) (pe_ix (ix_tupI K rfl) (pe_ix (ix_tupI K rfl) (pvI 0) (pvI 3) (fun _ _=>rfl)) pe_int (fun _ _=>rfl))) (nomark _))
         (pss_one (ps_set (i:=2) nd rfl (Or.inl rfl) (pvI 3)))
         pss_nil)))
    (pss_one (ps_ret (pvI 2))))) ?_
    try dsimp only [L2.cxOf,L2.Cx.nox]
    refine ⟨_,rfl,p,us,rfl,.inr hp,1,_,rfl,⟨by decide,by decide,by omega,by omega⟩,?_⟩
    have en:(((us.length:Nat):Int) - 1).toNat=L.length - 1:=by omega
    rw [en]
    refine for_range (lo:=1) (n:=L.length - 1) (fun i σ H'=>H'=H∧∃ k,σ=[some (.ref p),some (.ref q),some (.int (Mt.pickTo (L.map (·.2)) b (i+1):Nat)),k]) ⟨rfl,none,by rw [Mt.pickTo_one];rfl⟩ ?_ ?_
    · intro i σ H' hi zz1
      refine byC fun hG=>?_
      obtain ⟨rfl,k,rfl⟩:=zz1
      have hbest:Mt.pickTo (L.map (·.2)) b (i+1) < L.length:=Nat.lt_of_lt_of_le (Mt.pickTo_lt _ _ _ (Nat.succ_pos _)) (by omega)
      have epl:(1:Int)+(i:Nat)=((i+1:Nat):Int):=by omega
      refine hG ?_
      rw [epl]
      have estp:=Mt.pickTo_succ (L.map (·.2)) b (i+1)
      generalize Mt.pickTo (L.map (·.2)) b (i+1)=best at hbest estp ⊢
      refine byC fun hG=>?_
      obtain ⟨q1,a1,i1,t1,_⟩:=hu.ix hbest
      obtain ⟨q2,a2,i2,t2,_⟩:=hu.ix (i:=i+1) (by omega)
      refine hG ?_
      refine ⟨_,rfl,_,rfl,q,_,_,_,rfl,rfl,hq,ix_of (by omega),_,_,rfl,rfl,_,rfl,_,rfl,p,_,_,_,rfl,rfl,hp,i1,q1,_,1,_,rfl,rfl,t1,rfl,_,_,rfl,rfl,.inr (sm.get _),?_⟩
      refine ⟨_,rfl,_,rfl,q,_,_,_,rfl,rfl,hq,ix_of (by omega),_,_,rfl,rfl,_,rfl,_,rfl,p,_,_,_,rfl,rfl,hp,i2,q2,_,1,_,rfl,rfl,t2,rfl,_,_,rfl,rfl,.inr (sm.get _),?_⟩
      refine ⟨_,_,rfl,rfl,_,rfl,iteD (fun hc=>?_) (fun hc=>?_)⟩
      · refine ⟨_,rfl,rfl,some (.int ((i+1:Nat):Int)),?_⟩
        rw [estp];unfold Mt.stp;rw [if_pos hc];rfl
      · refine ⟨rfl,some (.int ((i+1:Nat):Int)),?_⟩
        rw [estp];unfold Mt.stp;rw [if_neg hc];rfl
    · intro σ H' zz2
      refine byC fun hG=>?_
      obtain ⟨rfl,k,rfl⟩:=zz2
      refine hG ?_
      refine ⟨_,rfl,?_⟩
      have e:L.length - 1+1=(L.map (·.2)).length:=by rw [List.length_map];omega
      rw [e]
      exact kk
def sp_bearers (K:Frag):Sp:=fun vs H Q _=>∃ (p:Addr) (n:Nat) (L:List (Int×Int)),vs=[.ref p,.int n]∧LinesAt K H p L∧1≤L.length∧L.length≤1000∧SmallL L∧n≤1000∧
  ∀ (r:Addr) (H':Hp),H r=none→Same H H'→H' r=some (.lst ((bearersL L n).map V.int))→Q (.ref r) H'
theorem sc_bearers:FnScope ["lines", "crowns", "borne", "told", "crown", "place"] ["lines", "crowns"] (defScope s_bearers):=⟨rfl,rfl,rfl,by decide +kernel,rfl,by decide +kernel,by decide +kernel⟩
set_option maxHeartbeats 4000000 in
theorem ok_bearers (T:Txt w K mg A):FnOk P w K mg base CX0 2 A.a_bearers A.f_bearers ["lines", "crowns"] (sp_bearers K):=by
  have nd:=sc_bearers.nd
  have G_next_place:=ok_next_place (P:=P) (w:=w) (base:=base) T
  refine T.F_bearers.ok sc_bearers (fun vs H Q E h=>?_) (fun cdv Ar outer s H vs Q E hr h=>?_)
  · obtain ⟨p,n,L,rfl,_⟩:=h;rfl
  · skip
    obtain ⟨p,n,L,rfl,hp,h1,hl,sm,hn,kk⟩:=h
    obtain ⟨us,hp1,hu⟩:=hp.ex
    have hlen:=hu.len
    refine PSs.rd (pss_cons (lcS (defScope s_bearers) 2 nd (pi_tup (pvI 0)) (fun _ _ _ _ _=>pgc 1) (fun _ _ _ _ _=>pts_nil) (fun _ _ _ _ _=>pe_int))
    (pss_cons (ps_set (i:=3) nd rfl (Or.inl rfl) (pe_lst pa_nil))
    (pss_cons (ps_for PassesOwn.never rfl (pi_range1 rfl T.b_range (pa_cons (pvI 1) pa_nil)) (pg_name (i:=4) nd rfl (Or.inl rfl))
      (pss_cons (ps_set (i:=5) nd rfl (Or.inl rfl) (pe_call (G_next_place.mono (by decide)) hr rfl T.m_next_place T.k_next_place T.d_next_place .nil pass0 (pa_cons (pvI 0) (pa_cons (pvI 2) pa_nil))))
       (pss_cons (ps_augS (pvI 2) (pvI 5) get_listG pe_int ip_add set_list)
       (pss_one (ps_expr (pe_bm PySem.F.plainAttrs_list PySem.F.slot_list_append PySem.F.type_list_append mt_append (pvI 3) (pa_cons (pe_ix (ix_tupI K rfl) (pe_ix (ix_tupI K rfl) (pvI 0) (pvI 5) (fun _ _=>rfl)) pe_int (fun _ _=>rfl)) pa_nil)))))))
    (pss_one (ps_ret (pvI 3)))))) ?_
    try dsimp only [L2.cxOf,L2.Cx.nox]
    refine ⟨_,rfl,p,rfl,⟨us,hp1⟩,?_⟩
    refine lc_by (ws:=(List.replicate L.length (0:Int)).map V.int) (itOf_tup hp1) (fun σ=>∃ x y,σ=[x,y]) ?_ (by rw [List.length_map,List.length_replicate];exact hlen.symm) (Nat.le_of_lt (small_line (by omega))) ?_ ?_
    · exact ⟨_,_,rfl⟩
    · intro i x w σ2 H2 Qt Qf hx hk s2 zz1 q
      refine byC fun hG=>?_
      obtain ⟨a,b,rfl⟩:=zz1
      refine hG ?_
      rw [List.getElem?_map,List.getElem?_replicate] at hk
      split at hk
      · cases hk
        exact q _ ⟨_,_,rfl⟩
      · cases hk
    intro r hr0
    have sr:Same H (upd H r (.lst ((List.replicate L.length (0:Int)).map V.int))):=same_upd hr0
    refine ⟨by show 0≤sizeLine;decide,fun t ht=>?_⟩
    have ht0:H t=none:=sr.free ht
    have ntr:r≠t:=fun z=>by rw [← z,upd_same] at ht;cases ht
    refine ⟨_,rfl,n,rfl,by omega,by omega,?_⟩
    have en:((n:Nat):Int).toNat=n:=by omega
    rw [en]
    refine for_range (n:=n) (fun j σ H'=>(∃ k l,σ=[some (.ref p),some (.int n),some (.ref r),some (.ref t),k,l])∧Same H H'∧H' r=some (.lst ((Mt.deal (L.map (·.2)) j).map V.int))∧H' t=some (.lst ((bearersL L j).map V.int))) ⟨⟨none,none,rfl⟩,sr.trans (same_upd ht),?_,upd_same⟩ ?_ ?_
    · rw [upd_ne ntr,upd_same,Mt.deal,List.length_map]
    · intro j σ H' hj zz2
      refine byC fun hG=>?_
      obtain ⟨⟨k,l,rfl⟩,s2,hr',ht'⟩:=zz2
      have hb:(Mt.deal (L.map (·.2)) j).length=L.length:=by rw [Mt.deal_length,List.length_map]
      have hpk:Mt.pick (L.map (·.2)) (Mt.deal (L.map (·.2)) j) < (Mt.deal (L.map (·.2)) j).length:=by
        rw [Mt.deal_length];exact Mt.pick_lt (by rw [List.length_map];omega)
      refine hG ?_
      refine ⟨_,rfl,_,rfl,p,r,L,_,rfl,hp.same s2,SqL.of hr',hb,h1,hl,sm,?_⟩
      refine byC fun hG=>?_
      obtain ⟨v,hv⟩:=get_some hpk
      refine hG ?_
      refine ⟨_,rfl,_,rfl,r,_,_,_,rfl,rfl,SqL.of hr',(by rw [List.getElem?_map,hv];rfl),_,_,rfl,rfl,?_⟩
      refine ⟨r,_,_,Mt.pick (L.map (·.2)) (Mt.deal (L.map (·.2)) j),rfl,rfl,hr',?_,?_⟩
      · unfold ixN
        rw [if_pos (Int.natCast_nonneg _),if_pos (by rw [List.length_map];omega)]
        rfl
      have s3:Same H (upd H' r (.lst (((Mt.deal (L.map (·.2)) j).map V.int).set (Mt.pick (L.map (·.2)) (Mt.deal (L.map (·.2)) j)) (.int (v+1))))):=fun b o e=>by
        rw [upd_ne (ne_of_none e hr0)];exact s2 b o e
      have ht3:=upd_ne (H:=H') (o:=.lst (((Mt.deal (L.map (·.2)) j).map V.int).set (Mt.pick (L.map (·.2)) (Mt.deal (L.map (·.2)) j)) (.int (v+1)))) ntr.symm
      have hp3:=hp.same s3
      refine byC fun hG=>?_
      obtain ⟨us3,hp4,hu3⟩:=hp3.ex
      obtain ⟨q1,a1,i1,t1,e2⟩:=hu3.ix (i:=Mt.pick (L.map (·.2)) (Mt.deal (L.map (·.2)) j)) (by omega)
      refine hG ?_
      refine ⟨_,rfl,.inl ⟨rfl,_,SqL.of (ht3.trans ht')⟩,_,rfl,_,rfl,p,_,_,_,rfl,rfl,hp4,i1,q1,_,0,_,rfl,rfl,t1,rfl,t,_,_,rfl,rfl,ht3.trans ht',?_,⟨_,_,rfl⟩,fun b o e=>?_,?_,?_⟩
      · exact small_line (by rw [List.length_map,bearersL_len];omega)
      · rw [upd_ne (ne_of_none e ht0)];exact s3 b o e
      · rw [upd_ne ntr,upd_same,Mt.deal,Mt.give,getD_of hv,List.map_set]
      · rw [upd_same,bearersL_succ,map_snoc]
        unfold bearerOf
        rw [fst_of e2]
    · intro σ H' zz3
      refine byC fun hG=>?_
      obtain ⟨⟨k,l,rfl⟩,s2,hr',ht'⟩:=zz3
      refine hG ?_
      exact ⟨_,rfl,kk t H' ht0 s2 ht'⟩
def sp_parts (K:Frag):Sp:=fun vs H Q _=>∃ (p:Addr) (n:Nat) (L:List (Int×Int)),vs=[.ref p,.int n]∧LinesAt K H p L∧GoodL L∧n≤24∧
  ∀ (r:Addr) (H':Hp),H r=none→Same H H'→H' r=some (.lst ((Mt.deal (L.map (·.2)) n).map V.int))→Q (.ref r) H'
theorem sc_parts:FnScope ["lines", "crowns", "told"] ["lines", "crowns"] (defScope s_parts):=⟨rfl,rfl,rfl,by decide +kernel,rfl,by decide +kernel,by decide +kernel⟩
set_option maxHeartbeats 4000000 in
theorem ok_parts (T:Txt w K mg A):FnOk P w K mg base CX0 3 A.a_parts A.f_parts ["lines", "crowns"] (sp_parts K):=by
  have nd:=sc_parts.nd
  have G_bearers:=ok_bearers (P:=P) (w:=w) (base:=base) T
  have G_require_lines:=ok_require_lines (P:=P) (w:=w) (base:=base) T
  refine T.F_parts.ok sc_parts (fun vs H Q E h=>?_) (fun cdv Ar outer s H vs Q E hr h=>?_)
  · obtain ⟨p,n,L,rfl,_⟩:=h;rfl
  · skip
    obtain ⟨p,n,L,rfl,hp,g,hn,kk⟩:=h
    refine PSs.rd (pss_cons (ps_expr (pe_call (G_require_lines.mono (by decide)) hr rfl T.m_require_lines T.k_require_lines T.d_require_lines .nil pass0 (pa_cons (pvI 0) pa_nil)))
    (pss_cons (ps_if (pt_not (pt_chain op_leI op_leI pe_int (pvI 1) (pe_globI rfl T.c_MOST_BILL)))
      (pss_one ps_never)
      pss_nil)
    (pss_cons (ps_set (i:=2) nd rfl (Or.inr rfl) (pe_call (G_bearers.mono (by decide)) hr rfl T.m_bearers T.k_bearers T.d_bearers .nil pass0 (pa_cons (pvI 0) (pa_cons (pvI 1) pa_nil))))
    (pss_one (ps_ret (lcA (defScope s_parts) (pi_tup (pvI 0)) (fun _ _ _ _ _=>pgc2 1 2) (fun _ _ _ _ _=>pts_nil) (fun _ _ _ _ _=>(pe_bmK K rfl PySem.F.plainAttrs_list PySem.F.slot_list_count PySem.F.type_list_count mt_count (pvI 3) (pa_cons (pvI 1) pa_nil))))))))) ?_
    try dsimp only [L2.cxOf,L2.Cx.nox]
    refine ⟨_,rfl,p,L,rfl,hp,g,fun H1 s1=>?_⟩
    refine ⟨_,rfl,_,_,rfl,rfl,_,rfl,iteD (fun _=>?_) (fun h=>absurd (by omega) h)⟩
    refine ⟨_,_,rfl,rfl,_,rfl,iteND (fun h=>absurd (by omega) h) (fun _=>?_)⟩
    refine ⟨_,rfl,_,rfl,p,n,L,rfl,hp.same s1,g.l1,by have:=g.l4;omega,g.small,by omega,fun t H2 ht s2 ht2=>?_⟩
    have hp2:=(hp.same s1).same s2
    refine byC fun hG=>?_
    obtain ⟨us,hp3,hu⟩:=hp2.ex
    have hlen:=hu.len
    have g4:=g.l4
    refine hG ?_
    refine ⟨_,rfl,p,rfl,⟨us,hp3⟩,?_⟩
    refine lc_by (ws:=(Mt.deal (L.map (·.2)) n).map V.int) (itOf_tup hp3) (fun σ=>∃ x y z,σ=[x,y,z,some (.ref t)]) ⟨_,_,_,rfl⟩ (by rw [List.length_map,Mt.deal_length,List.length_map];exact hlen.symm) (Nat.le_of_lt (small_line (by omega))) ?_ ?_
    · intro i x w σ2 H4 Qt Qf hx hk s4 zz1 q
      refine byC fun hG=>?_
      obtain ⟨a,b,c,rfl⟩:=zz1
      obtain ⟨l,hl,q1,rfl,t1⟩:=hu.get hx
      have hi:=get_lt hl
      have hw:w=V.int ((Mt.deal (L.map (·.2)) n).getD i 0):=by
        rw [List.getElem?_map] at hk
        obtain ⟨z,hz,rfl⟩:=Option.map_eq_some_iff.mp hk
        rw [getD_of hz]
      refine hG ?_
      have ef:(L.map (·.1)).getD i 0=l.1:=getD_of (by rw [List.getElem?_map,hl];rfl)
      have ec:=count_deal g.l1 g.nd n i hi
      rw [ef] at ec
      refine ⟨q1,_,rfl,s4.tupS t1,rfl,_,_,rfl,_,_,rfl,rfl,?_⟩
      refine ⟨_,rfl,.inl ⟨rfl,_,SqL.of (s4 _ _ ht2)⟩,_,rfl,t,_,_,rfl,rfl,s4 _ _ ht2,?_⟩
      have e3:w=V.int ((bearersL L n).count l.1:Nat):=by rw [hw,ec]
      rw [← e3]
      exact q _ ⟨_,_,_,rfl⟩
    intro r hr
    exact kk r _ (s1.free (s2.free hr)) ((s1.trans s2).trans (same_upd hr)) upd_same
def sp_is_measure (K:Frag):Sp:=fun vs H Q _=>∃ (k:Str) (b m:Int),vs=[.str k,.int b,.int m]∧Q (.bl (measB k b m)) H
theorem sc_is_measure:FnScope ["kind", "by", "most", "low", "high"] ["kind", "by", "most"] (defScope s_is_measure):=⟨rfl,rfl,rfl,by decide +kernel,rfl,by decide +kernel,by decide +kernel⟩
set_option maxHeartbeats 4000000 in
theorem ok_is_measure (T:Txt w K mg A):FnOk P w K mg base CX0 1 A.a_is_measure A.f_is_measure ["kind", "by", "most"] (sp_is_measure K):=by
  have nd:=sc_is_measure.nd
  refine T.F_is_measure.ok sc_is_measure (fun vs H Q E h=>?_) (fun cdv Ar outer s H vs Q E hr h=>?_)
  · obtain ⟨k,b,m,rfl,_⟩:=h;rfl
  · skip
    obtain ⟨k,b,m,rfl,kk⟩:=h
    refine PSs.rd (pss_cons (ps_if (pt_cmpR op_knotin (pvI 0) (pe_glob (v:=.ref A.o_BY_BOUNDS) rfl T.g_BY_BOUNDS rfl) (by with_unfolding_all rfl))
      (pss_one (ps_ret pe_bl))
      pss_nil)
    (pss_cons (ps_asg (pe_ix ix_kdict (pe_glob (v:=.ref A.o_BY_BOUNDS) rfl T.g_BY_BOUNDS rfl) (pvI 0) (fun _ _=>rfl)) (pg_tup (n:=2) rfl (pgs_cons (pg_name (i:=3) nd rfl (Or.inl rfl)) (pgs_cons (pg_name (i:=4) nd rfl (Or.inl rfl)) pgs_nil))))
    (pss_one (ps_ret (pe_and (pe_chain op_leI op_leI (pvI 3) (pvI 1) (pvI 4)) (pe_one (pe_chain op_leI op_leI pe_int (pvI 2) (pe_globI rfl T.c_MOST_BILL)))))))) ?_
    try dsimp only [L2.cxOf,L2.Cx.nox]
    refine ⟨_,rfl,k,A.o_BY_BOUNDS,_,rfl,rfl,T.t_BY_BOUNDS,_,rfl,?_⟩
    by_cases e1:k=("share" : Str)
    · subst e1
      refine iteF' (by rfl) ?_
      refine ⟨_,rfl,("share" : Str),A.o_BY_BOUNDS,_,.ref A.u_BY_BOUNDS_0,_,rfl,rfl,T.t_BY_BOUNDS,rfl,rfl,A.u_BY_BOUNDS_0,_,rfl,T.s_BY_BOUNDS_0.sq _,rfl,_,_,rfl,_,_,rfl,rfl,?_⟩
      have kk':Q (.bl (decide (1≤b∧b≤100) && decide (0≤m∧m≤24))) H:=by
        have e:measB "share" b m=(decide (1≤b∧b≤100) && decide (0≤m∧m≤24)):=by unfold measB;rw [if_pos rfl]
        rw [← e];exact kk
      refine ⟨_,rfl,_,rfl,_,_,rfl,rfl,_,rfl,iteD (fun g1=>?_) (fun g1=>?_)⟩
      case refine_2=>
        rw [decide_eq_false (fun z=>g1 z.1)] at kk'
        exact ⟨_,rfl,iteF kk'⟩
      refine ⟨_,rfl,_,_,rfl,rfl,_,rfl,iteD (fun g2=>?_) (fun g2=>?_)⟩
      case refine_2=>
        rw [decide_eq_false (fun z=>g2 z.2)] at kk'
        exact kk'
      rw [decide_eq_true ⟨g1,g2⟩,Bool.true_and] at kk'
      refine ⟨_,rfl,_,_,rfl,rfl,_,rfl,iteD (fun g3=>?_) (fun g3=>?_)⟩
      case refine_2=>
        rw [decide_eq_false (fun z=>g3 z.1)] at kk'
        exact kk'
      have e:decide (0≤m∧m≤24)=decide (m≤24):=by by_cases g4:m≤24 <;> simp [g3,g4]
      rw [e] at kk'
      exact ⟨_,_,rfl,rfl,kk'⟩
    by_cases e2:k=("layer" : Str)
    · subst e2
      refine iteF' (by rfl) ?_
      refine ⟨_,rfl,("layer" : Str),A.o_BY_BOUNDS,_,.ref A.u_BY_BOUNDS_1,_,rfl,rfl,T.t_BY_BOUNDS,rfl,rfl,A.u_BY_BOUNDS_1,_,rfl,T.s_BY_BOUNDS_1.sq _,rfl,_,_,rfl,_,_,rfl,rfl,?_⟩
      have kk':Q (.bl (decide (0≤b∧b≤200) && decide (0≤m∧m≤24))) H:=by
        have e:measB "layer" b m=(decide (0≤b∧b≤200) && decide (0≤m∧m≤24)):=by unfold measB;rw [if_neg e1,if_pos rfl]
        rw [← e];exact kk
      refine ⟨_,rfl,_,rfl,_,_,rfl,rfl,_,rfl,iteD (fun g1=>?_) (fun g1=>?_)⟩
      case refine_2=>
        rw [decide_eq_false (fun z=>g1 z.1)] at kk'
        exact ⟨_,rfl,iteF kk'⟩
      refine ⟨_,rfl,_,_,rfl,rfl,_,rfl,iteD (fun g2=>?_) (fun g2=>?_)⟩
      case refine_2=>
        rw [decide_eq_false (fun z=>g2 z.2)] at kk'
        exact kk'
      rw [decide_eq_true ⟨g1,g2⟩,Bool.true_and] at kk'
      refine ⟨_,rfl,_,_,rfl,rfl,_,rfl,iteD (fun g3=>?_) (fun g3=>?_)⟩
      case refine_2=>
        rw [decide_eq_false (fun z=>g3 z.1)] at kk'
        exact kk'
      have e:decide (0≤m∧m≤24)=decide (m≤24):=by by_cases g4:m≤24 <;> simp [g3,g4]
      rw [e] at kk'
      exact ⟨_,_,rfl,rfl,kk'⟩
    have e3:(valueAt ([(Sum.inr "share", Value.ref A.u_BY_BOUNDS_0),(Sum.inr "layer", Value.ref A.u_BY_BOUNDS_1)]:List (Key×Value)) (Sum.inr k:Key))=none:=by
      unfold valueAt
      rw [List.find?_cons_of_neg (by intro z;exact e1 (Sum.inr.inj (of_decide_eq_true z)).symm),List.find?_cons_of_neg (by intro z;exact e2 (Sum.inr.inj (of_decide_eq_true z)).symm)]
      rfl
    rw [e3]
    have e4:measB k b m=false:=by unfold measB;rw [if_neg e1,if_neg e2,Bool.false_and]
    rw [e4] at kk
    exact kk
def sp_are_others (K:Frag):Sp:=fun vs H Q _=>∃ (h ho:Int) (p:Addr) (L:List (Int×Int)),vs=[.int h,.int ho,.ref p]∧LinesAt K H p L∧L.length≤1000∧∀ H',Same H H'→Q (.bl (othersBL h ho L)) H'
theorem sc_are_others:FnScope ["houses", "house", "lines"] ["houses", "house", "lines"] (defScope s_are_others):=⟨rfl,rfl,rfl,by decide +kernel,rfl,by decide +kernel,by decide +kernel⟩
set_option maxHeartbeats 4000000 in
theorem ok_are_others (T:Txt w K mg A):FnOk P w K mg base CX0 1 A.a_are_others A.f_are_others ["houses", "house", "lines"] (sp_are_others K):=by
  have nd:=sc_are_others.nd
  refine T.F_are_others.ok sc_are_others (fun vs H Q E h=>?_) (fun cdv Ar outer s H vs Q E hr h=>?_)
  · obtain ⟨h,ho,p,L,rfl,_⟩:=h;rfl
  · skip
    obtain ⟨h,ho,p,L,rfl,⟨us,hp,hu⟩,hl,kk⟩:=h
    have hlen:=hu.len
    refine PSs.rd (pss_one (ps_ret (pe_callB (call_allB rfl) rfl T.b_all boot_all (pa_cons (lcA (defScope s_are_others) (pi_tup (pvI 2)) (fun _ _ _ _ _=>pgc2 1 2) (fun _ _ _ _ _=>pts_nil) (fun _ _ _ _ _=>(pe_and (pe_cmpR op_ltI (pvI 1) (pvI 4) (nomark _)) (pe_one (pe_cmpR op_ne (pvI 1) (pvI 3) (nomark _)))))) pa_nil)))) ?_
    try dsimp only [L2.cxOf,L2.Cx.nox]
    refine ⟨_,rfl,p,rfl,⟨us,hp⟩,?_⟩
    refine lc_by (ws:=L.map fun l=>V.bl (decide (l.1 < h) && !decide (l.1=ho))) (itOf_tup hp) (fun σ=>∃ x y z,σ=[x,y,z,some (.int ho),some (.int h)]) ?_ (by rw [List.length_map];exact hlen.symm) (Nat.le_of_lt (small_line (by omega))) ?_ ?_
    · exact ⟨_,_,_,rfl⟩
    · intro i x w σ2 H2 Qt Qf hx hk sm zz1 q
      refine byC fun hG=>?_
      obtain ⟨a,b,c,rfl⟩:=zz1
      obtain ⟨l,hl1,q1,rfl,hq⟩:=hu.get hx
      refine hG ?_
      rw [List.getElem?_map,hl1] at hk
      cases hk
      have q2:∀ (e:Bool) (σ4:L2.St),e=(decide (l.1 < h) && !decide (l.1=ho))→(∃ x y z,σ4=[x,y,z,some (.int ho),some (.int h)])→Qt σ4 (V.bl e) H2:=fun e σ4 h1 h2=>by rw [h1];exact q σ4 h2
      refine ⟨q1,_,rfl,sm.tupS hq,rfl,_,_,rfl,_,_,rfl,rfl,?_⟩
      refine ⟨_,rfl,_,rfl,_,_,rfl,rfl,_,rfl,iteD (fun g1=>?_) (fun g1=>?_)⟩
      · refine ⟨_,rfl,_,rfl,rfl,?_⟩
        exact q2 _ _ (by rw [dec_intV,decide_eq_true g1,Bool.true_and]) ⟨_,_,_,rfl⟩
      · exact q2 _ _ (by rw [decide_eq_false g1,Bool.false_and]) ⟨_,_,_,rfl⟩
    intro D hD
    refine ⟨D,L.map fun l=>(decide (l.1 < h) && !decide (l.1=ho)),rfl,SqL.of ?_,?_⟩
    · rw [upd_same,List.map_map];rfl
    have e:othersBL h ho L=(L.map fun l=>(decide (l.1 < h) && !decide (l.1=ho))).all id:=by
      unfold othersBL;rw [List.all_map];rfl
    rw [← e]
    exact kk _ (same_upd hD)
def sp_is_cover (K:Frag):Sp:=fun vs H Q _=>∃ (h:Int) (p:Addr) (r:Option Row),vs=[.int h,.ref p]∧RowAt K H p r∧∀ H',Same H H'→Q (.bl (isCoverB h r)) H'
theorem sc_is_cover:FnScope ["houses", "cover", "house", "kind", "by", "most", "lines"] ["houses", "cover"] (defScope s_is_cover):=⟨rfl,rfl,rfl,by decide +kernel,rfl,by decide +kernel,by decide +kernel⟩
set_option maxHeartbeats 4000000 in
theorem ok_is_cover (T:Txt w K mg A):FnOk P w K mg base CX0 2 A.a_is_cover A.f_is_cover ["houses", "cover"] (sp_is_cover K):=by
  have nd:=sc_is_cover.nd
  have G_are_others:=ok_are_others (P:=P) (w:=w) (base:=base) T
  have G_is_lines:=ok_is_lines (P:=P) (w:=w) (base:=base) T
  have G_is_measure:=ok_is_measure (P:=P) (w:=w) (base:=base) T
  refine T.F_is_cover.ok sc_is_cover (fun vs H Q E h=>?_) (fun cdv Ar outer s H vs Q E hr h=>?_)
  · obtain ⟨h,p,r,rfl,_⟩:=h;rfl
  · skip
    obtain ⟨h,p,r,rfl,hr',kk⟩:=h
    refine PSs.rd (pss_cons (ps_if (pt_cmpR op_ne (pe_callB call_len_seq rfl T.b_len PySem.boot_len (pa_cons (pvI 1) pa_nil)) pe_int (nomark _))
      (pss_one (ps_ret pe_bl))
      pss_nil)
    (pss_cons (ps_asg (pvI 1) (pg_tup (n:=5) rfl (pgs_cons (pg_name (i:=2) nd rfl (Or.inl rfl)) (pgs_cons (pg_name (i:=3) nd rfl (Or.inl rfl)) (pgs_cons (pg_name (i:=4) nd rfl (Or.inl rfl)) (pgs_cons (pg_name (i:=5) nd rfl (Or.inl rfl)) (pgs_cons (pg_name (i:=6) nd rfl (Or.inl rfl)) pgs_nil)))))))
    (pss_cons (ps_if (pt_not (pt_chain op_leI op_ltI pe_int (pvI 2) (pvI 0)))
      (pss_one (ps_ret pe_bl))
      pss_nil)
    (pss_one (ps_ret (pe_and (pe_call (G_is_measure.mono (by decide)) hr rfl T.m_is_measure T.k_is_measure T.d_is_measure .nil pass0 (pa_cons (pvI 3) (pa_cons (pvI 4) (pa_cons (pvI 5) pa_nil)))) (pe_and (pe_call (G_is_lines.mono (by decide)) hr rfl T.m_is_lines T.k_is_lines T.d_is_lines .nil pass0 (pa_cons (pvI 6) pa_nil)) (pe_one (pe_call (G_are_others.mono (by decide)) hr rfl T.m_are_others T.k_are_others T.d_are_others .nil pass0 (pa_cons (pvI 0) (pa_cons (pvI 2) (pa_cons (pvI 6) pa_nil)))))))))))) ?_
    try dsimp only [L2.cxOf,L2.Cx.nox]
    cases r with
    | none=>
      refine byC fun hG=>?_
      obtain ⟨xs,hx,h5,_⟩:=hr'
      refine hG ?_
      refine ⟨_,rfl,p,xs,rfl,.inr hx,rfl,_,rfl,?_⟩
      rw [dec_intV]
      exact iteND (fun _=>kk H (Same.refl _)) (fun e=>absurd (by omega) h5)
    | some r=>
      refine byC fun hG=>?_
      obtain ⟨ho,k,b,m,L⟩:=r
      obtain ⟨lp,hp,hL,hl⟩:=hr'
      refine hG ?_
      refine ⟨_,rfl,p,_,rfl,.inr hp,rfl,_,rfl,iteF' (by rfl) ?_⟩
      refine ⟨_,rfl,p,_,rfl,hp,rfl,_,_,rfl,_,_,rfl,_,_,rfl,_,_,rfl,_,_,rfl,rfl,?_⟩
      have out:∀ H',Same H H'→isCoverB h (some (ho,k,b,m,L))=false→Q (.bl false) H':=fun H' s e=>by rw [← e];exact kk H' s
      refine ⟨_,rfl,_,_,rfl,rfl,_,rfl,iteD (fun g1=>?_) (fun g1=>?_)⟩
      case refine_2=>exact ⟨_,rfl,out H (Same.refl _) (by rw [isCoverB_some,decide_eq_false (fun z=>g1 z.1),Bool.false_and])⟩
      refine ⟨_,rfl,_,_,rfl,rfl,_,rfl,iteND (fun g2=>?_) (fun g2=>?_)⟩
      · exact out H (Same.refl _) (by rw [isCoverB_some,decide_eq_false (fun z=>g2 z.2),Bool.false_and])
      have e0:isCoverB h (some (ho,k,b,m,L))=(measB k b m && (isLinesB L && othersBL h ho L)):=by
        rw [isCoverB_some,decide_eq_true ⟨g1,g2⟩,Bool.true_and]
      rw [e0] at kk
      refine ⟨_,rfl,_,rfl,_,rfl,k,b,m,rfl,_,rfl,iteB (fun e1=>?_) (fun e1=>?_)⟩
      case refine_2=>rw [e1,Bool.false_and] at kk;exact kk H (Same.refl _)
      rw [e1,Bool.true_and] at kk
      refine ⟨_,rfl,lp,L,rfl,hL,by omega,fun H1 s1=>⟨_,rfl,iteB (fun e2=>?_) (fun e2=>?_)⟩⟩
      case refine_2=>rw [e2,Bool.false_and] at kk;exact kk H1 s1
      rw [e2,Bool.true_and] at kk
      exact ⟨_,rfl,_,rfl,_,rfl,h,ho,lp,L,rfl,hL.same s1,by omega,fun H2 s2=>kk H2 (s1.trans s2)⟩
def sp_wish (K:Frag):Sp:=fun vs H Q _=>∃ (k:Str) (b r:Int),vs=[.str k,.int b,.int r]∧(-(2 ^ 64) < r∧r < 2 ^ 64)∧Q (.int (wishZ k b r)) H
theorem sc_wish:FnScope ["kind", "by", "reach"] ["kind", "by", "reach"] (defScope s_wish):=⟨rfl,rfl,rfl,by decide +kernel,rfl,by decide +kernel,by decide +kernel⟩
set_option maxHeartbeats 4000000 in
theorem ok_wish (T:Txt w K mg A):FnOk P w K mg base CX0 1 A.a_wish A.f_wish ["kind", "by", "reach"] (sp_wish K):=by
  have nd:=sc_wish.nd
  refine T.F_wish.ok sc_wish (fun vs H Q E h=>?_) (fun cdv Ar outer s H vs Q E hr h=>?_)
  · obtain ⟨k,b,r,rfl,_⟩:=h;rfl
  · skip
    obtain ⟨k,b,r,rfl,hr1,kk⟩:=h
    refine PSs.rd (pss_cons (ps_if (pt_cmpR op_eq (pvI 0) pe_str (nomark _))
      (pss_one (ps_ret (pe_op op_fdivI (pe_op op_mulI (pvI 2) (pvI 1)) pe_int)))
      pss_nil)
    (pss_one (ps_ret (pe_callB (call_max2 rfl) rfl T.b_max boot_max (pa_cons pe_int (pa_cons (pe_op op_subI (pvI 2) (pvI 1)) pa_nil)))))) ?_
    try dsimp only [L2.cxOf,L2.Cx.nox]
    refine ⟨_,rfl,rfl,_,rfl,?_⟩
    rw [dec_strV]
    unfold wishZ at kk
    refine iteD (fun e=>?_) (fun e=>?_)
    · rw [if_pos e] at kk
      exact ⟨_,rfl,_,rfl,_,_,rfl,rfl,.inl hr1,_,_,rfl,rfl,cdiv,kk⟩
    · rw [if_neg e] at kk
      exact ⟨_,rfl,_,rfl,_,_,rfl,rfl,0,_,rfl,kk⟩
def sp_take (K:Frag):Sp:=fun vs H Q _=>∃ (k:Str) (b m r:Int),vs=[.str k,.int b,.int m,.int r]∧measB k b m=true∧0≤r∧r≤99999∧Q (.int (takeZ k b m r)) H
theorem sc_take:FnScope ["kind", "by", "most", "reach"] ["kind", "by", "most", "reach"] (defScope s_take):=⟨rfl,rfl,rfl,by decide +kernel,rfl,by decide +kernel,by decide +kernel⟩
set_option maxHeartbeats 4000000 in
theorem ok_take (T:Txt w K mg A):FnOk P w K mg base CX0 2 A.a_take A.f_take ["kind", "by", "most", "reach"] (sp_take K):=by
  have nd:=sc_take.nd
  have G_is_measure:=ok_is_measure (P:=P) (w:=w) (base:=base) T
  have G_wish:=ok_wish (P:=P) (w:=w) (base:=base) T
  refine T.F_take.ok sc_take (fun vs H Q E h=>?_) (fun cdv Ar outer s H vs Q E hr h=>?_)
  · obtain ⟨k,b,m,r,rfl,_⟩:=h;rfl
  · skip
    obtain ⟨k,b,m,r,rfl,hm,h0,h9,kk⟩:=h
    refine PSs.rd (pss_cons (ps_if (pt_not (pt_truth (pe_call (G_is_measure.mono (by decide)) hr rfl T.m_is_measure T.k_is_measure T.d_is_measure .nil pass0 (pa_cons (pvI 0) (pa_cons (pvI 1) (pa_cons (pvI 2) pa_nil)))) (fun _=>rfl)))
      (pss_one ps_never)
      pss_nil)
    (pss_cons (ps_if (pt_not (pt_chain op_leI op_leI pe_int (pvI 3) (pe_globI rfl T.c_MOST_REACH)))
      (pss_one ps_never)
      pss_nil)
    (pss_one (ps_ret (pe_callB (call_min2 rfl) rfl T.b_min boot_min (pa_cons (pvI 2) (pa_cons (pe_call (G_wish.mono (by decide)) hr rfl T.m_wish T.k_wish T.d_wish .nil pass0 (pa_cons (pvI 0) (pa_cons (pvI 1) (pa_cons (pvI 3) pa_nil)))) pa_nil))))))) ?_
    try dsimp only [L2.cxOf,L2.Cx.nox]
    refine ⟨_,rfl,_,rfl,_,rfl,k,b,m,rfl,_,rfl,?_⟩
    rw [hm]
    refine iteF ?_
    refine ⟨_,rfl,_,_,rfl,rfl,_,rfl,iteD (fun _=>?_) (fun h=>absurd h0 h)⟩
    refine ⟨_,_,rfl,rfl,_,rfl,iteND (fun h=>absurd h9 h) (fun _=>?_)⟩
    exact ⟨_,rfl,_,rfl,_,rfl,_,rfl,k,b,r,rfl,⟨by omega,by omega⟩,m,_,rfl,kk⟩
def sp_require_houses (K:Frag):Sp:=fun vs H Q _=>∃ h:Nat,vs=[.int h]∧1≤h∧h≤6∧Q .non H
theorem sc_require_houses:FnScope ["houses"] ["houses"] (defScope s_require_houses):=⟨rfl,rfl,rfl,by decide +kernel,rfl,by decide +kernel,by decide +kernel⟩
set_option maxHeartbeats 4000000 in
theorem ok_require_houses (T:Txt w K mg A):FnOk P w K mg base CX0 1 A.a_require_houses A.f_require_houses ["houses"] (sp_require_houses K):=by
  have nd:=sc_require_houses.nd
  refine T.F_require_houses.ok sc_require_houses (fun vs H Q E h=>?_) (fun cdv Ar outer s H vs Q E hr h=>?_)
  · obtain ⟨h,rfl,_⟩:=h;rfl
  · skip
    obtain ⟨h,rfl,h1,h6,kk⟩:=h
    refine PSs.rd (pss_one (ps_if (pt_not (pt_chain op_leI op_leI pe_int (pvI 0) (pe_op op_addI (pe_globI rfl T.c_LAST_HOUSE) pe_int)))
      (pss_one ps_never)
      pss_nil)) ?_
    try dsimp only [L2.cxOf,L2.Cx.nox]
    refine ⟨_,rfl,_,_,rfl,rfl,_,rfl,iteD (fun _=>?_) (fun h=>absurd (by omega) h)⟩
    exact ⟨_,_,rfl,rfl,_,_,rfl,rfl,_,rfl,iteND (fun h=>absurd (by omega) h) (fun _=>kk)⟩
def sp_require_house (K:Frag):Sp:=fun vs H Q _=>∃ (h j:Int),vs=[.int h,.int j]∧0≤j∧j < h∧Q .non H
theorem sc_require_house:FnScope ["houses", "house"] ["houses", "house"] (defScope s_require_house):=⟨rfl,rfl,rfl,by decide +kernel,rfl,by decide +kernel,by decide +kernel⟩
set_option maxHeartbeats 4000000 in
theorem ok_require_house (T:Txt w K mg A):FnOk P w K mg base CX0 1 A.a_require_house A.f_require_house ["houses", "house"] (sp_require_house K):=by
  have nd:=sc_require_house.nd
  refine T.F_require_house.ok sc_require_house (fun vs H Q E h=>?_) (fun cdv Ar outer s H vs Q E hr h=>?_)
  · obtain ⟨h,j,rfl,_⟩:=h;rfl
  · skip
    obtain ⟨h,j,rfl,h0,h1,kk⟩:=h
    refine PSs.rd (pss_one (ps_if (pt_not (pt_chain op_leI op_ltI pe_int (pvI 1) (pvI 0)))
      (pss_one ps_never)
      pss_nil)) ?_
    try dsimp only [L2.cxOf,L2.Cx.nox]
    refine ⟨_,rfl,_,_,rfl,rfl,_,rfl,iteD (fun _=>?_) (fun z=>absurd h0 z)⟩
    exact ⟨_,rfl,_,_,rfl,rfl,_,rfl,iteND (fun z=>absurd h1 z) (fun _=>kk)⟩
def sp_require_covers (K:Frag):Sp:=fun vs H Q _=>∃ (h:Nat) (cv:Addr) (us:List V) (cs:List Row),vs=[.int h,.ref cv]∧h≤6∧SqL K H cv us∧CovsAt K H us cs∧cs.length≤10∧(∀ c∈cs,GoodC h c)∧∀ H',Same H H'→Q .non H'
theorem sc_require_covers:FnScope ["houses", "covers", "number", "cover"] ["houses", "covers"] (defScope s_require_covers):=⟨rfl,rfl,rfl,by decide +kernel,rfl,by decide +kernel,by decide +kernel⟩
set_option maxHeartbeats 4000000 in
theorem ok_require_covers (T:Txt w K mg A):FnOk P w K mg base CX0 3 A.a_require_covers A.f_require_covers ["houses", "covers"] (sp_require_covers K):=by
  have nd:=sc_require_covers.nd
  have G_is_cover:=ok_is_cover (P:=P) (w:=w) (base:=base) T
  refine T.F_require_covers.ok sc_require_covers (fun vs H Q E h=>?_) (fun cdv Ar outer s H vs Q E hr h=>?_)
  · obtain ⟨h,cv,us,cs,rfl,_⟩:=h;rfl
  · skip
    obtain ⟨h,cv,us,cs,rfl,h6,hcv,hcs,h10,hg,kk⟩:=h
    have hlen:=hcs.len
    refine PSs.rd (pss_cons (ps_if (pt_cmpR op_gtI (pe_callB call_len_seq rfl T.b_len PySem.boot_len (pa_cons (pvI 1) pa_nil)) (pe_globI rfl T.c_MOST_COVERS) (nomark _))
      (pss_one ps_never)
      pss_nil)
    (pss_one (ps_for PassesOwn.never rfl (pi_enum rfl T.b_enumerate (pa_cons (pvI 1) pa_nil)) (pg_tup (n:=2) rfl (pgs_cons (pg_name (i:=2) nd rfl (Or.inl rfl)) (pgs_cons (pg_name (i:=3) nd rfl (Or.inl rfl)) pgs_nil)))
      (pss_one (ps_if (pt_not (pt_truth (pe_call (G_is_cover.mono (by decide)) hr rfl T.m_is_cover T.k_is_cover T.d_is_cover .nil pass0 (pa_cons (pvI 0) (pa_cons (pvI 3) pa_nil))) (fun _=>rfl)))
         (pss_one ps_never)
         pss_nil))))) ?_
    try dsimp only [L2.cxOf,L2.Cx.nox]
    refine ⟨_,rfl,cv,us,rfl,.inl hcv,_,_,rfl,rfl,_,rfl,iteD (fun h=>absurd h (by omega)) (fun _=>?_)⟩
    refine ⟨_,rfl,cv,us,rfl,hcv,for_enum (xs:=us) (fun i σ H'=>Same H H'∧∃ n c,σ=[some (.int h),some (.ref cv),n,c]) ⟨Same.refl H,none,none,rfl⟩ (fun i σ H' _ p=>p.1.seq hcv) ?_ ?_⟩
    · intro i x T σ H' hx zz1 hT
      refine byC fun hG=>?_
      obtain ⟨s1,n,c,rfl⟩:=zz1
      obtain ⟨cc,hc,p,rfl,hrow⟩:=(hcs.same (s1.trans (same_upd (o:=.tup [.int (i:Nat),x]) hT))).get hx
      refine hG ?_
      refine ⟨T,_,rfl,SqT.of upd_same,rfl,_,_,rfl,_,_,rfl,rfl,?_⟩
      refine ⟨_,rfl,_,rfl,h,p,some cc,rfl,hrow,fun H2 s2=>⟨_,rfl,?_⟩⟩
      rw [(goodC_iff (by omega)).mpr (hg cc (List.mem_of_getElem? hc))]
      exact iteF ⟨(s1.trans (same_upd hT)).trans s2,_,_,rfl⟩
    · intro σ H' zz2
      refine byC fun hG=>?_
      obtain ⟨s1,n,c,rfl⟩:=zz2
      refine hG ?_
      exact kk H' s1
def sp_require_losses (K:Frag):Sp:=fun vs H Q _=>∃ (h:Nat) (lo:Addr) (ls:List Int),vs=[.int h,.ref lo]∧h≤6∧SqL K H lo (ls.map V.int)∧ls.length=h∧(∀ x∈ls,0≤x∧x≤9999)∧∀ H',Same H H'→Q .non H'
theorem sc_require_losses:FnScope ["houses", "losses"] ["houses", "losses"] (defScope s_require_losses):=⟨rfl,rfl,rfl,by decide +kernel,rfl,by decide +kernel,by decide +kernel⟩
set_option maxHeartbeats 4000000 in
theorem ok_require_losses (T:Txt w K mg A):FnOk P w K mg base CX0 1 A.a_require_losses A.f_require_losses ["houses", "losses"] (sp_require_losses K):=by
  have nd:=sc_require_losses.nd
  refine T.F_require_losses.ok sc_require_losses (fun vs H Q E h=>?_) (fun cdv Ar outer s H vs Q E hr h=>?_)
  · obtain ⟨h,lo,ls,rfl,_⟩:=h;rfl
  · skip
    obtain ⟨h,lo,ls,rfl,h6,hlo,hl,hb,kk⟩:=h
    refine PSs.rd (pss_cons (ps_if (pt_cmpR op_ne (pe_callB call_len_seq rfl T.b_len PySem.boot_len (pa_cons (pvI 1) pa_nil)) (pvI 0) (nomark _))
      (pss_one ps_never)
      pss_nil)
    (pss_one (ps_if (pt_not (pt_truth (pe_callB (call_allB rfl) rfl T.b_all boot_all (pa_cons (lcA (defScope s_require_losses) (pi_list (pvI 1)) (fun _ _ _ _ _=>pgc 1) (fun _ _ _ _ _=>pts_nil) (fun _ _ _ _ _=>(pe_chain op_leI op_leI pe_int (pvI 1) (pe_globI rfl T.c_MOST_LOSS)))) pa_nil)) (fun _=>rfl)))
      (pss_one ps_never)
      pss_nil))) ?_
    try dsimp only [L2.cxOf,L2.Cx.nox]
    refine ⟨_,rfl,lo,_,rfl,.inl hlo,_,rfl,rfl,_,rfl,iteF' ?_ ?_⟩
    · rw [List.length_map,hl,decide_eq_true rfl];rfl
    refine ⟨_,rfl,lo,rfl,⟨_,hlo⟩,?_⟩
    refine lc_by (ws:=(ls.map fun _=>true).map V.bl) (itOf_list hlo) (fun σ=>∃ x y z,σ=[x,y,z]) ⟨_,_,_,rfl⟩ (by rw [List.length_map,List.length_map,List.length_map]) (Nat.le_of_lt (small_line (by rw [List.length_map];omega))) ?_ ?_
    · intro i x w σ2 H2 Qt Qf hx hk s2 zz1 q
      refine byC fun hG=>?_
      obtain ⟨a,b,c,rfl⟩:=zz1
      refine hG ?_
      rw [List.getElem?_map] at hx
      refine byC fun hG=>?_
      obtain ⟨z,hz,rfl⟩:=Option.map_eq_some_iff.mp hx
      have hzb:=hb z (List.mem_of_getElem? hz)
      have hw:w=V.bl true:=by
        rw [List.map_map,List.getElem?_map,hz] at hk
        cases hk;rfl
      refine hG ?_
      refine ⟨_,rfl,_,_,rfl,rfl,_,rfl,iteD (fun _=>?_) (fun h=>absurd hzb.1 h)⟩
      refine ⟨_,_,rfl,rfl,?_⟩
      try dsimp only
      rw [decide_eq_true hzb.2,← hw]
      exact q _ ⟨_,_,_,rfl⟩
    intro D hD
    refine ⟨D,ls.map fun _=>true,rfl,SqL.of upd_same,_,rfl,?_⟩
    have e:(ls.map fun _=>true).all id=true:=by rw [List.all_map];simp
    rw [e]
    exact iteF (kk _ (same_upd hD))
def sp_Table___init__ (K:Frag) (A:Adr):Sp:=fun vs H Q _=>∃ (t dx cv lo:Addr) (h:Nat) (us:List V) (cs:List Row) (ls:List Int),vs=[.ref t,.int h,.ref cv,.ref lo]∧H t=some (.ins A.c_Table dx [])∧SqL K H cv us∧CovsAt K H us cs∧SqL K H lo (ls.map V.int)∧GoodT h cs ls∧
  ∀ H',(∀ b o,b≠t→H b=some o→H' b=some o)→TabAt A.c_Table K H' t h cs ls→Q .non H'
theorem sc_Table___init__:FnScope ["self", "houses", "covers", "losses"] ["self", "houses", "covers", "losses"] (defScope s_Table___init__):=⟨rfl,rfl,rfl,by decide +kernel,rfl,by decide +kernel,by decide +kernel⟩
set_option maxHeartbeats 4000000 in
theorem ok_Table___init__ (T:Txt w K mg A):FnOk P w K mg base CX0 4 A.a_Table___init__ A.f_Table___init__ ["self", "houses", "covers", "losses"] (sp_Table___init__ K A):=by
  have nd:=sc_Table___init__.nd
  have G_bearers:=ok_bearers (P:=P) (w:=w) (base:=base) T
  have G_require_covers:=ok_require_covers (P:=P) (w:=w) (base:=base) T
  have G_require_houses:=ok_require_houses (P:=P) (w:=w) (base:=base) T
  have G_require_losses:=ok_require_losses (P:=P) (w:=w) (base:=base) T
  refine T.F_Table___init__.ok sc_Table___init__ (fun vs H Q E h=>?_) (fun cdv Ar outer s H vs Q E hr h=>?_)
  · obtain ⟨t,dx,cv,lo,h,us,cs,ls,rfl,_⟩:=h;rfl
  · skip
    obtain ⟨t,dx,cv,lo,h,us,cs,ls,rfl,ht,hcv,hcs,hlo,g,kk⟩:=h
    have hlen:=hcs.len
    have g10:=g.c10
    refine PSs.rd (pss_cons (ps_expr (pe_call (G_require_houses.mono (by decide)) hr rfl T.m_require_houses T.k_require_houses T.d_require_houses .nil pass0 (pa_cons (pvI 1) pa_nil)))
    (pss_cons (ps_expr (pe_call (G_require_covers.mono (by decide)) hr rfl T.m_require_covers T.k_require_covers T.d_require_covers .nil pass0 (pa_cons (pvI 1) (pa_cons (pvI 2) pa_nil))))
    (pss_cons (ps_expr (pe_call (G_require_losses.mono (by decide)) hr rfl T.m_require_losses T.k_require_losses T.d_require_losses .nil pass0 (pa_cons (pvI 1) (pa_cons (pvI 3) pa_nil))))
    (pss_cons (ps_fld (pvI 0) (pvI 1) rfl)
    (pss_cons (ps_fld (pvI 0) (pe_callTy call_list_of rfl T.b_list boot_ty_list (pa_cons (pvI 2) pa_nil)) rfl)
    (pss_cons (ps_fld (pvI 0) (pe_callTy call_list_of rfl T.b_list boot_ty_list (pa_cons (pvI 3) pa_nil)) rfl)
    (pss_one (ps_fld (pvI 0) (lcA (defScope s_Table___init__) (pi_list (pvI 2)) (fun _ _ _ _ _=>pgc5 1 2 3 4 5) (fun _ _ _ _ _=>pts_nil) (fun _ _ _ _ _=>(pe_call (G_bearers.mono (by decide)) hr rfl T.m_bearers T.k_bearers T.d_bearers .nil pass0 (pa_cons (pvI 5) (pa_cons (pvI 4) pa_nil))))) rfl)))))))) ?_
    try dsimp only [L2.cxOf,L2.Cx.nox]
    refine ⟨_,rfl,h,rfl,g.h1,g.h6,?_⟩
    refine ⟨_,rfl,_,rfl,h,cv,us,cs,rfl,g.h6,hcv,hcs,g.c10,g.cov,fun H1 s1=>?_⟩
    refine ⟨_,rfl,_,rfl,h,lo,ls,rfl,g.h6,s1.seq hlo,g.ll,g.lb,fun H2 s2=>?_⟩
    have s12:=s1.trans s2
    have ht2:=s12 _ _ ht
    refine ⟨_,rfl,_,rfl,t,_,dx,_,rfl,ht2,T.cl_Table,T.na_Table_house_count,by show 0 < 1000;decide,?_⟩
    have seqB:∀ {a:Addr} {xs:List V} {H':Hp},SqL K H2 a xs→(∀ b o,b≠t→H2 b=some o→H' b=some o)→SqL K H' a xs:=fun {a xs H'} hh ss=>by
      rcases hh with (hh | ⟨ob,hh⟩) | hh
      · exact .inl (.inl (ss a _ (fun z=>by rw [z,ht2] at hh;cases hh) hh))
      · exact .inl (.inr ⟨ob,ss a _ (fun z=>by rw [z,ht2] at hh;cases hh) hh⟩)
      · exact .inr hh
    have covB:∀ {H':Hp},(∀ b o,b≠t→H2 b=some o→H' b=some o)→CovsAt K H' us cs:=fun {H'} ss=>CovsAt.but (hcs.same s12) ht2 (fun _ z=>by cases z) (fun _ _ z=>by cases z) ss
    generalize eH3:upd H2 t (.ins A.c_Table dx (putF "house_count" (.int h) []))=H3
    have b3:∀ b o,b≠t→H2 b=some o→H3 b=some o:=fun b o n e=>by rw [← eH3,upd_ne n];exact e
    have ht3:H3 t=some (.ins A.c_Table dx (putF "house_count" (.int h) [])):=by rw [← eH3,upd_same]
    refine ⟨_,rfl,cv,us,rfl,.inl (seqB (s12.seq hcv) b3),fun a ha=>?_⟩
    refine ⟨_,rfl,t,_,dx,_,rfl,(same_upd ha) _ _ ht3,T.cl_Table,T.na_Table_cover_rows,by show 1 < 1000;decide,?_⟩
    have nat:a≠t:=fun z=>by rw [z,ht3] at ha;cases ha
    generalize eH4:upd (upd H3 a (.lst us)) t _=H4
    have b4:∀ b o,b≠t→H2 b=some o→H4 b=some o:=fun b o n e=>by rw [← eH4,upd_ne n];exact (same_upd ha) _ _ (b3 b o n e)
    have ha4:H4 a=some (.lst us):=by rw [← eH4,upd_ne nat,upd_same]
    have ht4:H4 t=some (.ins A.c_Table dx (putF "cover_rows" (.ref a) (putF "house_count" (.int h) []))):=by rw [← eH4,upd_same]
    refine ⟨_,rfl,lo,_,rfl,.inl (seqB (s12.seq hlo) b4),fun b hb=>?_⟩
    refine ⟨_,rfl,t,_,dx,_,rfl,(same_upd hb) _ _ ht4,T.cl_Table,T.na_Table_befallen,by show 2 < 1000;decide,?_⟩
    have nbt:b≠t:=fun z=>by rw [z,ht4] at hb;cases hb
    have nba:a≠b:=fun z=>by rw [← z,ha4] at hb;cases hb
    generalize eH5:upd (upd H4 b (.lst (ls.map V.int))) t _=H5
    have b5:∀ b o,b≠t→H2 b=some o→H5 b=some o:=fun b o n e=>by rw [← eH5,upd_ne n];exact (same_upd hb) _ _ (b4 b o n e)
    have ha5:H5 a=some (.lst us):=by rw [← eH5,upd_ne nat,upd_ne nba];exact ha4
    have hb5:H5 b=some (.lst (ls.map V.int)):=by rw [← eH5,upd_ne nbt,upd_same]
    have ht5:H5 t=some (.ins A.c_Table dx (putF "befallen" (.ref b) (putF "cover_rows" (.ref a) (putF "house_count" (.int h) [])))):=by rw [← eH5,upd_same]
    have hcv5:=seqB (s12.seq hcv) b5
    have hcs5:CovsAt K H5 us cs:=covB b5
    refine ⟨_,rfl,cv,rfl,⟨us,hcv5⟩,?_⟩
    refine lc_growD (itG_of (itOf_list hcv5)) (fun σ=>∃ x0 x1 x2 x3 x4 x5 x6,σ=[x0,x1,x2,x3,x4,x5,x6])
      (fun D i ys H'=>∃ qs:List Addr,ys=qs.map V.ref∧qs.length=i∧(∀ q∈qs,q≠D)∧∀ (k:Nat) (cc:Row) (q:Addr),cs[k]? = some cc→qs[k]? = some q→H' q=some (.lst ((bearersL cc.2.2.2.2 cc.2.2.2.1.toNat).map V.int)))
      ⟨_,_,_,_,_,_,_,rfl⟩ (Nat.le_of_lt (small_line (by omega))) ?_ ?_ ?_ ?_ ?_
    · exact fun D H'=>⟨[],rfl,rfl,fun q hq=>by simp at hq,fun k cc q _ e=>by simp at e⟩
    · intro D i ys H' H6 zz1 s6
      refine byC fun hG=>?_
      obtain ⟨qs,e1,e2,e3,e4⟩:=zz1
      refine hG ?_
      exact ⟨qs,e1,e2,e3,fun k cc q z1 z2=>s6 _ _ (e4 k cc q z1 z2)⟩
    · intro D i ys zs H' o hD zz2
      refine byC fun hG=>?_
      obtain ⟨qs,e1,e2,e3,e4⟩:=zz2
      refine hG ?_
      exact ⟨qs,e1,e2,e3,fun k cc q z1 z2=>by rw [upd_ne (e3 q (List.mem_of_getElem? z2))];exact e4 k cc q z1 z2⟩
    · intro D i x ys σ2 H' Qt Qf hi hyl hx hD s6 zz3 zz4 q
      refine byC fun hG=>?_
      obtain ⟨x0,x1,x2,x3,x4,x5,x6,rfl⟩:=zz3
      obtain ⟨qs,rfl,e2,e3,e4⟩:=zz4
      obtain ⟨cc,hc,p,rfl,lp,hrow,hL,hLl⟩:=(hcs5.same s6).get hx
      have gc:=g.cov cc (List.mem_of_getElem? hc)
      have gm:=gc.most
      have gl4:=gc.gl.l4
      refine hG ?_
      refine ⟨p,_,rfl,hrow,rfl,_,_,rfl,_,_,rfl,_,_,rfl,_,_,rfl,_,_,rfl,rfl,?_⟩
      have em:cc.2.2.2.1=((cc.2.2.2.1.toNat:Nat):Int):=by omega
      refine ⟨_,rfl,_,rfl,lp,cc.2.2.2.1.toNat,cc.2.2.2.2,by show [V.ref lp,V.int _]=_;rw [← em],hL,gc.gl.l1,by omega,gc.gl.small,by omega,fun r H6 hr6 s7 e6=>?_⟩
      refine q _ _ _ ⟨_,_,_,_,_,_,_,rfl⟩ s7 ⟨qs ++ [r],by rw [List.map_append];rfl,by rw [List.length_append,e2];rfl,?_,?_⟩
      · intro q' hq'
        rcases List.mem_append.mp hq' with hq' | hq'
        · exact e3 q' hq'
        · rw [List.mem_singleton.mp hq'];exact fun z=>by rw [z,hD] at hr6;cases hr6
      · intro k c' q' z1 z2
        by_cases hk:k < qs.length
        · rw [List.getElem?_append_left hk] at z2;exact s7 _ _ (e4 k c' q' z1 z2)
        · have hlt:=get_lt z2
          rw [List.length_append,List.length_singleton] at hlt
          have ek:k=i:=by omega
          subst ek
          rw [List.getElem?_append_right (by omega),e2,Nat.sub_self] at z2
          simp at z2;subst z2
          rw [hc] at z1;cases z1
          exact e6
    · intro D H6 ys hD s6 hD6 hyl zz5
      refine byC fun hG=>?_
      obtain ⟨qs,rfl,e2,e3,e4⟩:=zz5
      have nDt:D≠t:=fun z=>by rw [z,ht5] at hD;cases hD
      refine hG ?_
      refine ⟨_,rfl,t,_,dx,_,rfl,s6 _ _ ht5,T.cl_Table,T.na_Table_crown_bearers,by show 3 < 1000;decide,?_⟩
      refine kk _ (fun z o n e=>by rw [upd_ne n];exact s6 _ _ (b5 z o n (s12 _ _ e))) ⟨⟨dx,a,b,D,us,qs,upd_same,?_,?_,?_,?_,by omega,fun k cc q z1 z2=>?_⟩,g⟩
      · rw [upd_ne nat];exact s6 _ _ ha5
      · exact CovsAt.but (hcs5.same s6) (s6 _ _ ht5) (fun _ z=>by cases z) (fun _ _ z=>by cases z) fun z o n e=>by rw [upd_ne n];exact e
      · rw [upd_ne nbt];exact s6 _ _ hb5
      · rw [upd_ne nDt];exact hD6
      · have:=e4 k cc q z1 z2
        rw [upd_ne (ne_of this (s6 _ _ ht5) (by intro z;cases z))];exact this
def sp_Table_houses (K:Frag) (A:Adr):Sp:=fun vs H Q _=>∃ (t:Addr) (h:Nat) (cs:List Row) (ls:List Int),vs=[.ref t]∧TabAt A.c_Table K H t h cs ls∧Q (.int h) H
theorem sc_Table_houses:FnScope ["self"] ["self"] (defScope s_Table_houses):=⟨rfl,rfl,rfl,by decide +kernel,rfl,by decide +kernel,by decide +kernel⟩
set_option maxHeartbeats 4000000 in
theorem ok_Table_houses (T:Txt w K mg A):FnOk P w K mg base CX0 1 A.a_Table_houses A.f_Table_houses ["self"] (sp_Table_houses K A):=by
  have nd:=sc_Table_houses.nd
  refine T.F_Table_houses.ok sc_Table_houses (fun vs H Q E h=>?_) (fun cdv Ar outer s H vs Q E hr h=>?_)
  · obtain ⟨t,h,cs,ls,rfl,_⟩:=h;rfl
  · skip
    obtain ⟨t,h,cs,ls,rfl,hT,kk⟩:=h
    obtain ⟨dx,a,b,c,us,qs,ht,ha,hcs,hb,hc,hq,hqs⟩:=hT.ex
    refine PSs.rd (pss_one (ps_ret (pe_fld (pvI 0) rfl))) ?_
    try dsimp only [L2.cxOf,L2.Cx.nox]
    exact ⟨_,rfl,t,_,dx,_,_,rfl,ht,T.cl_Table,T.na_Table_house_count,tabF_houses,kk⟩
def sp_Table_covers (K:Frag) (A:Adr):Sp:=fun vs H Q _=>∃ (t:Addr) (h:Nat) (cs:List Row) (ls:List Int),vs=[.ref t]∧TabAt A.c_Table K H t h cs ls∧∀ r us H',H r=none→Same H H'→H' r=some (.lst us)→CovsAt K H' us cs→Q (.ref r) H'
theorem sc_Table_covers:FnScope ["self"] ["self"] (defScope s_Table_covers):=⟨rfl,rfl,rfl,by decide +kernel,rfl,by decide +kernel,by decide +kernel⟩
set_option maxHeartbeats 4000000 in
theorem ok_Table_covers (T:Txt w K mg A):FnOk P w K mg base CX0 1 A.a_Table_covers A.f_Table_covers ["self"] (sp_Table_covers K A):=by
  have nd:=sc_Table_covers.nd
  refine T.F_Table_covers.ok sc_Table_covers (fun vs H Q E h=>?_) (fun cdv Ar outer s H vs Q E hr h=>?_)
  · obtain ⟨t,h,cs,ls,rfl,_⟩:=h;rfl
  · skip
    obtain ⟨t,h,cs,ls,rfl,hT,kk⟩:=h
    obtain ⟨dx,a,b,c,us,qs,ht,ha,hcs,hb,hc,hq,hqs⟩:=hT.ex
    refine PSs.rd (pss_one (ps_ret (pe_callTy call_list_of rfl T.b_list boot_ty_list (pa_cons (pe_fld (pvI 0) rfl) pa_nil)))) ?_
    try dsimp only [L2.cxOf,L2.Cx.nox]
    refine ⟨_,rfl,t,_,dx,_,_,rfl,ht,T.cl_Table,T.na_Table_cover_rows,tabF_covers,a,_,rfl,.inl (SqL.of ha),fun r hr=>?_⟩
    exact kk r us _ hr (same_upd hr) upd_same (hcs.same (same_upd hr))
def sp_Table_losses (K:Frag) (A:Adr):Sp:=fun vs H Q _=>∃ (t:Addr) (h:Nat) (cs:List Row) (ls:List Int),vs=[.ref t]∧TabAt A.c_Table K H t h cs ls∧∀ r H',H r=none→Same H H'→H' r=some (.lst (ls.map V.int))→Q (.ref r) H'
theorem sc_Table_losses:FnScope ["self"] ["self"] (defScope s_Table_losses):=⟨rfl,rfl,rfl,by decide +kernel,rfl,by decide +kernel,by decide +kernel⟩
set_option maxHeartbeats 4000000 in
theorem ok_Table_losses (T:Txt w K mg A):FnOk P w K mg base CX0 1 A.a_Table_losses A.f_Table_losses ["self"] (sp_Table_losses K A):=by
  have nd:=sc_Table_losses.nd
  refine T.F_Table_losses.ok sc_Table_losses (fun vs H Q E h=>?_) (fun cdv Ar outer s H vs Q E hr h=>?_)
  · obtain ⟨t,h,cs,ls,rfl,_⟩:=h;rfl
  · skip
    obtain ⟨t,h,cs,ls,rfl,hT,kk⟩:=h
    obtain ⟨dx,a,b,c,us,qs,ht,ha,hcs,hb,hc,hq,hqs⟩:=hT.ex
    refine PSs.rd (pss_one (ps_ret (pe_callTy call_list_of rfl T.b_list boot_ty_list (pa_cons (pe_fld (pvI 0) rfl) pa_nil)))) ?_
    try dsimp only [L2.cxOf,L2.Cx.nox]
    refine ⟨_,rfl,t,_,dx,_,_,rfl,ht,T.cl_Table,T.na_Table_befallen,tabF_losses,b,_,rfl,.inl (SqL.of hb),fun r hr=>?_⟩
    exact kk r _ hr (same_upd hr) upd_same
def sp_Table_mosts (K:Frag) (A:Adr):Sp:=fun vs H Q _=>∃ (t:Addr) (h:Nat) (cs:List Row) (ls:List Int),vs=[.ref t]∧TabAt A.c_Table K H t h cs ls∧∀ r H',H r=none→Same H H'→H' r=some (.lst ((cs.map fun c=>c.2.2.2.1).map V.int))→Q (.ref r) H'
theorem sc_Table_mosts:FnScope ["self"] ["self"] (defScope s_Table_mosts):=⟨rfl,rfl,rfl,by decide +kernel,rfl,by decide +kernel,by decide +kernel⟩
set_option maxHeartbeats 4000000 in
theorem ok_Table_mosts (T:Txt w K mg A):FnOk P w K mg base CX0 1 A.a_Table_mosts A.f_Table_mosts ["self"] (sp_Table_mosts K A):=by
  have nd:=sc_Table_mosts.nd
  refine T.F_Table_mosts.ok sc_Table_mosts (fun vs H Q E h=>?_) (fun cdv Ar outer s H vs Q E hr h=>?_)
  · obtain ⟨t,h,cs,ls,rfl,_⟩:=h;rfl
  · skip
    obtain ⟨t,h,cs,ls,rfl,hT,kk⟩:=h
    obtain ⟨dx,a,b,c,us,qs,ht,ha,hcs,hb,hc,hq,hqs⟩:=hT.ex
    have hlen:=hcs.len
    have g10:=hT.good.c10
    refine PSs.rd (pss_one (ps_ret (lcA (defScope s_Table_mosts) (pi_list (pe_fld (pvI 0) rfl)) (fun _ _ _ _ _=>pgc5 1 2 3 4 5) (fun _ _ _ _ _=>pts_nil) (fun _ _ _ _ _=>(pvI 4))))) ?_
    try dsimp only [L2.cxOf,L2.Cx.nox]
    refine ⟨_,rfl,t,_,dx,_,_,rfl,ht,T.cl_Table,T.na_Table_cover_rows,tabF_covers,a,rfl,⟨us,SqL.of ha⟩,?_⟩
    refine lc_by (ws:=(cs.map fun c=>c.2.2.2.1).map V.int) (itOf_list (SqL.of ha)) (fun σ=>∃ x0 x1 x2 x3 x4 x5,σ=[x0,x1,x2,x3,x4,x5]) ⟨_,_,_,_,_,_,rfl⟩ (by rw [List.length_map,List.length_map];exact hlen.symm) (Nat.le_of_lt (small_line (by omega))) ?_ ?_
    · intro i x w σ2 H2 Qt Qf hx hk s2 zz1 q
      refine byC fun hG=>?_
      obtain ⟨x0,x1,x2,x3,x4,x5,rfl⟩:=zz1
      obtain ⟨cc,hc',p,rfl,lp,hrow,hL,hLl⟩:=(hcs.same s2).get hx
      refine hG ?_
      rw [List.map_map,List.getElem?_map,hc'] at hk
      cases hk
      exact ⟨p,_,rfl,hrow,rfl,_,_,rfl,_,_,rfl,_,_,rfl,_,_,rfl,_,_,rfl,rfl,_,rfl,q _ ⟨_,_,_,_,_,_,rfl⟩⟩
    intro r hr
    exact kk r _ hr (same_upd hr) upd_same
def sp_Table_more (K:Frag) (A:Adr):Sp:=fun vs H Q _=>∃ (t:Addr) (h:Nat) (cs:List Row) (ls:List Int) (j:Nat) (k:Int),vs=[.ref t,.int j,.int k]∧TabAt A.c_Table K H t h cs ls∧j < h∧0≤ls.getD j 0+k∧ls.getD j 0+k≤9999∧∀ r H',H r=none→Same H H'→TabAt A.c_Table K H' r h cs (moreL ls j k)→Q (.ref r) H'
theorem sc_Table_more:FnScope ["self", "house", "crowns", "losses"] ["self", "house", "crowns"] (defScope s_Table_more):=⟨rfl,rfl,rfl,by decide +kernel,rfl,by decide +kernel,by decide +kernel⟩
set_option maxHeartbeats 4000000 in
theorem ok_Table_more (T:Txt w K mg A):FnOk P w K mg base CX0 6 A.a_Table_more A.f_Table_more ["self", "house", "crowns"] (sp_Table_more K A):=by
  have nd:=sc_Table_more.nd
  have G_Table___init__:=ok_Table___init__ (P:=P) (w:=w) (base:=base) T
  have G_Table_losses:=ok_Table_losses (P:=P) (w:=w) (base:=base) T
  have G_require_house:=ok_require_house (P:=P) (w:=w) (base:=base) T
  refine T.F_Table_more.ok sc_Table_more (fun vs H Q E h=>?_) (fun cdv Ar outer s H vs Q E hr h=>?_)
  · obtain ⟨t,h,cs,ls,j,k,rfl,_⟩:=h;rfl
  · skip
    obtain ⟨t,h,cs,ls,j,k,rfl,hT,hj,h0,h9,kk⟩:=h
    have g:=hT.good
    have gll:=g.ll
    obtain ⟨dx,a,b,c,us,qs,ht,ha,hcs,hb,hc,hq,hqs⟩:=hT.ex
    refine PSs.rd (pss_cons (ps_expr (pe_call (G_require_house.mono (by decide)) hr rfl T.m_require_house T.k_require_house T.d_require_house .nil pass0 (pa_cons (pe_fld (pvI 0) rfl) (pa_cons (pvI 1) pa_nil))))
    (pss_cons (ps_set (i:=3) nd rfl (Or.inl rfl) (pe_meth0 (pvI 0) T.cl_Table T.me_Table_losses (G_Table_losses.mono (by decide)) hr T.d_Table_losses .nil pass0))
    (pss_cons (ps_augS (pvI 3) (pvI 1) get_listG (pvI 2) ip_add set_list)
    (pss_one (ps_ret (pe_make T.mk_Table (G_Table___init__.mono (by decide)) hr rfl T.mc_Table T.d_Table___init__ .nil pass0 (pa_cons (pe_fld (pvI 0) rfl) (pa_cons (pe_fld (pvI 0) rfl) (pa_cons (pvI 3) pa_nil))))))))) ?_
    try dsimp only [L2.cxOf,L2.Cx.nox]
    refine ⟨_,rfl,t,_,dx,_,_,rfl,ht,T.cl_Table,T.na_Table_house_count,tabF_houses,_,rfl,h,j,rfl,by omega,by omega,?_⟩
    refine ⟨_,rfl,t,dx,_,rfl,ht,tabF_no (by decide +kernel) (by decide +kernel) (by decide +kernel) (by decide +kernel),t,h,cs,ls,rfl,hT,fun r H1 hr s1 hr1=>?_⟩
    have hjl:j < ls.length:=by omega
    refine ⟨_,rfl,_,rfl,r,_,j,.int (ls.getD j 0),rfl,rfl,SqL.of hr1,?_,_,rfl,_,_,rfl,rfl,?_⟩
    · rw [List.getElem?_map,List.getElem?_eq_getElem hjl,Option.map_some,getD_of (List.getElem?_eq_getElem hjl)]
    refine ⟨r,_,_,j,rfl,rfl,hr1,ixN_nat (by rw [List.length_map];exact hjl),?_⟩
    have e2:(ls.map V.int).set j (.int (ls.getD j 0+k))=(moreL ls j k).map V.int:=by unfold moreL;rw [List.map_set]
    rw [e2]
    have s2:Same H (upd H1 r (.lst ((moreL ls j k).map V.int))):=upd_same_of s1 hr
    refine ⟨_,rfl,t,_,dx,_,_,rfl,s2 _ _ ht,T.cl_Table,T.na_Table_house_count,tabF_houses,_,rfl,t,_,dx,_,_,rfl,s2 _ _ ht,T.cl_Table,T.na_Table_cover_rows,tabF_covers,_,rfl,fun x dx' hx hdx ndx=>?_⟩
    have m3:=make_pre (o1:=.ins A.c_Table dx' []) (o2:=.own x) hx hdx
    have s3:=s2.trans m3
    exact ⟨x,dx',a,r,h,us,cs,moreL ls j k,rfl,upd_same,SqL.of (s3 _ _ ha),hcs.same s3,SqL.of (m3 _ _ upd_same),more_good g h0 h9,fun H4 s4' hT4=>⟨rfl,kk x H4 (s2.free hx) (s2.trans (make_same hx hdx s4')) hT4⟩⟩
def sp_nought (K:Frag) (A:Adr):Sp:=fun vs H Q _=>∃ (t:Addr) (h:Nat) (cs:List Row) (ls:List Int),vs=[.ref t]∧TabAt A.c_Table K H t h cs ls∧∀ r H',H r=none→Same H H'→H' r=some (.lst ((List.replicate cs.length (0:Int)).map V.int))→Q (.ref r) H'
theorem sc_nought:FnScope ["table"] ["table"] (defScope s_nought):=⟨rfl,rfl,rfl,by decide +kernel,rfl,by decide +kernel,by decide +kernel⟩
set_option maxHeartbeats 4000000 in
theorem ok_nought (T:Txt w K mg A):FnOk P w K mg base CX0 2 A.a_nought A.f_nought ["table"] (sp_nought K A):=by
  have nd:=sc_nought.nd
  have G_Table_mosts:=ok_Table_mosts (P:=P) (w:=w) (base:=base) T
  refine T.F_nought.ok sc_nought (fun vs H Q E h=>?_) (fun cdv Ar outer s H vs Q E hr h=>?_)
  · obtain ⟨t,h,cs,ls,rfl,_⟩:=h;rfl
  · skip
    obtain ⟨t,h,cs,ls,rfl,hT,kk⟩:=h
    obtain ⟨dx,a,b,c,us,qs,ht,_⟩:=hT.ex
    have g10:=hT.good.c10
    refine PSs.rd (pss_one (ps_ret (lcA (defScope s_nought) (pi_list (pe_meth0 (pvI 0) T.cl_Table T.me_Table_mosts (G_Table_mosts.mono (by decide)) hr T.d_Table_mosts .nil pass0)) (fun _ _ _ _ _=>pgc 1) (fun _ _ _ _ _=>pts_nil) (fun _ _ _ _ _=>pe_int)))) ?_
    try dsimp only [L2.cxOf,L2.Cx.nox]
    refine ⟨_,rfl,t,dx,_,rfl,ht,tabF_no (by decide +kernel) (by decide +kernel) (by decide +kernel) (by decide +kernel),t,h,cs,ls,rfl,hT,fun r H1 hr s1 hr1=>?_⟩
    refine ⟨r,rfl,⟨_,SqL.of hr1⟩,?_⟩
    refine lc_by (ws:=(List.replicate cs.length (0:Int)).map V.int) (itOf_list (SqL.of hr1)) (fun σ=>∃ x y,σ=[x,y]) ⟨_,_,rfl⟩ (by rw [List.length_map,List.length_replicate,List.length_map,List.length_map]) (Nat.le_of_lt (small_line (by rw [List.length_map,List.length_map];omega))) ?_ ?_
    · intro i x w σ2 H2 Qt Qf hx hk s2 zz1 q
      refine byC fun hG=>?_
      obtain ⟨x0,y0,rfl⟩:=zz1
      refine hG ?_
      rw [List.getElem?_map,List.getElem?_replicate] at hk
      split at hk
      · cases hk
        exact q _ ⟨_,_,rfl⟩
      · cases hk
    intro r2 hr2
    exact kk r2 _ (s1.free hr2) (s1.trans (same_upd hr2)) upd_same
def sp_require_account (K:Frag) (A:Adr):Sp:=fun vs H Q _=>∃ (t ac:Addr) (h:Nat) (cs:List Row) (ls acc:List Int),vs=[.ref t,.ref ac]∧TabAt A.c_Table K H t h cs ls∧SqL K H ac (acc.map V.int)∧AccOk cs acc∧∀ H',Same H H'→Q .non H'
theorem sc_require_account:FnScope ["table", "account", "mosts"] ["table", "account"] (defScope s_require_account):=⟨rfl,rfl,rfl,by decide +kernel,rfl,by decide +kernel,by decide +kernel⟩
set_option maxHeartbeats 4000000 in
theorem ok_require_account (T:Txt w K mg A):FnOk P w K mg base CX0 2 A.a_require_account A.f_require_account ["table", "account"] (sp_require_account K A):=by
  have nd:=sc_require_account.nd
  have G_Table_mosts:=ok_Table_mosts (P:=P) (w:=w) (base:=base) T
  refine T.F_require_account.ok sc_require_account (fun vs H Q E h=>?_) (fun cdv Ar outer s H vs Q E hr h=>?_)
  · obtain ⟨t,ac,h,cs,ls,acc,rfl,_⟩:=h;rfl
  · skip
    obtain ⟨t,ac,h,cs,ls,acc,rfl,hT,hac,hA,kk⟩:=h
    obtain ⟨dx,a,b,c,us,qs,ht,ha,hcs,hb,hc,hq,hqs⟩:=hT.ex
    have g10:=hT.good.c10
    have hal:=hA.len
    refine PSs.rd (pss_cons (ps_set (i:=2) nd rfl (Or.inl rfl) (pe_meth0 (pvI 0) T.cl_Table T.me_Table_mosts (G_Table_mosts.mono (by decide)) hr T.d_Table_mosts .nil pass0))
    (pss_cons (ps_if (pt_cmpR op_ne (pe_callB call_len_seq rfl T.b_len PySem.boot_len (pa_cons (pvI 1) pa_nil)) (pe_callB call_len_seq rfl T.b_len PySem.boot_len (pa_cons (pvI 2) pa_nil)) (nomark _))
      (pss_one ps_never)
      pss_nil)
    (pss_one (ps_if (pt_not (pt_truth (pe_callB (call_allB rfl) rfl T.b_all boot_all (pa_cons (lcA (defScope s_require_account) (pi_zip rfl T.b_zip (pa_cons (pvI 1) (pa_cons (pvI 2) pa_nil))) (fun _ _ _ _ _=>pgc2 1 2) (fun _ _ _ _ _=>pts_nil) (fun _ _ _ _ _=>(pe_chain op_leI op_leI pe_int (pvI 1) (pvI 2)))) pa_nil)) (fun _=>rfl)))
      (pss_one ps_never)
      pss_nil)))) ?_
    try dsimp only [L2.cxOf,L2.Cx.nox]
    refine ⟨_,rfl,t,dx,_,rfl,ht,tabF_no (by decide +kernel) (by decide +kernel) (by decide +kernel) (by decide +kernel),t,h,cs,ls,rfl,hT,fun r H1 hr s1 hr1=>?_⟩
    refine ⟨_,rfl,ac,_,rfl,.inl (s1.seq hac),_,rfl,r,_,rfl,.inl (SqL.of hr1),rfl,_,rfl,iteF' ?_ ?_⟩
    · rw [List.length_map,List.length_map,List.length_map,hal,decide_eq_true rfl];rfl
    refine ⟨_,rfl,_,rfl,ac,r,_,_,rfl,s1.seq hac,SqL.of hr1,?_⟩
    refine lc_fG (fun _=>some (V.bl true)) (itG_zip (s1.seq hac) (SqL.of hr1) (by rw [List.length_map,List.length_map,List.length_map,hal])) (fun σ=>∃ x y z,σ=[x,y,z]) ⟨_,_,_,rfl⟩ (Nat.le_of_lt (small_line (by rw [List.length_map];omega))) ?_ ?_
    · intro i x σ2 H2 Qt Qf hi zz1 s2 zz2 qt qf
      refine byC fun hG=>?_
      obtain ⟨W,u,v,rfl,hW,hu,hv⟩:=zz1
      obtain ⟨x,y,z,rfl⟩:=zz2
      refine hG ?_
      rw [List.getElem?_map] at hu
      refine byC fun hG=>?_
      obtain ⟨bi,hbi,rfl⟩:=Option.map_eq_some_iff.mp hu
      refine hG ?_
      rw [List.map_map,List.getElem?_map] at hv
      refine byC fun hG=>?_
      obtain ⟨cc,hcc,rfl⟩:=Option.map_eq_some_iff.mp hv
      have hbd:=hA.bd i cc bi hcc hbi
      refine hG ?_
      refine ⟨W,_,rfl,SqT.of hW,rfl,_,_,rfl,_,_,rfl,rfl,?_⟩
      refine ⟨_,rfl,_,_,rfl,rfl,_,rfl,iteD (fun _=>?_) (fun h=>absurd hbd.1 h)⟩
      refine ⟨_,rfl,_,_,rfl,rfl,?_⟩
      try dsimp only
      rw [decide_eq_true hbd.2]
      exact qt _ _ _ rfl ⟨_,_,_,rfl⟩ (Same.refl _)
    intro D H2 hD s2 hD2
    rw [filterMap_const,List.length_range] at hD2
    refine ⟨D,List.replicate (acc.map V.int).length true,rfl,SqL.of (by rw [List.map_replicate];exact hD2),_,rfl,?_⟩
    have e:(List.replicate (acc.map V.int).length true).all id=true:=by simp
    rw [e]
    exact iteF (kk _ (s1.trans s2))
def sp_burdens (K:Frag) (A:Adr):Sp:=fun vs H Q _=>∃ (t ac:Addr) (h:Nat) (cs:List Row) (ls acc:List Int),vs=[.ref t,.ref ac]∧TabAt A.c_Table K H t h cs ls∧SqL K H ac (acc.map V.int)∧AccOk cs acc∧
  ∀ r H',H r=none→Same H H'→H' r=some (.lst ((burdL cs ls acc).map V.int))→Q (.ref r) H'
theorem sc_burdens:FnScope ["table", "account", "told", "houses", "bill", "house"] ["table", "account"] (defScope s_burdens):=⟨rfl,rfl,rfl,by decide +kernel,rfl,by decide +kernel,by decide +kernel⟩
set_option maxHeartbeats 4000000 in
theorem ok_burdens (T:Txt w K mg A):FnOk P w K mg base CX0 3 A.a_burdens A.f_burdens ["table", "account"] (sp_burdens K A):=by
  have nd:=sc_burdens.nd
  have G_Table_losses:=ok_Table_losses (P:=P) (w:=w) (base:=base) T
  have G_require_account:=ok_require_account (P:=P) (w:=w) (base:=base) T
  refine T.F_burdens.ok sc_burdens (fun vs H Q E h=>?_) (fun cdv Ar outer s H vs Q E hr h=>?_)
  · obtain ⟨t,ac,h,cs,ls,acc,rfl,_⟩:=h;rfl
  · skip
    obtain ⟨t,ac,h,cs,ls,acc,rfl,hT,hac,hA,kk⟩:=h
    have g:=hT.good
    have g10:=g.c10
    have hal:=hA.len
    refine PSs.rd (pss_cons (ps_expr (pe_call (G_require_account.mono (by decide)) hr rfl T.m_require_account T.k_require_account T.d_require_account .nil pass0 (pa_cons (pvI 0) (pa_cons (pvI 1) pa_nil))))
    (pss_cons (ps_set (i:=2) nd rfl (Or.inl rfl) (pe_meth0 (pvI 0) T.cl_Table T.me_Table_losses (G_Table_losses.mono (by decide)) hr T.d_Table_losses .nil pass0))
    (pss_cons (ps_for PassesOwn.never rfl (pi_zip rfl T.b_zip (pa_cons (pe_fld (pvI 0) rfl) (pa_cons (pvI 1) pa_nil))) (pg_tup (n:=2) rfl (pgs_cons (pg_name (i:=3) nd rfl (Or.inl rfl)) (pgs_cons (pg_name (i:=4) nd rfl (Or.inl rfl)) pgs_nil)))
      (pss_one (ps_for PassesOwn.never rfl (pi_list (pe_slice sl_list (pvI 3) po_none (po_some (pvI 4)))) (pg_name (i:=5) nd rfl (Or.inl rfl))
         (pss_one (ps_augS (pvI 2) (pvI 5) get_listG pe_int ip_add set_list)))))
    (pss_one (ps_ret (pvI 2)))))) ?_
    try dsimp only [L2.cxOf,L2.Cx.nox]
    refine ⟨_,rfl,_,rfl,t,ac,h,cs,ls,acc,rfl,hT,hac,hA,fun H1 s1=>?_⟩
    refine byC fun hG=>?_
    obtain ⟨dx,a,b,c,us,qs,ht,ha,hcs,hb,hc,hq,hqs⟩:=(hT.same s1).ex
    refine hG ?_
    refine ⟨_,rfl,t,dx,_,rfl,ht,tabF_no (by decide +kernel) (by decide +kernel) (by decide +kernel) (by decide +kernel),t,h,cs,ls,rfl,hT.same s1,fun r H2 hr s2 hr2=>?_⟩
    refine ⟨_,rfl,t,_,dx,_,_,rfl,s2 _ _ ht,T.cl_Table,T.na_Table_crown_bearers,tabF_bearers,_,rfl,c,ac,_,_,rfl,SqL.of (s2 _ _ hc),(s1.trans s2).seq hac,?_⟩
    refine for_zip (xs:=qs.map V.ref) (ys:=acc.map V.int) (fun i σ H'=>Same H1 H'∧H' r=some (.lst ((plusF ls (crs cs acc i)).map V.int))∧∃ x y z,σ=[some (.ref t),some (.ref ac),some (.ref r),x,y,z])
      (by rw [List.length_map,List.length_map,hal,hq]) ⟨s2,?_,_,_,_,rfl⟩ (fun i σ H' _ p=>⟨SqL.of (p.1 _ _ hc),(s1.trans p.1).seq hac⟩) ?_ ?_
    · have e:crs cs acc 0=fun _=>0:=rfl
      rw [e,plusF_zero];exact hr2
    · intro i x y W σ H' hx hy zz1 hW
      refine byC fun hG=>?_
      obtain ⟨sm,hr',x0,y0,z0,rfl⟩:=zz1
      refine hG ?_
      rw [List.getElem?_map] at hx hy
      refine byC fun hG=>?_
      obtain ⟨q,hqi,rfl⟩:=Option.map_eq_some_iff.mp hx
      obtain ⟨bi,hbi,rfl⟩:=Option.map_eq_some_iff.mp hy
      obtain ⟨cc,hcc⟩:=get_some (xs:=cs) (i:=i) (by rw [← hq];exact get_lt hqi)
      have gc:=g.cov cc (List.mem_of_getElem? hcc)
      have hbd:=hA.bd i cc bi hcc hbi
      have gm:=gc.most
      obtain ⟨n,rfl⟩ : ∃ n:Nat,bi=(n:Int):=⟨bi.toNat,by omega⟩
      have sW:Same H' (upd H' W (.tup [.ref q,.int n])):=same_upd hW
      have hq':=sW _ _ (sm _ _ (hqs i cc q hcc hqi))
      refine hG ?_
      refine ⟨W,_,rfl,SqT.of upd_same,rfl,_,_,rfl,_,_,rfl,rfl,?_⟩
      refine ⟨_,rfl,_,rfl,_,rfl,q,_,rfl,SqL.of hq',fun sl hsl=>?_⟩
      have ec:cutV ((bearersL cc.2.2.2.2 cc.2.2.2.1.toNat).map V.int) none (some (n:Int))=(bearersL cc.2.2.2.2 n).map V.int:=by
        rw [cut_to _ (by rw [List.length_map,bearersL_len];omega),← List.map_take,bearersL_take _ (by omega)]
      rw [ec]
      have sS:=same_upd (o:=.lst ((bearersL cc.2.2.2.2 n).map V.int)) hsl
      have s3:Same H1 (upd (upd H' W (.tup [.ref q,.int n])) sl (.lst ((bearersL cc.2.2.2.2 n).map V.int))):=sm.trans (sW.trans sS)
      have hrs:r≠sl:=fun z=>by have:=sW _ _ hr';rw [z,hsl] at this;cases this
      refine ⟨sl,rfl,⟨_,SqL.of upd_same⟩,?_⟩
      refine for_list (xs:=(bearersL cc.2.2.2.2 n).map V.int) (fun k σ H''=>Same H1 H''∧H'' sl=some (.lst ((bearersL cc.2.2.2.2 n).map V.int))∧H'' r=some (.lst ((plusF ls (fun j=>crs cs acc i j+(((bearersL cc.2.2.2.2 n).take k).count (j:Int):Nat))).map V.int))∧∃ x y z,σ=[some (.ref t),some (.ref ac),some (.ref r),x,y,z])
        ⟨s3,upd_same,?_,_,_,_,rfl⟩ (fun k σ H'' _ p=>SqL.of p.2.1) ?_ ?_
      · rw [(sS _ _ (sW _ _ hr'))]
        congr 3
        exact plusF_congr fun j _=>by simp
      · intro k x σ H'' hx zz2
        refine byC fun hG=>?_
        obtain ⟨s4,hsl4,hr4,x1,y1,z1,rfl⟩:=zz2
        refine hG ?_
        rw [List.getElem?_map] at hx
        refine byC fun hG=>?_
        obtain ⟨z,hz,rfl⟩:=Option.map_eq_some_iff.mp hx
        obtain ⟨l,hl,rfl⟩:=bearersL_mem gc.gl.l1 (List.mem_of_getElem? hz)
        have hl0:=(gc.gl.all l hl).1
        have hl1:=(gc.ot l hl).1
        have hll:=g.ll
        obtain ⟨j,hj⟩ : ∃ j:Nat,l.1=(j:Int):=⟨l.1.toNat,by omega⟩
        refine hG ?_
        rw [hj] at hz ⊢
        have hjl:j < ls.length:=by omega
        refine ⟨_,rfl,_,rfl,r,_,j,.int ((plusF ls (fun j=>crs cs acc i j+(((bearersL cc.2.2.2.2 n).take k).count (j:Int):Nat))).getD j 0),rfl,rfl,SqL.of hr4,?_,_,_,rfl,rfl,?_⟩
        · rw [List.getElem?_map,List.getElem?_eq_getElem (by rw [plusF_len];exact hjl),Option.map_some,getD_of (List.getElem?_eq_getElem (by rw [plusF_len];exact hjl))]
        refine ⟨r,_,_,j,rfl,rfl,hr4,ixN_nat (by rw [List.length_map,plusF_len];exact hjl),fun b o e=>?_,?_,?_,_,_,_,rfl⟩
        · rw [upd_ne (ne_of_none e hr)];exact s4 b o e
        · rw [upd_ne hrs.symm];exact hsl4
        · rw [upd_same,← List.map_set,plusF_set _ _ _ _ hjl]
          congr 3
          refine plusF_congr fun j' _=>?_
          rw [take_snoc hz,List.count_append,List.count_singleton]
          by_cases e:j'=j
          · subst e;simp;omega
          · rw [if_neg e,if_neg (by simpa using fun z:(j:Int)=(j':Int)=>e (by omega))];simp
      · intro σ H'' zz3
        refine byC fun hG=>?_
        obtain ⟨s4,hsl4,hr4,x1,y1,z1,rfl⟩:=zz3
        refine hG ?_
        refine ⟨s4,?_,_,_,_,rfl⟩
        rw [hr4]
        congr 3
        refine plusF_congr fun j _=>?_
        rw [List.length_map,List.take_length,crs,hcc,getD_of hbi]
        rfl
    · intro σ H' zz4
      refine byC fun hG=>?_
      obtain ⟨sm,hr',x0,y0,z0,rfl⟩:=zz4
      refine hG ?_
      rw [List.length_map,hq] at hr'
      exact ⟨_,rfl,kk r H' (s1.free hr) (s1.trans sm) hr'⟩
def sp_asked (K:Frag) (A:Adr):Sp:=fun vs H Q _=>∃ (t ac:Addr) (h:Nat) (cs:List Row) (ls acc:List Int),vs=[.ref t,.ref ac]∧TabAt A.c_Table K H t h cs ls∧SqL K H ac (acc.map V.int)∧AccOk cs acc∧
  ∀ r H',H r=none→Same H H'→H' r=some (.lst ((askL cs ls acc).map V.int))→Q (.ref r) H'
theorem sc_asked:FnScope ["table", "account", "left", "told", "house", "kind", "by", "most", "lines", "bill"] ["table", "account"] (defScope s_asked):=⟨rfl,rfl,rfl,by decide +kernel,rfl,by decide +kernel,by decide +kernel⟩
set_option maxHeartbeats 4000000 in
theorem ok_asked (T:Txt w K mg A):FnOk P w K mg base CX0 4 A.a_asked A.f_asked ["table", "account"] (sp_asked K A):=by
  have nd:=sc_asked.nd
  have G_Table_covers:=ok_Table_covers (P:=P) (w:=w) (base:=base) T
  have G_burdens:=ok_burdens (P:=P) (w:=w) (base:=base) T
  have G_take:=ok_take (P:=P) (w:=w) (base:=base) T
  refine T.F_asked.ok sc_asked (fun vs H Q E h=>?_) (fun cdv Ar outer s H vs Q E hr h=>?_)
  · obtain ⟨t,ac,h,cs,ls,acc,rfl,_⟩:=h;rfl
  · skip
    obtain ⟨t,ac,h,cs,ls,acc,rfl,hT,hac,hA,kk⟩:=h
    have g:=hT.good
    have g10:=g.c10
    have hbd:=burd_bd g hA
    refine PSs.rd (pss_cons (ps_set (i:=2) nd rfl (Or.inl rfl) (pe_call (G_burdens.mono (by decide)) hr rfl T.m_burdens T.k_burdens T.d_burdens .nil pass0 (pa_cons (pvI 0) (pa_cons (pvI 1) pa_nil))))
    (pss_cons (ps_set (i:=3) nd rfl (Or.inl rfl) (pe_lst pa_nil))
    (pss_cons (ps_for PassesOwn.never rfl (pi_list (pe_meth0 (pvI 0) T.cl_Table T.me_Table_covers (G_Table_covers.mono (by decide)) hr T.d_Table_covers .nil pass0)) (pg_tup (n:=5) rfl (pgs_cons (pg_name (i:=4) nd rfl (Or.inl rfl)) (pgs_cons (pg_name (i:=5) nd rfl (Or.inl rfl)) (pgs_cons (pg_name (i:=6) nd rfl (Or.inl rfl)) (pgs_cons (pg_name (i:=7) nd rfl (Or.inl rfl)) (pgs_cons (pg_name (i:=8) nd rfl (Or.inl rfl)) pgs_nil))))))
      (pss_cons (ps_set (i:=9) nd rfl (Or.inl rfl) (pe_call (G_take.mono (by decide)) hr rfl T.m_take T.k_take T.d_take .nil pass0 (pa_cons (pvI 5) (pa_cons (pvI 6) (pa_cons (pvI 7) (pa_cons (pe_ix (ix_listI K rfl) (pvI 2) (pvI 4) (fun _ _=>rfl)) pa_nil))))))
       (pss_cons (ps_augS (pvI 2) (pvI 4) get_listG (pvI 9) ip_sub set_list)
       (pss_one (ps_expr (pe_bm PySem.F.plainAttrs_list PySem.F.slot_list_append PySem.F.type_list_append mt_append (pvI 3) (pa_cons (pvI 9) pa_nil)))))))
    (pss_one (ps_ret (pvI 3)))))) ?_
    try dsimp only [L2.cxOf,L2.Cx.nox]
    refine ⟨_,rfl,_,rfl,t,ac,h,cs,ls,acc,rfl,hT,hac,hA,fun lf H1 hlf s1 hlf1=>?_⟩
    refine ⟨Nat.zero_le _,fun r hr=>?_⟩
    have hr0:=s1.free hr
    have sr:=same_upd (o:=.lst []) hr
    have hT2:=hT.same (s1.trans sr)
    refine byC fun hG=>?_
    obtain ⟨dx,a,b,c,us0,qs,ht,_⟩:=hT2.ex
    refine hG ?_
    refine ⟨_,rfl,t,dx,_,rfl,ht,tabF_no (by decide +kernel) (by decide +kernel) (by decide +kernel) (by decide +kernel),t,h,cs,ls,rfl,hT2,fun cv us H2 hcv s2 hcv2 hcs=>?_⟩
    have hlen:=hcs.len
    have nlr:lf≠r:=fun z=>by rw [← z,hlf1] at hr;cases hr
    have ncl:cv≠lf:=fun z=>by have:=sr _ _ hlf1;rw [← z,hcv] at this;cases this
    have ncr:cv≠r:=fun z=>by rw [z,upd_same] at hcv;cases hcv
    refine ⟨cv,rfl,⟨us,SqL.of hcv2⟩,?_⟩
    refine for_listO (xs:=us) (fun i σ H'=>Same H H'∧H' cv=some (.lst us)∧CovsAt K H' us cs∧H' lf=some (.lst ((passL cs (burdL cs ls acc) i).1.map V.int))∧H' r=some (.lst ((passL cs (burdL cs ls acc) i).2.map V.int))∧∃ x1 x2 x3 x4 x5 x6,σ=[some (.ref t),some (.ref ac),some (.ref lf),some (.ref r),x1,x2,x3,x4,x5,x6])
      ⟨(s1.trans sr).trans s2,hcv2,hcs,s2 _ _ (sr _ _ hlf1),s2 _ _ upd_same,_,_,_,_,_,_,rfl⟩ (fun i σ H' _ p=>SqL.of p.2.1) ?_ ?_
    · intro N R B i x σ H' hx zz1 hN _
      refine byC fun hG=>?_
      obtain ⟨s3,hcv3,hcs3,hlf3,hr3,x1,x2,x3,x4,x5,x6,rfl⟩:=zz1
      obtain ⟨cc,hc,p,rfl,lp,hrow,hL,hLl⟩:=hcs3.get hx
      have gc:=g.cov cc (List.mem_of_getElem? hc)
      have ghl:=g.ll
      have hj:cc.1=((cc.1.toNat:Nat):Int):=by have:=gc.ho;omega
      have hjl:cc.1.toNat < (passL cs (burdL cs ls acc) i).1.length:=by rw [passL_len1,burdL_len];have:=gc.ho;omega
      have hbd':=getD_bd (passL_bd hbd (by decide) g.cov i) (by decide) cc.1.toNat
      have hl2:=passL_len2 cs (burdL cs ls acc) i (by have:=get_lt hc;omega)
      have hsu:=passL_succ (l0:=burdL cs ls acc) hc
      refine hG ?_
      rw [hsu] at hN
      generalize passL cs (burdL cs ls acc) i=P at hlf3 hr3 hjl hbd' hl2 hN
      refine ⟨p,_,rfl,hrow,rfl,_,_,rfl,_,_,rfl,_,_,rfl,_,_,rfl,_,_,rfl,rfl,?_⟩
      refine ⟨_,rfl,_,rfl,_,rfl,_,rfl,_,rfl,lf,_,_,.int (P.1.getD cc.1.toNat 0),rfl,rfl,SqL.of hlf3,(by rw [hj];exact ix_of hjl),_,_,_,_,rfl,gc.ms,hbd'.1,by omega,?_⟩
      refine ⟨_,rfl,_,rfl,lf,_,cc.1.toNat,.int (P.1.getD cc.1.toNat 0),rfl,by rw [← hj],SqL.of hlf3,?_,_,rfl,_,_,rfl,rfl,?_⟩
      · rw [List.getElem?_map,List.getElem?_eq_getElem hjl,Option.map_some,getD_of (List.getElem?_eq_getElem hjl)]
      refine ⟨lf,_,_,cc.1.toNat,rfl,rfl,hlf3,(by rw [hj];exact ixN_nat (by rw [List.length_map];exact hjl)),?_⟩
      refine ⟨_,rfl,.inl ⟨rfl,_,SqL.of (by rw [upd_ne nlr.symm];exact hr3)⟩,_,rfl,r,_,_,rfl,rfl,(by rw [upd_ne nlr.symm];exact hr3),small_line (by rw [List.length_map];have:=get_lt hc;omega),?_⟩
      refine hN _ _ ⟨fun b o e=>?_,?_,?_,?_,?_,_,_,_,_,_,_,rfl⟩
      · rw [upd_ne (ne_of_none e hr0),upd_ne (ne_of_none e hlf)];exact s3 b o e
      · rw [upd_ne ncr,upd_ne ncl];exact hcv3
      · exact CovsAt.updL (CovsAt.updL hcs3 hlf3) (by rw [upd_ne nlr.symm];exact hr3)
      · rw [upd_ne nlr,upd_same,← List.map_set]
      · rw [upd_same,map_snoc]
    · intro σ H' zz2
      refine byC fun hG=>?_
      obtain ⟨s3,hcv3,hcs3,hlf3,hr3,x1,x2,x3,x4,x5,x6,rfl⟩:=zz2
      refine hG ?_
      rw [hlen] at hr3
      exact ⟨_,rfl,kk r H' hr0 s3 hr3⟩
def sp_require_cover (K:Frag) (A:Adr):Sp:=fun vs H Q _=>∃ (t:Addr) (h:Nat) (cs:List Row) (ls:List Int) (c:Nat),vs=[.ref t,.int c]∧TabAt A.c_Table K H t h cs ls∧c < cs.length∧∀ H',Same H H'→Q .non H'
theorem sc_require_cover:FnScope ["table", "cover"] ["table", "cover"] (defScope s_require_cover):=⟨rfl,rfl,rfl,by decide +kernel,rfl,by decide +kernel,by decide +kernel⟩
set_option maxHeartbeats 4000000 in
theorem ok_require_cover (T:Txt w K mg A):FnOk P w K mg base CX0 2 A.a_require_cover A.f_require_cover ["table", "cover"] (sp_require_cover K A):=by
  have nd:=sc_require_cover.nd
  have G_Table_covers:=ok_Table_covers (P:=P) (w:=w) (base:=base) T
  refine T.F_require_cover.ok sc_require_cover (fun vs H Q E h=>?_) (fun cdv Ar outer s H vs Q E hr h=>?_)
  · obtain ⟨t,h,cs,ls,c,rfl,_⟩:=h;rfl
  · skip
    obtain ⟨t,h,cs,ls,c,rfl,hT,hc,kk⟩:=h
    obtain ⟨dx,a,b,c',us,qs,ht,_⟩:=hT.ex
    refine PSs.rd (pss_one (ps_if (pt_not (pt_chain op_leI op_ltI pe_int (pvI 1) (pe_callB call_len_seq rfl T.b_len PySem.boot_len (pa_cons (pe_meth0 (pvI 0) T.cl_Table T.me_Table_covers (G_Table_covers.mono (by decide)) hr T.d_Table_covers .nil pass0) pa_nil))))
      (pss_one ps_never)
      pss_nil)) ?_
    try dsimp only [L2.cxOf,L2.Cx.nox]
    refine ⟨_,rfl,_,_,rfl,rfl,_,rfl,iteD (fun _=>?_) (fun z=>absurd (Int.natCast_nonneg c) z)⟩
    refine ⟨_,rfl,t,dx,_,rfl,ht,tabF_no (by decide +kernel) (by decide +kernel) (by decide +kernel) (by decide +kernel),t,h,cs,ls,rfl,hT,fun r us H1 hr s1 hr1 hcs=>?_⟩
    have hl:=hcs.len
    exact ⟨r,_,rfl,.inl (SqL.of hr1),_,_,rfl,rfl,_,rfl,iteND (fun z=>absurd (by omega) z) (fun _=>kk _ s1)⟩
def sp_Rounds___init__ (K:Frag) (A:Adr):Sp:=fun vs H Q _=>∃ (x dx t:Addr) (h:Nat) (cs:List Row) (ls:List Int),vs=[.ref x,.ref t]∧H x=some (.ins A.c_Rounds dx [])∧TabAt A.c_Table K H t h cs ls∧∀ s H',(∀ b o,b≠x→H b=some o→H' b=some o)→H s=none→RdAt A.c_Table A.c_Rounds K H' x s t h cs ls (List.replicate cs.length 0)→Q .non H'
theorem sc_Rounds___init__:FnScope ["self", "table"] ["self", "table"] (defScope s_Rounds___init__):=⟨rfl,rfl,rfl,by decide +kernel,rfl,by decide +kernel,by decide +kernel⟩
set_option maxHeartbeats 4000000 in
theorem ok_Rounds___init__ (T:Txt w K mg A):FnOk P w K mg base CX0 3 A.a_Rounds___init__ A.f_Rounds___init__ ["self", "table"] (sp_Rounds___init__ K A):=by
  have nd:=sc_Rounds___init__.nd
  have G_nought:=ok_nought (P:=P) (w:=w) (base:=base) T
  refine T.F_Rounds___init__.ok sc_Rounds___init__ (fun vs H Q E h=>?_) (fun cdv Ar outer s H vs Q E hr h=>?_)
  · obtain ⟨x,dx,t,h,cs,ls,rfl,_⟩:=h;rfl
  · skip
    obtain ⟨x,dx,t,h,cs,ls,rfl,hx,hT,kk⟩:=h
    refine PSs.rd (pss_cons (ps_fld (pvI 0) (pvI 1) rfl)
    (pss_one (ps_fld (pvI 0) (pe_call (G_nought.mono (by decide)) hr rfl T.m_nought T.k_nought T.d_nought .nil pass0 (pa_cons (pvI 1) pa_nil)) rfl))) ?_
    try dsimp only [L2.cxOf,L2.Cx.nox]
    refine ⟨_,rfl,_,rfl,x,_,dx,_,rfl,hx,T.cl_Rounds,T.na_Rounds_ground,by show 0 < 1000;decide,?_⟩
    have hT1:=TabAt.updI (o:=.ins A.c_Rounds dx (putF "ground" (.ref t) [])) hT hx
    have hx1:=upd_same (H:=H) (a:=x) (o:=.ins A.c_Rounds dx (putF "ground" (.ref t) []))
    refine ⟨_,rfl,t,h,cs,ls,rfl,hT1,fun s H2 hs s2 hs2=>?_⟩
    have hx2:=s2 _ _ hx1
    have nxs:x≠s:=ne_of_none hx1 hs
    have hs0:H s=none:=by rw [upd_ne (fun z=>nxs z.symm)] at hs;exact hs
    have hT2:=TabF.same (hT1.toF hs) s2
    refine ⟨_,rfl,x,_,dx,_,rfl,hx2,T.cl_Rounds,T.na_Rounds_standing,by show 1 < 1000;decide,?_⟩
    refine kk s _ (fun b o n e=>by rw [upd_ne n];exact s2 _ _ (by rw [upd_ne n];exact e)) hs0 ⟨⟨dx,upd_same⟩,?_,by rw [upd_ne (fun z=>nxs z.symm)];exact hs2,acc_zero hT.good⟩
    refine byC fun hG=>?_
    obtain ⟨dx',a,b,c,us,qs,h1,h2,h3,h4,h5,h6,h7,f⟩:=hT2.ex
    have nl:∀ {q:Addr} {xs:List V},H2 q=some (.lst xs)→q≠x:=fun e z=>by rw [z,hx2] at e;cases e
    have nt:t≠x:=fun z=>by
      obtain ⟨dy,a',b',c',us',qs',k1,_⟩:=hT.ex
      rw [z,hx] at k1
      have e:=tabF_houses (h:=(h:Int)) (a:=a') (b:=b') (c:=c')
      have e3:=(HO.ins.inj (Option.some.inj k1)).2.2
      rw [← e3] at e
      cases e
    refine hG ?_
    refine ⟨⟨dx',a,b,c,us,qs,by rw [upd_ne nt];exact h1,by rw [upd_ne (nl h2)];exact h2,?_,by rw [upd_ne (nl h4)];exact h4,by rw [upd_ne (nl h5)];exact h5,h6,fun i cv q e1 e2=>?_,f⟩,hT.good⟩
    · exact CovsAt.but h3 hx2 (fun _ z=>by cases z) (fun _ _ z=>by cases z) fun b o n e=>by rw [upd_ne n];exact e
    · have:=h7 i cv q e1 e2
      rw [upd_ne (nl this)];exact this
def sp_Rounds_ask (K:Frag) (A:Adr):Sp:=fun vs H Q _=>∃ (x s t:Addr) (h:Nat) (cs:List Row) (ls acc:List Int) (c:Nat),vs=[.ref x,.int c]∧RdAt A.c_Table A.c_Rounds K H x s t h cs ls acc∧c < cs.length∧∀ H',(∀ b o,b≠s→H b=some o→H' b=some o)→RdAt A.c_Table A.c_Rounds K H' x s t h cs ls (acc.set c ((askL cs ls acc).getD c 0))→Q (.int ((askL cs ls acc).getD c 0)) H'
theorem sc_Rounds_ask:FnScope ["self", "cover", "bill"] ["self", "cover"] (defScope s_Rounds_ask):=⟨rfl,rfl,rfl,by decide +kernel,rfl,by decide +kernel,by decide +kernel⟩
set_option maxHeartbeats 4000000 in
theorem ok_Rounds_ask (T:Txt w K mg A):FnOk P w K mg base CX0 5 A.a_Rounds_ask A.f_Rounds_ask ["self", "cover"] (sp_Rounds_ask K A):=by
  have nd:=sc_Rounds_ask.nd
  have G_asked:=ok_asked (P:=P) (w:=w) (base:=base) T
  have G_require_cover:=ok_require_cover (P:=P) (w:=w) (base:=base) T
  refine T.F_Rounds_ask.ok sc_Rounds_ask (fun vs H Q E h=>?_) (fun cdv Ar outer s H vs Q E hr h=>?_)
  · obtain ⟨x,s,t,h,cs,ls,acc,c,rfl,_⟩:=h;rfl
  · skip
    obtain ⟨x,s,t,h,cs,ls,acc,c,rfl,hR,hc,kk⟩:=h
    obtain ⟨dx,hx⟩:=hR.obj
    have g:=hR.good
    have hA:=hR.ok
    have hal:=hA.len
    have ok:=askL_ok g hA
    have okl:=ok.len
    refine PSs.rd (pss_cons (ps_expr (pe_call (G_require_cover.mono (by decide)) hr rfl T.m_require_cover T.k_require_cover T.d_require_cover .nil pass0 (pa_cons (pe_fld (pvI 0) rfl) (pa_cons (pvI 1) pa_nil))))
    (pss_cons (ps_set (i:=2) nd rfl (Or.inl rfl) (pe_ix (ix_listI K rfl) (pe_call (G_asked.mono (by decide)) hr rfl T.m_asked T.k_asked T.d_asked .nil pass0 (pa_cons (pe_fld (pvI 0) rfl) (pa_cons (pe_fld (pvI 0) rfl) pa_nil))) (pvI 1) (fun _ _=>rfl)))
    (pss_cons (ps_asg (pvI 2) (pg_sub (pe_fld (pvI 0) rfl) (pvI 1) set_list))
    (pss_one (ps_ret (pvI 2)))))) ?_
    try dsimp only [L2.cxOf,L2.Cx.nox]
    refine ⟨_,rfl,x,_,dx,_,_,rfl,hx,T.cl_Rounds,T.na_Rounds_ground,rdF_ground,_,rfl,t,h,cs,ls,c,rfl,hR.tabAt,hc,fun H1 s1=>?_⟩
    have hR1:=hR.same s1
    have hx1:=s1 _ _ hx
    refine ⟨_,rfl,x,_,dx,_,_,rfl,hx1,T.cl_Rounds,T.na_Rounds_ground,rdF_ground,_,rfl,x,_,dx,_,_,rfl,hx1,T.cl_Rounds,T.na_Rounds_standing,rdF_standing,t,s,h,cs,ls,acc,rfl,hR1.tabAt,SqL.of hR1.st,hA,fun r H2 hr s2 hr2=>?_⟩
    refine ⟨_,rfl,r,_,_,_,rfl,rfl,SqL.of hr2,ix_of (by omega),?_⟩
    have hR2:=hR1.same s2
    have hx2:=s2 _ _ hx1
    refine ⟨_,rfl,_,rfl,x,_,dx,_,_,rfl,hx2,T.cl_Rounds,T.na_Rounds_standing,rdF_standing,_,rfl,s,_,_,c,rfl,rfl,hR2.st,ixN_nat (by rw [List.length_map];omega),?_⟩
    have es:(acc.map V.int).set c (.int ((askL cs ls acc).getD c 0))=(acc.set c ((askL cs ls acc).getD c 0)).map V.int:=by rw [List.map_set]
    rw [es]
    have hAs:AccOk cs (acc.set c ((askL cs ls acc).getD c 0)):=⟨by rw [List.length_set];exact hal,fun i cc b e1 e2=>by
      rw [List.getElem?_set] at e2
      by_cases e:c=i
      · subst e
        rw [if_pos rfl,if_pos (by omega)] at e2
        cases e2
        have l2:c < (askL cs ls acc).length:=by omega
        have q2:=ok.bd c cc _ e1 (List.getElem?_eq_getElem l2)
        rw [getD_of (List.getElem?_eq_getElem l2)];exact q2
      · rw [if_neg e] at e2;exact hA.bd i cc b e1 e2⟩
    exact ⟨_,rfl,kk _ (fun b o n e=>by rw [upd_ne n];exact s2 _ _ (s1 _ _ e)) (hR2.put hAs)⟩
def sp_Rounds_waiting (K:Frag) (A:Adr):Sp:=fun vs H Q _=>∃ (x s t:Addr) (h:Nat) (cs:List Row) (ls acc:List Int),vs=[.ref x]∧RdAt A.c_Table A.c_Rounds K H x s t h cs ls acc∧∀ r H',H r=none→Same H H'→H' r=some (.lst ((waitL cs ls acc).map fun i=>V.int ((i:Nat):Int)))→Q (.ref r) H'
theorem sc_Rounds_waiting:FnScope ["self", "wanted"] ["self"] (defScope s_Rounds_waiting):=⟨rfl,rfl,rfl,by decide +kernel,rfl,by decide +kernel,by decide +kernel⟩
set_option maxHeartbeats 4000000 in
theorem ok_Rounds_waiting (T:Txt w K mg A):FnOk P w K mg base CX0 5 A.a_Rounds_waiting A.f_Rounds_waiting ["self"] (sp_Rounds_waiting K A):=by
  have nd:=sc_Rounds_waiting.nd
  have G_asked:=ok_asked (P:=P) (w:=w) (base:=base) T
  refine T.F_Rounds_waiting.ok sc_Rounds_waiting (fun vs H Q E h=>?_) (fun cdv Ar outer s H vs Q E hr h=>?_)
  · obtain ⟨x,s,t,h,cs,ls,acc,rfl,_⟩:=h;rfl
  · skip
    obtain ⟨x,s,t,h,cs,ls,acc,rfl,hR,kk⟩:=h
    obtain ⟨dx,hx⟩:=hR.obj
    have g:=hR.good
    have g10:=g.c10
    have hA:=hR.ok
    have hal:=hA.len
    have ok:=askL_ok g hA
    have okl:=ok.len
    refine PSs.rd (pss_cons (ps_set (i:=1) nd rfl (Or.inr rfl) (pe_call (G_asked.mono (by decide)) hr rfl T.m_asked T.k_asked T.d_asked .nil pass0 (pa_cons (pe_fld (pvI 0) rfl) (pa_cons (pe_fld (pvI 0) rfl) pa_nil))))
    (pss_one (ps_ret (lcA (defScope s_Rounds_waiting) (pi_enum rfl T.b_enumerate (pa_cons (pe_fld (pvI 0) rfl) pa_nil)) (fun _ _ _ _ _=>pgc2 1 2) (fun _ _ _ _ _=>(pts_one (pt_cmpR op_gtI (pe_ix (ix_listI K rfl) (pvI 3) (pvI 1) (fun _ _=>rfl)) (pvI 2) (nomark _)))) (fun _ _ _ _ _=>(pvI 1)))))) ?_
    try dsimp only [L2.cxOf,L2.Cx.nox]
    refine ⟨_,rfl,x,_,dx,_,_,rfl,hx,T.cl_Rounds,T.na_Rounds_ground,rdF_ground,_,rfl,x,_,dx,_,_,rfl,hx,T.cl_Rounds,T.na_Rounds_standing,rdF_standing,t,s,h,cs,ls,acc,rfl,hR.tabAt,SqL.of hR.st,hA,fun r H2 hr s2 hr2=>?_⟩
    have hs2:=s2 _ _ hR.st
    refine ⟨_,rfl,x,_,dx,_,_,rfl,s2 _ _ hx,T.cl_Rounds,T.na_Rounds_standing,rdF_standing,s,_,rfl,SqL.of hs2,?_⟩
    refine lc_fG (fun i=>if decide (acc.getD i 0 < (askL cs ls acc).getD i 0)=true then some (V.int (i:Nat)) else none) (itG_enum (SqL.of hs2)) (fun σ=>∃ x0 x1 x2,σ=[x0,x1,x2,some (.ref r)]) ⟨_,_,_,rfl⟩ (Nat.le_of_lt (small_line (by rw [List.length_map];omega))) ?_ ?_
    · intro i v σ2 H3 Qt Qf hi hY s3 zz1 qt qf
      refine byC fun hG=>?_
      obtain ⟨x0,x1,x2,rfl⟩:=zz1
      refine hG ?_
      rw [List.length_map] at hi
      refine byC fun hG=>?_
      obtain ⟨W,u,rfl,hW,hu⟩:=hY
      refine hG ?_
      rw [List.getElem?_map] at hu
      refine byC fun hG=>?_
      obtain ⟨bi,hbi,rfl⟩:=Option.map_eq_some_iff.mp hu
      have eb:acc.getD i 0=bi:=getD_of hbi
      refine hG ?_
      refine ⟨W,_,rfl,SqT.of hW,rfl,_,_,rfl,_,_,rfl,rfl,?_⟩
      refine ⟨_,rfl,_,rfl,r,_,_,_,rfl,rfl,SqL.of (s3 _ _ hr2),ix_of (by omega),_,rfl,_,_,rfl,rfl,_,rfl,iteD (fun hy=>?_) (fun hn=>?_)⟩
      · exact ⟨_,rfl,qt _ _ _ (by rw [if_pos (decide_eq_true (by rw [eb];exact hy))]) ⟨_,_,_,rfl⟩ (Same.refl _)⟩
      · exact qf _ _ (by rw [if_neg (by rw [decide_eq_false (by rw [eb];exact hn)];decide)]) ⟨_,_,_,rfl⟩ (Same.refl _)
    intro D H3 hD s3 hD3
    rw [fm_filter,List.length_map,hal] at hD3
    exact kk D H3 (s2.free hD) (s2.trans s3) hD3
def sp_settle (K:Frag) (A:Adr):Sp:=fun vs H Q _=>∃ (t ac:Addr) (h:Nat) (cs:List Row) (ls acc:List Int),vs=[.ref t,.ref ac]∧TabAt A.c_Table K H t h cs ls∧SqL K H ac (acc.map V.int)∧AccOk cs acc∧Moves cs ls acc∧
  ∀ r H',H r=none→Same H H'→H' r=some (.lst ((comeL cs ls acc).map V.int))→Q (.ref r) H'
theorem sc_settle:FnScope ["table", "account", "bills", "wanted"] ["table", "account"] (defScope s_settle):=⟨rfl,rfl,rfl,by decide +kernel,rfl,by decide +kernel,by decide +kernel⟩
set_option maxHeartbeats 4000000 in
theorem ok_settle (T:Txt w K mg A):FnOk P w K mg base CX0 5 A.a_settle A.f_settle ["table", "account"] (sp_settle K A):=by
  have nd:=sc_settle.nd
  have G_asked:=ok_asked (P:=P) (w:=w) (base:=base) T
  refine T.F_settle.ok sc_settle (fun vs H Q E h=>?_) (fun cdv Ar outer s H vs Q E hr h=>?_)
  · obtain ⟨t,ac,h,cs,ls,acc,rfl,_⟩:=h;rfl
  · skip
    obtain ⟨t,ac,h,cs,ls,acc,rfl,hT,hac,hA,hM,kk⟩:=h
    have g:=hT.good
    refine PSs.rd (pss_cons (ps_set (i:=2) nd rfl (Or.inl rfl) (pvI 1))
    (pss_cons (ps_set (i:=3) nd rfl (Or.inl rfl) (pe_call (G_asked.mono (by decide)) hr rfl T.m_asked T.k_asked T.d_asked .nil pass0 (pa_cons (pvI 0) (pa_cons (pvI 2) pa_nil))))
    (pss_cons (ps_while PassesOwn.never (pt_cmpR (op_neL hr.units) (pvI 3) (pvI 2) (nomark _))
      (pss_cons (ps_set (i:=2) nd rfl (Or.inl rfl) (pvI 3))
       (pss_one (ps_set (i:=3) nd rfl (Or.inl rfl) (pe_call (G_asked.mono (by decide)) hr rfl T.m_asked T.k_asked T.d_asked .nil pass0 (pa_cons (pvI 0) (pa_cons (pvI 2) pa_nil)))))))
    (pss_one (ps_ret (pvI 3)))))) ?_
    try dsimp only [L2.cxOf,L2.Cx.nox]
    refine ⟨_,rfl,_,rfl,_,rfl,t,ac,h,cs,ls,acc,rfl,hT,hac,hA,fun w1 H1 hw1 s1 hw11=>?_⟩
    refine ⟨fun m σ H'=>∃ (n:Nat) (b w2:Addr),m=241 - n∧σ=[some (.ref t),some (.ref ac),some (.ref b),some (.ref w2)]∧Same H H'∧SqL K H' b ((iterL cs ls acc n).map V.int)∧H w2=none∧H' w2=some (.lst ((iterL cs ls acc (n+1)).map V.int)),⟨_,0,ac,w1,rfl,rfl,s1,s1.seq hac,hw1,hw11⟩,?_⟩
    intro m σ H2 zz1
    refine byC fun hG=>?_
    obtain ⟨n,b,w2,rfl,rfl,s2,hb,hw2,hw22⟩:=zz1
    refine hG ?_
    refine ⟨_,rfl,_,rfl,w2,b,_,_,rfl,rfl,SqL.of hw22,hb,_,rfl,iteND (fun hne=>?_) (fun heq=>?_)⟩
    · have hn:=iter_stop g hA hM hne
      refine ⟨fun σ H'=>∃ (b w2:Addr),σ=[some (.ref t),some (.ref ac),some (.ref b),some (.ref w2)]∧Same H H'∧SqL K H' b ((iterL cs ls acc (n+1)).map V.int)∧H w2=none∧H' w2=some (.lst ((iterL cs ls acc (n+1+1)).map V.int)),?_,?_⟩
      · intro σ' H' zz2
        refine byC fun hG=>?_
        obtain ⟨b',w3,rfl,s3,hb3,hw3,hw33⟩:=zz2
        refine hG ?_
        exact ⟨241 - (n+1),by omega,n+1,b',w3,rfl,rfl,s3,hb3,hw3,hw33⟩
      · refine ⟨_,rfl,_,rfl,_,rfl,t,w2,h,cs,ls,_,rfl,hT.same s2,SqL.of hw22,iter_ok g hA (n+1),fun w3 H3 hw3 s3 hw33=>?_⟩
        exact ⟨w2,w3,rfl,s2.trans s3,SqL.of (s3 _ _ hw22),s2.free hw3,hw33⟩
    · refine ⟨_,rfl,kk w2 H2 hw2 s2 ?_⟩
      rw [hw22,heq,come_of g hA hM heq]
def sp_least (K:Frag) (A:Adr):Sp:=fun vs H Q _=>∃ (t:Addr) (h:Nat) (cs:List Row) (ls:List Int),vs=[.ref t]∧TabAt A.c_Table K H t h cs ls∧∀ r H',H r=none→Same H H'→H' r=some (.lst ((comeL cs ls (List.replicate cs.length 0)).map V.int))→Q (.ref r) H'
theorem sc_least:FnScope ["table"] ["table"] (defScope s_least):=⟨rfl,rfl,rfl,by decide +kernel,rfl,by decide +kernel,by decide +kernel⟩
set_option maxHeartbeats 4000000 in
theorem ok_least (T:Txt w K mg A):FnOk P w K mg base CX0 6 A.a_least A.f_least ["table"] (sp_least K A):=by
  have nd:=sc_least.nd
  have G_nought:=ok_nought (P:=P) (w:=w) (base:=base) T
  have G_settle:=ok_settle (P:=P) (w:=w) (base:=base) T
  refine T.F_least.ok sc_least (fun vs H Q E h=>?_) (fun cdv Ar outer s H vs Q E hr h=>?_)
  · obtain ⟨t,h,cs,ls,rfl,_⟩:=h;rfl
  · skip
    obtain ⟨t,h,cs,ls,rfl,hT,kk⟩:=h
    refine PSs.rd (pss_one (ps_ret (pe_call (G_settle.mono (by decide)) hr rfl T.m_settle T.k_settle T.d_settle .nil pass0 (pa_cons (pvI 0) (pa_cons (pe_call (G_nought.mono (by decide)) hr rfl T.m_nought T.k_nought T.d_nought .nil pass0 (pa_cons (pvI 0) pa_nil)) pa_nil))))) ?_
    try dsimp only [L2.cxOf,L2.Cx.nox]
    refine ⟨_,rfl,_,rfl,t,h,cs,ls,rfl,hT,fun r H1 hr s1 hr1=>?_⟩
    exact ⟨t,r,h,cs,ls,_,rfl,hT.same s1,SqL.of hr1,acc_zero hT.good,moves_zero hT.good,fun r2 H2 hr2 s2 e2=>kk r2 H2 (s1.free hr2) (s1.trans s2) e2⟩
def sp_steps (K:Frag) (A:Adr):Sp:=fun vs H Q _=>∃ (t:Addr) (h:Nat) (cs:List Row) (ls:List Int),vs=[.ref t]∧TabAt A.c_Table K H t h cs ls∧∀ (r:Addr) (us:List V) (st:List (Int×Int)) (H':Hp),H r=none→Same H H'→H' r=some (.lst us)→PairsT H' us st→walkL cs ls st (List.replicate cs.length 0)=some (leastL cs ls)→st.length≤240→StP cs ls st→Q (.ref r) H'
theorem sc_steps:FnScope ["table", "rounds", "told", "waiting", "cover"] ["table"] (defScope s_steps):=⟨rfl,rfl,rfl,by decide +kernel,rfl,by decide +kernel,by decide +kernel⟩
set_option maxHeartbeats 4000000 in
theorem ok_steps (T:Txt w K mg A):FnOk P w K mg base CX0 6 A.a_steps A.f_steps ["table"] (sp_steps K A):=by
  have nd:=sc_steps.nd
  have G_Rounds___init__:=ok_Rounds___init__ (P:=P) (w:=w) (base:=base) T
  have G_Rounds_ask:=ok_Rounds_ask (P:=P) (w:=w) (base:=base) T
  have G_Rounds_waiting:=ok_Rounds_waiting (P:=P) (w:=w) (base:=base) T
  refine T.F_steps.ok sc_steps (fun vs H Q E h=>?_) (fun cdv Ar outer s H vs Q E hr h=>?_)
  · obtain ⟨t,h,cs,ls,rfl,_⟩:=h;rfl
  · skip
    obtain ⟨t,h,cs,ls,rfl,hT,kk⟩:=h
    have g:=hT.good
    have g10:=g.c10
    refine PSs.rd (pss_cons (ps_set (i:=1) nd rfl (Or.inl rfl) (pe_make T.mk_Rounds (G_Rounds___init__.mono (by decide)) hr rfl T.mc_Rounds T.d_Rounds___init__ .nil pass0 (pa_cons (pvI 0) pa_nil)))
    (pss_cons (ps_set (i:=2) nd rfl (Or.inl rfl) (pe_lst pa_nil))
    (pss_cons (ps_set (i:=3) nd rfl (Or.inl rfl) (pe_meth0 (pvI 1) T.cl_Rounds T.me_Rounds_waiting (G_Rounds_waiting.mono (by decide)) hr T.d_Rounds_waiting .nil pass0))
    (pss_cons (ps_while PassesOwn.never (pt_truth (pvI 3) (fun _=>rfl))
      (pss_cons (ps_for PassesOwn.never rfl (pi_list (pvI 3)) (pg_name (i:=4) nd rfl (Or.inl rfl))
         (pss_one (ps_expr (pe_bm PySem.F.plainAttrs_list PySem.F.slot_list_append PySem.F.type_list_append mt_append (pvI 2) (pa_cons (pe_tup (pa_cons (pvI 4) (pa_cons (pe_meth (pvI 1) T.cl_Rounds T.me_Rounds_ask (G_Rounds_ask.mono (by decide)) hr T.d_Rounds_ask .nil pass0 (pa_cons (pvI 4) pa_nil)) pa_nil))) pa_nil)))))
       (pss_one (ps_set (i:=3) nd rfl (Or.inl rfl) (pe_meth0 (pvI 1) T.cl_Rounds T.me_Rounds_waiting (G_Rounds_waiting.mono (by decide)) hr T.d_Rounds_waiting .nil pass0)))))
    (pss_one (ps_ret (pvI 2))))))) ?_
    try dsimp only [L2.cxOf,L2.Cx.nox]
    rw [show ∀ v0:V,L2.start ["table", "rounds", "told", "waiting", "cover"] [v0]=[some v0,none,none,none,none] from fun _=>rfl]
    refine ⟨_,rfl,fun x dx hx hdx ndx=>?_⟩
    have m1:=make_pre (o1:=.ins A.c_Rounds dx []) (o2:=.own x) hx hdx
    refine ⟨x,dx,t,h,cs,ls,rfl,upd_same,hT.same m1,fun s H1 s1' hs hR=>⟨rfl,?_⟩⟩
    have s1:Same H H1:=make_same hx hdx s1'
    have hs0:H s=none:=m1.free hs
    refine ⟨Nat.zero_le _,fun to hto=>?_⟩
    have sto:=same_upd (o:=.lst []) hto
    have hto0:=s1.free hto
    have hR2:=hR.same sto
    have hto2:=upd_same (H:=H1) (a:=to) (o:=.lst [])
    have nts:to≠s:=fun z=>by rw [z,hR.st] at hto;cases hto
    have s02:=s1.trans sto
    try dsimp only [List.set_cons_zero,List.set_cons_succ]
    generalize upd H1 to (.lst [])=H2 at *
    refine byC fun hG=>?_
    obtain ⟨dx2,hx2⟩:=hR2.obj
    refine hG ?_
    refine ⟨_,rfl,x,dx2,_,rfl,hx2,rdF_no (by decide +kernel) (by decide +kernel),x,s,t,h,cs,ls,_,rfl,hR2,fun w H3 hw s3 hw3=>?_⟩
    have hw0:=s02.free hw
    try dsimp only [List.set_cons_zero,List.set_cons_succ]
    refine ⟨fun m σ H'=>∃ (w:Addr) (us:List V) (st:List (Int×Int)) (acc:List Int) (y:Option V) (n:Nat),runS cs ls n=(st,acc)∧m=241 - acc.sum.toNat∧w≠s∧w≠to∧σ=[some (.ref t),some (.ref x),some (.ref to),some (.ref w),y]∧Same H H'∧H' to=some (.lst us)∧PairsT H' us st∧RdAt A.c_Table A.c_Rounds K H' x s t h cs ls acc∧walkL cs ls st (List.replicate cs.length 0)=some acc∧LeL acc (askL cs ls acc)∧(st.length:Int)≤acc.sum∧H' w=some (.lst ((waitL cs ls acc).map fun i=>V.int ((i:Nat):Int))),
      ⟨_,w,[],[],List.replicate cs.length 0,none,0,rfl,rfl,(fun z=>by rw [z,hR2.st] at hw;cases hw),(fun z=>by rw [z,hto2] at hw;cases hw),rfl,s02.trans s3,s3 _ _ hto2,PairsT.nil,hR2.same s3,rfl,(askL_ok g (acc_zero g)).zero,by simp [Mt.sum_replicate0],hw3⟩,?_⟩
    intro m σ H4 zz1
    refine byC fun hG=>?_
    obtain ⟨w,us,st,acc,y,n,hru,rfl,nws,nwt,rfl,s4,hto4,hst4,hR4,hwk,hbk,hsl,hw4⟩:=zz1
    have hA:=hR4.ok
    have hal:=hA.len
    have hsm:=AccOk.sums g hA
    have hTto:=hT.toF hto0
    refine hG ?_
    refine ⟨_,rfl,_,.inl ⟨_,SqL.of hw4,rfl⟩,iteNB (fun hne=>?_) (fun hnil=>?_)⟩
    · -- a turn
      refine ⟨fun σ H'=>∃ (w:Addr) (us:List V) (st:List (Int×Int)) (acc':List Int) (y:Option V),runS cs ls (n+1)=(st,acc')∧acc.sum < acc'.sum∧w≠s∧w≠to∧σ=[some (.ref t),some (.ref x),some (.ref to),some (.ref w),y]∧Same H H'∧H' to=some (.lst us)∧PairsT H' us st∧RdAt A.c_Table A.c_Rounds K H' x s t h cs ls acc'∧walkL cs ls st (List.replicate cs.length 0)=some acc'∧LeL acc' (askL cs ls acc')∧(st.length:Int)≤acc'.sum∧H' w=some (.lst ((waitL cs ls acc').map fun i=>V.int ((i:Nat):Int))),?_,?_⟩
      · intro σ' H' zz2
        refine byC fun hG=>?_
        obtain ⟨w',us',st',acc',y',hru',hlt,n1,n2,rfl,q1,q2,q3,q4,q5,q6,q7,q8⟩:=zz2
        have:=(AccOk.sums g q4.ok)
        refine hG ?_
        exact ⟨_,by omega,w',us',st',acc',y',n+1,hru',rfl,n1,n2,rfl,q1,q2,q3,q4,q5,q6,q7,q8⟩
      have hWl:(waitL cs ls acc).length≤cs.length:=wait_len
      have hWnd:(waitL cs ls acc).Nodup:=wait_nodup
      have hWm:∀ j∈waitL cs ls acc,j < cs.length∧acc.getD j 0 < (askL cs ls acc).getD j 0:=fun j hj=>wait_mem.mp hj
      have hWp:0 < (waitL cs ls acc).length:=by
        cases e:waitL cs ls acc with
        | nil=>rw [e] at hne;cases hne
        | cons _ _=>exact Nat.succ_pos _
      have hWe:runS cs ls (n+1)=(waitL cs ls acc).foldl (askS cs ls) (st,acc):=by show (waitL cs ls (runS cs ls n).2).foldl _ (runS cs ls n)=_;rw [hru]
      generalize waitL cs ls acc=W at hWe hWl hWnd hWm hWp hw4
      refine ⟨_,rfl,w,rfl,⟨_,SqL.of hw4⟩,?_⟩
      generalize hp0:(st,acc)=p0 at *
      refine for_list (xs:=W.map fun i=>V.int ((i:Nat):Int)) (fun i σ H'=>∃ (us:List V) (st:List (Int×Int)) (acc':List Int) (y:Option V),(W.take i).foldl (askS cs ls) p0=(st,acc')∧σ=[some (.ref t),some (.ref x),some (.ref to),some (.ref w),y]∧Same H H'∧H' w=some (.lst (W.map fun i=>V.int ((i:Nat):Int)))∧H' to=some (.lst us)∧PairsT H' us st∧RdAt A.c_Table A.c_Rounds K H' x s t h cs ls acc'∧walkL cs ls st (List.replicate cs.length 0)=some acc'∧LeL acc' (askL cs ls acc')∧(st.length:Int)≤acc'.sum∧LeL acc acc'∧acc.sum+(i:Int)≤acc'.sum∧∀ k j,i≤k→W[k]? = some j→acc'.getD j 0=acc.getD j 0)
        ⟨us,st,acc,y,hp0.symm,rfl,s4,hw4,hto4,hst4,hR4,hwk,hbk,hsl,LeL.refl _,by simp,fun _ _ _ _=>rfl⟩ (fun i σ H' _ q=>by obtain ⟨_,_,_,_,_,_,_,q1,_⟩:=q;exact SqL.of q1) ?_ ?_
      · intro i v σ H5 hv zz3
        refine byC fun hG=>?_
        obtain ⟨us,st,acc',y,hfo,rfl,s5,hw5,hto5,hst5,hR5,hwk5,hbk5,hsl5,hle5,hsum5,hrest5⟩:=zz3
        refine hG ?_
        rw [List.getElem?_map] at hv
        refine byC fun hG=>?_
        obtain ⟨j,hj,rfl⟩:=Option.map_eq_some_iff.mp hv
        obtain ⟨hjn,hjlt⟩:=hWm j (List.mem_of_getElem? hj)
        obtain ⟨dx5,hx5⟩:=hR5.obj
        have hA5:=hR5.ok
        have hal5:=hA5.len
        have hjd:=hrest5 i j (Nat.le_refl _) hj
        have hask:=(askL_mono g hA hle5).get j
        refine hG ?_
        refine ⟨_,rfl,.inl ⟨rfl,_,SqL.of hto5⟩,_,rfl,_,rfl,x,dx5,_,rfl,hx5,rdF_no (by decide +kernel) (by decide +kernel),_,rfl,x,s,t,h,cs,ls,acc',j,rfl,hR5,hjn,fun H6 b6 hR6=>?_⟩
        have hs:standB cs ls acc' (j:Int) ((askL cs ls acc').getD j 0)=true:=decide_eq_true ⟨by omega,by omega,by rw [Int.toNat_natCast];omega,by rw [Int.toNat_natCast];exact Int.le_refl _⟩
        have hset:=backed_set g hA5 hbk5 (j:=j) (v:=(askL cs ls acc').getD j 0) (by omega) (Int.le_refl _) hjn
        have hss:=set_sum (acc:=acc') (j:=j) (v:=(askL cs ls acc').getD j 0) (by omega)
        have hfo6:(W.take (i+1)).foldl (askS cs ls) p0=(st ++ [((j:Int),(askL cs ls acc').getD j 0)],acc'.set j ((askL cs ls acc').getD j 0)):=by rw [foldl_take hj,hfo];rfl
        have hwk6:=walk_snoc (s:=((j:Int),(askL cs ls acc').getD j 0)) hwk5 hs
        rw [show ((j:Int),(askL cs ls acc').getD j 0).1.toNat=j from Int.toNat_natCast j] at hwk6
        generalize (askL cs ls acc').getD j 0=v at hs hset hss hwk6 hR6 hask hfo6
        have s6:Same H H6:=fun b o e=>b6 b o (ne_of_none e hs0) (s5 b o e)
        have hto6:=b6 _ _ nts hto5
        have hst6:=PairsT.but hst5 hR5.st b6
        have hw6:=b6 _ _ nws hw5
        refine ⟨by show 2≤sizeLine;decide,fun tu htu=>?_⟩
        have stu:=same_upd (o:=.tup [.int (j:Nat),.int v]) htu
        have hul:=hst6.len
        have hsm5:=(AccOk.sums g hA5)
        have hto7:=stu _ _ hto6
        refine ⟨to,_,_,rfl,rfl,hto7,small_line (by omega),?_⟩
        have s7:=s6.trans stu
        refine ⟨us ++ [.ref tu],st ++ [((j:Int),v)],acc'.set j v,_,hfo6,rfl,upd_same_of s7 hto0,by rw [upd_ne nwt];exact stu _ _ hw6,by rw [upd_same],?_,?_,?_,hset.2.2,?_,hle5.trans hset.2.1,?_,fun k j' hk hj'=>?_⟩
        · exact PairsT.updL ((hst6.same stu).snoc upd_same) hto7
        · exact (hR6.same stu).updL hto7 nts (hTto.same s7)
        · exact hwk6
        · rw [List.length_append,hss,List.length_singleton];push_cast;omega
        · rw [hss];push_cast;omega
        · have hne:j'≠j:=fun z=>by
            subst z
            have:=nodup_getElem hWnd hj hj'
            omega
          rw [List.getD_eq_getElem?_getD,List.getElem?_set,if_neg (fun z=>hne z.symm),← List.getD_eq_getElem?_getD]
          exact hrest5 k j' (by omega) hj'
      intro σ H5 zz4
      refine byC fun hG=>?_
      obtain ⟨us,st,acc',y,hfo,rfl,s5,hw5,hto5,hst5,hR5,hwk5,hbk5,hsl5,hle5,hsum5,_⟩:=zz4
      refine hG ?_
      rw [List.length_map] at hsum5 hfo
      rw [List.take_length,← hWe] at hfo
      refine byC fun hG=>?_
      obtain ⟨dx5,hx5⟩:=hR5.obj
      refine hG ?_
      refine ⟨_,rfl,x,dx5,_,rfl,hx5,rdF_no (by decide +kernel) (by decide +kernel),x,s,t,h,cs,ls,acc',rfl,hR5,fun w' H6 hw' s6 hw'6=>?_⟩
      exact ⟨w',us,st,acc',_,hfo,by omega,(fun z=>by rw [z,hR5.st] at hw';cases hw'),(fun z=>by rw [z,hto5] at hw';cases hw'),rfl,s5.trans s6,s6 _ _ hto5,hst5.same s6,hR5.same s6,hwk5,hbk5,hsl5,hw'6⟩
    · have hnil':waitL cs ls acc=[]:=by
        cases e:waitL cs ls acc with
        | nil=>rfl
        | cons _ _=>rw [e] at hnil;cases hnil
      have hSt:StP cs ls st:=⟨n,by rw [hru],by rw [hru];exact hnil'⟩
      have e:=walked_least g hwk hbk hnil'
      rw [e] at hwk
      exact ⟨_,rfl,kk to us st H4 hto0 s4 hto4 hst4 hwk (by omega) hSt⟩
def sp_agrees (K:Frag) (A:Adr):Sp:=fun vs H Q _=>∃ (t ac:Addr) (h:Nat) (cs:List Row) (ls acc:List Int),vs=[.ref t,.ref ac]∧TabAt A.c_Table K H t h cs ls∧SqL K H ac (acc.map V.int)∧AccOk cs acc∧∀ H',Same H H'→Q (.bl (decide (askL cs ls acc=acc))) H'
theorem sc_agrees:FnScope ["table", "account"] ["table", "account"] (defScope s_agrees):=⟨rfl,rfl,rfl,by decide +kernel,rfl,by decide +kernel,by decide +kernel⟩
set_option maxHeartbeats 4000000 in
theorem ok_agrees (T:Txt w K mg A):FnOk P w K mg base CX0 5 A.a_agrees A.f_agrees ["table", "account"] (sp_agrees K A):=by
  have nd:=sc_agrees.nd
  have G_asked:=ok_asked (P:=P) (w:=w) (base:=base) T
  refine T.F_agrees.ok sc_agrees (fun vs H Q E h=>?_) (fun cdv Ar outer s H vs Q E hr h=>?_)
  · obtain ⟨t,ac,h,cs,ls,acc,rfl,_⟩:=h;rfl
  · skip
    obtain ⟨t,ac,h,cs,ls,acc,rfl,hT,hac,hA,kk⟩:=h
    refine PSs.rd (pss_one (ps_ret (pe_cmpR (op_eqL hr.units) (pe_call (G_asked.mono (by decide)) hr rfl T.m_asked T.k_asked T.d_asked .nil pass0 (pa_cons (pvI 0) (pa_cons (pvI 1) pa_nil))) (pvI 1) (nomark _)))) ?_
    try dsimp only [L2.cxOf,L2.Cx.nox]
    refine ⟨_,rfl,_,rfl,t,ac,h,cs,ls,acc,rfl,hT,hac,hA,fun r H1 hr s1 hr1=>?_⟩
    exact ⟨_,rfl,r,ac,_,_,rfl,rfl,SqL.of hr1,s1.seq hac,kk _ s1⟩
def sp_require_agreeing (K:Frag) (A:Adr):Sp:=fun vs H Q _=>∃ (t p:Addr) (h:Nat) (cs:List Row) (ls:List Int) (acs:List (Addr×List Int)),vs=[.ref t,.ref p]∧TabAt A.c_Table K H t h cs ls∧SqT K H p (acs.map fun x=>V.ref x.1)∧(∀ x∈acs,SqL K H x.1 (x.2.map V.int)∧AccOk cs x.2∧askL cs ls x.2=x.2)∧∀ H',Same H H'→Q .non H'
theorem sc_require_agreeing:FnScope ["table", "accounts", "account"] ["table", "accounts"] (defScope s_require_agreeing):=⟨rfl,rfl,rfl,by decide +kernel,rfl,by decide +kernel,by decide +kernel⟩
set_option maxHeartbeats 4000000 in
theorem ok_require_agreeing (T:Txt w K mg A):FnOk P w K mg base CX0 6 A.a_require_agreeing A.f_require_agreeing ["table", "accounts"] (sp_require_agreeing K A):=by
  have nd:=sc_require_agreeing.nd
  have G_agrees:=ok_agrees (P:=P) (w:=w) (base:=base) T
  have G_require_account:=ok_require_account (P:=P) (w:=w) (base:=base) T
  refine T.F_require_agreeing.ok sc_require_agreeing (fun vs H Q E h=>?_) (fun cdv Ar outer s H vs Q E hr h=>?_)
  · obtain ⟨t,p,h,cs,ls,acs,rfl,_⟩:=h;rfl
  · skip
    obtain ⟨t,p,h,cs,ls,acs,rfl,hT,hp,hacs,kk⟩:=h
    refine PSs.rd (pss_cons (ps_for PassesOwn.never rfl (pi_tup (pvI 1)) (pg_name (i:=2) nd rfl (Or.inl rfl))
      (pss_one (ps_expr (pe_call (G_require_account.mono (by decide)) hr rfl T.m_require_account T.k_require_account T.d_require_account .nil pass0 (pa_cons (pvI 0) (pa_cons (pvI 2) pa_nil))))))
    (pss_one (ps_for PassesOwn.never rfl (pi_tup (pvI 1)) (pg_name (i:=2) nd rfl (Or.inl rfl))
      (pss_one (ps_if (pt_not (pt_truth (pe_call (G_agrees.mono (by decide)) hr rfl T.m_agrees T.k_agrees T.d_agrees .nil pass0 (pa_cons (pvI 0) (pa_cons (pvI 2) pa_nil))) (fun _=>rfl)))
         (pss_one ps_never)
         pss_nil))))) ?_
    try dsimp only [L2.cxOf,L2.Cx.nox]
    refine ⟨_,rfl,p,rfl,⟨_,hp⟩,?_⟩
    refine for_tup (xs:=acs.map fun x=>V.ref x.1) (fun i σ H'=>Same H H'∧∃ x,σ=[some (.ref t),some (.ref p),x]) ⟨Same.refl _,_,rfl⟩ (fun i σ H' _ q=>q.1.tupS hp) ?_ ?_
    · intro i x σ H' hx zz1
      refine byC fun hG=>?_
      obtain ⟨s1,y,rfl⟩:=zz1
      refine hG ?_
      rw [List.getElem?_map] at hx
      refine byC fun hG=>?_
      obtain ⟨z,hz,rfl⟩:=Option.map_eq_some_iff.mp hx
      obtain ⟨z1,z2,z3⟩:=hacs z (List.mem_of_getElem? hz)
      refine hG ?_
      exact ⟨_,rfl,_,rfl,t,z.1,h,cs,ls,z.2,rfl,hT.same s1,s1.seq z1,z2,fun H2 s2=>⟨s1.trans s2,_,rfl⟩⟩
    intro σ H1 zz2
    refine byC fun hG=>?_
    obtain ⟨s1,y,rfl⟩:=zz2
    refine hG ?_
    refine ⟨_,rfl,p,rfl,⟨_,s1.tupS hp⟩,?_⟩
    refine for_tup (xs:=acs.map fun x=>V.ref x.1) (fun i σ H'=>Same H H'∧∃ x,σ=[some (.ref t),some (.ref p),x]) ⟨s1,_,rfl⟩ (fun i σ H' _ q=>q.1.tupS hp) ?_ ?_
    · intro i x σ H' hx zz3
      refine byC fun hG=>?_
      obtain ⟨s2,y,rfl⟩:=zz3
      refine hG ?_
      rw [List.getElem?_map] at hx
      refine byC fun hG=>?_
      obtain ⟨z,hz,rfl⟩:=Option.map_eq_some_iff.mp hx
      obtain ⟨z1,z2,z3⟩:=hacs z (List.mem_of_getElem? hz)
      refine hG ?_
      refine ⟨_,rfl,_,rfl,t,z.1,h,cs,ls,z.2,rfl,hT.same s2,s2.seq z1,z2,fun H3 s3=>?_⟩
      rw [decide_eq_true z3]
      exact ⟨_,rfl,iteF ⟨s2.trans s3,_,rfl⟩⟩
    intro σ H2 zz4
    refine byC fun hG=>?_
    obtain ⟨s2,y,rfl⟩:=zz4
    refine hG ?_
    exact kk _ s2
def sp_kept (K:Frag) (A:Adr):Sp:=fun vs H Q _=>∃ (t ac:Addr) (h:Nat) (cs:List Row) (ls acc:List Int),vs=[.ref t,.ref ac]∧TabAt A.c_Table K H t h cs ls∧SqL K H ac (acc.map V.int)∧AccOk cs acc∧askL cs ls acc=acc∧
  ∀ r H',H r=none→Same H H'→H' r=some (.lst ((keptL cs ls acc).map V.int))→Q (.ref r) H'
theorem sc_kept:FnScope ["table", "account", "told", "cover", "bill"] ["table", "account"] (defScope s_kept):=⟨rfl,rfl,rfl,by decide +kernel,rfl,by decide +kernel,by decide +kernel⟩
set_option maxHeartbeats 4000000 in
theorem ok_kept (T:Txt w K mg A):FnOk P w K mg base CX0 7 A.a_kept A.f_kept ["table", "account"] (sp_kept K A):=by
  have nd:=sc_kept.nd
  have G_Table_covers:=ok_Table_covers (P:=P) (w:=w) (base:=base) T
  have G_burdens:=ok_burdens (P:=P) (w:=w) (base:=base) T
  have G_require_agreeing:=ok_require_agreeing (P:=P) (w:=w) (base:=base) T
  refine T.F_kept.ok sc_kept (fun vs H Q E h=>?_) (fun cdv Ar outer s H vs Q E hr h=>?_)
  · obtain ⟨t,ac,h,cs,ls,acc,rfl,_⟩:=h;rfl
  · skip
    obtain ⟨t,ac,h,cs,ls,acc,rfl,hT,hac,hA,ha,kk⟩:=h
    have g:=hT.good
    have g10:=g.c10
    have hal:=hA.len
    refine PSs.rd (pss_cons (ps_expr (pe_call (G_require_agreeing.mono (by decide)) hr rfl T.m_require_agreeing T.k_require_agreeing T.d_require_agreeing .nil pass0 (pa_cons (pvI 0) (pa_cons (pe_tup (pa_cons (pvI 1) pa_nil)) pa_nil))))
    (pss_cons (ps_set (i:=2) nd rfl (Or.inl rfl) (pe_call (G_burdens.mono (by decide)) hr rfl T.m_burdens T.k_burdens T.d_burdens .nil pass0 (pa_cons (pvI 0) (pa_cons (pvI 1) pa_nil))))
    (pss_cons (ps_for PassesOwn.never rfl (pi_zip rfl T.b_zip (pa_cons (pe_meth0 (pvI 0) T.cl_Table T.me_Table_covers (G_Table_covers.mono (by decide)) hr T.d_Table_covers .nil pass0) (pa_cons (pvI 1) pa_nil))) (pg_tup (n:=2) rfl (pgs_cons (pg_name (i:=3) nd rfl (Or.inl rfl)) (pgs_cons (pg_name (i:=4) nd rfl (Or.inl rfl)) pgs_nil)))
      (pss_one (ps_augS (pvI 2) (pe_ix (ix_tupI K rfl) (pvI 3) pe_int (fun _ _=>rfl)) get_listG (pvI 4) ip_sub set_list)))
    (pss_one (ps_ret (pvI 2)))))) ?_
    try dsimp only [L2.cxOf,L2.Cx.nox]
    refine ⟨_,rfl,_,rfl,by show 1≤sizeLine;decide,fun tu htu=>?_⟩
    have stu:=same_upd (o:=.tup [.ref ac]) htu
    refine ⟨t,tu,h,cs,ls,[(ac,acc)],rfl,hT.same stu,SqT.of upd_same,fun x hx=>?_,fun H1 s1'=>?_⟩
    · rw [List.mem_singleton.mp hx]
      exact ⟨stu.seq hac,hA,ha⟩
    have s1:=stu.trans s1'
    refine ⟨_,rfl,_,rfl,t,ac,h,cs,ls,acc,rfl,hT.same s1,s1.seq hac,hA,fun r H2 hr s2 hr2=>?_⟩
    have s02:=s1.trans s2
    have hT2:=hT.same s02
    refine byC fun hG=>?_
    obtain ⟨dx,a,b,c,us0,qs,ht,_⟩:=hT2.ex
    refine hG ?_
    refine ⟨_,rfl,t,dx,_,rfl,ht,tabF_no (by decide +kernel) (by decide +kernel) (by decide +kernel) (by decide +kernel),t,h,cs,ls,rfl,hT2,fun cv us H3 hcv s3 hcv3 hcs=>?_⟩
    have hlen:=hcs.len
    have ncr:cv≠r:=fun z=>by rw [z,hr2] at hcv;cases hcv
    refine ⟨_,rfl,cv,ac,_,_,rfl,SqL.of hcv3,(s02.trans s3).seq hac,?_⟩
    refine for_zip (xs:=us) (ys:=acc.map V.int) (fun i σ H'=>Same H H'∧H' cv=some (.lst us)∧CovsAt K H' us cs∧H' r=some (.lst ((passL cs (burdL cs ls acc) i).1.map V.int))∧∃ x y,σ=[some (.ref t),some (.ref ac),some (.ref r),x,y])
      (by rw [List.length_map,hal,hlen]) ⟨s02.trans s3,hcv3,hcs,s3 _ _ hr2,_,_,rfl⟩ (fun i σ H' _ p=>⟨SqL.of p.2.1,p.1.seq hac⟩) ?_ ?_
    · intro i x y W σ H' hx hy zz1 hW
      refine byC fun hG=>?_
      obtain ⟨sm,hcv',hcs',hr',x0,y0,rfl⟩:=zz1
      obtain ⟨cc,hc,pc,rfl,lp,hrow,hL,hLl⟩:=hcs'.get hx
      refine hG ?_
      rw [List.getElem?_map] at hy
      refine byC fun hG=>?_
      obtain ⟨bi,hbi,rfl⟩:=Option.map_eq_some_iff.mp hy
      have gc:=g.cov cc (List.mem_of_getElem? hc)
      have gll:=g.ll
      have hj:cc.1=((cc.1.toNat:Nat):Int):=by have:=gc.ho;omega
      have hjl:cc.1.toNat < (passL cs (burdL cs ls acc) i).1.length:=by rw [passL_len1,burdL_len];have:=gc.ho;omega
      have hsu:=kept_step ha hc
      refine hG ?_
      rw [getD_of hbi] at hsu
      have sW:Same H' (upd H' W (.tup [.ref pc,.int bi])):=same_upd hW
      have hrW:=sW _ _ hr'
      refine ⟨W,_,rfl,SqT.of upd_same,rfl,_,_,rfl,_,_,rfl,rfl,?_⟩
      refine ⟨_,rfl,_,rfl,pc,_,0,_,rfl,rfl,sW.tupS hrow,rfl,r,_,cc.1.toNat,.int ((passL cs (burdL cs ls acc) i).1.getD cc.1.toNat 0),rfl,by rw [← hj],SqL.of hrW,?_,_,rfl,_,_,rfl,rfl,?_⟩
      · rw [List.getElem?_map,List.getElem?_eq_getElem hjl,Option.map_some,getD_of (List.getElem?_eq_getElem hjl)]
      refine ⟨r,_,_,cc.1.toNat,rfl,rfl,hrW,(by rw [hj];exact ixN_nat (by rw [List.length_map];exact hjl)),?_⟩
      refine ⟨fun b o e=>?_,?_,?_,?_,_,_,rfl⟩
      · rw [upd_ne (ne_of_none e (s1.free hr))];exact sW _ _ (sm b o e)
      · rw [upd_ne ncr];exact sW _ _ hcv'
      · exact CovsAt.updL (hcs'.same sW) hrW
      · rw [upd_same,← List.map_set,hsu]
    · intro σ H' zz2
      refine byC fun hG=>?_
      obtain ⟨sm,hcv',hcs',hr',x0,y0,rfl⟩:=zz2
      refine hG ?_
      rw [hlen] at hr'
      exact ⟨_,rfl,kk r H' (s1.free hr) sm hr'⟩
def sp_falls (K:Frag) (A:Adr):Sp:=fun vs H Q _=>∃ (t:Addr) (h:Nat) (cs:List Row) (ls:List Int) (j:Nat),vs=[.ref t,.int j]∧TabAt A.c_Table K H t h cs ls∧j < h∧ls.getD j 0+1≤9999∧∀ (f:Nat) H',f < h→keptL cs (moreL ls j 1) (leastL cs (moreL ls j 1))=moreL (keptL cs ls (leastL cs ls)) f 1→Same H H'→Q (.int f) H'
theorem sc_falls:FnScope ["table", "house", "richer", "now", "then"] ["table", "house"] (defScope s_falls):=⟨rfl,rfl,rfl,by decide +kernel,rfl,by decide +kernel,by decide +kernel⟩
set_option maxHeartbeats 4000000 in
theorem ok_falls (T:Txt w K mg A):FnOk P w K mg base CX0 8 A.a_falls A.f_falls ["table", "house"] (sp_falls K A):=by
  have nd:=sc_falls.nd
  have G_Table_houses:=ok_Table_houses (P:=P) (w:=w) (base:=base) T
  have G_Table_more:=ok_Table_more (P:=P) (w:=w) (base:=base) T
  have G_kept:=ok_kept (P:=P) (w:=w) (base:=base) T
  have G_least:=ok_least (P:=P) (w:=w) (base:=base) T
  refine T.F_falls.ok sc_falls (fun vs H Q E h=>?_) (fun cdv Ar outer s H vs Q E hr h=>?_)
  · obtain ⟨t,h,cs,ls,j,rfl,_⟩:=h;rfl
  · skip
    obtain ⟨t,h,cs,ls,j,rfl,hT,hj,h9,kk⟩:=h
    have g:=hT.good
    have gll:=g.ll
    have h6:=g.h6
    have hjl:j < ls.length:=by omega
    have h0:=(g.lb _ (getD_mem hjl)).1
    have g':=more_good (k:=1) g (by omega) h9
    obtain ⟨f,hf,ef⟩:=fall_one g hj h9
    obtain ⟨dx,a,b,c,us,qs,ht,_⟩:=hT.ex
    refine PSs.rd (pss_cons (ps_set (i:=2) nd rfl (Or.inl rfl) (pe_meth (pvI 0) T.cl_Table T.me_Table_more (G_Table_more.mono (by decide)) hr T.d_Table_more .nil pass0 (pa_cons (pvI 1) (pa_cons pe_int pa_nil))))
    (pss_cons (ps_set (i:=3) nd rfl (Or.inr rfl) (pe_call (G_kept.mono (by decide)) hr rfl T.m_kept T.k_kept T.d_kept .nil pass0 (pa_cons (pvI 0) (pa_cons (pe_call (G_least.mono (by decide)) hr rfl T.m_least T.k_least T.d_least .nil pass0 (pa_cons (pvI 0) pa_nil)) pa_nil))))
    (pss_cons (ps_set (i:=4) nd rfl (Or.inr rfl) (pe_call (G_kept.mono (by decide)) hr rfl T.m_kept T.k_kept T.d_kept .nil pass0 (pa_cons (pvI 2) (pa_cons (pe_call (G_least.mono (by decide)) hr rfl T.m_least T.k_least T.d_least .nil pass0 (pa_cons (pvI 2) pa_nil)) pa_nil))))
    (pss_one (ps_ret (pe_ix (ix_listI K rfl) (lcA (defScope s_falls) (pi_range1 rfl T.b_range (pa_cons (pe_meth0 (pvI 0) T.cl_Table T.me_Table_houses (G_Table_houses.mono (by decide)) hr T.d_Table_houses .nil pass0) pa_nil)) (fun _ _ _ _ _=>pgc 1) (fun _ _ _ _ _=>(pts_one (pt_cmpR op_ne (pe_ix (ix_listI K rfl) (pvI 3) (pvI 1) (fun _ _=>rfl)) (pe_ix (ix_listI K rfl) (pvI 2) (pvI 1) (fun _ _=>rfl)) (nomark _)))) (fun _ _ _ _ _=>(pvI 1))) pe_int (fun _ _=>rfl))))))) ?_
    try dsimp only [L2.cxOf,L2.Cx.nox]
    refine ⟨_,rfl,t,dx,_,rfl,ht,tabF_no (by decide +kernel) (by decide +kernel) (by decide +kernel) (by decide +kernel),_,rfl,t,h,cs,ls,j,1,rfl,hT,hj,by omega,h9,fun rr H1 hrr s1 hT1=>?_⟩
    refine ⟨_,rfl,_,rfl,t,h,cs,ls,rfl,hT.same s1,fun lo H2 hlo s2 hlo2=>?_⟩
    refine ⟨t,lo,h,cs,ls,leastL cs ls,rfl,(hT.same s1).same s2,SqL.of hlo2,least_ok g,least_fix g,fun nw H3 hnw s3 hnw3=>?_⟩
    have s23:=s2.trans s3
    refine ⟨_,rfl,_,rfl,rr,h,cs,_,rfl,hT1.same s23,fun lo2 H4 hlo2' s4 hlo4=>?_⟩
    refine ⟨rr,lo2,h,cs,_,leastL cs (moreL ls j 1),rfl,(hT1.same s23).same s4,SqL.of hlo4,least_ok g',least_fix g',fun th H5 hth s5 hth5=>?_⟩
    have s45:=s4.trans s5
    have s05:=(s1.trans s23).trans s45
    have hnw5:=s45 _ _ hnw3
    have hT5:=hT.same s05
    refine ⟨_,rfl,t,dx,_,rfl,s05 _ _ ht,tabF_no (by decide +kernel) (by decide +kernel) (by decide +kernel) (by decide +kernel),t,h,cs,ls,rfl,hT5,_,rfl,by omega,by omega,?_⟩
    have eh:((h:Nat):Int).toNat=h:=by omega
    rw [eh]
    have kl:(keptL cs ls (leastL cs ls)).length=h:=by rw [keptL_len,gll]
    rw [ef] at hth5
    generalize keptL cs ls (leastL cs ls)=kp at hth5 hnw5 kl
    refine lc_fG (fun i=>if i=f then some (V.int i) else none) (itG_range (H:=H5) (lo:=0) (n:=h)) (fun σ=>∃ x0 x1,σ=[x0,x1,some (.ref nw),some (.ref th)]) ⟨_,_,rfl⟩ (Nat.le_of_lt (small_line (by omega))) ?_ ?_
    · intro i x σ2 H6 Qt Qf hi zz1 s6 zz2 qt qf
      refine byC fun hG=>?_
      subst zz1
      obtain ⟨x0,x1,rfl⟩:=zz2
      have ei:(0+(i:Nat):Int)=((i:Nat):Int):=by omega
      have eg:=more_get (ls:=kp) (f:=f) (k:=1) (by omega) i
      refine hG ?_
      refine ⟨_,rfl,_,rfl,th,_,_,_,rfl,rfl,SqL.of (s6 _ _ hth5),(by show atI _ (0+(i:Nat):Int)=_;rw [ei];exact ix_of (by rw [moreL_len];omega)),_,rfl,_,rfl,nw,_,_,_,rfl,rfl,SqL.of (s6 _ _ hnw5),(by show atI _ (0+(i:Nat):Int)=_;rw [ei];exact ix_of (by omega)),rfl,_,rfl,iteND (fun hne=>?_) (fun heq=>?_)⟩
      · have e:i=f:=Classical.byContradiction fun z=>hne (by rw [eg,if_neg z,Int.add_zero])
        exact ⟨_,rfl,qt _ _ _ (by rw [if_pos e];show some (V.int (i:Int))=some (V.int (0+(i:Nat):Int));rw [ei]) ⟨_,_,rfl⟩ (Same.refl _)⟩
      · have e:¬ i=f:=fun z=>by
          have:=V.int.inj heq
          rw [eg,if_pos z] at this
          omega
        exact qf _ _ (by rw [if_neg e]) ⟨_,_,rfl⟩ (Same.refl _)
    intro D H6 hD s6 hD6
    rw [fm_one (f:=f) (v:=V.int f) (by rw [if_pos rfl]) h hf (fun i _ hne=>by rw [if_neg hne])] at hD6
    exact ⟨D,_,0,.int f,rfl,rfl,SqL.of hD6,rfl,kk f H6 hf ef (s05.trans s6)⟩
def sp_greatest (K:Frag) (A:Adr):Sp:=fun vs H Q _=>∃ (t:Addr) (h:Nat) (cs:List Row) (ls:List Int),vs=[.ref t]∧TabAt A.c_Table K H t h cs ls∧∀ r H',H r=none→Same H H'→H' r=some (.lst ((comeL cs ls (mostsL cs)).map V.int))→Q (.ref r) H'
theorem sc_greatest:FnScope ["table"] ["table"] (defScope s_greatest):=⟨rfl,rfl,rfl,by decide +kernel,rfl,by decide +kernel,by decide +kernel⟩
set_option maxHeartbeats 4000000 in
theorem ok_greatest (T:Txt w K mg A):FnOk P w K mg base CX0 6 A.a_greatest A.f_greatest ["table"] (sp_greatest K A):=by
  have nd:=sc_greatest.nd
  have G_Table_mosts:=ok_Table_mosts (P:=P) (w:=w) (base:=base) T
  have G_settle:=ok_settle (P:=P) (w:=w) (base:=base) T
  refine T.F_greatest.ok sc_greatest (fun vs H Q E h=>?_) (fun cdv Ar outer s H vs Q E hr h=>?_)
  · obtain ⟨t,h,cs,ls,rfl,_⟩:=h;rfl
  · skip
    obtain ⟨t,h,cs,ls,rfl,hT,kk⟩:=h
    obtain ⟨dx,a,b,c,us,qs,ht,_⟩:=hT.ex
    refine PSs.rd (pss_one (ps_ret (pe_call (G_settle.mono (by decide)) hr rfl T.m_settle T.k_settle T.d_settle .nil pass0 (pa_cons (pvI 0) (pa_cons (pe_meth0 (pvI 0) T.cl_Table T.me_Table_mosts (G_Table_mosts.mono (by decide)) hr T.d_Table_mosts .nil pass0) pa_nil))))) ?_
    try dsimp only [L2.cxOf,L2.Cx.nox]
    refine ⟨_,rfl,_,rfl,t,dx,_,rfl,ht,tabF_no (by decide +kernel) (by decide +kernel) (by decide +kernel) (by decide +kernel),t,h,cs,ls,rfl,hT,fun r H1 hr s1 hr1=>?_⟩
    exact ⟨t,r,h,cs,ls,mostsL cs,rfl,hT.same s1,SqL.of hr1,acc_mosts hT.good,moves_mosts hT.good,fun r2 H2 hr2 s2 e2=>kk r2 H2 (s1.free hr2) (s1.trans s2) e2⟩
def sp_spin (K:Frag) (A:Adr):Sp:=fun vs H Q _=>∃ (t:Addr) (h:Nat) (cs:List Row) (ls:List Int),vs=[.ref t]∧TabAt A.c_Table K H t h cs ls∧∀ r H',H r=none→Same H H'→H' r=some (.lst ((spinL cs ls).map V.int))→Q (.ref r) H'
theorem sc_spin:FnScope ["table"] ["table"] (defScope s_spin):=⟨rfl,rfl,rfl,by decide +kernel,rfl,by decide +kernel,by decide +kernel⟩
set_option maxHeartbeats 4000000 in
theorem ok_spin (T:Txt w K mg A):FnOk P w K mg base CX0 7 A.a_spin A.f_spin ["table"] (sp_spin K A):=by
  have nd:=sc_spin.nd
  have G_greatest:=ok_greatest (P:=P) (w:=w) (base:=base) T
  have G_least:=ok_least (P:=P) (w:=w) (base:=base) T
  refine T.F_spin.ok sc_spin (fun vs H Q E h=>?_) (fun cdv Ar outer s H vs Q E hr h=>?_)
  · obtain ⟨t,h,cs,ls,rfl,_⟩:=h;rfl
  · skip
    obtain ⟨t,h,cs,ls,rfl,hT,kk⟩:=h
    have g:=hT.good
    have g10:=g.c10
    have l1:(comeL cs ls (mostsL cs)).length=cs.length:=(iter_ok g (acc_mosts g) 241).len
    have l2:(comeL cs ls (List.replicate cs.length 0)).length=cs.length:=(iter_ok g (acc_zero g) 241).len
    refine PSs.rd (pss_one (ps_ret (lcA (defScope s_spin) (pi_zip rfl T.b_zip (pa_cons (pe_call (G_greatest.mono (by decide)) hr rfl T.m_greatest T.k_greatest T.d_greatest .nil pass0 (pa_cons (pvI 0) pa_nil)) (pa_cons (pe_call (G_least.mono (by decide)) hr rfl T.m_least T.k_least T.d_least .nil pass0 (pa_cons (pvI 0) pa_nil)) pa_nil))) (fun _ _ _ _ _=>pgc2 1 2) (fun _ _ _ _ _=>pts_nil) (fun _ _ _ _ _=>(pe_op op_subI (pvI 1) (pvI 2)))))) ?_
    try dsimp only [L2.cxOf,L2.Cx.nox]
    refine ⟨_,rfl,t,h,cs,ls,rfl,hT,fun hi H1 hhi s1 hhi1=>?_⟩
    refine ⟨_,rfl,t,h,cs,ls,rfl,hT.same s1,fun lo H2 hlo s2 hlo2=>?_⟩
    refine ⟨hi,lo,_,_,rfl,SqL.of (s2 _ _ hhi1),SqL.of hlo2,?_⟩
    refine lc_fG (fun i=>((spinL cs ls).map V.int)[i]?) (itG_zip (SqL.of (s2 _ _ hhi1)) (SqL.of hlo2) (by rw [List.length_map,List.length_map,l1,l2])) (fun σ=>∃ x y z,σ=[x,y,z]) ⟨_,_,_,rfl⟩ (Nat.le_of_lt (small_line (by rw [List.length_map];omega))) ?_ ?_
    · intro i x σ2 H3 Qt Qf hi' zz1 s3 zz2 qt qf
      refine byC fun hG=>?_
      obtain ⟨W,u,v,rfl,hW,hu,hv⟩:=zz1
      obtain ⟨x,y,z,rfl⟩:=zz2
      refine hG ?_
      rw [List.getElem?_map] at hu hv
      refine byC fun hG=>?_
      obtain ⟨a,ha,rfl⟩:=Option.map_eq_some_iff.mp hu
      obtain ⟨b,hb,rfl⟩:=Option.map_eq_some_iff.mp hv
      refine hG ?_
      refine ⟨W,_,rfl,SqT.of hW,rfl,_,_,rfl,_,_,rfl,rfl,?_⟩
      refine ⟨_,rfl,_,rfl,_,_,rfl,rfl,?_⟩
      refine qt _ _ _ ?_ ⟨_,_,_,rfl⟩ (Same.refl _)
      rw [List.length_map,l1] at hi'
      rw [List.getElem?_map,spinL_get hi',getD_of ha,getD_of hb];rfl
    intro D H3 hD s3 hD3
    have e:(List.range ((comeL cs ls (mostsL cs)).map V.int).length).filterMap (fun i=>((spinL cs ls).map V.int)[i]?)=(spinL cs ls).map V.int:=by
      have:=range_fm (ws:=(spinL cs ls).map V.int) (f:=fun i=>((spinL cs ls).map V.int)[i]?) fun _ _=>rfl
      rw [List.length_map,spinL_len] at this
      rw [List.length_map,l1];exact this
    rw [e] at hD3
    exact kk D H3 (s1.free (s2.free hD)) ((s1.trans s2).trans s3) hD3
def sp_reached (K:Frag) (A:Adr):Sp:=fun vs H Q _=>∃ (t ac:Addr) (h:Nat) (cs:List Row) (ls acc:List Int) (c:Nat),vs=[.ref t,.ref ac,.int c]∧TabAt A.c_Table K H t h cs ls∧SqL K H ac (acc.map V.int)∧AccOk cs acc∧c < cs.length∧
  ∀ r H',H r=none→Same H H'→H' r=some (.lst ((onwL cs acc c).map V.int))→Q (.ref r) H'
theorem sc_reached:FnScope ["table", "account", "cover", "covers", "lines", "bearing"] ["table", "account", "cover"] (defScope s_reached):=⟨rfl,rfl,rfl,by decide +kernel,rfl,by decide +kernel,by decide +kernel⟩
set_option maxHeartbeats 4000000 in
theorem ok_reached (T:Txt w K mg A):FnOk P w K mg base CX0 4 A.a_reached A.f_reached ["table", "account", "cover"] (sp_reached K A):=by
  have nd:=sc_reached.nd
  have G_Table_covers:=ok_Table_covers (P:=P) (w:=w) (base:=base) T
  have G_parts:=ok_parts (P:=P) (w:=w) (base:=base) T
  refine T.F_reached.ok sc_reached (fun vs H Q E h=>?_) (fun cdv Ar outer s H vs Q E hr h=>?_)
  · obtain ⟨t,ac,h,cs,ls,acc,c,rfl,_⟩:=h;rfl
  · skip
    obtain ⟨t,ac,h,cs,ls,acc,c,rfl,hT,hac,hA,hc,kk⟩:=h
    have g:=hT.good
    have g10:=g.c10
    have hal:=hA.len
    obtain ⟨dx,a0,b0,c0,us0,qs0,ht,_⟩:=hT.ex
    refine PSs.rd (pss_cons (ps_set (i:=3) nd rfl (Or.inr rfl) (pe_meth0 (pvI 0) T.cl_Table T.me_Table_covers (G_Table_covers.mono (by decide)) hr T.d_Table_covers .nil pass0))
    (pss_cons (ps_set (i:=4) nd rfl (Or.inl rfl) (pe_ix (ix_tupI K rfl) (pe_ix (ix_listI K rfl) (pvI 3) (pvI 2) (fun _ _=>rfl)) pe_int (fun _ _=>rfl)))
    (pss_cons (ps_set (i:=5) nd rfl (Or.inr rfl) (lcA (defScope s_reached) (pi_zipT rfl T.b_zip (pa_cons (pvI 4) (pa_cons (pe_call (G_parts.mono (by decide)) hr rfl T.m_parts T.k_parts T.d_parts .nil pass0 (pa_cons (pvI 4) (pa_cons (pe_ix (ix_listI K rfl) (pvI 1) (pvI 2) (fun _ _=>rfl)) pa_nil))) pa_nil))) (fun _ _ _ _ _=>pgcTN 1 2 3) (fun _ _ _ _ _=>(pts_one (pt_cmpR op_gtI (pvI 3) pe_int (nomark _)))) (fun _ _ _ _ _=>(pvI 1))))
    (pss_one (ps_ret (lcA (defScope s_reached) (pi_enum rfl T.b_enumerate (pa_cons (pvI 1) pa_nil)) (fun _ _ _ _ _=>pgc2 1 2) (fun _ _ _ _ _=>(pts_one (PW.pt (pw_and (pt_cmpR op_gtI (pvI 2) pe_int (nomark _)) (pw_and1 (pt_cmpR (op_in_seqK K rfl) (pe_ix (ix_tupI K rfl) (pe_ix (ix_listI K rfl) (pvI 4) (pvI 1) (fun _ _=>rfl)) pe_int (fun _ _=>rfl)) (pvI 3) (by with_unfolding_all rfl))))))) (fun _ _ _ _ _=>(pvI 1)))))))) ?_
    try dsimp only [L2.cxOf,L2.Cx.nox]
    rw [show ∀ v0 v1 v2:V,L2.start ["table", "account", "cover", "covers", "lines", "bearing"] [v0,v1,v2]=[some v0,some v1,some v2,none,none,none] from fun _ _ _=>rfl]
    refine ⟨_,rfl,t,dx,_,rfl,ht,tabF_no (by decide +kernel) (by decide +kernel) (by decide +kernel) (by decide +kernel),t,h,cs,ls,rfl,hT,fun cv us H1 hcv s1 hcv1 hcs=>?_⟩
    try dsimp only [List.set_cons_zero,List.set_cons_succ]
    have hlen:=hcs.len
    refine byC fun hG=>?_
    obtain ⟨cc,hcc⟩:=get_some (xs:=cs) (i:=c) hc
    obtain ⟨v,hv⟩:=get_some (xs:=us) (i:=c) (by omega)
    obtain ⟨c2,hc2,p,rfl,lp,hrow,hL,hLl⟩:=hcs.get hv
    refine hG ?_
    rw [hcc] at hc2
    cases hc2
    have gc:=g.cov cc (List.mem_of_getElem? hcc)
    have g4:=gc.gl.l4
    have g1:=gc.gl.l1
    refine ⟨_,rfl,_,rfl,cv,_,_,_,rfl,rfl,SqL.of hcv1,atI_nat hv,p,_,4,_,rfl,rfl,hrow,rfl,?_⟩
    try dsimp only [List.set_cons_zero,List.set_cons_succ]
    refine byC fun hG=>?_
    obtain ⟨bi,hbi⟩:=get_some (xs:=acc) (i:=c) (by omega)
    have hbd:=hA.bd c cc bi hcc hbi
    have gm:=gc.most
    obtain ⟨n,rfl⟩ : ∃ n:Nat,bi=(n:Int):=⟨bi.toNat,by omega⟩
    obtain ⟨vs,hlp,hvs⟩:=hL.ex
    have hvl:=hvs.len
    have ebi:acc.getD c 0=(n:Int):=getD_of hbi
    refine hG ?_
    refine ⟨_,rfl,_,rfl,_,rfl,_,rfl,ac,_,_,_,rfl,rfl,s1.seq hac,ix_of (by omega),?_⟩
    rw [ebi]
    refine ⟨lp,n,cc.2.2.2.2,rfl,hL,gc.gl,by omega,fun pa H2 hpa s2 hpa2=>?_⟩
    have dl:(Mt.deal (cc.2.2.2.2.map (·.2)) n).length=cc.2.2.2.2.length:=by rw [Mt.deal_length,List.length_map]
    refine ⟨lp,pa,_,_,rfl,s2.tupS hlp,SqL.of hpa2,?_⟩
    refine lc_fG (fun i=>(bearF cc.2.2.2.2 n i).map V.int) (itG_zipT (s2.tupS hlp) (SqL.of hpa2) (by rw [List.length_map,dl,hvl])) (fun σ=>∃ x0 x1 x2 x3,σ=[x0,x1,x2,x3]) ⟨_,_,_,_,rfl⟩ (Nat.le_of_lt (small_line (by omega))) ?_ ?_
    · intro i x σ2 H3 Qt Qf hi zz1 s3 zz2 qt qf
      refine byC fun hG=>?_
      obtain ⟨W,u,v,rfl,hW,hu,hv⟩:=zz1
      obtain ⟨x0,x1,x2,x3,rfl⟩:=zz2
      obtain ⟨l,hl,q,rfl,hq⟩:=(hvs.same (s2.trans s3)).get hu
      refine hG ?_
      rw [List.getElem?_map] at hv
      refine byC fun hG=>?_
      obtain ⟨di,hdi,rfl⟩:=Option.map_eq_some_iff.mp hv
      have ed:(Mt.deal (cc.2.2.2.2.map (·.2)) n).getD i 0=di:=getD_of hdi
      refine hG ?_
      have el:(cc.2.2.2.2.map (·.1)).getD i 0=l.1:=getD_of (by rw [List.getElem?_map,hl];rfl)
      refine ⟨W,_,rfl,SqT.of hW,rfl,_,_,rfl,q,_,rfl,hq,rfl,_,_,rfl,_,_,rfl,rfl,_,_,rfl,rfl,?_⟩
      try dsimp only [List.set_cons_zero,List.set_cons_succ]
      refine ⟨_,rfl,_,_,rfl,rfl,_,rfl,iteD (fun hp=>?_) (fun hp=>?_)⟩
      · exact ⟨_,rfl,qt _ _ _ (by unfold bearF;rw [ed,el,if_pos (show 0 < di by omega)];rfl) ⟨_,_,_,_,rfl⟩ (Same.refl _)⟩
      · exact qf _ _ (by unfold bearF;rw [ed,if_neg (show ¬ 0 < di by omega)];rfl) ⟨_,_,_,_,rfl⟩ (Same.refl _)
    intro be H3 hbe s3 hbe3
    rw [hvl,fm_ints] at hbe3
    replace hbe3:H3 be=some (.lst ((bearH cc.2.2.2.2 n).map V.int)):=hbe3
    try dsimp only [List.set_cons_zero,List.set_cons_succ]
    have s13:=s2.trans s3
    have s03:=s1.trans s13
    have hcv3:=s13 _ _ hcv1
    have hcs3:=hcs.same s13
    have ecc:=cov_getD hcc
    refine ⟨_,rfl,ac,_,rfl,s03.seq hac,?_⟩
    refine lc_fG (fun k=>(onwF cs acc c k).map V.int) (itG_enum (s03.seq hac)) (fun σ=>∃ x0 x1 x2,σ=[x0,x1,x2,some (.ref be),some (.ref cv)]) ⟨_,_,_,rfl⟩ (Nat.le_of_lt (small_line (by rw [List.length_map];omega))) ?_ ?_
    · intro k x σ2 H4 Qt Qf hk hY s4 zz3 qt qf
      refine byC fun hG=>?_
      obtain ⟨x0,x1,x2,rfl⟩:=zz3
      refine hG ?_
      rw [List.length_map] at hk
      refine byC fun hG=>?_
      obtain ⟨W,u,rfl,hW,hu⟩:=hY
      refine hG ?_
      rw [List.getElem?_map] at hu
      refine byC fun hG=>?_
      obtain ⟨bk,hbk,rfl⟩:=Option.map_eq_some_iff.mp hu
      have ebk:acc.getD k 0=bk:=getD_of hbk
      obtain ⟨ck,hck⟩:=get_some (xs:=cs) (i:=k) (by omega)
      obtain ⟨v,hv⟩:=get_some (xs:=us) (i:=k) (by omega)
      obtain ⟨c3,hc3,pk,rfl,lpk,hrowk,_,_⟩:=(hcs3.same s4).get hv
      refine hG ?_
      rw [hck] at hc3
      cases hc3
      have eck:=cov_getD hck
      refine ⟨W,_,rfl,SqT.of hW,rfl,_,_,rfl,_,_,rfl,rfl,?_⟩
      try dsimp only [List.set_cons_zero,List.set_cons_succ]
      refine ⟨_,rfl,_,_,rfl,rfl,_,rfl,iteD (fun hp=>?_) (fun hp=>?_)⟩
      case refine_2=>exact qf _ _ (by unfold onwF;rw [ebk,if_neg (fun z=>hp (by omega))];rfl) ⟨_,_,_,rfl⟩ (Same.refl _)
      refine ⟨_,rfl,_,rfl,cv,_,_,_,rfl,rfl,SqL.of (s4 _ _ hcv3),atI_nat hv,pk,_,0,_,rfl,rfl,hrowk,rfl,_,rfl,be,_,rfl,.inl (SqL.of (s4 _ _ hbe3)),rfl,flat_ints _,_,rfl,?_⟩
      rw [inV_ints]
      refine iteD (fun hm=>?_) (fun hm=>?_)
      · exact ⟨_,rfl,qt _ _ _ (by unfold onwF;rw [ebk,eck,ecc,ebi,Int.toNat_natCast,if_pos ⟨by omega,hm⟩];rfl) ⟨_,_,_,rfl⟩ (Same.refl _)⟩
      · exact qf _ _ (by unfold onwF;rw [ebk,eck,ecc,ebi,Int.toNat_natCast,if_neg (fun z=>hm z.2)];rfl) ⟨_,_,_,rfl⟩ (Same.refl _)
    intro D H4 hD s4 hD4
    rw [List.length_map,hal,fm_ints] at hD4
    exact kk D H4 (s03.free hD) (s03.trans s4) hD4
def sp_first_roads (K:Frag) (A:Adr):Sp:=fun vs H Q _=>∃ (t ac:Addr) (h:Nat) (cs:List Row) (ls acc:List Int),vs=[.ref t,.ref ac]∧TabAt A.c_Table K H t h cs ls∧SqL K H ac (acc.map V.int)∧AccOk cs acc∧
  ∀ d kvs H',H d=none→Same H H'→H' d=some (.dK kvs)→RKV H' kvs (firstR cs ls acc cs.length)→NewV H kvs→Q (.ref d) H'
theorem sc_first_roads:FnScope ["table", "account", "losses"] ["table", "account"] (defScope s_first_roads):=⟨rfl,rfl,rfl,by decide +kernel,rfl,by decide +kernel,by decide +kernel⟩
set_option maxHeartbeats 4000000 in
theorem ok_first_roads (T:Txt w K mg A):FnOk P w K mg base CX0 2 A.a_first_roads A.f_first_roads ["table", "account"] (sp_first_roads K A):=by
  have nd:=sc_first_roads.nd
  have G_Table_covers:=ok_Table_covers (P:=P) (w:=w) (base:=base) T
  have G_Table_losses:=ok_Table_losses (P:=P) (w:=w) (base:=base) T
  refine T.F_first_roads.ok sc_first_roads (fun vs H Q E h=>?_) (fun cdv Ar outer s H vs Q E hr h=>?_)
  · obtain ⟨t,ac,h,cs,ls,acc,rfl,_⟩:=h;rfl
  · skip
    obtain ⟨t,ac,h,cs,ls,acc,rfl,hT,hac,hA,kk⟩:=h
    have g:=hT.good
    have g10:=g.c10
    have gll:=g.ll
    have hal:=hA.len
    obtain ⟨dx,a0,b0,c0,us0,qs0,ht,_⟩:=hT.ex
    refine PSs.rd (pss_cons (ps_set (i:=2) nd rfl (Or.inr rfl) (pe_meth0 (pvI 0) T.cl_Table T.me_Table_losses (G_Table_losses.mono (by decide)) hr T.d_Table_losses .nil pass0))
    (pss_one (ps_ret (dcA (defScope s_first_roads) (pi_enum rfl T.b_enumerate (pa_cons (pe_meth0 (pvI 0) T.cl_Table T.me_Table_covers (G_Table_covers.mono (by decide)) hr T.d_Table_covers .nil pass0) pa_nil)) (fun _ _ _ _ _=>pgc2 1 2) (fun _ _ _ _ _=>(pts_one (PW.pt (pw_and (pt_cmpR op_gtI (pe_ix (ix_listI K rfl) (pvI 3) (pvI 1) (fun _ _=>rfl)) pe_int (nomark _)) (pw_and1 (pt_cmpR op_gtI (pe_ix (ix_listI K rfl) (pvI 4) (pe_ix (ix_tupI K rfl) (pvI 2) pe_int (fun _ _=>rfl)) (fun _ _=>rfl)) pe_int (nomark _))))))) (fun _ _ _ _ _=>(pvI 1)) (fun _ _ _ _ _=>(pe_lst (pa_cons (pvI 1) pa_nil))))))) ?_
    try dsimp only [L2.cxOf,L2.Cx.nox]
    rw [show ∀ v0 v1:V,L2.start ["table", "account", "losses"] [v0,v1]=[some v0,some v1,none] from fun _ _=>rfl]
    refine ⟨_,rfl,t,dx,_,rfl,ht,tabF_no (by decide +kernel) (by decide +kernel) (by decide +kernel) (by decide +kernel),t,h,cs,ls,rfl,hT,fun lo H1 hlo s1 hlo1=>?_⟩
    try dsimp only [List.set_cons_zero,List.set_cons_succ]
    refine ⟨_,rfl,t,dx,_,rfl,s1 _ _ ht,tabF_no (by decide +kernel) (by decide +kernel) (by decide +kernel) (by decide +kernel),t,h,cs,ls,rfl,hT.same s1,fun cv us H2 hcv s2 hcv2 hcs=>?_⟩
    have hlen:=hcs.len
    have s02:=s1.trans s2
    have hlo2:=s2 _ _ hlo1
    refine ⟨cv,_,rfl,SqL.of hcv2,?_⟩
    refine dc_grow (itG_enum (SqL.of hcv2)) (fun σ=>∃ x0 x1 x2,σ=[x0,x1,x2,some (.ref ac),some (.ref lo)]) (fun D i kvs H'=>RKV H' kvs (firstR cs ls acc i)∧NewV H kvs) ⟨_,_,_,rfl⟩ (Nat.le_of_lt (small_line (by omega))) (fun D hD=>⟨RKV.nil,fun kv hkv=>by simp at hkv⟩) (fun D i kvs H2 H3 h s=>⟨h.1.same s,h.2⟩) ?_ ?_
    · intro D i x kvs σ2 H3 Qt Qf hi hD hk s3 hY zz1 zz2 qt qf
      refine byC fun hG=>?_
      obtain ⟨x0,x1,x2,rfl⟩:=zz1
      obtain ⟨hP,hN⟩:=zz2
      obtain ⟨W,u,rfl,hW,hu⟩:=hY
      obtain ⟨cc,hcc,p,rfl,lp,hrow,_,_⟩:=(hcs.same s3).get hu
      have gc:=g.cov cc (List.mem_of_getElem? hcc)
      have gho:=gc.ho
      have ecc:=cov_getD hcc
      have hj:cc.1=((cc.1.toNat:Nat):Int):=by omega
      have hjl:cc.1.toNat < ls.length:=by omega
      refine hG ?_
      refine ⟨W,_,rfl,SqT.of hW,rfl,_,_,rfl,_,_,rfl,rfl,?_⟩
      try dsimp only [List.set_cons_zero,List.set_cons_succ]
      have no:¬ (0 < acc.getD i 0∧0 < ls.getD cc.1.toNat 0)→RKV H3 kvs (firstR cs ls acc (i+1)):=fun z=>by
        rw [firstR_succ]
        unfold firstF
        rw [ecc,if_neg z]
        simpa using hP
      refine ⟨_,rfl,_,rfl,ac,_,_,_,rfl,rfl,(s02.trans s3).seq hac,ix_of (by omega),_,_,rfl,rfl,_,rfl,iteD (fun h0=>?_) (fun h0=>?_)⟩
      case refine_2=>exact qf _ _ ⟨_,_,_,rfl⟩ (Same.refl _) ⟨no fun z=>h0 (by omega),hN⟩
      refine ⟨_,rfl,_,rfl,p,_,0,_,rfl,rfl,hrow,rfl,lo,_,_,_,rfl,rfl,SqL.of (s3 _ _ hlo2),(by show atI _ cc.1=_;rw [hj];exact ix_of hjl),_,_,rfl,rfl,_,rfl,iteD (fun h1=>?_) (fun h1=>?_)⟩
      case refine_2=>exact qf _ _ ⟨_,_,_,rfl⟩ (Same.refl _) ⟨no fun z=>h1 (by omega),hN⟩
      refine ⟨_,rfl,_,rfl,by show 1≤sizeLine;decide,fun a ha=>?_⟩
      have sa:=same_upd (o:=.lst [.int (i:Nat)]) ha
      refine qt _ (Sum.inl ((i:Nat):Int)) (.ref a) _ ⟨_,_,_,rfl⟩ sa ?_
      have hkey:(Sum.inl ((i:Nat):Int):Key)∉kvs.map (·.1):=fun z=>by
        refine byC fun hG=>?_
        obtain ⟨r,hr',e⟩:=hP.key.mp z
        have:=firstR_lt hr'
        have e':=Sum.inl.inj e
        refine hG ?_
        omega
      rw [putK_new _ (valV_no hkey),firstR_succ]
      have ef:firstF cs ls acc i=some (i,[(i:Int)]):=by unfold firstF;rw [ecc,if_pos ⟨by omega,by omega⟩]
      rw [ef]
      have hk':=sa _ _ hk
      refine ⟨((hP.same sa).snoc upd_same).updD hk',?_⟩
      have:=hN.put (k:=Sum.inl ((i:Nat):Int)) (a:=a) ((s02.trans s3).free ha)
      rwa [putK_new _ (valV_no hkey)] at this
    intro D H3 kvs hD s3 hk zz3
    refine byC fun hG=>?_
    obtain ⟨hP,hN⟩:=zz3
    refine hG ?_
    rw [hlen] at hP
    exact kk D kvs H3 (s02.free hD) (s02.trans s3) hk hP hN
def sp_longer_roads (K:Frag) (A:Adr):Sp:=fun vs H Q _=>∃ (t ac d en:Addr) (h:Nat) (cs:List Row) (ls acc:List Int) (kvs:List (Key×V)) (rs:List (Nat×List Int)) (es:List Nat),vs=[.ref t,.ref ac,.ref d,.ref en]∧TabAt A.c_Table K H t h cs ls∧SqL K H ac (acc.map V.int)∧AccOk cs acc∧
  H d=some (.dK kvs)∧RKV H kvs rs∧(rs.map (·.1)).Nodup∧(∀ q∈rs,q.2.length≤100)∧SqL K H en (es.map fun e:Nat=>V.int (e:Int))∧(∀ e∈es,e < cs.length∧∃ r,(e,r)∈rs)∧es.length≤1000∧
  ∀ l kvs' rs' H',H l=none→Same H H'→H' l=some (.dK kvs')→RKV H' kvs' rs'→NewV H kvs'→LongerP cs acc rs (fun e _=>e∈es) rs'→rs'=longR cs acc rs es→Q (.ref l) H'
theorem sc_longer_roads:FnScope ["table", "account", "roads", "ends", "told", "end", "number"] ["table", "account", "roads", "ends"] (defScope s_longer_roads):=⟨rfl,rfl,rfl,by decide +kernel,rfl,by decide +kernel,by decide +kernel⟩
set_option maxHeartbeats 4000000 in
theorem ok_longer_roads (T:Txt w K mg A):FnOk P w K mg base CX0 5 A.a_longer_roads A.f_longer_roads ["table", "account", "roads", "ends"] (sp_longer_roads K A):=by
  have nd:=sc_longer_roads.nd
  have G_reached:=ok_reached (P:=P) (w:=w) (base:=base) T
  refine T.F_longer_roads.ok sc_longer_roads (fun vs H Q E h=>?_) (fun cdv Ar outer s H vs Q E hr h=>?_)
  · obtain ⟨t,ac,d,en,h,cs,ls,acc,kvs,rs,es,rfl,_⟩:=h;rfl
  · skip
    obtain ⟨t,ac,d,en,h,cs,ls,acc,kvs,rs,es,rfl,hT,hac,hA,hd,hR,hnd,h100,hen,hes,hel,kk⟩:=h
    have g10:=hT.good.c10
    refine PSs.rd (pss_cons (ps_set (i:=4) nd rfl (Or.inl rfl) pe_dnewK)
    (pss_cons (ps_for PassesOwn.never rfl (pi_list (pvI 3)) (pg_name (i:=5) nd rfl (Or.inl rfl))
      (pss_one (ps_for PassesOwn.never rfl (pi_list (pe_call (G_reached.mono (by decide)) hr rfl T.m_reached T.k_reached T.d_reached .nil pass0 (pa_cons (pvI 0) (pa_cons (pvI 1) (pa_cons (pvI 5) pa_nil))))) (pg_name (i:=6) nd rfl (Or.inl rfl))
         (pss_one (ps_if (pt_cmpR (op_dnotin hr.units) (pvI 6) (pvI 2) (by with_unfolding_all rfl))
            (pss_one (ps_dput (lt1 hr.units) (pvI 4) (pvI 6) (pe_op op_cat (pe_dget (lt1 hr.units) (pvI 2) (pvI 5) (fun _ _=>rfl)) (pe_lst (pa_cons (pvI 6) pa_nil))) rfl))
            pss_nil)))))
    (pss_one (ps_ret (pvI 4))))) ?_
    try dsimp only [L2.cxOf,L2.Cx.nox]
    rw [show ∀ v0 v1 v2 v3:V,L2.start ["table", "account", "roads", "ends", "told", "end", "number"] [v0,v1,v2,v3]=[some v0,some v1,some v2,some v3,none,none,none] from fun _ _ _ _=>rfl]
    intro l hl
    have sl:=same_upd (o:=.dK []) hl
    have hl1:=upd_same (H:=H) (a:=l) (o:=.dK [])
    generalize upd H l (.dK [])=H1 at *
    try dsimp only [List.set_cons_zero,List.set_cons_succ]
    refine ⟨_,rfl,en,rfl,⟨_,sl.seq hen⟩,?_⟩
    refine for_list (xs:=es.map fun e:Nat=>V.int (e:Int)) (fun j σ H'=>Same H H'∧∃ kvs' rs' x5 x6,σ=[some (.ref t),some (.ref ac),some (.ref d),some (.ref en),some (.ref l),x5,x6]∧H' l=some (.dK kvs')∧kvs'.length≤10 * j∧RKV H' kvs' rs'∧NewV H kvs'∧LongerP cs acc rs (fun e _=>∃ i,i < j∧es[i]? = some e) rs'∧rs'=(es.take j).foldl (longE cs acc rs) [])
      ⟨sl,[],[],_,_,rfl,hl1,Nat.zero_le _,RKV.nil,fun kv hkv=>by simp at hkv,⟨by simp,fun q hq=>by simp at hq,fun e k ⟨i,hi,_⟩=>absurd hi (Nat.not_lt_zero _)⟩,rfl⟩ (fun j σ H' _ q=>q.1.seq hen) ?_ ?_
    · intro j v σ H2 hv zz1
      refine byC fun hG=>?_
      obtain ⟨s2,kvs',rs',x5,x6,rfl,hl2,hk2,hR2,hN2,hP2,hF2⟩:=zz1
      refine hG ?_
      rw [List.getElem?_map] at hv
      refine byC fun hG=>?_
      obtain ⟨e,he,rfl⟩:=Option.map_eq_some_iff.mp hv
      obtain ⟨hec,r0,hr0⟩:=hes e (List.mem_of_getElem? he)
      refine hG ?_
      try dsimp only [List.set_cons_zero,List.set_cons_succ]
      refine ⟨_,rfl,_,rfl,_,rfl,t,ac,h,cs,ls,acc,e,rfl,hT.same s2,s2.seq hac,hA,hec,fun on H3 hon s3 hon3=>?_⟩
      refine ⟨on,rfl,⟨_,SqL.of hon3⟩,?_⟩
      have hon0:H on=none:=s2.free hon
      refine for_list (xs:=(onwL cs acc e).map V.int) (fun i σ H'=>Same H H'∧H' on=some (.lst ((onwL cs acc e).map V.int))∧∃ kvs' rs' x6,σ=[some (.ref t),some (.ref ac),some (.ref d),some (.ref en),some (.ref l),some (.int (e:Nat)),x6]∧H' l=some (.dK kvs')∧kvs'.length≤10 * j+i∧RKV H' kvs' rs'∧NewV H kvs'∧LongerP cs acc rs (fun e' x=>(∃ i,i < j∧es[i]? = some e')∨(e'=e∧x∈(onwL cs acc e).take i)) rs'∧rs'=((onwL cs acc e).take i).foldl (longK rs e) ((es.take j).foldl (longE cs acc rs) []))
        ⟨s2.trans s3,hon3,kvs',rs',_,rfl,s3 _ _ hl2,hk2,hR2.same s3,hN2,hP2.mono (fun _ _ z=>.inl z) (fun e' x z _=>z.elim id fun z=>by simp at z),hF2⟩ (fun i σ H' _ q=>SqL.of q.2.1) ?_ ?_
      · intro i v σ H4 hv zz2
        refine byC fun hG=>?_
        obtain ⟨s4,hon4,kvs4,rs4,x6',rfl,hl4,hk4,hR4,hN4,hP4,hF4⟩:=zz2
        refine hG ?_
        rw [List.getElem?_map] at hv
        refine byC fun hG=>?_
        obtain ⟨x,hx,rfl⟩:=Option.map_eq_some_iff.mp hv
        obtain ⟨k,rfl,hk,_⟩:=onw_mem (List.mem_of_getElem? hx)
        have hd4:=s4 _ _ hd
        have hR4':=hR.same s4
        have hil:=get_lt hx
        have hjl:=get_lt he
        have onl:(onwL cs acc e).length≤10:=by
          unfold onwL
          have:=List.length_filterMap_le (onwF cs acc e) (List.range cs.length)
          rw [List.length_range] at this
          omega
        have z1:kvs4.length+1≤100000:=by omega
        refine hG ?_
        try dsimp only [List.set_cons_zero,List.set_cons_succ]
        refine ⟨_,rfl,_,rfl,d,_,rfl,DGet.k (k:=Sum.inl (k:Int)) hd4,_,rfl,iteNB (fun hn=>?_) (fun hy=>?_)⟩
        · have hkn:k∉rs.map (·.1):=fun z=>by rw [(hR.isSome k).mpr z] at hn;cases hn
          refine byC fun hG=>?_
          obtain ⟨ra,hva,hra⟩:=hR4'.valV_some hnd hr0
          have dg:DGet H4 d (V.int (e:Int)) (some (.ref ra)):=by rw [← hva];exact DGet.k (k:=Sum.inl (e:Int)) hd4
          refine hG ?_
          refine ⟨_,rfl,_,rfl,d,_,rfl,dg,_,rfl,by show 1≤sizeLine;decide,fun z hz=>?_⟩
          have t1:=same_upd (o:=.lst [.int (k:Nat)]) hz
          have k1:=upd_same (H:=H4) (a:=z) (o:=.lst [.int (k:Nat)])
          have hr100:=h100 _ hr0
          refine ⟨ra,z,_,_,rfl,rfl,t1 _ _ hra,k1,Nat.le_of_lt (small_line (by show (r0.map V.int).length+1≤100000;rw [List.length_map];have:r0.length≤100:=hr100;omega)),fun z2 hz2=>?_⟩
          generalize upd H4 z (.lst [.int (k:Nat)])=H5 at *
          have t2:=same_upd (o:=.lst (r0.map V.int ++ [.int (k:Nat)])) hz2
          have k2:upd H5 z2 (.lst (r0.map V.int ++ [.int (k:Nat)])) z2=some (.lst ((r0 ++ [(k:Int)]).map V.int)):=by rw [upd_same,List.map_append];rfl
          generalize upd H5 z2 (.lst (r0.map V.int ++ [.int (k:Nat)]))=H6 at *
          have t12:=t1.trans t2
          have hl6:=t12 _ _ hl4
          refine ⟨_,rfl,_,rfl,l,_,rfl,DPut.k (k:=Sum.inl (k:Int)) hl6 (small_line (by omega)),?_⟩
          refine byC fun hG=>?_
          obtain ⟨hR5,nd5,hq5,hk5,hsub⟩:=(hR4.same t12).putE (k:=k) hP4.nd k2
          have non:on≠l:=fun z=>by rw [z,hl4] at hon4;cases hon4
          refine hG ?_
          refine ⟨upd_same_of (s4.trans t12) hl,by rw [upd_ne non];exact t12 _ _ hon4,_,_,_,rfl,upd_same,?_,hR5.updD hl6,hN4.put ((s4.trans t1).free hz2),hP4.put hx hk hkn hr0 nd5 hq5 hk5 hsub,?_⟩
          case refine_2=>
            rw [foldl_take hx,← hF4]
            show _=if ((k:Nat):Int).toNat∈_ then _ else _
            rw [Int.toNat_natCast,if_neg hkn,lookR_mem hnd hr0]
          have:=length_putK kvs4 (Sum.inl (k:Int)) (V.ref z2)
          omega
        · have hkn:k∈rs.map (·.1):=(hR.isSome k).mp hy
          refine ⟨s4,hon4,kvs4,rs4,_,rfl,hl4,by omega,hR4,hN4,hP4.skip hx hkn,?_⟩
          rw [foldl_take hx,← hF4]
          show _=if ((k:Nat):Int).toNat∈_ then _ else _
          rw [Int.toNat_natCast,if_pos hkn]
      · intro σ H4 zz3
        refine byC fun hG=>?_
        obtain ⟨s4,hon4,kvs4,rs4,x6',rfl,hl4,hk4,hR4,hN4,hP4,hF4⟩:=zz3
        have onl:(onwL cs acc e).length≤10:=by
          unfold onwL
          have:=List.length_filterMap_le (onwF cs acc e) (List.range cs.length)
          rw [List.length_range] at this
          omega
        refine hG ?_
        rw [List.length_map] at hk4
        rw [List.length_map,List.take_length] at hP4 hF4
        refine ⟨s4,kvs4,rs4,_,_,rfl,hl4,by omega,hR4,hN4,hP4.mono (fun e' x z=>?_) (fun e' x z hx=>?_),by rw [foldl_take he];exact hF4⟩
        · rcases z with ⟨i,hi,he'⟩ | ⟨rfl,_⟩
          · exact ⟨i,by omega,he'⟩
          · exact ⟨j,by omega,he⟩
        · obtain ⟨i,hi,he'⟩:=z
          by_cases e1:i=j
          · subst e1;rw [he] at he';cases he';exact .inr ⟨rfl,hx⟩
          · exact .inl ⟨i,by omega,he'⟩
    · intro σ H2 zz4
      refine byC fun hG=>?_
      obtain ⟨s2,kvs',rs',x5,x6,rfl,hl2,hk2,hR2,hN2,hP2,hF2⟩:=zz4
      refine hG ?_
      rw [List.length_map,List.take_length] at hF2
      refine ⟨_,rfl,kk l kvs' rs' H2 hl s2 hl2 hR2 hN2 (hP2.mono (fun e x z=>?_) (fun e x z _=>?_)) hF2⟩
      · obtain ⟨i,_,he⟩:=z
        exact List.mem_of_getElem? he
      · obtain ⟨i,hi⟩:=List.mem_iff_getElem?.mp z
        exact ⟨i,by rw [List.length_map];exact get_lt hi,hi⟩
def sp_road (K:Frag) (A:Adr):Sp:=fun vs H Q _=>∃ (t:Addr) (h:Nat) (cs:List Row) (ls:List Int) (c:Nat),vs=[.ref t,.int c]∧TabAt A.c_Table K H t h cs ls∧c < cs.length∧
  ((leastL cs ls).getD c 0=0→∀ H',Same H H'→Q .non H')∧
  (0 < (leastL cs ls).getD c 0→∀ r rd j H',H r=none→Same H H'→H' r=some (.lst (rd.map V.int))→Rd cs ls (leastL cs ls) j c rd→(∀ i,i < j→¬ lev cs ls (leastL cs ls) i c)→j≤cs.length→RoadP cs ls (leastL cs ls) c rd→Q (.ref r) H')
theorem sc_road:FnScope ["table", "cover", "account", "roads", "ends", "longer"] ["table", "cover"] (defScope s_road):=⟨rfl,rfl,rfl,by decide +kernel,rfl,by decide +kernel,by decide +kernel⟩
set_option maxHeartbeats 4000000 in
theorem ok_road (T:Txt w K mg A):FnOk P w K mg base CX0 7 A.a_road A.f_road ["table", "cover"] (sp_road K A):=by
  have nd:=sc_road.nd
  have G_first_roads:=ok_first_roads (P:=P) (w:=w) (base:=base) T
  have G_least:=ok_least (P:=P) (w:=w) (base:=base) T
  have G_longer_roads:=ok_longer_roads (P:=P) (w:=w) (base:=base) T
  have G_require_cover:=ok_require_cover (P:=P) (w:=w) (base:=base) T
  refine T.F_road.ok sc_road (fun vs H Q E h=>?_) (fun cdv Ar outer s H vs Q E hr h=>?_)
  · obtain ⟨t,h,cs,ls,c,rfl,_⟩:=h;rfl
  · skip
    obtain ⟨t,h,cs,ls,c,rfl,hT,hcl,kn,kr⟩:=h
    have g:=hT.good
    have g10:=g.c10
    refine PSs.rd (pss_cons (ps_expr (pe_call (G_require_cover.mono (by decide)) hr rfl T.m_require_cover T.k_require_cover T.d_require_cover .nil pass0 (pa_cons (pvI 0) (pa_cons (pvI 1) pa_nil))))
    (pss_cons (ps_set (i:=2) nd rfl (Or.inl rfl) (pe_call (G_least.mono (by decide)) hr rfl T.m_least T.k_least T.d_least .nil pass0 (pa_cons (pvI 0) pa_nil)))
    (pss_cons (ps_if (pt_cmpR op_eq (pe_ix (ix_listI K rfl) (pvI 2) (pvI 1) (fun _ _=>rfl)) pe_int (nomark _))
      (pss_one (ps_ret pe_non))
      pss_nil)
    (pss_cons (ps_set (i:=3) nd rfl (Or.inl rfl) (pe_call (G_first_roads.mono (by decide)) hr rfl T.m_first_roads T.k_first_roads T.d_first_roads .nil pass0 (pa_cons (pvI 0) (pa_cons (pvI 2) pa_nil))))
    (pss_cons (ps_set (i:=4) nd rfl (Or.inl rfl) (pe_callTy (call_listD rfl) rfl T.b_list boot_ty_list (pa_cons (pvI 3) pa_nil)))
    (pss_cons (ps_while PassesOwn.never (pt_cmpR (op_dnotin hr.units) (pvI 1) (pvI 3) (by with_unfolding_all rfl))
      (pss_cons (ps_set (i:=5) nd rfl (Or.inl rfl) (pe_call (G_longer_roads.mono (by decide)) hr rfl T.m_longer_roads T.k_longer_roads T.d_longer_roads .nil pass0 (pa_cons (pvI 0) (pa_cons (pvI 2) (pa_cons (pvI 3) (pa_cons (pvI 4) pa_nil))))))
       (pss_cons (ps_expr (pe_dupdate (pvI 3) (pvI 5) ⟨rfl,rfl,rfl,rfl⟩))
       (pss_one (ps_set (i:=4) nd rfl (Or.inl rfl) (pe_callTy (call_listD rfl) rfl T.b_list boot_ty_list (pa_cons (pvI 5) pa_nil)))))))
    (pss_one (ps_ret (pe_dget (lt1 hr.units) (pvI 3) (pvI 1) (fun _ _=>rfl)))))))))) ?_
    try dsimp only [L2.cxOf,L2.Cx.nox]
    rw [show ∀ v0 v1:V,L2.start ["table", "cover", "account", "roads", "ends", "longer"] [v0,v1]=[some v0,some v1,none,none,none,none] from fun _ _=>rfl]
    refine ⟨_,rfl,_,rfl,t,h,cs,ls,c,rfl,hT,hcl,fun H1 s1=>?_⟩
    refine ⟨_,rfl,t,h,cs,ls,rfl,hT.same s1,fun ac H2 hac s2 hac2=>?_⟩
    replace hac2:H2 ac=some (.lst ((leastL cs ls).map V.int)):=hac2
    have hok:=least_ok g
    have hal:=hok.len
    have reach:=fun k=>reach_least (cs:=cs) (ls:=ls) g (k:=k)
    generalize leastL cs ls=acc at *
    try dsimp only [List.set_cons_zero,List.set_cons_succ]
    have s02:=s1.trans s2
    refine byC fun hG=>?_
    obtain ⟨bi,hbi⟩:=get_some (xs:=acc) (i:=c) (by omega)
    obtain ⟨cc,hcc⟩:=get_some (xs:=cs) hcl
    have hbd:=hok.bd c cc bi hcc hbi
    have ebi:acc.getD c 0=bi:=getD_of hbi
    refine hG ?_
    refine ⟨_,rfl,_,rfl,ac,_,_,_,rfl,rfl,SqL.of hac2,ix_of (by omega),rfl,_,rfl,iteD (fun hz=>?_) (fun hz=>?_)⟩
    · exact kn (V.int.inj hz) H2 s02
    have hpos:0 < acc.getD c 0:=by
      have:acc.getD c 0≠0:=fun z=>hz (by rw [z])
      omega
    replace kr:=kr hpos
    have hex:=reach c hpos
    refine ⟨_,rfl,_,rfl,t,ac,h,cs,ls,acc,rfl,hT.same s02,SqL.of hac2,hok,fun d kvs H3 hd s3 hd3 hR hN=>?_⟩
    try dsimp only [List.set_cons_zero,List.set_cons_succ]
    have s03:=s02.trans s3
    refine ⟨_,rfl,d,kvs,rfl,hd3,fun en hen=>?_⟩
    have sen:=same_upd (o:=.lst (kvs.map fun kv=>kV kv.1)) hen
    have hen4:=upd_same (H:=H3) (a:=en) (o:=.lst (kvs.map fun kv=>kV kv.1))
    generalize upd H3 en (.lst (kvs.map fun kv=>kV kv.1))=H4 at *
    rw [hR.listed] at hen4
    have s04:=s03.trans sen
    try dsimp only [List.set_cons_zero,List.set_cons_succ]
    have hd0:H d=none:=s02.free hd
    have hP0:RoadsP cs ls acc 0 (firstR cs ls acc cs.length) ((firstR cs ls acc cs.length).map (·.1)):=RoadsP.first
    have hfl:=hP0.len
    refine ⟨fun m σ H'=>∃ (n:Nat) (kvs:List (Key×V)) (rs:List (Nat×List Int)) (es:List Nat) (en:Addr) (x5:Option V),m=20 - n∧σ=[some (.ref t),some (.int (c:Nat)),some (.ref ac),some (.ref d),some (.ref en),x5]∧Same H H'∧H' ac=some (.lst (acc.map V.int))∧H' d=some (.dK kvs)∧RKV H' kvs rs∧NewV H kvs∧RoadsP cs ls acc n rs es∧H' en=some (.lst (es.map fun e:Nat=>V.int (e:Int)))∧es.length≤10∧(rs,es)=runR cs ls acc n∧(∀ m,m < n→c∉(runR cs ls acc m).1.map (·.1)),
      ⟨_,0,kvs,_,_,en,_,rfl,rfl,s04,(s3.trans sen) _ _ hac2,sen _ _ hd3,hR.same sen,hN.weak s02,hP0,hen4,by rw [List.length_map];omega,rfl,fun m hm=>absurd hm (Nat.not_lt_zero _)⟩,?_⟩
    clear hR hN hen4 hd3 hd sen hen s3
    intro m σ H5 zz1
    refine byC fun hG=>?_
    obtain ⟨n,kvs,rs,es,en,x5,rfl,rfl,s5,hac5,hd5,hR,hN,hP,hen5,hel,hru,hmi⟩:=zz1
    have hrl:=hP.len
    have hbig:=hP.big
    refine hG ?_
    refine ⟨_,rfl,_,rfl,d,_,rfl,DGet.k (k:=Sum.inl (c:Int)) hd5,_,rfl,iteNB (fun hn=>?_) (fun hy=>?_)⟩
    · have hcn:c∉rs.map (·.1):=fun z=>by rw [(hR.isSome c).mpr z] at hn;cases hn
      refine ⟨fun σ H'=>∃ (kvs:List (Key×V)) (rs:List (Nat×List Int)) (es:List Nat) (en:Addr) (x5:Option V),σ=[some (.ref t),some (.int (c:Nat)),some (.ref ac),some (.ref d),some (.ref en),x5]∧Same H H'∧H' ac=some (.lst (acc.map V.int))∧H' d=some (.dK kvs)∧RKV H' kvs rs∧NewV H kvs∧RoadsP cs ls acc (n+1) rs es∧H' en=some (.lst (es.map fun e:Nat=>V.int (e:Int)))∧es.length≤10∧(rs,es)=runR cs ls acc (n+1)∧(∀ m,m < n+1→c∉(runR cs ls acc m).1.map (·.1)),?_,?_⟩
      · intro σ' H' zz2
        refine byC fun hG=>?_
        obtain ⟨kvs,rs,es,en,x5,rfl,a1,a2,a3,a4,a5,a6,a7,a8,a9⟩:=zz2
        refine hG ?_
        exact ⟨20 - (n+1),by omega,n+1,kvs,rs,es,en,x5,rfl,rfl,a1,a2,a3,a4,a5,a6,a7,a8,a9⟩
      refine ⟨_,rfl,_,rfl,_,rfl,_,rfl,t,ac,d,en,h,cs,ls,acc,kvs,rs,es,rfl,hT.same s5,SqL.of hac5,hok,hd5,hR,hP.nd,fun q hq=>by have:=hP.lens hq;omega,SqL.of hen5,fun e he=>?_,by omega,fun lg kvs' rs' H6 hlg s6 hlg6 hR6 hN6 hL6 hF6=>?_⟩
      · have hl:=((hP.ends e).mp he).1
        refine byC fun hG=>?_
        obtain ⟨q,hq,rfl⟩:=List.mem_map.mp ((hP.key e).mpr hl)
        refine hG ?_
        exact ⟨lev_lt hl,q.2,hq⟩
      try dsimp only [List.set_cons_zero,List.set_cons_succ]
      have hd6:=s6 _ _ hd5
      have ne:d≠lg:=fun z=>by rw [z,hlg] at hd5;cases hd5
      have hll:=hL6.len
      have hP':=hP.next hL6 hex hcn
      refine byC fun hG=>?_
      obtain ⟨hRm,em⟩:=(hR.same s6).merge hR6 hP'.nd
      refine hG ?_
      refine ⟨_,rfl,d,rfl,.inl ⟨kvs,.inl hd6⟩,_,rfl,lg,kvs,kvs',rfl,hd6,hlg6,ne,Nat.le_of_lt (small_line (by rw [hR.1,hR6.1];omega)),?_⟩
      have nac:ac≠d:=fun z=>by have:=s6 _ _ hac5;rw [z,hd6] at this;cases this
      have s7:Same H (upd H6 d (.dK (mergeK kvs kvs'))):=upd_same_of (s5.trans s6) hd0
      have hac7:upd H6 d (.dK (mergeK kvs kvs')) ac=some (.lst (acc.map V.int)):=by rw [upd_ne nac];exact s6 _ _ hac5
      have hd7:=upd_same (H:=H6) (a:=d) (o:=.dK (mergeK kvs kvs'))
      have hlg7:upd H6 d (.dK (mergeK kvs kvs')) lg=some (.dK kvs'):=by rw [upd_ne ne.symm];exact hlg6
      have hR7:=hRm.updD (o:=.dK (mergeK kvs kvs')) hd6
      generalize upd H6 d (.dK (mergeK kvs kvs'))=H7 at *
      refine ⟨_,rfl,lg,kvs',rfl,hlg7,fun en2 hen2=>?_⟩
      have t8:=same_upd (o:=.lst (kvs'.map fun kv=>kV kv.1)) hen2
      refine ⟨mergeK kvs kvs',_,_,en2,_,rfl,s7.trans t8,t8 _ _ hac7,t8 _ _ hd7,hR7.same t8,?_,hP',?_,by rw [List.length_map];omega,?_,fun m hm=>?_⟩
      · rw [em];exact hN.app (hN6.weak s5)
      · rw [upd_same,hR6.listed]
      · show _=((runR cs ls acc n).1 ++ longR cs acc (runR cs ls acc n).1 (runR cs ls acc n).2,(longR cs acc (runR cs ls acc n).1 (runR cs ls acc n).2).map (·.1))
        rw [← hru,← hF6]
      · by_cases e:m=n
        · rw [e,← hru];exact hcn
        · exact hmi m (by omega)
    have hcy:c∈rs.map (·.1):=(hR.isSome c).mp hy
    refine byC fun hG=>?_
    obtain ⟨q,hq,rfl⟩:=List.mem_map.mp hcy
    obtain ⟨a,hva,ha⟩:=hR.valV_some hP.nd (r:=q.2) hq
    obtain ⟨j,hj,hmin⟩:=hP.road q hq
    have dg:DGet H5 d (V.int (q.1:Int)) (some (.ref a)):=by rw [← hva];exact DGet.k (k:=Sum.inl (q.1:Int)) hd5
    have hlen:=hP.lens hq
    refine hG ?_
    rw [hj.len] at hlen
    exact ⟨_,rfl,_,rfl,d,_,rfl,dg,kr a q.2 j H5 (hN.val hva) s5 ha hj hmin (by omega) ⟨n,hmi,by rw [← hru];exact hP.nd,by rw [← hru];exact hq⟩⟩
def sp_hangs (K:Frag) (A:Adr):Sp:=fun vs H Q _=>∃ (t:Addr) (h:Nat) (cs:List Row) (ls:List Int) (j:Nat),vs=[.ref t,.int j]∧TabAt A.c_Table K H t h cs ls∧j < h∧
  ∀ r H',H r=none→Same H H'→H' r=some (.lst ((hangL cs ls j).map V.int))→Q (.ref r) H'
theorem sc_hangs:FnScope ["table", "house", "spared", "pairs"] ["table", "house"] (defScope s_hangs):=⟨rfl,rfl,rfl,by decide +kernel,rfl,by decide +kernel,by decide +kernel⟩
set_option maxHeartbeats 4000000 in
theorem ok_hangs (T:Txt w K mg A):FnOk P w K mg base CX0 7 A.a_hangs A.f_hangs ["table", "house"] (sp_hangs K A):=by
  have nd:=sc_hangs.nd
  have G_Table_houses:=ok_Table_houses (P:=P) (w:=w) (base:=base) T
  have G_Table_losses:=ok_Table_losses (P:=P) (w:=w) (base:=base) T
  have G_Table_more:=ok_Table_more (P:=P) (w:=w) (base:=base) T
  have G_least:=ok_least (P:=P) (w:=w) (base:=base) T
  have G_require_house:=ok_require_house (P:=P) (w:=w) (base:=base) T
  refine T.F_hangs.ok sc_hangs (fun vs H Q E h=>?_) (fun cdv Ar outer s H vs Q E hr h=>?_)
  · obtain ⟨t,h,cs,ls,j,rfl,_⟩:=h;rfl
  · skip
    obtain ⟨t,h,cs,ls,j,rfl,hT,hj,kk⟩:=h
    have g:=hT.good
    have gll:=g.ll
    have h6:=g.h6
    have g10:=g.c10
    obtain ⟨dx,a,b,c,us,qs,ht,_⟩:=hT.ex
    refine PSs.rd (pss_cons (ps_expr (pe_call (G_require_house.mono (by decide)) hr rfl T.m_require_house T.k_require_house T.d_require_house .nil pass0 (pa_cons (pe_meth0 (pvI 0) T.cl_Table T.me_Table_houses (G_Table_houses.mono (by decide)) hr T.d_Table_houses .nil pass0) (pa_cons (pvI 1) pa_nil))))
    (pss_cons (ps_set (i:=2) nd rfl (Or.inl rfl) (pe_meth (pvI 0) T.cl_Table T.me_Table_more (G_Table_more.mono (by decide)) hr T.d_Table_more .nil pass0 (pa_cons (pvI 1) (pa_cons (pe_un un_neg (pe_ix (ix_listI K rfl) (pe_meth0 (pvI 0) T.cl_Table T.me_Table_losses (G_Table_losses.mono (by decide)) hr T.d_Table_losses .nil pass0) (pvI 1) (fun _ _=>rfl))) pa_nil))))
    (pss_cons (ps_set (i:=3) nd rfl (Or.inl rfl) (pe_lz rfl rfl T.b_list rfl T.b_zip (pa_cons (pe_call (G_least.mono (by decide)) hr rfl T.m_least T.k_least T.d_least .nil pass0 (pa_cons (pvI 0) pa_nil)) (pa_cons (pe_call (G_least.mono (by decide)) hr rfl T.m_least T.k_least T.d_least .nil pass0 (pa_cons (pvI 2) pa_nil)) pa_nil))))
    (pss_one (ps_ret (lcA (defScope s_hangs) (pi_enum rfl T.b_enumerate (pa_cons (pvI 3) pa_nil)) (fun _ _ _ _ _=>pgcNT 1 2 3) (fun _ _ _ _ _=>(pts_one (pt_cmpR op_ne (pvI 2) (pvI 3) (nomark _)))) (fun _ _ _ _ _=>(pvI 1)))))))) ?_
    try dsimp only [L2.cxOf,L2.Cx.nox]
    rw [show ∀ v0 v1:V,L2.start ["table", "house", "spared", "pairs"] [v0,v1]=[some v0,some v1,none,none] from fun _ _=>rfl]
    refine ⟨_,rfl,t,dx,_,rfl,ht,tabF_no (by decide +kernel) (by decide +kernel) (by decide +kernel) (by decide +kernel),t,h,cs,ls,rfl,hT,_,rfl,(h:Int),(j:Int),rfl,by omega,by omega,?_⟩
    have hjl:j < ls.length:=by omega
    have hlb:=g.lb _ (getD_mem hjl)
    refine ⟨_,rfl,t,dx,_,rfl,ht,tabF_no (by decide +kernel) (by decide +kernel) (by decide +kernel) (by decide +kernel),_,rfl,_,rfl,t,dx,_,rfl,ht,tabF_no (by decide +kernel) (by decide +kernel) (by decide +kernel) (by decide +kernel),t,h,cs,ls,rfl,hT,fun lo H1 hlo s1 hlo1=>?_⟩
    refine ⟨_,rfl,lo,_,_,_,rfl,rfl,SqL.of hlo1,ix_of hjl,_,rfl,t,h,cs,ls,j,-(ls.getD j 0),rfl,hT.same s1,hj,by omega,by omega,fun sp H2 hsp s2 hT2=>?_⟩
    rw [more_nought] at hT2
    have g2:=hT2.good
    try dsimp only [List.set_cons_zero,List.set_cons_succ]
    have s02:=s1.trans s2
    refine ⟨_,rfl,t,h,cs,ls,rfl,hT.same s02,fun l1 H3 hl1 s3 hl13=>?_⟩
    refine ⟨_,rfl,sp,h,cs,_,rfl,hT2.same s3,fun l2 H4 hl2 s4 hl24=>?_⟩
    replace hl13:H3 l1=some (.lst ((leastL cs ls).map V.int)):=hl13
    replace hl24:H4 l2=some (.lst ((leastL cs (ls.set j 0)).map V.int)):=hl24
    have len1:=(least_ok g).len
    have len2:=(least_ok g2).len
    refine ⟨l1,l2,_,_,rfl,SqL.of (s4 _ _ hl13),SqL.of hl24,by rw [List.length_map,List.length_map,len1,len2],fun pl ts H5 hpl s5 hpl5 htl hts=>?_⟩
    rw [List.length_map] at htl
    try dsimp only [List.set_cons_zero,List.set_cons_succ]
    refine ⟨_,rfl,pl,_,rfl,SqL.of hpl5,?_⟩
    have e5:hangL cs ls j=diffL (leastL cs ls) (leastL cs (ls.set j 0)):=rfl
    rw [e5] at kk
    generalize leastL cs ls=la at *
    generalize leastL cs (ls.set j 0)=lb at *
    refine lc_fG (fun i=>if la.getD i 0=lb.getD i 0 then none else some (V.int (i:Int))) (itG_enum (SqL.of hpl5)) (fun σ=>∃ x0 x1 x2 x3,σ=[x0,x1,x2,x3]) ⟨_,_,_,_,rfl⟩ (Nat.le_of_lt (small_line (by rw [List.length_map];omega))) ?_ ?_
    · intro i x σ2 H6 Qt Qf hi hY s6 zz1 qt qf
      refine byC fun hG=>?_
      obtain ⟨x0,x1,x2,x3,rfl⟩:=zz1
      refine hG ?_
      rw [List.length_map] at hi
      refine byC fun hG=>?_
      obtain ⟨W,u,rfl,hW,hu⟩:=hY
      refine hG ?_
      rw [List.getElem?_map] at hu
      refine byC fun hG=>?_
      obtain ⟨tp,htp,rfl⟩:=Option.map_eq_some_iff.mp hu
      obtain ⟨u,v,hu,hv,hp⟩:=hts i tp htp
      refine hG ?_
      rw [List.getElem?_map] at hu hv
      refine byC fun hG=>?_
      obtain ⟨ai,hai,rfl⟩:=Option.map_eq_some_iff.mp hu
      obtain ⟨bi,hbi,rfl⟩:=Option.map_eq_some_iff.mp hv
      have ea:la.getD i 0=ai:=getD_of hai
      have eb:lb.getD i 0=bi:=getD_of hbi
      refine hG ?_
      refine ⟨W,_,rfl,SqT.of hW,rfl,_,_,rfl,_,_,rfl,tp,_,rfl,SqT.of (s6 _ _ hp),rfl,_,_,rfl,_,_,rfl,rfl,rfl,?_⟩
      try dsimp only [List.set_cons_zero,List.set_cons_succ]
      refine ⟨_,rfl,_,rfl,rfl,_,rfl,iteND (fun hne=>?_) (fun heq=>?_)⟩
      · have hne':¬ la.getD i 0=lb.getD i 0:=fun z=>hne (by rw [← ea,← eb,z])
        exact ⟨_,rfl,qt _ _ _ (by rw [if_neg hne']) ⟨_,_,_,_,rfl⟩ (Same.refl _)⟩
      · have he:la.getD i 0=lb.getD i 0:=by rw [ea,eb];exact V.int.inj heq
        exact qf _ _ (by rw [if_pos he]) ⟨_,_,_,_,rfl⟩ (Same.refl _)
    intro D H6 hD s6 hD6
    have en:(ts.map V.ref).length=la.length:=by rw [List.length_map,htl]
    rw [en,diff_fm] at hD6
    have s05:=s02.trans ((s3.trans s4).trans s5)
    exact kk D H6 (s05.free hD) (s05.trans s6) hD6
def sp__law_draws (K:Frag):Sp:=fun vs H Q _=>∃ (a:Addr) (ns:List Int) (n:Nat),vs=[.ref a,.int n]∧SqL K H a (ns.map V.int)∧ns.length≤63∧n≤1000∧
  ∀ (p:Addr) (ds:List Int) (H':Hp),H p=none→Same H H'→H' p=some (.lst (ds.map V.int))→ds.length=n→InD ds→Q (.ref p) H'
theorem sc__law_draws:FnScope ["_law_script", "_law_many", "_law_row", "_law_seed", "_law_cell", "_law_rest", "_law_k"] ["_law_script", "_law_many"] (defScope s__law_draws):=⟨rfl,rfl,rfl,by decide +kernel,rfl,by decide +kernel,by decide +kernel⟩
set_option maxHeartbeats 4000000 in
theorem ok__law_draws (T:Txt w K mg A):FnOk P w K mg base CX0 1 A.a__law_draws A.f__law_draws ["_law_script", "_law_many"] (sp__law_draws K):=by
  have nd:=sc__law_draws.nd
  refine T.F__law_draws.ok sc__law_draws (fun vs H Q E h=>?_) (fun cdv Ar outer s H vs Q E hr h=>?_)
  · obtain ⟨a,ns,n,rfl,_⟩:=h;rfl
  · skip
    obtain ⟨a,ns,n,rfl,hS,hl,hn,kk⟩:=h
    refine PSs.rd (pss_cons (ps_set (i:=2) nd rfl (Or.inl rfl) (pe_lst pa_nil))
    (pss_cons (ps_set (i:=3) nd rfl (Or.inl rfl) pe_int)
    (pss_cons (ps_for PassesOwn.never rfl (pi_list (pe_slice sl_list (pvI 0) po_none (po_some pe_int))) (pg_name (i:=4) nd rfl (Or.inl rfl))
      (pss_cons (ps_set (i:=3) nd rfl (Or.inl rfl) (pe_op op_modI (pe_op op_addI (pe_op op_addI (pe_op op_mulI (pvI 3) pe_int) (pe_op op_modI (pvI 4) pe_int)) pe_int) pe_int))
       (pss_cons (ps_set (i:=5) nd rfl (Or.inl rfl) (pe_op op_subI (pvI 4) (pe_op op_pow pe_int pe_int)))
       (pss_cons (ps_cut (ps_if (pt_cmpR op_ltI (pvI 5) pe_int (nomark _))
         (pss_one (ps_expr (pe_bm PySem.F.plainAttrs_list PySem.F.slot_list_append PySem.F.type_list_append mt_append (pvI 2) (pa_cons (pe_op op_modI (pvI 4) pe_int) pa_nil))))
         pss_nil))
       (pss_one (ps_for PassesOwn.never rfl (pi_range1 rfl T.b_range (pa_cons pe_int pa_nil)) (pg_name (i:=6) nd rfl (Or.inl rfl))
         (pss_one (ps_if (pt_cmpR op_gtI (pvI 5) pe_int (nomark _))
            (pss_cons (ps_expr (pe_bm PySem.F.plainAttrs_list PySem.F.slot_list_append PySem.F.type_list_append mt_append (pvI 2) (pa_cons (pe_op op_modI (pvI 5) pe_int) pa_nil)))
             (pss_one (ps_set (i:=5) nd rfl (Or.inl rfl) (pe_op op_fdivI (pvI 5) pe_int))))
            pss_nil))))))))
    (pss_cons (ps_for PassesOwn.never rfl (pi_range1 rfl T.b_range (pa_cons (pvI 1) pa_nil)) (pg_name (i:=6) nd rfl (Or.inl rfl))
      (pss_cons (ps_set (i:=3) nd rfl (Or.inl rfl) (pe_op op_modI (pe_op op_addI (pe_op op_addI (pe_op op_addI (pe_op op_mulI (pvI 3) (pvI 3)) (pe_op op_mulI pe_int (pvI 3))) (pe_op op_mulI pe_int (pvI 6))) pe_int) pe_int))
       (pss_one (ps_expr (pe_bm PySem.F.plainAttrs_list PySem.F.slot_list_append PySem.F.type_list_append mt_append (pvI 2) (pa_cons (pe_op op_modI (pe_op op_fdivI (pvI 3) pe_int) pe_int) pa_nil))))))
    (pss_one (ps_ret (pe_slice sl_list (pvI 2) po_none (po_some (pvI 1))))))))) ?_
    try dsimp only [L2.cxOf,L2.Cx.nox]
    refine ⟨Nat.zero_le _,fun r hr0=>?_⟩
    refine ⟨_,rfl,_,rfl,a,_,rfl,(same_upd hr0).seq hS,fun sl hsl=>?_⟩
    have hrs:r≠sl:=ne_of_none upd_same hsl
    refine ⟨sl,rfl,⟨_,SqL.of upd_same⟩,?_⟩
    have hlen:(cutV (ns.map V.int) none (some 63)).length≤63:=by
      have:=cutV_length (ns.map V.int) none (some 63)
      rw [List.length_map] at this;omega
    have hint:∀ x∈cutV (ns.map V.int) none (some 63),∃ i,x=V.int i:=fun x hx=>by
      have h1:x∈ns.map V.int:=List.mem_of_mem_drop (List.mem_of_mem_take hx)
      refine byC fun hG=>?_
      obtain ⟨i,_,e⟩:=List.mem_map.mp h1
      refine hG ?_
      exact ⟨i,e.symm⟩
    generalize cutV (ns.map V.int) none (some 63)=ys at hlen hint ⊢
    refine for_list (xs:=ys) (fun i σ H'=>DrawSt H H' a r sl n ys 0 (61 * i) σ) ?_ (fun i σ H' _ h=>SqL.of h.slc) ?_ ?_
    · exact ⟨⟨[],29,none,none,none,rfl,by decide,by decide,by rw [upd_ne hrs,upd_same];rfl,Nat.zero_le _,Nat.zero_le _,fun _ h=>nomatch h⟩,(same_upd hr0).trans (same_upd hsl),upd_same⟩
    · intro i x σ H' hx h
      refine byC fun hG=>?_
      obtain ⟨⟨row,seed,c,rest,k,rfl,s0,s1,hr',_,hrl,hd⟩,sm,hsl'⟩:=h
      obtain ⟨ce,rfl⟩:=hint x (List.mem_of_getElem? hx)
      have hi:i < 63:=by
        have:i < ys.length:=by
          by_cases h:i < ys.length
          · exact h
          · rw [List.getElem?_eq_none (Nat.le_of_not_lt h)] at hx;cases hx
        omega
      refine hG ?_
      refine ⟨_,rfl,_,_,rfl,rfl,cmulR,_,rfl,_,_,rfl,rfl,pj,_,_,rfl,rfl,_,_,rfl,rfl,_,_,rfl,rfl,pj,?_⟩
      refine ⟨_,rfl,_,_,rfl,rfl,⟨by decide,by decide,by decide⟩,_,_,rfl,rfl,?_⟩
      have s0':=Int.emod_nonneg (seed * 40009+ce % 1000033+13) (by decide:(2147483629:Int)≠0)
      have s1':=Int.emod_lt_of_pos (seed * 40009+ce % 1000033+13) (by decide:(0:Int) < 2147483629)
      refine ⟨fun σ H''=>DrawSt H H'' a r sl n ys 0 (61 * i+1) σ∧∃ z,σ[5]? = some (some (V.int z)),?_,?_⟩
      · refine ⟨_,rfl,_,_,rfl,rfl,_,rfl,ite2 (fun _=>?_) (fun _=>?_)⟩
        · refine ⟨_,rfl,.inl ⟨rfl,_,SqL.of hr'⟩,_,rfl,_,_,rfl,rfl,pj,r,_,_,rfl,rfl,hr',small_line (by rw [List.length_map];omega),?_⟩
          rw [map_snoc]
          refine ⟨⟨⟨_,_,_,_,_,rfl,s0',s1',upd_same,Nat.zero_le _,?_,hd.snoc (Int.emod_nonneg _ (by decide)) (Int.emod_lt_of_pos _ (by decide))⟩,?_,by rw [upd_ne hrs.symm];exact hsl'⟩,_,rfl⟩
          · rw [List.length_append,List.length_singleton];omega
          · exact fun b o e=>by rw [upd_ne (ne_of_none e hr0)];exact sm b o e
        · exact ⟨⟨⟨row,_,_,_,_,rfl,s0',s1',hr',Nat.zero_le _,by omega,hd⟩,sm,hsl'⟩,_,rfl⟩
      · intro σ H'' zz1
        refine byC fun hG=>?_
        obtain ⟨h,z,hz⟩:=zz1
        refine hG ?_
        refine ⟨60,rfl,by decide,by decide,?_⟩
        refine for_range (n:=60) (fun j σ H''=>DrawSt H H'' a r sl n ys 0 (61 * i+1+j) σ∧∃ z,σ[5]? = some (some (V.int z))) ⟨h,z,hz⟩ ?_ ?_
        · intro j σ H'' hj zz2
          refine byC fun hG=>?_
          obtain ⟨⟨⟨row,seed,c,rest,k,rfl,s0,s1,hr',_,hrl,hd⟩,sm,hsl'⟩,z,hz⟩:=zz2
          refine hG ?_
          cases hz
          refine ⟨_,rfl,_,_,rfl,rfl,_,rfl,ite2 (fun hp=>?_) (fun _=>?_)⟩
          · refine ⟨_,rfl,.inl ⟨rfl,_,SqL.of hr'⟩,_,rfl,_,_,rfl,rfl,pj,r,_,_,rfl,rfl,hr',small_line (by rw [List.length_map];omega),?_⟩
            rw [map_snoc]
            refine ⟨_,rfl,_,_,rfl,rfl,cdiv,?_⟩
            refine ⟨⟨⟨_,seed,_,_,_,rfl,s0,s1,upd_same,Nat.zero_le _,?_,hd.snoc (Int.emod_nonneg _ (by decide)) (Int.emod_lt_of_pos _ (by decide))⟩,?_,by rw [upd_ne hrs.symm];exact hsl'⟩,_,rfl⟩
            · rw [List.length_append,List.length_singleton];omega
            · exact fun b o e=>by rw [upd_ne (ne_of_none e hr0)];exact sm b o e
          · exact ⟨⟨⟨row,seed,_,_,_,rfl,s0,s1,hr',Nat.zero_le _,by omega,hd⟩,sm,hsl'⟩,z,rfl⟩
        · intro σ H'' zz3
          refine byC fun hG=>?_
          obtain ⟨⟨⟨row,seed,c,rest,k,rfl,s0,s1,hr',_,hrl,hd⟩,sm,hsl'⟩,_⟩:=zz3
          refine hG ?_
          exact ⟨⟨row,seed,_,_,_,rfl,s0,s1,hr',Nat.zero_le _,by omega,hd⟩,sm,hsl'⟩
    · intro σ H' zz4
      refine byC fun hG=>?_
      obtain ⟨⟨row,seed,c,rest,k,rfl,s0,s1,hr',_,hrl,hd⟩,sm,hsl'⟩:=zz4
      refine hG ?_
      refine ⟨_,rfl,_,rfl,by omega,by omega,?_⟩
      have en:((n:Nat):Int).toNat=n:=by omega
      rw [en]
      refine for_range (n:=n) (fun j σ H''=>DrawSt H H'' a r sl n ys j (61 * 63+j) σ) ⟨⟨row,seed,_,_,_,rfl,s0,s1,hr',Nat.zero_le _,by omega,hd⟩,sm,hsl'⟩ ?_ ?_
      · intro j σ H'' hj zz5
        refine byC fun hG=>?_
        obtain ⟨⟨row,seed,c,rest,k,rfl,s0,s1,hr',hlo,hrl,hd⟩,sm,hsl'⟩:=zz5
        refine hG ?_
        refine ⟨_,rfl,_,rfl,_,_,rfl,rfl,.inl ⟨by omega,by omega⟩,_,rfl,_,_,rfl,rfl,cmulL,_,_,rfl,rfl,_,rfl,_,_,rfl,rfl,cmulL,_,_,rfl,rfl,_,_,rfl,rfl,_,_,rfl,rfl,pj,?_⟩
        have s0':=Int.emod_nonneg (seed * seed+69621 * seed+7 * (0+(j:Nat))+5) (by decide:(2147483629:Int)≠0)
        have s1':=Int.emod_lt_of_pos (seed * seed+69621 * seed+7 * (0+(j:Nat))+5) (by decide:(0:Int) < 2147483629)
        refine ⟨_,rfl,.inl ⟨rfl,_,SqL.of hr'⟩,_,rfl,_,_,rfl,rfl,cdiv,_,_,rfl,rfl,pj,r,_,_,rfl,rfl,hr',small_line (by rw [List.length_map];omega),?_⟩
        rw [map_snoc]
        refine ⟨⟨_,_,_,_,_,rfl,s0',s1',upd_same,?_,?_,hd.snoc (Int.emod_nonneg _ (by decide)) (Int.emod_lt_of_pos _ (by decide))⟩,?_,by rw [upd_ne hrs.symm];exact hsl'⟩
        · rw [List.length_append,List.length_singleton];omega
        · rw [List.length_append,List.length_singleton];omega
        · exact fun b o e=>by rw [upd_ne (ne_of_none e hr0)];exact sm b o e
      · intro σ H'' zz6
        refine byC fun hG=>?_
        obtain ⟨⟨row,seed,c,rest,k,rfl,s0,s1,hr',hlo,hrl,hd⟩,sm,hsl'⟩:=zz6
        refine hG ?_
        refine ⟨_,rfl,_,rfl,_,rfl,r,_,rfl,SqL.of hr',fun p hp=>?_⟩
        have ec:cutV (row.map V.int) none (some (n:Int))=(row.take n).map V.int:=by
          unfold cutV
          rw [HT.sIx_none,HT.sIx_nat,List.drop_zero,List.length_map,Nat.sub_zero,Nat.min_eq_left hlo,List.map_take]
        rw [ec]
        refine kk p (row.take n) _ (sm.free hp) (sm.trans (same_upd hp)) upd_same ?_ fun d hd'=>hd d (List.mem_of_mem_take hd')
        rw [List.length_take];omega
def sp__law_lines (K:Frag):Sp:=fun vs H Q _=>∃ (h o:Nat) (d:Addr) (ds:List Int),vs=[.int h,.int o,.ref d]∧2≤h∧h≤6∧o < h∧SqL K H d (ds.map V.int)∧ds.length=5∧InD ds∧
  ∀ (p:Addr) (L:List (Int×Int)) (H':Hp),Same H H'→LinesAt K H' p L→GoodL L→(∀ l∈L,l.1 < (h:Int)∧l.1≠(o:Int))→L.length < h→Q (.ref p) H'
theorem sc__law_lines:FnScope ["_law_houses", "_law_house", "_law_draws_here", "_law_k", "_law_others", "_law_many", "_law_row", "_law_signer", "_law_line"] ["_law_houses", "_law_house", "_law_draws_here"] (defScope s__law_lines):=⟨rfl,rfl,rfl,by decide +kernel,rfl,by decide +kernel,by decide +kernel⟩
set_option maxHeartbeats 4000000 in
theorem ok__law_lines (T:Txt w K mg A):FnOk P w K mg base CX0 1 A.a__law_lines A.f__law_lines ["_law_houses", "_law_house", "_law_draws_here"] (sp__law_lines K):=by
  have nd:=sc__law_lines.nd
  refine T.F__law_lines.ok sc__law_lines (fun vs H Q E h=>?_) (fun cdv Ar outer s H vs Q E hr h=>?_)
  · obtain ⟨h,o,d,ds,rfl,_⟩:=h;rfl
  · skip
    obtain ⟨h,o,d,ds,rfl,h2,h6,ho,hd,hd5,hD,kk⟩:=h
    obtain ⟨f1,f2,f3⟩:=othersOf_facts h (by omega) o ho
    refine PSs.rd (pss_cons (lcS (defScope s__law_lines) 4 nd (pi_range1 rfl T.b_range (pa_cons (pvI 0) pa_nil)) (fun _ _ _ _ _=>pgc 1) (fun _ _ _ _ _=>(pts_one (pt_cmpR op_ne (pvI 1) (pvI 2) (nomark _)))) (fun _ _ _ _ _=>(pvI 1)))
    (pss_cons (ps_set (i:=5) nd rfl (Or.inl rfl) (pe_op op_addI pe_int (pe_op op_modI (pe_ix (ix_listI K rfl) (pvI 2) pe_int (fun _ _=>rfl)) (pe_callB (call_min2 rfl) rfl T.b_min boot_min (pa_cons pe_int (pa_cons (pe_callB call_len_seq rfl T.b_len PySem.boot_len (pa_cons (pvI 4) pa_nil)) pa_nil))))))
    (pss_cons (ps_set (i:=6) nd rfl (Or.inl rfl) (pe_lst pa_nil))
    (pss_cons (ps_for PassesOwn.never rfl (pi_range1 rfl T.b_range (pa_cons (pvI 5) pa_nil)) (pg_name (i:=3) nd rfl (Or.inl rfl))
      (pss_cons (ps_set (i:=7) nd rfl (Or.inl rfl) (pe_bm PySem.F.plainAttrs_list PySem.F.slot_list_pop PySem.F.type_list_pop mt_popAt (pvI 4) (pa_cons (pe_op op_modI (pe_ix (ix_listI K rfl) (pvI 2) (pe_op op_addI pe_int (pvI 3)) (fun _ _=>rfl)) (pe_callB call_len_seq rfl T.b_len PySem.boot_len (pa_cons (pvI 4) pa_nil))) pa_nil)))
       (pss_cons (ps_set (i:=8) nd rfl (Or.inl rfl) (pe_op op_addI pe_int (pe_op op_modI (pe_op op_fdivI (pe_ix (ix_listI K rfl) (pvI 2) (pe_op op_addI pe_int (pvI 3)) (fun _ _=>rfl)) pe_int) pe_int)))
       (pss_cons (ps_cut (ps_if (pt_cmpR op_eq (pe_op op_modI (pe_op op_fdivI (pe_ix (ix_listI K rfl) (pvI 2) pe_int (fun _ _=>rfl)) pe_int) pe_int) pe_int (nomark _))
         (pss_one (ps_set (i:=8) nd rfl (Or.inl rfl) (pe_op op_addI pe_int (pe_op op_modI (pe_op op_fdivI (pe_ix (ix_listI K rfl) (pvI 2) (pe_op op_addI pe_int (pvI 3)) (fun _ _=>rfl)) pe_int) pe_int))))
         pss_nil))
       (pss_one (ps_expr (pe_bm PySem.F.plainAttrs_list PySem.F.slot_list_append PySem.F.type_list_append mt_append (pvI 6) (pa_cons (pe_tup (pa_cons (pvI 7) (pa_cons (pvI 8) pa_nil))) pa_nil))))))))
    (pss_one (ps_ret (pe_callTy call_tuple_of rfl T.b_tuple boot_ty_tuple (pa_cons (pvI 6) pa_nil)))))))) ?_
    try dsimp only [L2.cxOf,L2.Cx.nox]
    refine ⟨_,rfl,h,rfl,by omega,by omega,?_⟩
    have en:((h:Nat):Int).toNat=h:=by omega
    rw [en]
    refine lc_pure (itOf_rng 0 h) (fun σ=>∃ x y,σ=[x,y,some (.int o)]) (fun x=>match x with | .int i=>!decide (i=(o:Int)) | _=>true) id ?_ (Nat.le_of_lt (small_line (by rw [rngV_len];omega))) ?_ ?_
    · exact ⟨_,_,rfl⟩
    · intro x σ2 H2 Qt Qf hx sm zz1 qt qf
      refine byC fun hG=>?_
      obtain ⟨a,b,rfl⟩:=zz1
      obtain ⟨i,_,rfl⟩:=List.mem_map.mp hx
      refine hG ?_
      refine ⟨_,rfl,_,rfl,rfl,_,rfl,?_⟩
      have ed:decide (V.int (0+(i:Nat))=V.int (o:Int))=decide ((0:Int)+(i:Nat)=(o:Int)):=by
        by_cases e:(0:Int)+(i:Nat)=(o:Int)
        · rw [e,decide_eq_true rfl,decide_eq_true rfl]
        · rw [decide_eq_false e,decide_eq_false (fun z=>e (V.int.inj z))]
      rw [ed]
      refine iteND (fun e=>?_) (fun e=>?_)
      · exact ⟨_,rfl,qt (by show (!decide ((0:Int)+(i:Nat)=(o:Int)))=true;rw [decide_eq_false e];rfl) _ ⟨_,_,rfl⟩⟩
      · exact qf (by show (!decide ((0:Int)+(i:Nat)=(o:Int)))=false;rw [decide_eq_true e];rfl) _ ⟨_,_,rfl⟩
    intro oth hoth0
    have eo:((rngV 0 h).filter (fun x=>match x with | .int i=>!decide (i=(o:Int)) | _=>true)).map id=(othersOf h o).map V.int:=by
      unfold rngV othersOf
      rw [List.map_id,List.filter_map,List.filter_map,List.map_map]
      rfl
    rw [eo]
    have s1:Same H (upd H oth (.lst ((othersOf h o).map V.int))):=same_upd hoth0
    refine byC fun hG=>?_
    obtain ⟨d0,hd0⟩:=get_some (xs:=ds) (i:=0) (by omega)
    have D0:=hD d0 (List.mem_of_getElem? hd0)
    refine hG ?_
    refine ⟨_,rfl,d,_,0,_,rfl,rfl,s1.seq hd,atI_nat (j:=0) (by rw [List.getElem?_map,hd0];rfl),_,rfl,oth,_,rfl,.inl (SqL.of upd_same),4,_,rfl,_,_,rfl,rfl,?_,_,_,rfl,rfl,?_⟩
    · rw [List.length_map,f3];split <;> omega
    rw [List.length_map,f3]
    have hm:∃ many:Nat,(1:Int)+d0 % (if (((h - 1:Nat)):Int) < 4 then (((h - 1:Nat)):Int) else 4)=(many:Int)∧1≤many∧many≤4∧many≤h - 1:=by
      refine ⟨(1+d0 % (if (((h - 1:Nat)):Int) < 4 then (((h - 1:Nat)):Int) else 4)).toNat,?_⟩
      split
      · have a1:=Int.emod_nonneg d0 (show (((h - 1:Nat)):Int)≠0 by omega)
        have a2:=Int.emod_lt_of_pos d0 (show 0 < (((h - 1:Nat)):Int) by omega)
        omega
      · have a1:=Int.emod_nonneg d0 (show (4:Int)≠0 by omega)
        have a2:=Int.emod_lt_of_pos d0 (show 0 < (4:Int) by omega)
        omega
    refine byC fun hG=>?_
    obtain ⟨many,em,m1,m4,mh⟩:=hm
    refine hG ?_
    refine ⟨Nat.zero_le _,fun r hr0=>?_⟩
    have hor:oth≠r:=ne_of_none upd_same hr0
    refine ⟨_,rfl,many,?_,by omega,by omega,?_⟩
    · show [V.int _]=[V.int _]
      rw [← em]
    have en2:((many:Nat):Int).toNat=many:=by omega
    rw [en2]
    refine for_range (n:=many) (fun i σ H'=>LineSt K H H' h o d oth r many i (h - 1) σ) ?_ ?_ ?_
    · refine ⟨⟨othersOf h o,[],[],none,none,none,?_,by rw [upd_ne hor];exact upd_same,upd_same,⟨rfl,fun i l e=>by simp at e⟩,rfl,by rw [f3];omega,f1,by simp,fun l hl=>(nomatch hl),f2,fun l hl=>(nomatch hl)⟩,s1.trans (same_upd hr0)⟩
      show [_,_,_,_,_,some (V.int _),_,_,_]=_
      rw [em]
    · intro i σ H' hi zz2
      refine byC fun hG=>?_
      obtain ⟨⟨os,L,us,k,sg,ln,rfl,hoth,hr',hP,hLl,hol,hnd,hLn,hdis,hos,hL⟩,sm⟩:=zz2
      have neor:oth≠r:=hor
      obtain ⟨dk,hdk⟩:=get_some (xs:=ds) (i:=1+i) (by omega)
      have Dk:=hD dk (List.mem_of_getElem? hdk)
      have hpos:0 < os.length:=by omega
      have b1:=Int.emod_nonneg dk (show ((os.length:Nat):Int)≠0 by omega)
      have b2:=Int.emod_lt_of_pos dk (show 0 < ((os.length:Nat):Int) by omega)
      have hix:atI (ds.map V.int) ((1:Int)+(0+(i:Nat)))=some (V.int dk):=by
        have e:(1:Int)+(0+(i:Nat))=((1+i:Nat):Int):=by omega
        rw [e];exact atI_nat (by rw [List.getElem?_map,hdk];rfl)
      obtain ⟨sv,hsv⟩:=get_some (xs:=os) (i:=(dk % (os.length:Nat)).toNat) (by omega)
      have hsq:seqIndex? (dk % (os.length:Nat)) (os.map V.int).length=some (dk % (os.length:Nat)).toNat:=by
        rw [List.length_map];exact seqIndex_of b1 b2
      have hsm:=List.mem_of_getElem? hsv
      refine hG ?_
      refine ⟨_,rfl,.inl ⟨rfl,_,SqL.of hoth⟩,_,rfl,_,rfl,_,_,rfl,rfl,d,_,_,_,rfl,rfl,sm.seq hd,hix,_,rfl,oth,_,rfl,.inl (SqL.of hoth),_,_,rfl,rfl,?_,oth,_,_,(dk % (os.length:Nat)).toNat,V.int sv,rfl,rfl,hoth,?_,?_,?_,?_,?_⟩
      · rw [List.length_map];omega
      · rw [List.length_map];omega
      · rw [List.length_map];omega
      · rw [List.length_map] at hsq ⊢;exact hsq
      · rw [List.getElem?_map,hsv];rfl
      rw [map_erase]
      have neq:∀ b o',H b=some o'→b≠oth∧b≠r:=fun b o' e=>⟨ne_of_none e hoth0,fun z=>by subst z;rw [s1 _ _ e] at hr0;cases hr0⟩
      generalize eH:upd H' oth (.lst ((os.eraseIdx (dk % (os.length:Nat)).toNat).map V.int))=H2
      have hoth2:H2 oth=some (.lst ((os.eraseIdx (dk % (os.length:Nat)).toNat).map V.int)):=by rw [← eH];exact upd_same
      have hr2:H2 r=some (.lst us):=by rw [← eH,upd_ne hor.symm];exact hr'
      have hP2:PairsAt K H2 us L:=by rw [← eH];exact PairsAt.updL hP hoth
      have sm2:Same H H2:=fun b o' e=>by rw [← eH,upd_ne (neq b o' e).1];exact sm b o' e
      refine ⟨_,rfl,_,rfl,_,_,rfl,rfl,d,_,_,_,rfl,rfl,sm2.seq hd,hix,_,_,rfl,rfl,cdiv,_,_,rfl,rfl,pj,_,_,rfl,rfl,?_⟩
      refine ⟨fun σ H3=>H3=H2∧∃ ln:Int,1≤ln∧ln≤20∧σ=[some (.int h),some (.int o),some (.ref d),some (.int (0+(i:Nat))),some (.ref oth),some (.int many),some (.ref r),some (.int sv),some (.int ln)],?_,?_⟩
      · refine ⟨_,rfl,d,_,0,_,rfl,rfl,sm2.seq hd,atI_nat (j:=0) (by rw [List.getElem?_map,hd0];rfl),_,_,rfl,rfl,cdiv,_,_,rfl,rfl,pj,rfl,_,rfl,iteD (fun _=>?_) (fun _=>?_)⟩
        · refine ⟨_,rfl,_,rfl,_,_,rfl,rfl,d,_,_,_,rfl,rfl,sm2.seq hd,hix,_,_,rfl,rfl,cdiv,_,_,rfl,rfl,pj,_,_,rfl,rfl,rfl,_,?_,?_,rfl⟩
          · have:=Int.emod_nonneg (dk / 7) (show (3:Int)≠0 by decide);omega
          · have:=Int.emod_lt_of_pos (dk / 7) (show (0:Int) < 3 by decide);omega
        · refine ⟨rfl,_,?_,?_,rfl⟩
          · have:=Int.emod_nonneg (dk / 7) (show (20:Int)≠0 by decide);omega
          · have:=Int.emod_lt_of_pos (dk / 7) (show (0:Int) < 20 by decide);omega
      intro σ H3 zz3
      refine byC fun hG=>?_
      obtain ⟨e3,ln2,n1,n20,rfl⟩:=zz3
      obtain rfl:=e3.symm
      refine hG ?_
      refine ⟨_,rfl,.inl ⟨rfl,_,SqL.of hr2⟩,_,rfl,_,rfl,by show 2≤sizeLine;decide,fun t ht=>?_⟩
      have ntr:r≠t:=ne_of_none hr2 ht
      have nto:oth≠t:=ne_of_none hoth2 ht
      refine ⟨r,us,_,rfl,rfl,by rw [upd_ne ntr];exact hr2,small_line (by have:=hP.len;omega),?_⟩
      have hP3:PairsAt K (upd H2 t (.tup [.int sv,.int ln2])) us L:=hP2.same (same_upd ht)
      have hr3:(upd H2 t (.tup [.int sv,.int ln2])) r=some (.lst us):=by rw [upd_ne ntr];exact hr2
      have hpt:PairAt K (upd H2 t (.tup [.int sv,.int ln2])) (.ref t) (sv,ln2):=⟨t,rfl,SqT.of upd_same⟩
      refine ⟨⟨os.eraseIdx (dk % (os.length:Nat)).toNat,L ++ [(sv,ln2)],us ++ [.ref t],_,_,_,rfl,by rw [upd_ne hor,upd_ne nto];exact hoth2,upd_same,PairsAt.updL (hP3.snoc hpt) hr3,by rw [List.length_append,hLl];rfl,?_,?_,?_,?_,?_,?_⟩,?_⟩
      · rw [List.length_eraseIdx_of_lt (by omega)];omega
      · exact hnd.sublist (List.eraseIdx_sublist _ _)
      · rw [List.map_append]
        refine List.nodup_append.mpr ⟨hLn,by simp,fun a ha b hb e=>?_⟩
        simp at hb
        subst hb;subst e
        refine byC fun hG=>?_
        obtain ⟨l,hl,el⟩:=List.mem_map.mp ha
        refine hG ?_
        exact hdis l hl (el ▸ hsm)
      · intro l hl
        rcases List.mem_append.mp hl with hl | hl
        · exact fun z=>hdis l hl ((List.eraseIdx_sublist _ _).subset z)
        · rw [List.mem_singleton.mp hl];exact not_mem_erase hnd hsv
      · exact fun x hx=>hos x ((List.eraseIdx_sublist _ _).subset hx)
      · intro l hl
        rcases List.mem_append.mp hl with hl | hl
        · exact hL l hl
        · rw [List.mem_singleton.mp hl];exact ⟨hos sv hsm,n1,n20⟩
      · exact fun b o' e=>by rw [upd_ne (neq b o' e).2,upd_ne (ne_of_none (sm2 b o' e) ht)];exact sm2 b o' e
    · intro σ H' zz4
      refine byC fun hG=>?_
      obtain ⟨⟨os,L,us,k,sg,ln,rfl,hoth,hr',hP,hLl,hol,hnd,hLn,hdis,hos,hL⟩,sm⟩:=zz4
      refine hG ?_
      refine ⟨_,rfl,r,us,rfl,.inl ⟨SqL.of hr',fun t ht=>?_⟩⟩
      refine kk t L _ (sm.trans (same_upd ht)) ⟨us,SqT.of upd_same,hP.same (same_upd ht)⟩ ⟨by omega,by omega,hLn,fun l hl=>?_⟩ (fun l hl=>⟨(hL l hl).1.2.1,(hL l hl).1.2.2⟩) (by omega)
      have:=hL l hl
      omega
def sp__law_cover (K:Frag):Sp:=fun vs H Q _=>∃ (h:Nat) (d:Addr) (ds:List Int),vs=[.int h,.ref d]∧2≤h∧h≤6∧SqL K H d (ds.map V.int)∧ds.length=9∧InD ds∧
  ∀ (p lp:Addr) (ho:Nat) (k:Str) (b m:Int) (L:List (Int×Int)) (H':Hp),Same H H'→SqT K H' p [.int ho,.str k,.int b,.int m,.ref lp]→LinesAt K H' lp L→GoodL L→ho < h→(∀ l∈L,l.1 < (h:Int)∧l.1≠(ho:Int))→L.length < h→measB k b m=true→Q (.ref p) H'
theorem sc__law_cover:FnScope ["_law_houses", "_law_draws_here", "_law_house", "_law_kind", "_law_by", "_law_most"] ["_law_houses", "_law_draws_here"] (defScope s__law_cover):=⟨rfl,rfl,rfl,by decide +kernel,rfl,by decide +kernel,by decide +kernel⟩
set_option maxHeartbeats 4000000 in
theorem ok__law_cover (T:Txt w K mg A):FnOk P w K mg base CX0 2 A.a__law_cover A.f__law_cover ["_law_houses", "_law_draws_here"] (sp__law_cover K):=by
  have nd:=sc__law_cover.nd
  have G__law_lines:=ok__law_lines (P:=P) (w:=w) (base:=base) T
  refine T.F__law_cover.ok sc__law_cover (fun vs H Q E h=>?_) (fun cdv Ar outer s H vs Q E hr h=>?_)
  · obtain ⟨h,d,ds,rfl,_⟩:=h;rfl
  · skip
    obtain ⟨h,d,ds,rfl,h2,h6,hd,hd9,hD,kk⟩:=h
    obtain ⟨d0,D0,i0⟩:=draw_at hD (i:=0) (by omega)
    obtain ⟨d1,D1,i1⟩:=draw_at hD (i:=1) (by omega)
    obtain ⟨d2,D2,i2⟩:=draw_at hD (i:=2) (by omega)
    obtain ⟨d3,D3,i3⟩:=draw_at hD (i:=3) (by omega)
    have hh:0 < h:=by omega
    have b0:=Nat.mod_lt d0 hh
    refine PSs.rd (pss_cons (ps_set (i:=2) nd rfl (Or.inl rfl) (pe_op op_modI (pe_ix (ix_listI K rfl) (pvI 1) pe_int (fun _ _=>rfl)) (pvI 0)))
    (pss_cons (ps_set (i:=3) nd rfl (Or.inl rfl) (pe_ix (ix_listI K rfl) (pe_lst (pa_cons pe_str (pa_cons pe_str pa_nil))) (pe_op op_modI (pe_ix (ix_listI K rfl) (pvI 1) pe_int (fun _ _=>rfl)) pe_int) (fun _ _=>rfl)))
    (pss_cons (ps_set (i:=4) nd rfl (Or.inl rfl) (pe_op op_modI (pe_ix (ix_listI K rfl) (pvI 1) pe_int (fun _ _=>rfl)) pe_int))
    (pss_cons (ps_cut (ps_if (pt_cmpR op_eq (pe_op op_modI (pe_op op_fdivI (pe_ix (ix_listI K rfl) (pvI 1) pe_int (fun _ _=>rfl)) pe_int) pe_int) pe_int (nomark _))
      (pss_one (ps_set (i:=4) nd rfl (Or.inl rfl) (pe_op op_modI (pe_ix (ix_listI K rfl) (pvI 1) pe_int (fun _ _=>rfl)) pe_int)))
      pss_nil))
    (pss_cons (ps_cut (ps_if (pt_cmpR op_eq (pvI 3) pe_str (nomark _))
      (pss_one (ps_set (i:=4) nd rfl (Or.inl rfl) (pe_ix (ix_listI K rfl) (pe_lst (pa_cons (pe_op op_addI pe_int (pe_op op_modI (pe_ix (ix_listI K rfl) (pvI 1) pe_int (fun _ _=>rfl)) pe_int)) (pa_cons pe_int (pa_cons (pe_op op_addI pe_int (pe_op op_modI (pe_ix (ix_listI K rfl) (pvI 1) pe_int (fun _ _=>rfl)) pe_int)) pa_nil)))) (pe_op op_modI (pe_op op_fdivI (pe_ix (ix_listI K rfl) (pvI 1) pe_int (fun _ _=>rfl)) pe_int) pe_int) (fun _ _=>rfl))))
      pss_nil))
    (pss_cons (ps_set (i:=5) nd rfl (Or.inl rfl) (pe_op op_modI (pe_ix (ix_listI K rfl) (pvI 1) pe_int (fun _ _=>rfl)) pe_int))
    (pss_one (ps_ret (pe_tup (pa_cons (pvI 2) (pa_cons (pvI 3) (pa_cons (pvI 4) (pa_cons (pvI 5) (pa_cons (pe_call (G__law_lines.mono (by decide)) hr rfl T.m__law_lines T.k__law_lines T.d__law_lines .nil pass0 (pa_cons (pvI 0) (pa_cons (pvI 2) (pa_cons (pe_slice sl_list (pvI 1) (po_some pe_int) (po_some pe_int)) pa_nil)))) pa_nil)))))))))))))) ?_
    try dsimp only [L2.cxOf,L2.Cx.nox]
    refine ⟨_,rfl,d,_,0,_,rfl,rfl,hd,i0,_,rfl,_,_,rfl,rfl,by show (0:Int) < _;omega,?_⟩
    refine ⟨by show 2≤sizeLine;decide,fun z hz=>?_⟩
    have sz:∀ o,Same H (upd H z o):=fun o=>same_upd hz
    refine ⟨_,rfl,d,_,1,_,rfl,rfl,(sz _).seq hd,i1,_,_,rfl,rfl,pj,z,_,((d1 % 2:Nat):Int),_,rfl,by show V.int _=V.int _;rw [Int.natCast_emod];rfl,SqL.of upd_same,ix2 (Nat.mod_lt _ (by decide)),?_⟩
    generalize eH1:upd H z (.lst [V.str "share", V.str "layer"])=H1
    have s1:Same H H1:=by rw [← eH1];exact sz _
    have hk:∃ k:Str,(if d1 % 2=0 then V.str "share" else V.str "layer")=V.str k∧(k = "share" ∨ k = "layer"):=by
      by_cases e:d1 % 2=0
      · exact ⟨"share", by rw [if_pos e],.inl rfl⟩
      · exact ⟨"layer", by rw [if_neg e],.inr rfl⟩
    refine byC fun hG=>?_
    obtain ⟨k,ek,hk⟩:=hk
    refine hG ?_
    rw [ek]
    refine ⟨_,rfl,d,_,2,_,rfl,rfl,s1.seq hd,i2,_,_,rfl,rfl,pj,?_⟩
    refine ⟨fun σ H'=>H'=H1∧∃ b:Int,σ=[some (.int h),some (.ref d),some (.int ((d0 % h:Nat):Int)),some (.str k),some (.int b),none]∧0≤b∧b≤200,?_,?_⟩
    · refine ⟨_,rfl,d,_,1,_,rfl,rfl,s1.seq hd,i1,_,_,rfl,rfl,cdiv,_,_,rfl,rfl,pj,rfl,_,rfl,iteD (fun _=>?_) (fun _=>?_)⟩
      · exact ⟨_,rfl,d,_,2,_,rfl,rfl,s1.seq hd,i2,_,_,rfl,rfl,pj,rfl,_,by rw [Int.natCast_emod];rfl,by omega,by omega⟩
      · exact ⟨rfl,_,by rw [Int.natCast_emod];rfl,by omega,by omega⟩
    intro σ H' zz1
    refine byC fun hG=>?_
    obtain ⟨e1,b,rfl,hb0,hb2⟩:=zz1
    obtain rfl:=e1.symm
    refine hG ?_
    refine ⟨fun σ H'=>Same H H'∧∃ b:Int,σ=[some (.int h),some (.ref d),some (.int ((d0 % h:Nat):Int)),some (.str k),some (.int b),none]∧(k = "share" → 1≤b∧b≤100)∧(k = "layer" → 0≤b∧b≤200),?_,?_⟩
    · refine ⟨_,rfl,rfl,_,rfl,?_⟩
      rw [dec_strV]
      refine iteD (fun e=>?_) (fun e=>?_)
      · refine ⟨_,rfl,d,_,2,_,rfl,rfl,s1.seq hd,i2,_,_,rfl,rfl,pj,_,_,rfl,rfl,_,rfl,d,_,2,_,rfl,rfl,s1.seq hd,i2,_,_,rfl,rfl,pj,_,_,rfl,rfl,by show 3≤sizeLine;decide,fun y hy=>?_⟩
        have s2:=s1.trans (same_upd (o:=.lst [V.int (1+(d2:Int) % 100),V.int 100,V.int (50+(d2:Int) % 50)]) hy)
        refine ⟨_,rfl,d,_,1,_,rfl,rfl,s2.seq hd,i1,_,_,rfl,rfl,cdiv,_,_,rfl,rfl,pj,y,_,((d1 / 2 % 3:Nat):Int),_,rfl,by show V.int _=V.int _;rw [Int.natCast_emod,Int.natCast_ediv];rfl,SqL.of upd_same,ix3 (Nat.mod_lt _ (by decide)),s2,?_⟩
        have hs:¬ k = "layer" := fun z=>share_ne (e.symm.trans z)
        by_cases f0:d1 / 2 % 3=0
        · rw [if_pos f0];exact ⟨_,rfl,fun _=>by omega,fun z=>absurd z hs⟩
        · rw [if_neg f0]
          by_cases f1:d1 / 2 % 3=1
          · rw [if_pos f1];exact ⟨_,rfl,fun _=>by omega,fun z=>absurd z hs⟩
          · rw [if_neg f1];exact ⟨_,rfl,fun _=>by omega,fun z=>absurd z hs⟩
      · exact ⟨s1,_,rfl,fun z=>absurd z e,fun _=>⟨hb0,hb2⟩⟩
    intro σ H2 zz2
    refine byC fun hG=>?_
    obtain ⟨s2,b,rfl,hs,hl⟩:=zz2
    refine hG ?_
    refine ⟨_,rfl,d,_,3,_,rfl,rfl,s2.seq hd,i3,_,_,rfl,rfl,pj,?_⟩
    refine ⟨_,rfl,_,rfl,_,rfl,_,rfl,_,rfl,_,rfl,_,rfl,4,rfl,9,rfl,d,_,rfl,s2.seq hd,fun sl hsl=>?_⟩
    have ecut:cutV (ds.map V.int) (some 4) (some 9)=((ds.drop 4).take (9 - 4)).map V.int:=cut_ints ds 4 9 (by omega) (by omega)
    rw [ecut]
    refine ⟨h,d0 % h,sl,(ds.drop 4).take (9 - 4),rfl,h2,h6,b0,SqL.of upd_same,by rw [cut_len _ _ _ (by omega)],cut_in hD _ _,fun lp L H3 s3 hlp g hL hLl=>?_⟩
    refine ⟨by show 5≤sizeLine;decide,fun p hp=>?_⟩
    refine kk p lp (d0 % h) k b ((d3 % 25:Nat):Int) L _ (s2.trans ((same_upd hsl).trans (s3.trans (same_upd hp)))) ?_ (hlp.same (same_upd hp)) g b0 hL hLl ?_
    · have e3:((d3 % 25:Nat):Int)=(d3:Int) % 25:=by omega
      rw [e3]
      exact SqT.of upd_same
    · unfold measB
      rcases hk with rfl | rfl
      · rw [if_pos rfl,decide_eq_true (hs rfl),Bool.true_and];exact decide_eq_true (by omega)
      · rw [if_neg (fun z=>share_ne z.symm),if_pos rfl,decide_eq_true (hl rfl),Bool.true_and];exact decide_eq_true (by omega)
def sp__law_rows (K:Frag):Sp:=fun vs H Q _=>∃ (h:Nat) (d:Addr) (ds:List Int),vs=[.int h,.ref d]∧1≤h∧h≤6∧SqL K H d (ds.map V.int)∧ds.length=91∧InD ds∧
  ∀ (r:Addr) (us:List V) (cs:List Row) (H':Hp),H r=none→Same H H'→H' r=some (.lst us)→CovsAt K H' us cs→cs.length≤10→(∀ c∈cs,GoodC h c)→Q (.ref r) H'
theorem sc__law_rows:FnScope ["_law_houses", "_law_draws_here", "_law_many", "_law_rows_here"] ["_law_houses", "_law_draws_here"] (defScope s__law_rows):=⟨rfl,rfl,rfl,by decide +kernel,rfl,by decide +kernel,by decide +kernel⟩
set_option maxHeartbeats 4000000 in
theorem ok__law_rows (T:Txt w K mg A):FnOk P w K mg base CX0 3 A.a__law_rows A.f__law_rows ["_law_houses", "_law_draws_here"] (sp__law_rows K):=by
  have nd:=sc__law_rows.nd
  have G__law_cover:=ok__law_cover (P:=P) (w:=w) (base:=base) T
  refine T.F__law_rows.ok sc__law_rows (fun vs H Q E h=>?_) (fun cdv Ar outer s H vs Q E hr h=>?_)
  · obtain ⟨h,d,ds,rfl,_⟩:=h;rfl
  · skip
    obtain ⟨h,d,ds,rfl,h1,h6,hd,hdl,hD,kk⟩:=h
    obtain ⟨d0,D0,i0⟩:=draw_at hD (i:=0) (by omega)
    refine PSs.rd (pss_cons (ps_if (pt_cmpR op_eq (pvI 0) pe_int (nomark _))
      (pss_one (ps_ret (pe_lst pa_nil)))
      pss_nil)
    (pss_cons (ps_set (i:=2) nd rfl (Or.inl rfl) (pe_op op_modI (pe_ix (ix_listI K rfl) (pvI 1) pe_int (fun _ _=>rfl)) pe_int))
    (pss_cons (ps_set (i:=3) nd rfl (Or.inr rfl) (lcA (defScope s__law_rows) (pi_range1 rfl T.b_range (pa_cons (pvI 2) pa_nil)) (fun _ _ _ _ _=>pgc 1) (fun _ _ _ _ _=>pts_nil) (fun _ _ _ _ _=>(pe_call (G__law_cover.mono (by decide)) hr rfl T.m__law_cover T.k__law_cover T.d__law_cover .nil pass0 (pa_cons (pvI 4) (pa_cons (pe_slice (sl_listK K rfl) (pvI 3) (po_some (pe_op op_addI pe_int (pe_op op_mulI pe_int (pvI 1)))) (po_some (pe_op op_addI pe_int (pe_op op_mulI pe_int (pvI 1))))) pa_nil))))))
    (pss_cons (ps_cut (ps_if (pt_cmpR op_eq (pe_op op_modI (pe_op op_fdivI (pe_ix (ix_listI K rfl) (pvI 1) pe_int (fun _ _=>rfl)) pe_int) pe_int) pe_int (nomark _))
      (pss_one (ps_set (i:=3) nd rfl (Or.inr rfl) (lcA (defScope s__law_rows) (pi_range1 rfl T.b_range (pa_cons (pvI 2) pa_nil)) (fun _ _ _ _ _=>pgc 1) (fun _ _ _ _ _=>pts_nil) (fun _ _ _ _ _=>(pe_ix (ix_listI K rfl) (pvI 2) (pe_op op_fdivI (pvI 1) pe_int) (fun _ _=>rfl))))))
      pss_nil))
    (pss_one (ps_ret (pvI 3))))))) ?_
    try dsimp only [L2.cxOf,L2.Cx.nox]
    refine ⟨_,rfl,rfl,_,rfl,?_⟩
    rw [dec_intV]
    refine iteD (fun _=>?_) (fun hn1=>?_)
    · refine ⟨Nat.zero_le _,fun l hl=>?_⟩
      exact kk l [] [] _ hl (same_upd hl) upd_same CovsAt.nil (Nat.zero_le _) fun c hc=>by simp at hc
    refine ⟨_,rfl,d,_,0,_,rfl,rfl,hd,i0,_,_,rfl,rfl,pj,?_⟩
    have ec:(d0:Int) % 11=((d0 % 11:Nat):Int):=by omega
    have hn:d0 % 11≤10:=by omega
    try dsimp only
    rw [ec]
    generalize d0 % 11=n at ec hn
    refine ⟨_,rfl,n,rfl,by omega,by omega,?_⟩
    have en:((n:Nat):Int).toNat=n:=by omega
    rw [en]
    refine lc_growD (itG_range (H:=H) (lo:=0) (n:=n)) (fun σ=>∃ x0 x1 x2,σ=[x0,x1,x2,some (.ref d),some (.int h)])
      (fun D i ys H'=>∃ cs:List Row,cs.length=i∧CovsAt K H' ys cs∧∀ c∈cs,GoodC h c) ⟨_,_,_,rfl⟩ (Nat.le_of_lt (small_line (by omega))) ?_ ?_ ?_ ?_ ?_
    · exact fun D H'=>⟨[],rfl,CovsAt.nil,fun c hc=>by simp at hc⟩
    · intro D i ys H2 H3 zz1 s3
      refine byC fun hG=>?_
      obtain ⟨cs,e1,e2,e3⟩:=zz1
      refine hG ?_
      exact ⟨cs,e1,e2.same s3,e3⟩
    · intro D i ys zs H2 o hD2 zz2
      refine byC fun hG=>?_
      obtain ⟨cs,e1,e2,e3⟩:=zz2
      refine hG ?_
      exact ⟨cs,e1,e2.updL hD2,e3⟩
    · intro D i x ys σ2 H2 Qt Qf hi hyl zz3 hD2 s2 zz4 zz5 q
      refine byC fun hG=>?_
      subst zz3
      obtain ⟨x0,x1,x2,rfl⟩:=zz4
      obtain ⟨cs,e1,e2,e3⟩:=zz5
      refine hG ?_
      refine ⟨_,rfl,_,rfl,_,rfl,_,_,rfl,rfl,.inl ⟨by decide,by decide⟩,_,_,rfl,rfl,_,rfl,_,rfl,_,_,rfl,rfl,.inl ⟨by decide,by decide⟩,_,_,rfl,rfl,_,rfl,d,_,rfl,s2.seq hd,fun sl hsl=>?_⟩
      have ec2:cutV (ds.map V.int) (some (1+9 * (0+(i:Nat):Int))) (some (10+9 * (0+(i:Nat):Int)))=((ds.drop (1+9 * i)).take ((10+9 * i) - (1+9 * i))).map V.int:=by
        have a1:(1+9 * (0+(i:Nat):Int))=((1+9 * i:Nat):Int):=by omega
        have a2:(10+9 * (0+(i:Nat):Int))=((10+9 * i:Nat):Int):=by omega
        rw [a1,a2];exact cut_ints ds _ _ (by omega) (by omega)
      rw [ec2]
      refine ⟨h,sl,_,rfl,by omega,h6,SqL.of upd_same,by rw [cut_len _ _ _ (by omega)];omega,cut_in hD _ _,fun p lp ho k b m L H3 s3 hrow hL gL hho hot hLl hms=>?_⟩
      have gl4:=gL.l4
      refine q _ _ _ ⟨_,_,_,rfl⟩ ((same_upd hsl).trans s3) ⟨cs ++ [((ho:Int),k,b,m,L)],by rw [List.length_append,e1];rfl,(e2.same ((same_upd hsl).trans s3)).snoc ⟨p,rfl,lp,hrow,hL,by omega⟩,fun c hc=>?_⟩
      rcases List.mem_append.mp hc with hc | hc
      · exact e3 c hc
      · rw [List.mem_singleton.mp hc]
        exact ⟨⟨Int.natCast_nonneg _,by show (ho:Int) < h;omega⟩,hms,gL,hot⟩
    · intro r H2 us hr s2 hr2 hul zz6
      refine byC fun hG=>?_
      obtain ⟨cs,e1,e2,e3⟩:=zz6
      have hds2:=s2.seq hd
      refine hG ?_
      refine ⟨fun σ H'=>∃ r us cs,σ=[some (.int h),some (.ref d),some (.int n),some (.ref r)]∧H r=none∧Same H H'∧H' r=some (.lst us)∧CovsAt K H' us cs∧cs.length≤10∧∀ c∈cs,GoodC h c,?_,?_⟩
      · refine ⟨_,rfl,d,_,0,_,rfl,rfl,hds2,i0,_,_,rfl,rfl,cdiv,_,_,rfl,rfl,pj,rfl,_,rfl,iteD (fun _=>?_) (fun _=>?_)⟩
        · refine ⟨_,rfl,n,rfl,by omega,by omega,?_⟩
          rw [en]
          refine lc_fG (fun i=>us[i / 2]?) (itG_range (H:=H2) (lo:=0) (n:=n)) (fun σ=>∃ x0 x1,σ=[x0,x1,some (.ref r)]) ⟨_,_,rfl⟩ (Nat.le_of_lt (small_line (by omega))) ?_ ?_
          · intro i x σ2 H3 Qt Qf hi zz7 s3 zz8 qt qf
            refine byC fun hG=>?_
            subst zz7
            obtain ⟨x0,x1,rfl⟩:=zz8
            obtain ⟨v,hv⟩:=get_some (xs:=us) (i:=i / 2) (by omega)
            have ei:(0+(i:Nat):Int) / 2=((i / 2:Nat):Int):=by omega
            refine hG ?_
            refine ⟨_,rfl,_,rfl,_,_,rfl,rfl,cdiv,r,_,_,v,rfl,rfl,SqL.of (s3 _ _ hr2),?_,qt v _ _ hv ⟨_,_,rfl⟩ (Same.refl _)⟩
            show atI us ((0+(i:Nat):Int) / 2)=_
            rw [ei];exact atI_nat hv
          · rintro D H3 hD3 s3 hD4
            refine ⟨D,_,_,rfl,s2.free hD3,s2.trans s3,hD4,(e2.same s3).pick (fun i=>i / 2) n fun i hi=>by omega,?_,fun c hc=>e3 c (mem_pick hc)⟩
            have:=List.length_filterMap_le (fun i=>cs[i / 2]?) (List.range n)
            rw [List.length_range] at this
            omega
        · exact ⟨r,us,cs,rfl,hr,s2,hr2,e2,by omega,e3⟩
      · intro σ H3 zz9
        refine byC fun hG=>?_
        obtain ⟨r,us,cs,rfl,hr,s3,hr3,e2,e4,e3⟩:=zz9
        refine hG ?_
        exact ⟨_,rfl,kk r us cs H3 hr s3 hr3 e2 e4 e3⟩
def sp__law_losses (K:Frag):Sp:=fun vs H Q _=>∃ (h:Nat) (d:Addr) (ds:List Int),vs=[.int h,.ref d]∧h≤6∧SqL K H d (ds.map V.int)∧ds.length=7∧InD ds∧
  ∀ (r:Addr) (ls:List Int) (H':Hp),H r=none→Same H H'→H' r=some (.lst (ls.map V.int))→ls.length=h→(∀ x∈ls,0≤x∧x≤8964)→Q (.ref r) H'
theorem sc__law_losses:FnScope ["_law_houses", "_law_draws_here", "_law_row", "_law_k", "_law_d"] ["_law_houses", "_law_draws_here"] (defScope s__law_losses):=⟨rfl,rfl,rfl,by decide +kernel,rfl,by decide +kernel,by decide +kernel⟩
set_option maxHeartbeats 4000000 in
theorem ok__law_losses (T:Txt w K mg A):FnOk P w K mg base CX0 1 A.a__law_losses A.f__law_losses ["_law_houses", "_law_draws_here"] (sp__law_losses K):=by
  have nd:=sc__law_losses.nd
  refine T.F__law_losses.ok sc__law_losses (fun vs H Q E h=>?_) (fun cdv Ar outer s H vs Q E hr h=>?_)
  · obtain ⟨h,d,ds,rfl,_⟩:=h;rfl
  · skip
    obtain ⟨h,d,ds,rfl,h6,hd,hdl,hD,kk⟩:=h
    obtain ⟨d0,D0,i0⟩:=draw_at hD (i:=0) (by omega)
    refine PSs.rd (pss_cons (ps_set (i:=2) nd rfl (Or.inl rfl) (pe_lst pa_nil))
    (pss_cons (ps_for PassesOwn.never rfl (pi_range1 rfl T.b_range (pa_cons (pvI 0) pa_nil)) (pg_name (i:=3) nd rfl (Or.inl rfl))
      (pss_cons (ps_set (i:=4) nd rfl (Or.inl rfl) (pe_ix (ix_listI K rfl) (pvI 1) (pe_op op_addI pe_int (pvI 3)) (fun _ _=>rfl)))
       (pss_one (ps_expr (pe_bm PySem.F.plainAttrs_list PySem.F.slot_list_append PySem.F.type_list_append mt_append (pvI 2) (pa_cons (pe_ix (ix_listI K rfl) (pe_lst (pa_cons pe_int (pa_cons (pe_op op_modI (pvI 4) pe_int) (pa_cons (pe_op op_modI (pvI 4) pe_int) (pa_cons (pe_op op_modI (pvI 4) pe_int) (pa_cons (pe_op op_modI (pe_op op_mulI (pvI 4) pe_int) pe_int) pa_nil)))))) (pe_op op_modI (pe_op op_addI (pe_ix (ix_listI K rfl) (pvI 1) pe_int (fun _ _=>rfl)) (pe_op op_fdivI (pvI 4) pe_int)) pe_int) (fun _ _=>rfl)) pa_nil))))))
    (pss_one (ps_ret (pvI 2))))) ?_
    try dsimp only [L2.cxOf,L2.Cx.nox]
    refine ⟨Nat.zero_le _,fun r hr=>?_⟩
    refine ⟨_,rfl,h,rfl,by omega,by omega,?_⟩
    have en:((h:Nat):Int).toNat=h:=by omega
    rw [en]
    refine for_range (n:=h) (fun i σ H'=>∃ (ls:List Int) (x y:Option V),σ=[some (.int h),some (.ref d),some (.ref r),x,y]∧Same H H'∧H' r=some (.lst (ls.map V.int))∧ls.length=i∧∀ x∈ls,0≤x∧x≤8964) ⟨[],none,none,rfl,same_upd hr,upd_same,rfl,fun x hx=>by simp at hx⟩ ?_ ?_
    · intro i σ H' hi zz1
      refine byC fun hG=>?_
      obtain ⟨ls,x,y,rfl,s1,hr1,hl,hb⟩:=zz1
      obtain ⟨dk,Dk,ik⟩:=draw_at hD (i:=1+i) (by omega)
      have e1:(1:Int)+(0+(i:Nat))=((1+i:Nat):Int):=by omega
      refine hG ?_
      refine ⟨_,rfl,_,rfl,_,_,rfl,rfl,d,_,_,_,rfl,rfl,s1.seq hd,(by show atI _ ((1:Int)+(0+(i:Nat)))=_;rw [e1];exact ik),?_⟩
      refine ⟨_,rfl,.inl ⟨rfl,_,SqL.of hr1⟩,?_⟩
      refine ⟨_,rfl,_,_,rfl,rfl,pj,_,rfl,_,_,rfl,rfl,pj,_,rfl,_,_,rfl,rfl,pj,_,rfl,_,_,rfl,rfl,cmulR,_,_,rfl,rfl,pj,by show 5≤sizeLine;decide,fun z hz=>?_⟩
      have sz:=same_upd (o:=.lst ([0,(dk:Int) % 12,(dk:Int) % 90,(dk:Int) % 300,(dk:Int) * 9 % 10000].map V.int)) hz
      have e5:((d0:Int)+(dk:Int) / 300) % 5=(((d0+dk / 300) % 5:Nat):Int):=by omega
      have hlt:(d0+dk / 300) % 5 < 5:=by omega
      generalize (d0+dk / 300) % 5=m at e5 hlt
      have hv:∃ v:Int,atI ([0,(dk:Int) % 12,(dk:Int) % 90,(dk:Int) % 300,(dk:Int) * 9 % 10000].map V.int) (m:Int)=some (V.int v)∧0≤v∧v≤8964:=by
        match m,hlt with
        | 0,_=>exact ⟨_,rfl,by omega,by omega⟩
        | 1,_=>exact ⟨_,rfl,by omega,by omega⟩
        | 2,_=>exact ⟨_,rfl,by omega,by omega⟩
        | 3,_=>exact ⟨_,rfl,by omega,by omega⟩
        | 4,_=>exact ⟨_,rfl,by omega,by rw [Int.emod_eq_of_lt (by omega) (by omega)];omega⟩
      refine byC fun hG=>?_
      obtain ⟨v,hv,v0,v9⟩:=hv
      refine hG ?_
      refine ⟨_,rfl,d,_,0,_,rfl,rfl,sz.seq (s1.seq hd),i0,_,rfl,_,_,rfl,rfl,cdiv,_,_,rfl,rfl,_,_,rfl,rfl,pj,z,_,_,_,rfl,rfl,SqL.of upd_same,(by show atI _ (((d0:Int)+(dk:Int) / 300) % 5)=_;rw [e5];exact hv),?_⟩
      have nrz:r≠z:=fun q=>by rw [← q,hr1] at hz;cases hz
      refine ⟨r,_,_,rfl,rfl,sz _ _ hr1,small_line (by rw [List.length_map];omega),ls ++ [v],_,_,rfl,fun b o e=>?_,by rw [upd_same,map_snoc],by rw [List.length_append,hl];rfl,fun x hx=>?_⟩
      · rw [upd_ne (ne_of_none e hr)];exact sz _ _ (s1 b o e)
      · rcases List.mem_append.mp hx with hx | hx
        · exact hb x hx
        · rw [List.mem_singleton.mp hx];exact ⟨v0,v9⟩
    · intro σ H' zz2
      refine byC fun hG=>?_
      obtain ⟨ls,x,y,rfl,s1,hr1,hl,hb⟩:=zz2
      refine hG ?_
      exact ⟨_,rfl,kk r ls H' hr s1 hr1 hl hb⟩
def sp__law_made (K:Frag):Sp:=fun vs H Q _=>∃ (d:Addr) (ds:List Int),vs=[.ref d]∧SqL K H d (ds.map V.int)∧99≤ds.length∧InD ds∧
  ∀ (p r lo:Addr) (h:Nat) (us:List V) (cs:List Row) (ls:List Int) (H':Hp),Same H H'→SqT K H' p [.int h,.ref r,.ref lo]→H r=none→H lo=none→r≠lo→H' r=some (.lst us)→CovsAt K H' us cs→H' lo=some (.lst (ls.map V.int))→GoodT h cs ls→(∀ x∈ls,x≤8964)→Q (.ref p) H'
theorem sc__law_made:FnScope ["_law_draws_here", "_law_houses"] ["_law_draws_here"] (defScope s__law_made):=⟨rfl,rfl,rfl,by decide +kernel,rfl,by decide +kernel,by decide +kernel⟩
set_option maxHeartbeats 4000000 in
theorem ok__law_made (T:Txt w K mg A):FnOk P w K mg base CX0 4 A.a__law_made A.f__law_made ["_law_draws_here"] (sp__law_made K):=by
  have nd:=sc__law_made.nd
  have G__law_losses:=ok__law_losses (P:=P) (w:=w) (base:=base) T
  have G__law_rows:=ok__law_rows (P:=P) (w:=w) (base:=base) T
  refine T.F__law_made.ok sc__law_made (fun vs H Q E h=>?_) (fun cdv Ar outer s H vs Q E hr h=>?_)
  · obtain ⟨d,ds,rfl,_⟩:=h;rfl
  · skip
    obtain ⟨d,ds,rfl,hd,hdl,hD,kk⟩:=h
    obtain ⟨d0,D0,i0⟩:=draw_at hD (i:=0) (by omega)
    refine PSs.rd (pss_cons (ps_set (i:=1) nd rfl (Or.inl rfl) (pe_op op_addI pe_int (pe_op op_modI (pe_op op_addI (pe_ix (ix_listI K rfl) (pvI 0) pe_int (fun _ _=>rfl)) pe_int) pe_int)))
    (pss_one (ps_ret (pe_tup (pa_cons (pvI 1) (pa_cons (pe_call (G__law_rows.mono (by decide)) hr rfl T.m__law_rows T.k__law_rows T.d__law_rows .nil pass0 (pa_cons (pvI 1) (pa_cons (pe_slice sl_list (pvI 0) (po_some pe_int) (po_some pe_int)) pa_nil))) (pa_cons (pe_call (G__law_losses.mono (by decide)) hr rfl T.m__law_losses T.k__law_losses T.d__law_losses .nil pass0 (pa_cons (pvI 1) (pa_cons (pe_slice sl_list (pvI 0) (po_some pe_int) (po_some pe_int)) pa_nil))) pa_nil))))))) ?_
    try dsimp only [L2.cxOf,L2.Cx.nox]
    refine ⟨_,rfl,d,_,0,_,rfl,rfl,hd,i0,_,_,rfl,rfl,_,_,rfl,rfl,pj,_,_,rfl,rfl,?_⟩
    try dsimp only
    have e1:(1:Int)+((d0:Int)+3) % 6=((1+(d0+3) % 6:Nat):Int):=by omega
    rw [e1]
    have hh1:1≤1+(d0+3) % 6:=by omega
    have hh6:1+(d0+3) % 6≤6:=by omega
    generalize 1+(d0+3) % 6=h at hh1 hh6
    refine ⟨_,rfl,_,rfl,_,rfl,8,rfl,99,rfl,d,_,rfl,hd,fun sl hsl=>?_⟩
    have ec:cutV (ds.map V.int) (some 8) (some 99)=((ds.drop 8).take (99 - 8)).map V.int:=cut_ints ds 8 99 (by omega) (by omega)
    rw [ec]
    refine ⟨h,sl,_,rfl,hh1,hh6,SqL.of upd_same,by rw [cut_len _ _ _ (by omega)],cut_in hD _ _,fun r us cs H1 hr s1 hr1 hcs hcl hcg=>?_⟩
    have s1':=(same_upd hsl).trans s1
    refine ⟨_,rfl,_,rfl,1,rfl,8,rfl,d,_,rfl,s1'.seq hd,fun sl2 hsl2=>?_⟩
    have ec2:cutV (ds.map V.int) (some 1) (some 8)=((ds.drop 1).take (8 - 1)).map V.int:=cut_ints ds 1 8 (by omega) (by omega)
    rw [ec2]
    refine ⟨h,sl2,_,rfl,hh6,SqL.of upd_same,by rw [cut_len _ _ _ (by omega)],cut_in hD _ _,fun lo ls H2 hlo s2 hlo2 hll hlb=>?_⟩
    have s2':=(same_upd hsl2).trans s2
    have hr2:=s2' _ _ hr1
    have hlo0:H lo=none:=s1'.free ((same_upd hsl2).free hlo)
    have nrl:r≠lo:=fun z=>by have:=(same_upd hsl2 (o:=.lst (((ds.drop 1).take (8 - 1)).map V.int))) _ _ hr1;rw [z,hlo] at this;cases this
    refine ⟨by show 3≤sizeLine;decide,fun p hp=>?_⟩
    exact kk p r lo h us cs ls _ ((s1'.trans s2').trans (same_upd hp)) (SqT.of upd_same) (same_upd hsl |>.free hr) hlo0 nrl (same_upd hp _ _ hr2) ((hcs.same s2').same (same_upd hp)) (same_upd hp _ _ hlo2) ⟨hh1,hh6,hcl,hcg,hll,fun x hx=>⟨(hlb x hx).1,by have:=(hlb x hx).2;omega⟩⟩ fun x hx=>(hlb x hx).2
def sp__law_split (K:Frag):Sp:=fun vs H Q _=>∃ (p:Addr) (n:Nat) (L:List (Int×Int)),vs=[.ref p,.int n]∧LinesAt K H p L∧1≤L.length∧L.length≤1000∧SmallL L∧n≤1000∧
  ∀ (r:Addr) (qs:List Addr) (H':Hp),H r=none→Same H H'→H' r=some (.lst (qs.map V.ref))→qs.length=n+1→RowsAt H' (L.map (·.2)) qs n→Q (.ref r) H'
theorem sc__law_split:FnScope ["_law_lines_here", "_law_most", "_law_borne", "_law_rows_here", "_law_crown", "_law_best", "_law_at", "_law_here"] ["_law_lines_here", "_law_most"] (defScope s__law_split):=⟨rfl,rfl,rfl,by decide +kernel,rfl,by decide +kernel,by decide +kernel⟩
set_option maxHeartbeats 4000000 in
theorem ok__law_split (T:Txt w K mg A):FnOk P w K mg base CX0 1 A.a__law_split A.f__law_split ["_law_lines_here", "_law_most"] (sp__law_split K):=by
  have nd:=sc__law_split.nd
  refine T.F__law_split.ok sc__law_split (fun vs H Q E h=>?_) (fun cdv Ar outer s H vs Q E hr h=>?_)
  · obtain ⟨p,n,L,rfl,_⟩:=h;rfl
  · skip
    obtain ⟨p,n,L,rfl,hp,h1,hl,sml,hn,kk⟩:=h
    obtain ⟨us,hp1,hu⟩:=hp.ex
    have hlen:=hu.len
    refine PSs.rd (pss_cons (ps_set (i:=2) nd rfl (Or.inl rfl) (pe_op op_rep (pe_lst (pa_cons pe_int pa_nil)) (pe_callB call_len_seq rfl T.b_len PySem.boot_len (pa_cons (pvI 0) pa_nil))))
    (pss_cons (ps_set (i:=3) nd rfl (Or.inl rfl) (pe_lst (pa_cons (pe_callTy call_list_of rfl T.b_list boot_ty_list (pa_cons (pvI 2) pa_nil)) pa_nil)))
    (pss_cons (ps_for PassesOwn.never rfl (pi_range1 rfl T.b_range (pa_cons (pvI 1) pa_nil)) (pg_name (i:=4) nd rfl (Or.inl rfl))
      (pss_cons (ps_set (i:=5) nd rfl (Or.inl rfl) pe_int)
       (pss_cons (ps_for PassesOwn.never rfl (pi_range1 rfl T.b_range (pa_cons (pe_callB call_len_seq rfl T.b_len PySem.boot_len (pa_cons (pvI 0) pa_nil)) pa_nil)) (pg_name (i:=6) nd rfl (Or.inl rfl))
         (pss_cons (ps_set (i:=7) nd rfl (Or.inl rfl) (pe_op op_mulI (pe_op op_addI (pe_ix (ix_listI K rfl) (pvI 2) (pvI 6) (fun _ _=>rfl)) pe_int) (pe_ix (ix_tupI K rfl) (pe_ix (ix_tupI K rfl) (pvI 0) (pvI 5) (fun _ _=>rfl)) pe_int (fun _ _=>rfl))))
          (pss_one (ps_if (pt_cmpR op_ltI (pvI 7) (pe_op op_mulI (pe_op op_addI (pe_ix (ix_listI K rfl) (pvI 2) (pvI 5) (fun _ _=>rfl)) pe_int) (pe_ix (ix_tupI K rfl) (pe_ix (ix_tupI K rfl) (pvI 0) (pvI 6) (fun _ _=>rfl)) pe_int (fun _ _=>rfl))) (nomark _))
            (pss_one (ps_set (i:=5) nd rfl (Or.inl rfl) (pvI 6)))
            pss_nil))))
       (pss_cons (ps_asg (pe_op op_addI (pe_ix (ix_listI K rfl) (pvI 2) (pvI 5) (fun _ _=>rfl)) pe_int) (pg_sub (pvI 2) (pvI 5) set_list))
       (pss_one (ps_expr (pe_bm PySem.F.plainAttrs_list PySem.F.slot_list_append PySem.F.type_list_append mt_append (pvI 3) (pa_cons (pe_callTy call_list_of rfl T.b_list boot_ty_list (pa_cons (pvI 2) pa_nil)) pa_nil))))))))
    (pss_one (ps_ret (pvI 3)))))) ?_
    try dsimp only [L2.cxOf,L2.Cx.nox]
    refine ⟨by show 1≤sizeLine;decide,fun z hz=>?_⟩
    have sz:Same H (upd H z (.lst [V.int 0])):=same_upd hz
    refine ⟨_,rfl,p,us,rfl,.inr (sz.tupS hp1),z,_,_,rfl,rfl,upd_same,by omega,by omega,?_,fun b hb=>?_⟩
    · have:1 * ((us.length:Nat):Int).toNat≤1000:=by omega
      exact Nat.le_of_lt (small_line (by show 1 * ((us.length:Nat):Int).toNat≤100000;omega))
    have enl:((us.length:Nat):Int).toNat=L.length:=by omega
    rw [enl,flat_rep]
    have sb:=same_upd (o:=.lst ((List.replicate L.length (0:Int)).map V.int)) hb
    refine ⟨_,rfl,b,_,rfl,.inl (SqL.of upd_same),fun c0 hc0=>?_⟩
    have sc:=same_upd (o:=.lst ((List.replicate L.length (0:Int)).map V.int)) hc0
    refine ⟨by show 1≤sizeLine;decide,fun rw hrw=>?_⟩
    have nbc:b≠c0:=ne_of_none upd_same hc0
    have nbr:b≠rw:=ne_of_none (sc _ _ upd_same) hrw
    have ncr:c0≠rw:=ne_of_none upd_same hrw
    have hb0:H b=none:=sz.free hb
    have hrw0:H rw=none:=sz.free (sb.free (sc.free hrw))
    have hls:(L.map (·.2)).length=L.length:=List.length_map _
    refine ⟨_,rfl,n,rfl,by omega,by omega,?_⟩
    have en:((n:Nat):Int).toNat=n:=by omega
    rw [en]
    refine for_range (n:=n) (fun i σ H'=>SplitSt H H' p b rw n (L.map (·.2)) i σ) ?_ ?_ ?_
    · refine ⟨⟨[c0],none,none,none,none,rfl,upd_same,rfl,fun k hk=>⟨c0,?_,?_⟩,fun q hq=>?_⟩,?_,sz.trans (sb.trans (sc.trans (same_upd hrw)))⟩
      · have:k=0:=by omega
        subst this;rfl
      · have:k=0:=by omega
        subst this
        rw [upd_ne ncr,upd_same,Mt.deal,hls]
      · rw [List.mem_singleton.mp hq];exact ⟨nbc.symm,ncr⟩
      · rw [upd_ne nbr,upd_ne nbc,upd_same,Mt.deal,hls]
    · intro i σ H' hi zz1
      refine byC fun hG=>?_
      obtain ⟨⟨qs,c,be,at_,he,rfl,hrw',hql,hrows,hqn⟩,hbo,sm⟩:=zz1
      have hbl:(Mt.deal (L.map (·.2)) i).length=L.length:=by rw [Mt.deal_length,hls]
      have hu':=hu.same sm
      have hp':=sm.tupS hp1
      refine hG ?_
      refine ⟨_,rfl,p,us,rfl,.inr hp',_,rfl,by omega,by omega,?_⟩
      rw [enl]
      refine for_range (n:=L.length) (fun j σ H2=>H2=H'∧∃ at_ he,σ=[some (.ref p),some (.int n),some (.ref b),some (.ref rw),some (.int (0+(i:Nat))),some (.int (Mt.pickTo (L.map (·.2)) (Mt.deal (L.map (·.2)) i) j:Nat)),at_,he]) ⟨rfl,_,_,rfl⟩ ?_ ?_
      · intro j σ H2 hj zz2
        refine byC fun hG=>?_
        obtain ⟨rfl,at_,he,rfl⟩:=zz2
        have hbest:Mt.pickTo (L.map (·.2)) (Mt.deal (L.map (·.2)) i) j < L.length:=by
          rcases Nat.eq_zero_or_pos j with e | e
          · subst e;exact h1
          · exact Nat.lt_trans (Mt.pickTo_lt _ _ _ e) hj
        have epl:(0:Int)+(j:Nat)=((j:Nat):Int):=by omega
        refine hG ?_
        rw [epl]
        have estp:=Mt.pickTo_succ (L.map (·.2)) (Mt.deal (L.map (·.2)) i) j
        generalize Mt.pickTo (L.map (·.2)) (Mt.deal (L.map (·.2)) i) j=best at hbest estp ⊢
        refine byC fun hG=>?_
        obtain ⟨q1,a1,i1,t1,_⟩:=hu'.ix hbest
        obtain ⟨q2,a2,i2,t2,_⟩:=hu'.ix (i:=j) hj
        refine hG ?_
        refine ⟨_,rfl,_,rfl,b,_,_,_,rfl,rfl,SqL.of hbo,ix_of (by omega),_,_,rfl,rfl,_,rfl,_,rfl,p,_,_,_,rfl,rfl,hp',i1,q1,_,1,_,rfl,rfl,t1,rfl,_,_,rfl,rfl,.inr (sml.get _),?_⟩
        refine ⟨_,rfl,_,rfl,_,rfl,b,_,_,_,rfl,rfl,SqL.of hbo,ix_of (by omega),_,_,rfl,rfl,_,rfl,_,rfl,p,_,_,_,rfl,rfl,hp',i2,q2,_,1,_,rfl,rfl,t2,rfl,_,_,rfl,rfl,.inr (sml.get _),?_⟩
        refine ⟨_,_,rfl,rfl,_,rfl,iteD (fun hc=>?_) (fun hc=>?_)⟩
        · have e2:Mt.pickTo (L.map (·.2)) (Mt.deal (L.map (·.2)) i) (j+1)=j:=by rw [estp];unfold Mt.stp;rw [if_pos hc]
          rw [e2]
          exact ⟨_,rfl,rfl,_,_,rfl⟩
        · have e2:Mt.pickTo (L.map (·.2)) (Mt.deal (L.map (·.2)) i) (j+1)=best:=by rw [estp];unfold Mt.stp;rw [if_neg hc]
          rw [e2]
          exact ⟨rfl,_,_,rfl⟩
      · intro σ H2 zz3
        refine byC fun hG=>?_
        obtain ⟨rfl,at_,he,rfl⟩:=zz3
        have epk:Mt.pickTo (L.map (·.2)) (Mt.deal (L.map (·.2)) i) L.length=Mt.pick (L.map (·.2)) (Mt.deal (L.map (·.2)) i):=by unfold Mt.pick;rw [hls]
        refine hG ?_
        rw [epk]
        have hpk:Mt.pick (L.map (·.2)) (Mt.deal (L.map (·.2)) i) < (Mt.deal (L.map (·.2)) i).length:=by
          rw [Mt.deal_length];exact Mt.pick_lt (by rw [hls];omega)
        refine ⟨_,rfl,_,rfl,b,_,_,_,rfl,rfl,SqL.of hbo,ix_of hpk,_,_,rfl,rfl,_,rfl,_,rfl,b,_,_,Mt.pick (L.map (·.2)) (Mt.deal (L.map (·.2)) i),rfl,rfl,hbo,ixN_nat (by rw [List.length_map];exact hpk),?_⟩
        have eset:((Mt.deal (L.map (·.2)) i).map V.int).set (Mt.pick (L.map (·.2)) (Mt.deal (L.map (·.2)) i)) (V.int ((Mt.deal (L.map (·.2)) i).getD (Mt.pick (L.map (·.2)) (Mt.deal (L.map (·.2)) i)) 0+1))=(Mt.deal (L.map (·.2)) (i+1)).map V.int:=by
          rw [Mt.deal,Mt.give,List.map_set]
        rw [eset]
        generalize eH:upd H2 b (.lst ((Mt.deal (L.map (·.2)) (i+1)).map V.int))=H3
        have hb3:H3 b=some (.lst ((Mt.deal (L.map (·.2)) (i+1)).map V.int)):=by rw [← eH];exact upd_same
        have hr3:H3 rw=some (.lst (qs.map V.ref)):=by rw [← eH,upd_ne nbr.symm];exact hrw'
        refine ⟨_,rfl,.inl ⟨rfl,_,SqL.of hr3⟩,_,rfl,b,_,rfl,.inl (SqL.of hb3),fun c1 hc1=>?_⟩
        have nb1:b≠c1:=ne_of_none hb3 hc1
        have nr1:rw≠c1:=ne_of_none hr3 hc1
        refine ⟨rw,_,_,rfl,rfl,by rw [upd_ne nr1];exact hr3,small_line (by rw [List.length_map];omega),?_⟩
        refine ⟨⟨qs ++ [c1],_,_,_,_,rfl,by rw [upd_same,List.map_append];rfl,by rw [List.length_append,hql];rfl,fun k hk=>?_,fun q hq=>?_⟩,by rw [upd_ne nbr,upd_ne nb1];exact hb3,fun x o e=>?_⟩
        · by_cases ek:k≤i
          · obtain ⟨q,hq,hq2⟩:=hrows k ek
            have nq:=hqn q (List.mem_of_getElem? hq)
            refine ⟨q,by rw [List.getElem?_append_left (get_lt hq)];exact hq,?_⟩
            have hq3:H3 q=some (.lst ((Mt.deal (L.map (·.2)) k).map V.int)):=by rw [← eH,upd_ne nq.1];exact hq2
            rw [upd_ne nq.2,upd_ne (ne_of_none hq3 hc1)]
            exact hq3
          · have ek':k=i+1:=by omega
            subst ek'
            refine ⟨c1,by rw [List.getElem?_append_right (by omega),hql,Nat.sub_self];rfl,?_⟩
            rw [upd_ne nr1.symm,upd_same]
        · rcases List.mem_append.mp hq with hq | hq
          · exact hqn q hq
          · rw [List.mem_singleton.mp hq];exact ⟨nb1.symm,nr1.symm⟩
        · have e1:x≠b:=ne_of_none e hb0
          have e2:x≠rw:=ne_of_none e hrw0
          have e3:H3 x=some o:=by rw [← eH,upd_ne e1];exact sm x o e
          rw [upd_ne e2,upd_ne (ne_of_none e3 hc1)]
          exact e3
    · intro σ H' zz4
      refine byC fun hG=>?_
      obtain ⟨⟨qs,c,be,at_,he,rfl,hrw',hql,hrows,hqn⟩,hbo,sm⟩:=zz4
      refine hG ?_
      exact ⟨_,rfl,kk rw qs H' hrw0 sm hrw' hql hrows⟩
def sp__law_splits (K:Frag):Sp:=fun vs H Q _=>∃ (cv:Addr) (us:List V) (cs:List Row) (h:Nat),vs=[.ref cv]∧SqL K H cv us∧CovsAt K H us cs∧cs.length≤10∧(∀ c∈cs,GoodC h c)∧
  ∀ (r:Addr) (ss:List Addr) (H':Hp),H r=none→Same H H'→H' r=some (.lst (ss.map V.ref))→SplitsAt H' cs ss→Q (.ref r) H'
theorem sc__law_splits:FnScope ["_law_covers"] ["_law_covers"] (defScope s__law_splits):=⟨rfl,rfl,rfl,by decide +kernel,rfl,by decide +kernel,by decide +kernel⟩
set_option maxHeartbeats 4000000 in
theorem ok__law_splits (T:Txt w K mg A):FnOk P w K mg base CX0 2 A.a__law_splits A.f__law_splits ["_law_covers"] (sp__law_splits K):=by
  have nd:=sc__law_splits.nd
  have G__law_split:=ok__law_split (P:=P) (w:=w) (base:=base) T
  refine T.F__law_splits.ok sc__law_splits (fun vs H Q E h=>?_) (fun cdv Ar outer s H vs Q E hr h=>?_)
  · obtain ⟨cv,us,cs,h,rfl,_⟩:=h;rfl
  · skip
    obtain ⟨cv,us,cs,h,rfl,hcv,hcs,h10,hg,kk⟩:=h
    have hlen:=hcs.len
    refine PSs.rd (pss_one (ps_ret (lcA (defScope s__law_splits) (pi_list (pvI 0)) (fun _ _ _ _ _=>pgc 1) (fun _ _ _ _ _=>pts_nil) (fun _ _ _ _ _=>(pe_call (G__law_split.mono (by decide)) hr rfl T.m__law_split T.k__law_split T.d__law_split .nil pass0 (pa_cons (pe_ix (ix_tupI K rfl) (pvI 1) pe_int (fun _ _=>rfl)) (pa_cons (pe_ix (ix_tupI K rfl) (pvI 1) pe_int (fun _ _=>rfl)) pa_nil))))))) ?_
    try dsimp only [L2.cxOf,L2.Cx.nox]
    refine ⟨_,rfl,cv,rfl,⟨us,hcv⟩,?_⟩
    refine lc_growD (itG_of (itOf_list hcv)) (fun σ=>∃ x0 x1 x2,σ=[x0,x1,x2])
      (fun D i ys H'=>∃ ss:List Addr,ys=ss.map V.ref∧ss.length=i∧∀ (k:Nat) (c:Row) (s:Addr),cs[k]? = some c→ss[k]? = some s→s≠D∧∃ qs:List Addr,H' s=some (.lst (qs.map V.ref))∧∀ j,j≤c.2.2.2.1.toNat→∃ q,qs[j]? = some q∧q≠D∧H' q=some (.lst ((Mt.deal (c.2.2.2.2.map (·.2)) j).map V.int)))
      ⟨_,_,_,rfl⟩ (Nat.le_of_lt (small_line (by omega))) ?_ ?_ ?_ ?_ ?_
    · exact fun D H'=>⟨[],rfl,rfl,fun k c s _ e=>by simp at e⟩
    · intro D i ys H2 H3 zz1 s3
      refine byC fun hG=>?_
      obtain ⟨ss,e1,e2,e3⟩:=zz1
      refine hG ?_
      refine ⟨ss,e1,e2,fun k c s z1 z2=>?_⟩
      refine byC fun hG=>?_
      obtain ⟨n1,qs,a,b⟩:=e3 k c s z1 z2
      refine hG ?_
      exact ⟨n1,qs,s3 _ _ a,fun j hj=>let ⟨q,y1,y2,y3⟩:=b j hj;⟨q,y1,y2,s3 _ _ y3⟩⟩
    · intro D i ys zs H2 o hD2 zz2
      refine byC fun hG=>?_
      obtain ⟨ss,e1,e2,e3⟩:=zz2
      refine hG ?_
      refine ⟨ss,e1,e2,fun k c s z1 z2=>?_⟩
      refine byC fun hG=>?_
      obtain ⟨n1,qs,a,b⟩:=e3 k c s z1 z2
      refine hG ?_
      exact ⟨n1,qs,by rw [upd_ne n1];exact a,fun j hj=>let ⟨q,y1,y2,y3⟩:=b j hj;⟨q,y1,y2,by rw [upd_ne y2];exact y3⟩⟩
    · intro D i x ys σ2 H2 Qt Qf hi hyl hx hD2 s2 zz3 zz4 q
      refine byC fun hG=>?_
      obtain ⟨x0,x1,x2,rfl⟩:=zz3
      obtain ⟨ss,rfl,e2,e3⟩:=zz4
      obtain ⟨cc,hc,p,rfl,lp,hrow,hL,hLl⟩:=(hcs.same s2).get hx
      have gc:=hg cc (List.mem_of_getElem? hc)
      have gm:=gc.most
      have gl4:=gc.gl.l4
      have em:cc.2.2.2.1=((cc.2.2.2.1.toNat:Nat):Int):=by omega
      refine hG ?_
      refine ⟨_,rfl,p,_,4,_,rfl,rfl,hrow,rfl,_,rfl,p,_,3,_,rfl,rfl,hrow,rfl,?_⟩
      refine ⟨lp,cc.2.2.2.1.toNat,cc.2.2.2.2,by show [V.ref lp,V.int _]=_;rw [← em],hL,gc.gl.l1,by omega,gc.gl.small,by omega,fun r qs H3 hr s3 hr3 hql hrows=>?_⟩
      have hD3:=s3 _ _ hD2
      refine q _ _ _ ⟨_,_,_,rfl⟩ s3 ⟨ss ++ [r],by rw [List.map_append];rfl,by rw [List.length_append,e2];rfl,fun k c s z1 z2=>?_⟩
      by_cases hk:k < ss.length
      · rw [List.getElem?_append_left hk] at z2
        refine byC fun hG=>?_
        obtain ⟨n1,qs',a,b⟩:=e3 k c s z1 z2
        refine hG ?_
        exact ⟨n1,qs',s3 _ _ a,fun j hj=>let ⟨q,y1,y2,y3⟩:=b j hj;⟨q,y1,y2,s3 _ _ y3⟩⟩
      · have hlt:=get_lt z2
        rw [List.length_append,List.length_singleton] at hlt
        have ek:k=i:=by omega
        subst ek
        rw [List.getElem?_append_right (by omega),e2,Nat.sub_self] at z2
        simp at z2;subst z2
        rw [hc] at z1;cases z1
        refine ⟨(fun z=>by rw [z,hD2] at hr;cases hr),qs,hr3,fun j hj=>?_⟩
        refine byC fun hG=>?_
        obtain ⟨q,y1,y2⟩:=hrows j hj
        refine hG ?_
        exact ⟨q,y1,ints_refs hD3 y2 (by rw [Mt.deal_length,List.length_map];exact gc.gl.l1),y2⟩
    · intro D H2 ys hD s2 hD2 hyl zz5
      refine byC fun hG=>?_
      obtain ⟨ss,rfl,e2,e3⟩:=zz5
      refine hG ?_
      refine kk D ss H2 hD s2 hD2 ⟨by omega,fun i c s z1 z2=>?_⟩
      refine byC fun hG=>?_
      obtain ⟨n1,qs,a,b⟩:=e3 i c s z1 z2
      refine hG ?_
      exact ⟨qs,a,fun j hj=>let ⟨q,y1,y2,y3⟩:=b j hj;⟨q,y1,y3⟩⟩
def sp__law_loads (K:Frag):Sp:=fun vs H Q _=>∃ (cv lo sp ac:Addr) (us:List V) (cs:List Row) (ls:List Int) (ss:List Addr) (acc:List Int) (h:Nat),vs=[.ref cv,.ref lo,.ref sp,.ref ac]∧SqL K H cv us∧CovsAt K H us cs∧SqL K H lo (ls.map V.int)∧SqL K H sp (ss.map V.ref)∧SplitsAt H cs ss∧SqL K H ac (acc.map V.int)∧AccOk cs acc∧GoodT h cs ls∧
  ∀ r H',H r=none→Same H H'→H' r=some (.lst ((burdL cs ls acc).map V.int))→Q (.ref r) H'
theorem sc__law_loads:FnScope ["_law_covers", "_law_losses_here", "_law_splits_here", "_law_account", "_law_row", "_law_at", "_law_lines_here", "_law_mine", "_law_k", "_law_signer"] ["_law_covers", "_law_losses_here", "_law_splits_here", "_law_account"] (defScope s__law_loads):=⟨rfl,rfl,rfl,by decide +kernel,rfl,by decide +kernel,by decide +kernel⟩
set_option maxHeartbeats 4000000 in
theorem ok__law_loads (T:Txt w K mg A):FnOk P w K mg base CX0 1 A.a__law_loads A.f__law_loads ["_law_covers", "_law_losses_here", "_law_splits_here", "_law_account"] (sp__law_loads K):=by
  have nd:=sc__law_loads.nd
  refine T.F__law_loads.ok sc__law_loads (fun vs H Q E h=>?_) (fun cdv Ar outer s H vs Q E hr h=>?_)
  · obtain ⟨cv,lo,sp,ac,us,cs,ls,ss,acc,h,rfl,_⟩:=h;rfl
  · skip
    obtain ⟨cv,lo,sp,ac,us,cs,ls,ss,acc,h,rfl,hcv,hcs,hlo,hsp,hss,hac,hA,g,kk⟩:=h
    have hlen:=hcs.len
    have g10:=g.c10
    have hal:=hA.len
    refine PSs.rd (pss_cons (ps_set (i:=4) nd rfl (Or.inl rfl) (pe_callTy call_list_of rfl T.b_list boot_ty_list (pa_cons (pvI 1) pa_nil)))
    (pss_cons (ps_for PassesOwn.never rfl (pi_range1 rfl T.b_range (pa_cons (pe_callB call_len_seq rfl T.b_len PySem.boot_len (pa_cons (pvI 0) pa_nil)) pa_nil)) (pg_name (i:=5) nd rfl (Or.inl rfl))
      (pss_cons (ps_set (i:=6) nd rfl (Or.inl rfl) (pe_ix (ix_tupI K rfl) (pe_ix (ix_listI K rfl) (pvI 0) (pvI 5) (fun _ _=>rfl)) pe_int (fun _ _=>rfl)))
       (pss_cons (ps_set (i:=7) nd rfl (Or.inl rfl) (pe_ix (ix_listI K rfl) (pe_ix (ix_listI K rfl) (pvI 2) (pvI 5) (fun _ _=>rfl)) (pe_ix (ix_listI K rfl) (pvI 3) (pvI 5) (fun _ _=>rfl)) (fun _ _=>rfl)))
       (pss_one (ps_for PassesOwn.never rfl (pi_range1 rfl T.b_range (pa_cons (pe_callB call_len_seq rfl T.b_len PySem.boot_len (pa_cons (pvI 6) pa_nil)) pa_nil)) (pg_name (i:=8) nd rfl (Or.inl rfl))
         (pss_cons (ps_set (i:=9) nd rfl (Or.inl rfl) (pe_ix (ix_tupI K rfl) (pe_ix (ix_tupI K rfl) (pvI 6) (pvI 8) (fun _ _=>rfl)) pe_int (fun _ _=>rfl)))
          (pss_one (ps_asg (pe_op op_addI (pe_ix (ix_listI K rfl) (pvI 4) (pvI 9) (fun _ _=>rfl)) (pe_ix (ix_listI K rfl) (pvI 7) (pvI 8) (fun _ _=>rfl))) (pg_sub (pvI 4) (pvI 9) set_list)))))))))
    (pss_one (ps_ret (pvI 4))))) ?_
    try dsimp only [L2.cxOf,L2.Cx.nox]
    refine ⟨_,rfl,lo,_,rfl,.inl hlo,fun r hr=>?_⟩
    refine ⟨_,rfl,cv,us,rfl,.inl ((same_upd hr).seq hcv),_,rfl,by omega,by omega,?_⟩
    have en:((us.length:Nat):Int).toNat=cs.length:=by omega
    rw [en]
    refine for_rangeO (n:=cs.length) (fun i σ H'=>Same H H'∧H' r=some (.lst ((plusF ls (crs cs acc i)).map V.int))∧∃ x1 x2 x3 x4 x5,σ=[some (.ref cv),some (.ref lo),some (.ref sp),some (.ref ac),some (.ref r),x1,x2,x3,x4,x5]) ⟨same_upd hr,?_,_,_,_,_,_,rfl⟩ ?_ ?_
    · have e:crs cs acc 0=fun _=>0:=rfl
      rw [e,plusF_zero];exact upd_same
    · intro N R B i σ H' hi zz1 hN _
      refine byC fun hG=>?_
      obtain ⟨sm,hr',x1,x2,x3,x4,x5,rfl⟩:=zz1
      have ei:(0+(i:Nat):Int)=((i:Nat):Int):=by omega
      refine hG ?_
      rw [ei]
      refine byC fun hG=>?_
      obtain ⟨cc,hc⟩:=get_some (xs:=cs) hi
      obtain ⟨v,hv,p,rfl,lp,hrow,hL,hLl⟩:=(hcs.same sm).at_ i cc hc
      have gc:=g.cov cc (List.mem_of_getElem? hc)
      have gm:=gc.most
      have gl1:=gc.gl.l1
      have gl4:=gc.gl.l4
      obtain ⟨s,hs⟩:=get_some (xs:=ss) (i:=i) (by rw [hss.len];exact hi)
      obtain ⟨qs,hsq0,hrows⟩:=hss.at_ i cc s hc hs
      have hsq:=sm _ _ hsq0
      obtain ⟨bi,hbi⟩:=get_some (xs:=acc) (i:=i) (by omega)
      have hbd:=hA.bd i cc bi hc hbi
      obtain ⟨n,rfl⟩ : ∃ n:Nat,bi=(n:Int):=⟨bi.toNat,by omega⟩
      obtain ⟨q,hqn,hq0⟩:=hrows n (by have:=hbd.2;omega)
      have hq:=sm _ _ hq0
      refine hG ?_
      refine ⟨_,rfl,_,rfl,cv,_,_,_,rfl,rfl,sm.seq hcv,atI_nat hv,p,_,4,_,rfl,rfl,hrow,rfl,?_⟩
      refine ⟨_,rfl,_,rfl,sp,_,_,_,rfl,rfl,sm.seq hsp,atI_nat (by rw [List.getElem?_map,hs];rfl),_,rfl,_,rfl,ac,_,_,_,rfl,rfl,sm.seq hac,atI_nat (by rw [List.getElem?_map,hbi];rfl),s,_,_,_,rfl,rfl,SqL.of hsq,atI_nat (by rw [List.getElem?_map,hqn];rfl),?_⟩
      refine byC fun hG=>?_
      obtain ⟨vs,hL1,hL2⟩:=hL.ex
      have hLlen:vs.length=cc.2.2.2.2.length:=hL2.len
      refine hG ?_
      refine ⟨_,rfl,lp,_,rfl,.inr hL1,_,rfl,by omega,by omega,?_⟩
      have en2:((vs.length:Nat):Int).toNat=cc.2.2.2.2.length:=by omega
      rw [en2]
      refine for_rangeO (n:=cc.2.2.2.2.length) (fun k σ H''=>Same H H''∧H'' q=some (.lst ((Mt.deal (cc.2.2.2.2.map (·.2)) n).map V.int))∧LinesAt K H'' lp cc.2.2.2.2∧H'' r=some (.lst ((plusF ls (fun j=>crs cs acc i j+sgs cc.2.2.2.2 (Mt.deal (cc.2.2.2.2.map (·.2)) n) k j)).map V.int))∧
        ∃ x1 x2,σ=[some (.ref cv),some (.ref lo),some (.ref sp),some (.ref ac),some (.ref r),some (.int i),some (.ref lp),some (.ref q),x1,x2]) ⟨sm,hq,hL,?_,_,_,rfl⟩ ?_ ?_
      · rw [hr'];congr 3;exact plusF_congr fun j _=>by simp [sgs]
      · intro N2 R2 B2 k σ H'' hk zz2 hN2 _
        refine byC fun hG=>?_
        obtain ⟨s4,hq4,hL4,hr4,x1,x2,rfl⟩:=zz2
        have ek:(0+(k:Nat):Int)=((k:Nat):Int):=by omega
        refine hG ?_
        rw [ek]
        refine byC fun hG=>?_
        obtain ⟨vs4,hL5,hL6⟩:=hL4.ex
        obtain ⟨q1,a1,i1,t1,e2⟩:=hL6.ix hk
        refine hG ?_
        refine ⟨_,rfl,_,rfl,lp,_,_,_,rfl,rfl,hL5,i1,q1,_,0,_,rfl,rfl,t1,rfl,?_⟩
        have hl:=List.mem_of_getElem? e2
        have hl0:=(gc.gl.all _ hl).1
        have hl1:=(gc.ot _ hl).1
        have hll:=g.ll
        refine byC fun hG=>?_
        obtain ⟨j,hj⟩ : ∃ j:Nat,a1=(j:Int):=⟨a1.toNat,by have:(0:Int)≤a1:=hl0;omega⟩
        refine hG ?_
        subst hj
        have hjl:j < ls.length:=by have:((j:Nat):Int) < h:=hl1;omega
        have hdl:k < (Mt.deal (cc.2.2.2.2.map (·.2)) n).length:=by rw [Mt.deal_length,List.length_map];exact hk
        have nqr:q≠r:=ne_of_none hq0 hr
        refine ⟨_,rfl,_,rfl,r,_,_,.int ((plusF ls (fun j=>crs cs acc i j+sgs cc.2.2.2.2 (Mt.deal (cc.2.2.2.2.map (·.2)) n) k j)).getD j 0),rfl,rfl,SqL.of hr4,ix_of (by rw [plusF_len];exact hjl),_,rfl,_,rfl,q,_,_,_,rfl,rfl,SqL.of hq4,ix_of hdl,_,_,rfl,rfl,?_⟩
        refine ⟨_,rfl,_,rfl,r,_,_,j,rfl,rfl,hr4,ixN_nat (by rw [List.length_map,plusF_len];exact hjl),hN2 _ _ ⟨fun b o e=>?_,?_,?_,?_,_,_,rfl⟩⟩
        · rw [upd_ne (ne_of_none e hr)];exact s4 b o e
        · rw [upd_ne nqr];exact hq4
        · exact LinesAt.but hL4 hr4 (fun _ z=>by cases z) (fun _ _ z=>by cases z) fun b o nb e=>by rw [upd_ne nb];exact e
        · rw [upd_same,← List.map_set,plusF_set _ _ _ _ hjl]
          congr 3
          refine plusF_congr fun j' _=>?_
          rw [sgs,fst_of e2]
          by_cases e:j'=j
          · subst e;rw [if_pos rfl,if_pos rfl];omega
          · rw [if_neg e,if_neg (fun z:(j:Int)=(j':Int)=>e (by omega))];omega
      · intro σ H'' zz3
        refine byC fun hG=>?_
        obtain ⟨s4,hq4,hL4,hr4,x1,x2,rfl⟩:=zz3
        refine hG ?_
        refine hN _ _ ⟨s4,?_,_,_,_,_,_,rfl⟩
        rw [hr4]
        congr 3
        refine plusF_congr fun j _=>?_
        rw [sgs_deal gl1 gc.gl.nd,crs,hc,getD_of hbi]
        rfl
    · intro σ H' zz4
      refine byC fun hG=>?_
      obtain ⟨sm,hr',x1,x2,x3,x4,x5,rfl⟩:=zz4
      refine hG ?_
      exact ⟨_,rfl,kk r H' hr sm hr'⟩
def sp__law_take (K:Frag):Sp:=fun vs H Q _=>∃ (k:Str) (b m r:Int),vs=[.str k,.int b,.int m,.int r]∧measB k b m=true∧0≤r∧r≤99999∧Q (.int (takeZ k b m r)) H
theorem sc__law_take:FnScope ["_law_kind", "_law_by", "_law_most", "_law_reach"] ["_law_kind", "_law_by", "_law_most", "_law_reach"] (defScope s__law_take):=⟨rfl,rfl,rfl,by decide +kernel,rfl,by decide +kernel,by decide +kernel⟩
set_option maxHeartbeats 4000000 in
theorem ok__law_take (T:Txt w K mg A):FnOk P w K mg base CX0 1 A.a__law_take A.f__law_take ["_law_kind", "_law_by", "_law_most", "_law_reach"] (sp__law_take K):=by
  have nd:=sc__law_take.nd
  refine T.F__law_take.ok sc__law_take (fun vs H Q E h=>?_) (fun cdv Ar outer s H vs Q E hr h=>?_)
  · obtain ⟨k,b,m,r,rfl,_⟩:=h;rfl
  · skip
    obtain ⟨k,b,m,r,rfl,hm,h0,h9,kk⟩:=h
    obtain ⟨hk,m0,m24⟩:=measB_cases hm
    refine PSs.rd (pss_cons (ps_if (pt_cmpR op_eq (pvI 0) pe_str (nomark _))
      (pss_one (ps_ret (pe_callB (call_min2 rfl) rfl T.b_min boot_min (pa_cons (pvI 2) (pa_cons (pe_op op_fdivI (pe_op op_mulI (pvI 3) (pvI 1)) pe_int) pa_nil)))))
      pss_nil)
    (pss_cons (ps_if (pt_cmpR op_leI (pvI 3) (pvI 1) (nomark _))
      (pss_one (ps_ret pe_int))
      pss_nil)
    (pss_one (ps_ret (pe_callB (call_min2 rfl) rfl T.b_min boot_min (pa_cons (pvI 2) (pa_cons (pe_op op_subI (pvI 3) (pvI 1)) pa_nil))))))) ?_
    try dsimp only [L2.cxOf,L2.Cx.nox]
    refine ⟨_,rfl,rfl,_,rfl,?_⟩
    rw [dec_strV]
    refine iteD (fun e=>?_) (fun e=>?_)
    · refine ⟨_,rfl,_,rfl,_,rfl,_,_,rfl,rfl,.inl ⟨by omega,by omega⟩,_,_,rfl,rfl,cdiv,m,_,rfl,?_⟩
      unfold takeZ wishZ at kk
      rw [if_pos e] at kk
      exact kk
    · have hb:0≤b:=by rcases hk with ⟨z,_,_⟩ | ⟨_,z,_⟩ <;> first | exact absurd z e | exact z
      refine ⟨_,rfl,_,rfl,_,_,rfl,rfl,_,rfl,iteD (fun e2=>?_) (fun e2=>?_)⟩
      · have hw:wishZ k b r=0:=by unfold wishZ;rw [if_neg e,if_neg (by omega)]
        have:takeZ k b m r=0:=by unfold takeZ;rw [hw];split <;> omega
        rw [this] at kk
        exact kk
      · refine ⟨_,rfl,_,rfl,_,rfl,_,_,rfl,rfl,m,_,rfl,?_⟩
        have hw:wishZ k b r=r - b:=by unfold wishZ;rw [if_neg e,if_pos (by omega)]
        have:takeZ k b m r=if r - b < m then r - b else m:=by unfold takeZ;rw [hw]
        rw [this] at kk
        exact kk
def sp__law_passed (K:Frag):Sp:=fun vs H Q _=>∃ (cv lo sp ac:Addr) (us:List V) (cs:List Row) (ls:List Int) (ss:List Addr) (acc:List Int) (h:Nat),vs=[.ref cv,.ref lo,.ref sp,.ref ac]∧SqL K H cv us∧CovsAt K H us cs∧SqL K H lo (ls.map V.int)∧SqL K H sp (ss.map V.ref)∧SplitsAt H cs ss∧SqL K H ac (acc.map V.int)∧AccOk cs acc∧GoodT h cs ls∧
  ∀ p r lf H',H r=none→H lf=none→r≠lf→Same H H'→SqT K H' p [.ref r,.ref lf]→H' r=some (.lst ((askL cs ls acc).map V.int))→H' lf=some (.lst ((passL cs (burdL cs ls acc) cs.length).1.map V.int))→Q (.ref p) H'
theorem sc__law_passed:FnScope ["_law_covers", "_law_losses_here", "_law_splits_here", "_law_account", "_law_left", "_law_asks", "_law_house", "_law_kind", "_law_by", "_law_most", "_law_lines_here", "_law_crowns"] ["_law_covers", "_law_losses_here", "_law_splits_here", "_law_account"] (defScope s__law_passed):=⟨rfl,rfl,rfl,by decide +kernel,rfl,by decide +kernel,by decide +kernel⟩
set_option maxHeartbeats 4000000 in
theorem ok__law_passed (T:Txt w K mg A):FnOk P w K mg base CX0 2 A.a__law_passed A.f__law_passed ["_law_covers", "_law_losses_here", "_law_splits_here", "_law_account"] (sp__law_passed K):=by
  have nd:=sc__law_passed.nd
  have G__law_loads:=ok__law_loads (P:=P) (w:=w) (base:=base) T
  have G__law_take:=ok__law_take (P:=P) (w:=w) (base:=base) T
  refine T.F__law_passed.ok sc__law_passed (fun vs H Q E h=>?_) (fun cdv Ar outer s H vs Q E hr h=>?_)
  · obtain ⟨cv,lo,sp,ac,us,cs,ls,ss,acc,h,rfl,_⟩:=h;rfl
  · skip
    obtain ⟨cv,lo,sp,ac,us,cs,ls,ss,acc,h,rfl,hcv,hcs,hlo,hsp,hss,hac,hA,g,kk⟩:=h
    have g10:=g.c10
    have hbd:=burd_bd g hA
    have hlen:=hcs.len
    refine PSs.rd (pss_cons (ps_set (i:=4) nd rfl (Or.inl rfl) (pe_call (G__law_loads.mono (by decide)) hr rfl T.m__law_loads T.k__law_loads T.d__law_loads .nil pass0 (pa_cons (pvI 0) (pa_cons (pvI 1) (pa_cons (pvI 2) (pa_cons (pvI 3) pa_nil))))))
    (pss_cons (ps_set (i:=5) nd rfl (Or.inl rfl) (pe_lst pa_nil))
    (pss_cons (ps_for PassesOwn.never rfl (pi_list (pvI 0)) (pg_tup (n:=5) rfl (pgs_cons (pg_name (i:=6) nd rfl (Or.inl rfl)) (pgs_cons (pg_name (i:=7) nd rfl (Or.inl rfl)) (pgs_cons (pg_name (i:=8) nd rfl (Or.inl rfl)) (pgs_cons (pg_name (i:=9) nd rfl (Or.inl rfl)) (pgs_cons (pg_name (i:=10) nd rfl (Or.inl rfl)) pgs_nil))))))
      (pss_cons (ps_set (i:=11) nd rfl (Or.inl rfl) (pe_call (G__law_take.mono (by decide)) hr rfl T.m__law_take T.k__law_take T.d__law_take .nil pass0 (pa_cons (pvI 7) (pa_cons (pvI 8) (pa_cons (pvI 9) (pa_cons (pe_ix (ix_listI K rfl) (pvI 4) (pvI 6) (fun _ _=>rfl)) pa_nil))))))
       (pss_cons (ps_asg (pe_op op_subI (pe_ix (ix_listI K rfl) (pvI 4) (pvI 6) (fun _ _=>rfl)) (pvI 11)) (pg_sub (pvI 4) (pvI 6) set_list))
       (pss_one (ps_expr (pe_bm PySem.F.plainAttrs_list PySem.F.slot_list_append PySem.F.type_list_append mt_append (pvI 5) (pa_cons (pvI 11) pa_nil)))))))
    (pss_one (ps_ret (pe_tup (pa_cons (pvI 5) (pa_cons (pvI 4) pa_nil)))))))) ?_
    try dsimp only [L2.cxOf,L2.Cx.nox]
    refine ⟨_,rfl,_,rfl,_,rfl,_,rfl,cv,lo,sp,ac,us,cs,ls,ss,acc,h,rfl,hcv,hcs,hlo,hsp,hss,hac,hA,g,fun lf H1 hlf s1 hlf1=>?_⟩
    refine ⟨Nat.zero_le _,fun r hr=>?_⟩
    have hr0:=s1.free hr
    have sr:=same_upd (o:=.lst []) hr
    have nlr:lf≠r:=fun z=>by rw [← z,hlf1] at hr;cases hr
    have s2:=s1.trans sr
    refine ⟨_,rfl,cv,rfl,⟨us,s2.seq hcv⟩,?_⟩
    refine for_listO (xs:=us) (fun i σ H'=>Same H H'∧H' lf=some (.lst ((passL cs (burdL cs ls acc) i).1.map V.int))∧H' r=some (.lst ((passL cs (burdL cs ls acc) i).2.map V.int))∧∃ x1 x2 x3 x4 x5 x6,σ=[some (.ref cv),some (.ref lo),some (.ref sp),some (.ref ac),some (.ref lf),some (.ref r),x1,x2,x3,x4,x5,x6])
      ⟨s2,sr _ _ hlf1,upd_same,_,_,_,_,_,_,rfl⟩ (fun i σ H' _ p=>p.1.seq hcv) ?_ ?_
    · intro N R B i x σ H' hx zz1 hN _
      refine byC fun hG=>?_
      obtain ⟨s3,hlf3,hr3,x1,x2,x3,x4,x5,x6,rfl⟩:=zz1
      obtain ⟨cc,hc,p,rfl,lp,hrow,hL,hLl⟩:=(hcs.same s3).get hx
      have gc:=g.cov cc (List.mem_of_getElem? hc)
      have ghl:=g.ll
      have hj:cc.1=((cc.1.toNat:Nat):Int):=by have:=gc.ho;omega
      have hjl:cc.1.toNat < (passL cs (burdL cs ls acc) i).1.length:=by rw [passL_len1,burdL_len];have:=gc.ho;omega
      have hbd':=getD_bd (passL_bd hbd (by decide) g.cov i) (by decide) cc.1.toNat
      have hl2:=passL_len2 cs (burdL cs ls acc) i (by have:=get_lt hc;omega)
      have hsu:=passL_succ (l0:=burdL cs ls acc) hc
      refine hG ?_
      rw [hsu] at hN
      generalize passL cs (burdL cs ls acc) i=P at hlf3 hr3 hjl hbd' hl2 hN
      have hix:atI (P.1.map V.int) cc.1=some (.int (P.1.getD cc.1.toNat 0)):=by rw [hj];exact ix_of hjl
      refine ⟨p,_,rfl,hrow,rfl,_,_,rfl,_,_,rfl,_,_,rfl,_,_,rfl,_,_,rfl,rfl,?_⟩
      refine ⟨_,rfl,_,rfl,_,rfl,_,rfl,_,rfl,lf,_,_,.int (P.1.getD cc.1.toNat 0),rfl,rfl,SqL.of hlf3,hix,_,_,_,_,rfl,gc.ms,hbd'.1,by omega,?_⟩
      refine ⟨_,rfl,_,rfl,lf,_,_,.int (P.1.getD cc.1.toNat 0),rfl,rfl,SqL.of hlf3,hix,_,rfl,_,_,rfl,rfl,?_⟩
      refine ⟨_,rfl,_,rfl,lf,_,_,cc.1.toNat,rfl,rfl,hlf3,(by rw [hj];exact ixN_nat (by rw [List.length_map];exact hjl)),?_⟩
      refine ⟨_,rfl,.inl ⟨rfl,_,SqL.of (by rw [upd_ne nlr.symm];exact hr3)⟩,_,rfl,r,_,_,rfl,rfl,(by rw [upd_ne nlr.symm];exact hr3),small_line (by rw [List.length_map];have:=get_lt hc;omega),?_⟩
      refine hN _ _ ⟨fun b o e=>?_,?_,?_,_,_,_,_,_,_,rfl⟩
      · rw [upd_ne (ne_of_none e hr0),upd_ne (ne_of_none e hlf)];exact s3 b o e
      · rw [upd_ne nlr,upd_same,← List.map_set]
      · rw [upd_same,map_snoc]
    · intro σ H' zz2
      refine byC fun hG=>?_
      obtain ⟨s3,hlf3,hr3,x1,x2,x3,x4,x5,x6,rfl⟩:=zz2
      refine hG ?_
      rw [hlen] at hr3 hlf3
      refine ⟨_,rfl,_,rfl,by show 2≤sizeLine;decide,fun p hp=>?_⟩
      have sp':=same_upd (o:=.tup [.ref r,.ref lf]) hp
      exact kk p r lf _ hr0 hlf nlr.symm (s3.trans sp') (SqT.of upd_same) (sp' _ _ hr3) (sp' _ _ hlf3)
def sp__law_come (K:Frag):Sp:=fun vs H Q _=>∃ (cv lo sp ac:Addr) (us:List V) (cs:List Row) (ls:List Int) (ss:List Addr) (acc:List Int) (h:Nat),vs=[.ref cv,.ref lo,.ref sp,.ref ac]∧SqL K H cv us∧CovsAt K H us cs∧SqL K H lo (ls.map V.int)∧SqL K H sp (ss.map V.ref)∧SplitsAt H cs ss∧SqL K H ac (acc.map V.int)∧AccOk cs acc∧GoodT h cs ls∧
  ∀ r H',H r=none→Same H H'→H' r=some (.lst ((comeL cs ls acc).map V.int))→Q (.ref r) H'
theorem sc__law_come:FnScope ["_law_covers", "_law_losses_here", "_law_splits_here", "_law_account", "_law_here", "_law_asks", "_law_k"] ["_law_covers", "_law_losses_here", "_law_splits_here", "_law_account"] (defScope s__law_come):=⟨rfl,rfl,rfl,by decide +kernel,rfl,by decide +kernel,by decide +kernel⟩
set_option maxHeartbeats 4000000 in
theorem ok__law_come (T:Txt w K mg A):FnOk P w K mg base CX0 3 A.a__law_come A.f__law_come ["_law_covers", "_law_losses_here", "_law_splits_here", "_law_account"] (sp__law_come K):=by
  have nd:=sc__law_come.nd
  have G__law_passed:=ok__law_passed (P:=P) (w:=w) (base:=base) T
  refine T.F__law_come.ok sc__law_come (fun vs H Q E h=>?_) (fun cdv Ar outer s H vs Q E hr h=>?_)
  · obtain ⟨cv,lo,sp,ac,us,cs,ls,ss,acc,h,rfl,_⟩:=h;rfl
  · skip
    obtain ⟨cv,lo,sp,ac,us,cs,ls,ss,acc,h,rfl,hcv,hcs,hlo,hsp,hss,hac,hA,g,kk⟩:=h
    refine PSs.rd (pss_cons (ps_set (i:=4) nd rfl (Or.inl rfl) (pe_callTy call_list_of rfl T.b_list boot_ty_list (pa_cons (pvI 3) pa_nil)))
    (pss_cons (ps_set (i:=5) nd rfl (Or.inl rfl) (pe_ix (ix_tupI K rfl) (pe_call (G__law_passed.mono (by decide)) hr rfl T.m__law_passed T.k__law_passed T.d__law_passed .nil pass0 (pa_cons (pvI 0) (pa_cons (pvI 1) (pa_cons (pvI 2) (pa_cons (pvI 4) pa_nil))))) pe_int (fun _ _=>rfl)))
    (pss_cons (ps_for PassesOwn.never rfl (pi_range1 rfl T.b_range (pa_cons pe_int pa_nil)) (pg_name (i:=6) nd rfl (Or.inl rfl))
      (pss_one (ps_if (pt_cmpR (op_neL hr.units) (pvI 5) (pvI 4) (nomark _))
         (pss_cons (ps_set (i:=4) nd rfl (Or.inl rfl) (pvI 5))
          (pss_one (ps_set (i:=5) nd rfl (Or.inl rfl) (pe_ix (ix_tupI K rfl) (pe_call (G__law_passed.mono (by decide)) hr rfl T.m__law_passed T.k__law_passed T.d__law_passed .nil pass0 (pa_cons (pvI 0) (pa_cons (pvI 1) (pa_cons (pvI 2) (pa_cons (pvI 4) pa_nil))))) pe_int (fun _ _=>rfl)))))
         pss_nil)))
    (pss_one (ps_ret (pvI 4)))))) ?_
    try dsimp only [L2.cxOf,L2.Cx.nox]
    refine ⟨_,rfl,ac,_,rfl,.inl hac,fun he hhe=>?_⟩
    have se:=same_upd (o:=.lst (acc.map V.int)) hhe
    refine ⟨_,rfl,_,rfl,_,rfl,_,rfl,cv,lo,sp,he,us,cs,ls,ss,acc,h,rfl,se.seq hcv,hcs.same se,se.seq hlo,se.seq hsp,hss.same se,SqL.of upd_same,hA,g,fun p r lf H2 hr hlf nrl s2 hp hr2 hlf2=>?_⟩
    refine ⟨p,_,0,_,rfl,rfl,hp,rfl,?_⟩
    refine ⟨241,rfl,by decide,by decide,?_⟩
    refine for_range (n:=241) (fun k σ H'=>∃ (b w2:Addr) (x:Option V),σ=[some (.ref cv),some (.ref lo),some (.ref sp),some (.ref ac),some (.ref b),some (.ref w2),x]∧Same H H'∧H b=none∧H' b=some (.lst ((iterL cs ls acc k).map V.int))∧H w2=none∧H' w2=some (.lst ((iterL cs ls acc (k+1)).map V.int))) ⟨he,r,none,rfl,se.trans s2,hhe,s2 _ _ upd_same,se.free hr,hr2⟩ ?_ ?_
    · intro k σ H' hk zz1
      refine byC fun hG=>?_
      obtain ⟨b,w2,x,rfl,s3,hb,hb3,hw,hw3⟩:=zz1
      refine hG ?_
      refine ⟨_,rfl,_,rfl,w2,b,_,_,rfl,rfl,SqL.of hw3,SqL.of hb3,_,rfl,iteND (fun hne=>?_) (fun heq=>?_)⟩
      · refine ⟨_,rfl,_,rfl,_,rfl,_,rfl,_,rfl,cv,lo,sp,w2,us,cs,ls,ss,_,h,rfl,s3.seq hcv,hcs.same s3,s3.seq hlo,s3.seq hsp,hss.same s3,SqL.of hw3,iter_ok g hA (k+1),g,fun p' r' lf' H4 hr' hlf' nrl' s4 hp' hr4 hlf4=>?_⟩
        refine ⟨p',_,0,_,rfl,rfl,hp',rfl,?_⟩
        exact ⟨w2,r',_,rfl,s3.trans s4,hw,s4 _ _ hw3,s3.free hr',hr4⟩
      · refine ⟨b,w2,_,rfl,s3,hb,?_,hw,?_⟩
        · rw [hb3,heq]
        · rw [hw3]
          have e2:=iter_fix heq 2
          have e1:=iter_fix heq 1
          rw [show k+1+1=k+2 from rfl,e2,e1]
    · intro σ H' zz2
      refine byC fun hG=>?_
      obtain ⟨b,w2,x,rfl,s3,hb,hb3,hw,hw3⟩:=zz2
      refine hG ?_
      exact ⟨_,rfl,kk b H' hb s3 hb3⟩
def sp__law_least (K:Frag):Sp:=fun vs H Q _=>∃ (cv lo sp:Addr) (us:List V) (cs:List Row) (ls:List Int) (ss:List Addr) (h:Nat),vs=[.ref cv,.ref lo,.ref sp]∧SqL K H cv us∧CovsAt K H us cs∧SqL K H lo (ls.map V.int)∧SqL K H sp (ss.map V.ref)∧SplitsAt H cs ss∧GoodT h cs ls∧
  ∀ r H',H r=none→Same H H'→H' r=some (.lst ((comeL cs ls (List.replicate cs.length 0)).map V.int))→Q (.ref r) H'
theorem sc__law_least:FnScope ["_law_covers", "_law_losses_here", "_law_splits_here"] ["_law_covers", "_law_losses_here", "_law_splits_here"] (defScope s__law_least):=⟨rfl,rfl,rfl,by decide +kernel,rfl,by decide +kernel,by decide +kernel⟩
set_option maxHeartbeats 4000000 in
theorem ok__law_least (T:Txt w K mg A):FnOk P w K mg base CX0 4 A.a__law_least A.f__law_least ["_law_covers", "_law_losses_here", "_law_splits_here"] (sp__law_least K):=by
  have nd:=sc__law_least.nd
  have G__law_come:=ok__law_come (P:=P) (w:=w) (base:=base) T
  refine T.F__law_least.ok sc__law_least (fun vs H Q E h=>?_) (fun cdv Ar outer s H vs Q E hr h=>?_)
  · obtain ⟨cv,lo,sp,us,cs,ls,ss,h,rfl,_⟩:=h;rfl
  · skip
    obtain ⟨cv,lo,sp,us,cs,ls,ss,h,rfl,hcv,hcs,hlo,hsp,hss,g,kk⟩:=h
    have hlen:=hcs.len
    have g10:=g.c10
    refine PSs.rd (pss_one (ps_ret (pe_call (G__law_come.mono (by decide)) hr rfl T.m__law_come T.k__law_come T.d__law_come .nil pass0 (pa_cons (pvI 0) (pa_cons (pvI 1) (pa_cons (pvI 2) (pa_cons (pe_op op_rep (pe_lst (pa_cons pe_int pa_nil)) (pe_callB call_len_seq rfl T.b_len PySem.boot_len (pa_cons (pvI 0) pa_nil))) pa_nil))))))) ?_
    try dsimp only [L2.cxOf,L2.Cx.nox]
    refine ⟨_,rfl,_,rfl,_,rfl,by show 1≤sizeLine;decide,fun z hz=>?_⟩
    have sz:=same_upd (o:=.lst [V.int 0]) hz
    refine ⟨_,rfl,cv,us,rfl,.inl (sz.seq hcv),z,_,_,rfl,rfl,upd_same,by omega,by omega,?_,fun b hb=>?_⟩
    · exact Nat.le_of_lt (small_line (by show 1 * ((us.length:Nat):Int).toNat≤100000;omega))
    have enl:((us.length:Nat):Int).toNat=cs.length:=by omega
    rw [enl,flat_rep]
    have sb:=sz.trans (same_upd (o:=.lst ((List.replicate cs.length (0:Int)).map V.int)) hb)
    exact ⟨cv,lo,sp,b,us,cs,ls,ss,_,h,rfl,sb.seq hcv,hcs.same sb,sb.seq hlo,sb.seq hsp,hss.same sb,SqL.of upd_same,acc_zero g,g,fun r H' hr s e=>kk r H' (sb.free hr) (sb.trans s) e⟩
def sp__law_view (K:Frag) (A:Adr):Sp:=fun vs H Q _=>∃ (t:Addr) (h:Nat) (cs:List Row) (ls:List Int),vs=[.ref t]∧TabAt A.c_Table K H t h cs ls∧(∀ x∈ls,x≤9998)∧
  ∀ (r o lo:Addr) (xs ys:List V) (st:List (Int×Int)) (two:List Nat) (three:List (Option (List Int))) (H':Hp),Same H H'→ViewP cs ls h st two three→DV K H' (.ref r) (vdat cs ls h st two three)→SqT K H' r (.ref o :: xs)→SqT K H' o (.ref lo :: ys)→SqL K H' lo ((leastL cs ls).map V.int)→Q (.ref r) H'
theorem sc__law_view:FnScope ["_law_table", "_law_low", "_law_many", "_law_houses", "_law_one", "_law_two", "_law_three"] ["_law_table"] (defScope s__law_view):=⟨rfl,rfl,rfl,by decide +kernel,rfl,by decide +kernel,by decide +kernel⟩
set_option maxHeartbeats 4000000 in
theorem ok__law_view (T:Txt w K mg A):FnOk P w K mg base CX0 9 A.a__law_view A.f__law_view ["_law_table"] (sp__law_view K A):=by
  have nd:=sc__law_view.nd
  have G_Table_houses:=ok_Table_houses (P:=P) (w:=w) (base:=base) T
  have G_falls:=ok_falls (P:=P) (w:=w) (base:=base) T
  have G_greatest:=ok_greatest (P:=P) (w:=w) (base:=base) T
  have G_hangs:=ok_hangs (P:=P) (w:=w) (base:=base) T
  have G_kept:=ok_kept (P:=P) (w:=w) (base:=base) T
  have G_least:=ok_least (P:=P) (w:=w) (base:=base) T
  have G_road:=ok_road (P:=P) (w:=w) (base:=base) T
  have G_spin:=ok_spin (P:=P) (w:=w) (base:=base) T
  have G_steps:=ok_steps (P:=P) (w:=w) (base:=base) T
  refine T.F__law_view.ok sc__law_view (fun vs H Q E h=>?_) (fun cdv Ar outer s H vs Q E hr h=>?_)
  · obtain ⟨t,h,cs,ls,rfl,_⟩:=h;rfl
  · skip
    obtain ⟨t,h,cs,ls,rfl,hT,h9,kk⟩:=h
    have g:=hT.good
    have g10:=g.c10
    have gll:=g.ll
    have g1:=g.h1
    have g6:=g.h6
    refine PSs.rd (pss_cons (ps_set (i:=1) nd rfl (Or.inl rfl) (pe_call (G_least.mono (by decide)) hr rfl T.m_least T.k_least T.d_least .nil pass0 (pa_cons (pvI 0) pa_nil)))
    (pss_cons (ps_set (i:=2) nd rfl (Or.inl rfl) (pe_callB call_len_seq rfl T.b_len PySem.boot_len (pa_cons (pvI 1) pa_nil)))
    (pss_cons (ps_set (i:=3) nd rfl (Or.inl rfl) (pe_meth0 (pvI 0) T.cl_Table T.me_Table_houses (G_Table_houses.mono (by decide)) hr T.d_Table_houses .nil pass0))
    (pss_cons (ps_set (i:=4) nd rfl (Or.inl rfl) (pe_tup (pa_cons (pvI 1) (pa_cons (pe_call (G_greatest.mono (by decide)) hr rfl T.m_greatest T.k_greatest T.d_greatest .nil pass0 (pa_cons (pvI 0) pa_nil)) (pa_cons (pe_call (G_spin.mono (by decide)) hr rfl T.m_spin T.k_spin T.d_spin .nil pass0 (pa_cons (pvI 0) pa_nil)) (pa_cons (pe_call (G_steps.mono (by decide)) hr rfl T.m_steps T.k_steps T.d_steps .nil pass0 (pa_cons (pvI 0) pa_nil)) (pa_cons (pe_call (G_kept.mono (by decide)) hr rfl T.m_kept T.k_kept T.d_kept .nil pass0 (pa_cons (pvI 0) (pa_cons (pvI 1) pa_nil))) pa_nil)))))))
    (pss_cons (lcS (defScope s__law_view) 5 nd (pi_range1 rfl T.b_range (pa_cons (pe_callB (call_min2 rfl) rfl T.b_min boot_min (pa_cons pe_int (pa_cons (pvI 3) pa_nil))) pa_nil)) (fun _ _ _ _ _=>pgc 1) (fun _ _ _ _ _=>pts_nil) (fun _ _ _ _ _=>(pe_call (G_falls.mono (by decide)) hr rfl T.m_falls T.k_falls T.d_falls .nil pass0 (pa_cons (pvI 3) (pa_cons (pvI 1) pa_nil)))))
    (pss_cons (lcS (defScope s__law_view) 6 nd (pi_range1 rfl T.b_range (pa_cons (pe_callB (call_min2 rfl) rfl T.b_min boot_min (pa_cons pe_int (pa_cons (pvI 2) pa_nil))) pa_nil)) (fun _ _ _ _ _=>pgc 1) (fun _ _ _ _ _=>pts_nil) (fun _ _ _ _ _=>(pe_call (G_road.mono (by decide)) hr rfl T.m_road T.k_road T.d_road .nil pass0 (pa_cons (pvI 3) (pa_cons (pvI 1) pa_nil)))))
    (pss_one (ps_ret (pe_tup (pa_cons (pvI 4) (pa_cons (pvI 5) (pa_cons (pvI 6) (pa_cons (pe_call (G_hangs.mono (by decide)) hr rfl T.m_hangs T.k_hangs T.d_hangs .nil pass0 (pa_cons (pvI 0) (pa_cons (pe_op op_subI (pvI 3) pe_int) pa_nil))) pa_nil))))))))))))) ?_
    try dsimp only [L2.cxOf,L2.Cx.nox]
    rw [show ∀ v0:V,L2.start ["_law_table", "_law_low", "_law_many", "_law_houses", "_law_one", "_law_two", "_law_three"] [v0]=[some v0,none,none,none,none,none,none] from fun _=>rfl]
    refine ⟨_,rfl,t,h,cs,ls,rfl,hT,fun lo H1 hlo s1 hlo1=>?_⟩
    replace hlo1:H1 lo=some (.lst ((leastL cs ls).map V.int)):=hlo1
    have lel:=(least_ok g).len
    have hT1:=hT.same s1
    try dsimp only [List.set_cons_zero,List.set_cons_succ]
    refine ⟨_,rfl,lo,_,rfl,.inl (SqL.of hlo1),?_⟩
    refine byC fun hG=>?_
    obtain ⟨dx,a0,b0,c0,us0,qs0,ht,_⟩:=hT1.ex
    refine hG ?_
    refine ⟨_,rfl,t,dx,_,rfl,ht,tabF_no (by decide +kernel) (by decide +kernel) (by decide +kernel) (by decide +kernel),t,h,cs,ls,rfl,hT1,?_⟩
    rw [List.length_map,lel]
    try dsimp only [List.set_cons_zero,List.set_cons_succ]
    refine ⟨_,rfl,_,rfl,t,h,cs,ls,rfl,hT1,fun gr H2 hgr s2 hgr2=>?_⟩
    refine ⟨_,rfl,t,h,cs,ls,rfl,hT1.same s2,fun sp H3 hsp s3 hsp3=>?_⟩
    have t3:=s2.trans s3
    refine ⟨_,rfl,t,h,cs,ls,rfl,hT1.same t3,fun sr us st H4 hsr s4 hsr4 hst4 hwk hsl hSt=>?_⟩
    have t4:=t3.trans s4
    refine ⟨_,rfl,_,rfl,t,lo,h,cs,ls,leastL cs ls,rfl,hT1.same t4,SqL.of (t4 _ _ hlo1),least_ok g,least_fix g,fun ke H5 hke s5 hke5=>?_⟩
    have t5:=t4.trans s5
    refine ⟨by show 5≤sizeLine;decide,fun o ho=>?_⟩
    have s6:=same_upd (o:=.tup [.ref lo,.ref gr,.ref sp,.ref sr,.ref ke]) ho
    have ho6:=upd_same (H:=H5) (a:=o) (o:=.tup [.ref lo,.ref gr,.ref sp,.ref sr,.ref ke])
    generalize upd H5 o (.tup [.ref lo,.ref gr,.ref sp,.ref sr,.ref ke])=H6 at *
    have dv1:DV K H6 (.ref o) (.tuple [.list ((leastL cs ls).map PyData.int),.list ((comeL cs ls (mostsL cs)).map PyData.int),.list ((spinL cs ls).map PyData.int),.list (st.map pairD),.list ((keptL cs ls (leastL cs ls)).map PyData.int)]):=
      .tup (SqT.of ho6) (.cons (.lst (SqL.of ((t5.trans s6) _ _ hlo1)) (.ints _)) (.cons (.lst (SqL.of ((s3.trans (s4.trans (s5.trans s6))) _ _ hgr2)) (.ints _)) (.cons (.lst (SqL.of ((s4.trans (s5.trans s6)) _ _ hsp3)) (.ints _)) (.cons (.lst (SqL.of ((s5.trans s6) _ _ hsr4)) (dvs_pairs (hst4.same (s5.trans s6)).toAt)) (.cons (.lst (SqL.of (s6 _ _ hke5)) (.ints _)) .nil)))))
    have t6:=t5.trans s6
    have hlo6:=t6 _ _ hlo1
    have hT6:=hT1.same t6
    have hs06:=s1.trans t6
    try dsimp only [List.set_cons_zero,List.set_cons_succ]
    refine ⟨_,rfl,2,(h:Int),rfl,_,rfl,by split <;> omega,by split <;> omega,?_⟩
    rw [show (if (h:Int) < 2 then (h:Int) else 2).toNat=min 2 h from by split <;> omega]
    refine lc_growD (itG_range (H:=H6) (lo:=0) (n:=min 2 h)) (fun σ=>∃ x0 x1 x2,σ=[x0,x1,x2,some (.ref t)]) (fun D i ys H'=>∃ two:List Nat,two.length=i∧ys=two.map (fun f:Nat=>V.int (f:Int))∧∀ k f,two[k]? = some f→FallP h cs ls k f) ⟨_,_,_,rfl⟩ (Nat.le_of_lt (small_line (by omega))) (fun D H2=>⟨[],rfl,rfl,fun k f e=>by simp at e⟩) (fun D i ys H2 H3 q s=>q) (fun D i ys zs H2 o e q=>q) ?_ ?_
    · intro D i x ys σ2 H7 Qt Qf hi hyl zz1 hD s7 zz2 zz3 q
      refine byC fun hG=>?_
      subst zz1
      obtain ⟨x0,x1,x2,rfl⟩:=zz2
      obtain ⟨two,l2,rfl,hf⟩:=zz3
      have ei:(0+(i:Nat):Int)=((i:Nat):Int):=by omega
      refine hG ?_
      rw [ei]
      have hil:i < ls.length:=by omega
      refine ⟨_,rfl,_,rfl,t,h,cs,ls,i,rfl,hT6.same s7,by omega,by have:=h9 _ (getD_mem hil);omega,fun f H8 hfh ef s8=>?_⟩
      exact q _ _ _ ⟨_,_,_,rfl⟩ s8 ⟨two ++ [f],by rw [List.length_append,l2];rfl,by rw [List.map_append];rfl,at_snoc hf ⟨hfh,by rw [l2];exact ef⟩⟩
    intro W2 H7 ys hW2 s7 hW27 hyl zz4
    refine byC fun hG=>?_
    obtain ⟨two,l2,rfl,hf⟩:=zz4
    refine hG ?_
    try dsimp only [List.set_cons_zero,List.set_cons_succ]
    refine ⟨_,rfl,3,(cs.length:Int),rfl,_,rfl,by split <;> omega,by split <;> omega,?_⟩
    rw [show (if (cs.length:Int) < 3 then (cs.length:Int) else 3).toNat=min 3 cs.length from by split <;> omega]
    have hT7:=hT6.same s7
    refine lc_growD (itG_range (H:=H7) (lo:=0) (n:=min 3 cs.length)) (fun σ=>∃ x0 x1 x2,σ=[x0,x1,x2,some (.ref t)]) (fun D i ys H'=>∃ three:List (Option (List Int)),three.length=i∧OptsR D H' ys three∧∀ k f,three[k]? = some f→RoadO cs ls k f) ⟨_,_,_,rfl⟩ (Nat.le_of_lt (small_line (by omega))) (fun D H2=>⟨[],rfl,.nil,fun k f e=>by simp at e⟩) (fun D i ys H2 H3 ⟨th,a1,a2,a3⟩ s=>⟨th,a1,a2.same s,a3⟩) (fun D i ys zs H2 o e ⟨th,a1,a2,a3⟩=>⟨th,a1,a2.updD,a3⟩) ?_ ?_
    · intro D i x ys σ2 H8 Qt Qf hi hyl zz5 hD s8 zz6 zz7 q
      refine byC fun hG=>?_
      subst zz5
      obtain ⟨x0,x1,x2,rfl⟩:=zz6
      obtain ⟨th,l3,hO,hf3⟩:=zz7
      have ei:(0+(i:Nat):Int)=((i:Nat):Int):=by omega
      refine hG ?_
      rw [ei]
      refine ⟨_,rfl,_,rfl,t,h,cs,ls,i,rfl,hT7.same s8,by omega,fun h0 H9 s9=>?_,fun h0 r rd j H9 hr s9 hr9 _ _ _ hRP=>?_⟩
      · exact q _ _ _ ⟨_,_,_,rfl⟩ s9 ⟨th ++ [none],by rw [List.length_append,l3];rfl,(hO.same s9).non,at_snoc hf3 (by rw [l3];exact h0)⟩
      · exact q _ _ _ ⟨_,_,_,rfl⟩ s9 ⟨th ++ [some rd],by rw [List.length_append,l3];rfl,(hO.same s9).lst (fun z=>by rw [z,hD] at hr;cases hr) hr9,at_snoc hf3 (by rw [l3];exact ⟨h0,hRP⟩)⟩
    intro W3 H8 ys hW3 s8 hW38 hyl3 zz8
    refine byC fun hG=>?_
    obtain ⟨th,l3,hO,hf3⟩:=zz8
    refine hG ?_
    try dsimp only [List.set_cons_zero,List.set_cons_succ]
    have t8:=s7.trans s8
    refine ⟨_,rfl,_,rfl,_,rfl,_,rfl,_,rfl,_,_,rfl,rfl,t,h,cs,ls,h - 1,?_,hT6.same t8,by omega,fun hg H9 hhg s9 hhg9=>?_⟩
    · have:((h:Nat):Int) - 1=((h - 1:Nat):Int):=by omega
      rw [this];rfl
    refine ⟨by show 4≤sizeLine;decide,fun r hr=>?_⟩
    have s10:=same_upd (o:=.tup [.ref o,.ref W2,.ref W3,.ref hg]) hr
    have hr10:=upd_same (H:=H9) (a:=r) (o:=.tup [.ref o,.ref W2,.ref W3,.ref hg])
    generalize upd H9 r (.tup [.ref o,.ref W2,.ref W3,.ref hg])=H10 at *
    have t10:=t8.trans (s9.trans s10)
    have q2:DVs K H10 (two.map fun f:Nat=>V.int (f:Int)) ((two.map fun f:Nat=>(f:Int)).map PyData.int):=by
      have:=DVs.ints (K:=K) (H:=H10) (two.map fun f:Nat=>(f:Int))
      rwa [List.map_map] at this
    exact kk r o lo _ _ st two th H10 (hs06.trans t10) ⟨hSt,l2,hf,l3,hf3⟩ (.tup (SqT.of hr10) (.cons (dv_up t10 dv1) (.cons (.lst (SqL.of ((s8.trans (s9.trans s10)) _ _ hW27)) q2) (.cons (.lst (SqL.of ((s9.trans s10) _ _ hW38)) (dvs_up (s9.trans s10) hO.dvs)) (.cons (.lst (SqL.of (s10 _ _ hhg9)) (.ints _)) .nil))))) (SqT.of hr10) (SqT.of (t10 _ _ ho6)) (SqL.of (t10 _ _ hlo6))
def sp_law (K:Frag):Sp:=fun vs H Q _=>∃ (a:Addr) (ns:List Int),vs=[.ref a]∧SqL K H a (ns.map V.int)∧ns.length≤63∧∀ H',Q (.bl true) H'
theorem sc_law:FnScope ["_law_script", "_law_draws_here", "_law_houses", "_law_covers", "_law_losses_here", "_law_rows_here", "_law_others", "_law_one", "_law_two", "_law_first", "_law_second"] ["_law_script"] (defScope s_law):=⟨rfl,rfl,rfl,by decide +kernel,rfl,by decide +kernel,by decide +kernel⟩
set_option maxHeartbeats 0 in
theorem ok_law (T:Txt w K mg A):FnOk P w K mg base CX0 10 A.a_law A.f_law ["_law_script"] (sp_law K):=by
  have nd:=sc_law.nd
  have G_Table___init__:=ok_Table___init__ (P:=P) (w:=w) (base:=base) T
  have G__law_draws:=ok__law_draws (P:=P) (w:=w) (base:=base) T
  have G__law_least:=ok__law_least (P:=P) (w:=w) (base:=base) T
  have G__law_losses:=ok__law_losses (P:=P) (w:=w) (base:=base) T
  have G__law_made:=ok__law_made (P:=P) (w:=w) (base:=base) T
  have G__law_rows:=ok__law_rows (P:=P) (w:=w) (base:=base) T
  have G__law_splits:=ok__law_splits (P:=P) (w:=w) (base:=base) T
  have G__law_view:=ok__law_view (P:=P) (w:=w) (base:=base) T
  refine T.F_law.ok sc_law (fun vs H Q E h=>?_) (fun cdv Ar outer s H vs Q E hr h=>?_)
  · obtain ⟨a,ns,rfl,_⟩:=h;rfl
  · skip
    obtain ⟨a,ns,rfl,hS,hl,kk⟩:=h
    refine PSs.rd (pss_cons (ps_set (i:=1) nd rfl (Or.inl rfl) (pe_call (G__law_draws.mono (by decide)) hr rfl T.m__law_draws T.k__law_draws T.d__law_draws .nil pass0 (pa_cons (pvI 0) (pa_cons pe_int pa_nil))))
    (pss_cons (ps_asg (pe_call (G__law_made.mono (by decide)) hr rfl T.m__law_made T.k__law_made T.d__law_made .nil pass0 (pa_cons (pvI 1) pa_nil)) (pg_tup (n:=3) rfl (pgs_cons (pg_name (i:=2) nd rfl (Or.inl rfl)) (pgs_cons (pg_name (i:=3) nd rfl (Or.inl rfl)) (pgs_cons (pg_name (i:=4) nd rfl (Or.inl rfl)) pgs_nil)))))
    (pss_cons (ps_set (i:=5) nd rfl (Or.inl rfl) (pvI 3))
    (pss_cons (ps_set (i:=6) nd rfl (Or.inl rfl) (pe_call (G__law_losses.mono (by decide)) hr rfl T.m__law_losses T.k__law_losses T.d__law_losses .nil pass0 (pa_cons (pvI 2) (pa_cons (pe_slice sl_list (pvI 1) (po_some pe_int) (po_some pe_int)) pa_nil))))
    (pss_cons (ps_cut (ps_if (pt_cmpR op_eq (pe_op op_modI (pe_ix (ix_listI K rfl) (pvI 1) pe_int (fun _ _=>rfl)) pe_int) pe_int (nomark _))
      (pss_cons (ps_set (i:=5) nd rfl (Or.inl rfl) (pe_call (G__law_rows.mono (by decide)) hr rfl T.m__law_rows T.k__law_rows T.d__law_rows .nil pass0 (pa_cons (pvI 2) (pa_cons (pe_slice sl_list (pvI 1) (po_some pe_int) (po_some pe_int)) pa_nil))))
       (pss_one (ps_set (i:=6) nd rfl (Or.inl rfl) (pvI 4))))
      pss_nil))
    (pss_cons (ps_set (i:=7) nd rfl (Or.inl rfl) (pe_make T.mk_Table (G_Table___init__.mono (by decide)) hr rfl T.mc_Table T.d_Table___init__ .nil pass0 (pa_cons (pvI 2) (pa_cons (pe_callTy call_list_of rfl T.b_list boot_ty_list (pa_cons (pvI 3) pa_nil)) (pa_cons (pe_callTy call_list_of rfl T.b_list boot_ty_list (pa_cons (pvI 4) pa_nil)) pa_nil)))))
    (pss_cons (ps_set (i:=8) nd rfl (Or.inl rfl) (pe_make T.mk_Table (G_Table___init__.mono (by decide)) hr rfl T.mc_Table T.d_Table___init__ .nil pass0 (pa_cons (pvI 2) (pa_cons (pe_callTy call_list_of rfl T.b_list boot_ty_list (pa_cons (pvI 5) pa_nil)) (pa_cons (pe_callTy call_list_of rfl T.b_list boot_ty_list (pa_cons (pvI 6) pa_nil)) pa_nil)))))
    (pss_cons (ps_set (i:=9) nd rfl (Or.inl rfl) (pe_call (G__law_view.mono (by decide)) hr rfl T.m__law_view T.k__law_view T.d__law_view .nil pass0 (pa_cons (pvI 7) pa_nil)))
    (pss_cons (ps_set (i:=10) nd rfl (Or.inl rfl) (pe_call (G__law_view.mono (by decide)) hr rfl T.m__law_view T.k__law_view T.d__law_view .nil pass0 (pa_cons (pvI 8) pa_nil)))
    (pss_cons (ps_if (PW.pt (pw_or (pt_cmpR (op_neD (u64 hr)) (pe_call (G__law_view.mono (by decide)) hr rfl T.m__law_view T.k__law_view T.d__law_view .nil pass0 (pa_cons (pvI 7) pa_nil)) (pvI 9) (nomark _)) (pw_or1 (pt_cmpR (op_neD (u64 hr)) (pe_call (G__law_view.mono (by decide)) hr rfl T.m__law_view T.k__law_view T.d__law_view .nil pass0 (pa_cons (pvI 8) pa_nil)) (pvI 10) (nomark _)))))
      (pss_one (ps_ret pe_bl))
      pss_nil)
    (pss_cons (ps_if (pt_cmpR (op_neD (u64 hr)) (pe_call (G__law_view.mono (by decide)) hr rfl T.m__law_view T.k__law_view T.d__law_view .nil pass0 (pa_cons (pe_make T.mk_Table (G_Table___init__.mono (by decide)) hr rfl T.mc_Table T.d_Table___init__ .nil pass0 (pa_cons (pvI 2) (pa_cons (pe_callTy call_list_of rfl T.b_list boot_ty_list (pa_cons (pvI 5) pa_nil)) (pa_cons (pe_callTy call_list_of rfl T.b_list boot_ty_list (pa_cons (pvI 6) pa_nil)) pa_nil)))) pa_nil)) (pvI 10) (nomark _))
      (pss_one (ps_ret pe_bl))
      pss_nil)
    (pss_cons (ps_if (pt_cmpR (op_neL hr.units) (pe_ix (ix_tupI K rfl) (pe_ix (ix_tupI K rfl) (pvI 9) pe_int (fun _ _=>rfl)) pe_int (fun _ _=>rfl)) (pe_call (G__law_least.mono (by decide)) hr rfl T.m__law_least T.k__law_least T.d__law_least .nil pass0 (pa_cons (pvI 3) (pa_cons (pvI 4) (pa_cons (pe_call (G__law_splits.mono (by decide)) hr rfl T.m__law_splits T.k__law_splits T.d__law_splits .nil pass0 (pa_cons (pvI 3) pa_nil)) pa_nil)))) (nomark _))
      (pss_one (ps_ret pe_bl))
      pss_nil)
    (pss_one (ps_ret (pe_cmpR (op_eqD (u64 hr)) (pe_call (G__law_view.mono (by decide)) hr rfl T.m__law_view T.k__law_view T.d__law_view .nil pass0 (pa_cons (pe_make T.mk_Table (G_Table___init__.mono (by decide)) hr rfl T.mc_Table T.d_Table___init__ .nil pass0 (pa_cons (pvI 2) (pa_cons (pe_callTy call_list_of rfl T.b_list boot_ty_list (pa_cons (pvI 3) pa_nil)) (pa_cons (pe_callTy call_list_of rfl T.b_list boot_ty_list (pa_cons (pvI 4) pa_nil)) pa_nil)))) pa_nil)) (pvI 9) (nomark _)))))))))))))))) ?_
    try dsimp only [L2.cxOf,L2.Cx.nox]
    rw [show ∀ v0:V,L2.start ["_law_script", "_law_draws_here", "_law_houses", "_law_covers", "_law_losses_here", "_law_rows_here", "_law_others", "_law_one", "_law_two", "_law_first", "_law_second"] [v0]=[some v0,none,none,none,none,none,none,none,none,none,none] from fun _=>rfl]
    refine ⟨_,rfl,a,ns,210,rfl,hS,hl,by decide,fun dh ds H1 _ s1 hd1 hdl hD=>?_⟩
    refine byC fun hG=>?_
    obtain ⟨d108,D108,i108⟩:=draw_at hD (i:=108) (by omega)
    refine hG ?_
    refine ⟨_,rfl,dh,ds,rfl,SqL.of hd1,by omega,hD,fun p r lo h us cs ls H2 s2 hp hr hlo nrl hr2 hcs hlo2 g hlow=>?_⟩
    have g10:=g.c10
    have g1:=g.h1
    have g6:=g.h6
    have hd2:=s2 _ _ hd1
    refine ⟨p,_,rfl,hp,rfl,_,_,rfl,_,_,rfl,_,_,rfl,rfl,?_⟩
    try dsimp only [List.set_cons_zero,List.set_cons_succ]
    refine ⟨_,rfl,?_⟩
    try dsimp only [List.set_cons_zero,List.set_cons_succ]
    refine ⟨_,rfl,_,rfl,100,rfl,107,rfl,dh,_,rfl,SqL.of hd2,fun sl hsl=>?_⟩
    have ec:cutV (ds.map V.int) (some 100) (some 107)=((ds.drop 100).take (107 - 100)).map V.int:=cut_ints ds 100 107 (by omega) (by omega)
    rw [ec]
    have ssl:=same_upd (o:=.lst (((ds.drop 100).take (107 - 100)).map V.int)) hsl
    refine ⟨h,sl,_,rfl,g6,SqL.of upd_same,by rw [cut_len _ _ _ (by omega)],cut_in hD _ _,fun lo2 ls2 H4 hlo2f s4' hlo24 hll2 hlb2=>?_⟩
    have s24:=ssl.trans s4'
    have hd4:=s24 _ _ hd2
    have hr4:=s24 _ _ hr2
    have hlo4:=s24 _ _ hlo2
    have hcs4:=hcs.same s24
    try dsimp only [List.set_cons_zero,List.set_cons_succ]
    refine ⟨fun σ H'=>∃ (rr lo2:Addr) (us2:List V) (cs2:List Row) (ls2:List Int),σ=[some (.ref a),some (.ref dh),some (.int h),some (.ref r),some (.ref lo),some (.ref rr),some (.ref lo2),none,none,none,none]∧Same H4 H'∧H' rr=some (.lst us2)∧CovsAt K H' us2 cs2∧H' lo2=some (.lst (ls2.map V.int))∧GoodT h cs2 ls2∧∀ x∈ls2,x≤8964,?_,?_⟩
    · refine ⟨_,rfl,dh,_,108,_,rfl,rfl,SqL.of hd4,i108,_,_,rfl,rfl,pj,rfl,_,rfl,iteD (fun c1=>?_) (fun _=>⟨r,lo2,us,cs,ls2,rfl,Same.refl _,hr4,hcs4,hlo24,⟨g1,g6,g10,g.cov,hll2,fun x hx=>⟨(hlb2 x hx).1,by have:=(hlb2 x hx).2;omega⟩⟩,fun x hx=>(hlb2 x hx).2⟩)⟩
      refine ⟨_,rfl,_,rfl,109,rfl,200,rfl,dh,_,rfl,SqL.of hd4,fun sl3 hsl3=>?_⟩
      have ec3:cutV (ds.map V.int) (some 109) (some 200)=((ds.drop 109).take (200 - 109)).map V.int:=cut_ints ds 109 200 (by omega) (by omega)
      rw [ec3]
      have ssl3:=same_upd (o:=.lst (((ds.drop 109).take (200 - 109)).map V.int)) hsl3
      refine ⟨h,sl3,_,rfl,g1,g6,SqL.of upd_same,by rw [cut_len _ _ _ (by omega)],cut_in hD _ _,fun r3 us3 cs3 H5 hr3 s5 hr35 hcs35 hl3 hg3=>?_⟩
      have s45:=ssl3.trans s5
      try dsimp only [List.set_cons_zero,List.set_cons_succ]
      exact ⟨_,rfl,r3,lo,us3,cs3,ls,rfl,s45,hr35,hcs35,s45 _ _ hlo4,⟨g1,g6,hl3,hg3,g.ll,g.lb⟩,hlow⟩
    intro σ H5 zz1
    refine byC fun hG=>?_
    obtain ⟨rr,lo2,us2,cs2,ls2,rfl,s5,hrr5,hcs25,hlo25,g2,hlow2⟩:=zz1
    have hr5:=s5 _ _ hr4
    have hlo5:=s5 _ _ hlo4
    have hcs5:=hcs4.same s5
    have l98:∀ x∈ls,x≤9998:=fun x hx=>by have:=hlow x hx;omega
    have l98':∀ x∈ls2,x≤9998:=fun x hx=>by have:=hlow2 x hx;omega
    have gll:=g.ll
    have gll2:=g2.ll
    refine hG ?_
    clear hD hsl ec ssl s24 hd4 hr4 hlo4 hcs4 s5
    try dsimp only [List.set_cons_zero,List.set_cons_succ]
    have b5:=Same.refl H5
    refine ⟨_,rfl,_,rfl,r,us,rfl,.inl (SqL.of (b5 _ _ hr5)),fun x1a hx1a=>?_⟩
    have u1a:=same_upd (o:=.lst us) hx1a
    have w1a:=upd_same (H:=H5) (a:=x1a) (o:=.lst us)
    generalize upd H5 x1a (.lst us)=H6 at *
    have b6:=b5.trans u1a
    refine ⟨_,rfl,lo,_,rfl,.inl (SqL.of (b6 _ _ hlo5)),fun x1b hx1b=>?_⟩
    have u1b:=same_upd (o:=.lst (ls.map V.int)) hx1b
    have w1b:=upd_same (H:=H6) (a:=x1b) (o:=.lst (ls.map V.int))
    generalize upd H6 x1b (.lst (ls.map V.int))=H7 at *
    have b7:=b6.trans u1b
    refine fun t1 d1 ht1 hdx1 ndx1=>?_
    have m1:=make_pre (o1:=.ins A.c_Table d1 []) (o2:=.own t1) ht1 hdx1
    refine ⟨t1,d1,x1a,x1b,h,us,cs,ls,rfl,upd_same,SqL.of (m1 _ _ (u1b _ _ w1a)),hcs5.same (b7.trans m1),SqL.of (m1 _ _ w1b),g,fun H8 s8' hT1=>⟨rfl,?_⟩⟩
    have b8:=b7.trans (make_same ht1 hdx1 s8')
    try dsimp only [List.set_cons_zero,List.set_cons_succ]
    refine ⟨_,rfl,_,rfl,rr,us2,rfl,.inl (SqL.of (b8 _ _ hrr5)),fun x2a hx2a=>?_⟩
    have u2a:=same_upd (o:=.lst us2) hx2a
    have w2a:=upd_same (H:=H8) (a:=x2a) (o:=.lst us2)
    generalize upd H8 x2a (.lst us2)=H9 at *
    have b9:=b8.trans u2a
    refine ⟨_,rfl,lo2,_,rfl,.inl (SqL.of (b9 _ _ hlo25)),fun x2b hx2b=>?_⟩
    have u2b:=same_upd (o:=.lst (ls2.map V.int)) hx2b
    have w2b:=upd_same (H:=H9) (a:=x2b) (o:=.lst (ls2.map V.int))
    generalize upd H9 x2b (.lst (ls2.map V.int))=H10 at *
    have b10:=b9.trans u2b
    refine fun t2 d2 ht2 hdx2 ndx2=>?_
    have m2:=make_pre (o1:=.ins A.c_Table d2 []) (o2:=.own t2) ht2 hdx2
    refine ⟨t2,d2,x2a,x2b,h,us2,cs2,ls2,rfl,upd_same,SqL.of (m2 _ _ (u2b _ _ w2a)),hcs25.same (b10.trans m2),SqL.of (m2 _ _ w2b),g2,fun H11 s11' hT2=>⟨rfl,?_⟩⟩
    have b11:=b10.trans (make_same ht2 hdx2 s11')
    have hT1:=hT1.same ((u2a.trans u2b).trans (make_same ht2 hdx2 s11'))
    try dsimp only [List.set_cons_zero,List.set_cons_succ]
    refine ⟨_,rfl,t1,h,cs,ls,rfl,hT1,l98,fun v1 o1 lw1 xs1 ys1 st1 tw1 th1 H12 s12 vp1 dv1 vt1 vo1 vl1=>?_⟩
    have b12:=b11.trans s12
    have hT1:=hT1.same s12
    have hT2:=hT2.same s12
    try dsimp only [List.set_cons_zero,List.set_cons_succ]
    refine ⟨_,rfl,t2,h,cs2,ls2,rfl,hT2,l98',fun v2 o2 lw2 xs2 ys2 st2 tw2 th2 H13 s13 vp2 dv2 vt2 vo2 vl2=>?_⟩
    have b13:=b12.trans s13
    have hT1:=hT1.same s13
    have hT2:=hT2.same s13
    have dv1:=dv_up s13 dv1
    have vt1:=s13.tupS vt1
    have vo1:=s13.tupS vo1
    have vl1:=s13.seq vl1
    try dsimp only [List.set_cons_zero,List.set_cons_succ]
    refine ⟨_,rfl,t1,h,cs,ls,rfl,hT1,l98,fun v3 o3 lw3 xs3 ys3 st3 tw3 th3 H14 s14 vp3 dv3 vt3 vo3 vl3=>?_⟩
    have b14:=b13.trans s14
    have hT1:=hT1.same s14
    have hT2:=hT2.same s14
    have dv1:=dv_up s14 dv1
    have dv2:=dv_up s14 dv2
    have vt1:=s14.tupS vt1
    have vo1:=s14.tupS vo1
    have vl1:=s14.seq vl1
    refine ⟨_,rfl,neD_view dv3 dv1 (vp3.one gll vp1) (vdat_ok _ _ _ _ _ _) ?_⟩
    refine ⟨false,rfl,?_⟩
    show (if false=true then _ else _)
    rw [if_neg (by decide)]
    refine ⟨_,rfl,t2,h,cs2,ls2,rfl,hT2,l98',fun v4 o4 lw4 xs4 ys4 st4 tw4 th4 H15 s15 vp4 dv4 vt4 vo4 vl4=>?_⟩
    have b15:=b14.trans s15
    have hT1:=hT1.same s15
    have hT2:=hT2.same s15
    have dv1:=dv_up s15 dv1
    have dv2:=dv_up s15 dv2
    have vt1:=s15.tupS vt1
    have vo1:=s15.tupS vo1
    have vl1:=s15.seq vl1
    refine ⟨_,rfl,neD_view dv4 dv2 (vp4.one gll2 vp2) (vdat_ok _ _ _ _ _ _) ?_⟩
    refine ⟨false,rfl,?_⟩
    show (if false=true then _ else _)
    rw [if_neg (by decide)]
    refine ⟨_,rfl,_,rfl,rr,us2,rfl,.inl (SqL.of (b15 _ _ hrr5)),fun x3a hx3a=>?_⟩
    have u3a:=same_upd (o:=.lst us2) hx3a
    have w3a:=upd_same (H:=H15) (a:=x3a) (o:=.lst us2)
    generalize upd H15 x3a (.lst us2)=H16 at *
    have b16:=b15.trans u3a
    refine ⟨_,rfl,lo2,_,rfl,.inl (SqL.of (b16 _ _ hlo25)),fun x3b hx3b=>?_⟩
    have u3b:=same_upd (o:=.lst (ls2.map V.int)) hx3b
    have w3b:=upd_same (H:=H16) (a:=x3b) (o:=.lst (ls2.map V.int))
    generalize upd H16 x3b (.lst (ls2.map V.int))=H17 at *
    have b17:=b16.trans u3b
    refine fun t3 d3 ht3 hdx3 ndx3=>?_
    have m3:=make_pre (o1:=.ins A.c_Table d3 []) (o2:=.own t3) ht3 hdx3
    refine ⟨t3,d3,x3a,x3b,h,us2,cs2,ls2,rfl,upd_same,SqL.of (m3 _ _ (u3b _ _ w3a)),hcs25.same (b17.trans m3),SqL.of (m3 _ _ w3b),g2,fun H18 s18' hT3=>⟨rfl,?_⟩⟩
    have b18:=b17.trans (make_same ht3 hdx3 s18')
    have hT1:=hT1.same ((u3a.trans u3b).trans (make_same ht3 hdx3 s18'))
    have hT2:=hT2.same ((u3a.trans u3b).trans (make_same ht3 hdx3 s18'))
    have dv1:=dv_up ((u3a.trans u3b).trans (make_same ht3 hdx3 s18')) dv1
    have dv2:=dv_up ((u3a.trans u3b).trans (make_same ht3 hdx3 s18')) dv2
    have vt1:=((u3a.trans u3b).trans (make_same ht3 hdx3 s18')).tupS vt1
    have vo1:=((u3a.trans u3b).trans (make_same ht3 hdx3 s18')).tupS vo1
    have vl1:=((u3a.trans u3b).trans (make_same ht3 hdx3 s18')).seq vl1
    refine ⟨t3,h,cs2,ls2,rfl,hT3,l98',fun v5 o5 lw5 xs5 ys5 st5 tw5 th5 H19 s19 vp5 dv5 vt5 vo5 vl5=>?_⟩
    have b19:=b18.trans s19
    have hT1:=hT1.same s19
    have hT2:=hT2.same s19
    have hT3:=hT3.same s19
    have dv1:=dv_up s19 dv1
    have dv2:=dv_up s19 dv2
    have vt1:=s19.tupS vt1
    have vo1:=s19.tupS vo1
    have vl1:=s19.seq vl1
    refine ⟨_,rfl,neD_view dv5 dv2 (vp5.one gll2 vp2) (vdat_ok _ _ _ _ _ _) ?_⟩
    refine ⟨false,rfl,?_⟩
    show (if false=true then _ else _)
    rw [if_neg (by decide)]
    refine ⟨_,rfl,v1,_,0,_,rfl,rfl,vt1,atI_nat (j:=0) rfl,o1,_,0,_,rfl,rfl,vo1,atI_nat (j:=0) rfl,_,rfl,_,rfl,_,rfl,r,us,cs,h,rfl,SqL.of (b19 _ _ hr5),hcs5.same b19,g10,g.cov,fun sp ss H20 hsp sA hspA hss=>?_⟩
    have b20:=b19.trans sA
    refine ⟨r,lo,sp,us,cs,ls,ss,h,rfl,SqL.of (b20 _ _ hr5),hcs5.same b20,SqL.of (b20 _ _ hlo5),SqL.of hspA,hss,g,fun du H21 hdu sB hdu2=>?_⟩
    have b21:=b20.trans sB
    have dv1:=dv_up (sA.trans sB) dv1
    refine ⟨lw1,du,_,_,rfl,rfl,(sA.trans sB).seq vl1,SqL.of hdu2,?_⟩
    refine ⟨_,rfl,iteND (fun z=>absurd rfl z) (fun _=>?_)⟩
    refine ⟨_,rfl,_,rfl,r,us,rfl,.inl (SqL.of (b21 _ _ hr5)),fun x4a hx4a=>?_⟩
    have u4a:=same_upd (o:=.lst us) hx4a
    have w4a:=upd_same (H:=H21) (a:=x4a) (o:=.lst us)
    generalize upd H21 x4a (.lst us)=H22 at *
    have b22:=b21.trans u4a
    refine ⟨_,rfl,lo,_,rfl,.inl (SqL.of (b22 _ _ hlo5)),fun x4b hx4b=>?_⟩
    have u4b:=same_upd (o:=.lst (ls.map V.int)) hx4b
    have w4b:=upd_same (H:=H22) (a:=x4b) (o:=.lst (ls.map V.int))
    generalize upd H22 x4b (.lst (ls.map V.int))=H23 at *
    have b23:=b22.trans u4b
    refine fun t4 d4 ht4 hdx4 ndx4=>?_
    have m4:=make_pre (o1:=.ins A.c_Table d4 []) (o2:=.own t4) ht4 hdx4
    refine ⟨t4,d4,x4a,x4b,h,us,cs,ls,rfl,upd_same,SqL.of (m4 _ _ (u4b _ _ w4a)),hcs5.same (b23.trans m4),SqL.of (m4 _ _ w4b),g,fun H24 s24' hT4=>⟨rfl,?_⟩⟩
    have b24:=b23.trans (make_same ht4 hdx4 s24')
    have dv1:=dv_up ((u4a.trans u4b).trans (make_same ht4 hdx4 s24')) dv1
    refine ⟨t4,h,cs,ls,rfl,hT4,l98,fun v6 o6 lw6 xs6 ys6 st6 tw6 th6 H25 s25 vp6 dv6 vt6 vo6 vl6=>?_⟩
    have b25:=b24.trans s25
    have hT4:=hT4.same s25
    have dv1:=dv_up s25 dv1
    exact ⟨_,rfl,eqD_view dv6 dv1 (vp6.one gll vp1) (vdat_ok _ _ _ _ _ _) (kk _)⟩
end
set_option maxHeartbeats 0 in
theorem all_mk {l:PySem.W.OpenLaw} {w:World} {K:Frag} {h:Heap} {mg:Str→Option Value} {fa:Addr} (X:K.In h) (G:h.Ns mainGlobals mg) (hfa:mg "law" = some (.ref fa)) {C_Rounds:Addr} (aC_Rounds:nsIn K mainGlobals "Rounds" = some (some (.ref C_Rounds))) {C_Table:Addr} (aC_Table:nsIn K mainGlobals "Table" = some (some (.ref C_Table))) {f0 f1 f2 f3 f4 f5 f6 f7 f8 f9 f10 f11 f12 f13 f14 f15 f16 f17 f18 f19 f20 f21 f22 f23 f24 f25 f26 f27 f28 f29 f30 f31 f32 f33 f34 f35 f36 f37 f38 f39 f40 f41 f42 f43 f44 f45 f46 f47 f48 f49 f50 f51 f52 f53 f54 f55 f56 f57 f58 f59:Addr} (a0:nsIn K mainGlobals "_wall" = some (some (.ref f0))) (l0:FL K "_wall" "_wall" s__wall f0) (a1:nsIn K mainGlobals "is_lines" = some (some (.ref f1))) (l1:FL K "is_lines" "is_lines" s_is_lines f1) (a2:nsIn K mainGlobals "require_lines" = some (some (.ref f2))) (l2:FL K "require_lines" "require_lines" s_require_lines f2) (a3:nsIn K mainGlobals "next_place" = some (some (.ref f3))) (l3:FL K "next_place" "next_place" s_next_place f3) (a4:nsIn K mainGlobals "bearers" = some (some (.ref f4))) (l4:FL K "bearers" "bearers" s_bearers f4) (a5:nsIn K mainGlobals "parts" = some (some (.ref f5))) (l5:FL K "parts" "parts" s_parts f5) (a6:nsIn K mainGlobals "is_measure" = some (some (.ref f6))) (l6:FL K "is_measure" "is_measure" s_is_measure f6) (a7:nsIn K mainGlobals "are_others" = some (some (.ref f7))) (l7:FL K "are_others" "are_others" s_are_others f7) (a8:nsIn K mainGlobals "is_cover" = some (some (.ref f8))) (l8:FL K "is_cover" "is_cover" s_is_cover f8) (a9:nsIn K mainGlobals "wish" = some (some (.ref f9))) (l9:FL K "wish" "wish" s_wish f9) (a10:nsIn K mainGlobals "take" = some (some (.ref f10))) (l10:FL K "take" "take" s_take f10) (a11:nsIn K mainGlobals "require_houses" = some (some (.ref f11))) (l11:FL K "require_houses" "require_houses" s_require_houses f11) (a12:nsIn K mainGlobals "require_house" = some (some (.ref f12))) (l12:FL K "require_house" "require_house" s_require_house f12) (a13:nsIn K mainGlobals "require_covers" = some (some (.ref f13))) (l13:FL K "require_covers" "require_covers" s_require_covers f13) (a14:nsIn K mainGlobals "require_losses" = some (some (.ref f14))) (l14:FL K "require_losses" "require_losses" s_require_losses f14) (a15:findIn K (.ref C_Table) "__init__" = some (some (.ref f15))) (i15:PySem.W.isFn K (.ref f15)=true) (l15:FL K "__init__" "Table.__init__" s_Table___init__ f15) (a16:findIn K (.ref C_Table) "houses" = some (some (.ref f16))) (i16:PySem.W.isFn K (.ref f16)=true) (l16:FL K "houses" "Table.houses" s_Table_houses f16) (a17:findIn K (.ref C_Table) "covers" = some (some (.ref f17))) (i17:PySem.W.isFn K (.ref f17)=true) (l17:FL K "covers" "Table.covers" s_Table_covers f17) (a18:findIn K (.ref C_Table) "losses" = some (some (.ref f18))) (i18:PySem.W.isFn K (.ref f18)=true) (l18:FL K "losses" "Table.losses" s_Table_losses f18) (a19:findIn K (.ref C_Table) "mosts" = some (some (.ref f19))) (i19:PySem.W.isFn K (.ref f19)=true) (l19:FL K "mosts" "Table.mosts" s_Table_mosts f19) (a20:findIn K (.ref C_Table) "more" = some (some (.ref f20))) (i20:PySem.W.isFn K (.ref f20)=true) (l20:FL K "more" "Table.more" s_Table_more f20) (a21:nsIn K mainGlobals "nought" = some (some (.ref f21))) (l21:FL K "nought" "nought" s_nought f21) (a22:nsIn K mainGlobals "require_account" = some (some (.ref f22))) (l22:FL K "require_account" "require_account" s_require_account f22) (a23:nsIn K mainGlobals "burdens" = some (some (.ref f23))) (l23:FL K "burdens" "burdens" s_burdens f23) (a24:nsIn K mainGlobals "asked" = some (some (.ref f24))) (l24:FL K "asked" "asked" s_asked f24) (a25:nsIn K mainGlobals "require_cover" = some (some (.ref f25))) (l25:FL K "require_cover" "require_cover" s_require_cover f25) (a26:findIn K (.ref C_Rounds) "__init__" = some (some (.ref f26))) (i26:PySem.W.isFn K (.ref f26)=true) (l26:FL K "__init__" "Rounds.__init__" s_Rounds___init__ f26) (a27:findIn K (.ref C_Rounds) "ask" = some (some (.ref f27))) (i27:PySem.W.isFn K (.ref f27)=true) (l27:FL K "ask" "Rounds.ask" s_Rounds_ask f27) (a28:findIn K (.ref C_Rounds) "account" = some (some (.ref f28))) (i28:PySem.W.isFn K (.ref f28)=true) (l28:FL K "account" "Rounds.account" s_Rounds_account f28) (a29:findIn K (.ref C_Rounds) "waiting" = some (some (.ref f29))) (i29:PySem.W.isFn K (.ref f29)=true) (l29:FL K "waiting" "Rounds.waiting" s_Rounds_waiting f29) (a30:findIn K (.ref C_Rounds) "twin" = some (some (.ref f30))) (i30:PySem.W.isFn K (.ref f30)=true) (l30:FL K "twin" "Rounds.twin" s_Rounds_twin f30) (a31:nsIn K mainGlobals "settle" = some (some (.ref f31))) (l31:FL K "settle" "settle" s_settle f31) (a32:nsIn K mainGlobals "least" = some (some (.ref f32))) (l32:FL K "least" "least" s_least f32) (a33:nsIn K mainGlobals "steps" = some (some (.ref f33))) (l33:FL K "steps" "steps" s_steps f33) (a34:nsIn K mainGlobals "agrees" = some (some (.ref f34))) (l34:FL K "agrees" "agrees" s_agrees f34) (a35:nsIn K mainGlobals "require_agreeing" = some (some (.ref f35))) (l35:FL K "require_agreeing" "require_agreeing" s_require_agreeing f35) (a36:nsIn K mainGlobals "kept" = some (some (.ref f36))) (l36:FL K "kept" "kept" s_kept f36) (a37:nsIn K mainGlobals "falls" = some (some (.ref f37))) (l37:FL K "falls" "falls" s_falls f37) (a38:nsIn K mainGlobals "greatest" = some (some (.ref f38))) (l38:FL K "greatest" "greatest" s_greatest f38) (a39:nsIn K mainGlobals "spin" = some (some (.ref f39))) (l39:FL K "spin" "spin" s_spin f39) (a40:nsIn K mainGlobals "reached" = some (some (.ref f40))) (l40:FL K "reached" "reached" s_reached f40) (a41:nsIn K mainGlobals "first_roads" = some (some (.ref f41))) (l41:FL K "first_roads" "first_roads" s_first_roads f41) (a42:nsIn K mainGlobals "longer_roads" = some (some (.ref f42))) (l42:FL K "longer_roads" "longer_roads" s_longer_roads f42) (a43:nsIn K mainGlobals "road" = some (some (.ref f43))) (l43:FL K "road" "road" s_road f43) (a44:nsIn K mainGlobals "hangs" = some (some (.ref f44))) (l44:FL K "hangs" "hangs" s_hangs f44) (a45:nsIn K mainGlobals "_law_draws" = some (some (.ref f45))) (l45:FL K "_law_draws" "_law_draws" s__law_draws f45) (a46:nsIn K mainGlobals "_law_lines" = some (some (.ref f46))) (l46:FL K "_law_lines" "_law_lines" s__law_lines f46) (a47:nsIn K mainGlobals "_law_cover" = some (some (.ref f47))) (l47:FL K "_law_cover" "_law_cover" s__law_cover f47) (a48:nsIn K mainGlobals "_law_rows" = some (some (.ref f48))) (l48:FL K "_law_rows" "_law_rows" s__law_rows f48) (a49:nsIn K mainGlobals "_law_losses" = some (some (.ref f49))) (l49:FL K "_law_losses" "_law_losses" s__law_losses f49) (a50:nsIn K mainGlobals "_law_made" = some (some (.ref f50))) (l50:FL K "_law_made" "_law_made" s__law_made f50) (a51:nsIn K mainGlobals "_law_split" = some (some (.ref f51))) (l51:FL K "_law_split" "_law_split" s__law_split f51) (a52:nsIn K mainGlobals "_law_splits" = some (some (.ref f52))) (l52:FL K "_law_splits" "_law_splits" s__law_splits f52) (a53:nsIn K mainGlobals "_law_loads" = some (some (.ref f53))) (l53:FL K "_law_loads" "_law_loads" s__law_loads f53) (a54:nsIn K mainGlobals "_law_take" = some (some (.ref f54))) (l54:FL K "_law_take" "_law_take" s__law_take f54) (a55:nsIn K mainGlobals "_law_passed" = some (some (.ref f55))) (l55:FL K "_law_passed" "_law_passed" s__law_passed f55) (a56:nsIn K mainGlobals "_law_come" = some (some (.ref f56))) (l56:FL K "_law_come" "_law_come" s__law_come f56) (a57:nsIn K mainGlobals "_law_least" = some (some (.ref f57))) (l57:FL K "_law_least" "_law_least" s__law_least f57) (a58:nsIn K mainGlobals "_law_view" = some (some (.ref f58))) (l58:FL K "_law_view" "_law_view" s__law_view f58) (a59:nsIn K mainGlobals "law" = some (some (.ref f59))) (l59:FL K "law" "law" s_law f59) {t_LAST_HOUSE:Tok} (v_LAST_HOUSE:nsIn K mainGlobals "LAST_HOUSE" = some (some (.int 5 t_LAST_HOUSE))) {t_LEAST_LINE:Tok} (v_LEAST_LINE:nsIn K mainGlobals "LEAST_LINE" = some (some (.int 1 t_LEAST_LINE))) {t_MOST_BILL:Tok} (v_MOST_BILL:nsIn K mainGlobals "MOST_BILL" = some (some (.int 24 t_MOST_BILL))) {t_MOST_COVERS:Tok} (v_MOST_COVERS:nsIn K mainGlobals "MOST_COVERS" = some (some (.int 10 t_MOST_COVERS))) {t_MOST_LINE:Tok} (v_MOST_LINE:nsIn K mainGlobals "MOST_LINE" = some (some (.int 20 t_MOST_LINE))) {t_MOST_LOSS:Tok} (v_MOST_LOSS:nsIn K mainGlobals "MOST_LOSS" = some (some (.int 9999 t_MOST_LOSS))) {t_MOST_PAIRS:Tok} (v_MOST_PAIRS:nsIn K mainGlobals "MOST_PAIRS" = some (some (.int 4 t_MOST_PAIRS))) {t_MOST_REACH:Tok} (v_MOST_REACH:nsIn K mainGlobals "MOST_REACH" = some (some (.int 99999 t_MOST_REACH))) (pg_Rounds:PySem.W.plainGet K C_Rounds Str.empty=true) (hd_Rounds:PySem.W.hasDictIn K C_Rounds=true) (po_Rounds:PySem.W.plainOver K C_Rounds=true) (sa_Rounds:findIn K (.ref C_Rounds) "__setattr__" = some (some (.builtin "object.__setattr__"))) (mk_Rounds:PySem.W.makesIn K C_Rounds=true) (kc_Rounds:keepIn K (.ref C_Rounds)=true) (na_Rounds_ground:findIn K (.ref C_Rounds) "ground" = some none) (na_Rounds_standing:findIn K (.ref C_Rounds) "standing" = some none) (pg_Table:PySem.W.plainGet K C_Table Str.empty=true) (hd_Table:PySem.W.hasDictIn K C_Table=true) (po_Table:PySem.W.plainOver K C_Table=true) (sa_Table:findIn K (.ref C_Table) "__setattr__" = some (some (.builtin "object.__setattr__"))) (mk_Table:PySem.W.makesIn K C_Table=true) (kc_Table:keepIn K (.ref C_Table)=true) (na_Table_house_count:findIn K (.ref C_Table) "house_count" = some none) (na_Table_cover_rows:findIn K (.ref C_Table) "cover_rows" = some none) (na_Table_befallen:findIn K (.ref C_Table) "befallen" = some none) (na_Table_crown_bearers:findIn K (.ref C_Table) "crown_bearers" = some none) (z_all:nsIn K mainGlobals "all" = some none) (z_enumerate:nsIn K mainGlobals "enumerate" = some none) (z_len:nsIn K mainGlobals "len" = some none) (z_list:nsIn K mainGlobals "list" = some none) (z_max:nsIn K mainGlobals "max" = some none) (z_min:nsIn K mainGlobals "min" = some none) (z_range:nsIn K mainGlobals "range" = some none) (z_tuple:nsIn K mainGlobals "tuple" = some none) (z_zip:nsIn K mainGlobals "zip" = some none) {d_BY_BOUNDS:Addr} {e_BY_BOUNDS:Nat} {u_BY_BOUNDS_0:Addr} {x_BY_BOUNDS_0:Tok} {n_BY_BOUNDS_0:Nat} {dd_BY_BOUNDS_0:Option Addr} {sl_BY_BOUNDS_0:Array (Option Value)} {y_BY_BOUNDS_0_0:Tok} {y_BY_BOUNDS_0_1:Tok} {u_BY_BOUNDS_1:Addr} {x_BY_BOUNDS_1:Tok} {n_BY_BOUNDS_1:Nat} {dd_BY_BOUNDS_1:Option Addr} {sl_BY_BOUNDS_1:Array (Option Value)} {y_BY_BOUNDS_1_0:Tok} {y_BY_BOUNDS_1_1:Tok} (ga_BY_BOUNDS:nsIn K mainGlobals "BY_BOUNDS" = some (some (.ref d_BY_BOUNDS))) (gl_BY_BOUNDS:K.lookup d_BY_BOUNDS=some ⟨.type "dict", none,.dict #[⟨PyData.keyHash w.params "share", .str "share" x_BY_BOUNDS_0,.ref u_BY_BOUNDS_0⟩,⟨PyData.keyHash w.params "layer", .str "layer" x_BY_BOUNDS_1,.ref u_BY_BOUNDS_1⟩] e_BY_BOUNDS,#[]⟩) (gz_BY_BOUNDS:(d_BY_BOUNDS == sysModules)=false) (gt_BY_BOUNDS_0:K.lookup u_BY_BOUNDS_0=some ⟨.type "tuple", dd_BY_BOUNDS_0,.seq #[.int 1 y_BY_BOUNDS_0_0,.int 100 y_BY_BOUNDS_0_1] n_BY_BOUNDS_0,sl_BY_BOUNDS_0⟩) (gt_BY_BOUNDS_1:K.lookup u_BY_BOUNDS_1=some ⟨.type "tuple", dd_BY_BOUNDS_1,.seq #[.int 0 y_BY_BOUNDS_1_0,.int 200 y_BY_BOUNDS_1_1] n_BY_BOUNDS_1,sl_BY_BOUNDS_1⟩)
    : ∃ fd:FuncData,(∀ (s:Shared) (v:Value),BindsTo s fd ⟨[v],[]⟩ [("_law_script", v)])∧∀ base:Heap,K.In base→base.Ns mainGlobals mg→FnOk l.prog w K mg base CX0 10 fa fd ["_law_script"] (sp_law K):=by
  have e:=hfa.symm.trans (mg_of X G a59)
  cases e
  obtain ⟨e0,F0,k0,b0⟩:=l0.fn1 ["k"] fun _ _ _ _ _ _ _=>rfl
  obtain ⟨e1,F1,k1,b1⟩:=l1.fn1 ["lines"] fun _ _ _ _ _ _ _=>rfl
  obtain ⟨e2,F2,k2,b2⟩:=l2.fn1 ["lines"] fun _ _ _ _ _ _ _=>rfl
  obtain ⟨e3,F3,k3,b3⟩:=l3.fn2 ["lines", "borne"] fun _ _ _ _ _ _ _ _=>rfl
  obtain ⟨e4,F4,k4,b4⟩:=l4.fn2 ["lines", "crowns"] fun _ _ _ _ _ _ _ _=>rfl
  obtain ⟨e5,F5,k5,b5⟩:=l5.fn2 ["lines", "crowns"] fun _ _ _ _ _ _ _ _=>rfl
  obtain ⟨e6,F6,k6,b6⟩:=l6.fn3 ["kind", "by", "most"] fun _ _ _ _ _ _ _ _ _=>rfl
  obtain ⟨e7,F7,k7,b7⟩:=l7.fn3 ["houses", "house", "lines"] fun _ _ _ _ _ _ _ _ _=>rfl
  obtain ⟨e8,F8,k8,b8⟩:=l8.fn2 ["houses", "cover"] fun _ _ _ _ _ _ _ _=>rfl
  obtain ⟨e9,F9,k9,b9⟩:=l9.fn3 ["kind", "by", "reach"] fun _ _ _ _ _ _ _ _ _=>rfl
  obtain ⟨e10,F10,k10,b10⟩:=l10.fn4 ["kind", "by", "most", "reach"] fun _ _ _ _ _ _ _ _ _ _=>rfl
  obtain ⟨e11,F11,k11,b11⟩:=l11.fn1 ["houses"] fun _ _ _ _ _ _ _=>rfl
  obtain ⟨e12,F12,k12,b12⟩:=l12.fn2 ["houses", "house"] fun _ _ _ _ _ _ _ _=>rfl
  obtain ⟨e13,F13,k13,b13⟩:=l13.fn2 ["houses", "covers"] fun _ _ _ _ _ _ _ _=>rfl
  obtain ⟨e14,F14,k14,b14⟩:=l14.fn2 ["houses", "losses"] fun _ _ _ _ _ _ _ _=>rfl
  obtain ⟨e15,F15,k15,b15⟩:=l15.fn4 ["self", "houses", "covers", "losses"] fun _ _ _ _ _ _ _ _ _ _=>rfl
  obtain ⟨e16,F16,k16,b16⟩:=l16.fn1 ["self"] fun _ _ _ _ _ _ _=>rfl
  obtain ⟨e17,F17,k17,b17⟩:=l17.fn1 ["self"] fun _ _ _ _ _ _ _=>rfl
  obtain ⟨e18,F18,k18,b18⟩:=l18.fn1 ["self"] fun _ _ _ _ _ _ _=>rfl
  obtain ⟨e19,F19,k19,b19⟩:=l19.fn1 ["self"] fun _ _ _ _ _ _ _=>rfl
  obtain ⟨e20,F20,k20,b20⟩:=l20.fn3 ["self", "house", "crowns"] fun _ _ _ _ _ _ _ _ _=>rfl
  obtain ⟨e21,F21,k21,b21⟩:=l21.fn1 ["table"] fun _ _ _ _ _ _ _=>rfl
  obtain ⟨e22,F22,k22,b22⟩:=l22.fn2 ["table", "account"] fun _ _ _ _ _ _ _ _=>rfl
  obtain ⟨e23,F23,k23,b23⟩:=l23.fn2 ["table", "account"] fun _ _ _ _ _ _ _ _=>rfl
  obtain ⟨e24,F24,k24,b24⟩:=l24.fn2 ["table", "account"] fun _ _ _ _ _ _ _ _=>rfl
  obtain ⟨e25,F25,k25,b25⟩:=l25.fn2 ["table", "cover"] fun _ _ _ _ _ _ _ _=>rfl
  obtain ⟨e26,F26,k26,b26⟩:=l26.fn2 ["self", "table"] fun _ _ _ _ _ _ _ _=>rfl
  obtain ⟨e27,F27,k27,b27⟩:=l27.fn2 ["self", "cover"] fun _ _ _ _ _ _ _ _=>rfl
  obtain ⟨e28,F28,k28,b28⟩:=l28.fn1 ["self"] fun _ _ _ _ _ _ _=>rfl
  obtain ⟨e29,F29,k29,b29⟩:=l29.fn1 ["self"] fun _ _ _ _ _ _ _=>rfl
  obtain ⟨e30,F30,k30,b30⟩:=l30.fn1 ["self"] fun _ _ _ _ _ _ _=>rfl
  obtain ⟨e31,F31,k31,b31⟩:=l31.fn2 ["table", "account"] fun _ _ _ _ _ _ _ _=>rfl
  obtain ⟨e32,F32,k32,b32⟩:=l32.fn1 ["table"] fun _ _ _ _ _ _ _=>rfl
  obtain ⟨e33,F33,k33,b33⟩:=l33.fn1 ["table"] fun _ _ _ _ _ _ _=>rfl
  obtain ⟨e34,F34,k34,b34⟩:=l34.fn2 ["table", "account"] fun _ _ _ _ _ _ _ _=>rfl
  obtain ⟨e35,F35,k35,b35⟩:=l35.fn2 ["table", "accounts"] fun _ _ _ _ _ _ _ _=>rfl
  obtain ⟨e36,F36,k36,b36⟩:=l36.fn2 ["table", "account"] fun _ _ _ _ _ _ _ _=>rfl
  obtain ⟨e37,F37,k37,b37⟩:=l37.fn2 ["table", "house"] fun _ _ _ _ _ _ _ _=>rfl
  obtain ⟨e38,F38,k38,b38⟩:=l38.fn1 ["table"] fun _ _ _ _ _ _ _=>rfl
  obtain ⟨e39,F39,k39,b39⟩:=l39.fn1 ["table"] fun _ _ _ _ _ _ _=>rfl
  obtain ⟨e40,F40,k40,b40⟩:=l40.fn3 ["table", "account", "cover"] fun _ _ _ _ _ _ _ _ _=>rfl
  obtain ⟨e41,F41,k41,b41⟩:=l41.fn2 ["table", "account"] fun _ _ _ _ _ _ _ _=>rfl
  obtain ⟨e42,F42,k42,b42⟩:=l42.fn4 ["table", "account", "roads", "ends"] fun _ _ _ _ _ _ _ _ _ _=>rfl
  obtain ⟨e43,F43,k43,b43⟩:=l43.fn2 ["table", "cover"] fun _ _ _ _ _ _ _ _=>rfl
  obtain ⟨e44,F44,k44,b44⟩:=l44.fn2 ["table", "house"] fun _ _ _ _ _ _ _ _=>rfl
  obtain ⟨e45,F45,k45,b45⟩:=l45.fn2 ["_law_script", "_law_many"] fun _ _ _ _ _ _ _ _=>rfl
  obtain ⟨e46,F46,k46,b46⟩:=l46.fn3 ["_law_houses", "_law_house", "_law_draws_here"] fun _ _ _ _ _ _ _ _ _=>rfl
  obtain ⟨e47,F47,k47,b47⟩:=l47.fn2 ["_law_houses", "_law_draws_here"] fun _ _ _ _ _ _ _ _=>rfl
  obtain ⟨e48,F48,k48,b48⟩:=l48.fn2 ["_law_houses", "_law_draws_here"] fun _ _ _ _ _ _ _ _=>rfl
  obtain ⟨e49,F49,k49,b49⟩:=l49.fn2 ["_law_houses", "_law_draws_here"] fun _ _ _ _ _ _ _ _=>rfl
  obtain ⟨e50,F50,k50,b50⟩:=l50.fn1 ["_law_draws_here"] fun _ _ _ _ _ _ _=>rfl
  obtain ⟨e51,F51,k51,b51⟩:=l51.fn2 ["_law_lines_here", "_law_most"] fun _ _ _ _ _ _ _ _=>rfl
  obtain ⟨e52,F52,k52,b52⟩:=l52.fn1 ["_law_covers"] fun _ _ _ _ _ _ _=>rfl
  obtain ⟨e53,F53,k53,b53⟩:=l53.fn4 ["_law_covers", "_law_losses_here", "_law_splits_here", "_law_account"] fun _ _ _ _ _ _ _ _ _ _=>rfl
  obtain ⟨e54,F54,k54,b54⟩:=l54.fn4 ["_law_kind", "_law_by", "_law_most", "_law_reach"] fun _ _ _ _ _ _ _ _ _ _=>rfl
  obtain ⟨e55,F55,k55,b55⟩:=l55.fn4 ["_law_covers", "_law_losses_here", "_law_splits_here", "_law_account"] fun _ _ _ _ _ _ _ _ _ _=>rfl
  obtain ⟨e56,F56,k56,b56⟩:=l56.fn4 ["_law_covers", "_law_losses_here", "_law_splits_here", "_law_account"] fun _ _ _ _ _ _ _ _ _ _=>rfl
  obtain ⟨e57,F57,k57,b57⟩:=l57.fn3 ["_law_covers", "_law_losses_here", "_law_splits_here"] fun _ _ _ _ _ _ _ _ _=>rfl
  obtain ⟨e58,F58,k58,b58⟩:=l58.fn1 ["_law_table"] fun _ _ _ _ _ _ _=>rfl
  obtain ⟨od,an,sl,oc,kV,dc,pm,cd,ct,l,c,k59⟩:=l59.ex
  have F59:=fun_mk (st:=s_law) l c k59
  have b59:=F59.binds (ps:=["_law_script"]) fun _ _ _ _ _ _ us hl=>len1 (p:=fun us=>bindArgs _ ⟨us,[]⟩=pure (List.zip (["_law_script"]:List Str) us)) (show us.length=1 from hl) fun _=>rfl
  have T:Txt w K mg ⟨_,_,_,_,_,_,_,_,_,_,_,_,_,_,_,_,_,_,_,_,_,_,_,_,_,_,_,_,_,_,_,_,_,_,_,_,_,_,_,_,_,_,_,_,_,_,_,_,_,_,_,_,_,_,_,_,_,_,_,_,_,_,_,_,_,_,_,_,_,_,_,_,_,_,_,_,_,_,_,_,_,_,_,_,_,_,_,_,_,_,_,_,_,_,_,_,_,_,_,_,_,_,_,_,_,_,_,_,_,_,_,_,_,_,_,_,_,_,_,_,C_Rounds,C_Table,d_BY_BOUNDS,u_BY_BOUNDS_0,u_BY_BOUNDS_1⟩:=⟨F0,mg_of X G a0,k0,b0,F1,mg_of X G a1,k1,b1,F2,mg_of X G a2,k2,b2,F3,mg_of X G a3,k3,b3,F4,mg_of X G a4,k4,b4,F5,mg_of X G a5,k5,b5,F6,mg_of X G a6,k6,b6,F7,mg_of X G a7,k7,b7,F8,mg_of X G a8,k8,b8,F9,mg_of X G a9,k9,b9,F10,mg_of X G a10,k10,b10,F11,mg_of X G a11,k11,b11,F12,mg_of X G a12,k12,b12,F13,mg_of X G a13,k13,b13,F14,mg_of X G a14,k14,b14,F15,k15,b15,F16,⟨a16,i16,k16⟩,k16,b16,F17,⟨a17,i17,k17⟩,k17,b17,F18,⟨a18,i18,k18⟩,k18,b18,F19,⟨a19,i19,k19⟩,k19,b19,F20,⟨a20,i20,k20⟩,k20,b20,F21,mg_of X G a21,k21,b21,F22,mg_of X G a22,k22,b22,F23,mg_of X G a23,k23,b23,F24,mg_of X G a24,k24,b24,F25,mg_of X G a25,k25,b25,F26,k26,b26,F27,⟨a27,i27,k27⟩,k27,b27,F28,⟨a28,i28,k28⟩,k28,b28,F29,⟨a29,i29,k29⟩,k29,b29,F30,⟨a30,i30,k30⟩,k30,b30,F31,mg_of X G a31,k31,b31,F32,mg_of X G a32,k32,b32,F33,mg_of X G a33,k33,b33,F34,mg_of X G a34,k34,b34,F35,mg_of X G a35,k35,b35,F36,mg_of X G a36,k36,b36,F37,mg_of X G a37,k37,b37,F38,mg_of X G a38,k38,b38,F39,mg_of X G a39,k39,b39,F40,mg_of X G a40,k40,b40,F41,mg_of X G a41,k41,b41,F42,mg_of X G a42,k42,b42,F43,mg_of X G a43,k43,b43,F44,mg_of X G a44,k44,b44,F45,mg_of X G a45,k45,b45,F46,mg_of X G a46,k46,b46,F47,mg_of X G a47,k47,b47,F48,mg_of X G a48,k48,b48,F49,mg_of X G a49,k49,b49,F50,mg_of X G a50,k50,b50,F51,mg_of X G a51,k51,b51,F52,mg_of X G a52,k52,b52,F53,mg_of X G a53,k53,b53,F54,mg_of X G a54,k54,b54,F55,mg_of X G a55,k55,b55,F56,mg_of X G a56,k56,b56,F57,mg_of X G a57,k57,b57,F58,mg_of X G a58,k58,b58,F59,mg_of X G a59,k59,b59,⟨pg_Rounds,hd_Rounds,po_Rounds,sa_Rounds⟩,mg_of X G aC_Rounds,⟨mk_Rounds,a26,i26,kc_Rounds⟩,na_Rounds_ground,na_Rounds_standing,⟨pg_Table,hd_Table,po_Table,sa_Table⟩,mg_of X G aC_Table,⟨mk_Table,a15,i15,kc_Table⟩,na_Table_house_count,na_Table_cover_rows,na_Table_befallen,na_Table_crown_bearers,⟨_,mg_of X G v_LAST_HOUSE⟩,⟨_,mg_of X G v_LEAST_LINE⟩,⟨_,mg_of X G v_MOST_BILL⟩,⟨_,mg_of X G v_MOST_COVERS⟩,⟨_,mg_of X G v_MOST_LINE⟩,⟨_,mg_of X G v_MOST_LOSS⟩,⟨_,mg_of X G v_MOST_PAIRS⟩,⟨_,mg_of X G v_MOST_REACH⟩,mg_none_of X G z_all,mg_none_of X G z_enumerate,mg_none_of X G z_len,mg_none_of X G z_list,mg_none_of X G z_max,mg_none_of X G z_min,mg_none_of X G z_range,mg_none_of X G z_tuple,mg_none_of X G z_zip,mg_of X G ga_BY_BOUNDS,kdict_mk (es:=[_,_]) gl_BY_BOUNDS gz_BY_BOUNDS (fun e he=>by simp only [List.mem_cons,List.not_mem_nil,or_false] at he;rcases he with rfl | rfl <;> exact ⟨Sum.inr _,keyIs_str _ _,rfl⟩) (fun P=>.cons (mixKind_str _ _ _ _) rfl (.cons (mixKind_str _ _ _ _) rfl (.nil))) (by show ([Sum.inr "share", Sum.inr "layer"]:List Key).Nodup;decide +kernel),⟨_,_,_,gt_BY_BOUNDS_0,rfl,rfl,by show 2≤sizeLine;decide,.cons ⟨_,rfl⟩ (.cons ⟨_,rfl⟩ (.nil))⟩,⟨_,_,_,gt_BY_BOUNDS_1,rfl,rfl,by show 2≤sizeLine;decide,.cons ⟨_,rfl⟩ (.cons ⟨_,rfl⟩ (.nil))⟩⟩
  exact ⟨_,fun s v=>.of_eq rfl,fun base _ _=>ok_law T⟩
theorem walk {l:PySem.W.OpenLaw} {q:Program} {loose:List Str} {XP:(Str→Option Value)→Heap→Prop} {YP:World→Heap→Prop} {d:DefRec} {K:Params→Frag} (hn:l.most=some 63) (hdf:d.params.defaults=[])
    (hY:∀ (w:World) (h:Heap),YP w h→(K w.params).In h)
    (F:∀ (w:World) (mg:Str→Option Value) (fa:Addr) (h:Heap),(K w.params).In h→h.Ns mainGlobals mg→mg d.name=some (.ref fa)→
      ∃ fd:FuncData,(∀ (s:Shared) (u:Value),BindsTo s fd ⟨[u],[]⟩ [("_law_script", u)])∧∀ base:Heap,(K w.params).In base→base.Ns mainGlobals mg→FnOk l.prog w (K w.params) mg base CX0 10 fa fd ["_law_script"] (sp_law (K w.params))) :
    PySem.W.WalkO q loose XP YP l.row.toRowW d [] (fun f vs=>PySem.call f vs):=
  L2.walk_of (n:=63) (k:=10) (x := "_law_script") (CX:=fun _=>CX0) (sp:=fun w=>sp_law (K w.params)) hn (by decide) hdf ⟨rfl,by decide,by decide⟩ hY F (fun _ _ a ns hl _ hS=>⟨a,ns,rfl,hS,hl,fun _=>rfl⟩) fun _ _ _ _ _ z=>z
end Rc
open PySem PySem.W PyProof.Rows
set_option maxRecDepth 100000 in
set_option maxHeartbeats 0 in
theorem PySem.Challenge.cw_ringcede_k65_two_tables_by_turns_holds : PySem.Challenge.rw_ringcede_k65_two_tables_by_turns.Holds := by
  w_on;o_law;k_head;(case hw=>w_witness2)
  k_fill
  refine Rc.walk (l:=PySem.Challenge.rw_ringcede_k65_two_tables_by_turns) rfl rfl (fun w h Y=>PySem.W.kIn_of Y) ?F
  case F=>
    intro w mg fa h KX G hmg
    refine' Rc.all_mk KX G hmg ?aC_Rounds ?aC_Table ?a0 ?l0 ?a1 ?l1 ?a2 ?l2 ?a3 ?l3 ?a4 ?l4 ?a5 ?l5 ?a6 ?l6 ?a7 ?l7 ?a8 ?l8 ?a9 ?l9 ?a10 ?l10 ?a11 ?l11 ?a12 ?l12 ?a13 ?l13 ?a14 ?l14 ?a15 ?i15 ?l15 ?a16 ?i16 ?l16 ?a17 ?i17 ?l17 ?a18 ?i18 ?l18 ?a19 ?i19 ?l19 ?a20 ?i20 ?l20 ?a21 ?l21 ?a22 ?l22 ?a23 ?l23 ?a24 ?l24 ?a25 ?l25 ?a26 ?i26 ?l26 ?a27 ?i27 ?l27 ?a28 ?i28 ?l28 ?a29 ?i29 ?l29 ?a30 ?i30 ?l30 ?a31 ?l31 ?a32 ?l32 ?a33 ?l33 ?a34 ?l34 ?a35 ?l35 ?a36 ?l36 ?a37 ?l37 ?a38 ?l38 ?a39 ?l39 ?a40 ?l40 ?a41 ?l41 ?a42 ?l42 ?a43 ?l43 ?a44 ?l44 ?a45 ?l45 ?a46 ?l46 ?a47 ?l47 ?a48 ?l48 ?a49 ?l49 ?a50 ?l50 ?a51 ?l51 ?a52 ?l52 ?a53 ?l53 ?a54 ?l54 ?a55 ?l55 ?a56 ?l56 ?a57 ?l57 ?a58 ?l58 ?a59 ?l59 ?v_LAST_HOUSE ?v_LEAST_LINE ?v_MOST_BILL ?v_MOST_COVERS ?v_MOST_LINE ?v_MOST_LOSS ?v_MOST_PAIRS ?v_MOST_REACH ?pg_Rounds ?hd_Rounds ?po_Rounds ?sa_Rounds ?mk_Rounds ?kc_Rounds ?na_Rounds_ground ?na_Rounds_standing ?pg_Table ?hd_Table ?po_Table ?sa_Table ?mk_Table ?kc_Table ?na_Table_house_count ?na_Table_cover_rows ?na_Table_befallen ?na_Table_crown_bearers ?z_all ?z_enumerate ?z_len ?z_list ?z_max ?z_min ?z_range ?z_tuple ?z_zip ?ga_BY_BOUNDS ?gl_BY_BOUNDS ?gz_BY_BOUNDS ?gt_BY_BOUNDS_0 ?gt_BY_BOUNDS_1
    (case aC_Rounds | aC_Table | a0 | a1 | a2 | a3 | a4 | a5 | a6 | a7 | a8 | a9 | a10 | a11 | a12 | a13 | a14 | a15 | i15 | a16 | i16 | a17 | i17 | a18 | i18 | a19 | i19 | a20 | i20 | a21 | a22 | a23 | a24 | a25 | a26 | i26 | a27 | i27 | a28 | i28 | a29 | i29 | a30 | i30 | a31 | a32 | a33 | a34 | a35 | a36 | a37 | a38 | a39 | a40 | a41 | a42 | a43 | a44 | a45 | a46 | a47 | a48 | a49 | a50 | a51 | a52 | a53 | a54 | a55 | a56 | a57 | a58 | a59=>k_is)
    (case l0 | l1 | l2 | l3 | l4 | l5 | l6 | l7 | l8 | l9 | l10 | l11 | l12 | l13 | l14 | l15 | l16 | l17 | l18 | l19 | l20 | l21 | l22 | l23 | l24 | l25 | l26 | l27 | l28 | l29 | l30 | l31 | l32 | l33 | l34 | l35 | l36 | l37 | l38 | l39 | l40 | l41 | l42 | l43 | l44 | l45 | l46 | l47 | l48 | l49 | l50 | l51 | l52 | l53 | l54 | l55 | l56 | l57 | l58 | l59=>refine' Rc.fl_mk ?l ?c ?k;(case l=>k_is);(case c=>k_is);(case k=>k_is))
    (case v_LAST_HOUSE | v_LEAST_LINE | v_MOST_BILL | v_MOST_COVERS | v_MOST_LINE | v_MOST_LOSS | v_MOST_PAIRS | v_MOST_REACH | pg_Rounds | hd_Rounds | po_Rounds | sa_Rounds | mk_Rounds | kc_Rounds | na_Rounds_ground | na_Rounds_standing | pg_Table | hd_Table | po_Table | sa_Table | mk_Table | kc_Table | na_Table_house_count | na_Table_cover_rows | na_Table_befallen | na_Table_crown_bearers | z_all | z_enumerate | z_len | z_list | z_max | z_min | z_range | z_tuple | z_zip | ga_BY_BOUNDS | gl_BY_BOUNDS | gt_BY_BOUNDS_0 | gt_BY_BOUNDS_1=>k_is)
    (case gz_BY_BOUNDS=>rfl)
#print axioms PySem.Challenge.cw_ringcede_k65_two_tables_by_turns_holds
