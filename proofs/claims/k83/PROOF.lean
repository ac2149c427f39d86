import PyProof.Rows.All
import Wide.All
import OpenK.AllK
import Wide.FinOn
import Lean
import PyProof.EqAt
import PyProof.EqKinds
import PyProof.TupleCall
import PySem.Challenge.RW_leastmiss_k83_whole_few_steps_by_text
set_option Elab.async false
set_option linter.all false
set_option maxRecDepth 100000
set_option compiler.extract_closed false
namespace L2
open PySem PySem.Spec PyProof.Rows
noncomputable abbrev Key:=Sum Int Str
noncomputable def ym3:Key → Value → Bool
  | .inl k,v=>Value.isInt k v
  | .inr x,v=>Value.isStrOf x v
noncomputable def keyH (w:World):Key → Int
  | .inl k=>hashInt k
  | .inr x=>hashStr w x
theorem zg3:∀ {k:Key} {v:Value},ym3 k v = true → (∃ i t,k = Sum.inl i ∧ v = Value.int i t) ∨ (∃ x t,k = Sum.inr x ∧ v = Value.str x t)
  | .inl i,v,h=>by
    obtain ⟨t,e⟩:=Value.isInt_shape (k:=i) (v:=v) h
    exact .inl ⟨i,t,rfl,e⟩
  | .inr x,v,h=>by
    obtain ⟨t,e⟩:=Value.isStrOf_shape (x:=x) (v:=v) h
    exact .inr ⟨x,t,rfl,e⟩
theorem yz9 (i:Int) (t:Tok):ym3 (.inl i) (.int i t) = true:=by simp [ym3,Value.isInt]
theorem yz8 (x:Str) (t:Tok):ym3 (.inr x) (.str x t) = true:=by simp [ym3,Value.isStrOf]
theorem wm7 (a b:Int):decide ((Sum.inl a:Key) = Sum.inl b) = (a == b):=by
  by_cases e:a = b
  · subst e; simp
  · have h:¬ (Sum.inl a:Key) = Sum.inl b:=fun q=>e (Sum.inl.inj q)
    rw [decide_eq_false h]
    exact (beq_eq_false_iff_ne.mpr e).symm
theorem wm4 (a b:Str):decide ((Sum.inr a:Key) = Sum.inr b) = decide (a = b):=by
  by_cases e:a = b
  · subst e; simp
  · have h:¬ (Sum.inr a:Key) = Sum.inr b:=fun q=>e (Sum.inr.inj q)
    rw [decide_eq_false h,decide_eq_false e]
theorem wm6 (a:Int) (b:Str):decide ((Sum.inl a:Key) = Sum.inr b) = false:=decide_eq_false (fun q=>nomatch q)
theorem wm5 (a:Str) (b:Int):decide ((Sum.inr a:Key) = Sum.inl b) = false:=decide_eq_false (fun q=>nomatch q)
noncomputable def zj9 (prog:Program) (w:World):PySem.KeyKind prog w Key where
  is:=ym3
  hash:=keyH w
  inj:=fun v a b ha hb=>by
    rcases zg3 ha with ⟨i,t,rfl,rfl⟩ | ⟨x,t,rfl,rfl⟩
    · rcases zg3 hb with ⟨j,u,rfl,e⟩ | ⟨y,u,rfl,e⟩
      · injection e with e1 _; rw [e1]
      · exact nomatch e
    · rcases zg3 hb with ⟨j,u,rfl,e⟩ | ⟨y,u,rfl,e⟩
      · exact nomatch e
      · injection e with e1 _; rw [e1]
  byValue:=fun k v h=>by
    rcases zg3 h with ⟨i,t,rfl,rfl⟩ | ⟨x,t,rfl,rfl⟩ <;> rfl
  pyHash:=fun hv h=>by
    rcases zg3 hv with ⟨i,t,rfl,rfl⟩ | ⟨x,t,rfl,rfl⟩
    · exact wpAny_pyHash_int h
    · exact wpAny_pyHash_str h
  eqBool:=fun hu hv h=>by
    rcases zg3 hu with ⟨i,t,rfl,rfl⟩ | ⟨x,t,rfl,rfl⟩
    · rcases zg3 hv with ⟨j,u,rfl,rfl⟩ | ⟨y,u,rfl,rfl⟩
      · rw [wm7] at h; exact wpAny_eqBool_int h
      · rw [wm6] at h; exact SeqAt.EqAt.int_str i t y u _ _ _ _ h
    · rcases zg3 hv with ⟨j,u,rfl,rfl⟩ | ⟨y,u,rfl,rfl⟩
      · rw [wm5] at h; exact SeqAt.EqAt.str_int x t j u _ _ _ _ h
      · rw [wm4] at h; exact wpAny_eqBool_str h
  «strs»:=fun k x t v h=>by
    rcases zg3 h with ⟨i,u,rfl,e⟩ | ⟨y,u,rfl,e⟩
    · exact nomatch e
    · injection e with e1 _
      subst e1
      cases v <;> rfl
theorem ym1 (prog:Program) (w:World) (i:Int) (t:Tok):(zj9 prog w).is (.inl i) (.int i t) = true:=yz9 i t
theorem ym0 (prog:Program) (w:World) (x:Str) (t:Tok):(zj9 prog w).is (.inr x) (.str x t) = true:=yz8 x t
end L2
namespace L2
open PySem PySem.Spec PyProof.Rows
inductive V where
  | non | bl (b:Bool) | int (i:Int) | str (x:Str) | byt (b:Array UInt8) | flt (b:UInt64) | ref (a:Addr) | ty (n:String)
  deriving DecidableEq
noncomputable def RelV:V → Value → Prop
  | .non,u=>u = Value.none
  | .bl b,u=>u = Value.bool b
  | .int i,u=>∃ t,u = Value.int i t
  | .str x,u=>∃ t,u = Value.str x t
  | .byt b,u=>∃ t,u = Value.bytes b t
  | .flt b,u=>∃ t,u = Value.float b t
  | .ref a,u=>u = Value.ref a
  | .ty n,u=>u = Value.type n
noncomputable abbrev Vals:List V → List Value → Prop:=Paired RelV
theorem Vals.length {xs:List V} {us:List Value} (r:Vals xs us):xs.length = us.length:=Paired.length r
theorem Vals.get:∀ {xs:List V} {us:List Value} {i:Nat} {x:V},Vals xs us → xs[i]? = some x → ∃ u,us[i]? = some u ∧ RelV x u
  | _,_,_,_,.nil,e=>by simp at e
  | _,_,0,_,.cons r _,e=>by simp at e; subst e; exact ⟨_,rfl,r⟩
  | _,_,i + 1,x,.cons _ t,e=>by
    obtain ⟨u,h1,h2⟩:=Vals.get (i:=i) (x:=x) t (by simpa using e)
    exact ⟨u,by simpa using h1,h2⟩
theorem Vals.set {x:V} {u:Value} (r:RelV x u):∀ {xs:List V} {us:List Value} (i:Nat),Vals xs us → Vals (xs.set i x) (us.set i u)
  | _,_,_,.nil=>.nil
  | _,_,0,.cons _ t=>.cons r t
  | _,_,i + 1,.cons q t=>.cons q (Vals.set r i t)
theorem Vals.append:∀ {xs ys:List V} {us ws:List Value},Vals xs us → Vals ys ws → Vals (xs ++ ys) (us ++ ws)
  | _,_,_,_,.nil,s=>s
  | _,_,_,_,.cons r t,s=>.cons r (Vals.append t s)
theorem Vals.take:∀ {xs:List V} {us:List Value} (n:Nat),Vals xs us → Vals (xs.take n) (us.take n)
  | _,_,0,_=>.nil
  | _,_,_ + 1,.nil=>.nil
  | _,_,n + 1,.cons r t=>.cons r (Vals.take n t)
theorem Vals.drop:∀ {xs:List V} {us:List Value} (n:Nat),Vals xs us → Vals (xs.drop n) (us.drop n)
  | _,_,0,r=>r
  | _,_,_ + 1,.nil=>.nil
  | _,_,n + 1,.cons _ t=>Vals.drop n t
noncomputable def RelO:Option V → Option Value → Prop
  | some v,some u=>RelV v u
  | none,none=>True
  | _,_=>False
noncomputable def KV {κ:Type}:List (κ × V) → List (κ × Value) → Prop:=Paired fun (p:κ × V) (q:κ × Value)=>p.1 = q.1 ∧ RelV p.2 q.2
noncomputable def kV:Key → V
  | .inl i=>.int i
  | .inr x=>.str x
inductive HO where
    | lst (xs:List V)
    | tup (xs:List V)
    | dK (kvs:List (Key × V)) | dT (kvs:List (List Key × V))
    | set (S:Int → Bool) (n:Nat)
    | ins (C dx:Addr) (fs:List (Str × V))
    | own (x:Addr)
    | xd (fs:List (Str × V))
    | met (f x:Addr)
    | rng (lo hi:Int)
    | frz (o:Obj) (u:HO)
    | tbl (ps:Array Value)
    | ext (φ:Heap → Prop)
noncomputable abbrev Hp:=Addr → Option HO
noncomputable def upd (H:Hp) (a:Addr) (o:HO):Hp:=fun b=>if b = a then some o else H b
theorem ze0 {H:Hp} {a:Addr} {o:HO}:upd H a o a = some o:=by unfold upd; rw [if_pos rfl]
theorem zd9 {H:Hp} {a b:Addr} {o:HO} (h:b ≠ a):upd H a o b = H b:=by unfold upd; rw [if_neg h]
theorem ww0 {H:Hp} {a b:Addr} {o u:HO} (h:H a = some o) (h':H b = some u) (d:o ≠ u):a ≠ b:=by
  intro e; subst e; rw [h] at h'; exact d (Option.some.inj h')
theorem ze7 {H:Hp} {a b:Addr} {o:HO} (h:H a = some o) (h':H b = none):a ≠ b:=by
  intro e; subst e; rw [h] at h'; cases h'
section
variable (P:Program) (w:World)
noncomputable def ObjOk (H:Hp) (h:Heap) (a:Addr):HO → Prop
  | .lst xs=>xs.length ≤ sizeLine ∧ ∃ (its:List Value) (n:Nat),Vals xs its ∧ h.get? a = some { cls:=.type "list",data:=.seq its.toArray n }
  | .tup xs=>xs.length ≤ sizeLine ∧ ∃ its:List Value,Vals xs its ∧ IsTup h a its.toArray
  | .dK kvs=>kvs.length ≤ sizeLine ∧ (a == sysModules) = false ∧ ∃ vs,KV kvs vs ∧ h.DictOf (zj9 P w) a vs
  | .dT kvs=>kvs.length ≤ sizeLine ∧ (a == sysModules) = false ∧ ∃ xs:List (List Key × Addr × Value),
      Paired (fun (p:List Key × V) (q:List Key × Addr × Value)=>p.1 = q.1 ∧ H q.2.1 = some (.tup (p.1.map kV)) ∧ RelV p.2 q.2.2) kvs xs ∧
      ∃ o es ep,h.get? a = some o ∧ o.ExactDict ∧ o.data = .dict es ep ∧ es.toList = xs.map (entryOfKey (tupleKind (zj9 P w))) ∧ (xs.map (·.1)).Nodup
  | .set S n=>h.SetOf (intKind P w) a S n
  | .ins C dx fs=>H dx = some (.own a) ∧ fs.length ≤ 1000 ∧ dx ≠ a ∧ h.get? a = some (PySem.W.instObj C dx) ∧
      ∃ mA,h.Ns1 dx mA ∧ (∀ f,RelO (fs.lookup f) (mA f)) ∧ PySem.Within mA (fs.map (·.1))
  | .own _=>∃ o,h.get? a = some o
  | .xd fs=>∃ mA,h.Ns1 a mA ∧ ∀ f,RelO (fs.lookup f) (mA f)
  | .rng lo hi=>∃ t u v,h.get? a = some { cls:=.type "range",data:=.fields #[.int lo t,.int hi u,.int 1 v] }
  | .frz o u=>h.get? a = some o ∧ ObjOk H h a u
  | .tbl ps=>h.get? a = some { cls:=.none,data:=.fields ps }
  | .met f x=>h.get? a = some (PySem.W.methodObj (.ref f) (.ref x))
  | .ext φ=>φ h ∧ (∃ o,h.get? a = some o) ∧ ∀ h1 h2:Heap,φ h1 → (∀ o,h1.get? a = some o → h2.get? a = some o) → φ h2
noncomputable def HOk (H:Hp) (h:Heap):Prop:=∀ a o,H a = some o → ObjOk P w H h a o
end
section
variable {P:Program} {w:World} {H H':Hp} {h h':Heap} {a:Addr} {o:HO}
theorem ObjOk.lt (x:ObjOk P w H h a o):a < h.objs.size:=by
  cases o with
  | lst xs=>obtain ⟨_,_,_,_,e⟩:=x; exact Heap.lt_size e
  | tup xs=>obtain ⟨_,_,_,p⟩:=x; exact p.lt
  | dK kvs=>obtain ⟨_,_,_,_,o,_,_,e,_⟩:=x; exact Heap.lt_size e
  | dT kvs=>obtain ⟨_,_,_,_,o,_,_,e,_⟩:=x; exact Heap.lt_size e
  | set S n=>obtain ⟨o,_,_,_,e,_⟩:=x; exact Heap.lt_size e
  | ins C dx fs=>obtain ⟨_,_,_,e,_⟩:=x; exact Heap.lt_size e
  | own y=>obtain ⟨_,e⟩:=x; exact Heap.lt_size e
  | xd fs=>obtain ⟨_,⟨_,_,_,e,_⟩,_⟩:=x; exact Heap.lt_size e
  | rng lo hi=>obtain ⟨_,_,_,e⟩:=x; exact Heap.lt_size e
  | frz ob u=>obtain ⟨e,_⟩:=x; exact Heap.lt_size e
  | tbl ps=>exact Heap.lt_size (show h.get? a = some _ from x)
  | met f y=>exact Heap.lt_size (show h.get? a = some _ from x)
  | ext φ=>obtain ⟨_,⟨_,e⟩,_⟩:=x; exact Heap.lt_size e
theorem Paired.mapP {α β:Type} {F G:α → β → Prop}:∀ {l₁:List α} {l₂:List β},Paired F l₁ l₂ → (∀ a b,F a b → G a b) → Paired G l₁ l₂
  | _,_,.nil,_=>.nil
  | _,_,.cons r t,f=>.cons (f _ _ r) (Paired.mapP t f)
theorem ObjOk.stay (x:ObjOk P w H h a o) (k:∀ b u,(b = a ∨ H b = some (.own a)) → h.get? b = some u → h'.get? b = some u)
    (ho:∀ b,H b = some (.own a) → H' b = some (.own a)) (ht:∀ b xs,H b = some (.tup xs) → H' b = some (.tup xs)):ObjOk P w H' h' a o:=by
  induction o with
  | lst xs=>obtain ⟨z,its,n,r,e⟩:=x; exact ⟨z,its,n,r,k _ _ (.inl rfl) e⟩
  | tup xs=>obtain ⟨z,its,r,ob,e,c⟩:=x; exact ⟨z,its,r,ob,k _ _ (.inl rfl) e,c⟩
  | dK kvs=>obtain ⟨z,y,vs,r,ob,es,ep,e,c⟩:=x; exact ⟨z,y,vs,r,ob,es,ep,k _ _ (.inl rfl) e,c⟩
  | dT kvs =>
    obtain ⟨z,y,xs,r,ob,es,ep,e,c⟩:=x
    exact ⟨z,y,xs,Paired.mapP r fun p q z=>⟨z.1,ht _ _ z.2.1,z.2.2⟩,ob,es,ep,k _ _ (.inl rfl) e,c⟩
  | set S n=>obtain ⟨ob,es,ep,t,e,c⟩:=x; exact ⟨ob,es,ep,t,k _ _ (.inl rfl) e,c⟩
  | ins C dx fs =>
    obtain ⟨d,z,ne,e,mA,⟨od,es,ep,e2,c⟩,r⟩:=x
    exact ⟨ho _ d,z,ne,k _ _ (.inl rfl) e,mA,⟨od,es,ep,k _ _ (.inr d) e2,c⟩,r⟩
  | own y=>obtain ⟨ob,e⟩:=x; exact ⟨ob,k _ _ (.inl rfl) e⟩
  | xd fs=>obtain ⟨mA,⟨od,es,ep,e,c⟩,r⟩:=x; exact ⟨mA,⟨od,es,ep,k _ _ (.inl rfl) e,c⟩,r⟩
  | rng lo hi=>obtain ⟨t,u,v,e⟩:=x; exact ⟨t,u,v,k _ _ (.inl rfl) e⟩
  | frz ob u ih=>obtain ⟨e,q⟩:=x; exact ⟨k _ _ (.inl rfl) e,ih q⟩
  | tbl ps =>
    have e:h.get? a = some { cls:=.none,data:=.fields ps }:=x
    show h'.get? a = some { cls:=.none,data:=.fields ps }
    exact k a _ (.inl rfl) e
  | met f y =>
    have e:h.get? a = some (PySem.W.methodObj (.ref f) (.ref y)):=x
    show h'.get? a = some (PySem.W.methodObj (.ref f) (.ref y))
    exact k a _ (.inl rfl) e
  | ext φ=>obtain ⟨p,⟨o,e⟩,st⟩:=x; exact ⟨st _ _ p fun o q=>k _ _ (.inl rfl) q,⟨o,k _ _ (.inl rfl) e⟩,st⟩
theorem HOk.lt (x:HOk P w H h) (e:H a = some o):a < h.objs.size:=(x a o e).lt
theorem HOk.fresh (x:HOk P w H h) (e:h.objs.size ≤ a):H a = none:=by
  cases q:H a with
  | none=>rfl
  | some u=>exact absurd (Nat.lt_of_lt_of_le (x.lt q) e) (Nat.lt_irrefl _)
theorem HOk.kept (x:HOk P w H h) (k:∀ b u,h.get? b = some u → h'.get? b = some u):HOk P w H h':=fun a o e =>
  (x a o e).stay (fun b u _ q=>k b u q) (fun _ q=>q) fun _ _ q=>q
theorem HOk.laid (x:HOk P w H h) (k:∀ b u,h.get? b = some u → h'.get? b = some u) (hp:h.objs.size ≤ a) (new:ObjOk P w (upd H a o) h' a o):HOk P w (upd H a o) h':=fun b u e=>by
  have hn:=x.fresh hp
  by_cases hb:b = a
  · subst hb; rw [ze0] at e; cases e; exact new
  · rw [zd9 hb] at e
    exact (x b u e).stay (fun c v _ q=>k c v q) (fun c q=>by rw [zd9 (ze7 q hn)]; exact q) fun c xs q=>by rw [zd9 (ze7 q hn)]; exact q
end
noncomputable def Rd (H:Hp) (a:Addr) (u:HO):Prop:=H a = some u ∨ ∃ o,H a = some (.frz o u)
theorem Rd.of {H:Hp} {a:Addr} {u:HO} (h:H a = some u):Rd H a u:=.inl h
theorem Rd.ok {P:Program} {w:World} {H:Hp} {h:Heap} {a:Addr} {u:HO} (r:Rd H a u) (x:HOk P w H h):ObjOk P w H h a u:=by
  rcases r with r | ⟨o,r⟩
  · exact x a u r
  · obtain ⟨_,q⟩:=x a _ r
    exact q
noncomputable def Mut:Option HO → Prop
  | some (.lst _)=>True
  | some (.dK _)=>True
  | some (.dT _)=>True
  | some (.set _ _)=>True
  | some (.ins _ _ _)=>True
  | some (.ext _)=>True
  | _=>False
section
variable {P:Program} {w:World} {H:Hp} {h h':Heap} {x e:Addr} {o':HO}
theorem HOk.write (ok:HOk P w H h) (mu:Mut (H x)) (he:e = x ∨ H e = some (.own x)) (k:∀ b u,b ≠ e → h.get? b = some u → h'.get? b = some u) (heo:∃ u,h'.get? e = some u)
    (new:ObjOk P w (upd H x o') h' x o'):HOk P w (upd H x o') h':=fun b u q=>by
  have nown:∀ c y,H c = some (.own y) → c ≠ x:=fun c y r z=>by subst z; rw [r] at mu; exact mu
  have ntup:∀ c xs,H c = some (.tup xs) → c ≠ x:=fun c xs r z=>by subst z; rw [r] at mu; exact mu
  by_cases hb:b = x
  · subst hb; rw [ze0] at q; cases q; exact new
  · rw [zd9 hb] at q
    by_cases hbe:b = e
    · have q':H b = some (.own x):=by
        rcases he with z | z
        · exact absurd (hbe.trans z) hb
        · rw [hbe]; exact z
      rw [q] at q'; cases q'
      obtain ⟨v,hv⟩:=heo
      exact ⟨v,by rw [hbe]; exact hv⟩
    · refine (ok b u q).stay (fun c v hc r=>k c v ?_ r) (fun c r=>by rw [zd9 (nown c b r)]; exact r) fun c xs r=>by rw [zd9 (ntup c xs r)]; exact r
      rcases hc with rfl | hc
      · exact hbe
      · rintro rfl
        rcases he with z | z
        · exact nown c b hc z
        · rw [hc] at z; cases z; exact hb rfl
end
structure Un (fs ex:List Addr) (H H':Hp) (h h':Heap):Prop where
  keep:∀ b o,h.get? b = some o → H b = none → b ∉ fs → b ∉ ex → h'.get? b = some o
  slot:∀ b o,h.get? b = some o → H b = none → b ∈ fs → b ∉ ex → ∃ sl,h'.get? b = some { o with slots:=sl }
  free:∀ b o,h.get? b = some o → H b = none → b ∉ ex → H' b = none
  there:∀ b o,h.get? b = some o → b ∉ ex → ∃ o',h'.get? b = some o'
  tups:∀ b xs,H b = some (.tup xs) → H' b = some (.tup xs)
  frzs:∀ b o u,H b = some (.frz o u) → H' b = some (.frz o u)
  tbls:∀ b ps,H b = some (.tbl ps) → ∃ more,H' b = some (.tbl (ps ++ more))
section
variable {fs fs' ex ex':List Addr} {H H1 H2:Hp} {h h1 h2 h':Heap} {a x e:Addr} {o:HO}
theorem Un.any (u:Un fs ex H H1 h h1) {b:Addr} {ob:Obj} (q:h.get? b = some ob) (n:H b = none) (hx:b ∉ ex):∃ sl,h1.get? b = some { ob with slots:=sl }:=by
  by_cases hb:b ∈ fs
  · exact u.slot b ob q n hb hx
  · exact ⟨ob.slots,u.keep b ob q n hb hx⟩
theorem Un.trans (a:Un fs ex H H1 h h1) (b:Un fs ex H1 H2 h1 h2):Un fs ex H H2 h h2 where
  keep:=fun c ob q n hc hx=>b.keep c ob (a.keep c ob q n hc hx) (a.free c ob q n hx) hc hx
  slot:=fun c ob q n hc hx=>by
    obtain ⟨sl,e1⟩:=a.slot c ob q n hc hx
    obtain ⟨sl',e2⟩:=b.slot c _ e1 (a.free c ob q n hx) hc hx
    exact ⟨sl',e2⟩
  free:=fun c ob q n hx=>by
    obtain ⟨o',e1⟩:=a.there c ob q hx
    exact b.free c o' e1 (a.free c ob q n hx) hx
  there:=fun c ob q hx=>by
    obtain ⟨o',e1⟩:=a.there c ob q hx
    exact b.there c o' e1 hx
  tups:=fun c xs q=>b.tups c xs (a.tups c xs q)
  frzs:=fun c ob xs q=>b.frzs c ob xs (a.frzs c ob xs q)
  tbls:=fun c ps q=>by
    obtain ⟨m1,e1⟩:=a.tbls c ps q
    obtain ⟨m2,e2⟩:=b.tbls c _ e1
    exact ⟨m1 ++ m2,by rw [e2,Array.append_assoc]⟩
theorem Un.kept (k:∀ b u,h.get? b = some u → h'.get? b = some u):Un fs ex H H h h' :=
  ⟨fun b ob q _ _ _=>k b ob q,fun b ob q _ _ _=>⟨ob.slots,k b ob q⟩,fun _ _ _ n _=>n,fun b ob q _=>⟨ob,k b ob q⟩,fun _ _ q=>q,fun _ _ _ q=>q,fun _ ps q=>⟨#[],by rw [q]; simp⟩⟩
theorem Un.refl:Un fs ex H H h h:=Un.kept fun _ _ q=>q
theorem Un.laid (k:∀ b u,h.get? b = some u → h'.get? b = some u) (hp:h.objs.size ≤ a) (hn:H a = none):Un fs ex H (upd H a o) h h' where
  keep:=fun b u q _ _ _=>k b u q
  slot:=fun b u q _ _ _=>⟨u.slots,k b u q⟩
  free:=fun b u q n _=>by rw [zd9 (Nat.ne_of_lt (Nat.lt_of_lt_of_le (Heap.lt_size q) hp))]; exact n
  there:=fun b u q _=>⟨u,k b u q⟩
  tups:=fun b xs q=>by rw [zd9 (ze7 q hn)]; exact q
  frzs:=fun b u xs q=>by rw [zd9 (ze7 q hn)]; exact q
  tbls:=fun b ps q=>⟨#[],by rw [zd9 (ze7 q hn),q]; simp⟩
theorem Un.write (mu:Mut (H x)) (he:e = x ∨ H e = some (.own x)) (k:∀ b u,b ≠ e → h.get? b = some u → h'.get? b = some u) (heo:∃ u,h'.get? e = some u):Un fs ex H (upd H x o) h h':=by
  have hx:∀ b,H b = none → b ≠ x:=fun b n z=>by subst z; rw [n] at mu; exact mu
  have hb:∀ b,H b = none → b ≠ e:=fun b n z=>by
    subst z
    rcases he with r | r
    · exact hx b n r
    · rw [n] at r; cases r
  have hm:∀ b u,H b = some u → ¬ Mut (some u) → b ≠ x:=fun b u q nm z=>by subst z; rw [q] at mu; exact nm mu
  refine ⟨fun b u q n _ _=>k b u (hb b n) q,fun b u q n _ _=>⟨u.slots,k b u (hb b n) q⟩,fun b u q n _=>by rw [zd9 (hx b n)]; exact n,fun b u q _=>?_,
    fun b xs q=>by rw [zd9 (hm b _ q fun z=>z)]; exact q,fun b u xs q=>by rw [zd9 (hm b _ q fun z=>z)]; exact q,fun b ps q=>⟨#[],by rw [zd9 (hm b _ q fun z=>z),q]; simp⟩⟩
  by_cases hbe:b = e
  · subst hbe; exact heo
  · exact ⟨u,k b u hbe q⟩
theorem Un.mono (u:Un fs ex H H1 h h1) (hs:∀ b ∈ fs,b ∈ fs') (hx:∀ b ∈ ex,b ∈ ex'):Un fs' ex' H H1 h h1 :=
  ⟨fun b ob q n hb he=>u.keep b ob q n (fun z=>hb (hs b z)) fun z=>he (hx b z),fun _ _ q n _ he=>u.any q n fun z=>he (hx _ z),fun b ob q n he=>u.free b ob q n fun z=>he (hx b z),fun b ob q he=>u.there b ob q fun z=>he (hx b z),u.tups,u.frzs,u.tbls⟩
end
noncomputable def trk (h:Heap) (H:Hp):List Addr:=(List.range h.objs.size).filter fun a=>(H a).isSome
noncomputable def hidT (h:Heap) (H:Hp):Heap:=PySem.W.hideAll h (trk h H)
theorem xa7 (h:Heap) (H:Hp):(hidT h H).objs.size = h.objs.size:=PySem.W.hideAll_size _ _
theorem xi5 {h:Heap} {H:Hp} {b:Addr} {o:Obj} (e:h.get? b = some o) (n:H b = none):(hidT h H).get? b = some o :=
  PySem.W.hideAll_get _ e fun hm=>by
    have q:(H b).isSome = true:=(List.mem_filter.mp hm).2
    rw [n] at q; simp at q
theorem xx6 {h:Heap} {H:Hp} {b:Addr} {o:Obj} (e:(hidT h H).get? b = some o):h.get? b = some o ∧ H b = none:=by
  have e':h.get? b = some o:=PySem.W.of_hideAll (trk h H) e
  refine ⟨e',?_⟩
  cases q:H b with
  | none=>rfl
  | some x =>
    have hm:b ∈ trk h H:=List.mem_filter.mpr ⟨List.mem_range.mpr (Heap.lt_size e'),by simp [q]⟩
    have z:(hidT h H).get? b = none:=PySem.W.hideAll_none (trk h H) hm
    rw [z] at e; cases e
noncomputable def wb8 (g h:Heap) (L:Addr):List (Addr × Obj):=(List.range h.objs.size).filterMap fun a=>if a = L ∨ (g.get? a).isSome = true then none else (h.get? a).map fun o=>(a,o)
noncomputable def rest (g h:Heap) (L d:Addr):List (Addr × Obj):=(wb8 g h L).filter fun p=>decide (p.1 ≠ d)
end L2
namespace L2
open PySem PySem.Spec PyProof.Rows
structure Mod (K:PySem.W.Frag) (mg:Str → Option Value) (base:Heap):Prop where
  kin:K.In base
  glob:base.Ns mainGlobals mg
  blt:∃ mb,base.Ns builtinsNs mb ∧ ∀ x:Str,x ≠ "__name__" → mb x = bootBuiltins x
  nolimit:base.NoLimit
structure Cx where
  prog:Program
  w:World
  K:PySem.W.Frag
  mg:Str → Option Value
  base:Heap
  A:Around
  N:List Str
  s₀:Shared
  H₀:Hp
  env:Env
  outer:List Env
  stack:List Env
  ex:List Addr
  fn:Str → Bool
  calm:Bool
  pn:List (Addr × Obj)
  xe:Value → Shared → Prop
noncomputable def frs (l:List Env):List Addr:=l.filterMap (·.frame)
noncomputable abbrev Cx.fs (X:Cx):List Addr:=frs X.outer
noncomputable def Vis (sc:Scope) (x:Str):Prop:=sc.names.lookup x = some .local ∨ sc.names.lookup x = some .cell ∨ sc.names.lookup x = some .free
noncomputable def Loc (sc:Scope) (x:Str):Prop:=sc.names.lookup x = some .local ∨ sc.names.lookup x = some .cell
noncomputable def Look (env:Env) (h:Heap) (m:Str → Option Value) (x:Str) (u:Value):Prop :=
  (env.kindOf x = some .local ∧ m x = some u) ∨ ((env.kindOf x = some .cell ∨ env.kindOf x = some .free) ∧ ∃ c,env.cells.lookup x = some c ∧ h.IsCell c (some u))
structure Cx.Ok (X:Cx):Prop where
  mod:Mod X.K X.mg X.base
  kind:X.env.scope.kind = .function
  glob:X.env.globals = mainGlobals
  blt:X.env.builtins = builtinsNs
  above:X.s₀.heap.objs.size ≤ X.env.locals
  inj:∀ x y c,X.env.cells.lookup x = some c → X.env.cells.lookup y = some c → x = y
  has:∀ x,(X.env.kindOf x = some .cell ∨ X.env.kindOf x = some .free) → ∃ c,X.env.cells.lookup x = some c
  cab:∀ x c,X.fn x = true → X.env.cells.lookup x = some c → X.s₀.heap.objs.size ≤ c
  hd:X.calm = true → X.A.handled = none
  frames:X.A.frames = some X.stack
  stk:X.stack = X.outer ∨ (X.stack = X.env :: X.outer ∧ X.env.frame = some X.env.locals)
  exf:∀ b ∈ X.ex,b ≠ X.env.locals ∧ ∀ x c,X.env.cells.lookup x = some c → c ≠ b
  bs:∀ b o,X.base.get? b = some o → X.s₀.heap.get? b = some o ∧ X.H₀ b = none
  bsz:X.base.objs.size ≤ X.s₀.heap.objs.size
  noex:∀ b o,X.base.get? b = some o → b ∉ X.ex
  exfs:∀ b ∈ X.ex,b ∉ X.fs
  funs:X.s₀.heap.FunFrames X.base X.outer
  frf:∀ b ∈ X.fs,X.H₀ b = none
structure Inv (X:Cx) (pins:List (Addr × Obj)) (σ:List (Option V)) (H:Hp) (s:Shared):Prop where
  ok:X.Ok
  os:s.os = X.s₀.os
  bare:AllBare s.gens
  base:Un X.fs X.ex X.H₀ H X.s₀.heap s.heap
  loc:∃ m,s.heap.Ns X.env.locals m ∧ ∀ (i:Nat) (x:Str) (v:V),X.N[i]? = some x → σ[i]? = some (some v) → Vis X.env.scope x → ∃ u,RelV v u ∧ Look X.env s.heap m x u
  cell:∀ x c,X.env.cells.lookup x = some c → ∃ v,s.heap.IsCell c v
  free:H X.env.locals = none
  freeC:∀ x c,X.env.cells.lookup x = some c → H c = none
  pin:∀ p ∈ X.pn ++ pins,s.heap.get? p.1 = some p.2 ∧ H p.1 = none ∧ p.1 ≠ X.env.locals ∧ p.1 ∉ X.fs ∧ ∀ v,p.2.data ≠ .cell v
  hok:HOk X.prog X.w H s.heap
  len:σ.length = X.N.length
section
variable {X:Cx} {pins:List (Addr × Obj)} {σ:List (Option V)} {H H':Hp} {s:Shared} {h':Heap}
theorem Cx.Ok.nofr (ok:X.Ok) {b:Addr} {o:Obj} (e:X.base.get? b = some o):b ∉ X.fs:=fun hb=>by
  have:=(ok.funs.mem hb).1
  rw [e] at this; cases this
theorem Inv.bs (I:Inv X pins σ H s):∀ b o,X.base.get? b = some o → s.heap.get? b = some o ∧ H b = none:=fun b o e =>
  ⟨I.base.keep b o (I.ok.bs b o e).1 (I.ok.bs b o e).2 (I.ok.nofr e) (I.ok.noex b o e),I.base.free b o (I.ok.bs b o e).1 (I.ok.bs b o e).2 (I.ok.noex b o e)⟩
theorem Inv.bk (I:Inv X pins σ H s):∀ b o,X.base.get? b = some o → s.heap.get? b = some o:=fun b o e=>(I.bs b o e).1
theorem Inv.mod (I:Inv X pins σ H s):Mod X.K X.mg X.base:=I.ok.mod
theorem Inv.kIn (I:Inv X pins σ H s):X.K.In s.heap:=I.ok.mod.kin.keeps I.bk
theorem Inv.nolimit (I:Inv X pins σ H s):s.heap.NoLimit:=I.ok.mod.nolimit.keeps I.bk
theorem Inv.fr (I:Inv X pins σ H s):∃ m,Fr X.base X.env.locals s.heap m :=
  let ⟨m,hn,_⟩:=I.loc
  ⟨m,hn,I.bk,Nat.le_trans I.ok.bsz I.ok.above⟩
theorem Inv.lt (I:Inv X pins σ H s):X.env.locals < s.heap.objs.size:=let ⟨_,hn,_⟩:=I.loc; hn.lt
theorem Inv.sz (I:Inv X pins σ H s):X.s₀.heap.objs.size ≤ s.heap.objs.size:=Nat.le_trans I.ok.above (Nat.le_of_lt I.lt)
theorem Inv.nofs (I:Inv X pins σ H s) {a:Addr} (h:s.heap.objs.size ≤ a):a ∉ X.fs:=fun hb=>by
  obtain ⟨_,o,ho,_⟩:=I.ok.funs.mem hb
  exact absurd (Nat.lt_of_lt_of_le (Heap.lt_size ho) (Nat.le_trans I.sz h)) (Nat.lt_irrefl _)
theorem Inv.cne (I:Inv X pins σ H s):∀ x c,X.env.cells.lookup x = some c → c ≠ X.env.locals:=fun x c e z=>by
  obtain ⟨v,o,ho,hd⟩:=I.cell x c e
  obtain ⟨m,⟨o',es,ep,ho',hd',_⟩,_⟩:=I.loc
  rw [z,ho'] at ho; cases ho; rw [hd'] at hd; cases hd
theorem Inv.funs (I:Inv X pins σ H s):s.heap.FunFrames X.base X.outer:=by
  have all:∀ (l:List Env),(∀ b ∈ frs l,b ∈ X.fs) → X.s₀.heap.FunFrames X.base l → s.heap.FunFrames X.base l:=by
    intro l
    induction l with
    | nil=>intro _ _; trivial
    | cons env r ih =>
      intro hs hl
      obtain ⟨hk,⟨L,o,hf,hn,ho,hd⟩,hr⟩:=hl
      have hL:L ∈ X.fs:=hs L (by unfold frs; rw [List.filterMap_cons,hf]; exact List.mem_cons_self)
      obtain ⟨sl,e⟩:=I.base.slot L o ho (I.ok.frf L hL) hL fun z=>I.ok.exfs L z hL
      exact ⟨hk,⟨L,_,hf,hn,e,hd⟩,ih (fun b hb=>hs b (by unfold frs; rw [List.filterMap_cons,hf]; exact List.mem_cons_of_mem _ hb)) hr⟩
  exact all X.outer (fun _ hb=>hb) I.ok.funs
theorem Inv.stack (I:Inv X pins σ H s):s.heap.FunFrames X.base X.stack:=by
  rcases I.ok.stk with e | ⟨e,hf⟩
  · rw [e]; exact I.funs
  · rw [e]
    obtain ⟨m,hn,_⟩:=I.loc
    refine .cons (by rw [I.ok.kind]; decide) hf hn ?_ I.funs
    exact Heap.get?_none_of_le (Nat.le_trans I.ok.bsz I.ok.above)
theorem Inv.stkSub (I:Inv X pins σ H s):∀ b ∈ frs X.stack,b ∈ X.env.locals :: X.fs:=fun b hb=>by
  rcases I.ok.stk with e | ⟨e,hf⟩
  · rw [e] at hb; exact List.mem_cons_of_mem _ hb
  · rw [e] at hb
    unfold frs at hb
    rw [List.filterMap_cons,hf] at hb
    exact hb
theorem Inv.stkFree (I:Inv X pins σ H s):∀ b ∈ frs X.stack,H b = none:=fun b hb=>by
  rcases List.mem_cons.mp (I.stkSub b hb) with e | hb
  · rw [e]; exact I.free
  · obtain ⟨_,o,ho,_⟩:=I.ok.funs.mem hb
    exact I.base.free b o ho (I.ok.frf b hb) fun z=>I.ok.exfs b z hb
theorem Inv.step {g':Array GenState} {t':Nat} {d':Drawn} {ch:List Addr} (I:Inv X pins σ H s)
    (hch:∀ b ∈ ch,(b ∈ X.ex ∨ X.s₀.heap.objs.size ≤ b) ∧ b ≠ X.env.locals ∧ (∀ x c,X.env.cells.lookup x = some c → c ≠ b) ∧ ∀ p ∈ X.pn ++ pins,p.1 ≠ b)
    (keep:∀ b o,b ≠ X.env.locals → b ∉ X.fs → b ∉ ch → s.heap.get? b = some o → H b = none → h'.get? b = some o)
    (slot:∀ b o,b ≠ X.env.locals → b ∈ X.fs → b ∉ ch → s.heap.get? b = some o → H b = none → ∃ sl,h'.get? b = some { o with slots:=sl }) (free:∀ b o,b ∉ ch → s.heap.get? b = some o → H b = none → H' b = none)
    (there:∀ b o,b ∉ ch → s.heap.get? b = some o → ∃ o',h'.get? b = some o')
    (tups:∀ b xs,H b = some (.tup xs) → H' b = some (.tup xs)) (frzs:∀ b o u,H b = some (.frz o u) → H' b = some (.frz o u)) (tbls:∀ b ps,H b = some (.tbl ps) → ∃ more,H' b = some (.tbl (ps ++ more)))
    (ns:∀ m,s.heap.Ns X.env.locals m → h'.Ns X.env.locals m) (hok:HOk X.prog X.w H' h') (hg:AllBare g') :
    Inv X pins σ H' { s with heap:=h',gens:=g',drawn:=d',toks:=t' }:=by
  have neL:∀ b o,X.s₀.heap.get? b = some o → b ≠ X.env.locals:=fun b o e=>Nat.ne_of_lt (Nat.lt_of_lt_of_le (Heap.lt_size e) I.ok.above)
  have neC:∀ b o,X.s₀.heap.get? b = some o → b ∉ X.ex → b ∉ ch:=fun b o e hx hb=>by
    rcases (hch b hb).1 with z | z
    · exact hx z
    · exact absurd (Nat.lt_of_lt_of_le (Heap.lt_size e) z) (Nat.lt_irrefl _)
  have cellK:∀ x c,X.env.cells.lookup x = some c → ∀ v,s.heap.IsCell c v → h'.IsCell c v:=fun x c e v ⟨o,ho,hd⟩=>by
    have nch:c ∉ ch:=fun z=>(hch c z).2.2.1 x c e rfl
    by_cases hc:c ∈ X.fs
    · obtain ⟨sl,q⟩:=slot c o (I.cne x c e) hc nch ho (I.freeC x c e)
      exact ⟨_,q,hd⟩
    · exact ⟨o,keep c o (I.cne x c e) hc nch ho (I.freeC x c e),hd⟩
  refine ⟨I.ok,I.os,hg,⟨fun b o e n hb hx=>?_,fun b o e n hb hx=>?_,fun b o e n hx=>?_,fun b o e hx=>?_,fun b xs e=>tups b xs (I.base.tups b xs e),fun b o xs e=>frzs b o xs (I.base.frzs b o xs e),fun b ps e=>?_⟩,?_,fun x c e=>?_,?_,fun x c e=>?_,fun p hp=>?_,hok,I.len⟩
  · exact keep b o (neL b o e) hb (neC b o e hx) (I.base.keep b o e n hb hx) (I.base.free b o e n hx)
  · obtain ⟨sl,e1⟩:=I.base.slot b o e n hb hx
    obtain ⟨sl',e2⟩:=slot b _ (neL b o e) hb (neC b o e hx) e1 (I.base.free b o e n hx)
    exact ⟨sl',e2⟩
  · obtain ⟨o',e1⟩:=I.base.there b o e hx
    exact free b o' (neC b o e hx) e1 (I.base.free b o e n hx)
  · obtain ⟨o',e1⟩:=I.base.there b o e hx
    exact there b o' (neC b o e hx) e1
  · obtain ⟨m1,e1⟩:=I.base.tbls b ps e
    obtain ⟨m2,e2⟩:=tbls b _ e1
    exact ⟨m1 ++ m2,by rw [e2,Array.append_assoc]⟩
  · obtain ⟨m,hn,hl⟩:=I.loc
    refine ⟨m,ns m hn,fun i x v e1 e2 e3=>?_⟩
    obtain ⟨u,r,l⟩:=hl i x v e1 e2 e3
    refine ⟨u,r,?_⟩
    rcases l with l | ⟨k,c,e,z⟩
    · exact .inl l
    · exact .inr ⟨k,c,e,cellK x c e _ z⟩
  · obtain ⟨v,z⟩:=I.cell x c e
    exact ⟨v,cellK x c e v z⟩
  · obtain ⟨m,⟨o,_,_,ho,_⟩,_⟩:=I.loc
    exact free _ o (fun z=>(hch _ z).2.1 rfl) ho I.free
  · obtain ⟨v,o,ho,hd⟩:=I.cell x c e
    exact free c o (fun z=>(hch c z).2.2.1 x c e rfl) ho (I.freeC x c e)
  · obtain ⟨e,n,ne,nf,d⟩:=I.pin p hp
    have nch:p.1 ∉ ch:=fun z=>(hch p.1 z).2.2.2 p hp rfl
    exact ⟨keep p.1 p.2 ne nf nch e n,free p.1 p.2 nch e n,ne,nf,d⟩
theorem Inv.un {t':Nat} (I:Inv X pins σ H s) (u:Un X.fs [] H H' s.heap h') (hok:HOk X.prog X.w H' h'):Inv X pins σ H' { s with heap:=h',toks:=t' }:=by
  obtain ⟨m,⟨o,es,ep,ho,r⟩,_⟩:=id I.loc
  obtain ⟨sl,hL⟩:=u.any ho I.free (by simp)
  exact I.step (g':=s.gens) (d':=s.drawn) (ch:=[]) (fun _ z=>nomatch z) (fun b o _ hb _ e n=>u.keep b o e n hb (by simp)) (fun b o _ hb _ e n=>u.slot b o e n hb (by simp)) (fun b o _ e n=>u.free b o e n (by simp)) (fun b o _ e=>u.there b o e (by simp)) u.tups u.frzs u.tbls (fun m' hm=>by
    obtain ⟨o',es',ep',ho',r'⟩:=hm
    rw [ho] at ho'; cases ho'
    exact ⟨_,es',ep',hL,r'⟩) hok I.bare
theorem Inv.call {g':Array GenState} {t':Nat} {d':Drawn} {ch:List Addr} (I:Inv X pins σ H s) (u:Un (frs X.stack) ch H H' s.heap h') (hok:HOk X.prog X.w H' h') (hg:AllBare g')
    (hch:∀ b ∈ ch,(b ∈ X.ex ∨ X.s₀.heap.objs.size ≤ b) ∧ b ≠ X.env.locals ∧ (∀ x c,X.env.cells.lookup x = some c → c ≠ b) ∧ ∀ p ∈ X.pn ++ pins,p.1 ≠ b) :
    Inv X pins σ H' { s with heap:=h',gens:=g',drawn:=d',toks:=t' }:=by
  obtain ⟨m,⟨o,es,ep,ho,r⟩,_⟩:=id I.loc
  obtain ⟨sl,hL⟩:=u.any ho I.free fun z=>(hch _ z).2.1 rfl
  exact I.step (ch:=ch) hch (fun b o hL hb hc e n=>u.keep b o e n (fun z=>(List.mem_cons.mp (I.stkSub b z)).elim hL hb) hc) (fun b o _ _ hc e n=>u.any e n hc) (fun b o hc e n=>u.free b o e n hc) (fun b o hc e=>u.there b o e hc) u.tups u.frzs u.tbls (fun m' hm=>by
    obtain ⟨o',es',ep',ho',r'⟩:=hm
    rw [ho] at ho'; cases ho'
    exact ⟨_,es',ep',hL,r'⟩) hok hg
theorem Inv.turned {t':Nat} {it:Addr} (I:Inv X pins σ H s) (k:∀ b o,b ≠ it → s.heap.get? b = some o → h'.get? b = some o) (hn:H it = none) (hL:it ≠ X.env.locals)
    (h1:it ∈ X.ex ∨ X.s₀.heap.objs.size ≤ it) (h2:∀ x c,X.env.cells.lookup x = some c → c ≠ it) (h3:∀ p ∈ X.pn ++ pins,p.1 ≠ it):Inv X pins σ H { s with heap:=h',toks:=t' }:=by
  have nit:∀ b u,H b = some u → b ≠ it:=fun b u e z=>by rw [z,hn] at e; cases e
  refine I.step (g':=s.gens) (d':=s.drawn) (ch:=[it]) (fun b hb=>?_) (fun b o _ _ hc e _=>k b o (fun z=>hc (by simp [z])) e) (fun b o _ _ hc e _=>⟨o.slots,k b o (fun z=>hc (by simp [z])) e⟩) (fun _ _ _ _ n=>n)
    (fun b o hc e=>⟨o,k b o (fun z=>hc (by simp [z])) e⟩) (fun _ _ e=>e) (fun _ _ _ e=>e) (fun b ps e=>⟨#[],by rw [e]; simp⟩) (fun m hm=>?_) (fun b u e=>?_) I.bare
  · have e:b = it:=by simpa using hb
    subst e
    exact ⟨h1,hL,h2,h3⟩
  · obtain ⟨o,es,ep,ho,r⟩:=hm
    exact ⟨o,es,ep,k _ o (Ne.symm hL) ho,r⟩
  · refine (I.hok b u e).stay (fun c v hc q=>k c v ?_ q) (fun _ q=>q) fun _ _ q=>q
    rcases hc with z | z
    · rw [z]; exact nit b u e
    · exact nit c _ z
theorem Inv.tok (I:Inv X pins σ H s) (t:Nat):Inv X pins σ H { s with toks:=t }:=I.un (h':=s.heap) (t':=t) Un.refl I.hok
theorem Inv.kept {t':Nat} (I:Inv X pins σ H s) (k:∀ b u,s.heap.get? b = some u → h'.get? b = some u):Inv X pins σ H { s with heap:=h',toks:=t' }:=I.un (Un.kept k) (I.hok.kept k)
theorem Inv.laid {a:Addr} {o:HO} {t':Nat} (I:Inv X pins σ H s) (k:∀ b u,s.heap.get? b = some u → h'.get? b = some u) (hp:s.heap.objs.size ≤ a) (new:ObjOk X.prog X.w (upd H a o) h' a o) :
    Inv X pins σ (upd H a o) { s with heap:=h',toks:=t' }:=I.un (Un.laid k hp (I.hok.fresh hp)) (I.hok.laid k hp new)
theorem Inv.write {x e:Addr} {o:HO} {t':Nat} (I:Inv X pins σ H s) (mu:Mut (H x)) (he:e = x ∨ H e = some (.own x)) (k:∀ b u,b ≠ e → s.heap.get? b = some u → h'.get? b = some u) (heo:∃ u,h'.get? e = some u)
    (new:ObjOk X.prog X.w (upd H x o) h' x o):Inv X pins σ (upd H x o) { s with heap:=h',toks:=t' }:=I.un (Un.write mu he k heo) (I.hok.write mu he k heo new)
theorem Inv.pins_of {pins':List (Addr × Obj)} (I:Inv X pins σ H s) (h:∀ p ∈ pins',s.heap.get? p.1 = some p.2 ∧ H p.1 = none ∧ p.1 ≠ X.env.locals ∧ p.1 ∉ X.fs ∧ ∀ v,p.2.data ≠ .cell v):Inv X pins' σ H s :=
  ⟨I.ok,I.os,I.bare,I.base,I.loc,I.cell,I.free,I.freeC,fun p hp=>(List.mem_append.mp hp).elim (fun z=>I.pin p (List.mem_append_left _ z)) (h p),I.hok,I.len⟩
theorem yq4 {N:List Str} (hN:N.Nodup) {i j:Nat} {x:Str} (a:N[i]? = some x) (b:N[j]? = some x):i = j:=by
  obtain ⟨h1,e1⟩:=List.getElem?_eq_some_iff.mp a
  obtain ⟨h2,e2⟩:=List.getElem?_eq_some_iff.mp b
  exact (List.getElem_inj hN).mp (e1.trans e2.symm)
theorem yg2 {M:Model} {A:Around} {E:Value → Shared → Prop} {i:Nat} {x:Str} {v:V} {u:Value} {Q:Unit → Shared → Prop} (I:Inv X pins σ H s) (hN:X.N.Nodup) (hi:X.N[i]? = some x) (hx:Loc X.env.scope x) (r:RelV v u)
    (h:∀ s',Inv X pins (σ.set i (some v)) H s' → (∃ a,Heap.SameBut a s.heap s'.heap ∧ (a = X.env.locals ∨ X.env.cells.lookup x = some a)) → Q () s') (hf:X.fn x = true ∨ X.env.scope.names.lookup x = some .local:=by first | exact .inl rfl | exact .inr rfl | assumption):wpAny M A (storeName X.env x u) Q E s:=by
  obtain ⟨m,hn,hl⟩:=id I.loc
  have hcls:(X.env.scope.kind == .class || (X.env.scope.kind == .module && X.env.locals != X.env.globals)) = false:=by rw [I.ok.kind]; rfl
  have hiσ:i < σ.length:=by rw [I.len]; exact (List.getElem?_eq_some_iff.mp hi).1
  have cne:=I.cne
  have tracked:∀ {a:Addr} {h':Heap},(∃ o,s.heap.get? a = some o ∧ H a = none) → Heap.SameBut a s.heap h' → HOk X.prog X.w H h':=fun {a h'} ha hs b ob e=>by
    obtain ⟨_,_,hfree⟩:=ha
    refine (I.hok b ob e).stay (fun c w' hc q=>(hs.2 c ?_).trans q) (fun _ q=>q) fun _ _ q=>q
    rintro rfl
    rcases hc with rfl | hc
    · rw [hfree] at e; cases e
    · rw [hfree] at hc; cases hc
  rcases hx with hk | hk
  · refine wpAny_storeName_local hk hn (fun h' hn' hs=>?_) hcls
    obtain ⟨oL,_,_,hoL,_⟩:=id hn
    refine h _ ⟨I.ok,I.os,I.bare,⟨fun b o e n hb hx=>?_,fun b o e n hb hx=>?_,I.base.free,fun b o e hx=>?_,I.base.tups,I.base.frzs,I.base.tbls⟩,⟨_,hn',fun j y v' e1 e2 e3=>?_⟩,fun y c e=>?_,I.free,I.freeC,fun p hp=>?_,tracked ⟨oL,hoL,I.free⟩ hs,by simpa using I.len⟩ ⟨_,hs,.inl rfl⟩
    · exact (hs.2 b (Nat.ne_of_lt (Nat.lt_of_lt_of_le (Heap.lt_size e) I.ok.above))).trans (I.base.keep b o e n hb hx)
    · obtain ⟨sl,e1⟩:=I.base.slot b o e n hb hx
      exact ⟨sl,(hs.2 b (Nat.ne_of_lt (Nat.lt_of_lt_of_le (Heap.lt_size e) I.ok.above))).trans e1⟩
    · obtain ⟨o',e1⟩:=I.base.there b o e hx
      exact ⟨o',(hs.2 b (Nat.ne_of_lt (Nat.lt_of_lt_of_le (Heap.lt_size e) I.ok.above))).trans e1⟩
    · by_cases hj:j = i
      · subst hj
        rw [hi] at e1; cases e1
        rw [List.getElem?_set_self hiσ] at e2
        cases e2
        exact ⟨u,r,.inl ⟨hk,by simp⟩⟩
      · rw [List.getElem?_set_ne (Ne.symm hj)] at e2
        obtain ⟨u',r',q⟩:=hl j y v' e1 e2 e3
        refine ⟨u',r',?_⟩
        rcases q with ⟨k,e⟩ | ⟨k,c,e,z⟩
        · refine .inl ⟨k,?_⟩
          have:y ≠ x:=fun e=>hj (yq4 hN e1 (e ▸ hi))
          simp [this,e]
        · exact .inr ⟨k,c,e,z.sameBut hs (cne y c e)⟩
    · obtain ⟨w',z⟩:=I.cell y c e
      exact ⟨w',z.sameBut hs (cne y c e)⟩
    · obtain ⟨e,n,ne,nf,d⟩:=I.pin p hp
      exact ⟨(hs.2 p.1 ne).trans e,n,ne,nf,d⟩
  · have hfn:X.fn x = true:=by
      rcases hf with z | z
      · exact z
      · rw [z] at hk; cases hk
    obtain ⟨c,hc⟩:=I.ok.has x (.inl hk)
    obtain ⟨w',z⟩:=I.cell x c hc
    refine wpAny_storeName_cell I.ok.kind hk hc z (fun h' hc' hs=>?_)
    obtain ⟨oc,hoc,hocd⟩:=id z
    refine h { s with heap:=h' } ⟨I.ok,I.os,I.bare,⟨fun b o e n hb hx=>?_,fun b o e n hb hx=>?_,I.base.free,fun b o e hx=>?_,I.base.tups,I.base.frzs,I.base.tbls⟩,⟨m,hn.sameBut hs (Ne.symm (cne x c hc)),fun j y v' e1 e2 e3=>?_⟩,fun y c' e=>?_,I.free,I.freeC,fun p hp=>?_,tracked ⟨oc,hoc,I.freeC x c hc⟩ hs,by simpa using I.len⟩ ⟨c,hs,.inr hc⟩
    · exact (hs.2 b (Nat.ne_of_lt (Nat.lt_of_lt_of_le (Heap.lt_size e) (I.ok.cab x c hfn hc)))).trans (I.base.keep b o e n hb hx)
    · obtain ⟨sl,e1⟩:=I.base.slot b o e n hb hx
      exact ⟨sl,(hs.2 b (Nat.ne_of_lt (Nat.lt_of_lt_of_le (Heap.lt_size e) (I.ok.cab x c hfn hc)))).trans e1⟩
    · obtain ⟨o',e1⟩:=I.base.there b o e hx
      exact ⟨o',(hs.2 b (Nat.ne_of_lt (Nat.lt_of_lt_of_le (Heap.lt_size e) (I.ok.cab x c hfn hc)))).trans e1⟩
    · by_cases hj:j = i
      · subst hj
        rw [hi] at e1; cases e1
        rw [List.getElem?_set_self hiσ] at e2
        cases e2
        exact ⟨u,r,.inr ⟨.inl hk,c,hc,hc'⟩⟩
      · rw [List.getElem?_set_ne (Ne.symm hj)] at e2
        obtain ⟨u',r',q⟩:=hl j y v' e1 e2 e3
        refine ⟨u',r',?_⟩
        rcases q with q | ⟨k,c',e,z'⟩
        · exact .inl q
        · refine .inr ⟨k,c',e,z'.sameBut hs ?_⟩
          rintro rfl
          exact hj (yq4 hN e1 (I.ok.inj _ _ _ e hc ▸ hi))
    · by_cases hcc:c' = c
      · subst hcc; exact ⟨_,hc'⟩
      · obtain ⟨w2,z2⟩:=I.cell y c' e
        exact ⟨w2,z2.sameBut hs hcc⟩
    · obtain ⟨e,n,ne,nf,d⟩:=I.pin p hp
      refine ⟨(hs.2 p.1 ?_).trans e,n,ne,nf,d⟩
      intro q
      rw [q,hoc] at e
      have q':oc = p.2:=Option.some.inj e
      exact d w' (by rw [← q']; exact hocd)
theorem zu8 {M:Model} {A:Around} {E:Value → Shared → Prop} {i:Nat} {x:Str} {v:V} {u:Value} {Q:Unit → Shared → Prop} (I:Inv X pins σ H s) (hN:X.N.Nodup) (hi:X.N[i]? = some x) (hx:Loc X.env.scope x) (r:RelV v u)
    (h:∀ s',Inv X pins (σ.set i (some v)) H s' → Q () s') (hf:X.fn x = true ∨ X.env.scope.names.lookup x = some .local:=by first | exact .inl rfl | exact .inr rfl | assumption):wpAny M A (storeName X.env x u) Q E s :=
  yg2 I hN hi hx r (fun s' I' _=>h s' I') hf
theorem Inv.call' {s':Shared} {ch:List Addr} (I:Inv X pins σ H s) (ho:s'.os = s.os) (u:Un (frs X.stack) ch H H' s.heap s'.heap) (hok:HOk X.prog X.w H' s'.heap) (hg:AllBare s'.gens)
    (hch:∀ b ∈ ch,(b ∈ X.ex ∨ X.s₀.heap.objs.size ≤ b) ∧ b ≠ X.env.locals ∧ (∀ x c,X.env.cells.lookup x = some c → c ≠ b) ∧ ∀ p ∈ X.pn ++ pins,p.1 ≠ b):Inv X pins σ H' s':=by
  obtain ⟨h',g',d',t',o'⟩:=s'
  have e:o' = s.os:=ho
  subst e
  exact I.call (g':=g') (t':=t') (d':=d') u hok hg hch
end
noncomputable abbrev XK:=Value → Option Addr → Hp → Prop
noncomputable abbrev St:=List (Option V)
noncomputable abbrev VK:=V → Hp → Prop
noncomputable abbrev TE:=St → Hp → VK → Prop
noncomputable abbrev TT:=St → Hp → (Bool → Hp → Prop) → Prop
noncomputable abbrev TA:=St → Hp → (List V → Hp → Prop) → Prop
structure Ends where
  nx:St → Hp → Prop
  rt:VK
  bk:St → Hp → Prop:=fun _ _=>False
  ct:St → Hp → Prop:=fun _ _=>False
noncomputable abbrev TS:=Ends → St → Hp → Prop
noncomputable def EP (X:Cx) (pins:List (Addr × Obj)) (σ:St) (Q:VK) (u:Value) (s':Shared):Prop:=∃ v H',Inv X pins σ H' s' ∧ RelV v u ∧ Q v H'
noncomputable def TP (X:Cx) (pins:List (Addr × Obj)) (σ:St) (Q:Bool → Hp → Prop) (b:Bool) (s':Shared):Prop:=∃ H',Inv X pins σ H' s' ∧ Q b H'
noncomputable def AP (X:Cx) (pins:List (Addr × Obj)) (σ:St) (Q:List V → Hp → Prop) (us:List Value) (s':Shared):Prop:=∃ vs H',Inv X pins σ H' s' ∧ Vals vs us ∧ Q vs H'
noncomputable def SP (X:Cx) (pins:List (Addr × Obj)) (D:Ends) (f:Flow) (s':Shared):Prop :=
  match f with
  | .next=>∃ σ' H',Inv X pins σ' H' s' ∧ D.nx σ' H'
  | .brk=>∃ σ' H',Inv X pins σ' H' s' ∧ D.bk σ' H'
  | .cont=>∃ σ' H',Inv X pins σ' H' s' ∧ D.ct σ' H'
  | .ret u=>∃ v σ' H',Inv X pins σ' H' s' ∧ RelV v u ∧ D.rt v H'
noncomputable def PE (X:Cx) (e:Expr) (t:TE):Prop :=
  ∀ (pins:List (Addr × Obj)) (s:Shared) (σ:St) (H:Hp) (Q:VK),Inv X pins σ H s → t σ H Q → wpAny (model X.prog X.w) X.A (eval e X.env) (EP X pins σ Q) X.xe s
noncomputable def PT (X:Cx) (e:Expr) (t:TT):Prop :=
  ∀ (pins:List (Addr × Obj)) (s:Shared) (σ:St) (H:Hp) (Q:Bool → Hp → Prop),Inv X pins σ H s → t σ H Q → wpAny (model X.prog X.w) X.A (isTrue e X.env (eval e X.env)) (TP X pins σ Q) X.xe s
noncomputable def PW (X:Cx) (e:Expr) (t:TT):Prop :=
  ∀ (whole:Sem Value) (pins:List (Addr × Obj)) (s:Shared) (σ:St) (H:Hp) (Q:Bool → Hp → Prop),Inv X pins σ H s → t σ H Q → wpAny (model X.prog X.w) X.A (isTrue e X.env whole) (TP X pins σ Q) X.xe s
theorem PW.pt {X:Cx} {e:Expr} {t:TT} (h:PW X e t):PT X e t:=h _
noncomputable def PA (X:Cx) (es:List Expr) (t:TA):Prop :=
  ∀ (pos:Pos) (pins:List (Addr × Obj)) (s:Shared) (σ:St) (H:Hp) (Q:List V → Hp → Prop),Inv X pins σ H s → t σ H Q → wpAny (model X.prog X.w) X.A (spliced (backTo pos (starEach es X.env))) (AP X pins σ Q) X.xe s
noncomputable def PS (X:Cx) (st:Stmt) (t:TS):Prop :=
  ∀ (pins:List (Addr × Obj)) (s:Shared) (σ:St) (H:Hp) (D:Ends),Inv X pins σ H s → t D σ H → wpAny (model X.prog X.w) X.A (exec st X.env) (SP X pins D) X.xe s
noncomputable def PSs (X:Cx) (st:List Stmt) (t:TS):Prop :=
  ∀ (pins:List (Addr × Obj)) (s:Shared) (σ:St) (H:Hp) (D:Ends),Inv X pins σ H s → t D σ H → wpAny (model X.prog X.w) X.A (execs st X.env) (SP X pins D) X.xe s
theorem thn {α:Type} {t:Sem α} {Q Q':α → Shared → Prop} {M:Model} {A:Around} {E:Value → Shared → Prop} {s:Shared} (h:wpAny M A t Q E s) (hQ:∀ a s,Q a s → Q' a s):wpAny M A t Q' E s:=wpAny_mono h hQ fun _ _ x=>x
end L2
namespace L2
open PySem PySem.Spec PyProof.Rows
section
variable {X:Cx}
noncomputable def tVar (i:Nat):TE:=fun σ H Q=>∃ v,σ[i]? = some (some v) ∧ Q v H
noncomputable def tC (v:V):TE:=fun _ H Q=>Q v H
theorem wi1 {i:Nat} {x:Str} {pos:Pos} (hN:X.N[i]? = some x) (hv:Vis X.env.scope x) (hd:(x == ("__debug__":Str)) = false:=by decide) (hcd:(x == ("__classdict__":Str)) = false:=by decide):PE X (.Name x pos) (tVar i):=by
  intro pins s σ H Q I h
  obtain ⟨v,e,h⟩:=h
  obtain ⟨m,hn,hl⟩:=I.loc
  obtain ⟨u,r,l⟩:=hl i x v hN e hv
  have fin:EP X pins σ Q u s:=⟨v,H,I,r,h⟩
  rcases l with ⟨hk,hm⟩ | ⟨hk,c,hc,hcell⟩
  · exact wpAny_Name (wpAny_loadName_local I.ok.kind hk hn hm fin) hd
  · rcases hk with hk | hk
    · exact wpAny_Name (wpAny_loadName_cell I.ok.kind hk hc hcell fin) hd
    · exact wpAny_Name (wpAny_loadName_free I.ok.kind hk hc hcell fin hcd) hd
theorem za6 {i j pos}:PE X (.Constant (.int i) j pos) (tC (.int i)):=fun _ _ _ H _ I h=>wpAny_Constant_int ⟨.int i,H,I.tok _,⟨_,rfl⟩,h⟩
theorem yh3 {b j pos}:PE X (.Constant (.bool b) j pos) (tC (.bl b)):=fun _ _ _ H _ I h=>Constant_bool ⟨.bl b,H,I,rfl,h⟩
theorem zp3 {j pos}:PE X (.Constant .none j pos) (tC .non):=fun _ _ _ H _ I h=>Constant_none ⟨.non,H,I,rfl,h⟩
theorem zd0 {x j pos}:PE X (.Constant (.str x) j pos) (tC (.str x)):=fun _ _ _ H _ I h=>Calls.Constant_str ⟨.str x,H,I.tok _,⟨_,rfl⟩,h⟩
noncomputable def Gl (X:Cx) (x:Str):Prop:=X.env.kindOf x = some .globalImplicit
theorem yd9 {E:Value → Shared → Prop} {pins:List (Addr × Obj)} {s:Shared} {σ:St} {H:Hp} {x:Str} {u:Value} {pos:Pos} {Q:Value → Shared → Prop} (I:Inv X pins σ H s) (hg:Gl X x) (hm:X.mg x = some u) (h:Q u s)
    (hd:(x == ("__debug__":Str)) = false:=by decide):wpAny (model X.prog X.w) X.A (eval (.Name x pos) X.env) Q E s :=
  Calls.Name_function_global I.ok.kind hg (Calls.loadGlobal_global (by rw [I.ok.glob]; exact I.mod.glob.keeps I.bk) hm h) hd
theorem zt6 {E:Value → Shared → Prop} {pins:List (Addr × Obj)} {s:Shared} {σ:St} {H:Hp} {x:Str} {u:Value} {pos:Pos} {Q:Value → Shared → Prop} (I:Inv X pins σ H s) (hg:Gl X x) (hm:X.mg x = none) (hv:bootBuiltins x = some u) (h:Q u s)
    (hn:x ≠ "__name__":=by decide) (hd:(x == ("__debug__":Str)) = false:=by decide):wpAny (model X.prog X.w) X.A (eval (.Name x pos) X.env) Q E s:=by
  obtain ⟨mb,h1,h2⟩:=I.mod.blt
  exact Calls.Name_function_global I.ok.kind hg (Calls.loadGlobal_builtin (by rw [I.ok.glob]; exact I.mod.glob.keeps I.bk) hm (by rw [I.ok.blt]; exact h1.keeps I.bk) ((h2 x hn).trans hv) h) hd
theorem zm8 {x:Str} {v:V} {u:Value} {pos:Pos} (hg:Gl X x) (hm:X.mg x = some u) (r:RelV v u) (hd:(x == ("__debug__":Str)) = false:=by decide):PE X (.Name x pos) (tC v) :=
  fun _ _ _ H _ I h=>yd9 I hg hm ⟨v,H,I,r,h⟩ hd
theorem yc8 {x:Str} {v:V} {u:Value} {pos:Pos} (hg:Gl X x) (hm:X.mg x = none) (hv:bootBuiltins x = some u) (r:RelV v u) (hn:x ≠ "__name__":=by decide) (hd:(x == ("__debug__":Str)) = false:=by decide):PE X (.Name x pos) (tC v) :=
  fun _ _ _ H _ I h=>zt6 I hg hm hv ⟨v,H,I,r,h⟩ hn hd
variable {a b:Expr} {ta tb:TE} {pos:Pos}
noncomputable def PC (X:Cx) (op:CmpOp) (a b:Expr) (t:TE):Prop :=
  ∀ (pins:List (Addr × Obj)) (s:Shared) (σ:St) (H:Hp) (Q:VK),Inv X pins σ H s → t σ H Q →
    wpAny (model X.prog X.w) X.A (eval a X.env) (fun v s₁=>wpAny (model X.prog X.w) X.A (eval b X.env) (fun u s₂=>wpAny (model X.prog X.w) X.A (compareOp op v u) (EP X pins σ Q) X.xe s₂) X.xe s₁) X.xe s
noncomputable def tB (t:TE):TT:=fun σ H Q=>t σ H fun x H1=>∃ c,x = .bl c ∧ Q c H1
theorem wh6 {op:CmpOp} {t:TE} (h:PC X op a b t) (h1:behindInMarks op b = false:=by first | exact nobehind _ (by decide) (by decide) | rfl):PT X (.Compare a [op] [b] pos) (tB t):=by
  intro pins s σ H Q I hw
  refine wpAny_isTrue_Compare1 (thn (h pins s σ H _ I hw) fun v s1 h1=>thn h1 fun u s2 h2=>thn h2 fun c s3 ⟨x,H1,I1,r1,q1⟩=>?_) h1
  obtain ⟨d,rfl,q⟩:=q1
  cases r1
  exact wpAny_truthy_bool ⟨H1,I1,q⟩
theorem zl8 {e:Expr} {t:TE} (h:PE X e t) (he:∀ whole,isTrue e X.env whole = (do let v ← whole; standAt e.pos; holding [v] (truthy v)):=by intro _; rfl):PT X e (tB t):=by
  intro pins s σ H Q I hw
  refine isTrue_plain (thn (h pins s σ H _ I hw) fun v s1 ⟨x,H1,I1,r1,q1⟩=>?_) (he _)
  obtain ⟨d,rfl,q⟩:=q1
  cases r1
  exact wpAny_truthy_bool ⟨H1,I1,q⟩
variable {tA tB':TT} {rest:List Expr}
noncomputable def tAnd (t u:TT):TT:=fun σ H Q=>t σ H fun c H1=>if c = true then u σ H1 Q else Q false H1
noncomputable def tOr (t u:TT):TT:=fun σ H Q=>t σ H fun c H1=>if c = true then Q true H1 else u σ H1 Q
noncomputable def tNot (t:TT):TT:=fun σ H Q=>t σ H fun c H1=>Q (!c) H1
theorem yl6 (ha:PT X a tA):PW X (.BoolOp .And [a] pos) tA:=by
  intro wh pins s σ H Q I h
  refine isTrue_and (thn (ha pins s σ H Q I h) fun c s1 e=>?_)
  cases c with
  | true=>exact isTrue_and_nil e
  | false=>exact e
theorem zm4 (ha:PT X a tA):PW X (.BoolOp .Or [a] pos) tA:=by
  intro wh pins s σ H Q I h
  refine isTrue_or (thn (ha pins s σ H Q I h) fun c s1 e=>?_)
  cases c with
  | false=>exact isTrue_or_nil e
  | true=>exact e
theorem yp9 (ha:PT X a tA) (hb:PW X (.BoolOp .And (b :: rest) pos) tB'):PW X (.BoolOp .And (a :: b :: rest) pos) (tAnd tA tB'):=by
  intro wh pins s σ H Q I h
  refine isTrue_and (thn (ha pins s σ H _ I h) fun c s1 ⟨H1,I1,q1⟩=>?_)
  cases c with
  | true=>exact hb wh pins s1 σ H1 Q I1 q1
  | false=>exact ⟨H1,I1,q1⟩
theorem zn8 (ha:PT X a tA) (hb:PW X (.BoolOp .Or (b :: rest) pos) tB'):PW X (.BoolOp .Or (a :: b :: rest) pos) (tOr tA tB'):=by
  intro wh pins s σ H Q I h
  refine isTrue_or (thn (ha pins s σ H _ I h) fun c s1 ⟨H1,I1,q1⟩=>?_)
  cases c with
  | true=>exact ⟨H1,I1,q1⟩
  | false=>exact hb wh pins s1 σ H1 Q I1 q1
theorem ya0 (ha:PT X a tA):PT X (.UnaryOp .Not a pos) (tNot tA):=by
  intro pins s σ H Q I h
  exact isTrue_not (ha pins s σ H (fun c H1=>Q (!c) H1) I h)
noncomputable def we7 (ta tb:TE):TE:=fun σ H Q=>ta σ H fun x H1=>∃ c,x = .bl c ∧ if c = true then tb σ H1 Q else Q (.bl false) H1
theorem wi3 {op} {t:TE} (h:PE X a t):PE X (.BoolOp op [a] pos) t:=fun pins s σ H Q I hw=>BoolOp_one (h pins s σ H Q I hw)
theorem wi4 (ha:PE X a ta) (hb:PE X (.BoolOp .And (b :: rest) pos) tb):PE X (.BoolOp .And (a :: b :: rest) pos) (we7 ta tb):=by
  intro pins s σ H Q I h
  refine BoolOp_and (thn (ha pins s σ H _ I h) fun v s1 ⟨x,H1,I1,r1,q1⟩=>?_)
  obtain ⟨c,rfl,q1⟩:=q1
  cases r1
  refine wpAny_truthy_bool ?_
  cases c with
  | true=>exact hb pins s1 σ H1 Q I1 q1
  | false=>exact ⟨.bl false,H1,I1,rfl,q1⟩
noncomputable def tIf (t:TT) (ta tb:TE):TE:=fun σ H Q=>t σ H fun c H1=>if c = true then ta σ H1 Q else tb σ H1 Q
theorem xg9 {c:Expr} (hc:PT X c tA) (ha:PE X a ta) (hb:PE X b tb):PE X (.IfExp c a b pos) (tIf tA ta tb):=by
  intro pins s σ H Q I h
  refine wpAny_IfExp (thn (hc pins s σ H _ I h) fun d s1 ⟨H1,I1,q1⟩=>?_)
  cases d with
  | true=>exact ha pins s1 σ H1 Q I1 q1
  | false=>exact hb pins s1 σ H1 Q I1 q1
end
end L2
namespace L2
open PySem PySem.Spec PyProof.Rows
noncomputable def SqL (K:PySem.W.Frag) (H:Hp) (a:Addr) (xs:List V):Prop :=
  Rd H a (.lst xs) ∨
    ∃ (o:Obj) (its:Array Value) (n:Nat),K.lookup a = some o ∧ o.cls = .type "list" ∧ o.dict = none ∧ o.data = .seq its n ∧ its.size ≤ sizeLine ∧ Vals xs its.toList
noncomputable def SqT (K:PySem.W.Frag) (H:Hp) (a:Addr) (xs:List V):Prop :=
  Rd H a (.tup xs) ∨
    ∃ (o:Obj) (its:Array Value) (n:Nat),K.lookup a = some o ∧ o.cls = .type "tuple" ∧ o.data = .seq its n ∧ its.size ≤ sizeLine ∧ Vals xs its.toList
noncomputable def absV:Value → Option V
  | .none=>some .non
  | .bool b=>some (.bl b)
  | .int i _=>some (.int i)
  | .str x _=>some (.str x)
  | .bytes b _=>some (.byt b)
  | .float b _=>some (.flt b)
  | .ref a=>some (.ref a)
  | .type n=>some (.ty n)
  | _=>none
theorem RelV.abs {x:V} {u:Value} (r:RelV x u):absV u = some x:=by
  cases x with
  | non=>cases r; rfl
  | bl _=>cases r; rfl
  | int _=>obtain ⟨t,rfl⟩:=r; rfl
  | str _=>obtain ⟨t,rfl⟩:=r; rfl
  | byt _=>obtain ⟨t,rfl⟩:=r; rfl
  | flt _=>obtain ⟨t,rfl⟩:=r; rfl
  | ref _=>cases r; rfl
  | ty _=>cases r; rfl
theorem RelV.inj {x y:V} {u:Value} (r:RelV x u) (q:RelV y u):x = y:=Option.some.inj (r.abs.symm.trans q.abs)
theorem Vals.inj:∀ {xs ys:List V} {us:List Value},Vals xs us → Vals ys us → xs = ys
  | _,_,_,.nil,.nil=>rfl
  | _,_,_,.cons r t,.cons r' t'=>by rw [r.inj r',Vals.inj t t']
section
variable {X:Cx} {pins:List (Addr × Obj)} {σ:St} {H:Hp} {s:Shared} {a:Addr} {xs ys:List V}
theorem SqL.of {K:PySem.W.Frag} (h:H a = some (.lst xs)):SqL K H a xs:=.inl (.inl h)
theorem SqT.of {K:PySem.W.Frag} (h:H a = some (.tup xs)):SqT K H a xs:=.inl (.inl h)
theorem Inv.list (I:Inv X pins σ H s) (h:SqL X.K H a xs):∃ its:List Value,Vals xs its ∧ PlainL s.heap a its.toArray ∧ xs.length ≤ sizeLine:=by
  rcases h with h | ⟨o,its,n,hk,hc,hd,hs,hz,r⟩
  · obtain ⟨z,its,n,r,e⟩:=h.ok I.hok
    exact ⟨its,r,⟨_,n,e,rfl,rfl,rfl⟩,z⟩
  · refine ⟨its.toList,r,⟨o,n,I.kIn a o hk,hc,hd,by simpa using hs⟩,?_⟩
    have e:=r.length
    simp only [Array.length_toList] at e
    omega
theorem Inv.tuple (I:Inv X pins σ H s) (h:SqT X.K H a xs):∃ its:List Value,Vals xs its ∧ IsTup s.heap a its.toArray ∧ xs.length ≤ sizeLine:=by
  rcases h with h | ⟨o,its,n,hk,hc,hs,hz,r⟩
  · obtain ⟨z,its,r,p⟩:=h.ok I.hok
    exact ⟨its,r,p,z⟩
  · refine ⟨its.toList,r,⟨o,I.kIn a o hk,hc,n,by simpa using hs⟩,?_⟩
    have e:=r.length
    simp only [Array.length_toList] at e
    omega
theorem Inv.list_inj (I:Inv X pins σ H s) (h:SqL X.K H a xs) (h':SqL X.K H a ys):xs = ys:=by
  obtain ⟨its,r,⟨o,n,e,_,_,d⟩,_⟩:=I.list h
  obtain ⟨its',r',⟨o',n',e',_,_,d'⟩,_⟩:=I.list h'
  rw [e] at e'; cases e'
  rw [d] at d'
  injection d' with d1 _
  have:its = its':=by simpa using congrArg Array.toList d1
  subst this
  exact r.inj r'
end
noncomputable abbrev Cx.wish (X:Cx) (E:Value → Shared → Prop):Cx:={ X with xe:=E }
noncomputable abbrev Cx.nox (X:Cx):Cx:=X.wish fun _ _=>False
theorem Cx.Ok.wish {X:Cx} (ok:X.Ok) (E:Value → Shared → Prop):(X.wish E).Ok :=
  ⟨ok.mod,ok.kind,ok.glob,ok.blt,ok.above,ok.inj,ok.has,ok.cab,ok.hd,ok.frames,ok.stk,ok.exf,ok.bs,ok.bsz,ok.noex,ok.exfs,ok.funs,ok.frf⟩
theorem Cx.Ok.unwish {X:Cx} {E:Value → Shared → Prop} (ok:(X.wish E).Ok):X.Ok :=
  ⟨ok.mod,ok.kind,ok.glob,ok.blt,ok.above,ok.inj,ok.has,ok.cab,ok.hd,ok.frames,ok.stk,ok.exf,ok.bs,ok.bsz,ok.noex,ok.exfs,ok.funs,ok.frf⟩
section
variable {X:Cx} {pins:List (Addr × Obj)} {σ:St} {H:Hp} {s:Shared} {E:Value → Shared → Prop}
theorem Inv.wish (I:Inv X pins σ H s) (E:Value → Shared → Prop):Inv (X.wish E) pins σ H s:=⟨I.ok.wish E,I.os,I.bare,I.base,I.loc,I.cell,I.free,I.freeC,I.pin,I.hok,I.len⟩
theorem Inv.unwish (I:Inv (X.wish E) pins σ H s):Inv X pins σ H s:=⟨I.ok.unwish,I.os,I.bare,I.base,I.loc,I.cell,I.free,I.freeC,I.pin,I.hok,I.len⟩
theorem SP.unwish {D:Ends} {f:Flow} {s':Shared} (h:SP (X.wish E) pins D f s'):SP X pins D f s':=by
  cases f with
  | next=>obtain ⟨σ',H',I,q⟩:=h; exact ⟨σ',H',I.unwish,q⟩
  | brk=>obtain ⟨σ',H',I,q⟩:=h; exact ⟨σ',H',I.unwish,q⟩
  | cont=>obtain ⟨σ',H',I,q⟩:=h; exact ⟨σ',H',I.unwish,q⟩
  | ret u=>obtain ⟨v,σ',H',I,r,q⟩:=h; exact ⟨v,σ',H',I.unwish,r,q⟩
theorem PE.nox {e:Expr} {t:TE} (h:PE X.nox e t):PE X e t:=fun pins s σ H Q I hw =>
  wpAny_mono (h pins s σ H Q (I.wish _) hw) (fun _ _ ⟨v,H',I',r,q⟩=>⟨v,H',I'.unwish,r,q⟩) fun _ _ z=>False.elim z
theorem PT.nox {e:Expr} {t:TT} (h:PT X.nox e t):PT X e t:=fun pins s σ H Q I hw =>
  wpAny_mono (h pins s σ H Q (I.wish _) hw) (fun _ _ ⟨H',I',q⟩=>⟨H',I'.unwish,q⟩) fun _ _ z=>False.elim z
theorem PSs.nox {st:List Stmt} {t:TS} (h:PSs X.nox st t):PSs X st t:=fun pins s σ H D I hw =>
  wpAny_mono (h pins s σ H D (I.wish _) hw) (fun _ _ q=>q.unwish) fun _ _ z=>False.elim z
end
section
variable {X:Cx} {st:Stmt} {rest:List Stmt} {t u:TS} {e:Expr} {te:TE} {pos:Pos}
noncomputable def tNext:TS:=fun D σ H=>D.nx σ H
noncomputable def tSeq (t u:TS):TS:=fun D σ H=>t { D with nx:=u D } σ H
theorem zc6:PSs X [] tNext:=fun _ _ σ H _ I h=>wpAny_execs_nil ⟨σ,H,I,h⟩
theorem za5 (h1:PS X st t) (h2:PSs X rest u):PSs X (st :: rest) (tSeq t u):=by
  intro pins s σ H D I h
  refine wpAny_execs_cons (thn (h1 pins s σ H { D with nx:=u D } I h) fun f s1 q=>?_)
  cases f with
  | next =>
    obtain ⟨σ',H',I',q⟩:=q
    exact h2 pins s1 σ' H' D I' q
  | ret v=>exact q
  | brk=>exact q
  | cont=>exact q
theorem za8 (h1:PS X st t):PSs X [st] t:=by
  intro pins s σ H D I h
  refine wpAny_execs_cons (thn (h1 pins s σ H D I h) fun f s1 q=>?_)
  cases f with
  | next=>exact wpAny_execs_nil q
  | ret v=>exact q
  | brk=>exact q
  | cont=>exact q
theorem Inv.quiet {pins:List (Addr × Obj)} {σ:St} {H:Hp} {s:Shared} (I:Inv X pins σ H s):interactive X.env = false:=by simp [interactive,I.ok.kind]
noncomputable def xf7 (te:TE):TS:=fun D σ H=>te σ H fun _ H1=>D.nx σ H1
theorem zj2 (he:PE X e te) (hs:swapsWith e none pos.line X.env = pure false:=by rfl):PS X (.Expr e pos) (xf7 te):=by
  intro pins s σ H D I h
  exact wpAny_Expr_any (thn (he pins s σ H _ I h) fun v s1 ⟨x,H1,I1,r1,q1⟩=>⟨σ,H1,I1,q1⟩) I.quiet hs
noncomputable def tRet (te:TE):TS:=fun D σ H=>te σ H D.rt
theorem zc5 (he:PE X e te):PS X (.Return (some e) pos) (tRet te):=by
  intro pins s σ H D I h
  exact wpAny_Return_some (thn (he pins s σ H _ I h) fun v s1 ⟨x,H1,I1,r1,q1⟩=>⟨x,σ,H1,I1,r1,q1⟩)
noncomputable def tIfS (c:TT) (t u:TS):TS:=fun D σ H=>c σ H fun b H1=>if b = true then t D σ H1 else u D σ H1
theorem ze6 {c:Expr} {a b:List Stmt} {tc:TT} (hc:PT X c tc) (ha:PSs X a t) (hb:PSs X b u):PS X (.If c a b pos) (tIfS tc t u):=by
  intro pins s σ H D I h
  refine wpAny_If (thn (hc pins s σ H _ I h) fun d s1 ⟨H1,I1,q1⟩=>?_)
  cases d with
  | true=>exact ha pins s1 σ H1 D I1 q1
  | false=>exact hb pins s1 σ H1 D I1 q1
end
noncomputable abbrev TG:=V → St → Hp → (St → Hp → Prop) → Prop
noncomputable abbrev TGs:=List V → St → Hp → (St → Hp → Prop) → Prop
noncomputable def PG (X:Cx) (target:Expr) (t:TG):Prop :=
  ∀ (pins:List (Addr × Obj)) (s:Shared) (σ:St) (H:Hp) (v:V) (u:Value) (Q:St → Hp → Prop),Inv X pins σ H s → RelV v u → t v σ H Q →
    wpAny (model X.prog X.w) X.A (assign target X.env u) (fun _ s'=>∃ σ' H',Inv X pins σ' H' s' ∧ Q σ' H') X.xe s
noncomputable def PGs (X:Cx) (ts:List Expr) (t:TGs):Prop :=
  ∀ (pins:List (Addr × Obj)) (s:Shared) (σ:St) (H:Hp) (vs:List V) (us:List Value) (Q:St → Hp → Prop),Inv X pins σ H s → Vals vs us → t vs σ H Q →
    wpAny (model X.prog X.w) X.A (assignInOrder ((assignEach ts X.env).map (·.2)) us) (fun _ s'=>∃ σ' H',Inv X pins σ' H' s' ∧ Q σ' H') X.xe s
section
variable {X:Cx} {pos:Pos}
noncomputable def yt6 (i:Nat):TG:=fun v σ H Q=>Q (σ.set i (some v)) H
theorem zd5 {i:Nat} {x:Str} (hN:X.N.Nodup) (hi:X.N[i]? = some x) (hx:Loc X.env.scope x) (hf:X.fn x = true ∨ X.env.scope.names.lookup x = some .local:=by first | exact .inl rfl | exact .inr rfl | assumption):PG X (.Name x pos) (yt6 i):=by
  intro pins s σ H v u Q I r h
  exact wpAny_assign_Name (zu8 I hN hi hx r (fun s' I'=>⟨_,H,I',h⟩) hf)
noncomputable def gNil:TGs:=fun vs σ H Q=>vs = [] ∧ Q σ H
noncomputable def wo0 (t:TG) (u:TGs):TGs:=fun vs σ H Q=>∃ v r,vs = v :: r ∧ t v σ H fun σ' H'=>u r σ' H' Q
theorem zp2:PGs X [] gNil:=by
  intro pins s σ H vs us Q I r h
  obtain ⟨e,h⟩:=h
  subst e
  cases r
  exact assignInOrder_nil ⟨σ,H,I,h⟩
theorem zg1 {e:Expr} {es:List Expr} {t:TG} {u:TGs} (h1:PG X e t) (h2:PGs X es u)
    (hs:(assignEach (e :: es) X.env).map (·.2) = assign e X.env :: (assignEach es X.env).map (·.2):=by rfl):PGs X (e :: es) (wo0 t u):=by
  intro pins s σ H vs us Q I r h
  obtain ⟨v,vr,e1,h⟩:=h
  subst e1
  cases r with
  | cons r rr =>
    rw [hs]
    refine assignInOrder_cons (thn (h1 pins s σ H _ _ _ I r h) fun _ s1 ⟨σ1,H1,I1,q1⟩=>?_)
    exact h2 pins s1 σ1 H1 _ _ Q I1 rr q1
noncomputable def gTup (K:PySem.W.Frag) (n:Nat) (t:TGs):TG:=fun v σ H Q=>∃ a xs,v = .ref a ∧ SqT K H a xs ∧ xs.length = n ∧ t xs σ H Q
theorem wi0 {es:List Expr} {k:Nat} {t:TGs} {n:Nat} (hc:X.calm = true) (h:PGs X es t)
    (hn:(assignEach es X.env).length = n:=by rfl) (hst:(assignEach es X.env).findIdx? (·.1) = none:=by rfl):PG X (.Tuple es k pos) (gTup X.K n t):=by
  intro pins s σ H v u Q I r hw
  obtain ⟨a,xs,e1,hq,hl,hw⟩:=hw
  subst e1
  cases r
  obtain ⟨its,rv,ht,hz⟩:=I.tuple hq
  refine assign_Tuple_tuple (I.ok.hd hc) ht (by simp [hn,← hl,rv.length]) hst fun h' hx=>?_
  have I1:Inv X pins σ H { s with heap:=h' }:=I.kept (t':=s.toks) fun b o e=>hx b o (Nat.ne_of_lt (Heap.lt_size e)) e
  exact h pins _ σ H xs _ Q I1 (by simpa using rv) hw
noncomputable def tAsg (te:TE) (g:TG):TS:=fun D σ H=>te σ H fun x H1=>g x σ H1 D.nx
theorem wh9 {tg e:Expr} {te:TE} {g:TG} (he:PE X e te) (hg:PG X tg g) (hs:swapsWithSole [tg] e pos.line X.env = pure false:=by rfl) (hw:swappedStores [tg] e X.env = pure none:=by rfl)
    (h1:(assignEach [tg] X.env).map (·.2) = [assign tg X.env]:=by rfl):PS X (.Assign [tg] e pos) (tAsg te g):=by
  intro pins s σ H D I h
  refine wpAny_Assign_stores (thn (he pins s σ H _ I h) fun v s1 ⟨x,H1,I1,r1,q1⟩=>?_) hs hw
  rw [h1]
  exact thn (hg pins s1 σ H1 x v _ I1 r1 q1) fun _ s2 q=>q
theorem zc1 {i:Nat} {x:Str} {e:Expr} {te:TE} {pos':Pos} (hN:X.N.Nodup) (hi:X.N[i]? = some x) (hx:Loc X.env.scope x) (he:PE X e te) (hs:swapsWith e (some (.Name x pos')) pos.line X.env = pure false:=by rfl) (hf:X.fn x = true ∨ X.env.scope.names.lookup x = some .local:=by first | exact .inl rfl | exact .inr rfl | assumption) :
    PS X (.Assign [.Name x pos'] e pos) (tAsg te (yt6 i)):=by
  intro pins s σ H D I h
  refine wpAny_Assign_Name (thn (he pins s σ H _ I h) fun v s1 ⟨y,H1,I1,r1,q1⟩=>?_) hs
  exact zu8 I1 hN hi hx r1 (fun s2 I2=>⟨_,H1,I2,q1⟩) hf
noncomputable def tPar (i j:Nat) (ta:TA):TS:=fun D σ H=>ta σ H fun vs H1=>∃ v w,vs = [v,w] ∧ D.nx ((σ.set i (some v)).set j (some w)) H1
theorem wh7 {i j:Nat} {x y:Str} {a b:Expr} {ta:TA} {px py pt:Pos} {kt k2 pt2} (hc:X.calm = true) (hN:X.N.Nodup) (hi:X.N[i]? = some x) (hj:X.N[j]? = some y) (hij:i ≠ j)
    (hx:X.env.scope.names.lookup x = some .local) (hy:X.env.scope.names.lookup y = some .local) (ha:PA X [a,b] ta)
    (hw:swappedStores [.Tuple [.Name x px,.Name y py] kt pt] (.Tuple [a,b] k2 pt2) X.env = pure (some [x,y]))
    (hs:swapsWithSole [.Tuple [.Name x px,.Name y py] kt pt] (.Tuple [a,b] k2 pt2) pos.line X.env = pure false:=by rfl) :
    PS X (.Assign [.Tuple [.Name x px,.Name y py] kt pt] (.Tuple [a,b] k2 pt2) pos) (tPar i j ta):=by
  intro pins s σ H D I h
  rw [exec_Assign_arm]
  refine wpAny_bind (wpAny_standAt ?_)
  rw [hs]
  refine wpAny_bind (wpAny_pure ?_)
  rw [if_neg (by decide)]
  refine wpAny_bind (Tuple_ (thn (ha _ pins s σ H _ I h) fun us s1 ⟨vs,H1,I1,r1,q1⟩=>?_))
  obtain ⟨v,w,e1,q1⟩:=q1
  subst e1
  obtain ⟨u1,u2,rfl,rv,rw'⟩:∃ u1 u2,us = [u1,u2] ∧ RelV v u1 ∧ RelV w u2:=by
    cases r1 with
    | cons p q =>
      cases q with
      | cons p' q' =>
        cases q'
        exact ⟨_,_,rfl,p,p'⟩
  refine wpAny_newObj_type ?_ (by show 2 ≤ sizeLine; decide)
  have I2:Inv X pins σ H1 { s1 with heap:=s1.heap.push { cls:=.type "tuple",data:=.seq [u1,u2].toArray } }:=I1.kept (t':=s1.toks) fun b o e=>Heap.get?_push_of_some _ e
  rw [hw]
  refine wpAny_bind (wpAny_pure ?_)
  show wpAny (model X.prog X.w) X.A (do rule "assign.swapped-stores"; let items ← unpackItems (.ref s1.heap.objs.size) 2 none; assignInOrder [fun v=>bindName X.env y v,fun v=>bindName X.env x v] items.reverse; pure Flow.next) _ _ _
  refine wpAny_bind (wpAny_rule (wpAny_bind (unpackItems_tuple (items:=#[u1,u2]) (I.ok.hd hc) (IsTup.new s1.heap _) fun h' hx'=>?_)))
  have I3:=I2.kept (h':=h') (t':=s1.toks) fun b o e=>hx' b o (Nat.ne_of_lt (Heap.lt_size e)) e
  show wpAny _ _ (assignInOrder [fun v=>bindName X.env y v,fun v=>bindName X.env x v] [u2,u1] >>= fun _=>pure Flow.next) _ _ _
  refine wpAny_bind (assignInOrder_cons (wpAny_bindName (zu8 I3 hN hj (.inl hy) rw' (fun s2 I4=>?_) (.inr hy))))
  refine assignInOrder_cons (wpAny_bindName (zu8 I4 hN hi (.inl hx) rv (fun s3 I5=>assignInOrder_nil (wpAny_pure ?_)) (.inr hx)))
  rw [List.set_comm _ _ (Ne.symm hij)] at I5
  exact ⟨_,H1,I5,q1⟩
end
section
variable {X:Cx} {pos:Pos}
noncomputable def xl3 (c:TT) (tb:TS):TS:=fun D σ H=>∃ W:Nat → St → Hp → Prop,(∃ m,W m σ H) ∧ ∀ m σ H,W m σ H →
  c σ H fun b H1=>if b = true then ∃ N:St → Hp → Prop,(∀ σ' H',N σ' H' → ∃ m',m' < m ∧ W m' σ' H') ∧ tb { D with nx:=N,ct:=N,bk:=D.nx } σ H1 else D.nx σ H1
theorem zv0 {c:Expr} {body:List Stmt} {tc:TT} {tb:TS} (hp:PassesOwn (model X.prog X.w) X.A X.env X.xe) (hc:PT X c tc) (hb:PSs X body tb):PS X (.While c body [] pos) (xl3 tc tb):=by
  intro pins s σ H D I h
  obtain ⟨W,⟨m0,w0⟩,turn⟩:=h
  refine wpAny_While (codeAny_whileLoop (fun n s'=>∃ σ' H',Inv X pins σ' H' s' ∧ W n σ' H') ?_ m0 ⟨σ,H,I,w0⟩)
  rintro n s1 ⟨σ1,H1,I1,w1⟩
  refine wpAny_passesOwn hp (thn (hc pins s1 σ1 H1 _ I1 (turn n σ1 H1 w1)) fun b s2 ⟨H2,I2,q2⟩=>?_)
  cases b with
  | true =>
    obtain ⟨N,hN,q2⟩:=q2
    rw [if_pos rfl]
    refine wpAny_passesOwn hp (thn (hb pins s2 σ1 H2 _ I2 q2) fun f s3 q3=>?_)
    cases f with
    | next =>
      obtain ⟨σ3,H3,I3,n3⟩:=q3
      obtain ⟨m',hm,w3⟩:=hN σ3 H3 n3
      exact ⟨m',hm,σ3,H3,I3,w3⟩
    | cont =>
      obtain ⟨σ3,H3,I3,n3⟩:=q3
      obtain ⟨m',hm,w3⟩:=hN σ3 H3 n3
      exact ⟨m',hm,σ3,H3,I3,w3⟩
    | brk=>exact q3
    | ret v=>exact q3
  | false =>
    rw [if_neg Bool.false_ne_true]
    exact wpAny_execs_nil ⟨σ1,H2,I2,q2⟩
end
structure It where
  go:Nat → Hp → Prop
  yld:Nat → Hp → V → Hp → Prop
  stop:Nat → Hp → Prop
noncomputable def FpOk (X:Cx) (pins:List (Addr × Obj)) (H:Hp) (b:Addr):Prop :=
  H b = none ∧ b ≠ X.env.locals ∧ b ∉ X.fs ∧ (b ∈ X.ex ∨ X.s₀.heap.objs.size ≤ b) ∧ (∀ x c,X.env.cells.lookup x = some c → c ≠ b) ∧ ∀ p ∈ X.pn ++ pins,p.1 ≠ b
theorem Inv.fpOk {X:Cx} {pins:List (Addr × Obj)} {σ:St} {H H':Hp} {s:Shared} {b:Addr} (I:Inv X pins σ H s) (hb:s.heap.objs.size ≤ b) (hn:H' b = none):FpOk X pins H' b:=by
  refine ⟨hn,Nat.ne_of_gt (Nat.lt_of_lt_of_le I.lt hb),I.nofs hb,.inr (Nat.le_trans I.sz hb),fun x c e z=>?_,fun p hp z=>?_⟩
  · obtain ⟨v,q⟩:=I.cell x c e
    exact absurd (Nat.lt_of_lt_of_le q.lt (by rw [z]; exact hb)) (Nat.lt_irrefl _)
  · exact absurd (Nat.lt_of_lt_of_le (Heap.lt_size (I.pin p hp).1) (by rw [z]; exact hb)) (Nat.lt_irrefl _)
structure Turn (P:Program) (w:World) (K:PySem.W.Frag) (tg:Expr) (J:It) (fp:List Addr) (it:Addr) (tn:Nat → Heap → Prop):Prop where
  mem:it ∈ fp
  obj:∀ i h,tn i h → ∀ b ∈ fp,∃ o,h.get? b = some o ∧ ∀ v,o.data ≠ .cell v
  keep:∀ i h h',tn i h → (∀ b ∈ fp,∀ o,h.get? b = some o → h'.get? b = some o) → tn i h'
  item:∀ (X:Cx),X.prog = P → X.w = w → X.K = K → X.calm = true → ∀ (i:Nat) (pins:List (Addr × Obj)) (s:Shared) (σ:St) (H:Hp) (E:Value → Shared → Prop),Inv X pins σ H s → (∀ b ∈ fp,FpOk X pins H b) → tn i s.heap → J.go i H →
    wpAny (model P w) X.A (pyNext (.ref it)) (fun r s1=>∃ u,r = some u ∧
      wpAny (model P w) X.A (letOwnedTupleGo tg (.ref it) u) (fun _ s2=>∃ x H',Inv X pins σ H' s2 ∧ RelV x u ∧ J.yld i H x H' ∧ tn (i + 1) s2.heap ∧ ∀ b ∈ fp,H' b = none) E s1) E s
  done:∀ (X:Cx),X.prog = P → X.w = w → X.K = K → X.calm = true → ∀ (i:Nat) (pins:List (Addr × Obj)) (s:Shared) (σ:St) (H:Hp) (E:Value → Shared → Prop),Inv X pins σ H s → (∀ b ∈ fp,FpOk X pins H b) → tn i s.heap → J.stop i H →
    wpAny (model P w) X.A (pyNext (.ref it)) (fun r s1=>r = none ∧ Inv X pins σ H s1) E s
  self:∀ (A:Around) (i:Nat) (s:Shared) (Q:Value → Shared → Prop) (E:Value → Shared → Prop),tn i s.heap → Q (.ref it) s → wpAny (model P w) A (pyIter (.ref it)) Q E s
noncomputable abbrev TI:=St → Hp → (It → Hp → Prop) → Prop
noncomputable def PIE (X:Cx) (pins:List (Addr × Obj)) (σ:St) (tg:Expr) (R:It → Hp → Prop) (itv:Value) (s2:Shared):Prop :=
  ∃ (it:Addr) (fp:List Addr) (tn:Nat → Heap → Prop) (J:It) (H':Hp),itv = .ref it ∧ Inv X pins σ H' s2 ∧ Turn X.prog X.w X.K tg J fp it tn ∧ tn 0 s2.heap ∧ (∀ b ∈ fp,FpOk X pins H' b) ∧ R J H'
noncomputable def PI (X:Cx) (tg iter:Expr) (wi:TI):Prop :=
  ∀ (pins:List (Addr × Obj)) (s:Shared) (σ:St) (H:Hp) (R:It → Hp → Prop),Inv X pins σ H s → wi σ H R →
    wpAny (model X.prog X.w) X.A (eval iter X.env) (fun v s1=>wpAny (model X.prog X.w) X.A (pyIter v) (PIE X pins σ tg R) X.xe s1) X.xe s
theorem xb2 {M:Model} {A:Around} {E:Value → Shared → Prop} {s:Shared} {tg:Expr} {it:Addr} {u:Value} {o:Obj} {n:String} {vs:Array Value} {Q:Unit → Shared → Prop} (ho:s.heap.get? it = some o) (hc:o.cls = .type n) (hd:o.data = .fields vs)
    (hn:["enumerate","zip","dict_itemiterator","dict_reverseitemiterator","odict_iterator","itertools.zip_longest","itertools.pairwise"].contains n = false) (hQ:Q () s):wpAny M A (letOwnedTupleGo tg (.ref it) u) Q E s:=by
  unfold letOwnedTupleGo
  cases tg <;> first
    | exact wpAny_pure hQ
    | (cases u <;> first
        | exact wpAny_pure hQ
        | (refine wpAny_bind (wpAny_load ho ?_)
           rw [hc,hd]
           show wpAny M A (if (["enumerate","zip","dict_itemiterator","dict_reverseitemiterator","odict_iterator","itertools.zip_longest","itertools.pairwise"].contains n && vs[0]? == some (rawInt _)) = true then _ else _) Q E s
           rw [if_neg (by intro h; rw [hn,Bool.false_and] at h; cases h)]
           exact wpAny_pure hQ))
noncomputable def Itl (K:PySem.W.Frag) (a:Addr):It :=
  ⟨fun i H=>∃ xs x,SqL K H a xs ∧ xs[i]? = some x,fun i H x H'=>H' = H ∧ ∀ xs,SqL K H a xs → xs[i]? = some x,fun i H=>∃ xs,SqL K H a xs ∧ xs.length ≤ i⟩
noncomputable def Itr (lo:Int) (n:Nat):It:=⟨fun i _=>i < n,fun i H x H'=>H' = H ∧ x = .int (lo + i),fun i _=>n ≤ i⟩
theorem yu9 {P:Program} {w:World} {K:PySem.W.Frag} {tg:Expr} (a it:Addr):Turn P w K tg (Itl K a) [it] it (fun i h=>h.IsListIter it a i) where
  mem:=by simp
  obj:=fun i h st b hb=>by
    have e:b = it:=by simpa using hb
    subst e
    obtain ⟨o,e,c,d⟩:=st
    exact ⟨o,e,fun v z=>by rw [d] at z; cases z⟩
  keep:=fun i h h' st k=>st.at fun o e=>k it (by simp) o e
  item:=by
    intro X hP hw hK hc i pins s σ H E I hf st hg
    subst hP hw hK
    obtain ⟨xs,x,hq,hx⟩:=hg
    obtain ⟨its,rv,p,hz⟩:=I.list hq
    obtain ⟨u,hu,ru⟩:=rv.get hx
    obtain ⟨f0,f1,f2,f3,f4,f5⟩:=hf it (by simp)
    refine wpAny_pyNext_list_item st p.isList (x:=u) (by simpa using hu) fun h' st' sb=>?_
    have I1:Inv X pins σ H { s with heap:=h' }:=I.turned (t':=s.toks) (fun b o hb e=>(sb.2 b hb).trans e) f0 f1 f3 f4 f5
    obtain ⟨o,e,c,d⟩:=id st'
    exact ⟨u,rfl,xb2 (s:={ s with heap:=h' }) e c d (by decide) ⟨x,H,I1,ru,⟨rfl,fun ys hy=>by rw [I.list_inj hy hq]; exact hx⟩,st',fun b hb=>(hf b hb).1⟩⟩
  done:=by
    intro X hP hw hK hc i pins s σ H E I hf st hg
    subst hP hw hK
    obtain ⟨xs,hq,hx⟩:=hg
    obtain ⟨its,rv,p,hz⟩:=I.list hq
    obtain ⟨f0,f1,f2,f3,f4,f5⟩:=hf it (by simp)
    have hl:=rv.length
    exact wpAny_pyNext_list_end (I.ok.hd hc) st p.isList (by simp; omega) fun h' eb=>⟨rfl,I.turned (t':=s.toks) (fun b o hb e=>eb b o hb e) f0 f1 f3 f4 f5⟩
  self:=fun _ _ _ _ _ st h=>wpAny_pyIter_listiter st h
theorem ys6 {P:Program} {w:World} {K:PySem.W.Frag} {tg:Expr} (it:Addr) (lo:Int) (n:Nat):Turn P w K tg (Itr lo n) [it] it (fun i h=>IsRangeIter h it (lo + (i:Nat) * 1) ((n:Int) - (i:Nat)) 1) where
  mem:=by simp
  obj:=fun i h st b hb=>by
    have e:b = it:=by simpa using hb
    subst e
    exact ⟨_,st,fun v z=>by
      have z':Data.fields _ = Data.cell v:=z
      cases z'⟩
  keep:=fun i h h' st k=>k it (by simp) _ st
  item:=by
    intro X hP hw hK hc i pins s σ H E I hf st hg
    subst hP hw hK
    obtain ⟨f0,f1,f2,f3,f4,f5⟩:=hf it (by simp)
    have W:=Walks.range (prog:=X.prog) (w:=X.w) (I.ok.hd hc) it lo 1 n
    refine W.item i s _ _ hg st fun v h' tk hv st' kk=>?_
    obtain ⟨t,rfl⟩:=hv
    have I1:Inv X pins σ H { s with heap:=h',toks:=tk }:=I.turned (fun b o hb e=>kk b o (by simpa using hb) e) f0 f1 f3 f4 f5
    refine ⟨_,rfl,xb2 (s:={ s with heap:=h',toks:=tk }) (n:="range_iterator") st' rfl rfl (by decide) ⟨.int (lo + i),H,I1,⟨t,?_⟩,⟨rfl,rfl⟩,st',fun b hb=>(hf b hb).1⟩⟩
    rw [Int.mul_one]
  done:=by
    intro X hP hw hK hc i pins s σ H E I hf st hg
    subst hP hw hK
    obtain ⟨f0,f1,f2,f3,f4,f5⟩:=hf it (by simp)
    exact wpAny_pyNext_range_end (I.ok.hd hc) st (by have:n ≤ i:=hg; omega) fun h' eb=>⟨rfl,I.turned (t':=s.toks) (fun b o hb e=>eb b o hb e) f0 f1 f3 f4 f5⟩
  self:=fun _ _ _ _ _ st h=>wpAny_pyIter_rangeiter st h
end L2
namespace L2
open PySem PySem.Spec PyProof.Rows
section
variable {X:Cx} {tg:Expr}
noncomputable def xi4 (K:PySem.W.Frag) (tl:TE):TI:=fun σ H R=>tl σ H fun x H1=>∃ a,x = .ref a ∧ (∃ xs,SqL K H1 a xs) ∧ R (Itl K a) H1
theorem xw6 {l:Expr} {tl:TE} (hl:PE X l tl):PI X tg l (xi4 X.K tl):=by
  intro pins s σ H R I h
  refine thn (hl pins s σ H _ I h) fun v s1 ⟨x,H1,I1,r1,q1⟩=>?_
  obtain ⟨a,e,⟨xs,hq⟩,q⟩:=q1
  subst e
  cases r1
  obtain ⟨its,rv,p,hz⟩:=I1.list hq
  refine wpAny_pyIter_list p.isList ?_
  refine ⟨s1.heap.objs.size,[s1.heap.objs.size],_,_,H1,rfl,I1.kept (t':=s1.toks) fun b o e=>Heap.get?_push_of_some _ e,yu9 a _,⟨_,Heap.get?_push_size _ rfl,rfl,rfl⟩,fun b hb=>?_,q⟩
  have e:b = s1.heap.objs.size:=by simpa using hb
  subst e
  exact I1.fpOk (Nat.le_refl _) (I1.hok.fresh (Nat.le_refl _))
theorem yp8 {pins:List (Addr × Obj)} {σ:St} {H:Hp} {s:Shared} {R:It → Hp → Prop} {E:Value → Shared → Prop} {lo hi:Int} {t u v:Tok} {tk:Nat} (I:Inv X pins σ H s) (h1:-(2 ^ 62) ≤ lo) (h2:lo < 2 ^ 62) (h3:-(2 ^ 62) ≤ hi) (h4:hi < 2 ^ 62)
    (q:R (Itr lo (hi - lo).toNat) H):wpAny (model X.prog X.w) X.A (pyIter (.ref s.heap.objs.size)) (PIE X pins σ tg R) E { s with heap:=s.heap.push { cls:=.type "range",data:=.fields #[.int lo t,.int hi u,.int 1 v] },toks:=tk }:=by
  refine wpAny_pyIter_range (IsRange.new ..) (small_one h1 h2 h3 h4) ?_
  have I1:Inv X pins σ H { s with heap:=s.heap.push { cls:=.type "range",data:=.fields #[.int lo t,.int hi u,.int 1 v] },toks:=tk }:=I.kept fun b o e=>Heap.get?_push_of_some _ e
  refine ⟨(s.heap.push { cls:=.type "range",data:=.fields #[.int lo t,.int hi u,.int 1 v] }).objs.size,[(s.heap.push { cls:=.type "range",data:=.fields #[.int lo t,.int hi u,.int 1 v] }).objs.size],_,_,H,rfl,
    I1.kept (t':=tk) fun b o e=>Heap.get?_push_of_some _ e,ys6 _ lo (hi - lo).toNat,?_,fun b hb=>?_,q⟩
  · have e1:lo + ((0:Nat):Int) * 1 = lo:=by simp
    have e2:(((hi - lo).toNat:Nat):Int) - ((0:Nat):Int) = Builtin.Range.rangeSize lo hi 1:=by rw [rangeSize_one]; split <;> omega
    show IsRangeIter _ _ (lo + ((0:Nat):Int) * 1) ((((hi - lo).toNat:Nat):Int) - ((0:Nat):Int)) 1
    rw [e1,e2]
    exact Heap.get?_push_size _ rfl
  · have e:b = (s.heap.push { cls:=.type "range",data:=.fields #[.int lo t,.int hi u,.int 1 v] }).objs.size:=by simpa using hb
    subst e
    exact I1.fpOk (Nat.le_refl _) (I1.hok.fresh (Nat.le_refl _))
noncomputable def wn8 (ta:TA):TI:=fun σ H R=>ta σ H fun vs H1=>∃ j:Int,vs = [.int j] ∧ -(2 ^ 62) ≤ j ∧ j < 2 ^ 62 ∧ R (Itr 0 j.toNat) H1
noncomputable def wn7 (ta:TA):TI:=fun σ H R=>ta σ H fun vs H1=>∃ i j:Int,vs = [.int i,.int j] ∧ (-(2 ^ 62) ≤ i ∧ i < 2 ^ 62 ∧ -(2 ^ 62) ≤ j ∧ j < 2 ^ 62) ∧ R (Itr i (j - i).toNat) H1
theorem zw9 {a:Expr} {ta:TA} {p pos:Pos} (hg:Gl X "range") (hm:X.mg "range" = none) (ha:PA X [a] ta) (hs:starEach [a] X.env = [(false,eval a X.env)]:=by rfl):PI X tg (.Call (.Name "range" p) [a] [] pos) (wn8 ta):=by
  intro pins s σ H R I h
  refine Call_ (zt6 I hg hm boot_range (PyProof.Rows.callWith_type1 (thn (ha pos pins s σ H _ I h) fun us s1 ⟨vs,H1,I1,r1,q1⟩=>?_) hs rfl))
  obtain ⟨j,e,q1,q2,q⟩:=q1
  subst e
  cases r1 with
  | cons r rr =>
    cases rr
    obtain ⟨t,rfl⟩:=r
    exact call_range_1 (yp8 I1 (by omega) (by omega) q1 q2 (by simpa using q))
theorem yh1 {a b:Expr} {ta:TA} {p pos:Pos} (hg:Gl X "range") (hm:X.mg "range" = none) (ha:PA X [a,b] ta) (hs:starEach [a,b] X.env = [(false,eval a X.env),(false,eval b X.env)]:=by rfl) (hs2:starEach [b] X.env = [(false,eval b X.env)]:=by rfl) :
    PI X tg (.Call (.Name "range" p) [a,b] [] pos) (wn7 ta):=by
  intro pins s σ H R I h
  refine Call_ (zt6 I hg hm boot_range (PyProof.Rows.callWith_type1 (thn (ha pos pins s σ H _ I h) fun us s1 ⟨vs,H1,I1,r1,q1⟩=>?_) (by rw [hs,hs2]) (by rw [hs2]; rfl)))
  obtain ⟨i,j,e,⟨q1,q2,q3,q4⟩,q⟩:=q1
  subst e
  cases r1 with
  | cons r rr =>
    cases rr with
    | cons r' rr =>
      cases rr
      obtain ⟨t,rfl⟩:=r
      obtain ⟨t',rfl⟩:=r'
      exact call_range_2 (yp8 I1 q1 q2 q3 q4 q)
noncomputable def tFor (wi:TI) (g:TG) (tb:TS):TS:=fun D σ H=>wi σ H fun J H1=>∃ W:Nat → Nat → St → Hp → Prop,(∃ m,W 0 m σ H1) ∧ ∀ i m σ H,W i m σ H →
  (J.stop i H ∧ D.nx σ H) ∨ (J.go i H ∧ ∃ N:St → Hp → Prop,(∀ σ' H',N σ' H' → ∃ m',m' < m ∧ W (i + 1) m' σ' H') ∧ ∀ x H',J.yld i H x H' → g x σ H' fun σ2 H2=>tb { D with nx:=N,ct:=N,bk:=D.nx } σ2 H2)
noncomputable def yh0 (fp:List Addr) (h:Heap):List (Addr × Obj):=fp.filterMap fun b=>(h.get? b).map fun o=>(b,o)
theorem zq4 {fp:List Addr} {h:Heap} {b:Addr} {o:Obj} (hb:b ∈ fp) (e:h.get? b = some o):(b,o) ∈ yh0 fp h:=List.mem_filterMap.mpr ⟨b,hb,by rw [e]; rfl⟩
theorem yy3 {fp:List Addr} {h:Heap} {p:Addr × Obj} (hp:p ∈ yh0 fp h):p.1 ∈ fp ∧ h.get? p.1 = some p.2:=by
  obtain ⟨b,hb,e⟩:=List.mem_filterMap.mp hp
  cases q:h.get? b with
  | none=>rw [q] at e; cases e
  | some o =>
    rw [q] at e
    have e':(b,o) = p:=Option.some.inj e
    subst e'
    exact ⟨hb,q⟩
theorem Inv.pinned {pins:List (Addr × Obj)} {σ:St} {H:Hp} {s:Shared} {fp:List Addr} (I:Inv X pins σ H s) (hf:∀ b ∈ fp,FpOk X pins H b) (ho:∀ b ∈ fp,∃ o,s.heap.get? b = some o ∧ ∀ v,o.data ≠ .cell v):Inv X (pins ++ yh0 fp s.heap) σ H s :=
  I.pins_of fun p hp=>(List.mem_append.mp hp).elim (fun z=>I.pin p (List.mem_append_right _ z)) fun z=>by
    obtain ⟨hb,e⟩:=yy3 z
    obtain ⟨f0,f1,f2,_⟩:=hf p.1 hb
    obtain ⟨o,e',d⟩:=ho p.1 hb
    rw [e] at e'; cases e'
    exact ⟨e,f0,f1,f2,d⟩
theorem Inv.unpinned {pins pl:List (Addr × Obj)} {σ:St} {H:Hp} {s:Shared} (I:Inv X (pins ++ pl) σ H s):Inv X pins σ H s:=I.pins_of fun p hp=>I.pin p (List.mem_append_right _ (List.mem_append_left _ hp))
theorem zn3 {iter:Expr} {body:List Stmt} {wi:TI} {g:TG} {tb:TS} {pos:Pos} (hp:PassesOwn (model X.prog X.w) X.A X.env X.xe) (hc:X.calm = true) (hi:PI X tg iter wi) (hg:PG X tg g) (hb:PSs X body tb)
    (hs:∀ x,foldedSetIterable iter X.env x = pure x:=by intro _; rfl):PS X (.For tg iter body [] pos) (tFor wi g tb):=by
  intro pins s σ H D I h
  refine wpAny_For (thn (hi pins s σ H _ I h) fun v s1 h1=>thn h1 fun itv s2 h2=>?_) hs
  obtain ⟨it,fp,tn,J,H2,e,I2,T,st2,f2,W,⟨m0,w0⟩,turn⟩:=h2
  subst e
  have stat:∀ {H':Hp},(∀ b ∈ fp,H' b = none) → ∀ b ∈ fp,FpOk X pins H' b:=fun hn b hb=>⟨hn b hb,(f2 b hb).2⟩
  refine codeAny_forLoop_any (fun n s'=>∃ i σ' H',Inv X pins σ' H' s' ∧ tn i s'.heap ∧ (∀ b ∈ fp,H' b = none) ∧ W i n σ' H') ?_ m0 ⟨0,σ,H2,I2,st2,fun b hb=>(f2 b hb).1,w0⟩
  rintro n s3 ⟨i,σ3,H3,I3,st3,fr3,w3⟩
  rcases turn i n σ3 H3 w3 with ⟨stop,qn⟩ | ⟨go,N,hN,step⟩
  · refine wpAny_passesOwn hp (thn (T.done X rfl rfl rfl hc i pins s3 σ3 H3 X.xe I3 (stat fr3) st3 stop) fun r s4 ⟨hr,I4⟩=>?_)
    subst hr
    exact wpAny_execs_nil ⟨σ3,H3,I4,qn⟩
  · refine wpAny_passesOwn hp (thn (T.item X rfl rfl rfl hc i pins s3 σ3 H3 X.xe I3 (stat fr3) st3 go) fun r s4 ⟨u,hr,h4⟩=>?_)
    subst hr
    refine wpAny_passesOwn hp (thn h4 fun _ s5 ⟨x,H5,I5,r5,y5,st5,fr5⟩=>?_)
    have I5':=I5.pinned (stat fr5) (T.obj _ _ st5)
    refine wpAny_passesOwn hp (thn (hg _ s5 σ3 H5 x u _ I5' r5 (step x H5 y5)) fun _ s6 ⟨σ6,H6,I6,q6⟩=>?_)
    refine wpAny_passesOwn hp (thn (hb _ s6 σ6 H6 _ I6 q6) fun f s7 q7=>?_)
    have again:∀ {σ7:St} {H7:Hp},Inv X (pins ++ yh0 fp s5.heap) σ7 H7 s7 → N σ7 H7 → ∃ m,m < n ∧ ∃ i σ' H',Inv X pins σ' H' s7 ∧ tn i s7.heap ∧ (∀ b ∈ fp,H' b = none) ∧ W i m σ' H':=fun {σ7 H7} I7 n7=>by
      obtain ⟨m',hm,w7⟩:=hN σ7 H7 n7
      refine ⟨m',hm,i + 1,σ7,H7,I7.unpinned,T.keep _ _ _ st5 fun b hb o e=>(I7.pin (b,o) (List.mem_append_right _ (List.mem_append_right _ (zq4 hb e)))).1,fun b hb=>?_,w7⟩
      obtain ⟨o,e,d⟩:=T.obj _ _ st5 b hb
      exact (I7.pin (b,o) (List.mem_append_right _ (List.mem_append_right _ (zq4 hb e)))).2.1
    cases f with
    | next=>obtain ⟨σ7,H7,I7,n7⟩:=q7; exact again I7 n7
    | cont=>obtain ⟨σ7,H7,I7,n7⟩:=q7; exact again I7 n7
    | brk=>obtain ⟨σ7,H7,I7,q7⟩:=q7; exact ⟨σ7,H7,I7.unpinned,q7⟩
    | ret v=>obtain ⟨x7,σ7,H7,I7,r7,q7⟩:=q7; exact ⟨x7,σ7,H7,I7.unpinned,r7,q7⟩
end
end L2
namespace L2
open PySem PySem.Spec PyProof.Rows
noncomputable abbrev R2:=V → V → Hp → VK → Prop
noncomputable def OpR (X:Cx) (f:Value → Value → Sem Value) (r:R2):Prop :=
  ∀ (pins:List (Addr × Obj)) (s:Shared) (σ:St) (H:Hp) (x y:V) (v u:Value) (Q:VK),Inv X pins σ H s → RelV x v → RelV y u → r x y H Q →
    wpAny (model X.prog X.w) X.A (f v u) (EP X pins σ Q) X.xe s
noncomputable def UnR (X:Cx) (f:Value → Sem Value) (r:V → Hp → VK → Prop):Prop :=
  ∀ (pins:List (Addr × Obj)) (s:Shared) (σ:St) (H:Hp) (x:V) (v:Value) (Q:VK),Inv X pins σ H s → RelV x v → r x H Q →
    wpAny (model X.prog X.w) X.A (f v) (EP X pins σ Q) X.xe s
noncomputable def CallR (X:Cx) (f:Value) (r:List V → Hp → VK → Prop):Prop :=
  ∀ (pins:List (Addr × Obj)) (s:Shared) (σ:St) (H:Hp) (xs:List V) (us:List Value) (Q:VK),Inv X pins σ H s → Vals xs us → r xs H Q →
    wpAny (model X.prog X.w) X.A (call f us) (EP X pins σ Q) X.xe s
noncomputable def tOp (r:R2) (ta tb:TE):TE:=fun σ H Q=>ta σ H fun x H1=>tb σ H1 fun y H2=>r x y H2 Q
noncomputable def tUn (r:V → Hp → VK → Prop) (ta:TE):TE:=fun σ H Q=>ta σ H fun x H1=>r x H1 Q
noncomputable def rI (C:Int → Int → Prop) (g:Int → Int → V):R2:=fun x y H Q=>∃ i j,x = .int i ∧ y = .int j ∧ C i j ∧ Q (g i j) H
noncomputable def rI0 (g:Int → Int → V):R2:=fun x y H Q=>∃ i j,x = .int i ∧ y = .int j ∧ Q (g i j) H
noncomputable def rU (g:Int → V):V → Hp → VK → Prop:=fun x H Q=>∃ i,x = .int i ∧ Q (g i) H
section
variable {X:Cx} {a b c:Expr} {ta tb tc:TE} {pos:Pos}
theorem binT (ha:PE X a ta) (hb:PE X b tb) {pins:List (Addr × Obj)} {s:Shared} {σ:St} {H:Hp} {R:V → V → Hp → Prop} (I:Inv X pins σ H s)
    (h:ta σ H fun x H1=>tb σ H1 fun y H2=>R x y H2) {Q:Value → Shared → Prop} {f:Value → Value → Sem Value}
    (hf:∀ v u s2 x y H2,Inv X pins σ H2 s2 → RelV x v → RelV y u → R x y H2 → wpAny (model X.prog X.w) X.A (f v u) Q X.xe s2) :
    wpAny (model X.prog X.w) X.A (eval a X.env) (fun v s₁=>wpAny (model X.prog X.w) X.A (eval b X.env) (fun u s₂=>wpAny (model X.prog X.w) X.A (f v u) Q X.xe s₂) X.xe s₁) X.xe s:=by
  refine thn (ha pins s σ H _ I h) fun v s1 ⟨x,H1,I1,r1,q1⟩=>?_
  refine thn (hb pins s1 σ H1 _ I1 q1) fun u s2 ⟨y,H2,I2,r2,q2⟩=>?_
  exact hf v u s2 x y H2 I2 r1 r2 q2
theorem zc4 {op:Operator} {r:R2} (ho:OpR X (binaryOp op) r) (ha:PE X a ta) (hb:PE X b tb):PE X (.BinOp a op b pos) (tOp r ta tb):=by
  intro pins s σ H Q I h
  exact wpAny_BinOp (binT ha hb I h fun v u s2 x y H2 I2 rx ry q=>ho pins s2 σ H2 x y v u Q I2 rx ry q)
theorem wi2 {op:UnaryOp} {r:V → Hp → VK → Prop} (ho:UnR X (unaryOp op) r) (ha:PE X a ta):PE X (.UnaryOp op a pos) (tUn r ta):=by
  intro pins s σ H Q I h
  exact UnaryOp_ (thn (ha pins s σ H _ I h) fun v s1 ⟨x,H1,I1,r1,q1⟩=>ho pins s1 σ H1 x v Q I1 r1 q1)
theorem opI {f:Value → Value → Sem Value} {C:Int → Int → Prop} {g:Int → Int → Int}
    (rule:∀ (i j:Int) (t u:Tok) (s:Shared) (Q:Value → Shared → Prop) (E:Value → Shared → Prop),C i j → Q (.int (g i j) s.toks) { s with toks:=s.toks + 1 } → wpAny (model X.prog X.w) X.A (f (.int i t) (.int j u)) Q E s) :
    OpR X f (rI C fun i j=>.int (g i j)):=by
  intro pins s σ H x y v u Q I rx ry h
  obtain ⟨i,j,rfl,rfl,hc,q⟩:=h
  obtain ⟨t,rfl⟩:=rx
  obtain ⟨t',rfl⟩:=ry
  exact rule i j t t' s _ _ hc ⟨.int (g i j),H,I.tok _,⟨_,rfl⟩,q⟩
theorem opI0 {f:Value → Value → Sem Value} {g:Int → Int → Int}
    (rule:∀ (i j:Int) (t u:Tok) (s:Shared) (Q:Value → Shared → Prop) (E:Value → Shared → Prop),Q (.int (g i j) s.toks) { s with toks:=s.toks + 1 } → wpAny (model X.prog X.w) X.A (f (.int i t) (.int j u)) Q E s) :
    OpR X f (rI0 fun i j=>.int (g i j)):=by
  intro pins s σ H x y v u Q I rx ry h
  obtain ⟨i,j,rfl,rfl,q⟩:=h
  obtain ⟨t,rfl⟩:=rx
  obtain ⟨t',rfl⟩:=ry
  exact rule i j t t' s _ _ ⟨.int (g i j),H,I.tok _,⟨_,rfl⟩,q⟩
theorem opB0 {f:Value → Value → Sem Value} {g:Int → Int → Bool}
    (rule:∀ (i j:Int) (t u:Tok) (s:Shared) (Q:Value → Shared → Prop) (E:Value → Shared → Prop),Q (.bool (g i j)) s → wpAny (model X.prog X.w) X.A (f (.int i t) (.int j u)) Q E s) :
    OpR X f (rI0 fun i j=>.bl (g i j)):=by
  intro pins s σ H x y v u Q I rx ry h
  obtain ⟨i,j,rfl,rfl,q⟩:=h
  obtain ⟨t,rfl⟩:=rx
  obtain ⟨t',rfl⟩:=ry
  exact rule i j t t' s _ _ ⟨.bl (g i j),H,I,rfl,q⟩
noncomputable def CPow (i j:Int):Prop:=0 ≤ j ∧ j ≤ 1000000 ∧ i.natAbs < 2 ^ 64
noncomputable def CMul (i j:Int):Prop:=(-(2 ^ 64) < i ∧ i < 2 ^ 64) ∨ (-(2 ^ 64) < j ∧ j < 2 ^ 64)
theorem CMul.ok {i j:Int} (h:CMul i j):IntMulOk i j:=by
  rcases h with ⟨h1,h2⟩ | ⟨h1,h2⟩
  · exact .of_left (intBits_le_64 h1 h2)
  · exact .of_right (intBits_le_64 h1 h2)
theorem zg8:OpR X (binaryOp .Add) (rI0 fun i j=>.int (i + j)):=opI0 fun _ _ _ _ _ _ _ q=>add_int q
theorem zp6:OpR X (binaryOp .Sub) (rI0 fun i j=>.int (i - j)):=opI0 fun _ _ _ _ _ _ _ q=>sub_int q
theorem zi3:OpR X (binaryOp .Mod) (rI (fun _ j=>0 < j) fun i j=>.int (i % j)):=opI fun i j _ _ _ _ _ hc q=>by
  have h1:(0:Int) < j:=hc
  exact mod_int' (by omega) (by rw [Int.fmod_eq_emod_of_nonneg i (by omega)]; exact q)
theorem xn0:OpR X (binaryOp .Pow) (rI CPow fun i j=>.int (i ^ j.toNat)):=opI fun _ _ _ _ _ _ _ hc q=>pow_int_small hc.1 hc.2.1 hc.2.2 q
theorem unI {f:Value → Sem Value} {g:Int → Int}
    (rule:∀ (i:Int) (t:Tok) (s:Shared) (Q:Value → Shared → Prop) (E:Value → Shared → Prop),Q (.int (g i) s.toks) { s with toks:=s.toks + 1 } → wpAny (model X.prog X.w) X.A (f (.int i t)) Q E s) :
    UnR X f (rU fun i=>.int (g i)):=by
  intro pins s σ H x v Q I rx h
  obtain ⟨i,rfl,q⟩:=h
  obtain ⟨t,rfl⟩:=rx
  exact rule i t s _ _ ⟨.int (g i),H,I.tok _,⟨_,rfl⟩,q⟩
theorem xk8:UnR X (unaryOp .USub) (rU fun i=>.int (-i)):=unI fun _ _ _ _ _ q=>neg_int q
end
noncomputable def scal:V → V → Bool
  | .non,.non=>true | .non,.int _=>true | .int _,.non=>true | .non,.bl _=>true | .bl _,.non=>true | .non,.str _=>true | .str _,.non=>true
  | .int _,.int _=>true | .bl _,.bl _=>true | .str _,.str _=>true | .byt _,.byt _=>true
  | .int _,.str _=>true | .str _,.int _=>true | .bl _,.str _=>true | .str _,.bl _=>true
  | _,_=>false
noncomputable def rEq:R2:=fun x y H Q=>scal x y = true ∧ Q (.bl (decide (x = y))) H
noncomputable def rNe:R2:=fun x y H Q=>scal x y = true ∧ Q (.bl (!decide (x = y))) H
theorem xc3 {i j:Int}:decide (V.int i = V.int j) = (i == j):=by
  rw [Bool.eq_iff_iff]
  simp
theorem xp0 {i j:Bool}:decide (V.bl i = V.bl j) = (i == j):=by
  rw [Bool.eq_iff_iff]
  simp
theorem xc2 {i j:Str}:decide (V.str i = V.str j) = (i == j):=by
  rw [Bool.eq_iff_iff]
  simp
theorem xc4 {i j:Array UInt8}:decide (V.byt i = V.byt j) = (i.toList == j.toList):=by
  rw [Bool.eq_iff_iff]
  cases i
  cases j
  simp
section
variable {X:Cx} {a b c:Expr} {ta tb tc:TE} {pos:Pos}
theorem zf4 {pins:List (Addr × Obj)} {σ:St} {H:Hp} {s:Shared} {Q:VK} {k k':Bool} (I:Inv X pins σ H s) (q:Q (.bl k) H) (e:k = k'):EP X pins σ Q (.bool k') s:=by
  subst e
  exact ⟨.bl k,H,I,rfl,q⟩
theorem zh0:OpR X (compareOp .Eq) rEq:=by
  intro pins s σ H x y v u Q I rx ry h
  obtain ⟨hs,q⟩:=h
  cases x with
  | non =>
    cases rx
    cases y with
    | non=>cases ry; exact PySem.EqNone.eq_none_none (zf4 I q (by simp))
    | bl j=>cases ry; exact PySem.EqNone.eq_none_bool (zf4 I q (by simp))
    | int j=>obtain ⟨t',rfl⟩:=ry; exact PySem.EqNone.eq_none_int (zf4 I q (by simp))
    | str j=>obtain ⟨t',rfl⟩:=ry; exact PySem.EqNone.eq_none_str (zf4 I q (by simp))
    | _=>exact absurd (show false = true from hs) Bool.false_ne_true
  | bl i =>
    cases rx
    cases y with
    | non=>cases ry; exact PySem.EqNone.eq_bool_none (zf4 I q (by simp))
    | bl j=>cases ry; exact eq_bool (zf4 I q xp0)
    | str j=>obtain ⟨t',rfl⟩:=ry; exact PySem.EqMixed.eq_bool_str (zf4 I q (by simp))
    | _=>exact absurd (show false = true from hs) Bool.false_ne_true
  | int i =>
    obtain ⟨t,rfl⟩:=rx
    cases y with
    | non=>cases ry; exact PySem.EqNone.eq_int_none (zf4 I q (by simp))
    | int j=>obtain ⟨t',rfl⟩:=ry; exact eq_int (zf4 I q xc3)
    | str j=>obtain ⟨t',rfl⟩:=ry; exact PySem.EqMixed.eq_int_str (zf4 I q (by simp))
    | _=>exact absurd (show false = true from hs) Bool.false_ne_true
  | str i =>
    obtain ⟨t,rfl⟩:=rx
    cases y with
    | non=>cases ry; exact PySem.EqNone.eq_str_none (zf4 I q (by simp))
    | bl j=>cases ry; exact PySem.EqMixed.eq_str_bool (zf4 I q (by simp))
    | int j=>obtain ⟨t',rfl⟩:=ry; exact PySem.EqMixed.eq_str_int (zf4 I q (by simp))
    | str j=>obtain ⟨t',rfl⟩:=ry; exact eq_str (zf4 I q xc2)
    | _=>exact absurd (show false = true from hs) Bool.false_ne_true
  | byt i =>
    obtain ⟨t,rfl⟩:=rx
    cases y with
    | byt j=>obtain ⟨t',rfl⟩:=ry; exact PySem.W.eq_bytes (zf4 I q xc4)
    | _=>exact absurd (show false = true from hs) Bool.false_ne_true
  | _=>cases y <;> exact absurd (show false = true from hs) Bool.false_ne_true
theorem yh5:OpR X (compareOp .NotEq) rNe:=by
  intro pins s σ H x y v u Q I rx ry h
  obtain ⟨hs,q⟩:=h
  cases x with
  | non =>
    cases rx
    cases y with
    | non=>cases ry; exact PySem.EqNone.ne_none_none (zf4 I q (by simp))
    | bl j=>cases ry; exact PySem.EqNone.ne_none_bool (zf4 I q (by simp))
    | int j=>obtain ⟨t',rfl⟩:=ry; exact PySem.EqNone.ne_none_int (zf4 I q (by simp))
    | str j=>obtain ⟨t',rfl⟩:=ry; exact PySem.EqNone.ne_none_str (zf4 I q (by simp))
    | _=>exact absurd (show false = true from hs) Bool.false_ne_true
  | bl i =>
    cases rx
    cases y with
    | non=>cases ry; exact PySem.EqNone.ne_bool_none (zf4 I q (by simp))
    | bl j=>cases ry; exact ne_bool (zf4 I q (congrArg not xp0))
    | str j=>obtain ⟨t',rfl⟩:=ry; exact PySem.EqMixed.ne_bool_str (zf4 I q (by simp))
    | _=>exact absurd (show false = true from hs) Bool.false_ne_true
  | int i =>
    obtain ⟨t,rfl⟩:=rx
    cases y with
    | non=>cases ry; exact PySem.EqNone.ne_int_none (zf4 I q (by simp))
    | int j=>obtain ⟨t',rfl⟩:=ry; exact ne_int (zf4 I q (congrArg not xc3))
    | str j=>obtain ⟨t',rfl⟩:=ry; exact PySem.EqMixed.ne_int_str (zf4 I q (by simp))
    | _=>exact absurd (show false = true from hs) Bool.false_ne_true
  | str i =>
    obtain ⟨t,rfl⟩:=rx
    cases y with
    | non=>cases ry; exact PySem.EqNone.ne_str_none (zf4 I q (by simp))
    | bl j=>cases ry; exact PySem.EqMixed.ne_str_bool (zf4 I q (by simp))
    | int j=>obtain ⟨t',rfl⟩:=ry; exact PySem.EqMixed.ne_str_int (zf4 I q (by simp))
    | str j=>obtain ⟨t',rfl⟩:=ry; exact ne_str (zf4 I q (congrArg not xc2))
    | _=>exact absurd (show false = true from hs) Bool.false_ne_true
  | byt i =>
    obtain ⟨t,rfl⟩:=rx
    cases y with
    | byt j=>obtain ⟨t',rfl⟩:=ry; exact PySem.W.ne_bytes (zf4 I q (congrArg not xc4))
    | _=>exact absurd (show false = true from hs) Bool.false_ne_true
  | _=>cases y <;> exact absurd (show false = true from hs) Bool.false_ne_true
theorem zu3:OpR X (compareOp .Lt) (rI0 fun i j=>.bl (decide (i < j))):=opB0 fun _ _ _ _ _ _ _ q=>lt_int q
theorem zx0:OpR X (compareOp .Gt) (rI0 fun i j=>.bl (decide (j < i))):=opB0 fun _ _ _ _ _ _ _ q=>gt_int q
theorem yh6:OpR X (compareOp .In) (fun x y H Q=>∃ i j,x = .str i ∧ y = .str j ∧ Q (.bl (!(Builtin.Str.occurrences j i 0 j.length 1).isEmpty)) H):=by
  intro pins s σ H x y v u Q I rx ry h
  obtain ⟨i,j,rfl,rfl,q⟩:=h
  obtain ⟨t,rfl⟩:=rx
  obtain ⟨t',rfl⟩:=ry
  exact in_str (zf4 I q rfl)
theorem yx8:OpR X (compareOp .Is) (fun x y H Q=>y = .non ∧ Q (.bl (decide (x = .non))) H):=by
  intro pins s σ H x y v u Q I rx ry h
  obtain ⟨rfl,q⟩:=h
  cases ry
  refine is_none_gen (zf4 I q ?_)
  cases x <;> first
    | (cases rx; rfl)
    | (obtain ⟨t,rfl⟩:=rx; rfl)
theorem zt5:OpR X (compareOp .NotIn) (fun x y H Q=>∃ i j,x = .str i ∧ y = .str j ∧ Q (.bl (!(!(Builtin.Str.occurrences j i 0 j.length 1).isEmpty))) H):=by
  intro pins s σ H x y v u Q I rx ry h
  obtain ⟨i,j,rfl,rfl,q⟩:=h
  obtain ⟨t,rfl⟩:=rx
  obtain ⟨t',rfl⟩:=ry
  exact notIn_str (zf4 I q rfl)
theorem OpR.or {f:Value → Value → Sem Value} {r r':R2} (h:OpR X f r) (h':OpR X f r'):OpR X f (fun x y H Q=>r x y H Q ∨ r' x y H Q):=by
  intro pins s σ H x y v u Q I rx ry q
  rcases q with q | q
  · exact h pins s σ H x y v u Q I rx ry q
  · exact h' pins s σ H x y v u Q I rx ry q
theorem zc9 (b:Expr) {op:CmpOp} (h:op ≠ .In:=by decide) (h2:op ≠ .NotIn:=by decide):behindInMarks op b = false:=by
  have e1:(op == CmpOp.In) = false:=by cases op <;> first | rfl | exact absurd rfl h
  have e2:(op == CmpOp.NotIn) = false:=by cases op <;> first | rfl | exact absurd rfl h2
  cases b <;> simp [behindInMarks,e1,e2]
theorem zp5 {op:CmpOp} {r:R2} (ho:OpR X (compareOp op) r) (ha:PE X a ta) (hb:PE X b tb) (hm:behindInMarks op b = false):PE X (.Compare a [op] [b] pos) (tOp r ta tb):=by
  intro pins s σ H Q I h
  exact wpAny_Compare1 (binT ha hb I h fun v u s2 x y H2 I2 rx ry q=>ho pins s2 σ H2 x y v u Q I2 rx ry q) hm
noncomputable def xr5 (t:TE):TT:=fun σ H Q=>t σ H fun x H'=>∃ k,x = .bl k ∧ Q k H'
theorem zb9 {op:CmpOp} {r:R2} (ho:OpR X (compareOp op) r) (ha:PE X a ta) (hb:PE X b tb) (hm:behindInMarks op b = false):PT X (.Compare a [op] [b] pos) (xr5 (tOp r ta tb)):=by
  intro pins s σ H Q I h
  refine wpAny_isTrue_Compare1 (thn (ha pins s σ H _ I h) fun v s1 ⟨x,H1,I1,r1,q1⟩=>thn (hb pins s1 σ H1 _ I1 q1) fun u s2 ⟨y,H2,I2,r2,q2⟩ =>
    thn (ho pins s2 σ H2 x y v u _ I2 r1 r2 q2) fun c s3 ⟨z,H3,I3,r3,k,e,q3⟩=>?_) hm
  subst e
  cases r3
  exact wpAny_truthy_bool ⟨H3,I3,q3⟩
theorem ya6:(sizeLine:Nat) < 2 ^ 63:=by rw [sizeLine_eq]; decide
theorem ze1:OpR X (binaryOp .Add) (fun x y H Q=>∃ i j,x = .str i ∧ y = .str j ∧ i.length + j.length ≤ sizeLine ∧ Q (.str (i ++ j)) H):=by
  intro pins s σ H x y v u Q I rx ry h
  obtain ⟨i,j,rfl,rfl,hz,q⟩:=h
  obtain ⟨t,rfl⟩:=rx
  obtain ⟨t',rfl⟩:=ry
  exact add_str (fun t' tk=>⟨.str (i ++ j),H,I.tok _,⟨_,rfl⟩,q⟩) hz
theorem zu1 {x:V} {us:List Value} (r:Vals [x] us):∃ u,us = [u] ∧ RelV x u:=by
  cases r with
  | cons r1 r2=>cases r2; exact ⟨_,rfl,r1⟩
theorem yu4 {x y:V} {us:List Value} (r:Vals [x,y] us):∃ u w',us = [u,w'] ∧ RelV x u ∧ RelV y w':=by
  cases r with
  | cons r1 r2 =>
    cases r2 with
    | cons r3 r4=>cases r4; exact ⟨_,_,rfl,r1,r3⟩
theorem zq6:CallR X (.builtin "abs") (fun xs H Q=>∃ i,xs = [.int i] ∧ Q (.int (if i < 0 then -i else i)) H):=by
  intro pins s σ H xs us Q I r h
  obtain ⟨i,rfl,q⟩:=h
  obtain ⟨u,rfl,t,rfl⟩:=zu1 r
  exact call_abs_int fun u tk=>⟨.int (if i < 0 then -i else i),H,I.tok _,⟨_,rfl⟩,q⟩
theorem yj8 (hc:X.calm = true):CallR X (.builtin "max") (fun xs H Q=>∃ i j,xs = [.int i,.int j] ∧ Q (.int (if j > i then j else i)) H):=by
  intro pins s σ H xs us Q I r h
  obtain ⟨i,j,rfl,q⟩:=h
  obtain ⟨u,w',rfl,⟨t,rfl⟩,⟨t',rfl⟩⟩:=yu4 r
  refine max_two_ints (I.ok.hd hc) fun h' tk k=>⟨_,H,I.kept k,?_,q⟩
  by_cases hj:j > i
  · rw [if_pos hj,if_pos hj]; exact ⟨_,rfl⟩
  · rw [if_neg hj,if_neg hj]; exact ⟨_,rfl⟩
theorem yj7 (hc:X.calm = true):CallR X (.builtin "min") (fun xs H Q=>∃ i j,xs = [.int i,.int j] ∧ Q (.int (if j < i then j else i)) H):=by
  intro pins s σ H xs us Q I r h
  obtain ⟨i,j,rfl,q⟩:=h
  obtain ⟨u,w',rfl,⟨t,rfl⟩,⟨t',rfl⟩⟩:=yu4 r
  refine min_two_ints (I.ok.hd hc) fun h' tk k=>⟨_,H,I.kept k,?_,q⟩
  by_cases hj:j < i
  · rw [if_pos hj,if_pos hj]; exact ⟨_,rfl⟩
  · rw [if_neg hj,if_neg hj]; exact ⟨_,rfl⟩
theorem yk0:CallR X (.type "int") (fun xs H Q=>(∃ i,xs = [.int i] ∧ Q (.int i) H) ∨ ∃ k,xs = [.bl k] ∧ Q (.int (if k then 1 else 0)) H):=by
  intro pins s σ H xs us Q I r h
  rcases h with ⟨i,rfl,q⟩ | ⟨k,rfl,q⟩
  · obtain ⟨u,rfl,t,rfl⟩:=zu1 r
    exact call_int_int ⟨.int i,H,I,⟨_,rfl⟩,q⟩
  · obtain ⟨u,rfl,r1⟩:=zu1 r
    cases r1
    exact call_int_bool ⟨.int (if k then 1 else 0),H,I.tok _,⟨_,rfl⟩,q⟩
theorem zf2:CallR X (.type "str") (fun xs H Q=>∃ i,xs = [.int i] ∧ i.natAbs.log2 < 1920 ∧ Q (.str (toString i)) H):=by
  intro pins s σ H xs us Q I r h
  obtain ⟨i,rfl,hz,q⟩:=h
  obtain ⟨u,rfl,t,rfl⟩:=zu1 r
  exact PySem.P.str_of_int hz ⟨.str _,H,I.tok _,⟨_,rfl⟩,q⟩
end
end L2
namespace L2
open PySem PySem.Spec PyProof.Rows
structure ObjM (h:Heap) (x dx C:Addr) (mA:Str → Option Value):Prop where
  obj:h.get? x = some (PySem.W.instObj C dx)
  ns:h.Ns1 dx mA
  ne:dx ≠ x
theorem yz5 {h:Heap} {dx:Addr} {mA:Str → Option Value} (n:h.Ns1 dx mA):∃ od,h.get? dx = some od ∧ ∀ name,PySem.W.lookIn name od = some (mA name):=by
  obtain ⟨o,es,ep,ho,hd,hk,_,hm⟩:=n
  refine ⟨o,ho,fun name=>?_⟩
  have e:=hm name
  unfold nsFind findBy at e
  rw [← Array.find?_toList] at e
  unfold PySem.W.lookIn
  rw [hd]
  dsimp only
  split
  · rename_i y q
    rw [q] at e
    exact congrArg some e
  · rename_i q
    rw [q] at e
    have a:es.toList.any (·.refKey) = false:=by
      rw [List.any_eq_false]
      intro y hy
      obtain ⟨z,t,hkey⟩:=hk y (Array.mem_toList_iff.mp hy)
      simp [DictEntry.refKey,hkey]
    have a':¬ es.toList.any (·.refKey) = true:=by rw [a]; exact Bool.false_ne_true
    rw [if_neg a']
    exact congrArg some e
theorem ObjM.look {h:Heap} {x dx C:Addr} {mA:Str → Option Value} (I:ObjM h x dx C mA):∃ od,PySem.W.InstAt h x (PySem.W.instObj C dx) C (some od) ∧ ∀ name,PySem.W.lookIn name od = some (mA name) :=
  let ⟨od,ho,hl⟩:=yz5 I.ns
  ⟨od,⟨I.obj,rfl,rfl,ho⟩,hl⟩
section
variable {prog:Program} {w:World} {A:Around} {E:Value → Shared → Prop} {s:Shared} {K:PySem.W.Frag} {x dx C f:Addr} {mA:Str → Option Value} {name:Str} {v:Value}
theorem xz7 {expr:Bool} {Q:Value → Shared → Prop} (X:K.In s.heap) (I:ObjM s.heap x dx C mA) (hg:PySem.W.plainGet K C name = true) (hh:PySem.W.hasDictIn K C = true)
    (ha:PySem.W.findIn K (.ref C) name = some none) (hv:mA name = some v) (hv':PySem.W.handedIn v = true) (h:Q v { s with toks:=s.toks + 1 }) :
    wpAny (model prog w) A (getAttr (.ref x) name expr) Q E s:=by
  obtain ⟨od,J,hl⟩:=I.look
  exact PySem.W.get_value X J (PySem.W.plainGet_of hg).1 (PySem.W.findObj_own hh ha rfl (by rw [hl,hv])) hv' h
theorem xi6 {pl:Sem Bool} {Q:Value × List Value → Shared → Prop} (X:K.In s.heap) (I:ObjM s.heap x dx C mA) (hg:PySem.W.plainGet K C name = true)
    (hf:PySem.W.findIn K (.ref C) name = some (some (.ref f))) (ht:PySem.W.isFn K (.ref f) = true) (hv:mA name = none) (h:Q (.ref f,[.ref x]) s) :
    wpAny (model prog w) A (getMethod (.ref x) name pl) Q E s:=by
  obtain ⟨od,J,hl⟩:=I.look
  exact PySem.W.method_fn X J (PySem.W.plainGet_of hg).1 (PySem.W.plainGet_of hg).2 hf (beq_iff_eq.mp ht) (by show (PySem.W.lookIn name od).map (·.isSome) = some false; rw [hl,hv]; rfl) h
theorem xs6 {ns:List Str} {Q:Unit → Shared → Prop} (X:K.In s.heap) (I:ObjM s.heap x dx C mA)
    (hs:PySem.W.findIn K (.ref C) "__setattr__" = some (some (.builtin "object.__setattr__"))) (hp:PySem.W.plainOver K C = true) (ht:PySem.W.takerIn K C name = some none) (hh:PySem.W.hasDictIn K C = true)
    (hw:PySem.Within mA ns) (hsz:ns.length ≤ sizeLine)
    (h:∀ h',ObjM h' x dx C (fun y=>if y = name then some v else mA y) → Heap.SameBut dx s.heap h' → Q () { s with heap:=h',toks:=s.toks + 2 }) :
    wpAny (model prog w) A (setAttr (.ref x) name v) Q E s:=by
  obtain ⟨od,J,hl⟩:=I.look
  refine PySem.W.set_plain X J hs (PySem.W.osa_open (s:={ s with toks:=s.toks + 1 }) (r:=none) X J hp ht fun b=>?_)
  obtain ⟨cd,hc,hd'⟩:=PySem.W.any_some hh
  have hx:s.heap.get? x = some ⟨.ref C,some dx,.plain,#[]⟩:=I.obj
  refine wpAny_bind (wpAny_pure (wpAny_bind (wpAny_bind (wpAny_loadPart hx (wpAny_bind (PySem.W.Looks.here (s:={ s with toks:=s.toks + 1 }) (PySem.W.looks_clsIn X hc) ?_))))))
  rw [hd']
  refine wpAny_pure (a:=some dx) (wpAny_bind (wpAny_pure (wpAny_bind ?_)))
  refine wpAny_nsSet1 (s:={ s with toks:=s.toks + 1 }) I.ns fun h' hn2 hs2=>?_
  obtain ⟨oD,esD,epD,hoD,hdD,hcD⟩:=hn2.count (PySem.Within.cons name v hw)
  refine wpAny_bind (wpAny_lookBehind hoD (by rw [hdD]; exact pastItsLine_dict (Nat.le_trans hcD (by rw [List.length_cons]; omega))) ?_)
  exact wpAny_pure (h _ ⟨(hs2.2 _ (Ne.symm I.ne)).trans I.obj,hn2,I.ne⟩ hs2)
theorem xh8 {R:Result → Shared → Prop} {vs:List Value} {kw:List (Str × Value)} (X:K.In s.heap) (hm:PySem.W.makesIn K C = true)
    (hi:PySem.W.findIn K (.ref C) "__init__" = some (some (.ref f))) (hf:PySem.W.typeIn K (.ref f) = some (.type "function"))
    (h:codeAny (model prog w) (A.under (.builtin "type.__call__" ⟨.ref C :: vs,kw⟩)) (.call (.ref f) ⟨.ref (s.heap.objs.size + 1) :: vs,kw⟩) (PySem.W.InitBack (s.heap.objs.size + 1) R)
      { s with heap:=(s.heap.push PySem.W.emptyDict).push (PySem.W.instObj C s.heap.objs.size) }) :
    codeAny (model prog w) A (.call (.ref C) ⟨vs,kw⟩) R s:=by
  obtain ⟨hh,g,d,t,os⟩:=s
  exact PySem.W.make_core (PySem.W.makes_of X hm) (PySem.W.looks_findIn X hi) (fun self=>PySem.W.bind_fn X self hf) (.inl rfl) h
end
noncomputable def putF (f:Str) (v:V):List (Str × V) → List (Str × V)
  | []=>[(f,v)]
  | (g,x) :: r=>if g = f then (g,v) :: r else (g,x) :: putF f v r
theorem zx4 (f g:Str) (v:V):∀ fs:List (Str × V),(putF f v fs).lookup g = if g = f then some v else fs.lookup g
  | []=>by
    show List.lookup g [(f,v)] = _
    by_cases h:g = f
    · have hb:(g == f) = true:=beq_iff_eq.mpr h
      simp only [List.lookup,hb,if_pos h]
    · have hb:(g == f) = false:=beq_eq_false_iff_ne.mpr h
      simp only [List.lookup,hb,if_neg h]
  | (k,x) :: r=>by
    have ih:=zx4 f g v r
    rw [show putF f v ((k,x) :: r) = (if k = f then (k,v) :: r else (k,x) :: putF f v r) from rfl]
    by_cases hk:k = f
    · rw [if_pos hk]
      by_cases h:g = k
      · have hb:(g == k) = true:=beq_iff_eq.mpr h
        simp only [List.lookup,hb,if_pos (h.trans hk)]
      · have hb:(g == k) = false:=beq_eq_false_iff_ne.mpr h
        simp only [List.lookup,hb,if_neg (fun e:g = f=>h (e.trans hk.symm))]
    · rw [if_neg hk]
      by_cases h:g = k
      · have hb:(g == k) = true:=beq_iff_eq.mpr h
        simp only [List.lookup,hb,if_neg (fun e:g = f=>hk (h.symm.trans e))]
      · have hb:(g == k) = false:=beq_eq_false_iff_ne.mpr h
        simp only [List.lookup,hb]
        exact ih
theorem zx7 (f:Str) (v:V):∀ fs:List (Str × V),f ∈ (putF f v fs).map (·.1) ∧ ∀ g,g ∈ fs.map (·.1) → g ∈ (putF f v fs).map (·.1)
  | []=>⟨by simp [putF],fun g h=>by simp at h⟩
  | (k,x) :: r=>by
    obtain ⟨i1,i2⟩:=zx7 f v r
    rw [show putF f v ((k,x) :: r) = (if k = f then (k,v) :: r else (k,x) :: putF f v r) from rfl]
    by_cases hk:k = f
    · rw [if_pos hk]
      subst hk
      exact ⟨by simp,fun g h=>by simpa using h⟩
    · rw [if_neg hk]
      refine ⟨?_,fun g h=>?_⟩
      · rw [List.map_cons]
        exact List.mem_cons_of_mem _ i1
      · rw [List.map_cons] at h ⊢
        rcases List.mem_cons.mp h with e | e
        · exact List.mem_cons.mpr (.inl e)
        · exact List.mem_cons_of_mem _ (i2 g e)
theorem zx6 (f:Str) (v:V):∀ fs:List (Str × V),(putF f v fs).length ≤ fs.length + 1
  | []=>by simp [putF]
  | (k,x) :: r=>by
    have ih:=zx6 f v r
    rw [show putF f v ((k,x) :: r) = (if k = f then (k,v) :: r else (k,x) :: putF f v r) from rfl]
    by_cases hk:k = f
    · rw [if_pos hk,List.length_cons,List.length_cons]; omega
    · rw [if_neg hk,List.length_cons,List.length_cons]; omega
theorem RelO.some_of {v:V} {o:Option Value} (r:RelO (some v) o):∃ u,o = some u ∧ RelV v u:=by
  cases o with
  | none=>exact (show False from r).elim
  | some u=>exact ⟨u,rfl,r⟩
theorem RelO.none_of {o:Option Value} (r:RelO none o):o = none:=by
  cases o with
  | none=>rfl
  | some u=>exact (show False from r).elim
theorem xa8 {v:V} {u:Value} (r:RelV v u):PySem.W.handedIn u = true:=by
  cases v with
  | non=>cases (show u = Value.none from r); rfl
  | bl b=>cases (show u = Value.bool b from r); rfl
  | int i=>obtain ⟨t,e⟩:=(show ∃ t,u = Value.int i t from r); cases e; rfl
  | str x=>obtain ⟨t,e⟩:=(show ∃ t,u = Value.str x t from r); cases e; rfl
  | byt b=>obtain ⟨t,e⟩:=(show ∃ t,u = Value.bytes b t from r); cases e; rfl
  | flt b=>obtain ⟨t,e⟩:=(show ∃ t,u = Value.float b t from r); cases e; rfl
  | ref a=>cases (show u = Value.ref a from r); rfl
  | ty n=>cases (show u = Value.type n from r); rfl
section
variable {P:Program} {w:World} {H H':Hp} {h h':Heap} {a C dx:Addr} {fs fs':List (Str × V)}
theorem ye1 (hok:HOk P w H h) (e:H a = some (.ins C dx fs)):∃ mA,ObjM h a dx C mA ∧ (∀ f,RelO (fs.lookup f) (mA f)) ∧ PySem.Within mA (fs.map (·.1)) ∧ fs.length ≤ 1000 ∧ H dx = some (.own a):=by
  obtain ⟨d,z,ne,ob,mA,n,r,q⟩:=(show ObjOk P w H h a (.ins C dx fs) from hok a _ e)
  exact ⟨mA,⟨ob,n,ne⟩,r,q,z,d⟩
end
structure Cls (K:PySem.W.Frag) (C:Addr):Prop where
  pg:PySem.W.plainGet K C Str.empty = true
  hd:PySem.W.hasDictIn K C = true
  po:PySem.W.plainOver K C = true
  sa:PySem.W.findIn K (.ref C) "__setattr__" = some (some (.builtin "object.__setattr__"))
theorem Cls.get {K:PySem.W.Frag} {C:Addr} (c:Cls K C) (f:Str):PySem.W.plainGet K C f = true:=c.pg
noncomputable def NoAttr (K:PySem.W.Frag) (C:Addr) (f:Str):Prop:=PySem.W.findIn K (.ref C) f = some none
theorem NoAttr.taker {K:PySem.W.Frag} {C:Addr} {f:Str} (n:NoAttr K C f):PySem.W.takerIn K C f = some none:=by
  unfold PySem.W.takerIn
  rw [show PySem.W.findIn K (.ref C) f = some none from n]
  rfl
structure Con (K:PySem.W.Frag) (C:Addr) (f:Str) (v:V) (u:Value):Prop where
  at_:PySem.W.findIn K (.ref C) f = some (some u)
  rel:RelV v u
  get:PySem.W.specialIn K u "__get__" = some none
  cp:PySem.W.copiedNames.contains f = false
structure Meth (K:PySem.W.Frag) (C:Addr) (m:Str) (f:Addr):Prop where
  at_:PySem.W.findIn K (.ref C) m = some (some (.ref f))
  fn:PySem.W.isFn K (.ref f) = true
  kp:PySem.W.keepIn K (.ref f) = true
section
variable {X:Cx} {pins:List (Addr × Obj)} {σ:St} {H:Hp} {s:Shared} {a C dx:Addr} {fs:List (Str × V)} {f:Str} {v:V} {A:Around} {E:Value → Shared → Prop}
theorem yt5 {b:Bool} {Q:Value → Shared → Prop} (I:Inv X pins σ H s) (e:H a = some (.ins C dx fs)) (c:Cls X.K C) (n:NoAttr X.K C f) (l:fs.lookup f = some v)
    (h:∀ u s',Inv X pins σ H s' → RelV v u → Q u s'):wpAny (model X.prog X.w) A (getAttr (.ref a) f b) Q E s:=by
  obtain ⟨mA,O,r,_,_,_⟩:=ye1 I.hok e
  obtain ⟨u,hu,ru⟩:=RelO.some_of (v:=v) (o:=mA f) (by rw [← l]; exact r f)
  exact xz7 I.kIn O (c.get f) c.hd n hu (xa8 ru) (h u _ (I.tok _) ru)
theorem yt4 {m:Str} {g:Addr} {pl:Sem Bool} {Q:Value × List Value → Shared → Prop} (I:Inv X pins σ H s) (e:H a = some (.ins C dx fs)) (c:Cls X.K C) (k:Meth X.K C m g) (l:fs.lookup m = none)
    (h:Q (.ref g,[.ref a]) s):wpAny (model X.prog X.w) A (getMethod (.ref a) m pl) Q E s:=by
  obtain ⟨mA,O,r,_,_,_⟩:=ye1 I.hok e
  have hn:mA m = none:=RelO.none_of (by rw [← l]; exact r m)
  exact xi6 I.kIn O (c.get m) k.at_ k.fn hn h
theorem ys8 {y:V} {u:Value} {Q:Unit → Shared → Prop} (I:Inv X pins σ H s) (e:H a = some (.ins C dx fs)) (c:Cls X.K C) (n:NoAttr X.K C f) (hl:fs.length < 1000) (ry:RelV y u)
    (h:∀ s',Inv X pins σ (upd H a (.ins C dx (putF f y fs))) s' → Q () s'):wpAny (model X.prog X.w) A (setAttr (.ref a) f u) Q E s:=by
  obtain ⟨mA,O,r,wi,_,ho⟩:=ye1 I.hok e
  have hz:(fs.map (·.1)).length ≤ sizeLine:=by rw [List.length_map,sizeLine_eq]; omega
  refine xs6 I.kIn O c.sa c.po n.taker c.hd wi hz fun h' O' sb=>h _ ?_
  have hd:∃ o,h'.get? dx = some o:=let ⟨o,_,_,e',_⟩:=O'.ns; ⟨o,e'⟩
  refine I.write (x:=a) (e:=dx) (by rw [e]; exact True.intro) (.inr ho) (fun b q hb z=>(sb.2 b hb).trans z) hd ?_
  refine ⟨by rw [zd9 O.ne]; exact ho,?_,O.ne,O'.obj,_,O'.ns,fun g=>?_,fun g hg=>?_⟩
  · have:=zx6 f y fs; omega
  · show RelO ((putF f y fs).lookup g) (if g = f then some u else mA g)
    rw [zx4]
    by_cases q:g = f
    · rw [if_pos q,if_pos q]; exact ry
    · rw [if_neg q,if_neg q]; exact r g
  · by_cases q:g = f
    · rw [q]; exact (zx7 f y fs).1
    · refine (zx7 f y fs).2 g (wi g fun z=>hg ?_)
      show (if g = f then some u else mA g) = none
      rw [if_neg q]; exact z
theorem Inv.made (I:Inv X pins σ H s):Inv X pins σ (upd (upd H s.heap.objs.size (.own (s.heap.objs.size + 1))) (s.heap.objs.size + 1) (.ins C s.heap.objs.size []))
    { s with heap:=(s.heap.push PySem.W.emptyDict).push (PySem.W.instObj C s.heap.objs.size) }:=by
  have e1:(s.heap.push PySem.W.emptyDict).get? s.heap.objs.size = some PySem.W.emptyDict:=Heap.get?_push_size s.heap rfl
  have e2:((s.heap.push PySem.W.emptyDict).push (PySem.W.instObj C s.heap.objs.size)).get? (s.heap.objs.size + 1) = some (PySem.W.instObj C s.heap.objs.size):=by
    have:=Heap.get?_push_size (s.heap.push PySem.W.emptyDict) (o:=PySem.W.instObj C s.heap.objs.size) rfl
    rwa [Heap.size_push] at this
  have e3:(s.heap.push PySem.W.emptyDict).Ns s.heap.objs.size (fun _=>none):=⟨PySem.W.emptyDict,#[],_,e1,rfl,(fun e he=>absurd he (by simp)),fun _=>rfl⟩
  have I1:=I.laid (a:=s.heap.objs.size) (o:=.own (s.heap.objs.size + 1)) (h':=s.heap.push PySem.W.emptyDict) (t':=s.toks) (fun b u q=>Heap.get?_push_of_some _ q) (Nat.le_refl _) ⟨_,e1⟩
  refine I1.laid (a:=s.heap.objs.size + 1) (o:=.ins C s.heap.objs.size []) (t':=s.toks) (fun b u q=>Heap.get?_push_of_some _ q) (Nat.le_of_eq (Heap.size_push _ _)) ?_
  have ne:s.heap.objs.size ≠ s.heap.objs.size + 1:=Nat.ne_of_lt (Nat.lt_succ_self _)
  refine ⟨by rw [zd9 ne,ze0],Nat.zero_le _,ne,e2,fun _=>none,(Heap.Ns1.of_empty e3).at fun o q=>Heap.get?_push_of_some _ q,fun _=>True.intro,fun y hy=>absurd rfl hy⟩
theorem wb6 {prog:Program} {w:World} {env:Env} {e:Expr} {f:Str} {pos:Pos} {s:Shared} {Q:Value → Shared → Prop} (hb:attributeBase e f env (eval e env) = eval e env)
    (h:wpAny (model prog w) A (eval e env) (fun o s₁=>wpAny (model prog w) A (getAttr o f true) Q E s₁) E s):wpAny (model prog w) A (eval (.Attribute e f pos) env) Q E s :=
  Attribute_any_ h (by rw [arm_eval_Attribute,hb])
end
noncomputable def tFld (K:PySem.W.Frag) (ta:TE) (f:Str):TE:=fun σ H Q=>ta σ H fun x H1=>∃ a C dx fs v,x = .ref a ∧ H1 a = some (.ins C dx fs) ∧ Cls K C ∧ NoAttr K C f ∧ fs.lookup f = some v ∧ Q v H1
noncomputable def sFld (K:PySem.W.Frag) (ta tv:TE) (f:Str):TS:=fun D σ H=>tv σ H fun y H1=>ta σ H1 fun x H2=>∃ a C dx fs,x = .ref a ∧ H2 a = some (.ins C dx fs) ∧ Cls K C ∧ NoAttr K C f ∧ fs.length < 1000 ∧
  D.nx σ (upd H2 a (.ins C dx (putF f y fs)))
section
variable {X:Cx} {o e value:Expr} {f:Str} {pos pos' tpos:Pos} {ta tv:TE}
theorem yx6 (he:PE X e ta) (hb:attributeBase e f X.env (eval e X.env) = eval e X.env):PE X (.Attribute e f pos) (tFld X.K ta f):=by
  intro pins s σ H Q I h
  refine wb6 hb (thn (he pins s σ H _ I h) fun u s1 ⟨x,H1,I1,rx,a,C,dx,fs,v,ex,ea,c,n,l,q⟩=>?_)
  subst ex
  obtain rfl:u = Value.ref a:=rx
  exact yt5 I1 ea c n l fun u' s2 I2 ru=>⟨v,H1,I2,ru,q⟩
theorem wh8 (ha:PE X o ta) (hv:PE X value tv) (hs:swapsWith value (some (.Attribute o f pos')) pos.line X.env = pure false):PS X (.Assign [.Attribute o f pos'] value pos) (sFld X.K ta tv f):=by
  intro pins s σ H D I h
  refine plainObj_wpAny_Assign_Attribute (thn (hv pins s σ H _ I h) fun u s1 ⟨y,H1,I1,ry,q⟩=>thn (ha pins s1 σ H1 _ I1 q) fun ov s2 ⟨x,H2,I2,rx,a,C,dx,fs,ex,ea,c,n,l,q2⟩=>?_) hs
  subst ex
  obtain rfl:ov = Value.ref a:=rx
  exact ys8 I2 ea c n l ry fun s3 I3=>⟨σ,_,I3,q2⟩
end
section
variable {X:Cx} {pins:List (Addr × Obj)} {σ:St} {H:Hp} {s:Shared} {A:Around} {E:Value → Shared → Prop} {Q:Value → Shared → Prop} {c:Value} {b:Bool}
inductive TyOf (K:PySem.W.Frag) (H:Hp):V → Value → Prop where
  | non:TyOf K H .non (.type "NoneType")
  | bl (x:Bool):TyOf K H (.bl x) (.type "bool")
  | int (i:Int):TyOf K H (.int i) (.type "int")
  | str (x:Str):TyOf K H (.str x) (.type "str")
  | flt (x:UInt64):TyOf K H (.flt x) (.type "float")
  | lst {a:Addr} {xs:List V} (e:H a = some (.lst xs)):TyOf K H (.ref a) (.type "list")
  | frz {a:Addr} {o:Obj} {xs:List V} (e:H a = some (.frz o (.lst xs))):TyOf K H (.ref a) (.type "list")
  | tup {a:Addr} {xs:List V} (e:H a = some (.tup xs)):TyOf K H (.ref a) (.type "tuple")
  | dK {a:Addr} {kvs:List (Key × V)} (e:H a = some (.dK kvs)):TyOf K H (.ref a) (.type "dict")
  | dT {a:Addr} {kvs:List (List Key × V)} (e:H a = some (.dT kvs)):TyOf K H (.ref a) (.type "dict")
  | ins {a C dx:Addr} {fs:List (Str × V)} (e:H a = some (.ins C dx fs)) (cl:Cls K C) (ha:PySem.W.findIn K (.ref C) "__class__" = some (some (.builtin "object.__class__")))
      (hn:PySem.W.specialIn K (.builtin "object.__class__") "__get__" = some (some (.builtin "getset_descriptor.__get__"))) (htk:PySem.W.takesIn K (.builtin "object.__class__") = some true)
      (hm:PySem.W.mroIn K C (.type "object") = some true):TyOf K H (.ref a) (.ref C)
theorem zp9 {x:V} {u t:Value} (I:Inv X pins σ H s) (rx:RelV x u) (ty:TyOf X.K H x t) (e:PySem.W.kitOne X.K t c = some b) (h:∀ tk,Q (.bool b) { s with toks:=tk }) :
    wpAny (model X.prog X.w) A (call (.builtin "isinstance") [u,c]) Q E s:=by
  cases ty with
  | non=>cases (show u = Value.none from rx); exact PySem.W.kia_one PySem.W.kitx_none I.kIn True.intro e (fun z=>nomatch z) h
  | bl y=>cases (show u = Value.bool y from rx); exact PySem.W.kia_one PySem.W.kitx_bool I.kIn True.intro e (fun z=>nomatch z) h
  | int i=>obtain ⟨t,q⟩:=(show ∃ t,u = Value.int i t from rx); cases q; exact PySem.W.kia_one PySem.W.kitx_int I.kIn True.intro e (fun z=>nomatch z) h
  | str y=>obtain ⟨t,q⟩:=(show ∃ t,u = Value.str y t from rx); cases q; exact PySem.W.kia_one PySem.W.kitx_str I.kIn True.intro e (fun z=>nomatch z) h
  | flt y=>obtain ⟨t,q⟩:=(show ∃ t,u = Value.float y t from rx); cases q; exact PySem.W.kia_one PySem.W.kitx_float I.kIn True.intro e (fun z=>nomatch z) h
  | @lst a xs ea =>
    cases (show u = Value.ref a from rx)
    obtain ⟨_,_,n,_,h1⟩:=(show ObjOk X.prog X.w H s.heap a (.lst xs) from I.hok a _ ea)
    exact PySem.W.kia_one PySem.W.kitx_list I.kIn ⟨_,h1,rfl⟩ e (fun z=>nomatch z) h
  | @frz a ob xs ea =>
    cases (show u = Value.ref a from rx)
    obtain ⟨_,_,_,n,_,h1⟩:=(show ObjOk X.prog X.w H s.heap a (.frz ob (.lst xs)) from I.hok a _ ea)
    exact PySem.W.kia_one PySem.W.kitx_list I.kIn ⟨_,h1,rfl⟩ e (fun z=>nomatch z) h
  | @tup a xs ea =>
    cases (show u = Value.ref a from rx)
    obtain ⟨_,_,_,p⟩:=(show ObjOk X.prog X.w H s.heap a (.tup xs) from I.hok a _ ea)
    obtain ⟨o,h1,h2,_⟩:=p
    exact PySem.W.kia_one PySem.W.kitx_tuple I.kIn ⟨o,h1,h2⟩ e (fun z=>nomatch z) h
  | @dK a kvs ea =>
    cases (show u = Value.ref a from rx)
    obtain ⟨_,_,vs,_,p⟩:=(show ObjOk X.prog X.w H s.heap a (.dK kvs) from I.hok a _ ea)
    obtain ⟨o,es,ep,h1,h2,_⟩:=p
    exact PySem.W.kia_one PySem.W.kitx_dict I.kIn ⟨o,h1,h2.1⟩ e (fun z=>nomatch z) h
  | @dT a kvs ea =>
    cases (show u = Value.ref a from rx)
    obtain ⟨_,_,xs,_,o,es,ep,h1,h2,_⟩:=(show ObjOk X.prog X.w H s.heap a (.dT kvs) from I.hok a _ ea)
    exact PySem.W.kia_one PySem.W.kitx_dict I.kIn ⟨o,h1,h2.1⟩ e (fun z=>nomatch z) h
  | @ins a C dx fs ea cl ha hn htk hm =>
    cases (show u = Value.ref a from rx)
    obtain ⟨mA,O,_⟩:=ye1 I.hok ea
    obtain ⟨od,J,_⟩:=O.look
    exact PySem.W.kia_one (PySem.W.kitx_own (cl.get _) cl.hd ha hn htk hm) I.kIn J e (fun z=>nomatch z) h
end
end L2
namespace L2
open PySem PySem.Spec PyProof.Rows
structure Room (k:Nat) (A:Around):Prop where
  hd:A.handled = none
  dp:A.depth + 3 * k + 5 < recursionLimit
  un:A.units + 16 * k + 200 < cLine
theorem Room.mono {j k:Nat} {A:Around} (r:Room k A) (h:j ≤ k):Room j A:=⟨r.hd,by have:=r.dp; omega,by have:=r.un; omega⟩
theorem Room.deeper {k:Nat} {A:Around} (r:Room (k + 1) A) (env:Env):Room k (A.deeper env) :=
  ⟨r.hd,by have:=r.dp; show A.depth + 1 + 3 * k + 5 < _; omega,by have:=r.un; show A.units + 3 + 16 * k + 200 < _; omega⟩
theorem yt0 {A:Around} {C:Addr} {us:List Value} {kw:List (Str × Value)}:(A.under (.builtin "type.__call__" ⟨.ref C :: us,kw⟩)).depth = A.depth + 1:=by
  first | rfl | simp [Around.under,Code.weight,Code.isCreation,Code.isGuard,Code.isCaller,Code.frames,Code.isFrame,guardIds]
theorem ys9 {A:Around} {C:Addr} {us:List Value} {kw:List (Str × Value)}:(A.under (.builtin "type.__call__" ⟨.ref C :: us,kw⟩)).units = A.units + 1:=by
  first | rfl | simp [Around.under,Code.cUnits,Code.frames,Code.isFrame]
theorem Room.make {k:Nat} {A:Around} (r:Room (k + 1) A) (C:Addr) (us:List Value) (kw:List (Str × Value)):Room k (A.under (.builtin "type.__call__" ⟨.ref C :: us,kw⟩)) :=
  ⟨r.hd,by have:=r.dp; rw [yt0]; omega,by have:=r.un; rw [ys9]; omega⟩
theorem Room.depth {k:Nat} {A:Around} (r:Room k A):A.depth < recursionLimit:=by have:=r.dp; omega
theorem Room.units {k:Nat} {A:Around} (r:Room k A):A.units + 64 < cLine:=by have:=r.un; omega
noncomputable def tNil:TA:=fun _ H Q=>Q [] H
noncomputable def zo8 (ta:TE) (tr:TA):TA:=fun σ H Q=>ta σ H fun x H1=>tr σ H1 fun xs H2=>Q (x :: xs) H2
section
variable {X:Cx} {e:Expr} {es:List Expr} {te:TE} {t:TA} {pos:Pos}
theorem za4:PA X [] tNil:=fun _ _ _ _ H Q I h=>Calls.spliced_nil ⟨[],H,I,.nil,h⟩
theorem za0 (ha:PE X e te) (hr:PA X es t) (hs:starEach (e :: es) X.env = (false,eval e X.env) :: starEach es X.env:=by rfl):PA X (e :: es) (zo8 te t):=by
  intro pos pins s σ H Q I h
  rw [hs]
  show wpAny _ _ (spliced ((false,eval e X.env) :: backTo pos (starEach es X.env))) _ _ s
  refine Calls.spliced_cons (thn (ha pins s σ H _ I h) fun u s1 ⟨x,H1,I1,r1,q1⟩=>?_)
  exact thn (hr pos pins s1 σ H1 _ I1 q1) fun us s2 ⟨xs,H2,I2,r2,q2⟩=>⟨x :: xs,H2,I2,.cons r1 r2,q2⟩
noncomputable def tTup (t:TA):TE:=fun σ H Q=>t σ H fun xs H1=>xs.length ≤ sizeLine ∧ ∀ p,H1 p = none → Q (.ref p) (upd H1 p (.tup xs))
noncomputable def tLst (t:TA):TE:=fun σ H Q=>t σ H fun xs H1=>xs.length ≤ sizeLine ∧ ∀ p,H1 p = none → Q (.ref p) (upd H1 p (.lst xs))
theorem zh6 {x1} (h:PA X es t):PE X (.Tuple es x1 pos) (tTup t):=by
  intro pins s σ H Q I hq
  refine wpAny_Tuple_spliced (thn (h pos pins s σ H _ I hq) fun us s1 ⟨xs,H1,I1,r,z,q⟩=>⟨by rw [← r.length]; exact z,?_⟩)
  have hf:H1 s1.heap.objs.size = none:=I1.hok.fresh (Nat.le_refl _)
  refine ⟨.ref s1.heap.objs.size,upd H1 s1.heap.objs.size (.tup xs),I1.laid (t':=s1.toks) (fun b u e=>Heap.get?_push_of_some _ e) (Nat.le_refl _) ?_,rfl,q _ hf⟩
  exact ⟨z,us,r,⟨_,Heap.get?_push_size _ rfl,rfl,_,rfl⟩⟩
theorem zi1 (h:PA X es t):PE X (.List es pos) (tLst t):=by
  intro pins s σ H Q I hq
  refine wpAny_List_spliced (thn (h pos pins s σ H _ I hq) fun us s1 ⟨xs,H1,I1,r,z,q⟩=>⟨by rw [← r.length]; exact z,?_⟩)
  have hf:H1 s1.heap.objs.size = none:=I1.hok.fresh (Nat.le_refl _)
  refine ⟨.ref s1.heap.objs.size,upd H1 s1.heap.objs.size (.lst xs),I1.laid (t':=s1.toks) (fun b u e=>Heap.get?_push_of_some _ e) (Nat.le_refl _) ?_,rfl,q _ hf⟩
  exact ⟨z,us,0,r,Heap.get?_push_size _ rfl⟩
end
noncomputable abbrev Sp:=List V → Hp → VK → XK → Prop
noncomputable abbrev CXT:=List Env → Hp → Shared → XK → Value → Shared → Prop
structure Env0 (P:Program) (w:World) (K:PySem.W.Frag) (mg:Str → Option Value) (base:Heap) (A:Around) (outer:List Env) (s:Shared) (H:Hp):Prop where
  frames:A.frames = some outer
  mod:Mod K mg base
  bs:∀ b o,base.get? b = some o → s.heap.get? b = some o ∧ H b = none
  bsz:base.objs.size ≤ s.heap.objs.size
  funs:s.heap.FunFrames base outer
  frf:∀ b ∈ frs outer,H b = none
  hok:HOk P w H s.heap
  bare:AllBare s.gens
noncomputable def CE (outer:List Env) (P:Program) (w:World) (H:Hp) (s:Shared) (Q:VK) (u:Value) (s':Shared):Prop :=
  ∃ v H',s'.os = s.os ∧ AllBare s'.gens ∧ Un (frs outer) [] H H' s.heap s'.heap ∧ HOk P w H' s'.heap ∧ RelV v u ∧ Q v H'
noncomputable def CR (CX:CXT) (outer:List Env) (P:Program) (w:World) (H:Hp) (s:Shared) (Q:VK) (E:XK) (r:Result) (s':Shared):Prop :=
  match r with
  | .ok (.ret u)=>CE outer P w H s Q u s'
  | .ok _=>False
  | .error e=>CX outer H s E e s'
structure FnOk (P:Program) (w:World) (K:PySem.W.Frag) (mg:Str → Option Value) (base:Heap) (CX:CXT) (k:Nat) (f:Addr) (fd:FuncData) (ps:List Str) (sp:Sp):Prop where
  len:∀ vs H Q E,sp vs H Q E → vs.length = ps.length
  run:∀ (A:Around) (outer:List Env) (s:Shared) (H:Hp) (args:Args) (us:List Value) (vs:List V) (Q:VK) (E:XK),Room k A → Env0 P w K mg base A outer s H → BindsTo s fd args (ps.zip us) → Vals vs us → sp vs H Q E →
    codeAny (model P w) A (.call (.ref f) args) (CR CX outer P w H s Q E) s
theorem FnOk.mono {P:Program} {w:World} {K:PySem.W.Frag} {mg:Str → Option Value} {base:Heap} {CX:CXT} {j k:Nat} {f:Addr} {fd:FuncData} {ps:List Str} {sp:Sp} (F:FnOk P w K mg base CX j f fd ps sp) (h:j ≤ k) :
    FnOk P w K mg base CX k f fd ps sp:=⟨F.len,fun A outer s H args us vs Q E hr=>F.run A outer s H args us vs Q E (hr.mono h)⟩
theorem FnOk.imp {P:Program} {w:World} {K:PySem.W.Frag} {mg:Str → Option Value} {base:Heap} {CX:CXT} {k:Nat} {f:Addr} {fd:FuncData} {ps:List Str} {sp sp':Sp} (F:FnOk P w K mg base CX k f fd ps sp)
    (h:∀ vs H Q E,sp' vs H Q E → sp vs H Q E):FnOk P w K mg base CX k f fd ps sp' :=
  ⟨fun vs H Q E q=>F.len vs H Q E (h _ _ _ _ q),fun A outer s H args us vs Q E hr he hb hv hs=>F.run A outer s H args us vs Q E hr he hb hv (h _ _ _ _ hs)⟩
theorem Env0.make {P:Program} {w:World} {K:PySem.W.Frag} {mg:Str → Option Value} {base:Heap} {A:Around} {outer:List Env} {s:Shared} {H:Hp} (e:Env0 P w K mg base A outer s H) (C:Addr) (us:List Value) (kw:List (Str × Value)) :
    Env0 P w K mg base (A.under (.builtin "type.__call__" ⟨.ref C :: us,kw⟩)) outer s H:=⟨by first | exact e.frames | (simpa [Around.under,Code.envs,Code.isFrame,pushEnvs] using e.frames),e.mod,e.bs,e.bsz,e.funs,e.frf,e.hok,e.bare⟩
section
variable {X:Cx} {pins:List (Addr × Obj)} {σ:St} {H:Hp} {s s':Shared}
theorem Inv.env0 (I:Inv X pins σ H s):Env0 X.prog X.w X.K X.mg X.base X.A X.stack s H :=
  ⟨I.ok.frames,I.ok.mod,I.bs,Nat.le_trans I.ok.bsz I.sz,I.stack,I.stkFree,I.hok,I.bare⟩
theorem Inv.after {Q:VK} {u:Value} (I:Inv X pins σ H s) (h:CE X.stack X.prog X.w H s Q u s'):EP X pins σ Q u s':=by
  obtain ⟨v,H',os,bare,un,hok,r,q⟩:=h
  obtain ⟨hh,g,d,t,os'⟩:=s'
  obtain rfl:os' = s.os:=os
  exact ⟨v,H',I.call (h':=hh) (g':=g) (d':=d) (t':=t) (ch:=[]) un hok bare (fun b z=>absurd z (by simp)),r,q⟩
end
noncomputable def yb8 (sp:Sp) (dvs:List V) (E:XK) (t:TA):TE:=fun σ H Q=>t σ H fun vs H1=>sp (vs ++ dvs) H1 Q E
noncomputable def yv3 (C:Addr) (m:Str) (sp:Sp) (dvs:List V) (E:XK) (ta:TE) (t:TA):TE:=fun σ H Q=>ta σ H fun x H1=>∃ a dx fs,x = .ref a ∧ H1 a = some (.ins C dx fs) ∧ fs.lookup m = none ∧
  t σ H1 fun vs H2=>sp (x :: (vs ++ dvs)) H2 Q E
noncomputable def we5 (C:Addr) (sp:Sp) (dvs:List V) (E:XK) (t:TA):TE:=fun σ H Q=>t σ H fun vs H1=>∀ x dx,H1 x = none → H1 dx = none → dx ≠ x →
  sp (.ref x :: (vs ++ dvs)) (upd (upd H1 dx (.own x)) x (.ins C dx [])) (fun v H2=>v = .non ∧ Q (.ref x) H2) E
noncomputable def Binds (K:PySem.W.Frag) (fd:FuncData) (ps:List Str) (ds:List Value):Prop :=
  ∀ (s:Shared) (us:List Value),K.In s.heap → (us ++ ds).length = ps.length → BindsTo s fd ⟨us,[]⟩ (ps.zip (us ++ ds))
theorem Binds.all {K:PySem.W.Frag} {fd:FuncData} {ps:List Str} (h:∀ us:List Value,us.length = ps.length → bindArgs fd ⟨us,[]⟩ = pure (ps.zip us)):Binds K fd ps []:=fun s us _ hl=>by
  rw [List.append_nil] at hl ⊢
  exact .of_eq (h us hl)
noncomputable def zu0 (CX:CXT) (X:Cx) (E:XK):Prop:=∀ (pins:List (Addr × Obj)) (σ:St) (H:Hp) (s:Shared) (e:Value) (s':Shared),Inv X pins σ H s → CX X.stack H s E e s' → X.xe e s'
section
variable {X:Cx} {CX:CXT} {k:Nat} {f C:Addr} {fd:FuncData} {ps:List Str} {sp:Sp} {dvs:List V} {ds:List Value} {E:XK} {x m:Str} {p pos apos:Pos} {e o:Expr} {es:List Expr} {ta:TE} {t:TA}
theorem xl7 {pins:List (Addr × Obj)} {σ:St} {H:Hp} {s:Shared} {Q:VK} {us:List Value} {vs:List V} (F:FnOk X.prog X.w X.K X.mg X.base CX k f fd ps sp) (hr:Room k X.A) (hb:Binds X.K fd ps ds) (hd:Vals dvs ds) (hx:zu0 CX X E)
    (I:Inv X pins σ H s) (r:Vals vs us) (h:sp (vs ++ dvs) H Q E):wpAny (model X.prog X.w) X.A (call (.ref f) us) (EP X pins σ Q) X.xe s:=by
  have r2:Vals (vs ++ dvs) (us ++ ds):=r.append hd
  have hl:(us ++ ds).length = ps.length:=by rw [← r2.length]; exact F.len _ _ _ _ h
  refine wpAny_call (codeAny_mono (F.run X.A X.stack s H ⟨us,[]⟩ (us ++ ds) (vs ++ dvs) Q E hr I.env0 (hb s us I.kIn hl) r2 h) fun r s' hq=>?_)
  cases r with
  | error e=>exact hx pins σ H s e s' I hq
  | ok fl =>
    cases fl with
    | ret u=>exact I.after hq
    | next=>exact False.elim hq
    | brk=>exact False.elim hq
    | cont=>exact False.elim hq
theorem za9 (F:FnOk X.prog X.w X.K X.mg X.base CX k f fd ps sp) (hr:Room k X.A) (hg:Gl X x) (hm:X.mg x = some (.ref f)) (hk:PySem.W.keepIn X.K (.ref f) = true) (hb:Binds X.K fd ps ds) (hd:Vals dvs ds) (hx:zu0 CX X E)
    (ha:PA X (e :: es) t) (hdb:(x == ("__debug__":Str)) = false:=by decide) (he:starEach (e :: es) X.env = (false,eval e X.env) :: starEach es X.env:=by rfl) (hpl:(backTo pos (starEach es X.env)).any (·.1) = false:=by rfl) :
    PE X (.Call (.Name x p) (e :: es) [] pos) (yb8 sp dvs E t):=by
  intro pins s σ H Q I h
  refine wpAny_Call_Name_kw (yd9 I hg hm ?_ hdb)
  refine PySem.W.callWith_K (h₀:=X.base) I.ok.mod.kin hk (thn (ha pos pins s σ H _ I h) fun us s1 ⟨vs,H1,I1,r,q⟩=>⟨I1.kIn,?_⟩) he hpl
  exact xl7 F hr hb hd hx I1 r q
theorem zp4 {pl:Sem Bool} (he:PE X o ta) (c:Cls X.K C) (hm:Meth X.K C m f) (F:FnOk X.prog X.w X.K X.mg X.base CX k f fd ps sp) (hr:Room k X.A) (hb:Binds X.K fd ps ds) (hd:Vals dvs ds) (hx:zu0 CX X E) (ha:PA X (e :: es) t)
    (hst:starEach (e :: es) X.env = (false,eval e X.env) :: starEach es X.env:=by rfl) (hpl:(backTo pos (starEach es X.env)).any (·.1) = false:=by rfl)
    (ht:eval (.Call (.Attribute o m apos) (e :: es) [] pos) X.env = (do
      let ov ← eval o X.env
      standAt apos.atName
      let (f,first) ← holding [ov] (getMethod ov m pl)
      callWith pos f first (backTo pos (starEach (e :: es) X.env)) (backToKw pos (keywordEach [] X.env))):=by rfl) :
    PE X (.Call (.Attribute o m apos) (e :: es) [] pos) (yv3 C m sp dvs E ta t):=by
  intro pins s σ H Q I h
  refine PySem.W.methodCall_KW (pl:=pl) (thn (he pins s σ H _ I h) fun u s1 ⟨x,H1,I1,rx,a,dx,fs,ex,ea,l,q⟩=>?_) ht
  subst ex
  obtain rfl:u = Value.ref a:=rx
  refine yt4 I1 ea c hm l ?_
  refine PySem.W.callWith_K (first:=[.ref a]) (h₀:=X.base) I.ok.mod.kin hm.kp (thn (ha pos pins s1 σ H1 _ I1 q) fun us s2 ⟨vs,H2,I2,r,q2⟩=>⟨I2.kIn,?_⟩) hst hpl
  exact xl7 (us:=.ref a :: us) (vs:=.ref a :: vs) F hr hb hd hx I2 (.cons rfl r) q2
structure Mk (K:PySem.W.Frag) (C f:Addr):Prop where
  makes:PySem.W.makesIn K C = true
  init:PySem.W.findIn K (.ref C) "__init__" = some (some (.ref f))
  fn:PySem.W.isFn K (.ref f) = true
  kp:PySem.W.keepIn K (.ref C) = true
theorem xg6 {pins:List (Addr × Obj)} {σ:St} {H:Hp} {s:Shared} {Q:VK} {us:List Value} {vs:List V} (M:Mk X.K C f) (F:FnOk X.prog X.w X.K X.mg X.base CX k f fd ps sp) (hr:Room (k + 1) X.A) (hb:Binds X.K fd ps ds) (hd:Vals dvs ds)
    (hx:zu0 CX X E) (I:Inv X pins σ H s) (r:Vals vs us)
    (h:∀ x dx,H x = none → H dx = none → dx ≠ x → sp (.ref x :: (vs ++ dvs)) (upd (upd H dx (.own x)) x (.ins C dx [])) (fun v H2=>v = .non ∧ Q (.ref x) H2) E) :
    wpAny (model X.prog X.w) X.A (call (.ref C) us) (EP X pins σ Q) X.xe s:=by
  have hq:=h (s.heap.objs.size + 1) s.heap.objs.size (I.hok.fresh (Nat.le_succ _)) (I.hok.fresh (Nat.le_refl _)) (Nat.ne_of_lt (Nat.lt_succ_self _))
  have I2:=Inv.made (C:=C) I
  have r2:Vals (V.ref (s.heap.objs.size + 1) :: (vs ++ dvs)) (Value.ref (s.heap.objs.size + 1) :: (us ++ ds)):=.cons rfl (r.append hd)
  have hl:(Value.ref (s.heap.objs.size + 1) :: us ++ ds).length = ps.length:=by
    have e:=r2.length
    rw [F.len _ _ _ _ hq] at e
    exact e.symm
  refine wpAny_call (xh8 (f:=f) I.kIn M.makes M.init (beq_iff_eq.mp M.fn) (codeAny_mono (F.run _ X.stack _ _ ⟨Value.ref (s.heap.objs.size + 1) :: us,[]⟩ (Value.ref (s.heap.objs.size + 1) :: (us ++ ds)) _ _ E (hr.make C us [])
    (I2.env0.make C us []) (hb _ (Value.ref (s.heap.objs.size + 1) :: us) I2.kIn hl) r2 hq) fun r s' hq'=>?_))
  cases r with
  | error e=>exact hx pins σ _ _ e s' I2 hq'
  | ok fl =>
    cases fl with
    | ret u =>
      obtain ⟨v,H',I3,rv,ev,q3⟩:=I2.after hq'
      subst ev
      exact ⟨rv,⟨V.ref (s.heap.objs.size + 1),H',I3,rfl,q3⟩⟩
    | next=>exact False.elim hq'
    | brk=>exact False.elim hq'
    | cont=>exact False.elim hq'
theorem xg8 (M:Mk X.K C f) (F:FnOk X.prog X.w X.K X.mg X.base CX k f fd ps sp) (hr:Room (k + 1) X.A) (hg:Gl X x) (hm:X.mg x = some (.ref C)) (hb:Binds X.K fd ps ds) (hd:Vals dvs ds) (hx:zu0 CX X E)
    (hdb:(x == ("__debug__":Str)) = false:=by decide):PE X (.Call (.Name x p) [] [] pos) (we5 C sp dvs E tNil):=by
  intro pins s σ H Q I h
  refine wpAny_Call_Name_kw (yd9 I hg hm ?_ hdb)
  exact PySem.W.callWith_K0 I.kIn M.kp (xg6 (us:=[]) M F hr hb hd hx I .nil h)
end
section
variable {X:Cx} {CX:CXT} {k:Nat} {f C:Addr} {fd:FuncData} {ps ks:List Str} {sp:Sp} {E:XK} {x m:Str} {p pos apos kpos:Pos} {e o:Expr} {es:List Expr} {kws:List Keyword} {te ta:TE} {t tk:TA} {nm:Option Str}
structure KBinds (K:PySem.W.Frag) (fd:FuncData) (ps ks:List Str) (g:List Value → List Value → List Value) (gV:List V → List V → List V):Prop where
  to:∀ (s:Shared) (us ws:List Value),K.In s.heap → (g us ws).length = ps.length → BindsTo s fd ⟨us,ks.zip ws⟩ (ps.zip (g us ws))
  rel:∀ {vs:List V} {us:List Value} {zs:List V} {ws:List Value},Vals vs us → Vals zs ws → Vals (gV vs zs) (g us ws)
variable {g:List Value → List Value → List Value} {gV:List V → List V → List V}
end
structure FnScope (N P:List Str) (sc:Scope):Prop where
  kind:sc.kind = .function
  co:sc.isCoroutine = false
  gen:sc.isGenerator = false
  nd:N.Nodup
  pre:N.take P.length = P
  par:∀ x ∈ P,sc.names.lookup x = some .local ∨ sc.names.lookup x = some .cell
  nofree:∀ y ∈ sc.names,y.2 ≠ .free
theorem yk1 {kindOf:Str → Option NameKind} {x:Str}:∀ {binds:List (Str × Value)} {m:Str → Option Value},(∀ v,(x,v) ∉ binds) → bindL kindOf binds m x = m x
  | [],_,_=>rfl
  | (n,v) :: r,m,h=>by
    unfold bindL
    rw [yk1 fun w hw=>h w (List.mem_cons_of_mem _ hw)]
    split
    · have:x ≠ n:=by rintro rfl; exact h v List.mem_cons_self
      simp [this]
    · rfl
theorem yk3 {kindOf:Str → Option NameKind} {x:Str}:∀ {binds:List (Str × Value)} {m:Str → Option Value},(∀ v,(x,v) ∉ binds) → bindC kindOf binds m x = m x
  | [],_,_=>rfl
  | (n,v) :: r,m,h=>by
    unfold bindC
    rw [yk3 fun w hw=>h w (List.mem_cons_of_mem _ hw)]
    split
    · rfl
    · have:x ≠ n:=by rintro rfl; exact h v List.mem_cons_self
      simp [this]
theorem yk2 {kindOf:Str → Option NameKind} {x:Str} {v:Value}:∀ {P:List Str} {vs:List Value} {i:Nat} {m:Str → Option Value},P.Nodup → P[i]? = some x → vs[i]? = some v → kindOf x = some .local →
    bindL kindOf (P.zip vs) m x = some v
  | [],_,_,_,_,h,_,_=>by simp at h
  | _ :: _,[],_,_,_,_,h,_=>by simp at h
  | p :: P,w :: vs,0,m,nd,h1,h2,hk=>by
    simp at h1 h2; subst h1; subst h2
    show bindL kindOf ((p,w) :: P.zip vs) m p = _
    unfold bindL
    rw [yk1 fun v hv=>(List.nodup_cons.mp nd).1 (List.of_mem_zip hv).1,if_pos hk]
    simp
  | p :: P,w :: vs,i + 1,m,nd,h1,h2,hk=>by
    show bindL kindOf ((p,w) :: P.zip vs) m x = _
    unfold bindL
    exact yk2 (i:=i) (List.nodup_cons.mp nd).2 (by simpa using h1) (by simpa using h2) hk
theorem yk4 {kindOf:Str → Option NameKind} {x:Str} {v:Value}:∀ {P:List Str} {vs:List Value} {i:Nat} {m:Str → Option Value},P.Nodup → P[i]? = some x → vs[i]? = some v → kindOf x ≠ some .local →
    bindC kindOf (P.zip vs) m x = some v
  | [],_,_,_,_,h,_,_=>by simp at h
  | _ :: _,[],_,_,_,_,h,_=>by simp at h
  | p :: P,w :: vs,0,m,nd,h1,h2,hk=>by
    simp at h1 h2; subst h1; subst h2
    show bindC kindOf ((p,w) :: P.zip vs) m p = _
    unfold bindC
    rw [yk3 fun v hv=>(List.nodup_cons.mp nd).1 (List.of_mem_zip hv).1,if_neg hk]
    simp
  | p :: P,w :: vs,i + 1,m,nd,h1,h2,hk=>by
    show bindC kindOf ((p,w) :: P.zip vs) m x = _
    unfold bindC
    exact yk4 (i:=i) (List.nodup_cons.mp nd).2 (by simpa using h1) (by simpa using h2) hk
noncomputable def start (N:List Str) (vs:List V):St:=vs.map some ++ List.replicate (N.length - vs.length) none
noncomputable def cxOf (CX:CXT) (P:Program) (w:World) (K:PySem.W.Frag) (mg:Str → Option Value) (base:Heap) (N:List Str) (qual:Str) (scope:Scope) (f:Addr) (cd:Value) (A:Around) (outer:List Env) (s:Shared) (H:Hp) (E:XK):Cx where
  prog:=P
  w:=w
  K:=K
  mg:=mg
  base:=base
  A:=A.deeper (envOfC qual scope s.heap.objs.size f cd)
  N:=N
  s₀:=s
  H₀:=H
  env:=envOfC qual scope s.heap.objs.size f cd
  outer:=outer
  stack:=envOfC qual scope s.heap.objs.size f cd :: outer
  ex:=[]
  calm:=true
  fn:=fun _=>true
  pn:=[]
  xe:=fun e s'=>wpAny (model P w) (A.deeper (envOfC qual scope s.heap.objs.size f cd)) (leaving (envOfC qual scope s.heap.objs.size f cd) e) (fun _ s''=>CX outer H s E e s'') (fun e' s''=>CX outer H s E e' s'') s'
theorem ys1 {sc:Scope} {n:Nat} {x:Str} (h:sc.names.lookup x = some .cell):∃ c,(cellsFrom n sc.names []).lookup x = some c:=by
  have q:=PySem.W.cellsFrom_some sc.names n [] (.inl h)
  exact Option.isSome_iff_exists.mp q
theorem xa6 {CX:CXT} {P:Program} {w:World} {K:PySem.W.Frag} {mg:Str → Option Value} {base:Heap} {N ps:List Str} {qual:Str} {scope:Scope} {f:Addr} {cd:Value} {A:Around} {outer:List Env} {s s1:Shared} {H:Hp} {E:XK} {us:List Value} {vs:List V}
    (S:FnScope N ps scope) (hd:A.handled = none) (e0:Env0 P w K mg base A outer s H) (hl:vs.length = ps.length) (r:Vals vs us)
    (x:InCallC s s.heap.objs.size (bindL (envOfC qual scope s.heap.objs.size f cd).kindOf (ps.zip us) fun _=>none) (cellsFrom (s.heap.objs.size + 1) scope.names []) (bindC (envOfC qual scope s.heap.objs.size f cd).kindOf (ps.zip us) fun _=>none) s1) :
    Inv (cxOf CX P w K mg base N qual scope f cd A outer s H E) [] (start N vs) H s1:=by
  have hpl:ps.length ≤ N.length:=by have:=congrArg List.length S.pre; rw [List.length_take] at this; omega
  obtain ⟨h1,tk,rfl,hk⟩:=x.done
  have noA:∀ b:Addr,b ∉ (cxOf CX P w K mg base N qual scope f cd A outer s H E).ex:=fun b z=>absurd (show b ∈ ([]:List Addr) from z) (by simp)
  refine ⟨⟨e0.mod,S.kind,rfl,rfl,Nat.le_refl _,fun y z c h1 h2=>?_,fun y hy=>?_,fun y c _ h=>?_,fun _=>hd,Around.frames_deeper e0.frames,.inr ⟨rfl,rfl⟩,fun b z=>absurd z (noA b),e0.bs,e0.bsz,fun b _ _=>noA b,fun b z=>absurd z (noA b),e0.funs,e0.frf⟩,
    rfl,e0.bare,Un.kept hk,⟨_,x.toInCall.ns,fun i y v h1 h2 h3=>?_⟩,fun y c h=>⟨_,x.cell y c h⟩,e0.hok.fresh (Nat.le_refl _),fun y c h=>?_,fun p hp=>absurd (show p ∈ ([]:List (Addr × Obj)) from hp) (by simp),e0.hok.kept hk,?_⟩
  · exact name_of_addr x.apart (PySem.mem_of_lookup h1) (PySem.mem_of_lookup h2)
  · have hy:scope.names.lookup y = some .cell ∨ scope.names.lookup y = some .free:=hy
    rcases hy with hy | hy
    · exact ys1 hy
    · exact absurd rfl (S.nofree _ (PySem.mem_of_lookup hy))
  · exact Nat.le_of_lt (x.above y c (PySem.mem_of_lookup h))
  · have hi:i < vs.length:=by
      unfold start at h2
      by_cases hi:i < vs.length
      · exact hi
      · rw [List.getElem?_append_right (by simpa using hi)] at h2
        rw [List.getElem?_replicate] at h2
        split at h2 <;> cases h2
    have ha:vs[i]? = some v:=by
      unfold start at h2
      rw [List.getElem?_append_left (by simpa using hi),List.getElem?_map] at h2
      cases e:vs[i]? with
      | none=>rw [e] at h2; cases h2
      | some a=>rw [e] at h2; cases h2; rfl
    obtain ⟨u,hu,rv⟩:=r.get ha
    have hp:ps[i]? = some y:=by
      rw [← S.pre,List.getElem?_take_of_lt (by omega)]; exact h1
    have ndP:ps.Nodup:=by rw [← S.pre]; exact S.nd.sublist (List.take_sublist _ _)
    refine ⟨u,rv,?_⟩
    rcases S.par y (List.mem_of_getElem? hp) with k | k
    · exact .inl ⟨k,yk2 ndP hp hu k⟩
    · obtain ⟨c,e⟩:=ys1 (n:=s.heap.objs.size + 1) k
      refine .inr ⟨.inl k,c,e,?_⟩
      have q:=x.cell y c e
      rw [yk4 ndP hp hu (by show scope.names.lookup y ≠ _; rw [k]; decide)] at q
      exact q
  · exact e0.hok.fresh (Nat.le_of_lt (x.above y c (PySem.mem_of_lookup h)))
  · unfold start
    show _ = N.length
    rw [List.length_append,List.length_map,List.length_replicate]
    omega
theorem wo3 {CX:CXT} {P:Program} {w:World} {K:PySem.W.Frag} {mg:Str → Option Value} {base:Heap} {k:Nat} {f:Addr} {name qual:Str} {params:Arguments} {body:List Stmt} {scope:Scope} {dV kV doc pm cdv ct oc:Value} {an od:Option Addr}
    {osl:Array (Option Value)} {N ps:List Str} {sp:Sp} (lk:K.lookup f = some ⟨oc,od,.func (PySem.W.fnOf name qual params body scope dV kV doc pm an cdv ct),osl⟩) (hcd:PySem.W.codeIn K cdv qual = true) (S:FnScope N ps scope)
    (len:∀ vs H Q E,sp vs H Q E → vs.length = ps.length)
    (hbody:∀ (A:Around) (outer:List Env) (s:Shared) (H:Hp) (vs:List V) (Q:VK) (E:XK),Room k (A.deeper (envOfC qual scope s.heap.objs.size f cdv)) → sp vs H Q E →
      ∃ t,PSs (cxOf CX P w K mg base N qual scope f cdv A outer s H E) body t ∧ t { nx:=fun _ H'=>Q .non H',rt:=Q } (start N vs) H) :
    FnOk P w K mg base CX (k + 1) f (PySem.W.fnOf name qual params body scope dV kV doc pm an cdv ct) ps sp:=by
  refine ⟨len,fun A outer s H args us vs Q E hr e0 hb r hsp=>?_⟩
  have hl:=len _ _ _ _ hsp
  have KX:K.In s.heap:=e0.mod.kin.keeps fun b o e=>(e0.bs b o e).1
  have lim:s.heap.NoLimit:=e0.mod.nolimit.keeps fun b o e=>(e0.bs b o e).1
  have hkind:∀ y ∈ ps.zip us,scope.names.lookup y.1 = some .local ∨ (scope.names.lookup y.1 = some .cell ∧ ((cellsFrom (s.heap.objs.size + 1) scope.names []).lookup y.1).isSome = true):=fun ⟨n,v⟩ hy=>by
    rcases S.par n (List.of_mem_zip hy).1 with q | q
    · exact .inl q
    · exact .inr ⟨q,PySem.W.cellsFrom_some _ _ _ (.inl q)⟩
  refine codeAny_call_function hr.depth (KX _ _ lk) rfl S.co S.gen rfl (PySem.W.codeRec_of KX hcd) (hb _ _ _ _ ?_)
  refine wpAny_newFunctionEnv_cells S.kind hkind fun env he s1 x=>?_
  subst he
  refine ⟨lim.keeps x.toInCall.keep,codeAny_func ?_⟩
  obtain ⟨t,ht,hq⟩:=hbody A outer s H vs Q E (hr.deeper _) hsp
  have I:Inv (cxOf CX P w K mg base N qual scope f cdv A outer s H E) [] (start N vs) H s1:=xa6 S hr.hd e0 hl r x
  refine wpAny_mono (ht [] s1 (start N vs) H _ I hq) (fun fl s' hs=>?_) fun e s' hs=>hs
  have fin:∀ {σ':St} {H':Hp} {v:V} {u:Value},Inv (cxOf CX P w K mg base N qual scope f cdv A outer s H E) [] σ' H' s' → RelV v u → Q v H' → CE outer P w H s Q u s' :=
    fun {σ' H' v u} J rv q=>⟨v,H',J.os,J.bare,J.base,J.hok,rv,q⟩
  cases fl with
  | ret u =>
    obtain ⟨v,σ',H',J,rv,q⟩:=hs
    exact fin J rv q
  | next =>
    obtain ⟨σ',H',J,q⟩:=hs
    exact fin (v:=V.non) (u:=Value.none) J rfl q
  | brk =>
    obtain ⟨_,_,_,q⟩:=hs
    exact False.elim q
  | cont =>
    obtain ⟨_,_,_,q⟩:=hs
    exact False.elim q
end L2
namespace L2
open PySem PySem.Spec PyProof.Rows
section
variable {X:Cx} {x:Str} {p pos:Pos} {e:Expr} {es:List Expr} {t:TA} {id T:String} {r:List V → Hp → VK → Prop}
noncomputable def tCB (r:List V → Hp → VK → Prop) (t:TA):TE:=fun σ H Q=>t σ H fun vs H1=>r vs H1 Q
theorem zc7 (hc:CallR X (.builtin id) r) (hg:Gl X x) (hm:X.mg x = none) (hv:bootBuiltins x = some (.builtin id)) (ha:PA X (e :: es) t) (hn:x ≠ "__name__":=by decide) (hdb:(x == ("__debug__":Str)) = false:=by decide)
    (he:starEach (e :: es) X.env = (false,eval e X.env) :: starEach es X.env:=by rfl) (hpl:(backTo pos (starEach es X.env)).any (·.1) = false:=by rfl):PE X (.Call (.Name x p) (e :: es) [] pos) (tCB r t):=by
  intro pins s σ H Q I h
  refine wpAny_Call_Name_kw (zt6 I hg hm hv ?_ hn hdb)
  exact PyProof.Rows.callWith_builtin1 (thn (ha pos pins s σ H _ I h) fun us s1 ⟨vs,H1,I1,r1,q1⟩=>hc pins s1 σ H1 vs us Q I1 r1 q1) he hpl
theorem zf3 (hc:CallR X (.type T) r) (hg:Gl X x) (hm:X.mg x = none) (hv:bootBuiltins x = some (.type T)) (ha:PA X (e :: es) t) (hn:x ≠ "__name__":=by decide) (hdb:(x == ("__debug__":Str)) = false:=by decide)
    (he:starEach (e :: es) X.env = (false,eval e X.env) :: starEach es X.env:=by rfl) (hpl:(backTo pos (starEach es X.env)).any (·.1) = false:=by rfl):PE X (.Call (.Name x p) (e :: es) [] pos) (tCB r t):=by
  intro pins s σ H Q I h
  refine wpAny_Call_Name_kw (zt6 I hg hm hv ?_ hn hdb)
  exact PyProof.Rows.callWith_type1 (thn (ha pos pins s σ H _ I h) fun us s1 ⟨vs,H1,I1,r1,q1⟩=>hc pins s1 σ H1 vs us Q I1 r1 q1) he hpl
end
end L2
namespace HT
open PySem PyProof.Rows
section
open PySem.SeqAt
open PySem.AutoSeq1 (wpAny_loadPart')
open PySem.MeetsSeq PySem.MeetsSeq2 PySem.MeetsSeq3
end
section
variable {prog:Program} {w:World} {A:Around} {E:Value → Shared → Prop} {s:Shared}
noncomputable def sIx (n d:Nat):Option Int → Nat
  | none=>d
  | some v=>if v < 0 then (v + (n:Int)).toNat else min v.toNat n
theorem sIx_none (n d:Nat):sIx n d none = d:=rfl
theorem sIx_nat (n d k:Nat):sIx n d (some (k:Int)) = min k n:=by
  show (if (k:Int) < 0 then ((k:Int) + (n:Int)).toNat else min (k:Int).toNat n) = min k n
  rw [if_neg (by omega),Int.toNat_natCast]
end
end HT
namespace L2
open PySem PySem.Spec PyProof.Rows
noncomputable abbrev TO:=St → Hp → (Option Int → Hp → Prop) → Prop
noncomputable def PO (X:Cx) (e:Option Expr) (t:TO):Prop :=
  ∀ (pins:List (Addr × Obj)) (s:Shared) (σ:St) (H:Hp) (Q:Option Int → Hp → Prop),Inv X pins σ H s → t σ H Q →
    wpAny (model X.prog X.w) X.A (evalPart e X.env) (fun u s'=>∃ o H',Inv X pins σ H' s' ∧ IsPart u o ∧ Q o H') X.xe s
noncomputable def tNoPart:TO:=fun _ H Q=>Q none H
noncomputable def we4 (t:TE):TO:=fun σ H Q=>t σ H fun x H1=>∃ i,x = .int i ∧ Q (some i) H1
section
variable {X:Cx} {e:Expr} {te:TE} {lo hi:Option Expr} {tl th:TO} {pos p2:Pos}
theorem zn9:PO X none tNoPart:=by
  intro pins s σ H Q I h
  rw [evalPart_none]
  exact wpAny_pure ⟨none,H,I,.none,h⟩
theorem zj7 (h:PE X e te):PO X (some e) (we4 te):=by
  intro pins s σ H Q I hw
  rw [evalPart_some]
  refine thn (h pins s σ H _ I hw) fun u s1 ⟨x,H1,I1,r1,q1⟩=>?_
  obtain ⟨i,rfl,q⟩:=q1
  obtain ⟨t,rfl⟩:=r1
  exact ⟨some i,H1,I1,.int i t,q⟩
noncomputable def SlR (X:Cx) (r:V → Option Int → Option Int → Hp → VK → Prop):Prop :=
  ∀ (pins:List (Addr × Obj)) (s:Shared) (σ:St) (H:Hp) (x:V) (v vl vu:Value) (lo hi:Option Int) (sl:Addr) (Q:VK),Inv X pins σ H s → RelV x v → s.heap.IsSliceOf sl vl vu .none → IsPart vl lo → IsPart vu hi → r x lo hi H Q →
    ∃ T id,typeLookup (.type T) "__getitem__" = pure (some (.builtin id)) ∧ s.TypeIs v T ∧ wpAny (model X.prog X.w) X.A (getItem v (.ref sl)) (EP X pins σ Q) X.xe s
theorem SlR.or {r r':V → Option Int → Option Int → Hp → VK → Prop} (h:SlR X r) (h':SlR X r'):SlR X (fun x lo hi H Q=>r x lo hi H Q ∨ r' x lo hi H Q):=by
  intro pins s σ H x v vl vu lo hi sl Q I rx hs pl pu q
  rcases q with q | q
  · exact h pins s σ H x v vl vu lo hi sl Q I rx hs pl pu q
  · exact h' pins s σ H x v vl vu lo hi sl Q I rx hs pl pu q
noncomputable def tSl (r:V → Option Int → Option Int → Hp → VK → Prop) (te:TE) (tl th:TO):TE:=fun σ H Q=>te σ H fun x H1=>tl σ H1 fun l H2=>th σ H2 fun u H3=>r x l u H3 Q
theorem zj3 {r:V → Option Int → Option Int → Hp → VK → Prop} (hr:SlR X r) (he:PE X e te) (hl:PO X lo tl) (hu:PO X hi th):PE X (.Subscript e (.Slice lo hi none p2) pos) (tSl r te tl th):=by
  intro pins s σ H Q I h
  refine Subscript_ (thn (he pins s σ H _ I h) fun v s1 ⟨x,H1,I1,r1,q1⟩=>?_)
  refine wpAny_Slice (thn (hl pins s1 σ H1 _ I1 q1) fun vl s2 ⟨l,H2,I2,pl,q2⟩=>thn (hu pins s2 σ H2 _ I2 q2) fun vu s3 ⟨u,H3,I3,pu,q3⟩=>?_)
  rw [evalPart_none]
  refine wpAny_pure ?_
  have I4:Inv X pins σ H3 { s3 with heap:=s3.heap.push { cls:=.type "slice",data:=.fields #[vl,vu,.none] } }:=I3.kept (t':=s3.toks) fun b ob q=>Heap.get?_push_of_some _ q
  obtain ⟨T,id,hT,ht,hg⟩:=hr pins { s3 with heap:=s3.heap.push { cls:=.type "slice",data:=.fields #[vl,vu,.none] } } σ H3 x v vl vu l u s3.heap.objs.size Q I4 r1 (Heap.IsSliceOf.new ..) pl pu q3
  show wpAny (model X.prog X.w) X.A (subscriptTail e (.Slice lo hi none p2) v (.ref s3.heap.objs.size)) (EP X pins σ Q) X.xe { s3 with heap:=s3.heap.push { cls:=.type "slice",data:=.fields #[vl,vu,.none] } }
  exact tail_any (ops:=[.ref s3.heap.objs.size,v]) ht hT hg (by with_unfolding_all rfl)
noncomputable def cutV (xs:List V) (lo hi:Option Int):List V:=(xs.drop (HT.sIx xs.length 0 lo)).take (HT.sIx xs.length xs.length hi - HT.sIx xs.length 0 lo)
theorem yn1 (xs:List V) (lo hi:Option Int):(cutV xs lo hi).length ≤ xs.length:=by
  unfold cutV
  rw [List.length_take,List.length_drop]
  omega
end
end L2
namespace L2
open PySem PySem.Spec PyProof.Rows
noncomputable def ixN (n:Nat) (i:Int):Option Nat:=if 0 ≤ i then (if i < n then some i.toNat else none) else if -(n:Int) ≤ i then some (i + n).toNat else none
noncomputable def atI {α:Type} (xs:List α) (i:Int):Option α:=(ixN xs.length i).bind fun j=>xs[j]?
theorem xz2 {n:Nat} {i:Int} {j:Nat} (h:ixN n i = some j):seqIndex? i n = some j ∧ j < n ∧ -(n:Int) ≤ i ∧ i < n:=by
  unfold ixN at h
  by_cases h0:0 ≤ i
  · rw [if_pos h0] at h
    by_cases h1:i < n
    · rw [if_pos h1] at h
      have e:i.toNat = j:=Option.some.inj h
      exact ⟨by rw [seqIndex_of h0 h1,e],by omega,by omega,h1⟩
    · rw [if_neg h1] at h; cases h
  · rw [if_neg h0] at h
    by_cases h1:-(n:Int) ≤ i
    · rw [if_pos h1] at h
      have e:(i + n).toNat = j:=Option.some.inj h
      exact ⟨by rw [seqIndex_neg (by omega) h1,e],by omega,h1,by omega⟩
    · rw [if_neg h1] at h; cases h
theorem yn6 {α:Type} {xs:List α} {i:Int} {v:α} (h:atI xs i = some v):∃ j,seqIndex? i xs.length = some j ∧ xs[j]? = some v ∧ j < xs.length ∧ -(xs.length:Int) ≤ i ∧ i < xs.length:=by
  unfold atI at h
  cases e:ixN xs.length i with
  | none=>rw [e] at h; cases h
  | some j =>
    rw [e] at h
    obtain ⟨h1,h2,h3,h4⟩:=xz2 e
    exact ⟨j,h1,h,h2,h3,h4⟩
theorem zk9 {α:Type} {xs:List α} {j:Nat} {v:α} (h:xs[j]? = some v):atI xs (j:Int) = some v:=by
  have hj:j < xs.length:=(List.getElem?_eq_some_iff.mp h).1
  have e:ixN xs.length (j:Int) = some j:=by
    unfold ixN
    rw [if_pos (by omega),if_pos (by omega)]; simp
  unfold atI; rw [e]; exact h
noncomputable def wb9 (b:Expr):Prop:=∀ o i,subscripted b false o i = operate [o,i] (getItem o i)
noncomputable def IxR (X:Cx) (r:R2):Prop :=
  ∀ (value slice:Expr) (pins:List (Addr × Obj)) (s:Shared) (σ:St) (H:Hp) (x y:V) (v u:Value) (Q:VK),Inv X pins σ H s → RelV x v → RelV y u → r x y H Q →
    subscripted slice false v u = operate [v,u] (getItem v u) → wpAny (model X.prog X.w) X.A (subscriptTail value slice v u) (EP X pins σ Q) X.xe s
noncomputable def MtR (X:Cx) (id:String) (r:V → List V → Hp → VK → Prop):Prop :=
  ∀ (pins:List (Addr × Obj)) (s:Shared) (σ:St) (H:Hp) (x:V) (xs:List V) (v:Value) (us:List Value) (Q:VK),Inv X pins σ H s → RelV x v → Vals xs us → r x xs H Q →
    wpAny (model X.prog X.w) X.A (call (.builtin id) (v :: us)) (EP X pins σ Q) X.xe s
section
variable {X:Cx} {a b:Expr} {ta tb:TE} {pos:Pos}
theorem IxR.or {r r':R2} (h:IxR X r) (h':IxR X r'):IxR X (fun x y H Q=>r x y H Q ∨ r' x y H Q):=by
  intro value slice pins s σ H x y v u Q I rx ry q hs
  rcases q with q | q
  · exact h value slice pins s σ H x y v u Q I rx ry q hs
  · exact h' value slice pins s σ H x y v u Q I rx ry q hs
theorem MtR.or {id:String} {r r':V → List V → Hp → VK → Prop} (h:MtR X id r) (h':MtR X id r'):MtR X id (fun x xs H Q=>r x xs H Q ∨ r' x xs H Q):=by
  intro pins s σ H x xs v us Q I rx rs q
  rcases q with q | q
  · exact h pins s σ H x xs v us Q I rx rs q
  · exact h' pins s σ H x xs v us Q I rx rs q
theorem zc2 {r:R2} (hr:IxR X r) (ha:PE X a ta) (hb:PE X b tb) (hs:wb9 b):PE X (.Subscript a b pos) (tOp r ta tb):=by
  intro pins s σ H Q I h
  exact Subscript_ (binT ha hb I h fun v u s2 x y H2 I2 rx ry q=>hr a b pins s2 σ H2 x y v u Q I2 rx ry q (hs _ _))
noncomputable def rIxL (K:PySem.W.Frag):R2:=fun x y H Q=>∃ p xs i v,x = .ref p ∧ y = .int i ∧ SqL K H p xs ∧ atI xs i = some v ∧ Q v H
noncomputable def rIxT (K:PySem.W.Frag):R2:=fun x y H Q=>∃ p xs i v,x = .ref p ∧ y = .int i ∧ SqT K H p xs ∧ atI xs i = some v ∧ Q v H
noncomputable def rIxS:R2:=fun x y H Q=>∃ z i c,x = .str z ∧ y = .int i ∧ z.length ≤ sizeLine ∧ atI z.cps.toList i = some c ∧ Q (.str ⟨#[c]⟩) H
theorem xz1:IxR X (rIxL X.K):=by
  intro value slice pins s σ H x y v u Q I rx ry h hs
  obtain ⟨p,xs,i,z,rfl,rfl,hq,he,q⟩:=h
  cases rx
  obtain ⟨t,rfl⟩:=ry
  obtain ⟨its,r,pl,hz⟩:=I.list hq
  obtain ⟨j,h1,h2,h3,h4,h5⟩:=yn6 he
  obtain ⟨w,ew,rw'⟩:=r.get h2
  have hl:=r.length
  have hn:=ya6
  have fin:EP X pins σ Q w s:=⟨z,H,I,rw',q⟩
  by_cases h0:0 ≤ i
  · have hj:i.toNat = j:=by
      rw [seqIndex_of h0 h5] at h1
      exact Option.some.inj h1
    exact item_listR pl.isList h0 (by omega) (by rw [hj]; simpa using ew) fin hs
  · have hj:(i + (its.toArray.size:Int)).toNat = j:=by
      rw [seqIndex_neg (by omega) h4] at h1
      rw [List.size_toArray,← hl]
      exact Option.some.inj h1
    exact subscriptTail_builtinR (x:=w) pl.isList.typeIs slot_list_getitem.lookup
      (wpAny_getItem_list_neg (Q:=fun r s'=>r = w ∧ EP X pins σ Q r s') pl.isList (by omega) (by rw [List.size_toArray] <;> omega) (by omega) (by rw [hj]; simpa using ew) ⟨rfl,fin⟩) hs
theorem wm8:IxR X (rIxT X.K):=by
  intro value slice pins s σ H x y v u Q I rx ry h hs
  obtain ⟨p,xs,i,z,rfl,rfl,hq,he,q⟩:=h
  cases rx
  obtain ⟨t,rfl⟩:=ry
  obtain ⟨its,r,pl,hz⟩:=I.tuple hq
  obtain ⟨j,h1,h2,h3,h4,h5⟩:=yn6 he
  obtain ⟨w,ew,rw'⟩:=r.get h2
  have hl:=r.length
  have hn:=ya6
  have fin:EP X pins σ Q w s:=⟨z,H,I,rw',q⟩
  exact subscriptTail_builtinR (x:=w) pl.typeIs slot_tuple_getitem.lookup
    (getItem_tuple (j:=j) (Q:=fun r s'=>r = w ∧ EP X pins σ Q r s') pl (by omega) (by omega) (by rw [List.size_toArray,← hl]; exact h1) (by simpa using ew) ⟨rfl,fin⟩) hs
theorem wn0:IxR X rIxS:=by
  intro value slice pins s σ H x y v u Q I rx ry h hs
  obtain ⟨z,i,c,rfl,rfl,hz,he,q⟩:=h
  obtain ⟨t,rfl⟩:=rx
  obtain ⟨t',rfl⟩:=ry
  obtain ⟨j,h1,h2,h3,h4,h5⟩:=yn6 he
  have hl:z.cps.toList.length = z.length:=by simp [Str.length]
  rw [hl] at h1 h4 h5
  have hn:=ya6
  exact tail_any (typeIs_str s z t) slot_str_getitem.lookup (getItem_str (c:=c) (by
    have e1:decide (i < -(2 ^ 63:Int)) = false:=decide_eq_false (by omega)
    have e2:decide (i ≥ 2 ^ 63) = false:=decide_eq_false (by omega)
    rw [e1,e2,Bool.or_false]) (by rw [h1]; simpa using h2) ⟨.str ⟨#[c]⟩,H,I.tok _,⟨_,rfl⟩,q⟩) hs
theorem Inv.lst {pins:List (Addr × Obj)} {σ:St} {H:Hp} {s:Shared} {p:Addr} {xs:List V} (I:Inv X pins σ H s) (h:H p = some (.lst xs)) :
    ∃ (its:List Value) (n:Nat),Vals xs its ∧ s.heap.get? p = some { cls:=.type "list",data:=.seq its.toArray n } ∧ xs.length ≤ sizeLine:=by
  obtain ⟨z,its,n,r,e⟩:=I.hok p _ h
  exact ⟨its,n,r,e,z⟩
theorem yg4 (lo hi:Option Int) (n:Nat):(sliceBounds lo hi none n).1 = ((HT.sIx n 0 lo:Nat):Int) ∧ (sliceBounds lo hi none n).2.1 = ((HT.sIx n n hi:Nat):Int) ∧ (sliceBounds lo hi none n).2.2 = 1:=by
  refine ⟨?_,?_,rfl⟩
  · cases lo with
    | none=>simp [sliceBounds,HT.sIx]
    | some i =>
      simp only [sliceBounds,HT.sIx,Option.getD_none,show (1:Int) > 0 by decide,if_true]
      by_cases h:i < 0
      · simp only [h,if_true] <;> omega
      · simp only [h,if_false] <;> omega
  · cases hi with
    | none=>simp [sliceBounds,HT.sIx]
    | some i =>
      simp only [sliceBounds,HT.sIx,Option.getD_none,show (1:Int) > 0 by decide,if_true]
      by_cases h:i < 0
      · simp only [h,if_true] <;> omega
      · simp only [h,if_false] <;> omega
theorem yc2 (its:List Value) (lo hi:Option Int):slicePick its.toArray lo hi none = ((its.drop (HT.sIx its.length 0 lo)).take (HT.sIx its.length its.length hi - HT.sIx its.length 0 lo)).toArray:=by
  obtain ⟨h1,h2,h3⟩:=yg4 lo hi its.toArray.size
  unfold slicePick
  rw [h1,h2,h3]
  simp only [sliceRange_one,pick_run,List.size_toArray] <;> rfl
noncomputable def rSlL (K:PySem.W.Frag):V → Option Int → Option Int → Hp → VK → Prop:=fun x lo hi H Q=>∃ a xs,x = .ref a ∧ SqL K H a xs ∧ ∀ p,H p = none → Q (.ref p) (upd H p (.lst (cutV xs lo hi)))
theorem xs2:SlR X (rSlL X.K):=by
  intro pins s σ H x v vl vu lo hi sl Q I rx hs pl pu h
  obtain ⟨a,xs,rfl,hx,q⟩:=h
  cases rx
  obtain ⟨its,r,ht,hz⟩:=I.list hx
  have hlen:=r.length
  refine ⟨"list",_,slot_list_getitem.lookup,ht.isList.typeIs,?_⟩
  refine wpAny_getItem_list_slice ht.isList hs pl pu .none (by simp) ?_ (by rw [List.size_toArray] <;> omega)
  rw [yc2,← hlen]
  refine ⟨.ref s.heap.objs.size,_,I.laid (t':=s.toks) (o:=.lst (cutV xs lo hi)) (fun b ob q=>Heap.get?_push_of_some _ q) (Nat.le_refl _) ?_,rfl,q _ (I.hok.fresh (Nat.le_refl _))⟩
  exact ⟨Nat.le_trans (yn1 xs lo hi) hz,_,0,(r.drop (HT.sIx xs.length 0 lo)).take (HT.sIx xs.length xs.length hi - HT.sIx xs.length 0 lo),Heap.get?_push_size _ rfl⟩
theorem yj9:CallR X (.builtin "len") (fun xs H Q=>∃ p ys,xs = [.ref p] ∧ (SqL X.K H p ys ∨ SqT X.K H p ys) ∧ Q (.int ys.length) H):=by
  intro pins s σ H xs us Q I r h
  obtain ⟨p,ys,rfl,hq,q⟩:=h
  obtain ⟨u,rfl,rx⟩:=zu1 r
  cases rx
  have hn:=ya6
  rcases hq with hq | hq
  · obtain ⟨its,r',pl,hz⟩:=I.list hq
    have hlen:=r'.length
    exact Calls.call_len_list pl.isList (by simp only [List.size_toArray] <;> omega) ⟨.int ys.length,H,I.tok _,⟨s.toks + 1,by rw [List.size_toArray,hlen]⟩,q⟩
  · obtain ⟨its,r',pl,hz⟩:=I.tuple hq
    have hlen:=r'.length
    exact len_tuple pl (by simp only [List.size_toArray] <;> omega) ⟨.int ys.length,H,I.tok _,⟨s.toks + 1,by rw [List.size_toArray,hlen]⟩,q⟩
theorem zi9:CallR X (.builtin "len") (fun xs H Q=>∃ z,xs = [.str z] ∧ z.length ≤ sizeLine ∧ Q (.int z.length) H):=by
  intro pins s σ H xs us Q I r h
  obtain ⟨z,rfl,hz,q⟩:=h
  obtain ⟨u,rfl,t,rfl⟩:=zu1 r
  have hn:=ya6
  exact len_str (by omega) ⟨.int z.length,H,I.tok _,⟨_,rfl⟩,q⟩
theorem CallR.or {f:Value} {r r':List V → Hp → VK → Prop} (h:CallR X f r) (h':CallR X f r'):CallR X f (fun xs H Q=>r xs H Q ∨ r' xs H Q):=by
  intro pins s σ H xs us Q I rs q
  rcases q with q | q
  · exact h pins s σ H xs us Q I rs q
  · exact h' pins s σ H xs us Q I rs q
noncomputable def tyV (K:PySem.W.Frag) (T:String) (x:V) (H:Hp):Prop:=match x with
  | .str _=>T = "str"
  | .int _=>T = "int"
  | .ref p=>(T = "list" ∧ ∃ xs,SqL K H p xs) ∨ (T = "tuple" ∧ ∃ o,K.lookup p = some o ∧ o.cls = .type "tuple" ∧ o.dict = none) ∨
      (T = "dict" ∧ ((∃ kvs,H p = some (.dK kvs)) ∨ ∃ kvs,H p = some (.dT kvs))) ∨ (T = "set" ∧ ∃ S n,H p = some (.set S n))
  | _=>False
theorem we3 {pins:List (Addr × Obj)} {σ:St} {H:Hp} {s:Shared} {T:String} {x:V} {v:Value} (I:Inv X pins σ H s) (r:RelV x v) (ty:tyV X.K T x H) :
    s.TypeIs v T ∧ ∀ a,v = .ref a → ∃ ob,s.heap.get? a = some ob ∧ ob.dict = none:=by
  cases x with
  | str z =>
    obtain ⟨t,rfl⟩:=r
    cases (show T = "str" from ty)
    exact ⟨typeIs_str s z t,fun _ e=>nomatch e⟩
  | int i =>
    obtain ⟨t,rfl⟩:=r
    cases (show T = "int" from ty)
    exact ⟨typeIs_int s i t,fun _ e=>nomatch e⟩
  | ref p =>
    cases r
    rcases ty with ⟨rfl,xs,hq⟩ | ⟨rfl,o,hk,hc,hd⟩ | ⟨rfl,hk⟩ | ⟨rfl,S,n,hk⟩
    · obtain ⟨its,_,pl,_⟩:=I.list hq
      refine ⟨pl.isList.typeIs,fun a e=>?_⟩
      cases e
      obtain ⟨o,n,e,c,hd,_⟩:=pl
      exact ⟨o,e,hd⟩
    · refine ⟨⟨o,I.kIn p o hk,hc⟩,fun a e=>?_⟩
      cases e
      exact ⟨o,I.kIn _ o hk,hd⟩
    · have z:∃ o,s.heap.get? p = some o ∧ o.ExactDict:=by
        rcases hk with ⟨kvs,hk⟩ | ⟨kvs,hk⟩
        · obtain ⟨_,_,_,_,o,_,_,e,ex,_⟩:=I.hok p _ hk
          exact ⟨o,e,ex⟩
        · obtain ⟨_,_,_,_,o,_,_,e,ex,_⟩:=I.hok p _ hk
          exact ⟨o,e,ex⟩
      obtain ⟨o,e,ex⟩:=z
      refine ⟨⟨o,e,ex.1⟩,fun a e2=>?_⟩
      cases e2
      exact ⟨o,e,ex.2.1⟩
    · obtain ⟨o,_,_,_,e,ex,_⟩:=I.hok p _ hk
      refine ⟨⟨o,e,ex.1⟩,fun a e2=>?_⟩
      cases e2
      exact ⟨o,e,ex.2.1⟩
  | _=>exact False.elim ty
noncomputable def tBM (K:PySem.W.Frag) (T:String) (r:V → List V → Hp → VK → Prop) (to:TE) (t:TA):TE:=fun σ H Q=>to σ H fun x H1=>tyV K T x H1 ∧ t σ H1 fun xs H2=>r x xs H2 Q
variable {o e:Expr} {es:List Expr} {to:TE} {t:TA} {name:Str} {apos cpos:Pos} {T id:String} {r:V → List V → Hp → VK → Prop}
theorem zo4 (pa:PlainAttrs T) (slot:Slot T name id) (hty:typeOf (.builtin id) = pure (.type "method_descriptor")) (hm:MtR X id r) (ho:PE X o to) (ha:PA X (e :: es) t)
    (hbase:attributeBase o name X.env (eval o X.env) = eval o X.env:=by rfl)
    (hfew:((backTo cpos (starEach (e :: es) X.env)).all (fun x=>!x.1) && (backToKw cpos (keywordEach [] X.env)).all (fun x=>x.1.isSome)
      && decide ((e :: es).length + ([]:List Keyword).length + (if ([]:List Keyword).isEmpty then 0 else 1) < 30)) = true:=by rfl)
    (hline:(apos.endLine == cpos.line) = true:=by rfl) (hs:starEach (e :: es) X.env = (false,eval e X.env) :: starEach es X.env:=by rfl) (hplain:(backTo cpos (starEach es X.env)).any (·.1) = false:=by rfl) :
    PE X (.Call (.Attribute o name apos) (e :: es) [] cpos) (tBM X.K T r to t):=by
  intro pins s σ H Q I h
  refine wpAny_Call_method_late hbase hfew hline rfl (thn (ho pins s σ H _ I h) fun v s1 ⟨x,H1,I1,r1,ty,q1⟩=>?_)
  obtain ⟨h1,h2⟩:=we3 I1 r1 ty
  refine ⟨T,id,pa,slot,hty,h1,h2,?_⟩
  have hA:=ha cpos pins s1 σ H1 _ I1 q1
  rw [hs] at hA ⊢
  refine Calls.callWith_builtin (by show (false || (backTo cpos (starEach es X.env)).any (·.1)) = false; rw [hplain] <;> rfl) (Calls.evalArgs_plain ?_)
  exact thn hA fun us s2 ⟨vs,H2,I2,r2,q2⟩=>hm pins s2 σ H2 x vs v us Q I2 r1 r2 q2
end
end L2
namespace L2
open PySem PySem.Spec PyProof.Rows
noncomputable def MtM (X:Cx) (id:String) (r:V → List V → Hp → VK → Prop):Prop :=
  ∀ (pins:List (Addr × Obj)) (s:Shared) (σ:St) (H:Hp) (x:V) (xs:List V) (v:Value) (us:List Value) (Q:VK),Inv X pins σ H s → RelV x v → Vals xs us → r x xs H Q →
    wpAny (model X.prog X.w) X.A (call (.builtin id) (v :: us)) (EP X pins σ Q) X.xe s
theorem Vals.one:∀ {x:V} {us:List Value},Vals [x] us → ∃ u,us = [u] ∧ RelV x u
  | _,_,.cons r .nil=>⟨_,rfl,r⟩
theorem Vals.two:∀ {x y:V} {us:List Value},Vals [x,y] us → ∃ u v,us = [u,v] ∧ RelV x u ∧ RelV y v
  | _,_,_,.cons r (.cons q .nil)=>⟨_,_,rfl,r,q⟩
theorem Vals.rep {xs:List V} {us:List Value} (h:Vals xs us):∀ k:Nat,Vals (List.replicate k xs).flatten (List.replicate k us).flatten
  | 0=>.nil
  | k + 1=>by
    rw [List.replicate_succ,List.replicate_succ,List.flatten_cons,List.flatten_cons]
    exact Vals.append h (Vals.rep h k)
theorem yj0 (its:List Value):∀ (k:Nat) (acc:List Value),
    List.foldl (fun x1 x2=>x1 ++ x2) acc.toArray (List.replicate k its.toArray) = (acc ++ (List.replicate k its).flatten).toArray
  | 0,acc=>by simp
  | k + 1,acc=>by
    have e:acc.toArray ++ its.toArray = (acc ++ its).toArray:=by simp
    have e2:(acc ++ its) ++ (List.replicate k its).flatten = acc ++ (List.replicate (k + 1) its).flatten:=by
      rw [List.replicate_succ,List.flatten_cons,List.append_assoc]
    rw [← e2,← yj0 its k (acc ++ its),← e,List.replicate_succ,List.foldl_cons]
section
variable {X:Cx} {pins:List (Addr × Obj)} {σ:St} {H:Hp} {s:Shared} {l b:Addr} {xs ys zs:List V}
theorem Inv.lset {its its':List Value} {n:Nat} {f:Array Value → Array Value} {t':Nat} (I:Inv X pins σ H s) (hH:H l = some (.lst xs))
    (e:s.heap.get? l = some { cls:=.type "list",data:=.seq its.toArray n }) (hf:f its.toArray = its'.toArray) (hv:Vals ys its') (hz:ys.length ≤ sizeLine) :
    Inv X pins σ (upd H l (.lst ys)) { s with heap:=s.heap.update l (Obj.mapSeq f),toks:=t' }:=by
  have q:=PySem.IsL.update e f
  rw [hf] at q
  refine I.write (x:=l) (e:=l) (by rw [hH]; exact trivial) (.inl rfl) (fun b' u hb hu=>(Heap.get?_update_other s.heap (Obj.mapSeq f) (Ne.symm hb)).trans hu) ⟨_,q⟩ ?_
  exact ⟨hz,its',_,hv,q⟩
theorem Inv.lnew {its:List Value} {t':Nat} (I:Inv X pins σ H s) (hv:Vals ys its) (hz:ys.length ≤ sizeLine) :
    Inv X pins σ (upd H s.heap.objs.size (.lst ys)) { s with heap:=s.heap.push { cls:=.type "list",data:=.seq its.toArray },toks:=t' } :=
  I.laid (fun _ _ q=>Heap.get?_push_of_some _ q) (Nat.le_refl _) ⟨hz,its,0,hv,Heap.get?_push_size _ rfl⟩
theorem Inv.fresh (I:Inv X pins σ H s):H s.heap.objs.size = none:=I.hok.fresh (Nat.le_refl _)
theorem Inv.lstM (I:Inv X pins σ H s) (hH:H l = some (.lst xs)):xs.length ≤ sizeLine ∧ ∃ (its:List Value) (n:Nat),Vals xs its ∧ xs.length = its.length ∧ s.heap.get? l = some { cls:=.type "list",data:=.seq its.toArray n }:=by
  obtain ⟨z,its,n,r,e⟩:=I.hok l _ hH
  exact ⟨z,its,n,r,r.length,e⟩
theorem xh3 {n:Nat} (h:n ≤ sizeLine):Builtin.List.listTooLong n = false:=by
  unfold Builtin.List.listTooLong
  exact decide_eq_false (by omega)
end
section
variable {X:Cx}
noncomputable def rAppend:V → List V → Hp → VK → Prop:=fun x vs H Q=>∃ l xs y,x = .ref l ∧ vs = [y] ∧ H l = some (.lst xs) ∧ xs.length < sizeLine ∧ Q .non (upd H l (.lst (xs ++ [y])))
theorem zp8:MtM X "list.append" rAppend:=by
  intro pins s σ H x vs v us Q I rx rv h
  obtain ⟨l,xs,y,rfl,rfl,hH,hz,q⟩:=h
  cases rx
  obtain ⟨u,rfl,ru⟩:=rv.one
  obtain ⟨z,its,n,r,hl,e⟩:=I.lstM hH
  refine call_meets F.slot_list_append ⟨_,e,rfl⟩ F.entry_list_append (F.args_list_append_2 _ _) (PySem.list_append l its.toArray n u (by rw [List.size_toArray]; omega)) ⟨e,?_⟩
  refine ⟨.non,_,I.lset (its':=its ++ [u]) hH e (by simp) (r.append (.cons ru .nil)) ?_,rfl,q⟩
  rw [List.length_append,List.length_singleton]
  omega
noncomputable def rCat:R2:=fun x y H Q=>∃ l b xs zs,x = .ref l ∧ y = .ref b ∧ H l = some (.lst xs) ∧ H b = some (.lst zs) ∧ xs.length + zs.length ≤ sizeLine ∧ ∀ p,H p = none → Q (.ref p) (upd H p (.lst (xs ++ zs)))
theorem xn1:OpR X (binaryOp .Add) rCat:=by
  intro pins s σ H x y v u Q I rx ry h
  obtain ⟨l,b,xs,zs,rfl,rfl,hH,hB,hz,q⟩:=h
  cases rx
  cases ry
  obtain ⟨z,its,n,r,hl,e⟩:=I.lstM hH
  obtain ⟨z2,its2,n2,r2,hl2,e2⟩:=I.lstM hB
  refine PySem.P.add_list e e2 ?_ (by rw [List.size_toArray,List.size_toArray]; omega)
  have ea:its.toArray ++ its2.toArray = (its ++ its2).toArray:=by simp
  rw [ea]
  exact ⟨.ref _,_,I.lnew (t':=s.toks) (r.append r2) (by rw [List.length_append]; omega),rfl,q _ I.fresh⟩
noncomputable def rRep:R2:=fun x y H Q=>∃ l k xs,x = .ref l ∧ y = .int k ∧ H l = some (.lst xs) ∧ -(2 ^ 63) ≤ k ∧ k < 2 ^ 63 ∧ xs.length * k.toNat ≤ sizeLine ∧
  ∀ p,H p = none → Q (.ref p) (upd H p (.lst (List.replicate k.toNat xs).flatten))
theorem xy5 {α:Type} (xs:List α) (k:Nat):(List.replicate k xs).flatten.length = k * xs.length:=by
  induction k with
  | zero=>simp
  | succ k ih=>rw [List.replicate_succ,List.flatten_cons,List.length_append,ih,Nat.succ_mul,Nat.add_comm]
theorem xm9:OpR X (binaryOp .Mult) rRep:=by
  intro pins s σ H x y v u Q I rx ry h
  obtain ⟨l,k,xs,rfl,rfl,hH,h1,h2,hz,q⟩:=h
  cases rx
  obtain ⟨t,rfl⟩:=ry
  obtain ⟨z,its,n,r,hl,e⟩:=I.lstM hH
  have hlen:its.toArray.size * k.toNat ≤ sizeLine:=by rw [List.size_toArray,← hl]; exact hz
  have hcap:¬ its.toArray.size * k.toNat > (2 ^ 63 - 1) / 8:=by
    have:(sizeLine:Nat) ≤ (2 ^ 63 - 1) / 8:=by decide
    omega
  have hfit:¬ (!Builtin.List.listFitsIndex k) = true:=by
    rw [fitsIndex_both h1 h2]
    exact Bool.false_ne_true
  have hlong:¬ Builtin.List.listTooLong (its.toArray.size * k.toNat) = true:=by
    rw [xh3 hlen]
    exact Bool.false_ne_true
  have hnew:List.foldl (fun x1 x2=>x1 ++ x2) #[] (List.replicate (if its.toArray.isEmpty = true then 0 else k.toNat) its.toArray) = (List.replicate k.toNat its).flatten.toArray:=by
    have f0:∀ m:Nat,List.foldl (fun x1 x2=>x1 ++ x2) #[] (List.replicate m its.toArray) = (List.replicate m its).flatten.toArray:=fun m=>by
      have:=yj0 its m []
      rw [List.nil_append] at this
      exact this
    rw [f0]
    cases its with
    | nil=>simp
    | cons a r'=>rw [if_neg (by simp)]
  refine wpAny_binaryOp_repeat_ref (T:="list") (U:="int") (by decide) ⟨_,e,rfl⟩ (fun s'=>typeIs_int s' k t) noFill_list_mul F.fills_int_mul F.slot_int_rmul repeat_list F.slot_int_index.lookup
    (call_meets F.slot_int_rmul (typeIs_int s k t) F.entry_int_rmul (F.args_int_rmul_2 _ _) (int___rmul___int_list k t l its.toArray n)
      ⟨e,rfl,⟨_,e,rfl⟩,call_meets F.slot_list_mul ⟨_,e,rfl⟩ F.entry_list_mul (F.args_list_mul_2 _ _) (AutoListH.list___mul___list_int_3 l its.toArray n k t hfit hcap hlong) ⟨e,?_⟩⟩)
  rw [hnew]
  exact ⟨.ref _,_,I.lnew (t':=s.toks) (r.rep k.toNat) (by rw [xy5,Nat.mul_comm]; exact hz),rfl,q _ I.fresh⟩
end
section
variable {prog:Program} {w:World} {A:Around} {E:Value → Shared → Prop} {s:Shared}
set_option maxRecDepth 100000 in
end
section
variable {X:Cx}
end
end L2
namespace Att
open PySem PySem.W PySem.Calls PyProof.Rows
theorem zx9 {P:Params} {h:Heap}:∀ (ns:List Int) (vs:List Value),WellAll P h vs (ns.map WData.int) → IntsAre vs ns:=by
  intro ns
  induction ns with
  | nil =>
    intro vs w
    rw [List.map_nil] at w
    cases w
    exact .nil
  | cons n ns ih =>
    intro vs w
    rw [List.map_cons] at w
    cases w with
    | cons a b =>
      cases a
      exact .cons _ _ (ih _ b)
theorem yg6 {l:OpenLaw} {n:Nat} (hn:l.most = some n) {P:Params} {h:Heap} {args:List WData} {vals:List Value}
    (hpre:l.row.toRowW.claim.pre args = true) (hwl:WellAll P h vals args) :
    ∃ a vs ns,vals = [Value.ref a] ∧ args = [WData.list (ns.map WData.int)] ∧ h.get? a = some { cls:=.type "list",data:=.seq vs.toArray } ∧ IntsAre vs ns ∧ ns.length ≤ n:=by
  have hsh:WShape.hasAll [] args [.list .int] = true:=(pre_splitW hpre).1
  have hc:l.pre.holds [] { args:=args } = true:=(pre_splitW hpre).2
  obtain ⟨d,r,rfl,h1,h2⟩:=hasAllW_cons hsh
  obtain rfl:=hasAllW_nil h2
  obtain ⟨xs,rfl,h3⟩:=hasW_list h1
  obtain ⟨ns,rfl⟩:=items_int h3
  have hlen:ns.length ≤ n:=by
    unfold OpenLaw.pre at hc
    have h4:(WTm.not (.lt (.lit (.int (n:Int))) (.len (.arg 0)))).holds [] { args:=[.list (ns.map .int)] } = true:=by
      have h4:=(holds_andW hc).1
      rw [hn] at h4
      exact h4
    have h5:=condW_of h4 (w_not (w_lt w_lit (w_len_list (w_arg rfl))))
    rw [List.length_map] at h5
    refine Nat.le_of_not_lt fun q=>?_
    have q':(n:Int) < ((ns.length:Nat):Int):=by omega
    first
      | (rw [decide_eq_true q'] at h5; exact absurd h5 (by decide))
      | (simp at h5; omega)
  cases hwl with
  | cons w1 w2 =>
    cases w2
    cases w1 with
    | list ho hall=>exact ⟨_,_,ns,rfl,rfl,ho,zx9 ns _ hall,hlen⟩
theorem yg9 (l:OpenLaw) (args:List WData):l.row.toRowW.claim.post args (.bool true) args = true :=
  postW_of (r:=l.row.toRowW) (X:=(true == true))
    (show WShape.has [] (.bool true) .bool = true by first | rfl | decide | simp [WShape.has,WShape.arms,WShape.armsAll])
    (show (WTm.eq .res (.lit (.bool true))).value [] { args:=args,res:=some (.bool true),after:=args } = some (.bool (true == true)) from w_eq_bool (w_res rfl) w_lit) rfl
theorem attach_call {l:OpenLaw} {n:Nat} {q:Program} {loose:List Str} {XP:(Str → Option Value) → Heap → Prop} {YP:World → Heap → Prop} {d:DefRec}
    (hn:l.most = some n) (hdf:d.params.defaults = [])
    (call:∀ (w:World) (s₀ s₁:Shared) (mg mb:Str → Option Value) (fa:Addr) (o:Obj) (pm cd doc:Value) (a:Addr) (vs:List Value) (ns:List Int),
      Ground q loose [] XP w s₀ mg mb s₁.heap → YP w s₁.heap →
      s₁.heap.get? fa = some o → o.data = .func (docDef d.name d.params d.body d.scope pm cd doc) → s₁.heap.CodeRec cd d.name → mg d.name = some (.ref fa) →
      s₁.heap.get? a = some { cls:=.type "list",data:=.seq vs.toArray } → IntsAre vs ns → ns.length ≤ n → s₁.gens = #[] →
      codeAny (model l.prog w) callerA (.call (.ref fa) ⟨[.ref a],[]⟩) (fun r s'=>r = .ok (.ret (.bool true)) ∧ OldK s₁.heap s'.heap ∧ s'.os = s₁.os ∧ AllBare s'.gens) s₁) :
    WalkO q loose XP YP l.row.toRowW d [] (fun f vs=>PySem.call f vs):=by
  intro w s₀ s₁ mg mb G Y fa o pm cd doc dV kV ho hd hcd hD hmg hg args vals as hpre hlay hrd hwl hlo
  obtain rfl:dV = .none:=Dflts.none hD hdf
  obtain rfl:kV = .none:=Dflts.noKw hD
  obtain ⟨a,vs,ns,rfl,rfl,hobj,hints,hlen⟩:=yg6 hn hpre hwl
  refine enter_call (codeAny_mono (call w s₀ s₁ mg mb fa o pm cd doc a vs ns G Y ho (fd_plain hd) hcd hmg hobj hints hlen hg) fun r s' hq=>?_)
  obtain ⟨rfl,h2,h3,h4⟩:=hq
  exact ⟨.inl ⟨.bool true,.bool true,[],rfl,fun _=>rfl,.bool true,yg9 l _,fun _=>⟨List.Pairwise.nil,fun _ hm=>(nomatch hm)⟩⟩,h2,h3,h4⟩
section
variable {prog:Program} {w:World} {A:Around} {E:Value → Shared → Prop} {s:Shared} {K:Frag}
noncomputable def ledger (h:Heap) (L d:Addr):List (Addr × Obj):=(List.range h.objs.size).filterMap fun a=>if a = L ∨ a = d then none else (h.get? a).map fun o=>(a,o)
end
end Att
namespace L2
open PySem PySem.Spec PyProof.Rows
theorem yf6:∀ {vs:List Value} {ns:List Int},IntsAre vs ns → Vals (ns.map V.int) vs
  | _,_,.nil=>.nil
  | _,_,.cons n t h=>.cons ⟨t,rfl⟩ (yf6 h)
noncomputable def Only (H:Hp):Prop:=∀ b,H b = none ∨ ∃ o xs,H b = some (.frz o (.lst xs))
theorem yq9 {P:Program} {w:World} {K:PySem.W.Frag} {mg mb:Str → Option Value} {CX:CXT} {k:Nat} {fa a:Addr} {fd:FuncData} {x:Str} {sp:Sp} {s₁:Shared} {vs:List Value} {ns:List Int}
    (KX:K.In s₁.heap) (hns:s₁.heap.Ns mainGlobals mg) (hb:s₁.heap.Ns builtinsNs mb) (hbb:∀ x:Str,x ≠ "__name__" → mb x = bootBuiltins x) (hlim:s₁.heap.NoLimit) (hg:s₁.gens = #[])
    (ha:s₁.heap.get? a = some { cls:=.type "list",data:=.seq vs.toArray }) (hi:IntsAre vs ns) (hl:ns.length ≤ sizeLine) (hr:Room k callerA)
    (F:∀ base:Heap,K.In base → base.Ns mainGlobals mg → FnOk P w K mg base CX k fa fd [x] sp) (hbind:∀ (s:Shared) (u:Value),BindsTo s fd ⟨[u],[]⟩ [(x,u)])
    (hsp:∀ H:Hp,Only H → SqL K H a (ns.map V.int) → sp [.ref a] H (fun v _=>v = .bl true) fun _ _ _=>False)
    (hCX:∀ H e s',CX [] H s₁ (fun _ _ _=>False) e s' → False) :
    codeAny (model P w) callerA (.call (.ref fa) ⟨[.ref a],[]⟩) (fun r s'=>r = .ok (.ret (.bool true)) ∧ OldK s₁.heap s'.heap ∧ s'.os = s₁.os ∧ AllBare s'.gens) s₁:=by
  have rv:=yf6 hi
  have lenV:=hi.length
  have core:∀ H:Hp,Only H → SqL K H a (ns.map V.int) → HOk P w H s₁.heap → (∀ b,H b ≠ none → b = a) → (H a ≠ none → K.lookup a = none) →
      codeAny (model P w) callerA (.call (.ref fa) ⟨[.ref a],[]⟩) (fun r s'=>r = .ok (.ret (.bool true)) ∧ OldK s₁.heap s'.heap ∧ s'.os = s₁.os ∧ AllBare s'.gens) s₁:=by
    intro H hO hS hok hA hK
    have base_of:∀ {b:Addr} {o:Obj},s₁.heap.get? b = some o → H b = none → (hidT s₁.heap H).get? b = some o:=fun e n=>xi5 e n
    have noA:∀ {b:Addr} {o:Obj} {es:Array DictEntry} {ep:Nat},s₁.heap.get? b = some o → o.data = .dict es ep → H b = none:=fun {b o es ep} e d=>by
      cases q:H b with
      | none=>rfl
      | some u =>
        have e':b = a:=hA b (by rw [q]; simp)
        subst e'
        rw [ha] at e; cases e
        have d':Data.seq vs.toArray _ = Data.dict es ep:=d
        cases d'
    have nsK:∀ {b:Addr} {m:Str → Option Value},s₁.heap.Ns b m → (hidT s₁.heap H).Ns b m:=fun {b m} ⟨o,es,ep,e,d,r⟩=>⟨o,es,ep,base_of e (noA e d),d,r⟩
    have hKb:K.In (hidT s₁.heap H):=fun b o e=>base_of (KX b o e) (by
      cases q:H b with
      | none=>rfl
      | some u =>
        have e':b = a:=hA b (by rw [q]; simp)
        subst e'
        rw [hK (by rw [q]; simp)] at e; cases e)
    have hM:Mod K mg (hidT s₁.heap H):=⟨hKb,nsK hns,⟨mb,nsK hb,hbb⟩,let ⟨mc,h1,h2⟩:=hlim; ⟨mc,nsK h1,h2⟩⟩
    have e0:Env0 P w K mg (hidT s₁.heap H) callerA [] s₁ H:=⟨rfl,hM,fun b o e=>xx6 e,Nat.le_of_eq (xa7 _ _),trivial,fun b hb=>absurd (show b ∈ ([]:List Addr) from hb) (by simp),hok,.of_eq hg⟩
    refine codeAny_mono ((F _ hKb (nsK hns)).run callerA [] s₁ H ⟨[.ref a],[]⟩ [.ref a] [.ref a] _ _ hr e0 (hbind s₁ (.ref a)) (.cons rfl .nil) (hsp H hO hS)) fun r s' h=>?_
    cases r with
    | error e=>exact (hCX H e s' h).elim
    | ok fl =>
      cases fl with
      | next=>exact False.elim h
      | brk=>exact False.elim h
      | cont=>exact False.elim h
      | ret u =>
        obtain ⟨v,H',os,bare,un,hok',r',q⟩:=h
        have q':v = .bl true:=q
        subst q'
        obtain rfl:u = Value.bool true:=r'
        refine ⟨rfl,OldK.of_keep fun b o e=>?_,os,bare⟩
        cases q:H b with
        | none=>exact un.keep b o e q (by intro z; exact absurd (show b ∈ ([]:List Addr) from z) (by simp)) (by simp)
        | some u =>
          rcases hO b with z | ⟨ob,xs,z⟩
          · rw [q] at z; cases z
          · have z2:=un.frzs b ob _ z
            obtain ⟨e1,_⟩:=hok b _ z
            obtain ⟨e2,_⟩:=hok' b _ z2
            rw [e] at e1; cases e1
            exact e2
  cases hk:K.lookup a with
  | some o =>
    have e:=KX a o hk
    rw [ha] at e
    cases e
    refine core (fun _=>none) (fun _=>.inl rfl) (.inr ⟨_,vs.toArray,_,hk,rfl,rfl,rfl,by rw [List.size_toArray,lenV]; exact hl,by simpa using rv⟩) (fun b u z=>by have z':(none:Option HO) = some u:=z; cases z') (fun b z=>absurd rfl z) fun z=>absurd rfl z
  | none =>
    refine core (fun b=>if b = a then some (.frz { cls:=.type "list",data:=.seq vs.toArray } (.lst (ns.map V.int))) else none) (fun b=>?_) (.inl (.inr ⟨{ cls:=.type "list",data:=.seq vs.toArray },if_pos rfl⟩)) (fun b u z=>?_) (fun b z=>?_) fun _=>hk
    · by_cases hb:b = a
      · exact .inr ⟨_,_,if_pos hb⟩
      · exact .inl (if_neg hb)
    · by_cases hb:b = a
      · have z':=(if_pos hb).symm.trans z
        cases z'
        subst hb
        exact ⟨ha,by rw [List.length_map]; exact hl,vs,_,rv,ha⟩
      · have z':=(if_neg hb).symm.trans z
        cases z'
    · by_cases hb:b = a
      · exact hb
      · exact absurd (if_neg hb) z
end L2
namespace L2
open PySem PySem.Spec PyProof.Rows
noncomputable abbrev KOf {K:PySem.W.Frag} {h:Heap} (_:K.In h):PySem.W.Frag:=K
theorem walk_of {l:PySem.W.OpenLaw} {n k:Nat} {q:Program} {loose:List Str} {XP:(Str → Option Value) → Heap → Prop} {YP:World → Heap → Prop} {d:DefRec} {K:Params → PySem.W.Frag} {CX:World → CXT} {sp:World → Sp} {x:Str}
    (hn:l.most = some n) (hn2:n ≤ sizeLine) (hdf:d.params.defaults = []) (hr:Room k callerA)
    (hY:∀ (w:World) (h:Heap),YP w h → (K w.params).In h)
    (F:∀ (w:World) (mg:Str → Option Value) (fa:Addr) (h:Heap),(K w.params).In h → h.Ns mainGlobals mg → mg d.name = some (.ref fa) →
      ∃ fd:FuncData,(∀ (s:Shared) (u:Value),BindsTo s fd ⟨[u],[]⟩ [(x,u)]) ∧
        ∀ base:Heap,(K w.params).In base → base.Ns mainGlobals mg → FnOk l.prog w (K w.params) mg base (CX w) k fa fd [x] (sp w))
    (hsp:∀ (w:World) (H:Hp) (a:Addr) (ns:List Int),ns.length ≤ n → Only H → SqL (K w.params) H a (ns.map V.int) → sp w [.ref a] H (fun v _=>v = .bl true) fun _ _ _=>False)
    (hCX:∀ (w:World) (H:Hp) (s:Shared) (e:Value) (s':Shared),CX w [] H s (fun _ _ _=>False) e s' → False) :
    PySem.W.WalkO q loose XP YP l.row.toRowW d [] (fun f vs=>PySem.call f vs):=by
  refine Att.attach_call hn hdf fun w s₀ s₁ mg mb fa o pm cd doc a vs ns G Y ho hd hcd hmg hobj hints hlen hg=>?_
  have KX:=hY w _ Y
  obtain ⟨fd,hb,hF⟩:=F w mg fa _ KX G.T.g hmg
  exact yq9 KX G.T.g G.T.b G.T.builtins G.T.nolimit hg hobj hints (Nat.le_trans hlen hn2) hr hF hb (fun H hO hS=>hsp w H a ns hlen hO hS) fun H e s'=>hCX w H s₁ e s'
end L2
namespace L2
open PySem PySem.Spec PyProof.Rows
noncomputable def ye2 (s:Stmt) (j:Nat):Stmt:=match s with
  | .ClassDef _ _ _ body _ _ _ _ _ _ _=>body.getD j (.Pass ⟨0,0,0,0⟩)
  | _=>.Pass ⟨0,0,0,0⟩
noncomputable def ye6 (s:Stmt):Arguments:=match s with
  | .FunctionDef _ a _ _ _ _ _ _ _ _=>a
  | _=>{ posonlyargs:=[],args:=[],vararg:=none,kwonlyargs:=[],kw_defaults:=[],kwarg:=none,defaults:=[] }
noncomputable def zm9 (s:Stmt):List Stmt:=match s with
  | .FunctionDef _ _ b _ _ _ _ _ _ _=>b
  | _=>[]
noncomputable def zb4 (s:Stmt):Scope:=match s with
  | .FunctionDef _ _ _ _ _ _ sc _ _ _=>sc
  | _=>{ kind:=.function,names:=[],isGenerator:=false,isCoroutine:=false }
noncomputable abbrev CX0:CXT:=fun _ _ _ _ _ _=>False
noncomputable abbrev E0:XK:=fun _ _ _=>False
structure Fun (K:PySem.W.Frag) (x qual:Str) (st:Stmt) (f:Addr) (fd:FuncData):Prop where
  ex:∃ (oc:Value) (od:Option Addr) (kV doc pm:Value) (an:Option Addr) (cdv ct:Value) (osl:Array (Option Value)),
    fd = PySem.W.fnOf x qual (ye6 st) (zm9 st) (zb4 st) .none kV doc pm an cdv ct ∧ K.lookup f = some ⟨oc,od,.func fd,osl⟩ ∧ PySem.W.codeIn K cdv qual = true
  kp:PySem.W.keepIn K (.ref f) = true
section
variable {P:Program} {w:World} {K:PySem.W.Frag} {mg:Str → Option Value} {base:Heap}
theorem Fun.ok {x qual:Str} {st:Stmt} {f:Addr} {fd:FuncData} {N ps:List Str} {k:Nat} {sp:Sp} (F:Fun K x qual st f fd) (S:FnScope N ps (zb4 st)) (len:∀ vs H Q E,sp vs H Q E → vs.length = ps.length)
    (hbody:∀ (cdv:Value) (A:Around) (outer:List Env) (s:Shared) (H:Hp) (vs:List V) (Q:VK) (E:XK),Room k (A.deeper (envOfC qual (zb4 st) s.heap.objs.size f cdv)) → sp vs H Q E →
      ∃ t,PSs (cxOf CX0 P w K mg base N qual (zb4 st) f cdv A outer s H E).nox (zm9 st) t ∧ t { nx:=fun _ H'=>Q .non H',rt:=Q } (start N vs) H):FnOk P w K mg base CX0 (k + 1) f fd ps sp:=by
  obtain ⟨oc,od,kV,doc,pm,an,cdv,ct,osl,rfl,lk,hcd⟩:=F.ex
  refine wo3 lk hcd S len fun A outer s H vs Q E hr hsp=>?_
  obtain ⟨t,h,q⟩:=hbody cdv A outer s H vs Q E hr hsp
  exact ⟨t,h.nox,q⟩
theorem Fun.binds {x qual:Str} {st:Stmt} {f:Addr} {fd:FuncData} {ps:List Str} (F:Fun K x qual st f fd)
    (h:∀ (kV doc pm:Value) (an:Option Addr) (cdv ct:Value) (us:List Value),us.length = ps.length → bindArgs (PySem.W.fnOf x qual (ye6 st) (zm9 st) (zb4 st) .none kV doc pm an cdv ct) ⟨us,[]⟩ = pure (ps.zip us)):Binds K fd ps []:=by
  obtain ⟨oc,od,kV,doc,pm,an,cdv,ct,osl,rfl,lk,hcd⟩:=F.ex
  exact .all (h kV doc pm an cdv ct)
theorem fun_mk {x qual:Str} {st:Stmt} {f:Addr} {oc:Value} {od an:Option Addr} {osl:Array (Option Value)} {kV doc pm cdv ct:Value} (l:K.lookup f = some ⟨oc,od,.func (PySem.W.fnOf x qual (ye6 st) (zm9 st) (zb4 st) .none kV doc pm an cdv ct),osl⟩)
    (c:PySem.W.codeIn K cdv qual = true) (k:PySem.W.keepIn K (.ref f) = true):Fun K x qual st f (PySem.W.fnOf x qual (ye6 st) (zm9 st) (zb4 st) .none kV doc pm an cdv ct):=⟨⟨oc,od,kV,doc,pm,an,cdv,ct,osl,rfl,l,c⟩,k⟩
end
theorem ze3 {n:Nat} (h:n ≤ 1000):n < sizeLine:=Nat.lt_of_le_of_lt h (by decide)
section
variable {X:Cx}
theorem pv (i:Nat) {x:Str} {pos:Pos} (hN:X.N[i]? = some x:=by rfl) (hv:Vis X.env.scope x:=by first | exact Or.inl rfl | exact Or.inr (Or.inl rfl) | exact Or.inr (Or.inr rfl)) (hd:(x == ("__debug__":Str)) = false:=by decide)
    (hcd:(x == ("__classdict__":Str)) = false:=by decide):PE X (.Name x pos) (tVar i):=wi1 hN hv hd hcd
end
theorem iteF {A B:Prop} (h:B):if false = true then A else B:=by
  rw [if_neg Bool.false_ne_true]
  exact h
theorem iteT {A B:Prop} (h:A):if true = true then A else B:=by
  rw [if_pos rfl]
  exact h
theorem ite2 {c A B:Prop} [Decidable c] (h1:c → A) (h2:¬ c → B):if c then A else B:=by
  by_cases h:c
  · rw [if_pos h]
    exact h1 h
  · rw [if_neg h]
    exact h2 h
noncomputable def Same (H H':Hp):Prop:=∀ b o,H b = some o → H' b = some o
theorem Same.refl (H:Hp):Same H H:=fun _ _ h=>h
theorem Same.trans {H H1 H2:Hp} (a:Same H H1) (b:Same H1 H2):Same H H2:=fun c o h=>b c o (a c o h)
theorem Same.free {H H':Hp} (e:Same H H') {l:Addr} (h:H' l = Option.none):H l = Option.none:=by
  cases q:H l with
  | none=>rfl
  | some o =>
    rw [e l o q] at h
    cases h
theorem Same.seq {K:PySem.W.Frag} {H H':Hp} {a:Addr} {xs:List V} (e:Same H H') (h:SqL K H a xs):SqL K H' a xs:=by
  rcases h with (h | ⟨o,h⟩) | h
  · exact .inl (.inl (e _ _ h))
  · exact .inl (.inr ⟨o,e _ _ h⟩)
  · exact .inr h
end L2
namespace L2
open PySem PySem.Spec PyProof.Rows
section
variable {κ:Type} [DecidableEq κ]
noncomputable def valV (kvs:List (κ × V)) (k:κ):Option V:=(kvs.find? fun kv=>decide (kv.1 = k)).map (·.2)
noncomputable def putK (kvs:List (κ × V)) (k:κ) (v:V):List (κ × V) :=
  if (kvs.any fun kv=>decide (kv.1 = k)) = true then kvs.map (fun kv=>if kv.1 = k then (kv.1,v) else kv) else kvs ++ [(k,v)]
noncomputable def wo8 (kvs:List (κ × V)) (k:κ):List (κ × V):=kvs.filter fun kv=>decide (kv.1 ≠ k)
theorem zu5 {p:κ × V} {r:List (κ × V)} {k:κ} (e:p.1 = k):valV (p :: r) k = some p.2:=by simp [valV,List.find?_cons,e]
theorem zr5 {p:κ × V} {r:List (κ × V)} {k:κ} (e:¬ p.1 = k):valV (p :: r) k = valV r k:=by simp [valV,List.find?_cons,e]
theorem yn9 (k:κ):∀ kvs:List (κ × V),(kvs.any fun kv=>decide (kv.1 = k)) = (valV kvs k).isSome
  | []=>rfl
  | p :: r=>by
    rw [List.any_cons]
    by_cases e:p.1 = k
    · simp only [zu5 e,decide_eq_true e,Bool.true_or,Option.isSome_some]
    · rw [zr5 e,decide_eq_false e,Bool.false_or]; exact yn9 k r
theorem zx5 (kvs:List (κ × V)) (k:κ) (v:V):(putK kvs k v).length ≤ kvs.length + 1:=by
  unfold putK
  split
  · rw [List.length_map]; omega
  · rw [List.length_append,List.length_cons,List.length_nil]; omega
theorem RelO.isSome_eq {o:Option V} {u:Option Value} (r:RelO o u):o.isSome = u.isSome:=by
  cases o with
  | none=>cases u with
    | none=>rfl
    | some _=>exact (show False from r).elim
  | some _=>cases u with
    | none=>exact (show False from r).elim
    | some _=>rfl
theorem RelO.getD {o:Option V} {u:Option Value} {d:V} {d':Value} (r:RelO o u) (rd:RelV d d'):RelV (o.getD d) (u.getD d'):=by
  cases o with
  | none=>cases u with
    | none=>exact rd
    | some _=>exact (show False from r).elim
  | some _=>cases u with
    | none=>exact (show False from r).elim
    | some _=>exact r
theorem KV.val {kvs:List (κ × V)} {vs:List (κ × Value)} (r:KV kvs vs) (k:κ):RelO (valV kvs k) (valueAt vs k):=by
  unfold KV at r
  induction r with
  | nil=>exact True.intro
  | @cons p q ps qs h t ih =>
    obtain ⟨h1,h2⟩:=h
    by_cases e:p.1 = k
    · have e':q.1 = k:=h1.symm.trans e
      have b:valueAt (q :: qs) k = some q.2:=by simp [valueAt,List.find?_cons,e']
      rw [zu5 e,b]; exact h2
    · have e':¬ q.1 = k:=fun z=>e (h1.trans z)
      have b:valueAt (q :: qs) k = valueAt qs k:=by simp [valueAt,List.find?_cons,e']
      rw [zr5 e,b]; exact ih
theorem KV.any {kvs:List (κ × V)} {vs:List (κ × Value)} (r:KV kvs vs) (k:κ):(kvs.any fun kv=>decide (kv.1 = k)) = vs.any fun kv=>decide (kv.1 = k):=by
  unfold KV at r
  induction r with
  | nil=>rfl
  | cons h t ih=>rw [List.any_cons,List.any_cons,ih,h.1]
theorem KV.repl {kvs:List (κ × V)} {vs:List (κ × Value)} (r:KV kvs vs) (k:κ) {y:V} {u:Value} (ry:RelV y u) :
    KV (kvs.map fun kv=>if kv.1 = k then (kv.1,y) else kv) (vs.map fun kv=>if kv.1 = k then (kv.1,u) else kv):=by
  unfold KV at r ⊢
  induction r with
  | nil=>exact .nil
  | @cons p q ps qs h t ih =>
    rw [List.map_cons,List.map_cons]
    refine .cons ?_ ih
    obtain ⟨h1,h2⟩:=h
    by_cases e:p.1 = k
    · rw [if_pos e,if_pos (h1.symm.trans e)]; exact ⟨h1,ry⟩
    · rw [if_neg e,if_neg (fun z=>e (h1.trans z))]; exact ⟨h1,h2⟩
theorem KV.put {kvs:List (κ × V)} {vs:List (κ × Value)} (r:KV kvs vs) (k:κ) {y:V} {u:Value} (ry:RelV y u):KV (putK kvs k y) (stored vs k u):=by
  unfold putK stored
  rw [r.any k]
  by_cases e:(vs.any fun kv=>decide (kv.1 = k)) = true
  · rw [if_pos e,if_pos e]; exact r.repl k ry
  · rw [if_neg e,if_neg e]; exact Paired.snoc r ⟨rfl,ry⟩
theorem KV.drop {kvs:List (κ × V)} {vs:List (κ × Value)} (r:KV kvs vs) (k:κ):KV (wo8 kvs k) (without vs k):=by
  unfold KV at r ⊢
  unfold wo8 without
  induction r with
  | nil=>exact .nil
  | @cons p q ps qs h t ih =>
    obtain ⟨h1,h2⟩:=h
    rw [List.filter_cons,List.filter_cons]
    by_cases e:p.1 = k
    · have a:¬ decide (p.1 ≠ k) = true:=by simp [e]
      have b:¬ decide (q.1 ≠ k) = true:=by simp [h1.symm.trans e]
      rw [if_neg a,if_neg b]; exact ih
    · have e':¬ q.1 = k:=fun z=>e (h1.trans z)
      have a:decide (p.1 ≠ k) = true:=by simp [e]
      have b:decide (q.1 ≠ k) = true:=by simp [e']
      rw [if_pos a,if_pos b]; exact .cons ⟨h1,h2⟩ ih
theorem KV.keys {kvs:List (κ × V)} {vs:List (κ × Value)} (r:KV kvs vs):kvs.map (·.1) = vs.map (·.1):=by
  unfold KV at r
  induction r with
  | nil=>rfl
  | cons h t ih=>rw [List.map_cons,List.map_cons,ih,h.1]
theorem KV.length {kvs:List (κ × V)} {vs:List (κ × Value)} (r:KV kvs vs):kvs.length = vs.length:=Paired.length r
end
theorem xi1 {P:Program} {w:World} {k:Key} {u:Value} (r:RelV (kV k) u):(zj9 P w).is k u = true:=by
  cases k with
  | inl i=>obtain ⟨t,e⟩:=(show ∃ t,u = Value.int i t from r); subst e; exact ym1 P w i t
  | inr x=>obtain ⟨t,e⟩:=(show ∃ t,u = Value.str x t from r); subst e; exact ym0 P w x t
theorem yi6 {P:Program} {w:World}:∀ {ks:List Key} {us:List Value},Vals (ks.map kV) us → ItemsAre (zj9 P w) ks us
  | [],_,r=>by rw [List.map_nil] at r; cases r; exact .nil
  | k :: ks,_,r=>by
    rw [List.map_cons] at r
    cases r with
    | cons h t=>exact .cons (xi1 h) (yi6 t)
noncomputable abbrev KT (H:Hp):List (List Key × V) → List (List Key × Addr × Value) → Prop:=Paired fun p q=>p.1 = q.1 ∧ H q.2.1 = some (.tup (p.1.map kV)) ∧ RelV p.2 q.2.2
theorem KT.val {H:Hp} {kvs:List (List Key × V)} {xs:List (List Key × Addr × Value)} (r:KT H kvs xs) (k:List Key):RelO (valV kvs k) ((atKey xs k).map (·.2)):=by
  induction r with
  | nil=>exact True.intro
  | @cons p q ps qs h t ih =>
    obtain ⟨h1,_,h2⟩:=h
    by_cases e:p.1 = k
    · have e':q.1 = k:=h1.symm.trans e
      have b:atKey (q :: qs) k = some q.2:=by simp [atKey,List.find?_cons,e']
      rw [zu5 e,b]; exact h2
    · have e':¬ q.1 = k:=fun z=>e (h1.trans z)
      have b:atKey (q :: qs) k = atKey qs k:=by simp [atKey,List.find?_cons,e']
      rw [zr5 e,b]; exact ih
theorem KT.repl {H:Hp} {kvs:List (List Key × V)} {xs:List (List Key × Addr × Value)} (r:KT H kvs xs) (k:List Key) {y:V} {u:Value} (ry:RelV y u) :
    KT H (kvs.map fun kv=>if kv.1 = k then (kv.1,y) else kv) (xs.map (putAt k u)):=by
  induction r with
  | nil=>exact .nil
  | @cons p q ps qs h t ih =>
    rw [List.map_cons,List.map_cons]
    refine .cons ?_ ih
    obtain ⟨h1,h2,h3⟩:=h
    unfold putAt
    by_cases e:p.1 = k
    · rw [if_pos e,if_pos (h1.symm.trans e)]; exact ⟨h1,h2,ry⟩
    · rw [if_neg e,if_neg (fun z=>e (h1.trans z))]; exact ⟨h1,h2,h3⟩
theorem KT.put {H:Hp} {kvs:List (List Key × V)} {xs:List (List Key × Addr × Value)} (r:KT H kvs xs) (k:List Key) {b:Addr} {y:V} {u:Value} (hb:H b = some (.tup (k.map kV))) (ry:RelV y u) :
    KT H (putK kvs k y) (storedH xs k b u):=by
  have e:(kvs.any fun kv=>decide (kv.1 = k)) = (atKey xs k).isSome:=by
    rw [yn9,(r.val k).isSome_eq,Option.isSome_map]
  unfold putK storedH
  rw [e]
  by_cases q:(atKey xs k).isSome = true
  · rw [if_pos q,if_pos q]; exact r.repl k ry
  · rw [if_neg q,if_neg q]; exact Paired.snoc r ⟨rfl,hb,ry⟩
theorem KT.keeps {H H':Hp} {kvs:List (List Key × V)} {xs:List (List Key × Addr × Value)} (r:KT H kvs xs) (ht:∀ b ys,H b = some (.tup ys) → H' b = some (.tup ys)):KT H' kvs xs :=
  Paired.mapP r fun _ _ z=>⟨z.1,ht _ _ z.2.1,z.2.2⟩
section
variable {P:Program} {w:World} {H:Hp} {h:Heap} {a:Addr}
theorem wh5 {u:HO} (ok:HOk P w H h) (e:Rd H a u):ObjOk P w H h a u:=e.ok ok
theorem xj5 {kvs:List (Key × V)} (ok:HOk P w H h) (e:Rd H a (.dK kvs)):kvs.length ≤ sizeLine ∧ (a == sysModules) = false ∧ ∃ vs,KV kvs vs ∧ h.DictOf (zj9 P w) a vs :=
  show ObjOk P w H h a (.dK kvs) from wh5 ok e
theorem ww5 {kvs:List (Key × V)} (ok:HOk P w H h) (e:H a = some (.dK kvs)):kvs.length ≤ sizeLine ∧ (a == sysModules) = false ∧ ∃ vs,KV kvs vs ∧ h.DictOf (zj9 P w) a vs:=xj5 ok (.inl e)
theorem yr0 {ks:List Key} (ok:HOk P w H h) (e:H a = some (.tup (ks.map kV))):(tupleKind (zj9 P w)).is h ks a:=by
  obtain ⟨_,its,r,o,h1,h2,n,h3⟩:=(show ObjOk P w H h a (.tup (ks.map kV)) from ok a _ e)
  exact ⟨o,its.toArray,n,h1,h2,h3,by simpa using yi6 r⟩
theorem xj4 {kvs:List (List Key × V)} (ok:HOk P w H h) (e:Rd H a (.dT kvs)):kvs.length ≤ sizeLine ∧ (a == sysModules) = false ∧
    ∃ xs,KT H kvs xs ∧ h.DictOfH (tupleKind (zj9 P w)) a xs:=by
  obtain ⟨z,y,xs,r,o,es,ep,h1,h2,h3,h4,h5⟩:=(show ObjOk P w H h a (.dT kvs) from wh5 ok e)
  refine ⟨z,y,xs,r,o,es,ep,h1,h2,h3,h4,fun x hx=>?_,h5⟩
  have all:∀ {l:List (List Key × V)} {m:List (List Key × Addr × Value)},KT H l m → ∀ x ∈ m,(tupleKind (zj9 P w)).is h x.1 x.2.1:=by
    intro l m q
    induction q with
    | nil=>intro x hx; exact nomatch hx
    | @cons p q ps qs hq t ih =>
      intro x hx
      rcases List.mem_cons.mp hx with e | hx
      · subst e
        exact yr0 ok (by rw [← hq.1]; exact hq.2.1)
      · exact ih x hx
  exact all r x hx
theorem ww4 {kvs:List (List Key × V)} (ok:HOk P w H h) (e:H a = some (.dT kvs)):kvs.length ≤ sizeLine ∧ (a == sysModules) = false ∧
    ∃ xs,KT H kvs xs ∧ h.DictOfH (tupleKind (zj9 P w)) a xs:=xj4 ok (.inl e)
end
noncomputable def DGet (H:Hp) (a:Addr) (y:V) (r:Option V):Prop :=
  (∃ kvs k,Rd H a (.dK kvs) ∧ y = kV k ∧ r = valV kvs k) ∨ ∃ kvs k b,Rd H a (.dT kvs) ∧ y = .ref b ∧ H b = some (.tup (k.map kV)) ∧ r = valV kvs k
noncomputable def DPut (H:Hp) (a:Addr) (y v:V) (H':Hp):Prop :=
  (∃ kvs k,H a = some (.dK kvs) ∧ y = kV k ∧ kvs.length < sizeLine ∧ H' = upd H a (.dK (putK kvs k v))) ∨
  ∃ kvs k b,H a = some (.dT kvs) ∧ y = .ref b ∧ H b = some (.tup (k.map kV)) ∧ kvs.length < sizeLine ∧ H' = upd H a (.dT (putK kvs k v))
theorem DGet.k {H:Hp} {a:Addr} {kvs:List (Key × V)} {k:Key} (e:H a = some (.dK kvs)):DGet H a (kV k) (valV kvs k):=.inl ⟨kvs,k,.inl e,rfl,rfl⟩
theorem DGet.t {H:Hp} {a b:Addr} {kvs:List (List Key × V)} {k:List Key} (e:H a = some (.dT kvs)) (eb:H b = some (.tup (k.map kV))):DGet H a (.ref b) (valV kvs k):=.inr ⟨kvs,k,b,.inl e,rfl,eb,rfl⟩
theorem DPut.k {H:Hp} {a:Addr} {kvs:List (Key × V)} {k:Key} {v:V} (e:H a = some (.dK kvs)) (hl:kvs.length < sizeLine):DPut H a (kV k) v (upd H a (.dK (putK kvs k v))):=.inl ⟨kvs,k,e,rfl,hl,rfl⟩
theorem DPut.t {H:Hp} {a b:Addr} {kvs:List (List Key × V)} {k:List Key} {v:V} (e:H a = some (.dT kvs)) (eb:H b = some (.tup (k.map kV))) (hl:kvs.length < sizeLine) :
    DPut H a (.ref b) v (upd H a (.dT (putK kvs k v))):=.inr ⟨kvs,k,b,e,rfl,eb,hl,rfl⟩
section
variable {X:Cx} {pins:List (Addr × Obj)} {σ:St} {H:Hp} {s:Shared} {a:Addr} {y v:V} {u r:Value} {o:Option V} {A:Around} {E:Value → Shared → Prop}
theorem Inv.big (I:Inv X pins σ H s):sysModules < s.heap.objs.size:=by
  have h:mainGlobals < s.heap.objs.size:=(I.mod.glob.keeps I.bk).lt
  exact Nat.lt_trans (by decide) h
theorem xc7 {Q:Value → Shared → Prop} (hu:A.units + 1 < cLine) (I:Inv X pins σ H s) (g:DGet H a y (some v)) (ry:RelV y u) (h:∀ w' s',Inv X pins σ H s' → RelV v w' → Q w' s') :
    wpAny (model X.prog X.w) A (getItem (.ref a) u) Q E s:=by
  rcases g with ⟨kvs,k,e,ey,l⟩ | ⟨kvs,k,b,e,ey,eb,l⟩
  · subst ey
    obtain ⟨z,hd,vs,rel,dd⟩:=xj5 I.hok e
    obtain ⟨w',hw,rw'⟩:=RelO.some_of (v:=v) (o:=valueAt vs k) (by rw [l]; exact rel.val k)
    exact wpAny_getItem_of (xi1 ry) dd.mapOf hw (h w' _ (I.tok _) rw')
  · subst ey
    cases (show u = Value.ref b from ry)
    obtain ⟨z,hd,xs,rel,dd⟩:=xj4 I.hok e
    obtain ⟨w',hw,rw'⟩:=RelO.some_of (v:=v) (o:=(atKey xs k).map (·.2)) (by rw [l]; exact rel.val k)
    obtain ⟨p,hp,hp2⟩:=Option.map_eq_some_iff.mp hw
    refine wpAny_getItem_heap (tupleKind_room_in1 hu) (yr0 I.hok eb) dd hp ?_
    rw [hp2]
    exact h w' _ (I.tok _) rw'
theorem wa6 {Q:Value → Shared → Prop} (hu:A.units + 1 < cLine) (I:Inv X pins σ H s) (g:DGet H a y o) (ry:RelV y u) (h:∀ s',Inv X pins σ H s' → Q (.bool (!o.isSome)) s') :
    wpAny (model X.prog X.w) A (compareOp .NotIn u (.ref a)) Q E s:=by
  rcases g with ⟨kvs,k,e,ey,l⟩ | ⟨kvs,k,b,e,ey,eb,l⟩
  · subst ey
    obtain ⟨z,hd,vs,rel,dd⟩:=xj5 I.hok e
    refine wpAny_notIn_of (xi1 ry) hd dd.mapOf ?_
    rw [← (rel.val k).isSome_eq,← l]
    exact h _ (I.tok _)
  · subst ey
    cases (show u = Value.ref b from ry)
    obtain ⟨z,hd,xs,rel,dd⟩:=xj4 I.hok e
    refine wpAny_notIn_heap (tupleKind_room_in1 hu) (yr0 I.hok eb) hd dd ?_
    have q:=(rel.val k).isSome_eq
    rw [Option.isSome_map] at q
    rw [← q,← l]
    exact h _ (I.tok _)
theorem xc5 {h':Heap} {t':Nat} {ob:HO} (I:Inv X pins σ H s) (mu:Mut (H a)) (hs:Heap.SameBut a s.heap h') (he:∃ q,h'.get? a = some q) (new:ObjOk X.prog X.w (upd H a ob) h' a ob) :
    Inv X pins σ (upd H a ob) { s with heap:=h',toks:=t' } :=
  I.write (x:=a) (e:=a) mu (.inl rfl) (fun b q hb z=>(hs.2 b hb).trans z) he new
theorem wp0 {P:Program} {w:World} {H':Hp} {h':Heap} {kvs:List (Key × V)} {vs:List (Key × Value)} (z:kvs.length ≤ sizeLine) (hd:(a == sysModules) = false) (rel:KV kvs vs) (dd:h'.DictOf (zj9 P w) a vs) :
    ObjOk P w H' h' a (.dK kvs):=⟨z,hd,vs,rel,dd⟩
theorem xc6 {H':Hp} {Q:Unit → Shared → Prop} (hu:A.units + 1 < cLine) (I:Inv X pins σ H s) (g:DPut H a y v H') (ry:RelV y u) (rv:RelV v r) (h:∀ s',Inv X pins σ H' s' → Q () s') :
    wpAny (model X.prog X.w) A (setItem (.ref a) u r) Q E s:=by
  rcases g with ⟨kvs,k,e,ey,l,eH⟩ | ⟨kvs,k,b,e,ey,eb,l,eH⟩
  · subst ey eH
    obtain ⟨z,hd,vs,rel,dd⟩:=ww5 I.hok e
    have hz:vs.length ≤ sizeLine:=by rw [← rel.length]; exact z
    have hl:(putK kvs k v).length ≤ sizeLine:=by have:=zx5 kvs k v; omega
    refine wpAny_setItem_pairs (hsz:=hz) (xi1 ry) dd fun h' dd' hs=>h _ ?_
    have he:∃ q,h'.get? a = some q:=let ⟨q,_,_,hq,_⟩:=dd'; ⟨q,hq⟩
    exact xc5 I (by rw [e]; exact True.intro) hs he (wp0 hl hd (rel.put k rv) dd')
  · subst ey eH
    cases (show u = Value.ref b from ry)
    obtain ⟨z,hd,xs,rel,dd⟩:=ww4 I.hok e
    have hz:xs.length ≤ sizeLine:=by rw [← Paired.length rel]; exact z
    have hl:(putK kvs k v).length ≤ sizeLine:=by have:=zx5 kvs k v; omega
    refine wpAny_setItem_heap (hsz:=hz) (tupleKind_room_in1 hu) (yr0 I.hok eb) dd fun h' dd' hs=>h _ ?_
    obtain ⟨q,es,ep,hq,h2,h3,h4,_,h5⟩:=dd'
    refine xc5 I (by rw [e]; exact True.intro) hs ⟨q,hq⟩ ⟨hl,hd,_,(rel.put k eb rv).keeps fun c ys ec=>?_,q,es,ep,hq,h2,h3,h4,h5⟩
    rw [zd9 (ww0 ec e (fun z=>nomatch z))]
    exact ec
end
section
variable {X:Cx} {pins:List (Addr × Obj)} {σ:St} {H:Hp} {s:Shared} {a:Addr} {kvs:List (Key × V)} {k:Key} {u:Value} {A:Around} {E:Value → Shared → Prop}
end
noncomputable def NoSl (i:Expr):Prop:=∀ ov iv,subscripted i false ov iv = operate [ov,iv] (getItem ov iv)
theorem xr6 {prog:Program} {w:World} {A:Around} {E:Value → Shared → Prop} {s:Shared} {env:Env} {value slice:Expr} {pos:Pos} {T id:String} {Q:Value → Shared → Prop}
    (hl:typeLookup (.type T) "__getitem__" = pure (some (.builtin id))) (hs:NoSl slice)
    (h:wpAny (model prog w) A (eval value env) (fun o s₁=>wpAny (model prog w) A (eval slice env) (fun i s₂=>s₂.TypeIs o T ∧ wpAny (model prog w) A (getItem o i) Q E s₂) E s₁) E s) :
    wpAny (model prog w) A (eval (.Subscript value slice pos) env) Q E s:=by
  refine Subscript_ (wpAny_mono h (fun o s₁ h₁=>wpAny_mono h₁ (fun i s₂ h₂=>?_) fun _ _ x=>x) fun _ _ x=>x)
  obtain ⟨hT,h₂⟩:=h₂
  unfold subscriptTail
  refine wpAny_bind ?_
  rw [getitemInPython_of_ne hT.not_modules]
  refine wpAny_bind (wpAny_specialOf hT hl ?_)
  have fin:wpAny (model prog w) A (subscripted slice false o i) (fun r s₃=>wpAny (model prog w) A (letTemporaryGo value o r >>= fun _=>pure r) Q E s₃) E s₂:=by
    rw [hs o i]
    exact wpAny_operating (wpAny_mono h₂ (fun r s₃ h₃=>wpAny_bind (wpAny_letTemporaryGo (wpAny_pure h₃))) fun _ _ x=>x)
  first
    | exact wpAny_pure (wpAny_bind fin)
    | exact wpAny_bind (wpAny_pure (wpAny_bind fin))
    | exact wpAny_bind fin
theorem yn0 {X:Cx} {pins:List (Addr × Obj)} {σ:St} {H:Hp} {s:Shared} {a:Addr} {y:V} {o:Option V} (I:Inv X pins σ H s) (g:DGet H a y o):s.TypeIs (.ref a) "dict":=by
  rcases g with ⟨kvs,k,e,_,_⟩ | ⟨kvs,k,b,e,_,_,_⟩
  · obtain ⟨_,_,vs,_,dd⟩:=xj5 I.hok e
    exact dd.typeIs
  · obtain ⟨_,_,xs,_,dd⟩:=xj4 I.hok e
    exact dd.typeIs
noncomputable def we6 (td ty:TE):TE:=fun σ H Q=>td σ H fun x H1=>ty σ H1 fun y H2=>∃ a v,x = .ref a ∧ DGet H2 a y (some v) ∧ Q v H2
noncomputable def yv4 (ty td:TE):TE:=fun σ H Q=>ty σ H fun y H1=>td σ H1 fun x H2=>∃ a o,x = .ref a ∧ DGet H2 a y o ∧ Q (.bl (!o.isSome)) H2
noncomputable def wh3 (td ty tv:TE):TS:=fun D σ H=>tv σ H fun v H1=>td σ H1 fun x H2=>ty σ H2 fun y H3=>∃ a H4,x = .ref a ∧ DPut H3 a y v H4 ∧ D.nx σ H4
section
variable {X:Cx} {o i e value:Expr} {pos pos' tpos:Pos} {td ty tv:TE}
theorem xw7 (hu:X.A.units + 1 < cLine) (ho:PE X o td) (hi:PE X i ty) (hs:NoSl i):PE X (.Subscript o i pos) (we6 td ty):=by
  intro pins s σ H Q I h
  refine xr6 PySem.F.slot_dict_getitem.lookup hs (thn (ho pins s σ H _ I h) fun u s1 ⟨x,H1,I1,rx,q1⟩=>thn (hi pins s1 σ H1 _ I1 q1) fun iv s2 ⟨y,H2,I2,ry,a,v,ex,g,q2⟩=>?_)
  subst ex
  obtain rfl:u = Value.ref a:=rx
  exact ⟨yn0 I2 g,xc7 hu I2 g ry fun w' s3 I3 rw'=>⟨v,H2,I3,rw',q2⟩⟩
theorem yx7 (hu:X.A.units + 1 < cLine) (hi:PE X i ty) (ho:PE X o td):PC X .NotIn i o (yv4 ty td):=by
  intro pins s σ H Q I h
  refine thn (hi pins s σ H _ I h) fun iv s1 ⟨y,H1,I1,ry,q1⟩=>thn (ho pins s1 σ H1 _ I1 q1) fun u s2 ⟨x,H2,I2,rx,a,ov,ex,g,q2⟩=>?_
  subst ex
  obtain rfl:u = Value.ref a:=rx
  exact wa6 hu I2 g ry fun s3 I3=>⟨.bl (!ov.isSome),H2,I3,rfl,q2⟩
theorem xw5 (hu:X.A.units + 1 < cLine) (ho:PE X o td) (hi:PE X i ty) (hv:PE X value tv) (hs:swapsWith value (some (.Subscript o i pos')) pos.line X.env = pure false) :
    PS X (.Assign [.Subscript o i pos'] value pos) (wh3 td ty tv):=by
  intro pins s σ H D I h
  refine wpAny_Assign_Subscript (thn (hv pins s σ H _ I h) fun r s1 ⟨v,H1,I1,rv,q1⟩=>thn (ho pins s1 σ H1 _ I1 q1) fun u s2 ⟨x,H2,I2,rx,q2⟩=>thn (hi pins s2 σ H2 _ I2 q2) fun iv s3 ⟨y,H3,I3,ry,a,H4,ex,g,q3⟩=>?_) hs
  subst ex
  obtain rfl:u = Value.ref a:=rx
  exact xc6 hu I3 g ry rv fun s4 I4=>⟨σ,H4,I4,q3⟩
end
theorem xj6 {P:Program} {w:World} {H:Hp} (h:Heap) (hb:sysModules < h.objs.size):ObjOk P w H (h.push { cls:=.type "dict",data:=.dict #[] }) h.objs.size (.dK []) :=
  ⟨Nat.zero_le _,beq_eq_false_iff_ne.mpr (Ne.symm (Nat.ne_of_lt hb)),[],.nil,Heap.DictOf.new h⟩
noncomputable def tDNewK:TE:=fun _ H Q=>∀ p,H p = none → Q (.ref p) (upd H p (.dK []))
section
variable {X:Cx} {pos:Pos}
theorem xh0:PE X (.Dict [] [] pos) tDNewK:=fun pins s σ H Q I h =>
  wpAny_Dict_empty ⟨.ref s.heap.objs.size,_,I.laid (a:=s.heap.objs.size) (o:=.dK []) (t':=s.toks) (fun _ _ q=>Heap.get?_push_of_some _ q) (Nat.le_refl _) (xj6 s.heap I.big),rfl,h _ (I.hok.fresh (Nat.le_refl _))⟩
end
structure M1 (X:Cx) (o:Expr) (m:Str) (apos:Pos) (e:Expr) (cpos:Pos):Prop where
  base:attributeBase o m X.env (eval o X.env) = eval o X.env
  few:((backTo cpos (starEach [e] X.env)).all (fun x=>!x.1) && (backToKw cpos (keywordEach [] X.env)).all (fun x=>x.1.isSome)
    && decide (([e]:List Expr).length + ([]:List Keyword).length + (if ([]:List Keyword).isEmpty then 0 else 1) < 30)) = true
  line:(apos.endLine == cpos.line) = true
  trees:backTo cpos (starEach [e] X.env) = [(false,eval e X.env)]
structure M2 (X:Cx) (o:Expr) (m:Str) (apos:Pos) (e f:Expr) (cpos:Pos):Prop where
  base:attributeBase o m X.env (eval o X.env) = eval o X.env
  few:((backTo cpos (starEach [e,f] X.env)).all (fun x=>!x.1) && (backToKw cpos (keywordEach [] X.env)).all (fun x=>x.1.isSome)
    && decide (([e,f]:List Expr).length + ([]:List Keyword).length + (if ([]:List Keyword).isEmpty then 0 else 1) < 30)) = true
  line:(apos.endLine == cpos.line) = true
  trees:backTo cpos (starEach [e,f] X.env) = [(false,eval e X.env),(false,eval f X.env)]
section
variable {X:Cx} {pins:List (Addr × Obj)} {σ:St} {H:Hp} {s:Shared} {a:Addr} {y d:V} {u r:Value} {o:Option V} {A:Around} {E:Value → Shared → Prop}
end
section
variable {X:Cx} {o e f:Expr} {apos cpos:Pos} {td ty tx:TE}
end
section
variable {X:Cx} {pins:List (Addr × Obj)} {σ:St} {H:Hp} {s:Shared} {a:Addr} {kvs:List (Key × V)} {A:Around} {E:Value → Shared → Prop}
end
section
variable {X:Cx} {pins:List (Addr × Obj)} {σ:St} {H:Hp} {s:Shared} {a:Addr} {y:V} {u:Value} {A:Around} {E:Value → Shared → Prop}
end
end L2
set_option maxHeartbeats 4000000
namespace Lx
open PySem PySem.Spec PyProof.Rows L2
noncomputable def ExcAt (h₀ h:Heap) (H:Hp) (x:Addr) (C:Value):Prop :=
  ∃ oe vs,h.get? x = some oe ∧ oe.cls = C ∧ oe.data = .fields vs ∧ H x = none ∧ h₀.get? x = none ∧
    (vs[1]? = some Value.none ∨ ∃ T oT ts,vs[1]? = some (Value.ref T) ∧ T ≠ x ∧ h.get? T = some oT ∧ oT.data = .fields ts ∧ ts[3]? = some Value.none ∧ H T = none ∧ h₀.get? T = none)
theorem ExcAt.older {h₀ h₁ h:Heap} {H:Hp} {x:Addr} {C:Value} (e:ExcAt h₁ h H x C) (k:∀ b,h₁.get? b = none → h₀.get? b = none):ExcAt h₀ h H x C:=by
  obtain ⟨oe,vs,h1,h2,h3,h4,h5,h6⟩:=e
  refine ⟨oe,vs,h1,h2,h3,h4,k _ h5,?_⟩
  rcases h6 with h6 | ⟨T,oT,ts,g1,g2,g3,g4,g5,g6,g7⟩
  · exact .inl h6
  · exact .inr ⟨T,oT,ts,g1,g2,g3,g4,g5,g6,k _ g7⟩
theorem yy4 {P:Program} {w:World} {H:Hp} {h:Heap} {a:Addr} {o:HO} (x:ObjOk P w H h a o):∃ u,h.get? a = some u:=by
  cases o with
  | lst xs=>obtain ⟨_,_,_,_,e⟩:=x; exact ⟨_,e⟩
  | tup xs=>obtain ⟨_,_,_,p⟩:=x; obtain ⟨o,h1,_⟩:=p; exact ⟨o,h1⟩
  | dK kvs=>obtain ⟨_,_,_,_,o,_,_,e,_⟩:=x; exact ⟨_,e⟩
  | dT kvs=>obtain ⟨_,_,_,_,o,_,_,e,_⟩:=x; exact ⟨_,e⟩
  | set S n=>obtain ⟨o,_,_,_,e,_⟩:=x; exact ⟨_,e⟩
  | ins C dx fs=>obtain ⟨_,_,_,e,_⟩:=x; exact ⟨_,e⟩
  | own y=>exact x
  | xd fs=>obtain ⟨_,⟨_,_,_,e,_⟩,_⟩:=x; exact ⟨_,e⟩
  | rng lo hi=>obtain ⟨_,_,_,e⟩:=x; exact ⟨_,e⟩
  | frz ob u=>obtain ⟨e,_⟩:=x; exact ⟨_,e⟩
  | tbl ps=>exact ⟨_,(show h.get? a = some _ from x)⟩
  | met f y=>exact ⟨_,(show h.get? a = some _ from x)⟩
  | ext φ=>obtain ⟨_,e,_⟩:=x; exact e
theorem yz1 {env:Env} {l:List Env} {a:Addr} (h:env ∈ l) (hf:env.frame = some a):a ∈ frs l:=List.mem_filterMap.mpr ⟨env,h,hf⟩
theorem yy7 {M:Model} {A:Around} {E:Value → Shared → Prop} {s:Shared} {base h₀:Heap} {env:Env} {outer:List Env} {L x:Addr} {C:Value} {H:Hp} {Q:Unit → Shared → Prop}
    (hfr:A.frames = some (env :: outer)) (hl:s.heap.FunFrames base (env :: outer)) (hf:env.frame = some L) (hx:ExcAt h₀ s.heap H x C)
    (h0:∀ b o,h₀.get? b = some o → ∃ u,s.heap.get? b = some u) (hH:∀ b o,H b = some o → ∃ u,s.heap.get? b = some u)
    (h:∀ h',(∀ b o,s.heap.get? b = some o → (h₀.get? b ≠ none ∨ H b ≠ none) → b ∉ frs (env :: outer) → h'.get? b = some o) →
      (∀ b o,s.heap.get? b = some o → b ∈ frs (env :: outer) → ∃ sl,h'.get? b = some { o with slots:=sl }) →
      ExcAt h₀ h' H x C → Q () { s with heap:=h' }) :
    wpAny M A (noteFrame (.ref x) env) (fun _ s2=>wpAny M A (setFlight (.ref x) none) Q E s2) E s:=by
  obtain ⟨oe,vs,he,hc,hd,hHx,h0x,htr⟩:=hx
  have go:∀ (tr:List Addr) (hxt:x ∈ tr) (htr:∀ b ∈ tr,H b = none ∧ h₀.get? b = none) (h':Heap),Heap.Left (PySem.W.hideAll s.heap (tr ++ frs (env :: outer))) (env :: outer) x C s.heap h' → Q () { s with heap:=h' }:=by
    intro tr hxt htr h' hL
    obtain ⟨k1,k2,k3,k4⟩:=hL
    have kept:∀ b o,s.heap.get? b = some o → (h₀.get? b ≠ none ∨ H b ≠ none) → b ∉ frs (env :: outer) → h'.get? b = some o:=fun b o e hb hn=>by
      refine k1 b o (PySem.W.hideAll_get _ e fun hm=>?_)
      rcases List.mem_append.mp hm with z | z
      · obtain ⟨z1,z2⟩:=htr b z
        rcases hb with q | q
        · exact q z2
        · exact q z1
      · exact hn z
    refine h h' kept (fun b o e hb=>?_) ?_
    · obtain ⟨_,o',e',nf⟩:=hl.mem hb
      rw [e] at e'; cases e'
      exact k4 b o e nf
    · obtain ⟨oe',vs',T,oT,ts,he',hc',hd',h1',hnT,hTe,hT,hdT,h3⟩:=k3
      have hTn:H T = none ∧ h₀.get? T = none:=by
        by_cases hm:T ∈ tr ++ frs (env :: outer)
        · rcases List.mem_append.mp hm with z | z
          · exact htr T z
          · obtain ⟨_,o',e',nf⟩:=k2.mem z
            rw [hT] at e'; cases e'
            exact absurd hdT (nf ts)
        · have no:s.heap.get? T = none:=by
            cases q:s.heap.get? T with
            | none=>rfl
            | some o =>
              rw [PySem.W.hideAll_get _ q hm] at hnT; cases hnT
          refine ⟨?_,?_⟩
          · cases q:H T with
            | none=>rfl
            | some o =>
              obtain ⟨u,hu⟩:=hH T o q
              rw [no] at hu; cases hu
          · cases q:h₀.get? T with
            | none=>rfl
            | some o =>
              obtain ⟨u,hu⟩:=h0 T o q
              rw [no] at hu; cases hu
      exact ⟨oe',vs',he',hc',hd',hHx,h0x,.inr ⟨T,oT,ts,h1',hTe,hT,hdT,h3,hTn.1,hTn.2⟩⟩
  have ff:∀ tr:List Addr,s.heap.FunFrames (PySem.W.hideAll s.heap (tr ++ frs (env :: outer))) (env :: outer):=fun tr=>PySem.W.funFrames_hide hl fun env' h1 a h2=>List.mem_append_right _ (yz1 h1 h2)
  have stays:∀ tr:List Addr,(PySem.W.hideAll s.heap (tr ++ frs (env :: outer))).StaysIn s.heap:=fun tr b o q=>PySem.W.of_hideAll _ q
  have hid:∀ (tr:List Addr) (b:Addr),b ∈ tr → (PySem.W.hideAll s.heap (tr ++ frs (env :: outer))).get? b = none:=fun tr b hb=>PySem.W.hideAll_none _ (List.mem_append_left _ hb)
  rcases htr with h1 | ⟨Tr,oTr,tv,h1,hTx,hTr,hdTr,h3,hHT,h0T⟩
  · unfold noteFrame
    simp only [hf]
    refine wpAny_bind (wpAny_field (s:=s) he hd h1 ?_)
    rw [if_neg (by decide:¬ ((Value.none != Value.none) = true))]
    refine wpAny_newEntry hfr (ff [x]) hf he (stays [x]) (hid [x] x (by simp)) hd (Array.getElem?_eq_some_iff.mp h1).1 fun h' hL=>go [x] (by simp) (fun b hb=>?_) h' (by rw [← hc]; exact hL)
    have e:b = x:=by simpa using hb
    subst e
    exact ⟨hHx,h0x⟩
  · unfold noteFrame
    simp only [hf]
    refine wpAny_bind (wpAny_field (s:=s) he hd h1 ?_)
    rw [if_pos (by simp:(Value.ref Tr != Value.none) = true)]
    refine wpAny_bind (wpAny_field (s:=s) hTr hdTr h3 ?_)
    rw [if_neg (by simp [rawInt]:¬ ((Value.none == rawInt L) = true))]
    refine wpAny_bind (wpAny_setField (s:=s) hTr hdTr (Array.getElem?_eq_some_iff.mp h3).1 ?_)
    have oth:∀ b,b ≠ Tr → (s.heap.update Tr (Obj.mapFields (·.setIfInBounds 3 Value.none))).get? b = s.heap.get? b:=fun b nb=>Heap.get?_update_other _ _ (Ne.symm nb)
    have nT:∀ b u,s.heap.get? b = some u → (∀ vs,u.data ≠ .fields vs) → b ≠ Tr:=fun b u q nf z=>by
      rw [z,hTr] at q
      cases q
      exact nf tv hdTr
    refine wpAny_newEntry hfr ((ff [x,Tr]).of_keeps fun b u q nf=>⟨u,(oth b (nT b u q nf)).trans q,rfl⟩) hf ((oth x (Ne.symm hTx)).trans he) (fun b u q=>(oth b fun z=>?_).trans (stays [x,Tr] b u q)) (hid [x,Tr] x (by simp)) hd (Array.getElem?_eq_some_iff.mp h1).1
      fun h' hL=>go [x,Tr] (by simp) (fun b hb=>?_) h' ⟨hL.1,hL.2.1,by rw [← hc]; exact hL.2.2.1,fun b u q nf=>hL.2.2.2 b u ((oth b (nT b u q nf)).trans q) nf⟩
    · rw [z,hid [x,Tr] Tr (by simp)] at q
      cases q
    · have e:b = x ∨ b = Tr:=by simpa using hb
      rcases e with e | e
      · subst e; exact ⟨hHx,h0x⟩
      · subst e; exact ⟨hHT,h0T⟩
theorem ym2 {M:Model} {A:Around} {E:Value → Shared → Prop} {s:Shared} {base h₀:Heap} {env:Env} {outer:List Env} {L x:Addr} {C:Value} {H:Hp} {Q:Unit → Shared → Prop}
    (hfr:A.frames = some (env :: outer)) (hl:s.heap.FunFrames base (env :: outer)) (hf:env.frame = some L) (hx:ExcAt h₀ s.heap H x C)
    (h0:∀ b o,h₀.get? b = some o → ∃ u,s.heap.get? b = some u) (hH:∀ b o,H b = some o → ∃ u,s.heap.get? b = some u)
    (h:∀ h',(∀ b o,s.heap.get? b = some o → (h₀.get? b ≠ none ∨ H b ≠ none) → b ∉ frs (env :: outer) → h'.get? b = some o) →
      (∀ b o,s.heap.get? b = some o → b ∈ frs (env :: outer) → ∃ sl,h'.get? b = some { o with slots:=sl }) →
      ExcAt h₀ h' H x C → Q () { s with heap:=h' }) :
    wpAny M A (leaving env (.ref x)) Q E s:=wpAny_bind (yy7 hfr hl hf hx h0 hH h)
noncomputable def CXE (P:Program) (w:World):CXT:=fun outer H s E e s' =>
  ∃ (x:Addr) (C:Value) (H':Hp),e = .ref x ∧ s'.os = s.os ∧ AllBare s'.gens ∧ Un (frs outer) [] H H' s.heap s'.heap ∧ HOk P w H' s'.heap ∧ ExcAt s.heap s'.heap H' x C ∧ E C none H'
theorem zb7 {P:Program} {w:World} {X:Cx}:zu0 (CXE P w) X E0:=fun _ _ _ _ _ _ _ ⟨_,_,_,_,_,_,_,_,_,h⟩=>h.elim
section
variable {P:Program} {w:World} {K:PySem.W.Frag} {mg:Str → Option Value} {base:Heap}
theorem xy6 {X:Cx} {pins:List (Addr × Obj)} {σ:L2.St} {H':Hp} {s':Shared} {h' h₁:Heap} (I':Inv X pins σ H' s')
    (k:∀ b o,s'.heap.get? b = some o → (h₁.get? b ≠ none ∨ H' b ≠ none) → b ∉ frs X.stack → h'.get? b = some o):HOk X.prog X.w H' h':=fun a o e =>
  (I'.hok a o e).stay (fun b u hb q=>by
    have t:H' b ≠ none:=by
      rcases hb with z | z
      · rw [z,e]; simp
      · rw [z]; simp
    exact k b u q (.inr t) fun hm=>t (I'.stkFree b hm)) (fun _ q=>q) fun _ _ q=>q
theorem ze2 {N:List Str} {qual:Str} {scope:Scope} {f:Addr} {cdv:Value} {A:Around} {outer:List Env} {s₀:Shared} {H₀:Hp} {E:XK} :
    zu0 (CXE P w) (cxOf (CXE P w) P w K mg base N qual scope f cdv A outer s₀ H₀ E) E:=by
  intro pins σ H s e s' I hc
  obtain ⟨x,C,H',rfl,ho,hg,u,hok,hx,hE⟩:=hc
  have I':Inv (cxOf (CXE P w) P w K mg base N qual scope f cdv A outer s₀ H₀ E) pins σ H' s':=I.call' ho u hok hg (fun b z=>absurd z (by simp))
  have there:∀ b o,s₀.heap.get? b = some o → ∃ o',s.heap.get? b = some o':=fun b o e=>I.base.there b o e (by intro z; exact absurd (show b ∈ ([]:List Addr) from z) (by simp))
  show wpAny (model P w) _ (leaving _ (.ref x)) _ _ s'
  refine ym2 (h₀:=s.heap) (H:=H') (C:=C) (base:=base) I'.ok.frames I'.stack rfl hx (fun b o e=>u.there b o e (by simp)) (fun b o e=>yy4 (hok b o e)) fun h' kp sl hx'=>?_
  have noex:∀ b:Addr,b ∉ (cxOf (CXE P w) P w K mg base N qual scope f cdv A outer s₀ H₀ E).ex:=fun b z=>absurd (show b ∈ ([]:List Addr) from z) (by simp)
  have neL:∀ b o,s₀.heap.get? b = some o → b ∉ frs outer → b ∉ frs (envOfC qual scope s₀.heap.objs.size f cdv :: outer):=fun b o e hb hm=>by
    rcases List.mem_cons.mp (I'.stkSub b hm) with z | z
    · exact absurd (z ▸ Heap.lt_size e) (Nat.not_lt.mpr I'.ok.above)
    · exact hb z
  refine ⟨x,C,H',rfl,I'.os,I'.bare,⟨fun b o e n hb _=>?_,fun b o e n hb _=>?_,fun b o e n _=>I'.base.free b o e n (noex b),fun b o e _=>?_,I'.base.tups,I'.base.frzs,I'.base.tbls⟩,xy6 I' kp,hx'.older (fun b q=>?_),hE⟩
  · obtain ⟨o',e'⟩:=there b o e
    exact kp b o (I'.base.keep b o e n hb (noex b)) (.inl (by rw [e']; simp)) (neL b o e hb)
  · obtain ⟨sl1,e1⟩:=I'.base.slot b o e n hb (noex b)
    obtain ⟨sl2,e2⟩:=sl b _ e1 (by
      obtain ⟨env,h1,h2⟩:=List.mem_filterMap.mp hb
      exact yz1 (List.mem_cons_of_mem _ h1) h2)
    exact ⟨sl2,e2⟩
  · obtain ⟨o1,e1⟩:=I'.base.there b o e (noex b)
    by_cases hm:b ∈ frs (envOfC qual scope s₀.heap.objs.size f cdv :: outer)
    · obtain ⟨sl2,e2⟩:=sl b _ e1 hm
      exact ⟨_,e2⟩
    · obtain ⟨o',e'⟩:=there b o e
      exact ⟨_,kp b o1 e1 (.inl (by rw [e']; simp)) hm⟩
  · cases q2:s₀.heap.get? b with
    | none=>rfl
    | some o =>
      obtain ⟨o',e'⟩:=there b o q2
      rw [q] at e'; cases e'
theorem okE {x qual:Str} {st:Stmt} {f:Addr} {fd:FuncData} {N ps:List Str} {k:Nat} {sp:Sp} (F:Fun K x qual st f fd) (S:FnScope N ps (zb4 st)) (len:∀ vs H Q E,sp vs H Q E → vs.length = ps.length)
    (hbody:∀ (cdv:Value) (A:Around) (outer:List Env) (s:Shared) (H:Hp) (vs:List V) (Q:VK) (E:XK),Room k (A.deeper (envOfC qual (zb4 st) s.heap.objs.size f cdv)) → sp vs H Q E →
      ∃ t,PSs (cxOf (CXE P w) P w K mg base N qual (zb4 st) f cdv A outer s H E) (zm9 st) t ∧ t { nx:=fun _ H'=>Q .non H',rt:=Q } (start N vs) H):FnOk P w K mg base (CXE P w) (k + 1) f fd ps sp:=by
  obtain ⟨oc,od,kV,doc,pm,an,cdv,ct,osl,rfl,lk,hcd⟩:=F.ex
  exact wo3 lk hcd S len fun A outer s H vs Q E hr hsp=>hbody cdv A outer s H vs Q E hr hsp
end
end Lx
namespace Lx
open PySem PySem.Spec PyProof.Rows L2
noncomputable abbrev vMro:List Value:=[.type "ValueError",.type "Exception",.type "BaseException",.type "object"]
theorem xw9 {K:PySem.W.Frag} {h:Heap} {C:Addr} {bmB:List Value} {newId:String} (KI:K.In h) (q:PySem.W.excIn K C bmB newId = true) :
    ∃ bm N nm qn bs hdct sn sub ab col dd k0 k1 k2 k3 k5 mN,h.get? C = some (excClassObj nm qn C N bs bm hdct sn sub ab col dd k0 k1 k2 k3 k5 newId) ∧ h.Ns N mN ∧ mN "__init__" = none ∧ OwnTail h bmB bm:=by
  unfold PySem.W.excIn at q
  split at q
  · rename_i dct cdat slts hlook
    split at q
    · rename_i Cx bmx s0 s1 s2 s3 nw s5 hmr hsl
      simp only [Bool.and_eq_true,beq_iff_eq,Bool.not_eq_true'] at q
      obtain ⟨⟨⟨⟨⟨q1,q2⟩,q3⟩,q4⟩,q5⟩,q6⟩:=q
      subst q1; subst q2
      obtain ⟨f1,f2,f3,f4,f5,f6,f7,f8,f9,f10,f11⟩:=cdat
      dsimp only at hmr q3 q5 q6
      subst hmr; subst q3
      obtain ⟨sl⟩:=slts
      dsimp only at hsl
      subst hsl
      exact ⟨bmx,f4,f1,f5,f2,f6,f7,f8,f9,f10,dct,s0,s1,s2,s3,s5,_,KI _ _ hlook,.of_isNs (PySem.W.isNs_of_in KI q5),PySem.W.nsMap_none_of_in KI q5 q6,PySem.W.tail_of_in KI q4⟩
    · cases q
  · cases q
structure ExcCl (K:PySem.W.Frag) (mg:Str → Option Value) (x:Str) (C:Addr):Prop where
  ex:PySem.W.excIn K C vMro "ValueError.__new__" = true
  mgx:mg x = some (.ref C)
noncomputable def xl4 (E:XK) (C:Addr) (t:TA):TS:=fun _ σ H=>t σ H fun vs H1=>vs.length ≤ sizeLine ∧ E (.ref C) none H1
section
variable {X:Cx} {P:Program} {w:World} {E:XK} {x:Str} {C:Addr} {np cpos pos:Pos} {e:Expr} {es:List Expr} {t:TA}
theorem zf8 (O:ExcCl X.K X.mg x C) (hh:X.A.handled = none) (hx:zu0 (CXE X.prog X.w) X E) (hg:Gl X x) (ha:PA X (e :: es) t) (hd:(x == ("__debug__":Str)) = false:=by decide)
    (he:starEach (e :: es) X.env = (false,eval e X.env) :: starEach es X.env:=by rfl) (hpl:(backTo cpos (starEach es X.env)).any (·.1) = false:=by rfl) :
    PS X (.Raise (some (.Call (.Name x np) (e :: es) [] cpos)) none pos) (xl4 E C t):=by
  intro pins s σ H D I h
  obtain ⟨bm,N,nm,qn,bs,hdct,sn,sub,ab,col,dd,k0,k1,k2,k3,k5,mN,hC,hN,hni,T⟩:=xw9 I.ok.mod.kin O.ex
  refine wpAny_Raise_call_subU (C:=C) (nm:=nm) (q:=qn) (N:=N) (bs:=bs) (bm:=bm) (hdct:=hdct) (sn:=sn) (sub:=sub) (ab:=ab) (col:=col) (dd:=dd) (k0:=k0) (k1:=k1) (k2:=k2) (k3:=k3) (k5:=k5)
    PySem.F.excBase_ValueError (by decide +kernel) PySem.F.excBase_ValueError (mN:=mN) (T.hasType PySem.F.excBase_ValueError.hasBase) hh (by rw [he]; show (false || (backTo cpos (starEach es X.env)).any (·.1)) = false; rw [hpl]; rfl) hni (yd9 I hg O.mgx ⟨rfl,?_⟩ hd)
  have ha1:=thn (ha cpos pins s σ H _ I h) (Q':=fun vs s₂=>vs.length ≤ sizeLine ∧ (∀ b o,X.base.get? b = some o → s₂.heap.get? b = some o) ∧ ∀ h' e,Heap.MadeExcOf s₂.heap h' e (.ref C) vs → X.xe (.ref e) { s₂ with heap:=h' }) (fun us s2 ⟨vs,H1,I1,r,z,q⟩=>⟨by rw [← r.length]; exact z,I1.bk,fun h' e M=>?_⟩)
  · rw [he] at ha1 ⊢
    exact Calls.evalArgs_plain (wpAny_mono ha1 (fun vs s₂ h₂=>⟨rfl,h₂.1,h₂.2.1 _ _ hC,hN.keeps h₂.2.1,T.keeps h₂.2.1,h₂.2.2⟩) fun _ _ y=>y)
  · refine hx pins σ H1 s2 (.ref e) _ I1 ⟨e,.ref C,H1,rfl,rfl,I1.bare,Un.kept M.keeps,I1.hok.kept M.keeps,?_,q⟩
    obtain ⟨tt,t1,t2,t3⟩:=M.there
    refine ⟨_,_,t1,rfl,rfl,?_,M.new,.inl rfl⟩
    cases z:H1 e with
    | none=>rfl
    | some o =>
      obtain ⟨u,hu⟩:=yy4 (I1.hok e o z)
      rw [M.new] at hu; cases hu
end
noncomputable abbrev XS:=L2.St → XK
noncomputable abbrev TSX:=Ends → XS → L2.St → Hp → Prop
noncomputable def Up (X:Cx) (pins:List (Addr × Obj)) (E:XS) (e:Value) (s':Shared):Prop :=
  ∃ (x:Addr) (C:Value) (σ':L2.St) (H':Hp) (h₁:Heap),e = .ref x ∧ Inv X pins σ' H' s' ∧ ExcAt h₁ s'.heap H' x C ∧ (∀ b o,h₁.get? b = some o → ∃ u,s'.heap.get? b = some u) ∧
    (∀ b o,X.s₀.heap.get? b = some o → b ∉ X.ex → ∃ u,h₁.get? b = some u) ∧ (∃ u,h₁.get? X.env.locals = some u) ∧ (∀ p ∈ X.pn ++ pins,∃ u,h₁.get? p.1 = some u) ∧ (∀ x c,X.env.cells.lookup x = some c → ∃ u,h₁.get? c = some u) ∧ E σ' C none H'
section
variable {X:Cx} {st:Stmt} {rest:List Stmt} {t u:TSX} {pos:Pos}
variable {k:Nat} {f:Addr} {fd:FuncData} {ps:List Str} {sp:Sp} {x:Str} {p:Pos} {e:Expr} {es:List Expr} {ta:TA}
end
end Lx
namespace Lx
open PySem PySem.Spec PyProof.Rows L2
section
variable {X:Cx} {pins:List (Addr × Obj)} {σ:L2.St} {H:Hp} {s:Shared} {x:Addr}
structure Old (X:Cx) (pins:List (Addr × Obj)) (h₁:Heap):Prop where
  s0:∀ b o,X.s₀.heap.get? b = some o → b ∉ X.ex → ∃ u,h₁.get? b = some u
  lo:∃ u,h₁.get? X.env.locals = some u
  pn:∀ p ∈ X.pn ++ pins,∃ u,h₁.get? p.1 = some u
  ce:∀ x c,X.env.cells.lookup x = some c → ∃ u,h₁.get? c = some u
end
section
variable {X:Cx}
end
end Lx
namespace Lx
open PySem PySem.Spec PyProof.Rows L2
theorem xd9 {i:Int} {n:Nat} (h:i.natAbs < 2 ^ n):Builtin.Int.intBits i ≤ n:=by
  unfold Builtin.Int.intBits
  split
  · exact Nat.zero_le _
  · rcases Nat.eq_zero_or_pos i.natAbs with h0 | hp
    · rename_i hne
      exact absurd (Int.natAbs_eq_zero.mp h0) (by simpa using hne)
    · have:=(Nat.log2_lt (Nat.ne_of_gt hp)).mpr h
      omega
noncomputable def Wee (i:Int):Prop:=i.natAbs < 2 ^ 8000
theorem Wee.bits {i:Int} (h:Wee i):Builtin.Int.intBits i ≤ 8000:=xd9 h
theorem zh9 {i j:Int} (hi:Wee i) (hj:Wee j):IntMulOk i j:=IntMulOk.of_le hi.bits hj.bits (by decide)
theorem yq5 {i j:Int} (hi:Builtin.Int.intBits i ≤ 10000000) (hj:Wee j):IntMulOk i j:=IntMulOk.of_le hi hj.bits (by decide)
theorem yu0 {i:Int} (h:Wee i):i.natAbs.log2 < 9000:=by
  rcases Nat.eq_zero_or_pos i.natAbs with h0 | hp
  · rw [h0]; decide
  · have:=(Nat.log2_lt (Nat.ne_of_gt hp)).mpr h
    omega
noncomputable def wx0 (i j:Int):Prop:=IntMulOk i j
noncomputable def xk6 (i j:Int):Prop:=0 < j ∧ Wee j
noncomputable def wx1 (i j:Int):Prop:=j ≠ 0 ∧ Wee j
section
variable {X:Cx}
theorem ze4:OpR X (binaryOp .Mult) (rI wx0 fun i j=>.int (i * j)):=opI fun _ _ _ _ _ _ _ hc q=>mul_int q hc
theorem yq3:OpR X (binaryOp .FloorDiv) (rI wx1 fun i j=>.int (i.fdiv j)):=opI fun _ _ _ _ _ _ _ hc q=>floordiv_int hc.1 q (.inl (PyProof.noPylong_of_log2 (yu0 hc.2)))
theorem zg2:OpR X (binaryOp .FloorDiv) (rI xk6 fun i j=>.int (i / j)):=opI fun i j _ _ _ _ _ hc q=>by
  have h0:(0:Int) < j:=hc.1
  refine floordiv_int (Int.ne_of_gt h0) ?_ (.inl (PyProof.noPylong_of_log2 (yu0 hc.2)))
  rw [Int.fdiv_eq_ediv_of_nonneg _ (Int.le_of_lt h0)]
  exact q
end
theorem bits_of_lay {ns:List Int} (h:PySem.W.WData.layableAll [PySem.W.WData.list (ns.map PySem.W.WData.int)] = true):∀ v ∈ ns,Builtin.Int.intBits v ≤ 1048576:=fun v hv=>by
  have h1:=PySem.W.layableW_arg h _ (List.mem_singleton.mpr rfl)
  have h2:=PySem.W.layableW_item h1 (PySem.W.WData.int v) (List.mem_map.mpr ⟨v,hv,rfl⟩)
  obtain ⟨_,_,h3⟩:=PySem.W.layableW_iff.mp h2
  have e:(2:Nat) ^ 20 = 1048576:=by decide
  rw [e] at h3
  simpa only [PySem.W.WData.weight,Builtin.Int.intBits] using h3
end Lx
namespace Att
open PySem PySem.W PySem.Calls PyProof.Rows
theorem attachB {l:OpenLaw} {n:Nat} {q:Program} {loose:List Str} {XP:(Str → Option Value) → Heap → Prop} {YP:World → Heap → Prop} {d:DefRec}
    (hn:l.most = some n) (hdf:d.params.defaults = [])
    (call:∀ (w:World) (s₀ s₁:Shared) (mg mb:Str → Option Value) (fa:Addr) (o:Obj) (pm cd doc:Value) (a:Addr) (vs:List Value) (ns:List Int),
      Ground q loose [] XP w s₀ mg mb s₁.heap → YP w s₁.heap →
      s₁.heap.get? fa = some o → o.data = .func (docDef d.name d.params d.body d.scope pm cd doc) → s₁.heap.CodeRec cd d.name → mg d.name = some (.ref fa) →
      s₁.heap.get? a = some { cls:=.type "list",data:=.seq vs.toArray } → IntsAre vs ns → ns.length ≤ n → (∀ v ∈ ns,Builtin.Int.intBits v ≤ 1048576) → s₁.gens = #[] →
      codeAny (model l.prog w) callerA (.call (.ref fa) ⟨[.ref a],[]⟩) (fun r s'=>r = .ok (.ret (.bool true)) ∧ OldK s₁.heap s'.heap ∧ s'.os = s₁.os ∧ AllBare s'.gens) s₁) :
    WalkO q loose XP YP l.row.toRowW d [] (fun f vs=>PySem.call f vs):=by
  intro w s₀ s₁ mg mb G Y fa o pm cd doc dV kV ho hd hcd hD hmg hg args vals as hpre hlay hrd hwl hlo
  obtain rfl:dV = .none:=Dflts.none hD hdf
  obtain rfl:kV = .none:=Dflts.noKw hD
  obtain ⟨a,vs,ns,rfl,rfl,hobj,hints,hlen⟩:=yg6 hn hpre hwl
  refine enter_call (codeAny_mono (call w s₀ s₁ mg mb fa o pm cd doc a vs ns G Y ho (fd_plain hd) hcd hmg hobj hints hlen (Lx.bits_of_lay hlay) hg) fun r s' hq=>?_)
  obtain ⟨rfl,h2,h3,h4⟩:=hq
  exact ⟨.inl ⟨.bool true,.bool true,[],rfl,fun _=>rfl,.bool true,yg9 l _,fun _=>⟨List.Pairwise.nil,fun _ hm=>(nomatch hm)⟩⟩,h2,h3,h4⟩
end Att
namespace Lx
open PySem PySem.Spec PyProof.Rows L2
noncomputable def xg4 (K:PySem.W.Frag):Sp:=fun vs H Q _=>∃ (a:Addr) (ns:List Int),vs = [.ref a] ∧ SqL K H a (ns.map V.int) ∧ ns.length ≤ 63 ∧ (∀ v ∈ ns,Builtin.Int.intBits v ≤ 1048576) ∧ Only H ∧ ∀ H',Q (.bl true) H'
theorem walkB {l:PySem.W.OpenLaw} {k:Nat} {q:Program} {loose:List Str} {XP:(Str → Option Value) → Heap → Prop} {YP:World → Heap → Prop} {d:DefRec} {K:Params → PySem.W.Frag}
    (hn:l.most = some 63) (hdf:d.params.defaults = []) (hr:Room k callerA)
    (hY:∀ (w:World) (h:Heap),YP w h → (K w.params).In h)
    (F:∀ (w:World) (mg:Str → Option Value) (fa:Addr) (h:Heap),(K w.params).In h → h.Ns mainGlobals mg → mg d.name = some (.ref fa) →
      ∃ fd:FuncData,(∀ (s:Shared) (u:Value),BindsTo s fd ⟨[u],[]⟩ [("script",u)]) ∧
        ∀ base:Heap,(K w.params).In base → base.Ns mainGlobals mg → FnOk l.prog w (K w.params) mg base (CXE l.prog w) k fa fd ["script"] (xg4 (K w.params))) :
    PySem.W.WalkO q loose XP YP l.row.toRowW d [] (fun f vs=>PySem.call f vs):=by
  refine Att.attachB hn hdf fun w s₀ s₁ mg mb fa o pm cd doc a vs ns G Y ho hd hcd hmg hobj hints hlen hbits hg=>?_
  have KX:=hY w _ Y
  obtain ⟨fd,hb,hF⟩:=F w mg fa _ KX G.T.g hmg
  exact yq9 KX G.T.g G.T.b G.T.builtins G.T.nolimit hg hobj hints (Nat.le_trans hlen (by decide)) hr hF hb (fun H hO hS=>⟨a,ns,rfl,hS,hlen,hbits,hO,fun _=>rfl⟩) fun H e s' ⟨_,_,_,_,_,_,_,_,_,h⟩=>h
end Lx
namespace Lx
open PySem PySem.Spec PyProof.Rows L2
noncomputable def Its (lo st:Int) (n:Nat):It:=⟨fun i _=>i < n,fun i H x H'=>H' = H ∧ x = .int (lo + i * st),fun i _=>n ≤ i⟩
theorem yk9 {P:Program} {w:World} {K:PySem.W.Frag} {tg:Expr} (it:Addr) (lo st:Int) (n:Nat):Turn P w K tg (Its lo st n) [it] it (fun i h=>IsRangeIter h it (lo + (i:Nat) * st) ((n:Int) - (i:Nat)) st) where
  mem:=by simp
  obj:=fun i h z b hb=>by
    have e:b = it:=by simpa using hb
    subst e
    exact ⟨_,z,fun v y=>by
      have y':Data.fields _ = Data.cell v:=y
      cases y'⟩
  keep:=fun i h h' z k=>k it (by simp) _ z
  item:=by
    intro X hP hw hK hc i pins s σ H E I hf z hg
    subst hP hw hK
    obtain ⟨f0,f1,f2,f3,f4,f5⟩:=hf it (by simp)
    have W:=Walks.range (prog:=X.prog) (w:=X.w) (I.ok.hd hc) it lo st n
    refine W.item i s _ _ hg z fun v h' tk hv z' kk=>?_
    obtain ⟨t,rfl⟩:=hv
    have I1:Inv X pins σ H { s with heap:=h',toks:=tk }:=I.turned (fun b o hb e=>kk b o (by simpa using hb) e) f0 f1 f3 f4 f5
    exact ⟨_,rfl,xb2 (s:={ s with heap:=h',toks:=tk }) (n:="range_iterator") z' rfl rfl (by decide) ⟨.int (lo + i * st),H,I1,⟨t,rfl⟩,⟨rfl,rfl⟩,z',fun b hb=>(hf b hb).1⟩⟩
  done:=by
    intro X hP hw hK hc i pins s σ H E I hf z hg
    subst hP hw hK
    obtain ⟨f0,f1,f2,f3,f4,f5⟩:=hf it (by simp)
    exact wpAny_pyNext_range_end (I.ok.hd hc) z (by have:n ≤ i:=hg; omega) fun h' eb=>⟨rfl,I.turned (t':=s.toks) (fun b o hb e=>eb b o hb e) f0 f1 f3 f4 f5⟩
  self:=fun _ _ _ _ _ z h=>wpAny_pyIter_rangeiter z h
section
variable {X:Cx} {tg:Expr}
theorem yx2 {pins:List (Addr × Obj)} {σ:L2.St} {H:Hp} {s:Shared} {R:It → Hp → Prop} {E:Value → Shared → Prop} {lo hi st:Int} {n:Nat} {t u v:Tok} {tk:Nat} (I:Inv X pins σ H s) (hsm:Builtin.Range.small lo hi st = true) (hn:Builtin.Range.rangeSize lo hi st = (n:Int))
    (q:R (Its lo st n) H):wpAny (model X.prog X.w) X.A (pyIter (.ref s.heap.objs.size)) (PIE X pins σ tg R) E { s with heap:=s.heap.push { cls:=.type "range",data:=.fields #[.int lo t,.int hi u,.int st v] },toks:=tk }:=by
  refine wpAny_pyIter_range (IsRange.new ..) hsm ?_
  have I1:Inv X pins σ H { s with heap:=s.heap.push { cls:=.type "range",data:=.fields #[.int lo t,.int hi u,.int st v] },toks:=tk }:=I.kept fun b o e=>Heap.get?_push_of_some _ e
  refine ⟨(s.heap.push { cls:=.type "range",data:=.fields #[.int lo t,.int hi u,.int st v] }).objs.size,[(s.heap.push { cls:=.type "range",data:=.fields #[.int lo t,.int hi u,.int st v] }).objs.size],_,_,H,rfl,
    I1.kept (t':=tk) fun b o e=>Heap.get?_push_of_some _ e,yk9 _ lo st n,?_,fun b hb=>?_,q⟩
  · have e1:lo + ((0:Nat):Int) * st = lo:=by simp
    have e2:(n:Int) - ((0:Nat):Int) = Builtin.Range.rangeSize lo hi st:=by rw [hn]; simp
    show IsRangeIter _ _ (lo + ((0:Nat):Int) * st) ((n:Int) - ((0:Nat):Int)) st
    rw [e1,e2]
    exact Heap.get?_push_size _ rfl
  · have e:b = (s.heap.push { cls:=.type "range",data:=.fields #[.int lo t,.int hi u,.int st v] }).objs.size:=by simpa using hb
    subst e
    exact I1.fpOk (Nat.le_refl _) (I1.hok.fresh (Nat.le_refl _))
noncomputable def wn6 (ta:TA):TI:=fun σ H R=>ta σ H fun vs H1=>∃ (i j k:Int),vs = [.int i,.int j,.int k] ∧ ∃ n:Nat,k ≠ 0 ∧ k.natAbs < 1000000 ∧ Builtin.Range.small i j k = true ∧ Builtin.Range.rangeSize i j k = (n:Int) ∧ R (Its i k n) H1
theorem yx5 {a b c:Expr} {ta:TA} {p pos:Pos} (hg:Gl X "range") (hm:X.mg "range" = none) (ha:PA X [a,b,c] ta) (hs:starEach [a,b,c] X.env = [(false,eval a X.env),(false,eval b X.env),(false,eval c X.env)]:=by rfl) (hs2:starEach [b,c] X.env = [(false,eval b X.env),(false,eval c X.env)]:=by rfl) :
    PI X tg (.Call (.Name "range" p) [a,b,c] [] pos) (wn6 ta):=by
  intro pins s σ H R I h
  refine Call_ (zt6 I hg hm boot_range (PyProof.Rows.callWith_type1 (thn (ha pos pins s σ H _ I h) fun us s1 ⟨vs,H1,I1,r1,q1⟩=>?_) (by rw [hs,hs2]) (by rw [hs2]; rfl)))
  obtain ⟨i,j,k,e,n,q1,q2,q3,q4,q⟩:=q1
  subst e
  cases r1 with
  | cons r rr =>
    cases rr with
    | cons r' rr =>
      cases rr with
      | cons r'' rr =>
        cases rr
        obtain ⟨t,rfl⟩:=r
        obtain ⟨t',rfl⟩:=r'
        obtain ⟨t'',rfl⟩:=r''
        exact call_range_3 q1 (yx2 I1 q3 q4 q) (Or.inl (PyProof.noPylong_small (by omega)))
end
theorem yx0 {i j k:Int} (hi:-(2 ^ 40) < i ∧ i < 2 ^ 40) (hj:-(2 ^ 40) < j ∧ j < 2 ^ 40) (hk:0 < k ∧ k < 1000000):Builtin.Range.small i j k = true:=by
  unfold Builtin.Range.small Builtin.Range.rangeSize
  have h1:∀ z:Int,0 ≤ z → z / k ≤ z:=fun z hz=>Int.ediv_le_self _ hz
  have h2:∀ z:Int,0 ≤ z → 0 ≤ z / k:=fun z hz=>Int.ediv_nonneg hz (by omega)
  have hk0:k > 0:=hk.1
  simp only [Builtin.Range.rangeFitsLong,Bool.and_eq_true,Bool.or_eq_true,decide_eq_true_eq,beq_iff_eq,hk0,if_true]
  split
  · have a1:=h1 (j - i - 1) (by omega)
    have a2:=h2 (j - i - 1) (by omega)
    generalize (j - i - 1) / k = z at a1 a2 ⊢
    omega
  · omega
end Lx
namespace Lx
open PySem PySem.Spec PyProof.Rows L2
section
variable {prog:Program} {w:World} {A:Around} {R:Result → Shared → Prop} {s:Shared}
theorem xy7 {elt target iter:Expr} {ifs:List Expr} {scope:Scope} {pos:Pos} {it acc:Value} {cenv:Env} (J:Nat → Shared → Prop)
    (turn:∀ n s,J n s → ∀ E':Value → Shared → Prop,wpAny (model prog w) A (pyNext it) (fun r sa=>match r with
      | none=>R (.ok .next) sa
      | some v=>wpAny (model prog w) A (letOwnedTupleGo target it v) (fun _ sb=>wpAny (model prog w) A (assign target cenv v) (fun _ sc =>
          wpAny (model prog w) A (forIn ifs true fun c r=>if r = true then do let ok ← isTrue c cenv (eval c cenv); pure (ForInStep.yield ok) else pure (ForInStep.yield r)) (fun ok sd =>
            if ok = true then wpAny (model prog w) A (eval elt cenv) (fun x se =>
              wpAny (model prog w) A (call (.builtin "list.append") [acc,x]) (fun _ sf=>∃ m,m < n ∧ J m sf) E' se) E' sd
            else ∃ m,m < n ∧ J m sd) E' sc) E' sb) E' sa) E' s)
    (n:Nat) (h:J n s):codeAny (model prog w) A (.compLoop (.ListComp elt [⟨target,iter,ifs,0⟩] scope pos) 0 it acc cenv) R s:=by
  refine codeAny_loop rfl J (fun k sk hJ=>?_) n h
  show wpAny _ A ((compTurn (.ListComp elt [⟨target,iter,ifs,0⟩] scope pos) 0 it acc cenv).onRaise (fun y=>do noteFrame y cenv; theTreesLotGoes y)) _ _ sk
  refine wpAny_noted ?_
  rw [compTurn_list]
  refine wpAny_bind (wpAny_standAt (wpAny_bind (wpAny_mono (turn k sk hJ _) (fun r sa ha=>?_) fun _ _ z=>z)))
  cases r with
  | none=>exact wpAny_pure ha
  | some v =>
    refine wpAny_bind (wpAny_mono ha (fun _ sb hb=>wpAny_bind (wpAny_mono hb (fun _ sc hc=>wpAny_bind (wpAny_mono hc (fun ok sd hd=>?_) fun _ _ z=>z)) fun _ _ z=>z)) fun _ _ z=>z)
    cases ok with
    | false=>exact wpAny_pure ⟨rfl,hd⟩
    | true=>exact wpAny_bind (wpAny_bind (wpAny_mono hd (fun x se he=>wpAny_bind (wpAny_mono he (fun _ sf hf=>wpAny_pure (wpAny_pure ⟨rfl,hf⟩)) fun _ _ z=>z)) fun _ _ z=>z))
end
noncomputable def lcCx (X:Cx) (scope:Scope) (cl:List (Str × Addr)) (NC:List Str) (C:Addr) (s₀:Shared) (H₀:Hp) (fp:List Addr):Cx where
  prog:=X.prog
  w:=X.w
  K:=X.K
  mg:=X.mg
  base:=X.base
  A:=X.A
  N:=NC
  s₀:=s₀
  H₀:=H₀
  env:=compEnvC scope cl C X.env
  outer:=X.stack
  stack:=X.stack
  ex:=fp
  fn:=fun _=>false
  calm:=X.calm
  pn:=[]
  xe:=fun _ _=>False
noncomputable def CapsOk (X:Cx) (scope:Scope) (cl:List (Str × Addr)):List (Option Nat) → List Str → Prop
  | [],[]=>True
  | none :: cs,_ :: ns=>CapsOk X scope cl cs ns
  | some i :: cs,y :: ns=>(∃ c,X.N[i]? = some y ∧ X.env.scope.names.lookup y = some .cell ∧ cl.lookup y = some c ∧ X.env.cells.lookup y = some c ∧ (relabel scope X.env).names.lookup y = some .cell) ∧ CapsOk X scope cl cs ns
  | _,_=>False
theorem CapsOk.at {X:Cx} {scope:Scope} {cl:List (Str × Addr)}:∀ {cs:List (Option Nat)} {ns:List Str} {j i:Nat} {y:Str},CapsOk X scope cl cs ns → cs[j]? = some (some i) → ns[j]? = some y →
    ∃ c,X.N[i]? = some y ∧ X.env.scope.names.lookup y = some .cell ∧ cl.lookup y = some c ∧ X.env.cells.lookup y = some c ∧ (relabel scope X.env).names.lookup y = some .cell
  | [],_,j,i,y,_,e,_=>by simp at e
  | none :: cs,[],_,_,_,h,_,_=>False.elim h
  | some _ :: cs,[],_,_,_,h,_,_=>False.elim h
  | none :: cs,_ :: ns,0,i,y,h,e,_=>by simp at e
  | none :: cs,_ :: ns,j + 1,i,y,h,e,e'=>CapsOk.at (cs:=cs) (ns:=ns) (j:=j) h (by simpa using e) (by simpa using e')
  | some k :: cs,z :: ns,0,i,y,h,e,e'=>by
    have e1:k = i:=by simpa using e
    have e2:z = y:=by simpa using e'
    subst e1; subst e2
    exact h.1
  | some k :: cs,z :: ns,j + 1,i,y,h,e,e'=>CapsOk.at (cs:=cs) (ns:=ns) (j:=j) h.2 (by simpa using e) (by simpa using e')
theorem CapsOk.len {X:Cx} {scope:Scope} {cl:List (Str × Addr)}:∀ {cs:List (Option Nat)} {ns:List Str},CapsOk X scope cl cs ns → cs.length = ns.length
  | [],[],_=>rfl
  | [],_ :: _,h=>False.elim h
  | none :: cs,[],h=>False.elim h
  | some _ :: cs,[],h=>False.elim h
  | none :: cs,_ :: ns,h=>congrArg (· + 1) (CapsOk.len (cs:=cs) (ns:=ns) h)
  | some _ :: cs,_ :: ns,h=>congrArg (· + 1) (CapsOk.len (cs:=cs) (ns:=ns) h.2)
noncomputable def capσ (cap:List (Option Nat)) (σ:L2.St):L2.St:=cap.map fun o=>o.bind fun i=>(σ[i]?).bind id
noncomputable def PTs (X:Cx) (ifs:List Expr) (t:TT):Prop :=
  ∀ (pins:List (Addr × Obj)) (s:Shared) (σ:L2.St) (H:Hp) (Q:Bool → Hp → Prop),Inv X pins σ H s → t σ H Q →
    wpAny (model X.prog X.w) X.A (forIn ifs true fun c r=>if r = true then do let ok ← isTrue c X.env (eval c X.env); pure (ForInStep.yield ok) else pure (ForInStep.yield r)) (TP X pins σ Q) X.xe s
noncomputable def tYes:TT:=fun _ H Q=>Q true H
theorem zf7 {X:Cx}:PTs X [] tYes:=fun _ _ _ H _ I h=>wpAny_tests_nil ⟨H,I,h⟩
theorem yx3 {X:Cx} {c:Expr} {t:TT} (h:PT X c t):PTs X [c] t:=fun pins s σ H Q I q=>wpAny_tests_one (h pins s σ H Q I q)
noncomputable def tLC (wi:TI) (cap:List (Option Nat)) (g:TG) (tt:TT) (te:TE):TE:=fun σ H Q=>wi σ H fun J H1=>∀ D,H1 D = none →
  ∃ W:Nat → Nat → L2.St → Hp → Prop,(∃ m,W 0 m (capσ cap σ) (upd H1 D (.lst []))) ∧ ∀ i m σc Hc,W i m σc Hc →
    (J.stop i Hc ∧ Q (.ref D) Hc) ∨ (J.go i Hc ∧ ∃ N:L2.St → Hp → Prop,(∀ σ' H',N σ' H' → ∃ m',m' < m ∧ W (i + 1) m' σ' H') ∧ ∀ x H',J.yld i Hc x H' → g x σc H' fun σ2 H2=>tt σ2 H2 fun b H3 =>
      if b = true then te σ2 H3 fun y H4=>∃ ys,H4 D = some (.lst ys) ∧ ys.length < sizeLine ∧ N σ2 (upd H4 D (.lst (ys ++ [y]))) else N σ2 H3)
structure LcOk (X:Cx) (scope:Scope) (cl:List (Str × Addr)) (cap:List (Option Nat)) (NC:List Str):Prop where
  clos:closureFor scope X.env = pure cl
  kind:scope.kind = .function
  nocell:∀ x ∈ scope.names,x.2 ≠ .cell
  names:∀ x ∈ scope.names,x.2 = .local → scope.names.lookup x.1 = some .local
  caps:CapsOk X scope cl cap NC
  cells:∀ p ∈ cl,X.env.cells.lookup p.1 = some p.2
  has:((relabel scope X.env).names.all fun p=>(p.2 != .cell && p.2 != .free) || (cl.lookup p.1).isSome) = true
section
variable {X:Cx} {elt target iter:Expr} {ifs:List Expr} {scope:Scope} {pos:Pos} {wi:TI} {cap:List (Option Nat)} {NC:List Str} {cl:List (Str × Addr)} {g:TG} {tt:TT} {te:TE}
theorem zq5 (L:LcOk X scope cl cap NC) {x:Str} {c:Addr} (h:cl.lookup x = some c):X.env.cells.lookup x = some c:=L.cells (x,c) (PySem.mem_of_lookup h)
theorem yq8 {pins:List (Addr × Obj)} {σ:L2.St} {s₂:Shared} {H2:Hp} {it:Addr} {fp:List Addr} {tn:Nat → Heap → Prop} {J:It} {Z:Value → Addr → Result → Shared → Prop} {G:V → Hp → Prop}
    (hc:X.calm = true) (L:LcOk X scope cl cap NC) (hg:∀ C s₀ H₀ fp,PG (lcCx X scope cl NC C s₀ H₀ fp) target g) (ht:∀ C s₀ H₀ fp,PTs (lcCx X scope cl NC C s₀ H₀ fp) ifs tt) (he:∀ C s₀ H₀ fp,PE (lcCx X scope cl NC C s₀ H₀ fp) elt te)
    (I2:Inv X pins σ H2 s₂) (T:Turn X.prog X.w X.K target J fp it tn) (st2:tn 0 s₂.heap) (f2:∀ b ∈ fp,FpOk X pins H2 b)
    (hW:∀ D,H2 D = none → ∃ W:Nat → Nat → L2.St → Hp → Prop,(∃ m,W 0 m (capσ cap σ) (upd H2 D (.lst []))) ∧ ∀ i m σc Hc,W i m σc Hc →
      (J.stop i Hc ∧ G (.ref D) Hc) ∨ (J.go i Hc ∧ ∃ N:L2.St → Hp → Prop,(∀ σ' H',N σ' H' → ∃ m',m' < m ∧ W (i + 1) m' σ' H') ∧ ∀ x H',J.yld i Hc x H' → g x σc H' fun σ2 H2=>tt σ2 H2 fun b H3 =>
        if b = true then te σ2 H3 fun y H4=>∃ ys,H4 D = some (.lst ys) ∧ ys.length < sizeLine ∧ N σ2 (upd H4 D (.lst (ys ++ [y]))) else N σ2 H3))
    (hZ:∀ (D C:Addr) (Hc:Hp) (s':Shared) (m:Str → Option Value),s'.heap.Ns C m → (∀ h',Heap.SameBut C s'.heap h' → ∀ t',Inv X pins σ Hc { s' with heap:=h',toks:=t' }) → FpOk X pins Hc C → G (.ref D) Hc → Z (.ref D) C (.ok .next) s') {E:Value → Shared → Prop} :
    wpAny (model X.prog X.w) X.A (newList []) (fun acc s₃=>wpAny (model X.prog X.w) X.A (newFunctionEnv scope X.env.globals cl [] X.env.qual none .none (some X.env)) (fun cenv s₄ =>
      codeAny (model X.prog X.w) X.A (.compStart (.ListComp elt [⟨target,iter,ifs,0⟩] scope pos) 0 (.ref it) acc { cenv with scope:=relabel scope X.env }) (Z acc cenv.locals) s₄) E s₃) E s₂:=by
  refine wpAny_newObj_type (wpAny_newFunctionEnv L.nocell (by intro y hy; simp at hy) (fun h₁ hns₁ hsb₁=>?_) L.kind)
  dsimp only at hns₁ hsb₁ ⊢
  have nD:H2 s₂.heap.objs.size = none:=I2.hok.fresh (Nat.le_refl _)
  have I3:Inv X pins σ (upd H2 s₂.heap.objs.size (.lst [])) { s₂ with heap:=s₂.heap.push { cls:=.type "list",dict:=none,data:=.seq ([]:List Value).toArray } }:=by
    refine I2.laid (t':=s₂.toks) (fun b u e=>Heap.get?_push_of_some _ e) (Nat.le_refl _) ?_
    exact ⟨Nat.zero_le _,[],0,.nil,Heap.get?_push_size _ rfl⟩
  obtain ⟨W,⟨m0,w0⟩,turn⟩:=hW s₂.heap.objs.size nD
  generalize hD:s₂.heap.objs.size = D at nD I3 turn w0 ⊢
  generalize hH:s₂.heap.push { cls:=.type "list",dict:=none,data:=.seq ([]:List Value).toArray } = h₀ at hns₁ hsb₁ I3 ⊢
  have hpush:∀ b o,s₂.heap.get? b = some o → h₀.get? b = some o:=fun b o e=>by rw [← hH]; exact Heap.get?_push_of_some _ e
  generalize hC:h₀.objs.size = C at hns₁ hsb₁ ⊢
  have belowC:∀ b o,h₀.get? b = some o → b ≠ C:=fun b o e z=>by
    have:=Heap.lt_size e
    rw [hC,← z] at this
    exact Nat.lt_irrefl _ this
  have old:∀ b o,h₀.get? b = some o → h₁.get? b = some o:=fun b o e=>hsb₁.extBut b o (belowC b o e) (Heap.get?_push_of_some _ e)
  have f3:∀ b ∈ fp,FpOk X pins (upd H2 D (.lst [])) b:=fun b hb=>by
    obtain ⟨x1,x2⟩:=f2 b hb
    obtain ⟨o,e,_⟩:=T.obj 0 _ st2 b hb
    refine ⟨?_,x2⟩
    rw [zd9 (fun z=>by have:=Heap.lt_size e; rw [z,← hD] at this; exact Nat.lt_irrefl _ this)]
    exact x1
  have fpC:∀ b ∈ fp,b ≠ C:=fun b hb=>by
    obtain ⟨o,e,_⟩:=T.obj 0 _ st2 b hb
    exact belowC b o (hpush b o e)
  have clC:∀ x c,cl.lookup x = some c → c ≠ C:=fun x c e=>by
    obtain ⟨v,o,ho,_⟩:=I3.cell x c (zq5 L e)
    exact belowC c o ho
  let Y:Cx:=lcCx X scope cl NC C { s₂ with heap:=h₀ } (upd H2 D (.lst [])) fp
  have noC:(upd H2 D (.lst [])) C = none:=I3.hok.fresh (by show h₀.objs.size ≤ C; rw [hC]; exact Nat.le_refl _)
  have okY:Y.Ok:=by
    refine ⟨I3.ok.mod,by show (relabel scope X.env).kind = _; exact L.kind,I3.ok.glob,I3.ok.blt,by show h₀.objs.size ≤ C; rw [hC]; exact Nat.le_refl _,fun x y c e1 e2=>I3.ok.inj x y c (zq5 L e1) (zq5 L e2),fun x hx=>?_,fun x c z=>(by cases z),I3.ok.hd,I3.ok.frames,.inl rfl,fun b hb=>⟨fpC b hb,fun x c e=>(f3 b hb).2.2.2.2.1 x c (zq5 L e)⟩,I3.bs,Nat.le_trans I3.ok.bsz I3.sz,fun b o e hb=>?_,fun b hb hm=>?_,I3.stack,I3.stkFree⟩
    · have mem:∃ k,(x,k) ∈ (relabel scope X.env).names ∧ (k = .cell ∨ k = .free):=by
        rcases hx with z | z
        · exact ⟨_,PySem.mem_of_lookup z,.inl rfl⟩
        · exact ⟨_,PySem.mem_of_lookup z,.inr rfl⟩
      obtain ⟨k,hk,hk2⟩:=mem
      have q:=List.all_eq_true.mp L.has (x,k) hk
      have q2:(cl.lookup x).isSome = true:=by
        rcases hk2 with z | z
        · subst z; simpa using q
        · subst z; simpa using q
      exact Option.isSome_iff_exists.mp q2
    · rcases (f3 b hb).2.2.2.1 with z | z
      · exact I3.ok.noex b o e z
      · exact absurd (Nat.lt_of_lt_of_le (Heap.lt_size e) (Nat.le_trans I3.ok.bsz z)) (Nat.lt_irrefl _)
    · rcases List.mem_cons.mp (I3.stkSub b hm) with z | z
      · exact (f3 b hb).2.1 z
      · exact (f3 b hb).2.2.1 z
  have stat:∀ {Hc:Hp},(∀ b ∈ fp,Hc b = none) → ∀ b ∈ fp,FpOk Y [] Hc b:=fun hn b hb =>
    ⟨hn b hb,fpC b hb,okY.exfs b hb,.inl hb,fun x c e=>(okY.exf b hb).2 x c e,fun p hp=>absurd (show p ∈ ([] ++ []:List (Addr × Obj)) from hp) (by simp)⟩
  have back:∀ {σc:L2.St} {Hc:Hp} {s':Shared} {pn:List (Addr × Obj)},Inv Y pn σc Hc s' → ∀ h',Heap.SameBut C s'.heap h' → ∀ t',Inv X pins σ Hc { s' with heap:=h',toks:=t' }:=fun {σc Hc s' pn} I' h' sb t'=>by
    have u:=I'.base
    have nC:Hc C = none:=I'.free
    refine I3.call' (s':={ s' with heap:=h',toks:=t' }) (ch:=fp) I'.os ⟨fun b o e n hb hx=>?_,fun b o e n hb hx=>?_,u.free,fun b o e hx=>?_,u.tups,u.frzs,u.tbls⟩ (fun b o e=>?_) I'.bare (fun b hb=>⟨(f3 b hb).2.2.2.1,(f3 b hb).2.1,(f3 b hb).2.2.2.2.1,(f3 b hb).2.2.2.2.2⟩)
    · exact (sb.2 b (belowC b o e)).trans (u.keep b o e n hb hx)
    · obtain ⟨sl,q⟩:=u.slot b o e n hb hx
      exact ⟨sl,(sb.2 b (belowC b o e)).trans q⟩
    · obtain ⟨o',q⟩:=u.there b o e hx
      exact ⟨o',(sb.2 b (belowC b o e)).trans q⟩
    · refine (I'.hok b o e).stay (fun c v hcb q=>(sb.2 c ?_).trans q) (fun _ q=>q) fun _ _ q=>q
      rintro rfl
      rcases hcb with z | z
      · subst z
        rw [nC] at e; cases e
      · rw [nC] at z; cases z
  have Ist:∀ t',Inv Y [] (capσ cap σ) (upd H2 D (.lst [])) { s₂ with heap:=h₁,toks:=t' }:=fun t'=>by
    refine ⟨okY,rfl,I3.bare,⟨fun b o e _ _ _=>old b o e,fun b o e _ _ _=>⟨o.slots,old b o e⟩,fun _ _ _ n _=>n,fun b o e _=>⟨o,old b o e⟩,fun _ _ e=>e,fun _ _ _ e=>e,fun b ps e=>⟨#[],by rw [show (upd H2 D (.lst [])) b = _ from e]; simp⟩⟩,⟨_,hns₁,fun j y v e1 e2 e3=>?_⟩,fun y c e=>?_,noC,fun y c e=>I3.freeC y c (zq5 L e),fun p hp=>absurd (show p ∈ ([] ++ []:List (Addr × Obj)) from hp) (by simp),I3.hok.kept old,by
      show (cap.map _).length = NC.length
      rw [List.length_map]; exact L.caps.len⟩
    · have e2':(cap.map fun o=>o.bind fun i=>(σ[i]?).bind id)[j]? = some (some v):=e2
      rw [List.getElem?_map] at e2'
      cases hq:cap[j]? with
      | none=>rw [hq] at e2'; cases e2'
      | some o =>
        rw [hq] at e2'
        cases o with
        | none=>cases e2'
        | some i =>
          have e4:(σ[i]?).bind id = some v:=by simpa using e2'
          have e5:σ[i]? = some (some v):=by
            cases hs:σ[i]? with
            | none=>rw [hs] at e4; cases e4
            | some z=>rw [hs] at e4; simpa using e4
          obtain ⟨c,x1,x2,x3,x4,x5⟩:=L.caps.at hq e1
          obtain ⟨m,hn,hl⟩:=I3.loc
          obtain ⟨u,r,l⟩:=hl i y v x1 e5 (.inr (.inl x2))
          refine ⟨u,r,.inr ⟨.inl x5,c,x3,?_⟩⟩
          rcases l with ⟨k,_⟩ | ⟨_,c',x6,z⟩
          · have k':X.env.scope.names.lookup y = some .local:=k
            rw [x2] at k'; cases k'
          · rw [x4] at x6; cases x6
            obtain ⟨o,ho,hd⟩:=z
            exact ⟨o,old _ _ ho,hd⟩
    · obtain ⟨v,o,ho,hd⟩:=I3.cell y c (zq5 L e)
      exact ⟨v,o,old _ _ ho,hd⟩
  have loop:∀ s₃:Shared,s₃ = { s₂ with heap:=h₁,toks:=s₂.toks + ([]:List (Str × Value)).length } →
      codeAny (model X.prog X.w) X.A (.compLoop (.ListComp elt [⟨target,iter,ifs,0⟩] scope pos) 0 (.ref it) (.ref D) (compEnvC scope cl C X.env)) (Z (.ref D) C) s₃:=by
    rintro s₃ rfl
    refine xy7 (fun n s'=>∃ i σc Hc,Inv Y [] σc Hc s' ∧ tn i s'.heap ∧ (∀ b ∈ fp,Hc b = none) ∧ W i n σc Hc) ?_ m0 ⟨0,capσ cap σ,_,Ist _,T.keep _ _ _ st2 (fun b hb o e=>old b o (hpush b o e)),fun b hb=>(f3 b hb).1,w0⟩
    rintro n s5 ⟨i,σc,Hc,I5,st5,fr5,w5⟩ E'
    rcases turn i n σc Hc w5 with ⟨stop,qn⟩ | ⟨go,N,hN,step⟩
    · refine wpAny_mono (T.done Y rfl rfl rfl hc i [] s5 σc Hc E' I5 (stat fr5) st5 stop) (fun r s6 ⟨hr,I6⟩=>?_) fun _ _ z=>z
      subst hr
      obtain ⟨m,hn,_⟩:=id I6.loc
      exact hZ D C Hc s6 m hn (back I6) (I3.fpOk (by show h₀.objs.size ≤ C; rw [hC]; exact Nat.le_refl _) I6.free) qn
    · refine wpAny_mono (T.item Y rfl rfl rfl hc i [] s5 σc Hc E' I5 (stat fr5) st5 go) (fun r s6 ⟨u,hr,h6⟩=>?_) fun _ _ z=>z
      subst hr
      refine wpAny_mono h6 (fun _ s7 ⟨x,H7,I7,r7,y7,st7,fr7⟩=>?_) fun _ _ z=>z
      have I7':=I7.pinned (stat fr7) (T.obj _ _ st7)
      refine wpAny_mono (hg C _ _ fp _ s7 σc H7 x u _ I7' r7 (step x H7 y7)) (fun _ s8 ⟨σ8,H8,I8,q8⟩=>?_) fun _ _ z=>False.elim z
      have again:∀ {σ9:L2.St} {H9:Hp} {s9:Shared},Inv Y ([] ++ yh0 fp s7.heap) σ9 H9 s9 → N σ9 H9 → ∃ m,m < n ∧ ∃ i σ' H',Inv Y [] σ' H' s9 ∧ tn i s9.heap ∧ (∀ b ∈ fp,H' b = none) ∧ W i m σ' H':=fun {σ9 H9 s9} I9 n9=>by
        obtain ⟨m',hm,w9⟩:=hN σ9 H9 n9
        refine ⟨m',hm,i + 1,σ9,H9,I9.unpinned,T.keep _ _ _ st7 fun b hb o e=>(I9.pin (b,o) (List.mem_append_right _ (List.mem_append_right _ (zq4 hb e)))).1,fun b hb=>?_,w9⟩
        obtain ⟨o,e,d⟩:=T.obj _ _ st7 b hb
        exact (I9.pin (b,o) (List.mem_append_right _ (List.mem_append_right _ (zq4 hb e)))).2.1
      refine wpAny_mono (ht C _ _ fp _ s8 σ8 H8 _ I8 q8) (fun ok s9 ⟨H9,I9,q9⟩=>?_) fun _ _ z=>False.elim z
      cases ok with
      | false =>
        rw [if_neg Bool.false_ne_true] at q9 ⊢
        exact again I9 q9
      | true =>
        rw [if_pos rfl] at q9 ⊢
        refine wpAny_mono (he C _ _ fp _ s9 σ8 H9 _ I9 q9) (fun v sa ⟨y,Ha,Ia,ra,ys,hy,hl,na⟩=>?_) fun _ _ z=>False.elim z
        have app:=zp8 (X:=Y) _ sa σ8 Ha (.ref D) [y] (.ref D) [v] (fun _ Hb=>N σ8 Hb) Ia rfl (.cons ra .nil) ⟨D,ys,y,rfl,rfl,hy,hl,na⟩
        exact wpAny_mono app (fun _ sb ⟨_,Hb,Ib,_,nb⟩=>again Ib nb) fun _ _ z=>False.elim z
  exact codeAny_compStart_list (loop _ rfl) (T.self _ 0 _ _ _ (T.keep _ _ _ st2 fun b hb o e=>old b o (hpush b o e)) (loop _ rfl))
theorem zm2 (hc:X.calm = true) (L:LcOk X scope cl cap NC) (hi:PI X target iter wi) (hg:∀ C s₀ H₀ fp,PG (lcCx X scope cl NC C s₀ H₀ fp) target g) (ht:∀ C s₀ H₀ fp,PTs (lcCx X scope cl NC C s₀ H₀ fp) ifs tt) (he:∀ C s₀ H₀ fp,PE (lcCx X scope cl NC C s₀ H₀ fp) elt te)
    (hs:∀ x,foldedSetIterable iter X.env x = pure x:=by intro _; rfl):PE X (.ListComp elt [⟨target,iter,ifs,0⟩] scope pos) (tLC wi cap g tt te):=by
  intro pins s σ H Q I h
  rw [eval_ListComp]
  refine wpAny_comprehension_free (use:=none) rfl hs L.clos L.kind L.names (thn (hi pins s σ H _ I h) fun xv s₁ h₁=>thn h₁ fun itv s₂ h₂=>?_)
  obtain ⟨it,fp,tn,J,H2,rfl,I2,T,st2,f2,hq⟩:=h₂
  refine yq8 (G:=Q) hc L hg ht he I2 T st2 f2 hq fun D C Hc s' m hn back _ q=>?_
  exact ⟨m,hn,fun h' sb=>⟨.ref D,Hc,back h' sb _,rfl,q⟩⟩
end
end Lx
namespace Lx
open PySem PySem.Spec PyProof.Rows L2
mutual
inductive DV (K:PySem.W.Frag) (H:Hp):V → PyData → Prop
  | non:DV K H .non .none
  | bl (b:Bool):DV K H (.bl b) (.bool b)
  | int (i:Int):DV K H (.int i) (.int i)
  | str (x:Str):DV K H (.str x) (.str x)
  | tup {a:Addr} {xs:List V} {ds:List PyData}:SqT K H a xs → DVs K H xs ds → DV K H (.ref a) (.tuple ds)
  | lst {a:Addr} {xs:List V} {ds:List PyData}:SqL K H a xs → DVs K H xs ds → DV K H (.ref a) (.list ds)
    | dct {a:Addr} {x y:Str}:H a = some (.dK [(.inr x,.str y)]) → DV K H (.ref a) (.dict [(.str x,.str y)])
inductive DVs (K:PySem.W.Frag) (H:Hp):List V → List PyData → Prop
  | nil:DVs K H [] []
  | cons {x:V} {xs:List V} {d:PyData} {ds:List PyData}:DV K H x d → DVs K H xs ds → DVs K H (x :: xs) (d :: ds)
end
section
variable {X:Cx} {pins:List (Addr × Obj)} {σ:L2.St} {H:Hp} {s:Shared}
mutual
theorem zl0 (I:Inv X pins σ H s):∀ {x:V} {d:PyData} {u:Value},DV X.K H x d → RelV x u → ∃ as,Reads s.heap u d as
  | _,_,u,.non,r=>by
    cases (show u = Value.none from r)
    exact ⟨_,.none⟩
  | _,_,u,.bl b,r=>by
    cases (show u = Value.bool b from r)
    exact ⟨_,.bool b⟩
  | _,_,u,.int i,r=>by
    obtain ⟨t,rfl⟩:=r
    exact ⟨_,.int i t⟩
  | _,_,u,.str x,r=>by
    obtain ⟨t,rfl⟩:=r
    exact ⟨_,.str x t⟩
  | _,_,u,@DV.tup _ _ a xs ds h hs,r=>by
    cases (show u = Value.ref a from r)
    obtain ⟨its,rv,⟨o,ho,hc,n,hd⟩,_⟩:=I.tuple h
    obtain ⟨as,q⟩:=zy3 I hs rv
    exact ⟨_,.tuple ho hc hd (by simpa using q)⟩
  | _,_,u,@DV.lst _ _ a xs ds h hs,r=>by
    cases (show u = Value.ref a from r)
    obtain ⟨its,rv,⟨o,n,ho,hc,_,hd⟩,_⟩:=I.list h
    obtain ⟨as,q⟩:=zy3 I hs rv
    exact ⟨_,.list ho hc hd (by simpa using q)⟩
  | _,_,u,@DV.dct _ _ a x y h,r=>by
    cases (show u = Value.ref a from r)
    obtain ⟨_,_,vs,rel,o,es,ep,ho,hc,hd,hk,hp,_⟩:=(show ObjOk X.prog X.w H s.heap a (.dK [(.inr x,.str y)]) from I.hok a _ h)
    unfold KV at rel
    cases rel with
    | @cons p q ps qs h1 t =>
      cases t
      obtain ⟨k,v⟩:=q
      obtain ⟨e1,t1,e2⟩:=h1
      have e1':Sum.inr x = k:=e1
      subst e1'
      have e2':v = Value.str y t1:=e2
      subst e2'
      generalize hes:es.toList = l at hp
      cases hp with
      | @cons e kv es' kvs' hk1 hv1 ht1 =>
        cases ht1
        have hk2:ym3 (.inr x) e.key = true:=hk1
        have ek:∃ t2,e.key = Value.str x t2:=by
          rcases zg3 hk2 with ⟨i,t2,z,_⟩ | ⟨x2,t2,z,z2⟩
          · exact nomatch z
          · cases z; exact ⟨t2,z2⟩
        obtain ⟨t2,ek⟩:=ek
        have ev:e.val = Value.str y t1:=hv1
        exact ⟨_,.dict (as:=[] ++ []) (bs:=[] ++ []) ho hc.1 hd (by rw [hes]; show ReadsAll _ [e.key] [PyData.str x] _; rw [ek]; exact .cons (.str x t2) .nil) (by rw [hes]; show ReadsAll _ [e.val] [PyData.str y] _; rw [ev]; exact .cons (.str y t1) .nil)⟩
theorem zy3 (I:Inv X pins σ H s):∀ {xs:List V} {ds:List PyData} {us:List Value},DVs X.K H xs ds → Vals xs us → ∃ as,ReadsAll s.heap us ds as
  | _,_,_,.nil,.nil=>⟨_,.nil⟩
  | _,_,_,.cons h hs,.cons r rs=>by
    obtain ⟨as,q⟩:=zl0 I h r
    obtain ⟨bs,qs⟩:=zy3 I hs rs
    exact ⟨_,.cons q qs⟩
end
end
structure Enc (α:Type) where
  d:α → PyData
  dep:Nat
  small:dep ≤ 60
  lay:∀ x,(d x).canLay0 = true
  depth:∀ x,(d x).depth ≤ dep
  eqv:∀ x y,PyData.eqv (d x) (d y) = true ↔ x = y
theorem Enc.shaped {α:Type} (e:Enc α) (x:α):SeqAt.shaped (e.d x) = true:=by
  unfold SeqAt.shaped
  rw [e.lay,Bool.true_and]
  exact decide_eq_true (Nat.le_trans (e.depth x) (Nat.le_trans e.small (by decide)))
noncomputable def eInt:Enc Int:=⟨.int,0,by decide,fun _=>rfl,fun _=>by simp [PyData.depth],fun x y=>by simp [PyData.eqv]⟩
theorem zy2 {α:Type} (e:Enc α):∀ (xs:List α),PyData.canLayAll0 (xs.map e.d) = true ∧ PyData.depthAll (xs.map e.d) ≤ e.dep
  | []=>⟨rfl,by simp [PyData.depthAll]⟩
  | x :: xs=>by
    obtain ⟨h1,h2⟩:=zy2 e xs
    have h3:=e.lay x
    have h4:=e.depth x
    constructor
    · show ((e.d x).canLay0 && PyData.canLayAll0 (xs.map e.d)) = true
      rw [h3,h1]; rfl
    · show PyData.depthAll (e.d x :: xs.map e.d) ≤ e.dep
      simp only [PyData.depthAll]
      omega
theorem ya7 {α:Type} (e:Enc α):∀ (xs ys:List α),PyData.eqvAll (xs.map e.d) (ys.map e.d) = true ↔ xs = ys
  | [],[]=>by simp [PyData.eqvAll]
  | [],y :: ys=>by simp [PyData.eqvAll]
  | x :: xs,[]=>by simp [PyData.eqvAll]
  | x :: xs,y :: ys=>by
    have h:=ya7 e xs ys
    have h2:=e.eqv x y
    simp only [List.map_cons,PyData.eqvAll,Bool.and_eq_true,h,h2,List.cons.injEq]
noncomputable def ym8 {α:Type} (e:Enc α) (h:e.dep ≤ 50):Enc (List α) where
  d:=fun xs=>.list (xs.map e.d)
  dep:=e.dep + 1
  small:=by omega
  lay:=fun xs=>by show PyData.canLayAll0 _ = true; exact (zy2 e xs).1
  depth:=fun xs=>by
    have:=(zy2 e xs).2
    simp only [PyData.depth]
    omega
  eqv:=fun xs ys=>by
    show PyData.eqvAll _ _ = true ↔ _
    exact ya7 e xs ys
noncomputable def eRat:Enc Rat where
  d:=fun q=>.tuple [.int q.num,.int (q.den:Int)]
  dep:=1
  small:=by decide
  lay:=fun q=>by simp [PyData.canLay0,PyData.canLayAll0]
  depth:=fun q=>by simp [PyData.depth,PyData.depthAll]
  eqv:=fun p q=>by
    simp only [PyData.eqv,PyData.eqvAll,Bool.and_eq_true,beq_iff_eq,and_true]
    constructor
    · rintro ⟨h1,h2⟩
      exact Rat.ext h1 (by omega)
    · rintro rfl
      exact ⟨rfl,rfl⟩
noncomputable def rEqD (K:PySem.W.Frag) (neg:Bool):R2:=fun x y H Q=>∃ (α:Type) (e:Enc α) (a b:α),DV K H x (e.d a) ∧ DV K H y (e.d b) ∧ ∀ k:Bool,(k = true ↔ a = b) → Q (.bl (if neg then !k else k)) H
noncomputable def rInD (K:PySem.W.Frag) (neg:Bool):R2:=fun x y H Q=>∃ (α:Type) (e:Enc α) (a:α) (bs:List α),DV K H x (e.d a) ∧ DV K H y (.list (bs.map e.d)) ∧ ∀ k:Bool,(k = true ↔ a ∈ bs) → Q (.bl (if neg then !k else k)) H
section
variable {X:Cx}
theorem wi7 (hu:X.A.units + 64 < cLine):OpR X (compareOp .Eq) (rEqD X.K false):=by
  intro pins s σ H x y v u Q I rx ry h
  obtain ⟨α,e,a,b,da,db,q⟩:=h
  obtain ⟨as,r1⟩:=zl0 I da rx
  obtain ⟨bs,r2⟩:=zl0 I db ry
  exact eq_dataH r1 r2 (e.shaped a) (e.shaped b) hu ⟨.bl _,H,I,rfl,q _ (e.eqv a b)⟩
theorem wi5 (hu:X.A.units + 64 < cLine):OpR X (compareOp .NotEq) (rEqD X.K true):=by
  intro pins s σ H x y v u Q I rx ry h
  obtain ⟨α,e,a,b,da,db,q⟩:=h
  obtain ⟨as,r1⟩:=zl0 I da rx
  obtain ⟨bs,r2⟩:=zl0 I db ry
  exact ne_dataH r1 r2 (e.shaped a) (e.shaped b) hu ⟨.bl _,H,I,rfl,q _ (e.eqv a b)⟩
theorem yn7 {α:Type} (e:Enc α) (a:α):∀ bs:List α,((bs.map e.d).any fun y=>PyData.eqv y (e.d a)) = true ↔ a ∈ bs
  | []=>by simp
  | b :: bs=>by
    have h:=yn7 e a bs
    have h2:=e.eqv b a
    simp only [List.map_cons,List.any_cons,Bool.or_eq_true,h,h2,List.mem_cons]
    constructor
    · rintro (z | z)
      · exact .inl z.symm
      · exact .inr z
    · rintro (z | z)
      · exact .inl z.symm
      · exact .inr z
theorem wi6 (hu:X.A.units + 64 < cLine):OpR X (compareOp .In) (rInD X.K false):=by
  intro pins s σ H x y v u Q I rx ry h
  obtain ⟨α,e,a,bs,da,db,q⟩:=h
  obtain ⟨as,r1⟩:=zl0 I da rx
  obtain ⟨cs,r2⟩:=zl0 I db ry
  have h1:=e.depth a
  have h2:=e.small
  exact PySem.SeqAt.in_list_reads r2 r1 (zy2 e bs).1 (e.lay a) (by omega) ⟨.bl _,H,I,rfl,q _ (yn7 e a bs)⟩
end
end Lx
namespace Lx
open PySem PySem.Spec PyProof.Rows L2
structure ExcK (K:PySem.W.Frag) (C:Addr):Prop where
  fg:PySem.W.findIn K (.ref C) "__getattribute__" = some (some (.builtin "BaseException.__getattribute__"))
  fa:PySem.W.findIn K (.ref C) "__getattr__" = some none
  fc:PySem.W.findIn K (.ref C) "__class__" = some (some (.builtin "object.__class__"))
  so:PySem.W.subIn K (.ref C) (.type "object") = some true
  sb:PySem.W.subIn K (.ref C) (.type "BaseException") = some true
section
variable {prog:Program} {w:World} {A:Around} {E:Value → Shared → Prop} {h:Heap} {g:Array GenState} {d:Drawn} {t:Nat} {os:OsState} {a C:Addr} {o:Obj} {K:PySem.W.Frag}
end
noncomputable def ww9 (x C:Addr) (h:Heap):Prop:=∃ o vs,h.get? x = some o ∧ o.cls = .ref C ∧ o.data = .fields vs
section
variable {X:Cx}
variable {pins:List (Addr × Obj)} {σ:L2.St} {H:Hp} {s:Shared} {x C:Addr}
end
end Lx
namespace Lx
open PySem PySem.Spec PyProof.Rows L2
section
variable {X:Cx} {K:PySem.W.Frag}
theorem ixlK (h:X.K = K):IxR X (rIxL K):=by subst h; exact xz1
theorem ixtK (h:X.K = K):IxR X (rIxT K):=by subst h; exact wm8
theorem lenK (h:X.K = K):CallR X (.builtin "len") (fun xs H Q=>∃ p ys,xs = [.ref p] ∧ (SqL K H p ys ∨ SqT K H p ys) ∧ Q (.int ys.length) H):=by subst h; exact yj9
theorem sllK (h:X.K = K):SlR X (rSlL K):=by subst h; exact xs2
theorem eqK (h:X.K = K) (hu:X.A.units + 64 < cLine):OpR X (compareOp .Eq) (rEqD K false):=by subst h; exact wi7 hu
theorem neK (h:X.K = K) (hu:X.A.units + 64 < cLine):OpR X (compareOp .NotEq) (rEqD K true):=by subst h; exact wi5 hu
theorem inK (h:X.K = K) (hu:X.A.units + 64 < cLine):OpR X (compareOp .In) (rInD K false):=by subst h; exact wi6 hu
theorem pilK {tg l:Expr} {tl:TE} (h:X.K = K) (hl:PE X l tl):PI X tg l (xi4 K tl):=by subst h; exact xw6 hl
theorem pgtK {es:List Expr} {k:Nat} {pos:Pos} {t:TGs} {n:Nat} (h:X.K = K) (hc:X.calm = true) (hg:PGs X es t)
    (hn:(assignEach es X.env).length = n:=by rfl) (hst:(assignEach es X.env).findIdx? (·.1) = none:=by rfl):PG X (.Tuple es k pos) (gTup K n t):=by subst h; exact wi0 hc hg hn hst
end
end Lx
namespace Lx
open PySem PySem.Spec PyProof.Rows L2
section
variable {X:Cx} {elt target iter:Expr} {ifs:List Expr} {scope:Scope} {pos spos pos':Pos} {wi:TI} {cap:List (Option Nat)} {NC:List Str} {cl:List (Str × Addr)} {g:TG} {tt:TT} {te:TE}
theorem zv1 {i:Nat} {x:Str} (hN:X.N.Nodup) (hi:X.N[i]? = some x) (hx:X.env.scope.names.lookup x = some .local) (hc:X.calm = true) (L:LcOk X scope cl cap NC) (hit:PI X target iter wi)
    (hg:∀ C s₀ H₀ fp,PG (lcCx X scope cl NC C s₀ H₀ fp) target g) (ht:∀ C s₀ H₀ fp,PTs (lcCx X scope cl NC C s₀ H₀ fp) ifs tt) (he:∀ C s₀ H₀ fp,PE (lcCx X scope cl NC C s₀ H₀ fp) elt te)
    (hsw:swapsWith (.ListComp elt [⟨target,iter,ifs,0⟩] scope pos) (some (.Name x pos')) spos.line X.env = pure true:=by rfl)
    (hs:∀ x,foldedSetIterable iter X.env x = pure x:=by intro _; rfl):PS X (.Assign [.Name x pos'] (.ListComp elt [⟨target,iter,ifs,0⟩] scope pos) spos) (tAsg (tLC wi cap g tt te) (yt6 i)):=by
  intro pins s σ H D I h
  rw [exec_Assign_Name_used _ _ _ _ hsw]
  refine wpAny_bind (wpAny_standAt (wpAny_bind ?_))
  show wpAny _ X.A (do let _ ← comprehension (.ListComp elt [⟨target,iter,ifs,0⟩] scope pos) scope X.env _ (newList []) false (eval iter X.env) (some (assign (.Name x pos') X.env))) _ _ s
  refine wpAny_bind (wpAny_mono (wpAny_comprehension_free (use:=some (assign (.Name x pos') X.env)) (Q:=fun _ s'=>SP X pins D .next s') rfl hs L.clos L.kind L.names
    (thn (hit pins s σ H _ I h) fun xv s₁ h₁=>thn h₁ fun itv s₂ h₂=>?_)) (fun _ s' hq=>wpAny_pure (wpAny_pure hq)) fun _ _ e=>e)
  obtain ⟨it,fp,tn,J,H2,rfl,I2,T,st2,f2,hq⟩:=h₂
  refine yq8 (G:=fun v H'=>D.nx (σ.set i (some v)) H') hc L hg ht he I2 T st2 f2 hq fun Dd C Hc s' m hn back fpC q=>?_
  obtain ⟨z1,z2,z3,z4,z5,z6⟩:=fpC
  have Ib:Inv X pins σ Hc s':=back s'.heap (.refl _ _) s'.toks
  show wpAny _ X.A (assign (.Name x pos') X.env (.ref Dd)) _ _ _
  refine wpAny_assign_Name (yg2 Ib hN hi (.inl hx) (show RelV (.ref Dd) (.ref Dd) from rfl) (fun s2 I2 ⟨a,sb,ha⟩=>?_) (.inr hx))
  have hCa:C ≠ a:=by
    rcases ha with z | z
    · rw [z]; exact z2
    · exact fun e=>z5 x a z e.symm
  refine ⟨m,hn.sameBut sb hCa,fun h' sb'=>⟨_,Hc,?_,q⟩⟩
  exact I2.turned (t':=s2.toks) (it:=C) (fun b o hb e=>(sb'.2 b hb).trans e) z1 z2 z4 z5 z6
end
section
variable {X:Cx} {K:PySem.W.Frag}
end
end Lx
namespace Fm
theorem abs_if (i:Int):(if i < 0 then -i else i) = ((i.natAbs:Nat):Int):=by omega
theorem gcd_step (a b:Int) (h:0 < b):Int.gcd b (a % b) = Int.gcd a b:=by
  rw [Int.gcd_comm b (a % b),Int.emod_def]
  exact Int.gcd_sub_mul_left_left _ _ _
theorem gcd_zero {a:Int} (h:0 ≤ a):((Int.gcd a 0:Nat):Int) = a:=by
  rw [Int.gcd_zero_right]; omega
theorem gcd_le_right {a b:Int} (hb:b ≠ 0):Int.gcd a b ≤ b.natAbs:=Nat.le_of_dvd (by omega) (Int.gcd_dvd_natAbs_right a b)
theorem gcd_pos_right {a b:Int} (hb:b ≠ 0):0 < Int.gcd a b:=Int.gcd_pos_of_ne_zero_right a hb
theorem fr_num {t b:Int} (hb:b ≠ 0):t.fdiv (if b < 0 then -((Int.gcd t b:Nat):Int) else ((Int.gcd t b:Nat):Int)) = (Rat.divInt t b).num:=by
  rw [Rat.num_divInt,Int.gcd_comm b t]
  have hg:(0:Int) < ((Int.gcd t b:Nat):Int):=by have:=gcd_pos_right (a:=t) hb; omega
  have hd:((Int.gcd t b:Nat):Int) ∣ t:=Int.gcd_dvd_left t b
  split
  · rename_i hn
    rw [Int.sign_eq_neg_one_of_neg hn]
    obtain ⟨k,hk⟩:=hd
    generalize ((Int.gcd t b:Nat):Int) = g at hg hk
    subst hk
    rw [show -1 * (g * k) = g * (-k) by grind,Int.mul_ediv_cancel_left _ (by omega)]
    rw [show g * k = (-g) * (-k) by grind]
    exact Int.mul_fdiv_cancel_left _ (by omega)
  · rename_i hn
    rw [Int.sign_eq_one_of_pos (by omega),Int.one_mul,Int.fdiv_eq_ediv_of_nonneg _ (by omega)]
theorem fr_den {t b:Int} (hb:b ≠ 0):b.fdiv (if b < 0 then -((Int.gcd t b:Nat):Int) else ((Int.gcd t b:Nat):Int)) = (((Rat.divInt t b).den:Nat):Int):=by
  rw [Rat.den_divInt,if_neg hb,Int.gcd_comm b t]
  have hg:(0:Int) < ((Int.gcd t b:Nat):Int):=by have:=gcd_pos_right (a:=t) hb; omega
  have hd:((Int.gcd t b:Nat):Int) ∣ b:=Int.gcd_dvd_right t b
  rw [Int.natCast_ediv]
  split
  · rename_i hn
    rw [show ((b.natAbs:Nat):Int) = -b by omega]
    obtain ⟨k,hk⟩:=hd
    generalize ((Int.gcd t b:Nat):Int) = g at hg hk
    subst hk
    rw [show -(g * k) = g * (-k) by grind,Int.mul_ediv_cancel_left _ (by omega)]
    rw [show g * k = (-g) * (-k) by grind]
    exact Int.mul_fdiv_cancel_left _ (by omega)
  · rename_i hn
    rw [show ((b.natAbs:Nat):Int) = b by omega,Int.fdiv_eq_ediv_of_nonneg _ (by omega)]
theorem add_parts (a b:Rat) (s:Nat) (hs:s = a.den.gcd b.den) (tp:Int) (ht:tp = a.num * ((b.den / s:Nat):Int) + b.num * ((a.den / s:Nat):Int)) (g:Nat) (hg:g = s.gcd tp.natAbs) :
    (a + b).num = tp / (g:Int) ∧ (a + b).den = a.den / s * (b.den / g):=by
  have hs0:0 < s:=by rw [hs]; exact Nat.gcd_pos_of_pos_left _ (Nat.pos_of_ne_zero a.den_nz)
  have hg0:0 < g:=by rw [hg]; exact Nat.gcd_pos_of_pos_left _ hs0
  have hgs:g ∣ s:=by rw [hg]; exact Nat.gcd_dvd_left _ _
  have hsb:s ∣ b.den:=by rw [hs]; exact Nat.gcd_dvd_right _ _
  have hgb:g ∣ b.den:=Nat.dvd_trans hgs hsb
  have e:a.den / s * (b.den / g) = a.den / s * b.den / g:=(Nat.mul_div_assoc _ hgb).symm
  rw [e]
  show (Rat.add a b).num = _ ∧ (Rat.add a b).den = _
  unfold Rat.add
  simp only [← hs]
  split
  · rename_i h1
    have:g = 1:=by rw [hg,h1]; exact Nat.gcd_one_left _
    subst this
    dsimp only
    rw [ht,h1]
    simp
  · rename_i h1
    simp only [Rat.maybeNormalize_eq]
    have hg2:(a.num * ((b.den / s:Nat):Int) + b.num * ((a.den / s:Nat):Int)).natAbs.gcd s = g:=by rw [hg,← ht,Nat.gcd_comm]
    have hd:(g:Int) ∣ tp:=by
      rw [hg]
      exact Int.ofNat_dvd_left.mpr (Nat.gcd_dvd_right _ _)
    constructor
    · rw [Int.divExact_eq_tdiv,hg2,← ht,Int.tdiv_eq_ediv_of_dvd hd]
    · rw [hg2]
theorem mul_parts (a b:Rat):(a * b).num = (Rat.divInt a.num (b.den:Int)).num * (Rat.divInt b.num (a.den:Int)).num ∧ (a * b).den = (Rat.divInt a.num (b.den:Int)).den * (Rat.divInt b.num (a.den:Int)).den:=by
  show (Rat.mul a b).num = _ ∧ (Rat.mul a b).den = _
  have ha:(a.den:Int) ≠ 0:=by have:=a.den_nz; omega
  have hb:(b.den:Int) ≠ 0:=by have:=b.den_nz; omega
  rw [Rat.num_divInt,Rat.num_divInt,Rat.den_divInt,Rat.den_divInt,if_neg ha,if_neg hb]
  have e1:((b.den:Nat):Int).sign = 1:=Int.sign_eq_one_of_pos (by have:=b.den_nz; omega)
  have e2:((a.den:Nat):Int).sign = 1:=Int.sign_eq_one_of_pos (by have:=a.den_nz; omega)
  rw [e1,e2,Int.one_mul,Int.one_mul]
  unfold Rat.mul
  dsimp only
  have g1:Int.gcd ((b.den:Nat):Int) a.num = a.num.natAbs.gcd b.den:=by rw [Int.gcd_comm]; rfl
  have g2:Int.gcd ((a.den:Nat):Int) b.num = b.num.natAbs.gcd a.den:=by rw [Int.gcd_comm]; rfl
  rw [g1,g2]
  constructor
  · rw [Int.divExact_eq_tdiv,Int.divExact_eq_tdiv,Int.tdiv_eq_ediv_of_dvd (Int.ofNat_dvd_left.mpr (Nat.gcd_dvd_left _ _)),Int.tdiv_eq_ediv_of_dvd (Int.ofNat_dvd_left.mpr (Nat.gcd_dvd_left _ _))]
  · rw [Nat.mul_comm]; rfl
theorem div_inv (b:Rat):Rat.divInt (b.den:Int) b.num = b⁻¹:=(Rat.inv_def b).symm
theorem less_iff (a b:Rat):(a.num * (b.den:Int) < b.num * (a.den:Int)) ↔ a < b:=(Rat.lt_iff a b).symm
theorem lowest (q:Rat):Int.gcd q.num (q.den:Int) = 1:=q.reduced
theorem den_pos (q:Rat):(1:Int) ≤ (q.den:Int):=by have:=q.den_nz; omega
theorem wb2 (t b:Int) (hb:b ≠ 0):(Rat.divInt t b).num * b = t * ((Rat.divInt t b).den:Int):=by
  have h:=Rat.num_divInt_den (Rat.divInt t b)
  exact (Rat.divInt_eq_divInt_iff (by have:=(Rat.divInt t b).den_nz; omega) hb).mp h
theorem num_le (t:Int) {b:Int} (hb:b ≠ 0):(Rat.divInt t b).num.natAbs ≤ t.natAbs:=by
  have h:=wb2 t b hb
  have h2:=Fm.den_pos (Rat.divInt t b)
  rw [← fr_num hb]
  have hg:(0:Int) < ((Int.gcd t b:Nat):Int):=by have:=gcd_pos_right (a:=t) hb; omega
  obtain ⟨k,hk⟩:((Int.gcd t b:Nat):Int) ∣ t:=Int.gcd_dvd_left t b
  generalize ((Int.gcd t b:Nat):Int) = g at hg hk
  subst hk
  have le:k.natAbs ≤ (g * k).natAbs:=by
    rw [Int.natAbs_mul]
    exact Nat.le_mul_of_pos_left _ (by omega)
  split
  · rw [show g * k = (-g) * (-k) by grind,Int.mul_fdiv_cancel_left _ (by omega)]
    rw [show (-g) * (-k) = g * k by grind]
    omega
  · rw [Int.mul_fdiv_cancel_left _ (by omega)]
    exact le
theorem den_le (t:Int) {b:Int} (hb:b ≠ 0):(Rat.divInt t b).den ≤ b.natAbs:=by
  rw [Rat.den_divInt,if_neg hb]
  exact Nat.div_le_self _ _
theorem num_eq (q:Rat):(q.num:Rat) = q * (q.den:Rat):=by
  have h:=Rat.num_divInt_den q
  rw [Rat.divInt_eq_div] at h
  have hd:((q.den:Int):Rat) ≠ 0:=by
    have:=q.den_nz
    intro z
    rw [Rat.intCast_natCast] at z
    exact this (by simpa using z)
  rw [Rat.intCast_natCast] at h hd
  have h2:=Rat.div_mul_cancel (a:=(q.num:Rat)) hd
  rw [h] at h2
  exact h2.symm
theorem fr_pos {t b:Int} (hb:0 < b):t / ((Int.gcd t b:Nat):Int) = (Rat.divInt t b).num ∧ b / ((Int.gcd t b:Nat):Int) = ((Rat.divInt t b).den:Int):=by
  have h1:=fr_num (t:=t) (b:=b) (by omega)
  have h2:=fr_den (t:=t) (b:=b) (by omega)
  rw [if_neg (by omega),Int.fdiv_eq_ediv_of_nonneg _ (by omega)] at h1 h2
  exact ⟨h1,h2⟩
theorem eq_divInt {q:Rat} {n m:Int} (hm:m ≠ 0) (h:q * (m:Rat) = (n:Rat)):q = Rat.divInt n m:=by
  rw [Rat.divInt_eq_div,← h]
  have:(m:Rat) ≠ 0:=by simpa using hm
  exact (Rat.mul_div_cancel this).symm
theorem size_of {q:Rat} {n m:Int} (hm:m ≠ 0) (h:q * (m:Rat) = (n:Rat)):q.num.natAbs ≤ n.natAbs ∧ q.den ≤ m.natAbs:=by
  rw [eq_divInt hm h]
  exact ⟨num_le n hm,den_le n hm⟩
structure Sz (N:Nat) (q:Rat):Prop where
  n:q.num.natAbs ≤ N
  d:q.den ≤ N
theorem Sz.mono {M N:Nat} {q:Rat} (h:Sz M q) (l:M ≤ N):Sz N q:=⟨Nat.le_trans h.n l,Nat.le_trans h.d l⟩
theorem Sz.neg {N:Nat} {q:Rat} (h:Sz N q):Sz N (-q):=⟨by show (-q.num).natAbs ≤ N; rw [Int.natAbs_neg]; exact h.n,h.d⟩
theorem yp0 (a b:Rat) (f:Rat) (n:Int) (h:f * ((a.den:Int) * (b.den:Int):Int) = (n:Rat)) {M N:Nat} (ha:Sz M a) (hb:Sz N b) (hn:n.natAbs ≤ 2 * (M * N)):Sz (2 * (M * N)) f:=by
  have m0:(a.den:Int) * (b.den:Int) ≠ 0:=Int.mul_ne_zero (by have:=a.den_nz; omega) (by have:=b.den_nz; omega)
  obtain ⟨h1,h2⟩:=size_of m0 h
  refine ⟨Nat.le_trans h1 hn,Nat.le_trans h2 ?_⟩
  rw [Int.natAbs_mul]
  have:=Nat.mul_le_mul ha.d hb.d
  simp only [Int.natAbs_natCast]
  omega
theorem Sz.add {a b:Rat} {M N:Nat} (ha:Sz M a) (hb:Sz N b):Sz (2 * (M * N)) (a + b):=by
  refine yp0 a b _ (a.num * (b.den:Int) + b.num * (a.den:Int)) ?_ ha hb ?_
  · rw [Rat.intCast_mul,Rat.intCast_add,Rat.intCast_mul,Rat.intCast_mul,Rat.intCast_natCast,Rat.intCast_natCast,num_eq a,num_eq b]
    grind
  · have h1:=Nat.mul_le_mul ha.n hb.d
    have h2:=Nat.mul_le_mul hb.n ha.d
    have h3:=Int.natAbs_add_le (a.num * (b.den:Int)) (b.num * (a.den:Int))
    rw [Int.natAbs_mul,Int.natAbs_mul,Int.natAbs_natCast,Int.natAbs_natCast] at h3
    rw [Nat.mul_comm N M] at h2
    omega
theorem Sz.sub {a b:Rat} {M N:Nat} (ha:Sz M a) (hb:Sz N b):Sz (2 * (M * N)) (a - b):=by
  rw [Rat.sub_eq_add_neg]
  exact ha.add hb.neg
theorem Sz.mul {a b:Rat} {M N:Nat} (ha:Sz M a) (hb:Sz N b):Sz (2 * (M * N)) (a * b):=by
  refine yp0 a b _ (a.num * b.num) ?_ ha hb ?_
  · rw [Rat.intCast_mul,Rat.intCast_mul,Rat.intCast_natCast,Rat.intCast_natCast,num_eq a,num_eq b]
    grind
  · have h1:=Nat.mul_le_mul ha.n hb.n
    rw [Int.natAbs_mul]
    omega
end Fm
namespace Fm
theorem xc1 (t:Int) {b:Int} (hb:b ≠ 0):(Rat.divInt t b).den ∣ b.natAbs:=by
  have h:=congrArg Int.natAbs (wb2 t b hb)
  rw [Int.natAbs_mul,Int.natAbs_mul] at h
  have h2:(Rat.divInt t b).den ∣ (Rat.divInt t b).num.natAbs * b.natAbs:=⟨t.natAbs,by rw [h,Nat.mul_comm]; simp⟩
  have h3:Nat.Coprime (Rat.divInt t b).den (Rat.divInt t b).num.natAbs:=Nat.Coprime.symm (Rat.divInt t b).reduced
  exact h3.dvd_of_dvd_mul_left h2
theorem xo9 {q:Rat} {n:Int} {L:Nat} (hL:L ≠ 0) (h:q * (L:Rat) = (n:Rat)):q.den ∣ L:=by
  have e:q = Rat.divInt n (L:Int):=eq_divInt (by omega) (by rw [Rat.intCast_natCast]; exact h)
  rw [e]
  have:=xc1 n (b:=(L:Int)) (by omega)
  simpa using this
theorem yo6 {q:Rat} {L:Nat} (h:q.den ∣ L):q * (L:Rat) = ((q.num * ((L / q.den:Nat):Int):Int):Rat):=by
  obtain ⟨c,rfl⟩:=h
  have hd:0 < q.den:=Nat.pos_of_ne_zero q.den_nz
  rw [Nat.mul_div_cancel_left _ hd,Rat.intCast_mul,num_eq q,Rat.natCast_mul,Rat.intCast_natCast]
  grind
structure Cm (L B:Nat) (q:Rat):Prop where
  d:q.den ∣ L
  lo:-(B:Rat) ≤ q
  hi:q ≤ (B:Rat)
theorem xd6 {a b:Nat} (h:a ≤ b):(a:Rat) ≤ (b:Rat):=by
  rw [← Rat.intCast_natCast,← Rat.intCast_natCast]
  exact Rat.intCast_le_intCast.mpr (by omega)
theorem xd5 (a:Nat):(0:Rat) ≤ (a:Rat):=xd6 (Nat.zero_le a)
theorem Cm.mono {L B L' B':Nat} {q:Rat} (h:Cm L B q) (hl:L ∣ L') (hb:B ≤ B'):Cm L' B' q:=by
  have:=xd6 hb
  exact ⟨Nat.dvd_trans h.d hl,by have:=h.lo; grind,by have:=h.hi; grind⟩
theorem Cm.neg {L B:Nat} {q:Rat} (h:Cm L B q):Cm L B (-q):=⟨h.d,by have:=h.hi; grind,by have:=h.lo; grind⟩
theorem Cm.add {L B C:Nat} {p q:Rat} (hp:Cm L B p) (hq:Cm L C q):Cm L (B + C) (p + q):=by
  refine ⟨?_,?_,?_⟩
  · by_cases hL:L = 0
    · rw [hL]; exact Nat.dvd_zero _
    · refine xo9 hL (n:=p.num * ((L / p.den:Nat):Int) + q.num * ((L / q.den:Nat):Int)) ?_
      rw [Rat.intCast_add,← yo6 hp.d,← yo6 hq.d]
      grind
  · rw [Rat.natCast_add]; have:=hp.lo; have:=hq.lo; grind
  · rw [Rat.natCast_add]; have:=hp.hi; have:=hq.hi; grind
theorem Cm.sub {L B C:Nat} {p q:Rat} (hp:Cm L B p) (hq:Cm L C q):Cm L (B + C) (p - q):=by
  rw [Rat.sub_eq_add_neg]; exact hp.add hq.neg
theorem xo0 {a b B C:Rat} (h1:-B ≤ a) (h2:a ≤ B) (h3:-C ≤ b) (h4:b ≤ C):a * b ≤ B * C ∧ -(B * C) ≤ a * b:=by
  have k1:0 ≤ (B - a) * (C + b):=Rat.mul_nonneg (by grind) (by grind)
  have k2:0 ≤ (B + a) * (C - b):=Rat.mul_nonneg (by grind) (by grind)
  have k3:0 ≤ (B - a) * (C - b):=Rat.mul_nonneg (by grind) (by grind)
  have k4:0 ≤ (B + a) * (C + b):=Rat.mul_nonneg (by grind) (by grind)
  constructor <;> grind
theorem Cm.mul {L B M C:Nat} {p q:Rat} (hp:Cm L B p) (hq:Cm M C q):Cm (L * M) (B * C) (p * q):=by
  refine ⟨?_,?_,?_⟩
  · by_cases hL:L * M = 0
    · rw [hL]; exact Nat.dvd_zero _
    · refine xo9 hL (n:=(p.num * ((L / p.den:Nat):Int)) * (q.num * ((M / q.den:Nat):Int))) ?_
      rw [Rat.intCast_mul,← yo6 hp.d,← yo6 hq.d,Rat.natCast_mul]
      grind
  · rw [Rat.natCast_mul]; exact (xo0 hp.lo hp.hi hq.lo hq.hi).2
  · rw [Rat.natCast_mul]; exact (xo0 hp.lo hp.hi hq.lo hq.hi).1
theorem Cm.int {i:Int} {B:Nat} (h:i.natAbs ≤ B):Cm 1 B (i:Rat):=by
  refine ⟨by simp,?_,?_⟩
  · rw [← Rat.intCast_natCast,← Rat.intCast_neg]; exact Rat.intCast_le_intCast.mpr (by omega)
  · rw [← Rat.intCast_natCast]; exact Rat.intCast_le_intCast.mpr (by omega)
theorem Cm.zero {L B:Nat}:Cm L B 0:=by
  have:=xd5 B
  exact ⟨by simp,by grind,this⟩
theorem Cm.num {L B:Nat} {q:Rat} (h:Cm L B q):q.num.natAbs ≤ B * q.den:=by
  have hd:(0:Rat) ≤ (q.den:Rat):=xd5 _
  have e:=num_eq q
  have h1:(q.num:Rat) ≤ ((B * q.den:Nat):Rat):=by
    rw [e,Rat.natCast_mul]; exact Rat.mul_le_mul_of_nonneg_right h.hi hd
  have h2:-((B * q.den:Nat):Rat) ≤ (q.num:Rat):=by
    rw [e,Rat.natCast_mul,← Rat.neg_mul]; exact Rat.mul_le_mul_of_nonneg_right h.lo hd
  rw [← Rat.intCast_natCast] at h1 h2
  rw [← Rat.intCast_neg] at h2
  have h3:=Rat.intCast_le_intCast.mp h1
  have h4:=Rat.intCast_le_intCast.mp h2
  omega
theorem Cm.den {L B:Nat} {q:Rat} (h:Cm L B q) (hL:0 < L):q.den ≤ L:=Nat.le_of_dvd hL h.d
theorem Cm.sz {L B:Nat} {q:Rat} (h:Cm L B q) (hL:0 < L):Sz ((B + 1) * L) q:=by
  have h1:=h.num
  have h2:=h.den hL
  have h3:B * q.den ≤ B * L:=Nat.mul_le_mul_left _ h2
  have h4:(B + 1) * L = B * L + L:=by rw [Nat.add_mul,Nat.one_mul]
  exact ⟨by omega,by omega⟩
theorem Cm.of {q:Rat} {L B:Nat} (hd:q.den ∣ L) (hn:q.num.natAbs ≤ B * q.den):Cm L B q:=by
  have hp:(0:Rat) < (q.den:Rat):=by
    rw [← Rat.intCast_natCast]; exact Rat.intCast_pos.mpr (by have:=q.den_nz; omega)
  have e:=num_eq q
  have h1:(q.num:Rat) ≤ (B:Rat) * (q.den:Rat):=by
    rw [← Rat.natCast_mul,← Rat.intCast_natCast]; exact Rat.intCast_le_intCast.mpr (by omega)
  have h2:-((B:Rat) * (q.den:Rat)) ≤ (q.num:Rat):=by
    rw [← Rat.natCast_mul,← Rat.intCast_natCast,← Rat.intCast_neg]; exact Rat.intCast_le_intCast.mpr (by omega)
  rw [e] at h1 h2
  refine ⟨hd,?_,?_⟩
  · refine Rat.not_lt.mp fun c=>?_
    have:=Rat.mul_lt_mul_of_pos_right c hp
    rw [Rat.neg_mul] at this
    grind
  · refine Rat.not_lt.mp fun c=>?_
    have:=Rat.mul_lt_mul_of_pos_right c hp
    grind
theorem Cm.div {t:Int} {b L B:Nat} (hb:0 < b) (hd:b ∣ L) (ht:t.natAbs ≤ B * b):Cm L B (Rat.divInt t (b:Int)):=by
  have h1:=xc1 t (b:=(b:Int)) (by omega)
  have hc:=wb2 t (b:Int) (by omega)
  refine Cm.of (Nat.dvd_trans (by simpa using h1) hd) ?_
  have h2:(Rat.divInt t (b:Int)).num.natAbs * b = t.natAbs * (Rat.divInt t (b:Int)).den:=by
    have:=congrArg Int.natAbs hc
    rw [Int.natAbs_mul,Int.natAbs_mul] at this
    simpa using this
  refine Nat.le_of_mul_le_mul_right ?_ hb
  rw [h2]
  calc t.natAbs * (Rat.divInt t (b:Int)).den ≤ (B * b) * (Rat.divInt t (b:Int)).den:=Nat.mul_le_mul_right _ ht
    _ = B * (Rat.divInt t (b:Int)).den * b:=by rw [Nat.mul_assoc,Nat.mul_comm b,Nat.mul_assoc]
noncomputable def Dg (n:Nat) (q:Rat):Prop:=Sz (10 ^ n) q
theorem xl1 {a b:Nat} (h:a ≤ b):10 ^ a ≤ 10 ^ b:=Nat.pow_le_pow_right (by decide) h
theorem yb6 (a b:Nat):2 * (10 ^ a * 10 ^ b) ≤ 10 ^ (a + b + 1):=by
  rw [Nat.pow_succ,Nat.pow_add]
  omega
theorem Dg.mono {a b:Nat} {q:Rat} (h:Dg a q) (l:a ≤ b):Dg b q:=Sz.mono h (xl1 l)
theorem Dg.add {a b:Nat} {p q:Rat} (hp:Dg a p) (hq:Dg b q):Dg (a + b + 1) (p + q):=(Sz.add hp hq).mono (yb6 a b)
theorem Dg.sub {a b:Nat} {p q:Rat} (hp:Dg a p) (hq:Dg b q):Dg (a + b + 1) (p - q):=(Sz.sub hp hq).mono (yb6 a b)
theorem Dg.mul {a b:Nat} {p q:Rat} (hp:Dg a p) (hq:Dg b q):Dg (a + b + 1) (p * q):=(Sz.mul hp hq).mono (yb6 a b)
theorem Dg.neg {a:Nat} {p:Rat} (hp:Dg a p):Dg a (-p):=Sz.neg hp
theorem Dg.of {n:Nat} {t b:Int} (hb:b ≠ 0) (h1:t.natAbs ≤ 10 ^ n) (h2:b.natAbs ≤ 10 ^ n):Dg n (Rat.divInt t b):=⟨Nat.le_trans (num_le t hb) h1,Nat.le_trans (den_le t hb) h2⟩
theorem Dg.one {n:Nat}:Dg n 1:=⟨Nat.pow_pos (n:=n) (by decide),Nat.pow_pos (n:=n) (by decide)⟩
theorem Dg.int {n:Nat} {i:Int} (h:i.natAbs ≤ 10 ^ n):Dg n (i:Rat):=⟨h,Nat.pow_pos (n:=n) (by decide)⟩
noncomputable def absR (q:Rat):Rat:=⟨(q.num.natAbs:Int),q.den,q.den_nz,by simpa using q.reduced⟩
theorem zq7 (q:Rat):(absR q).num = ((q.num.natAbs:Nat):Int):=rfl
theorem zl2 {q:Rat} (h:0 ≤ q):absR q = q:=by
  have:=Rat.num_nonneg.mpr h
  exact Rat.ext (by rw [zq7]; omega) rfl
theorem zo2 {q:Rat} (h:q ≤ 0):absR q = -q:=by
  have h1:0 ≤ -q:=by grind
  have:=Rat.num_nonneg.mpr h1
  exact Rat.ext (by rw [zq7]; show _ = -q.num; have e:(-q).num = -q.num:=rfl; omega) rfl
theorem yf1 (q:Rat):0 ≤ absR q:=Rat.num_nonneg.mp (by rw [zq7]; omega)
theorem zj0 (q:Rat):(0 ≤ q ∧ absR q = q) ∨ (q ≤ 0 ∧ absR q = -q):=by
  rcases Rat.le_total (a:=0) (b:=q) with h | h
  · exact .inl ⟨h,zl2 h⟩
  · exact .inr ⟨h,zo2 h⟩
theorem Cm.abs {L B:Nat} {q:Rat} (h:Cm L B q):Cm L B (absR q):=by
  rcases zj0 q with ⟨_,e⟩ | ⟨_,e⟩
  · rw [e]; exact h
  · rw [e]; exact h.neg
theorem Dg.abs {n:Nat} {q:Rat} (h:Dg n q):Dg n (absR q):=⟨by rw [zq7]; exact h.n,h.d⟩
theorem Cm.dg {L B l b:Nat} {q:Rat} (h:Cm L B q) (hL:0 < L) (h1:L ≤ 10 ^ l) (h2:B ≤ 10 ^ b):Dg (b + l + 1) q:=by
  refine (h.sz hL).mono ?_
  have e:(B + 1) * L ≤ (10 ^ b + 10 ^ b) * 10 ^ l:=Nat.mul_le_mul (by have:=Nat.pow_pos (n:=b) (show 0 < 10 by decide); omega) h1
  have:=yb6 b l
  rw [Nat.add_mul (10 ^ b)] at e
  omega
end Fm
namespace Dl
open PySem PySem.Spec PyProof.Rows L2 Lx
inductive Sl where
  | dat (d:PyData)
  | own (ds:List PyData)
    | exc (C:Addr)
    | two (xs ys:List PyData)
    | fz (as:List Addr) (d:PyData)
    | mon (φ:PySem.W.Frag → Hp → V → Prop)
noncomputable abbrev DEn:=List (Option Sl)
noncomputable def slot:DEn → Nat → Option Sl
  | [],_=>none
  | x :: _,0=>x
  | _ :: xs,n + 1=>slot xs n
noncomputable def put (s:Option Sl):Nat → DEn → DEn
  | _,[]=>[]
  | 0,_ :: xs=>s :: xs
  | n + 1,x :: xs=>x :: put s n xs
theorem zj1 (s:Option Sl):∀ (i j:Nat) (δ:DEn),slot (put s i δ) j = if j = i ∧ i < δ.length then s else slot δ j
  | i,j,[]=>by cases i <;> simp [put,slot]
  | 0,0,x :: xs=>by simp [put,slot]
  | 0,j + 1,x :: xs=>by simp [put,slot]
  | i + 1,0,x :: xs=>by simp [put,slot]
  | i + 1,j + 1,x :: xs=>by
    have:=zj1 s i j xs
    simp only [put,slot,this,List.length_cons]
    simp
theorem zw8 (s:Option Sl):∀ (i:Nat) (δ:DEn),(put s i δ).length = δ.length
  | i,[]=>by cases i <;> rfl
  | 0,x :: xs=>rfl
  | i + 1,x :: xs=>by simp [put,zw8 s i xs]
theorem zr6 {K:PySem.W.Frag} {H H':Hp} {a:Addr} {xs:List V} (e:Same H H') (h:SqT K H a xs):SqT K H' a xs:=by
  rcases h with (h | ⟨o,h⟩) | h
  · exact .inl (.inl (e _ _ h))
  · exact .inl (.inr ⟨o,e _ _ h⟩)
  · exact .inr h
mutual
theorem zg4 {K:PySem.W.Frag} {H H':Hp} (s:Same H H'):∀ {x:V} {d:PyData},DV K H x d → DV K H' x d
  | _,_,.non=>.non
  | _,_,.bl b=>.bl b
  | _,_,.int i=>.int i
  | _,_,.str x=>.str x
  | _,_,.tup h hs=>.tup (zr6 s h) (zd8 s hs)
  | _,_,.lst h hs=>.lst (s.seq h) (zd8 s hs)
  | _,_,.dct h=>.dct (s _ _ h)
theorem zd8 {K:PySem.W.Frag} {H H':Hp} (s:Same H H'):∀ {xs:List V} {ds:List PyData},DVs K H xs ds → DVs K H' xs ds
  | _,_,.nil=>.nil
  | _,_,.cons h t=>.cons (zg4 s h) (zd8 s t)
end
mutual
noncomputable def yj1:PyData → Bool
  | .none=>true
  | .bool _=>true
  | .int _=>true
  | .str _=>true
  | .list _=>false
  | .tuple ds=>zi4 ds
  | .dict _=>true
noncomputable def zi4:List PyData → Bool
  | []=>true
  | d :: ds=>yj1 d && zi4 ds
end
noncomputable def Sub (G H:Hp):Prop:=∀ b,G b = H b ∨ (G b = none ∧ ∃ xs,H b = some (.lst xs))
theorem Sub.same {G H:Hp} (s:Sub G H):Same G H:=fun b o e=>by
  rcases s b with h | ⟨h,_⟩
  · rw [← h]; exact e
  · rw [h] at e; cases e
theorem Sub.refl (H:Hp):Sub H H:=fun _=>.inl rfl
theorem Sub.other {G H:Hp} (s:Sub G H) {b:Addr} {o:HO} (h:H b = some o) (n:∀ xs,o ≠ .lst xs):G b = some o:=by
  rcases s b with e | ⟨_,xs,e⟩
  · rw [e]; exact h
  · rw [h] at e; cases e; exact absurd rfl (n xs)
mutual
theorem xb9 {K:PySem.W.Frag} {G H:Hp} (s:∀ b o,H b = some o → (∀ xs,o ≠ .lst xs) → G b = some o):∀ {x:V} {d:PyData},DV K H x d → yj1 d = true → DV K G x d
  | _,_,.non,_=>.non
  | _,_,.bl b,_=>.bl b
  | _,_,.int i,_=>.int i
  | _,_,.str x,_=>.str x
  | _,_,.tup h hs,f=>.tup (by
      rcases h with (h | ⟨o,h⟩) | h
      · exact .inl (.inl (s _ _ h (by intro xs z; cases z)))
      · exact .inl (.inr ⟨o,s _ _ h (by intro xs z; cases z)⟩)
      · exact .inr h) (zm7 s hs f)
  | _,_,.lst _ _,f=>by cases f
  | _,_,.dct h,_=>.dct (s _ _ h (by intro xs z; cases z))
theorem zm7 {K:PySem.W.Frag} {G H:Hp} (s:∀ b o,H b = some o → (∀ xs,o ≠ .lst xs) → G b = some o):∀ {xs:List V} {ds:List PyData},DVs K H xs ds → zi4 ds = true → DVs K G xs ds
  | _,_,.nil,_=>.nil
  | _,_,.cons h t,f=>by
    simp only [zi4,Bool.and_eq_true] at f
    exact .cons (xb9 s h f.1) (zm7 s t f.2)
end
end Dl
namespace Lx
open PySem PySem.Spec PyProof.Rows L2
theorem DVs.len {K:PySem.W.Frag} {H:Hp}:∀ {xs:List V} {ds:List PyData},DVs K H xs ds → xs.length = ds.length
  | _,_,.nil=>rfl
  | _,_,.cons _ t=>congrArg (· + 1) (DVs.len t)
theorem DVs.at {K:PySem.W.Frag} {H:Hp}:∀ {xs:List V} {ds:List PyData} {i:Nat} {d:PyData},DVs K H xs ds → ds[i]? = some d → ∃ x,xs[i]? = some x ∧ DV K H x d
  | _,_,_,_,.nil,e=>by simp at e
  | _,_,0,_,.cons h _,e=>by
    simp at e
    subst e
    exact ⟨_,rfl,h⟩
  | _,_,i + 1,_,.cons _ t,e=>by
    obtain ⟨x,h1,h2⟩:=DVs.at (i:=i) t (by simpa using e)
    exact ⟨x,by simpa using h1,h2⟩
theorem DVs.append {K:PySem.W.Frag} {H:Hp}:∀ {xs ys:List V} {ds es:List PyData},DVs K H xs ds → DVs K H ys es → DVs K H (xs ++ ys) (ds ++ es)
  | _,_,_,_,.nil,h=>h
  | _,_,_,_,.cons r t,h=>.cons r (DVs.append t h)
theorem DVs.take {K:PySem.W.Frag} {H:Hp}:∀ {xs:List V} {ds:List PyData} (n:Nat),DVs K H xs ds → DVs K H (xs.take n) (ds.take n)
  | _,_,0,_=>by simp only [List.take_zero]; exact .nil
  | _,_,_ + 1,.nil=>.nil
  | _,_,n + 1,.cons r t=>.cons r (DVs.take n t)
theorem DVs.drop {K:PySem.W.Frag} {H:Hp}:∀ {xs:List V} {ds:List PyData} (n:Nat),DVs K H xs ds → DVs K H (xs.drop n) (ds.drop n)
  | _,_,0,h=>by simp only [List.drop_zero]; exact h
  | _,_,_ + 1,.nil=>.nil
  | _,_,n + 1,.cons _ t=>DVs.drop n t
theorem DVs.set {K:PySem.W.Frag} {H:Hp} {x:V} {d:PyData} (r:DV K H x d):∀ {xs:List V} {ds:List PyData} (i:Nat),DVs K H xs ds → DVs K H (xs.set i x) (ds.set i d)
  | _,_,_,.nil=>.nil
  | _,_,0,.cons _ t=>.cons r t
  | _,_,i + 1,.cons q t=>.cons q (DVs.set r i t)
end Lx
namespace Dl
open PySem PySem.Spec PyProof.Rows L2 Lx
inductive Rws (K:PySem.W.Frag) (G H:Hp):List Addr → List (List PyData) → Prop
  | nil:Rws K G H [] []
  | cons {b:Addr} {bs:List Addr} {vs:List V} {ds:List PyData} {dss:List (List PyData)}:H b = some (.lst vs) → DVs K G vs ds → Rws K G H bs dss → Rws K G H (b :: bs) (ds :: dss)
theorem Rws.mono {K:PySem.W.Frag} {G H G' H':Hp} (g:Same G G') (h:Same H H'):∀ {bs:List Addr} {dss:List (List PyData)},Rws K G H bs dss → Rws K G' H' bs dss
  | _,_,.nil=>.nil
  | _,_,.cons h1 h2 r=>.cons (h _ _ h1) (zd8 g h2) (r.mono g h)
theorem Rws.dv {K:PySem.W.Frag} {G H:Hp} (Gf:Hp) (g:Same G Gf):∀ {bs:List Addr} {dss:List (List PyData)},(∀ c ∈ bs,Gf c = H c) → Rws K G H bs dss → DVs K Gf (bs.map V.ref) (dss.map PyData.list)
  | _,_,_,.nil=>.nil
  | _,_,f,.cons h1 h2 r=>.cons (.lst (SqL.of (by rw [f _ List.mem_cons_self]; exact h1)) (zd8 g h2)) (r.dv Gf g fun c hc=>f c (List.mem_cons_of_mem _ hc))
inductive FzIs (K:PySem.W.Frag) (G:Hp):V → List Addr → PyData → Prop
  | pair {t a b:Addr} {vs ws:List V} {xs ys:List PyData}:SqT K G t [.ref a,.ref b] → a ≠ b → G a = some (.lst vs) → G b = some (.lst ws) → DVs K G vs xs → DVs K G ws ys → FzIs K G (.ref t) [a,b] (.tuple [.list xs,.list ys])
  | one {a:Addr} {vs:List V} {ds:List PyData}:G a = some (.lst vs) → DVs K G vs ds → FzIs K G (.ref a) [a] (.list ds)
  | gr {a:Addr} {cs:List Addr} {dss:List (List PyData)}:G a = some (.lst (cs.map V.ref)) → (a :: cs).Nodup → Rws K G G cs dss → FzIs K G (.ref a) (a :: a :: cs) (.list (dss.map PyData.list))
  | tg {t p a:Addr} {cs:List Addr} {vs:List V} {xs:List PyData} {dss:List (List PyData)}:SqT K G t [.ref p,.ref a] → (p :: a :: cs).Nodup → G p = some (.lst vs) → DVs K G vs xs → G a = some (.lst (cs.map V.ref)) → Rws K G G cs dss → FzIs K G (.ref t) (p :: p :: a :: cs) (.tuple [.list xs,.list (dss.map PyData.list)])
theorem FzIs.same {K:PySem.W.Frag} {G G':Hp} {v:V} {as:List Addr} {d:PyData} (s:Same G G') (h:FzIs K G v as d):FzIs K G' v as d:=by
  cases h with
  | pair h1 h2 h3 h4 h5 h6=>exact .pair (zr6 s h1) h2 (s _ _ h3) (s _ _ h4) (zd8 s h5) (zd8 s h6)
  | one h1 h2=>exact .one (s _ _ h1) (zd8 s h2)
  | gr h1 h2 h3=>exact .gr (s _ _ h1) h2 (h3.mono s s)
  | tg h1 h2 h3 h4 h5 h6=>exact .tg (zr6 s h1) h2 (s _ _ h3) (zd8 s h4) (s _ _ h5) (h6.mono s s)
theorem FzIs.dv {K:PySem.W.Frag} {G:Hp} {v:V} {as:List Addr} {d:PyData} (h:FzIs K G v as d):DV K G v d:=by
  cases h with
  | pair h1 h2 h3 h4 h5 h6=>exact .tup h1 (.cons (.lst (SqL.of h3) h5) (.cons (.lst (SqL.of h4) h6) .nil))
  | one h1 h2=>exact .lst (SqL.of h1) h2
  | gr h1 h2 h3=>exact .lst (SqL.of h1) (h3.dv G (Same.refl _) fun _ _=>rfl)
  | tg h1 h2 h3 h4 h5 h6=>exact .tup h1 (.cons (.lst (SqL.of h3) h4) (.cons (.lst (SqL.of h5) (h6.dv G (Same.refl _) fun _ _=>rfl)) .nil))
noncomputable def SlIs (K:PySem.W.Frag) (G H:Hp) (v:V):Sl → Prop
  | .dat d=>DV K G v d
  | .own ds=>∃ a vs,v = .ref a ∧ G a = none ∧ H a = some (.lst vs) ∧ DVs K G vs ds
  | .exc C=>∃ x,v = .ref x ∧ G x = some (.ext (ww9 x C))
  | .two _ _=>False
  | .fz as d=>FzIs K G v as d
  | .mon φ=>∀ G',Same G G' → φ K G' v
structure Sees (K:PySem.W.Frag) (H₀ G:Hp) (δ:DEn) (σ:L2.St) (H:Hp):Prop where
  old:Same H₀ G
  sub:Sub G H
  len:δ.length ≤ σ.length
  has:∀ i s,slot δ i = some s → ∃ v,σ[i]? = some (some v) ∧ SlIs K G H v s
  sep:∀ i j xs ys a,slot δ i = some (.own xs) → slot δ j = some (.own ys) → σ[i]? = some (some (.ref a)) → σ[j]? = some (some (.ref a)) → i = j
structure Ext (G H G' H':Hp):Prop where
  g:Same G G'
  h:Same H H'
  s:Sub G' H'
  n:∀ b o,G' b = some o → G b = some o ∨ H b = none
theorem Ext.refl {G H:Hp} (s:Sub G H):Ext G H G H:=⟨Same.refl _,Same.refl _,s,fun _ _ h=>.inl h⟩
theorem Ext.trans {G H G1 H1 G2 H2:Hp} (a:Ext G H G1 H1) (b:Ext G1 H1 G2 H2):Ext G H G2 H2 :=
  ⟨a.g.trans b.g,a.h.trans b.h,b.s,fun c o h=>by
    rcases b.n c o h with z | z
    · exact a.n c o z
    · exact .inr (a.h.free z)⟩
theorem Ext.keep {G H G' H':Hp} (e:Ext G H G' H') {a:Addr} (hg:G a = none) {o:HO} (hh:H a = some o):G' a = none:=by
  cases q:G' a with
  | none=>rfl
  | some u =>
    rcases e.n a u q with z | z
    · rw [hg] at z; cases z
    · rw [hh] at z; cases z
section
variable {K:PySem.W.Frag} {H₀ G H G' H':Hp} {δ:DEn} {σ:L2.St}
theorem SlIs.ext {v:V} {s:Sl} (e:Ext G H G' H') (h:SlIs K G H v s):SlIs K G' H' v s:=by
  cases s with
  | dat d=>exact zg4 e.g h
  | own ds =>
    obtain ⟨a,vs,rfl,hg,hh,hd⟩:=h
    exact ⟨a,vs,rfl,e.keep hg hh,e.h _ _ hh,zd8 e.g hd⟩
  | two xs ys=>exact h.elim
  | fz as d=>exact FzIs.same e.g h
  | mon φ=>exact fun G2 s2=>h G2 (e.g.trans s2)
  | exc C =>
    obtain ⟨x,rfl,hx⟩:=h
    exact ⟨x,rfl,e.g _ _ hx⟩
theorem Sees.ext (S:Sees K H₀ G δ σ H) (e:Ext G H G' H'):Sees K H₀ G' δ σ H' :=
  ⟨S.old.trans e.g,e.s,S.len,fun i s h=>by
    obtain ⟨v,h1,h2⟩:=S.has i s h
    exact ⟨v,h1,h2.ext e⟩,S.sep⟩
theorem Sees.refl (S:Sees K H₀ G δ σ H):Ext G H G H:=.refl S.sub
theorem Sees.oldH (S:Sees K H₀ G δ σ H):Same H₀ H:=S.old.trans S.sub.same
theorem zw2:∀ {δ:DEn} {i:Nat} {s:Sl},slot δ i = some s → i < δ.length
  | [],_,_,h=>by cases h
  | _ :: _,0,_,_=>Nat.zero_lt_succ _
  | _ :: xs,i + 1,s,h=>Nat.succ_lt_succ (zw2 (δ:=xs) (i:=i) (s:=s) h)
theorem Sees.setS {v:V} {s:Sl} (S:Sees K H₀ G δ σ H) (i:Nat) (h:SlIs K G H v s) (hs:∀ ds j es a,s = .own ds → slot δ j = some (.own es) → σ[j]? = some (some (.ref a)) → v ≠ .ref a):Sees K H₀ G (put (some s) i δ) (σ.set i (some v)) H:=by
  have look:∀ j u,slot (put (some s) i δ) j = some u → (j = i ∧ u = s ∧ (σ.set i (some v))[j]? = some (some v)) ∨ (j ≠ i ∧ slot δ j = some u ∧ (σ.set i (some v))[j]? = σ[j]?):=fun j u hj=>by
    rw [zj1] at hj
    split at hj
    · rename_i hc
      obtain ⟨rfl,hl⟩:=hc
      cases hj
      exact .inl ⟨rfl,rfl,by rw [List.getElem?_set_self (Nat.lt_of_lt_of_le hl S.len)]⟩
    · rename_i hc
      have hji:j ≠ i:=fun z=>hc ⟨z,by rw [← z]; exact zw2 hj⟩
      exact .inr ⟨hji,hj,by rw [List.getElem?_set_ne (Ne.symm hji)]⟩
  refine ⟨S.old,S.sub,by rw [zw8,List.length_set]; exact S.len,fun j u hj=>?_,fun j k xs ys a hj hk e1 e2=>?_⟩
  · rcases look j u hj with ⟨rfl,rfl,e⟩ | ⟨_,h1,e⟩
    · exact ⟨v,e,h⟩
    · rw [e]; exact S.has j u h1
  · rcases look j _ hj with ⟨rfl,z1,e3⟩ | ⟨n1,h1,e3⟩ <;> rcases look k _ hk with ⟨rfl,z2,e4⟩ | ⟨n2,h2,e4⟩
    · rfl
    · rw [e3] at e1; rw [e4] at e2
      cases e1
      exact absurd rfl (hs xs k ys a z1.symm h2 e2)
    · rw [e3] at e1; rw [e4] at e2
      cases e2
      exact absurd rfl (hs ys j xs a z2.symm h1 e1)
    · rw [e3] at e1; rw [e4] at e2
      exact S.sep j k xs ys a h1 h2 e1 e2
theorem Sees.setD {v:V} {d:PyData} (S:Sees K H₀ G δ σ H) (i:Nat) (h:DV K G v d):Sees K H₀ G (put (some (.dat d)) i δ) (σ.set i (some v)) H :=
  S.setS i (s:=.dat d) h fun _ _ _ _ z=>nomatch z
theorem Sees.ownAt (S:Sees K H₀ G δ σ H) {i:Nat} {ds:List PyData} (h:slot δ i = some (.own ds)):∃ a vs,σ[i]? = some (some (.ref a)) ∧ G a = none ∧ H a = some (.lst vs) ∧ DVs K G vs ds:=by
  obtain ⟨v,h1,a,vs,rfl,h2,h3,h4⟩:=S.has i _ h
  exact ⟨a,vs,h1,h2,h3,h4⟩
theorem Sees.setO {a:Addr} {vs:List V} {ds:List PyData} (S:Sees K H₀ G δ σ H) (e:Ext G H G' H') (i:Nat) (hn:H a = none) (hg:G' a = none) (hh:H' a = some (.lst vs)) (hd:DVs K G' vs ds) :
    Sees K H₀ G' (put (some (.own ds)) i δ) (σ.set i (some (.ref a))) H' :=
  (S.ext e).setS i (s:=.own ds) ⟨a,vs,rfl,hg,hh,hd⟩ fun _ j es b _ h1 h2 z=>by
    cases z
    obtain ⟨c,ws,q1,q2,q3,q4⟩:=S.ownAt h1
    rw [h2] at q1
    cases q1
    rw [hn] at q3; cases q3
theorem Sees.updO {i:Nat} {a:Addr} {ds es:List PyData} {vs:List V} (S:Sees K H₀ G δ σ H) (h:slot δ i = some (.own ds)) (ha:σ[i]? = some (some (.ref a))) (hd:DVs K G vs es) :
    Sees K H₀ G (put (some (.own es)) i δ) σ (upd H a (.lst vs)):=by
  obtain ⟨b,ws,q1,q2,q3,q4⟩:=S.ownAt h
  rw [ha] at q1
  cases q1
  have look:∀ j u,slot (put (some (.own es)) i δ) j = some u → (j = i ∧ u = .own es) ∨ (j ≠ i ∧ slot δ j = some u):=fun j u hj=>by
    rw [zj1] at hj
    split at hj
    · rename_i hc
      cases hj
      exact .inl ⟨hc.1,rfl⟩
    · rename_i hc
      exact .inr ⟨fun z=>hc ⟨z,by rw [← z]; exact zw2 hj⟩,hj⟩
  refine ⟨S.old,fun c=>?_,by rw [zw8]; exact S.len,fun j u hj=>?_,fun j k xs ys c hj hk e1 e2=>?_⟩
  · by_cases z:c = a
    · subst z
      exact .inr ⟨q2,vs,ze0⟩
    · rw [zd9 z]; exact S.sub c
  · rcases look j u hj with ⟨rfl,rfl⟩ | ⟨n1,h1⟩
    · exact ⟨_,ha,a,vs,rfl,q2,ze0,hd⟩
    · obtain ⟨v,h2,h3⟩:=S.has j u h1
      refine ⟨v,h2,?_⟩
      cases u with
      | dat d=>exact h3
      | two xs ys=>exact h3.elim
      | fz as d=>exact h3
      | mon φ=>exact h3
      | exc C=>exact h3
      | own xs =>
        obtain ⟨c,ws,rfl,p1,p2,p3⟩:=h3
        refine ⟨c,ws,rfl,p1,?_,p3⟩
        rw [zd9 (fun z=>?_)]
        · exact p2
        · subst z
          exact n1 (S.sep j i xs ds c h1 h h2 ha)
  · rcases look j _ hj with ⟨rfl,_⟩ | ⟨n1,h1⟩ <;> rcases look k _ hk with ⟨rfl,_⟩ | ⟨n2,h2⟩
    · rfl
    · exact S.sep j k ds ys c h h2 e1 e2
    · exact S.sep j k xs ds c h1 h e1 e2
    · exact S.sep j k xs ys c h1 h2 e1 e2
theorem Sees.frz {i:Nat} {ds:List PyData} (S:Sees K H₀ G δ σ H) (h:slot δ i = some (.own ds)):∃ G',Same G G' ∧ Sees K H₀ G' (put (some (.dat (.list ds))) i δ) σ H:=by
  obtain ⟨a,vs,q1,q2,q3,q4⟩:=S.ownAt h
  have sg:Same G (upd G a (.lst vs)):=fun b o e=>by rw [zd9 (ze7 e q2)]; exact e
  refine ⟨upd G a (.lst vs),sg,S.old.trans sg,fun b=>?_,by rw [zw8]; exact S.len,fun j u hj=>?_,fun j k xs ys c hj hk e1 e2=>?_⟩
  · by_cases z:b = a
    · subst z
      exact .inl (by rw [ze0,q3])
    · rw [zd9 z]; exact S.sub b
  · rw [zj1] at hj
    split at hj
    · rename_i hc
      cases hj
      exact ⟨_,by rw [hc.1]; exact q1,.lst (SqL.of ze0) (zd8 sg q4)⟩
    · rename_i hc
      have hji:j ≠ i:=fun z=>hc ⟨z,by rw [← z]; exact zw2 hj⟩
      obtain ⟨v,h2,h3⟩:=S.has j u hj
      refine ⟨v,h2,?_⟩
      cases u with
      | dat d=>exact zg4 sg h3
      | two xs ys=>exact h3.elim
      | fz as d=>exact FzIs.same sg h3
      | mon φ=>exact fun G2 s2=>h3 G2 (sg.trans s2)
      | exc C =>
        obtain ⟨x,rfl,hx⟩:=h3
        exact ⟨x,rfl,sg _ _ hx⟩
      | own xs =>
        obtain ⟨c,ws,rfl,p1,p2,p3⟩:=h3
        refine ⟨c,ws,rfl,?_,p2,zd8 sg p3⟩
        rw [zd9 (fun z=>?_)]
        · exact p1
        · subst z
          exact hji (S.sep j i xs ds c hj h h2 q1)
  · have look:∀ j u,slot (put (some (.dat (.list ds))) i δ) j = some (.own u) → slot δ j = some (.own u):=fun j u hj=>by
      rw [zj1] at hj
      split at hj
      · cases hj
      · exact hj
    exact S.sep j k xs ys c (look _ _ hj) (look _ _ hk) e1 e2
end
noncomputable abbrev DX:=Addr → Prop
noncomputable abbrev DE:=DX → DEn → (PyData → Prop) → Prop
noncomputable abbrev DL:=DX → DEn → (List PyData → Prop) → Prop
noncomputable abbrev DT:=DX → DEn → (Bool → Prop) → Prop
noncomputable def ExOk (H₀:Hp) (E:XK) (ex:DX):Prop:=∀ C H',Same H₀ H' → ex C → E (.ref C) none H'
section
variable (K:PySem.W.Frag) (H₀:Hp) (E:XK)
noncomputable def EvD (te:TE) (de:DE):Prop:=∀ ex δ σ G H Qd Q,ExOk H₀ E ex → Sees K H₀ G δ σ H → de ex δ Qd → (∀ v d G' H',Ext G H G' H' → DV K G' v d → Qd d → Q v H') → te σ H Q
noncomputable def BvD (te:TE) (de:DE):Prop:=∀ ex δ σ G H Qd Q,ExOk H₀ E ex → Sees K H₀ G δ σ H → de ex δ Qd → (∀ v d G' H',Ext G H G' H' → DV K H' v d → Qd d → Q v H') → te σ H Q
noncomputable def LvD (te:TE) (dl:DL):Prop:=∀ ex δ σ G H Qd Q,ExOk H₀ E ex → Sees K H₀ G δ σ H → dl ex δ Qd → (∀ a vs ds G' H',Ext G H G' H' → SqL K H' a vs → DVs K G' vs ds → Qd ds → Q (.ref a) H') → te σ H Q
noncomputable def OvD (te:TE) (dl:DL):Prop:=∀ ex δ σ G H Qd Q,ExOk H₀ E ex → Sees K H₀ G δ σ H → dl ex δ Qd → (∀ a vs ds G' H',Ext G H G' H' → H a = none → G' a = none → H' a = some (.lst vs) → DVs K G' vs ds → Qd ds → Q (.ref a) H') → te σ H Q
noncomputable def TvD (tt:TT) (dt:DT):Prop:=∀ ex δ σ G H Qd Q,ExOk H₀ E ex → Sees K H₀ G δ σ H → dt ex δ Qd → (∀ b G' H',Ext G H G' H' → Qd b → Q b H') → tt σ H Q
noncomputable def AvD (ta:TA) (dl:DL):Prop:=∀ ex δ σ G H Qd Q,ExOk H₀ E ex → Sees K H₀ G δ σ H → dl ex δ Qd → (∀ vs ds G' H',Ext G H G' H' → DVs K H' vs ds → Qd ds → Q vs H') → ta σ H Q
noncomputable def AvE (ta:TA) (n:Nat) (dl:DL):Prop:=∀ ex δ σ G H Qd Q,ExOk H₀ E ex → Sees K H₀ G δ σ H → dl ex δ Qd → (∀ vs ds G' H',Ext G H G' H' → DVs K G' vs ds → ds.length = n → Qd ds → Q vs H') → ta σ H Q
end
noncomputable def dVar (i:Nat) (_ex:DX) (δ:DEn) (Q:PyData → Prop):Prop:=match slot δ i with
  | some (.dat d)=>Q d
  | _=>False
noncomputable def xj7 (i:Nat) (_ex:DX) (δ:DEn) (Q:PyData → Prop):Prop:=match slot δ i with
  | some (.dat d)=>Q d
  | some (.own ds)=>Q (.list ds)
  | _=>False
noncomputable def wa9 (i:Nat) (_ex:DX) (δ:DEn) (Q:List PyData → Prop):Prop:=match slot δ i with
  | some (.dat (.list ds))=>Q ds
  | some (.own ds)=>Q ds
  | _=>False
noncomputable def dC (d:PyData) (_ex:DX) (_δ:DEn) (Q:PyData → Prop):Prop:=Q d
noncomputable def dFz (dl:DL) (ex:DX) (δ:DEn) (Q:PyData → Prop):Prop:=dl ex δ fun ds=>Q (.list ds)
noncomputable def dAsL (de:DE) (ex:DX) (δ:DEn) (Q:List PyData → Prop):Prop:=de ex δ fun d=>match d with
  | .list ds=>Q ds
  | _=>False
noncomputable def dNil (_ex:DX) (_δ:DEn) (Q:List PyData → Prop):Prop:=Q []
noncomputable def wb0 (de:DE) (dl:DL) (ex:DX) (δ:DEn) (Q:List PyData → Prop):Prop:=de ex δ fun d=>dl ex δ fun ds=>Q (d :: ds)
section
variable {K:PySem.W.Frag} {H₀:Hp} {E:XK} {te:TE} {de:DE} {dl:DL} {ta:TA}
theorem za1 (h:EvD K H₀ E te de):BvD K H₀ E te de:=fun ex δ σ G H Qd Q hx S q k =>
  h ex δ σ G H Qd Q hx S q fun v d G' H' e hd=>k v d G' H' e (zg4 e.s.same hd)
theorem zj5 (h:OvD K H₀ E te dl):EvD K H₀ E te (dFz dl):=fun ex δ σ G H Qd Q hx S q k =>
  h ex δ σ G H _ Q hx S q fun a vs ds G' H' e hn hg hh hd qd=>by
    have sg:Same G' (upd G' a (.lst vs)):=fun b o z=>by rw [zd9 (ze7 z hg)]; exact z
    refine k (.ref a) (.list ds) (upd G' a (.lst vs)) H' ⟨e.g.trans sg,e.h,fun b=>?_,fun b o z=>?_⟩ (.lst (SqL.of ze0) (zd8 sg hd)) qd
    · by_cases w:b = a
      · subst w; exact .inl (by rw [ze0,hh])
      · rw [zd9 w]; exact e.s b
    · by_cases w:b = a
      · subst w; exact .inr hn
      · rw [zd9 w] at z; exact e.n b o z
theorem zz0 (h:OvD K H₀ E te dl):LvD K H₀ E te dl:=fun ex δ σ G H Qd Q hx S q k =>
  h ex δ σ G H _ Q hx S q fun a vs ds G' H' e hn hg hh hd qd=>k a vs ds G' H' e (SqL.of hh) hd qd
theorem zk8 {G:Hp} {v:V} {ds:List PyData} (h:DV K G v (.list ds)):∃ a vs,v = .ref a ∧ SqL K G a vs ∧ DVs K G vs ds:=by
  cases h with
  | lst h1 h2=>exact ⟨_,_,rfl,h1,h2⟩
theorem zv6 {G:Hp} {v:V} {ds:List PyData} (h:DV K G v (.tuple ds)):∃ a vs,v = .ref a ∧ SqT K G a vs ∧ DVs K G vs ds:=by
  cases h with
  | tup h1 h2=>exact ⟨_,_,rfl,h1,h2⟩
theorem zf1 {G:Hp} {v:V} {i:Int} (h:DV K G v (.int i)):v = .int i:=by cases h; rfl
theorem zz1 {G:Hp} {v:V} {i:Bool} (h:DV K G v (.bool i)):v = .bl i:=by cases h; rfl
theorem zg7 {G:Hp} {v:V} {i:Str} (h:DV K G v (.str i)):v = .str i:=by cases h; rfl
theorem xo6 {G:Hp} {v:V} (h:DV K G v .none):v = .non:=by cases h; rfl
theorem yz4 (h:EvD K H₀ E te de):LvD K H₀ E te (dAsL de):=fun ex δ σ G H Qd Q hx S q k =>
  h ex δ σ G H _ Q hx S q fun v d G' H' e hd qd=>by
    cases d with
    | list ds =>
      obtain ⟨a,vs,rfl,h1,h2⟩:=zk8 hd
      exact k a vs ds G' H' e (e.s.same.seq h1) h2 qd
    | _=>exact qd.elim
theorem zb5 (i:Nat):EvD K H₀ E (tVar i) (dVar i):=fun ex δ σ G H Qd Q hx S q k=>by
  unfold dVar at q
  split at q
  · rename_i d hs
    obtain ⟨v,h1,h2⟩:=S.has i _ hs
    exact ⟨v,h1,k v d G H S.refl h2 q⟩
  · exact q.elim
theorem za3 (i:Nat):BvD K H₀ E (tVar i) (xj7 i):=fun ex δ σ G H Qd Q hx S q k=>by
  unfold xj7 at q
  split at q
  · rename_i d hs
    obtain ⟨v,h1,h2⟩:=S.has i _ hs
    exact ⟨v,h1,k v d G H S.refl (zg4 S.sub.same h2) q⟩
  · rename_i ds hs
    obtain ⟨a,vs,h1,h2,h3,h4⟩:=S.ownAt hs
    exact ⟨_,h1,k _ _ G H S.refl (.lst (SqL.of h3) (zd8 S.sub.same h4)) q⟩
  · exact q.elim
theorem zd3 (i:Nat):LvD K H₀ E (tVar i) (wa9 i):=fun ex δ σ G H Qd Q hx S q k=>by
  unfold wa9 at q
  split at q
  · rename_i ds hs
    obtain ⟨v,h1,h2⟩:=S.has i _ hs
    obtain ⟨a,vs,rfl,h3,h4⟩:=zk8 h2
    exact ⟨_,h1,k a vs ds G H S.refl (S.sub.same.seq h3) h4 q⟩
  · rename_i ds hs
    obtain ⟨a,vs,h1,h2,h3,h4⟩:=S.ownAt hs
    exact ⟨_,h1,k a vs ds G H S.refl (SqL.of h3) h4 q⟩
  · exact q.elim
theorem ev_c {v:V} {d:PyData} (h:∀ G:Hp,DV K G v d):EvD K H₀ E (tC v) (dC d):=fun ex δ σ G H Qd Q hx S q k=>k v d G H S.refl (h G) q
theorem zb3 {i:Int}:EvD K H₀ E (tC (.int i)) (dC (.int i)):=ev_c fun _=>.int i
theorem ym7 {i:Bool}:EvD K H₀ E (tC (.bl i)) (dC (.bool i)):=ev_c fun _=>.bl i
theorem zd1 {i:Str}:EvD K H₀ E (tC (.str i)) (dC (.str i)):=ev_c fun _=>.str i
theorem zq0:EvD K H₀ E (tC .non) (dC .none):=ev_c fun _=>.non
theorem za7:AvD K H₀ E tNil dNil:=fun ex δ σ G H Qd Q hx S q k=>k [] [] G H S.refl .nil q
theorem za2 (h:BvD K H₀ E te de) (t:AvD K H₀ E ta dl):AvD K H₀ E (zo8 te ta) (wb0 de dl):=fun ex δ σ G H Qd Q hx S q k =>
  h ex δ σ G H _ _ hx S q fun v d G1 H1 e1 hd q1=>t ex δ σ G1 H1 _ _ hx (S.ext e1) q1 fun vs ds G2 H2 e2 hds q2 =>
    k (v :: vs) (d :: ds) G2 H2 (e1.trans e2) (.cons (zg4 e2.h hd) hds) q2
theorem zd7:AvE K H₀ E tNil 0 dNil:=fun ex δ σ G H Qd Q hx S q k=>k [] [] G H S.refl .nil rfl q
theorem zb8 {n:Nat} (h:EvD K H₀ E te de) (t:AvE K H₀ E ta n dl):AvE K H₀ E (zo8 te ta) (n + 1) (wb0 de dl):=fun ex δ σ G H Qd Q hx S q k =>
  h ex δ σ G H _ _ hx S q fun v d G1 H1 e1 hd q1=>t ex δ σ G1 H1 _ _ hx (S.ext e1) q1 fun vs ds G2 H2 e2 hds hn q2 =>
    k (v :: vs) (d :: ds) G2 H2 (e1.trans e2) (.cons (zg4 e2.g hd) hds) (by rw [List.length_cons,hn]) q2
theorem ye4 {G H:Hp} {p:Addr} {xs:List V} (s:Sub G H) (hp:H p = none):Ext G H (upd G p (.tup xs)) (upd H p (.tup xs)):=by
  have hg:G p = none:=s.same.free hp
  refine ⟨fun b o z=>by rw [zd9 (ze7 z hg)]; exact z,fun b o z=>by rw [zd9 (ze7 z hp)]; exact z,fun b=>?_,fun b o z=>?_⟩
  · by_cases w:b = p
    · subst w; exact .inl (by rw [ze0,ze0])
    · rw [zd9 w,zd9 w]; exact s b
  · by_cases w:b = p
    · subst w; exact .inr hp
    · rw [zd9 w] at z; exact .inl z
theorem zo1 {G H:Hp} {p:Addr} {xs:List V} (s:Sub G H) (hp:H p = none):Ext G H G (upd H p (.lst xs)) ∧ G p = none:=by
  have hg:G p = none:=s.same.free hp
  refine ⟨⟨Same.refl _,fun b o z=>by rw [zd9 (ze7 z hp)]; exact z,fun b=>?_,fun b o z=>.inl z⟩,hg⟩
  by_cases w:b = p
  · subst w; exact .inr ⟨hg,xs,ze0⟩
  · rw [zd9 w]; exact s b
noncomputable def dTup (dl:DL) (ex:DX) (δ:DEn) (Q:PyData → Prop):Prop:=dl ex δ fun ds=>Q (.tuple ds)
noncomputable def dLst (dl:DL) (ex:DX) (δ:DEn) (Q:List PyData → Prop):Prop:=dl ex δ Q
theorem zh8 {n:Nat} (h:AvE K H₀ E ta n dl) (hn:n ≤ 1000):EvD K H₀ E (tTup ta) (dTup dl):=fun ex δ σ G H Qd Q hx S q k =>
  h ex δ σ G H _ _ hx S q fun vs ds G1 H1 e1 hd q0 q1=>⟨Nat.le_of_lt (ze3 (by rw [hd.len,q0]; exact hn)),fun p hp=>by
    have e2:=ye4 (xs:=vs) e1.s hp
    exact k (.ref p) (.tuple ds) _ _ (e1.trans e2) (.tup (SqT.of ze0) (zd8 e2.g hd)) q1⟩
theorem zi2 {n:Nat} (h:AvE K H₀ E ta n dl) (hn:n ≤ 1000):OvD K H₀ E (tLst ta) (dLst dl):=fun ex δ σ G H Qd Q hx S q k =>
  h ex δ σ G H _ _ hx S q fun vs ds G1 H1 e1 hd q0 q1=>⟨Nat.le_of_lt (ze3 (by rw [hd.len,q0]; exact hn)),fun p hp=>by
    obtain ⟨e2,hg⟩:=zo1 (xs:=vs) e1.s hp
    exact k p vs ds _ _ (e1.trans e2) (e1.h.free hp) hg ze0 hd q1⟩
end
section
variable {K:PySem.W.Frag} {H₀:Hp} {E:XK} {te ta tb:TE} {da db de:DE} {dl dk:DL} {t:TA} {tt tu:TT} {dt du:DT}
noncomputable abbrev RD2:=PyData → PyData → (PyData → Prop) → Prop
noncomputable def ROp (K:PySem.W.Frag) (r:R2) (rd:RD2):Prop:=∀ (G H:Hp) (x y:V) (dx dy:PyData) (Qd:PyData → Prop) (Q:VK),DV K H x dx → DV K H y dy → rd dx dy Qd → (∀ v d,DV K G v d → Qd d → Q v H) → r x y H Q
noncomputable def dOp (rd:RD2) (da db:DE) (ex:DX) (δ:DEn) (Q:PyData → Prop):Prop:=da ex δ fun x=>db ex δ fun y=>rd x y Q
theorem zb6 {r:R2} {rd:RD2} (hr:ROp K r rd) (ha:BvD K H₀ E ta da) (hb:BvD K H₀ E tb db):EvD K H₀ E (tOp r ta tb) (dOp rd da db):=fun ex δ σ G H Qd Q hx S q k =>
  ha ex δ σ G H _ _ hx S q fun x dx G1 H1 e1 h1 q1=>hb ex δ σ G1 H1 _ _ hx (S.ext e1) q1 fun y dy G2 H2 e2 h2 q2 =>
    hr G2 H2 x y dx dy Qd Q (zg4 e2.h h1) h2 q2 fun v d hv qd=>k v d G2 H2 (e1.trans e2) hv qd
noncomputable def oI (C:Int → Int → Prop) (f:Int → Int → Int) (x y:PyData) (Q:PyData → Prop):Prop:=match x,y with
  | .int i,.int j=>C i j ∧ Q (.int (f i j))
  | _,_=>False
noncomputable def oI0 (f:Int → Int → Int) (x y:PyData) (Q:PyData → Prop):Prop:=match x,y with
  | .int i,.int j=>Q (.int (f i j))
  | _,_=>False
noncomputable def oB0 (f:Int → Int → Bool) (x y:PyData) (Q:PyData → Prop):Prop:=match x,y with
  | .int i,.int j=>Q (.bool (f i j))
  | _,_=>False
theorem ro_i {C:Int → Int → Prop} {f:Int → Int → Int}:ROp K (rI C fun i j=>.int (f i j)) (oI C f):=by
  intro G H x y dx dy Qd Q hx hy q k
  unfold oI at q
  split at q
  · cases zf1 hx; cases zf1 hy
    exact ⟨_,_,rfl,rfl,q.1,k _ _ (.int _) q.2⟩
  · exact q.elim
theorem zh5 {f:Int → Int → Int}:ROp K (rI0 fun i j=>.int (f i j)) (oI0 f):=by
  intro G H x y dx dy Qd Q hx hy q k
  unfold oI0 at q
  split at q
  · cases zf1 hx; cases zf1 hy
    exact ⟨_,_,rfl,rfl,k _ _ (.int _) q⟩
  · exact q.elim
theorem zl7 {f:Int → Int → Bool}:ROp K (rI0 fun i j=>.bl (f i j)) (oB0 f):=by
  intro G H x y dx dy Qd Q hx hy q k
  unfold oB0 at q
  split at q
  · cases zf1 hx; cases zf1 hy
    exact ⟨_,_,rfl,rfl,k _ _ (.bl _) q⟩
  · exact q.elim
noncomputable def oEq (x y:PyData) (Q:PyData → Prop):Prop:=match x,y with
  | .int i,.int j=>Q (.bool (decide (i = j)))
  | .str i,.str j=>Q (.bool (decide (i = j)))
  | .bool i,.bool j=>Q (.bool (decide (i = j)))
  | _,_=>False
noncomputable def oNe (x y:PyData) (Q:PyData → Prop):Prop:=match x,y with
  | .int i,.int j=>Q (.bool (!decide (i = j)))
  | .str i,.str j=>Q (.bool (!decide (i = j)))
  | .bool i,.bool j=>Q (.bool (!decide (i = j)))
  | _,_=>False
theorem zg9:ROp K rEq oEq:=by
  intro G H x y dx dy Qd Q hx hy q k
  unfold oEq at q
  split at q
  · cases zf1 hx; cases zf1 hy
    refine ⟨rfl,k _ _ (.bl _) ?_⟩
    simpa using q
  · cases zg7 hx; cases zg7 hy
    refine ⟨rfl,k _ _ (.bl _) ?_⟩
    simpa using q
  · cases zz1 hx; cases zz1 hy
    refine ⟨rfl,k _ _ (.bl _) ?_⟩
    simpa using q
  · exact q.elim
theorem yl3:ROp K rNe oNe:=by
  intro G H x y dx dy Qd Q hx hy q k
  unfold oNe at q
  split at q
  · cases zf1 hx; cases zf1 hy
    refine ⟨rfl,k _ _ (.bl _) ?_⟩
    simpa using q
  · cases zg7 hx; cases zg7 hy
    refine ⟨rfl,k _ _ (.bl _) ?_⟩
    simpa using q
  · cases zz1 hx; cases zz1 hy
    refine ⟨rfl,k _ _ (.bl _) ?_⟩
    simpa using q
  · exact q.elim
noncomputable def oEqD (x y:PyData) (Q:PyData → Prop):Prop:=∃ (α:Type) (e:Enc α) (a b:α),x = e.d a ∧ y = e.d b ∧ ∀ k:Bool,(k = true ↔ a = b) → Q (.bool k)
noncomputable def oNeD (x y:PyData) (Q:PyData → Prop):Prop:=∃ (α:Type) (e:Enc α) (a b:α),x = e.d a ∧ y = e.d b ∧ ∀ k:Bool,(k = true ↔ a = b) → Q (.bool !k)
theorem xm0:ROp K (rEqD K false) oEqD:=by
  rintro G H x y dx dy Qd Q hx hy ⟨α,e,a,b,rfl,rfl,q⟩ k
  exact ⟨α,e,a,b,hx,hy,fun c hc=>k _ _ (.bl _) (q c hc)⟩
theorem zw6:ROp K (rEqD K true) oNeD:=by
  rintro G H x y dx dy Qd Q hx hy ⟨α,e,a,b,rfl,rfl,q⟩ k
  exact ⟨α,e,a,b,hx,hy,fun c hc=>k _ _ (.bl _) (q c hc)⟩
noncomputable def oInD (x y:PyData) (Q:PyData → Prop):Prop:=∃ (α:Type) (e:Enc α) (a:α) (bs:List α),x = e.d a ∧ y = .list (bs.map e.d) ∧ ∀ k:Bool,(k = true ↔ a ∈ bs) → Q (.bool k)
theorem xl9:ROp K (rInD K false) oInD:=by
  rintro G H x y dx dy Qd Q hx hy ⟨α,e,a,bs,rfl,rfl,q⟩ k
  exact ⟨α,e,a,bs,hx,hy,fun c hc=>k _ _ (.bl _) (q c hc)⟩
noncomputable def oIsN (neg:Bool) (x y:PyData) (Q:PyData → Prop):Prop:=match y with
  | .none=>(match x with
    | .none=>Q (.bool (!neg))
    | _=>Q (.bool neg))
  | _=>False
theorem wo7 {H:Hp} {x:V} {d:PyData} (h:DV K H x d):(x = .non ↔ d = .none):=by
  cases h <;> simp
theorem yw9:ROp K (fun x y H Q=>y = .non ∧ Q (.bl (decide (x = .non))) H) (oIsN false):=by
  intro G H x y dx dy Qd Q hx hy q k
  cases dy with
  | none =>
    refine ⟨xo6 hy,k _ _ (.bl _) ?_⟩
    cases dx with
    | none=>rw [decide_eq_true (xo6 hx)]; exact q
    | _=>rw [decide_eq_false (fun z=>by have:=(wo7 hx).mp z; cases this)]; exact q
  | _=>exact q.elim
noncomputable def dNeg (da:DE) (ex:DX) (δ:DEn) (Q:PyData → Prop):Prop:=da ex δ fun x=>match x with
  | .int i=>Q (.int (-i))
  | _=>False
theorem xo5 (ha:BvD K H₀ E ta da):EvD K H₀ E (tUn (rU fun i=>.int (-i)) ta) (dNeg da):=fun ex δ σ G H Qd Q hx S q k =>
  ha ex δ σ G H _ _ hx S q fun x dx G1 H1 e1 h1 q1=>by
    cases dx with
    | int i =>
      cases zf1 h1
      exact ⟨_,rfl,k _ _ G1 H1 e1 (.int _) q1⟩
    | _=>exact q1.elim
theorem ev_k {v:Int} (h:EvD K H₀ E te de) (hk:∀ ex δ Q,Q (.int v) → de ex δ Q):EvD K H₀ E te (dC (.int v)):=fun ex δ σ G H Qd Q hx S q k=>h ex δ σ G H Qd Q hx S (hk ex δ Qd q) k
noncomputable def dMap (f:Int → Int) (da:DE) (ex:DX) (δ:DEn) (Q:PyData → Prop):Prop:=da ex δ fun x=>match x with
  | .int i=>Q (.int (f i))
  | _=>False
theorem zq1 {k:Int} (hk:xk6 0 k) (ha:BvD K H₀ E ta da) (hb:EvD K H₀ E tb (dC (.int k))):EvD K H₀ E (tOp (rI xk6 fun i j=>.int (i / j)) ta tb) (dMap (fun i=>i / k) da):=fun ex δ σ G H Qd Q hx S q k' =>
  ha ex δ σ G H _ _ hx S q fun x dx G1 H1 e1 h1 q1=>hb ex δ σ G1 H1 (fun d=>d = .int k) _ hx (S.ext e1) rfl fun y dy G2 H2 e2 h2 hy=>by
    subst hy
    cases zf1 h2
    cases dx with
    | int i=>cases zf1 h1; exact ⟨_,_,rfl,rfl,hk,k' _ _ G2 H2 (e1.trans e2) (.int _) q1⟩
    | _=>exact q1.elim
theorem zk4 {k:Int} (hk:0 < k) (ha:BvD K H₀ E ta da) (hb:EvD K H₀ E tb (dC (.int k))):EvD K H₀ E (tOp (rI (fun _ j=>0 < j) fun i j=>.int (i % j)) ta tb) (dMap (fun i=>i % k) da):=fun ex δ σ G H Qd Q hx S q k' =>
  ha ex δ σ G H _ _ hx S q fun x dx G1 H1 e1 h1 q1=>hb ex δ σ G1 H1 (fun d=>d = .int k) _ hx (S.ext e1) rfl fun y dy G2 H2 e2 h2 hy=>by
    subst hy
    cases zf1 h2
    cases dx with
    | int i=>cases zf1 h1; exact ⟨_,_,rfl,rfl,hk,k' _ _ G2 H2 (e1.trans e2) (.int _) q1⟩
    | _=>exact q1.elim
noncomputable def dIxL (dl:DL) (db:DE) (ex:DX) (δ:DEn) (Q:PyData → Prop):Prop:=dl ex δ fun ds=>db ex δ fun y=>match y with
  | .int i=>∃ d,atI ds i = some d ∧ Q d
  | _=>False
theorem zy5 {G:Hp} {vs:List V} {ds:List PyData} {i:Int} {d:PyData} (h:DVs K G vs ds) (e:atI ds i = some d):∃ v,atI vs i = some v ∧ DV K G v d:=by
  unfold atI at e ⊢
  rw [h.len]
  cases q:ixN ds.length i with
  | none=>rw [q] at e; cases e
  | some j =>
    rw [q] at e
    exact h.at e
theorem ze5 (ha:LvD K H₀ E ta dl) (hb:BvD K H₀ E tb db):EvD K H₀ E (tOp (rIxL K) ta tb) (dIxL dl db):=fun ex δ σ G H Qd Q hx S q k =>
  ha ex δ σ G H _ _ hx S q fun a vs ds G1 H1 e1 h1 h2 q1=>hb ex δ σ G1 H1 _ _ hx (S.ext e1) q1 fun y dy G2 H2 e2 h3 q2=>by
    cases dy with
    | int i =>
      obtain ⟨d,z,q2⟩:=q2
      cases zf1 h3
      obtain ⟨v,z1,z2⟩:=zy5 h2 z
      exact ⟨a,vs,i,v,rfl,rfl,e2.h.seq h1,z1,k v d G2 H2 (e1.trans e2) (zg4 e2.g z2) q2⟩
    | _=>exact q2.elim
noncomputable def nth:List PyData → Nat → Option PyData
  | [],_=>none
  | d :: _,0=>some d
  | _ :: ds,n + 1=>nth ds n
theorem yy6:∀ {ds:List PyData} {k:Nat} {d:PyData},nth ds k = some d → ds[k]? = some d
  | [],_,_,h=>by cases h
  | d :: _,0,_,h=>by simpa [nth] using h
  | _ :: ds,k + 1,d,h=>by simpa using yy6 (ds:=ds) (k:=k) (d:=d) h
noncomputable def dIxK (k:Nat) (da:DE) (ex:DX) (δ:DEn) (Q:PyData → Prop):Prop:=da ex δ fun x=>match x with
  | .tuple ds=>(match nth ds k with
    | some d=>Q d
    | none=>False)
  | _=>False
theorem zc3 (m:Nat) (ha:EvD K H₀ E ta da):EvD K H₀ E (tOp (rIxT K) ta (tC (.int (m:Int)))) (dIxK m da):=fun ex δ σ G H Qd Q hx S q k =>
  ha ex δ σ G H _ _ hx S q fun x dx G1 H1 e1 h1 q1=>by
    cases dx with
    | tuple ds =>
      dsimp only at q1
      split at q1
      · rename_i d z
        obtain ⟨a,vs,rfl,h2,h3⟩:=zv6 h1
        obtain ⟨v,z1,z2⟩:=zy5 h3 (zk9 (yy6 z))
        exact ⟨a,vs,_,v,rfl,rfl,zr6 e1.s.same h2,z1,k v _ G1 H1 e1 z2 q1⟩
      · exact q1.elim
    | _=>exact q1.elim
noncomputable abbrev RDc:=List PyData → (PyData → Prop) → Prop
noncomputable def RCb (K:PySem.W.Frag) (r:List V → Hp → VK → Prop) (rd:RDc):Prop:=∀ (G H:Hp) (xs:List V) (ds:List PyData) (Qd:PyData → Prop) (Q:VK),DVs K H xs ds → rd ds Qd → (∀ v d,DV K G v d → Qd d → Q v H) → r xs H Q
noncomputable def dCb (rd:RDc) (dl:DL) (ex:DX) (δ:DEn) (Q:PyData → Prop):Prop:=dl ex δ fun ds=>rd ds Q
theorem ze8 {r:List V → Hp → VK → Prop} {rd:RDc} (hr:RCb K r rd) (ha:AvD K H₀ E t dl):EvD K H₀ E (tCB r t) (dCb rd dl):=fun ex δ σ G H Qd Q hx S q k =>
  ha ex δ σ G H _ _ hx S q fun vs ds G1 H1 e1 h1 q1=>hr G1 H1 vs ds Qd Q h1 q1 fun v d hv qd=>k v d G1 H1 e1 hv qd
noncomputable def bAbs (ds:List PyData) (Q:PyData → Prop):Prop:=match ds with
  | [.int i]=>Q (.int (if i < 0 then -i else i))
  | _=>False
noncomputable def bMin (ds:List PyData) (Q:PyData → Prop):Prop:=match ds with
  | [.int i,.int j]=>Q (.int (if j < i then j else i))
  | _=>False
noncomputable def bMax (ds:List PyData) (Q:PyData → Prop):Prop:=match ds with
  | [.int i,.int j]=>Q (.int (if j > i then j else i))
  | _=>False
noncomputable def bLen (ds:List PyData) (Q:PyData → Prop):Prop:=match ds with
  | [.list xs]=>Q (.int xs.length)
  | [.tuple xs]=>Q (.int xs.length)
  | _=>False
noncomputable def bInt (ds:List PyData) (Q:PyData → Prop):Prop:=match ds with
  | [.int i]=>Q (.int i)
  | [.bool b]=>Q (.int (if b then 1 else 0))
  | _=>False
theorem dvs1 {H:Hp} {xs:List V} {d:PyData} (h:DVs K H xs [d]):∃ x,xs = [x] ∧ DV K H x d:=by
  cases h with
  | cons h t=>cases t; exact ⟨_,rfl,h⟩
theorem dvs2 {H:Hp} {xs:List V} {d e:PyData} (h:DVs K H xs [d,e]):∃ x y,xs = [x,y] ∧ DV K H x d ∧ DV K H y e:=by
  cases h with
  | cons h t=>cases t with
    | cons h2 t=>cases t; exact ⟨_,_,rfl,h,h2⟩
theorem zz9:RCb K (fun xs H Q=>∃ i,xs = [.int i] ∧ Q (.int (if i < 0 then -i else i)) H) bAbs:=by
  intro G H xs ds Qd Q h q k
  unfold bAbs at q
  split at q
  · obtain ⟨x,rfl,hx⟩:=dvs1 h
    cases zf1 hx
    exact ⟨_,rfl,k _ _ (.int _) q⟩
  · exact q.elim
theorem xm1:RCb K (fun xs H Q=>∃ i j,xs = [.int i,.int j] ∧ Q (.int (if j < i then j else i)) H) bMin:=by
  intro G H xs ds Qd Q h q k
  unfold bMin at q
  split at q
  · obtain ⟨x,y,rfl,hx,hy⟩:=dvs2 h
    cases zf1 hx; cases zf1 hy
    exact ⟨_,_,rfl,k _ _ (.int _) q⟩
  · exact q.elim
theorem xm2:RCb K (fun xs H Q=>∃ i j,xs = [.int i,.int j] ∧ Q (.int (if j > i then j else i)) H) bMax:=by
  intro G H xs ds Qd Q h q k
  unfold bMax at q
  split at q
  · obtain ⟨x,y,rfl,hx,hy⟩:=dvs2 h
    cases zf1 hx; cases zf1 hy
    exact ⟨_,_,rfl,k _ _ (.int _) q⟩
  · exact q.elim
theorem zf9:RCb K (fun xs H Q=>∃ p ys,xs = [.ref p] ∧ (SqL K H p ys ∨ SqT K H p ys) ∧ Q (.int ys.length) H) bLen:=by
  intro G H xs ds Qd Q h q k
  unfold bLen at q
  split at q
  · obtain ⟨x,rfl,hx⟩:=dvs1 h
    obtain ⟨a,vs,rfl,h1,h2⟩:=zk8 hx
    exact ⟨a,vs,rfl,.inl h1,k _ _ (.int _) (by rw [h2.len]; exact q)⟩
  · obtain ⟨x,rfl,hx⟩:=dvs1 h
    obtain ⟨a,vs,rfl,h1,h2⟩:=zv6 hx
    exact ⟨a,vs,rfl,.inr h1,k _ _ (.int _) (by rw [h2.len]; exact q)⟩
  · exact q.elim
theorem xm3:RCb K (fun xs H Q=>(∃ i,xs = [.int i] ∧ Q (.int i) H) ∨ ∃ k,xs = [.bl k] ∧ Q (.int (if k then 1 else 0)) H) bInt:=by
  intro G H xs ds Qd Q h q k
  unfold bInt at q
  split at q
  · obtain ⟨x,rfl,hx⟩:=dvs1 h
    cases zf1 hx
    exact .inl ⟨_,rfl,k _ _ (.int _) q⟩
  · obtain ⟨x,rfl,hx⟩:=dvs1 h
    cases zz1 hx
    exact .inr ⟨_,rfl,k _ _ (.int _) q⟩
  · exact q.elim
noncomputable def tyD:PyData → String
  | .none=>"NoneType"
  | .bool _=>"bool"
  | .int _=>"int"
  | .str _=>"str"
  | .list _=>"list"
  | .tuple _=>"tuple"
  | .dict _=>"dict"
noncomputable def isD (n:String) (d:PyData):Bool:=tyD d == n || (n == "int" && tyD d == "bool")
noncomputable abbrev DO:=DX → DEn → (Option Int → Prop) → Prop
noncomputable def OvP (K:PySem.W.Frag) (H₀:Hp) (E:XK) (to:TO) (d:DO):Prop:=∀ ex δ σ G H Qd Q,ExOk H₀ E ex → Sees K H₀ G δ σ H → d ex δ Qd → (∀ o G' H',Ext G H G' H' → Qd o → Q o H') → to σ H Q
noncomputable def dNoP (_ex:DX) (_δ:DEn) (Q:Option Int → Prop):Prop:=Q none
noncomputable def wp8 (de:DE) (ex:DX) (δ:DEn) (Q:Option Int → Prop):Prop:=de ex δ fun x=>match x with
  | .int i=>Q (some i)
  | _=>False
theorem yd3:OvP K H₀ E tNoPart dNoP:=fun ex δ σ G H Qd Q hx S q k=>k none G H S.refl q
theorem zj8 (h:BvD K H₀ E te de):OvP K H₀ E (we4 te) (wp8 de):=fun ex δ σ G H Qd Q hx S q k =>
  h ex δ σ G H _ _ hx S q fun x dx G1 H1 e1 h1 q1=>by
    cases dx with
    | int i =>
      cases zf1 h1
      exact ⟨_,rfl,k _ G1 H1 e1 q1⟩
    | _=>exact q1.elim
noncomputable def cutL {α:Type} (xs:List α) (lo hi:Option Int):List α:=(xs.drop (HT.sIx xs.length 0 lo)).take (HT.sIx xs.length xs.length hi - HT.sIx xs.length 0 lo)
theorem zv7 {α β:Type} (f:α → β) (xs:List α) (lo hi:Option Int):cutL (xs.map f) lo hi = (cutL xs lo hi).map f:=by
  unfold cutL
  rw [List.length_map,List.map_take,List.map_drop]
theorem wb1 {α:Type} (xs:List α) (k:Nat):cutL xs none (some (k:Int)) = xs.take k:=by
  unfold cutL
  rw [HT.sIx_none,List.drop_zero,Nat.sub_zero,HT.sIx_nat,List.take_eq_take_iff.mpr]
  omega
theorem yn2 {α:Type} (xs:List α) (k:Nat):cutL xs (some (k:Int)) none = xs.drop k:=by
  unfold cutL
  rw [HT.sIx_none,HT.sIx_nat]
  by_cases h:k ≤ xs.length
  · rw [Nat.min_eq_left h,List.take_of_length_le (by rw [List.length_drop]; omega)]
  · have e:min k xs.length = xs.length:=by omega
    rw [e,List.drop_length,List.take_nil,List.drop_eq_nil_of_le (by omega)]
noncomputable def dSl (dl:DL) (d1 d2:DO) (ex:DX) (δ:DEn) (Q:List PyData → Prop):Prop:=dl ex δ fun ds=>d1 ex δ fun lo=>d2 ex δ fun hi=>Q (cutL ds lo hi)
theorem wa2 {G:Hp} {vs:List V} {ds:List PyData} {lo hi:Option Int} (h:DVs K G vs ds):DVs K G (cutV vs lo hi) (cutL ds lo hi):=by
  unfold cutV cutL
  rw [h.len]
  exact (h.drop _).take _
theorem yl7 {t1 t2:TO} {d1 d2:DO} (ha:LvD K H₀ E te dl) (h1:OvP K H₀ E t1 d1) (h2:OvP K H₀ E t2 d2):OvD K H₀ E (tSl (rSlL K) te t1 t2) (dSl dl d1 d2):=fun ex δ σ G H Qd Q hx S q k =>
  ha ex δ σ G H _ _ hx S q fun a vs ds G1 H1 e1 g1 g2 q1=>h1 ex δ σ G1 H1 _ _ hx (S.ext e1) q1 fun lo G2 H2 e2 q2=>h2 ex δ σ G2 H2 _ _ hx (S.ext (e1.trans e2)) q2 fun hi G3 H3 e3 q3 =>
    ⟨a,vs,rfl,(e2.trans e3).h.seq g1,fun p hp=>by
      obtain ⟨e4,hg⟩:=zo1 (xs:=cutV vs lo hi) e3.s hp
      have e0:=e1.trans (e2.trans e3)
      exact k p _ _ _ _ (e0.trans e4) (e0.h.free hp) hg ze0 (zd8 (e2.trans e3).g (wa2 g2)) q3⟩
noncomputable def dAsB (de:DE) (ex:DX) (δ:DEn) (Q:Bool → Prop):Prop:=de ex δ fun x=>match x with
  | .bool b=>Q b
  | _=>False
theorem tv_b (h:BvD K H₀ E te de):TvD K H₀ E (tB te) (dAsB de):=fun ex δ σ G H Qd Q hx S q k =>
  h ex δ σ G H _ _ hx S q fun x dx G1 H1 e1 h1 q1=>by
    cases dx with
    | bool i =>
      cases zz1 h1
      exact ⟨_,rfl,k _ G1 H1 e1 q1⟩
    | _=>exact q1.elim
theorem zc0 (h:BvD K H₀ E te de):TvD K H₀ E (xr5 te) (dAsB de):=fun ex δ σ G H Qd Q hx S q k =>
  h ex δ σ G H _ _ hx S q fun x dx G1 H1 e1 h1 q1=>by
    cases dx with
    | bool i =>
      cases zz1 h1
      exact ⟨_,rfl,k _ G1 H1 e1 q1⟩
    | _=>exact q1.elim
noncomputable def dAnd (dt du:DT) (ex:DX) (δ:DEn) (Q:Bool → Prop):Prop:=dt ex δ fun b=>if b = true then du ex δ Q else Q false
noncomputable def dOr (dt du:DT) (ex:DX) (δ:DEn) (Q:Bool → Prop):Prop:=dt ex δ fun b=>if b = true then Q true else du ex δ Q
noncomputable def dNot (dt:DT) (ex:DX) (δ:DEn) (Q:Bool → Prop):Prop:=dt ex δ fun b=>Q (!b)
theorem yo3 (h1:TvD K H₀ E tt dt) (h2:TvD K H₀ E tu du):TvD K H₀ E (tAnd tt tu) (dAnd dt du):=fun ex δ σ G H Qd Q hx S q k =>
  h1 ex δ σ G H _ _ hx S q fun b G1 H1 e1 q1=>by
    cases b with
    | true=>exact h2 ex δ σ G1 H1 _ _ hx (S.ext e1) q1 fun c G2 H2 e2 q2=>k c G2 H2 (e1.trans e2) q2
    | false=>exact k false G1 H1 e1 q1
theorem zn6 (h1:TvD K H₀ E tt dt) (h2:TvD K H₀ E tu du):TvD K H₀ E (tOr tt tu) (dOr dt du):=fun ex δ σ G H Qd Q hx S q k =>
  h1 ex δ σ G H _ _ hx S q fun b G1 H1 e1 q1=>by
    cases b with
    | false=>exact h2 ex δ σ G1 H1 _ _ hx (S.ext e1) q1 fun c G2 H2 e2 q2=>k c G2 H2 (e1.trans e2) q2
    | true=>exact k true G1 H1 e1 q1
theorem zz4 (h1:TvD K H₀ E tt dt):TvD K H₀ E (tNot tt) (dNot dt):=fun ex δ σ G H Qd Q hx S q k =>
  h1 ex δ σ G H _ _ hx S q fun b G1 H1 e1 q1=>k _ G1 H1 e1 q1
noncomputable def wq5 (da db:DE) (ex:DX) (δ:DEn) (Q:PyData → Prop):Prop:=da ex δ fun x=>match x with
  | .bool b=>if b = true then db ex δ Q else Q (.bool false)
  | _=>False
theorem wo5 (ha:BvD K H₀ E ta da) (hb:EvD K H₀ E tb db):EvD K H₀ E (we7 ta tb) (wq5 da db):=fun ex δ σ G H Qd Q hx S q k =>
  ha ex δ σ G H _ _ hx S q fun x dx G1 H1 e1 h1 q1=>by
    cases dx with
    | bool i =>
      cases zz1 h1
      refine ⟨_,rfl,?_⟩
      cases i with
      | true=>exact hb ex δ σ G1 H1 _ _ hx (S.ext e1) q1 fun v d G2 H2 e2 hd q2=>k v d G2 H2 (e1.trans e2) hd q2
      | false=>exact k _ _ G1 H1 e1 (.bl _) q1
    | _=>exact q1.elim
noncomputable def dIfE (dt:DT) (da db:DE) (ex:DX) (δ:DEn) (Q:PyData → Prop):Prop:=dt ex δ fun b=>if b = true then da ex δ Q else db ex δ Q
theorem ww2 (ht:TvD K H₀ E tt dt) (ha:EvD K H₀ E ta da) (hb:EvD K H₀ E tb db):EvD K H₀ E (tIf tt ta tb) (dIfE dt da db):=fun ex δ σ G H Qd Q hx S q k =>
  ht ex δ σ G H _ _ hx S q fun b G1 H1 e1 q1=>by
    cases b with
    | true=>exact ha ex δ σ G1 H1 _ _ hx (S.ext e1) q1 fun v d G2 H2 e2 hd q2=>k v d G2 H2 (e1.trans e2) hd q2
    | false=>exact hb ex δ σ G1 H1 _ _ hx (S.ext e1) q1 fun v d G2 H2 e2 hd q2=>k v d G2 H2 (e1.trans e2) hd q2
noncomputable abbrev DW:=List PyData → (Sl → Prop) → DX → Prop
noncomputable def rm (H:Hp) (a:Addr):Hp:=fun b=>if b = a then none else H b
noncomputable def yf2 (K:PySem.W.Frag) (H H':Hp) (v:V):Sl → Prop
  | .dat d=>DV K H' v d
  | .own ds=>∃ a vs,v = .ref a ∧ H a = none ∧ H' a = some (.lst vs) ∧ DVs K (rm H' a) vs ds
  | .exc _=>False
  | .mon _=>False
  | .fz as d=>(∀ c ∈ as,H c = none) ∧ 3 ≤ as.length ∧ FzIs K H' v as d
  | .two xs ys=>∃ t a b vs ws,v = .ref t ∧ SqT K H' t [.ref a,.ref b] ∧ a ≠ b ∧ H a = none ∧ H b = none ∧ H' a = some (.lst vs) ∧ H' b = some (.lst ws) ∧ DVs K (rm (rm H' a) b) vs xs ∧ DVs K (rm (rm H' a) b) ws ys
noncomputable def spW (K:PySem.W.Frag) (w:DW):Sp:=fun vs H Q E=>∃ ds Qd Ed,DVs K H vs ds ∧ w ds Qd Ed ∧ (∀ v s H',Same H H' → yf2 K H H' v s → Qd s → Q v H') ∧ (∀ C H',Same H H' → Ed C → E (.ref C) none H')
noncomputable def grow (G H H':Hp):Hp:=fun b=>match H b with
  | none=>H' b
  | some _=>G b
theorem zs4 {G H H':Hp} (s:Sub G H) (h:Same H H'):Ext G H (grow G H H') H':=by
  refine ⟨fun b o z=>?_,h,fun b=>?_,fun b o z=>?_⟩
  · unfold grow
    rw [s.same b o z]
    exact z
  · unfold grow
    cases q:H b with
    | none=>exact .inl rfl
    | some o =>
      dsimp only
      rw [h b o q]
      have:=s b
      rw [q] at this
      exact this
  · unfold grow at z
    cases q:H b with
    | none=>exact .inr rfl
    | some u=>rw [q] at z; exact .inl z
theorem zy0 {G H H':Hp} (s:Sub G H) (h:Same H H'):∀ b o,H' b = some o → (∀ xs,o ≠ .lst xs) → grow G H H' b = some o:=fun b o e n=>by
  unfold grow
  cases q:H b with
  | none=>exact e
  | some u =>
    dsimp only
    have:=h b u q
    rw [e] at this
    cases this
    exact s.other q n
noncomputable def yt7:(PyData → Prop) → Sl → Prop
  | Q,.dat d=>yj1 d = true ∧ Q d
  | Q,.own ds=>zi4 ds = true ∧ Q (.list ds)
  | _,.exc _=>False
  | _,.mon _=>False
  | _,.fz _ _=>False
  | _,.two _ _=>False
noncomputable def ownS:(List PyData → Prop) → Sl → Prop
  | _,.dat _=>False
  | Q,.own ds=>zi4 ds = true ∧ Q ds
  | _,.exc _=>False
  | _,.mon _=>False
  | _,.fz _ _=>False
  | _,.two _ _=>False
noncomputable def anyS:(PyData → Prop) → Sl → Prop
  | Q,.dat d=>Q d
  | Q,.own ds=>Q (.list ds)
  | _,.exc _=>False
  | _,.mon _=>False
  | Q,.fz _ d=>Q d
  | Q,.two xs ys=>Q (.tuple [.list xs,.list ys])
noncomputable def wq4 (w:DW) (dl:DL) (ex:DX) (δ:DEn) (Q:PyData → Prop):Prop:=dl ex δ fun ds=>w ds (yt7 Q) ex
noncomputable def xp7 (w:DW) (dl:DL) (ex:DX) (δ:DEn) (Q:PyData → Prop):Prop:=dl ex δ fun ds=>w ds (yt7 Q) fun _=>False
noncomputable def xc9 (w:DW) (dl:DL) (ex:DX) (δ:DEn) (Q:List PyData → Prop):Prop:=dl ex δ fun ds=>w ds (ownS Q) fun _=>False
noncomputable def xd0 (w:DW) (dl:DL) (ex:DX) (δ:DEn) (Q:PyData → Prop):Prop:=dl ex δ fun ds=>w ds (anyS Q) fun _=>False
theorem xb6 {H₀:Hp} {E:XK}:ExOk H₀ E fun _=>False:=fun _ _ _ z=>z.elim
theorem yc7 {G H H':Hp} {v:V} {s:Sl} {Q:PyData → Prop} (hs:Sub G H) (h:Same H H') (r:yf2 K H H' v s) (q:yt7 Q s):∃ d G',Ext G H G' H' ∧ DV K G' v d ∧ Q d:=by
  cases s with
  | exc C=>exact r.elim
  | mon φ=>exact r.elim
  | fz _ _=>exact q.elim
  | two xs ys=>exact q.elim
  | dat d=>exact ⟨d,_,zs4 hs h,xb9 (zy0 hs h) r q.1,q.2⟩
  | own ds =>
    obtain ⟨a,vs,rfl,hn,hh,hd⟩:=r
    have hd1:DVs K H' vs ds:=zd8 (fun b o z=>by
      unfold rm at z
      split at z
      · cases z
      · exact z) hd
    refine ⟨.list ds,_,zs4 hs h,.lst (SqL.of ?_) (zm7 (zy0 hs h) hd1 q.1),q.2⟩
    unfold grow
    rw [hn]
    exact hh
theorem xw2 {G H H':Hp} {v:V} {s:Sl} {Q:List PyData → Prop} (hs:Sub G H) (h:Same H H') (r:yf2 K H H' v s) (q:ownS Q s) :
    ∃ a vs ds G',v = .ref a ∧ Ext G H G' H' ∧ H a = none ∧ G' a = none ∧ H' a = some (.lst vs) ∧ DVs K G' vs ds ∧ Q ds:=by
  cases s with
  | exc C=>exact r.elim
  | mon φ=>exact r.elim
  | fz _ _=>exact q.elim
  | two xs ys=>exact q.elim
  | dat d=>exact q.elim
  | own ds =>
    obtain ⟨a,vs,rfl,hn,hh,hd⟩:=r
    have e:=zs4 hs h
    have hg:G a = none:=hs.same.free hn
    refine ⟨a,vs,ds,rm (grow G H H') a,rfl,⟨fun b o z=>?_,h,fun b=>?_,fun b o z=>?_⟩,hn,by unfold rm; rw [if_pos rfl],hh,zm7 (fun b o z n=>?_) hd q.1,q.2⟩
    · unfold rm
      rw [if_neg (ze7 z hg)]
      exact e.g b o z
    · unfold rm
      split
      · rename_i z; subst z
        exact .inr ⟨rfl,vs,hh⟩
      · exact e.s b
    · unfold rm at z
      split at z
      · cases z
      · exact e.n b o z
    · unfold rm at z ⊢
      split at z
      · cases z
      · rename_i hb
        rw [if_neg hb]
        exact zy0 hs h b o z n
theorem xg7 {H:Hp} {a b:Addr}:Same (rm (rm H a) b) H:=fun c o z=>by
  unfold rm at z
  split at z
  · cases z
  · split at z
    · cases z
    · exact z
theorem zw7 {H H':Hp} {v:V} {s:Sl} {Q:PyData → Prop} (r:yf2 K H H' v s) (q:anyS Q s):∃ d,DV K H' v d ∧ Q d:=by
  cases s with
  | exc C=>exact r.elim
  | mon φ=>exact r.elim
  | fz as d=>exact ⟨d,r.2.2.dv,q⟩
  | two xs ys =>
    obtain ⟨t,a,b,vs,ws,rfl,ht,hab,ha,hb,hh,hk,hd,he⟩:=r
    have sm:Same (rm (rm H' a) b) H':=xg7
    exact ⟨.tuple [.list xs,.list ys],.tup ht (.cons (.lst (SqL.of hh) (zd8 sm hd)) (.cons (.lst (SqL.of hk) (zd8 sm he)) .nil)),q⟩
  | dat d=>exact ⟨d,r,q⟩
  | own ds =>
    obtain ⟨a,vs,rfl,hn,hh,hd⟩:=r
    exact ⟨.list ds,.lst (SqL.of hh) (zd8 (fun b o z=>by
      unfold rm at z
      split at z
      · cases z
      · exact z) hd),q⟩
section
variable {w:DW}
theorem zv8 {E':XK} {ex:DX} {δ:DEn} {σ:L2.St} {G H:Hp} {Q:VK} {QS:Sl → Prop} (ha:AvD K H₀ E t dl) (hx:ExOk H₀ E ex) (hx':∀ ex',ex' = ex ∨ ex' = (fun _=>False) → ExOk H₀ E' ex' ∨ True) (S:Sees K H₀ G δ σ H) (ex':DX) (he:ExOk H₀ E' ex')
    (q:dl ex δ fun ds=>w ds QS ex') (k:∀ v s G1 H1 H2,Ext G H G1 H1 → Same H1 H2 → yf2 K H1 H2 v s → QS s → Q v H2):yb8 (spW K w) [] E' t σ H Q :=
  ha ex δ σ G H _ _ hx S q fun vs ds G1 H1 e1 h1 q1=>by
    refine ⟨ds,QS,ex',by rw [List.append_nil]; exact h1,q1,fun v s H2 sm r qs=>k v s G1 H1 H2 e1 sm r qs,fun C H2 sm hc=>he C H2 ((S.ext e1).oldH.trans sm) hc⟩
theorem zm1 (ha:AvD K H₀ E t dl):EvD K H₀ E (yb8 (spW K w) [] E t) (wq4 w dl):=fun ex δ σ G H Qd Q hx S q k =>
  zv8 ha hx (fun _ _=>.inr trivial) S ex hx q fun v s G1 H1 H2 e1 sm r qs=>by
    obtain ⟨d,G',e2,hd,q2⟩:=yc7 e1.s sm r qs
    exact k v d G' H2 (e1.trans e2) hd q2
theorem zb1 (ha:AvD K H₀ E t dl):EvD K H₀ E (yb8 (spW K w) [] E0 t) (xp7 w dl):=fun ex δ σ G H Qd Q hx S q k =>
  zv8 ha hx (fun _ _=>.inr trivial) S (fun _=>False) xb6 q fun v s G1 H1 H2 e1 sm r qs=>by
    obtain ⟨d,G',e2,hd,q2⟩:=yc7 e1.s sm r qs
    exact k v d G' H2 (e1.trans e2) hd q2
theorem zj4 (ha:AvD K H₀ E t dl):OvD K H₀ E (yb8 (spW K w) [] E0 t) (xc9 w dl):=fun ex δ σ G H Qd Q hx S q k =>
  zv8 ha hx (fun _ _=>.inr trivial) S (fun _=>False) xb6 q fun v s G1 H1 H2 e1 sm r qs=>by
    obtain ⟨a,vs,ds,G',rfl,e2,hn,hg,hh,hd,q2⟩:=xw2 e1.s sm r qs
    exact k a vs ds G' H2 (e1.trans e2) (e1.h.free hn) hg hh hd q2
theorem ys3 (ha:AvD K H₀ E t dl):BvD K H₀ E (yb8 (spW K w) [] E0 t) (xd0 w dl):=fun ex δ σ G H Qd Q hx S q k =>
  zv8 ha hx (fun _ _=>.inr trivial) S (fun _=>False) xb6 q fun v s G1 H1 H2 e1 sm r qs=>by
    obtain ⟨d,hd,q2⟩:=zw7 r qs
    exact k v d _ H2 (e1.trans (zs4 e1.s sm)) hd q2
end
end
structure DEnds where
  nx:DEn → Prop
  rt:Sl → Prop
  ex:DX
  bk:DEn → Prop:=fun _=>False
  ct:DEn → Prop:=fun _=>False
noncomputable abbrev DS:=DEnds → DEn → Prop
structure Lk (K:PySem.W.Frag) (H₀ G:Hp) (e:DEnds) (D:Ends):Prop where
  nx:∀ δ σ G' H,Same G G' → Sees K H₀ G' δ σ H → e.nx δ → D.nx σ H
  rt:∀ v s H,Same H₀ H → yf2 K H₀ H v s → e.rt s → D.rt v H
  bk:∀ δ σ G' H,Same G G' → Sees K H₀ G' δ σ H → e.bk δ → D.bk σ H
  ct:∀ δ σ G' H,Same G G' → Sees K H₀ G' δ σ H → e.ct δ → D.ct σ H
theorem Lk.mono {K:PySem.W.Frag} {H₀ G G1:Hp} {e:DEnds} {D:Ends} (L:Lk K H₀ G e D) (s:Same G G1):Lk K H₀ G1 e D :=
  ⟨fun δ σ G' H t=>L.nx δ σ G' H (s.trans t),L.rt,fun δ σ G' H t=>L.bk δ σ G' H (s.trans t),fun δ σ G' H t=>L.ct δ σ G' H (s.trans t)⟩
noncomputable def SvD (K:PySem.W.Frag) (H₀:Hp) (E:XK) (ts:TS) (ds:DS):Prop:=∀ δ σ G H e D,ExOk H₀ E e.ex → Sees K H₀ G δ σ H → ds e δ → Lk K H₀ G e D → ts D σ H
noncomputable abbrev DG:=PyData → DEn → (DEn → Prop) → Prop
noncomputable abbrev DGs:=List PyData → DEn → (DEn → Prop) → Prop
noncomputable def Kp (ns:List Nat) (σ σ':L2.St):Prop:=σ'.length = σ.length ∧ ∀ j,j ∉ ns → σ'[j]? = σ[j]?
noncomputable def GvD (K:PySem.W.Frag) (H₀:Hp) (g:TG) (ns:List Nat) (dg:DG):Prop:=∀ v d δ σ G H Qd Q,Sees K H₀ G δ σ H → DV K G v d → dg d δ Qd → (∀ δ' σ',Sees K H₀ G δ' σ' H → Kp ns σ σ' → Qd δ' → Q σ' H) → g v σ H Q
noncomputable def GsvD (K:PySem.W.Frag) (H₀:Hp) (g:TGs) (ns:List Nat) (dg:DGs):Prop:=∀ vs ds δ σ G H Qd Q,Sees K H₀ G δ σ H → DVs K G vs ds → dg ds δ Qd → (∀ δ' σ',Sees K H₀ G δ' σ' H → Kp ns σ σ' → Qd δ' → Q σ' H) → g vs σ H Q
section
variable {K:PySem.W.Frag} {H₀:Hp} {E:XK} {te ta tb:TE} {da db de:DE} {dl dk:DL} {t:TA} {tt tu:TT} {dt du:DT} {ts tz:TS} {ds dz:DS} {g:TG} {dg:DG} {gs:TGs} {dgs:DGs} {ns ms:List Nat}
noncomputable def dNext (e:DEnds) (δ:DEn):Prop:=e.nx δ
noncomputable def dSeq (d1 d2:DS) (e:DEnds) (δ:DEn):Prop:=d1 { e with nx:=d2 e } δ
noncomputable def dCut (d1 d2:DS) (e:DEnds) (δ:DEn):Prop:=∃ I:DEn → Prop,d1 { e with nx:=I } δ ∧ ∀ δ',I δ' → d2 e δ'
theorem zc8:SvD K H₀ E tNext dNext:=fun δ σ G H e D hx S q L=>L.nx δ σ G H (Same.refl _) S q
theorem zb2 (h1:SvD K H₀ E ts ds) (h2:SvD K H₀ E tz dz):SvD K H₀ E (tSeq ts tz) (dSeq ds dz):=fun δ σ G H e D hx S q L =>
  h1 δ σ G H { e with nx:=dz e } { D with nx:=tz D } hx S q ⟨fun δ' σ' G' H' s S' q'=>h2 δ' σ' G' H' e D hx S' q' (L.mono s),L.rt,L.bk,L.ct⟩
theorem yp1 (h1:SvD K H₀ E ts ds) (h2:SvD K H₀ E tz dz):SvD K H₀ E (tSeq ts tz) (dCut ds dz):=fun δ σ G H e D hx S ⟨I,q,qi⟩ L =>
  h1 δ σ G H { e with nx:=I } { D with nx:=tz D } hx S q ⟨fun δ' σ' G' H' s S' q'=>h2 δ' σ' G' H' e D hx S' (qi δ' q') (L.mono s),L.rt,L.bk,L.ct⟩
noncomputable def dRet (de:DE) (e:DEnds) (δ:DEn):Prop:=de e.ex δ fun d=>e.rt (.dat d)
noncomputable def wp7 (dl:DL) (e:DEnds) (δ:DEn):Prop:=dl e.ex δ fun ds=>e.rt (.own ds)
noncomputable def wa7 (i:Nat) (e:DEnds) (δ:DEn):Prop:=match slot δ i with
  | some (.dat d)=>e.rt (.dat d)
  | some (.own ds)=>e.rt (.own ds)
  | _=>False
theorem zz8 {G H:Hp} {a:Addr} {vs:List V} {ds:List PyData} (h0:H₀ a = none) (hg:G a = none) (s:Sub G H) (hh:H a = some (.lst vs)) (hd:DVs K G vs ds):yf2 K H₀ H (.ref a) (.own ds) :=
  ⟨a,vs,rfl,h0,hh,zd8 (fun b o z=>by
    unfold rm
    rw [if_neg (ze7 z hg)]
    exact s.same b o z) hd⟩
theorem zd6 (h:BvD K H₀ E te de):SvD K H₀ E (tRet te) (dRet de):=fun δ σ G H e D hx S q L =>
  h e.ex δ σ G H _ _ hx S q fun v d G' H' x hd qd=>L.rt v (.dat d) H' (S.ext x).oldH hd qd
theorem zs8 (h:OvD K H₀ E te dl):SvD K H₀ E (tRet te) (wp7 dl):=fun δ σ G H e D hx S q L =>
  h e.ex δ σ G H _ _ hx S q fun a vs ds G' H' x hn hg hh hd qd=>L.rt (.ref a) (.own ds) H' (S.ext x).oldH (zz8 (S.oldH.free hn) hg x.s hh hd) qd
theorem zi7 (i:Nat):SvD K H₀ E (tRet (tVar i)) (wa7 i):=fun δ σ G H e D hx S q L=>by
  unfold wa7 at q
  split at q
  · rename_i d hs
    obtain ⟨v,h1,h2⟩:=S.has i _ hs
    exact ⟨v,h1,L.rt v (.dat d) H S.oldH (zg4 S.sub.same h2) q⟩
  · rename_i ds hs
    obtain ⟨v,h1,h2⟩:=S.has i _ hs
    obtain ⟨a,vs,rfl,h3,h4,h5⟩:=h2
    exact ⟨_,h1,L.rt _ (.own ds) H S.oldH (zz8 (S.old.free h3) h3 S.sub h4 h5) q⟩
  · exact q.elim
noncomputable def wq2 (de:DE) (e:DEnds) (δ:DEn):Prop:=de e.ex δ fun _=>e.nx δ
theorem zo9 (h:BvD K H₀ E te de):SvD K H₀ E (xf7 te) (wq2 de):=fun δ σ G H e D hx S q L =>
  h e.ex δ σ G H _ _ hx S q fun v d G' H' x hd qd=>L.nx δ σ G' H' x.g (S.ext x) qd
noncomputable def dIfS (dt:DT) (d1 d2:DS) (e:DEnds) (δ:DEn):Prop:=dt e.ex δ fun b=>if b = true then d1 e δ else d2 e δ
theorem ze9 (h:TvD K H₀ E tt dt) (h1:SvD K H₀ E ts ds) (h2:SvD K H₀ E tz dz):SvD K H₀ E (tIfS tt ts tz) (dIfS dt ds dz):=fun δ σ G H e D hx S q L =>
  h e.ex δ σ G H _ _ hx S q fun b G' H' x qb=>by
    cases b with
    | true=>exact h1 δ σ G' H' e D hx (S.ext x) qb (L.mono x.g)
    | false=>exact h2 δ σ G' H' e D hx (S.ext x) qb (L.mono x.g)
noncomputable def xb0 (i:Nat) (d:PyData) (δ:DEn) (Q:DEn → Prop):Prop:=Q (put (some (.dat d)) i δ)
noncomputable def gvNil (ds:List PyData) (δ:DEn) (Q:DEn → Prop):Prop:=match ds with
  | []=>Q δ
  | _=>False
noncomputable def xb1 (dg:DG) (dgs:DGs) (ds:List PyData) (δ:DEn) (Q:DEn → Prop):Prop:=match ds with
  | d :: r=>dg d δ fun δ'=>dgs r δ' Q
  | []=>False
noncomputable def xz6 (n:Nat) (dgs:DGs) (d:PyData) (δ:DEn) (Q:DEn → Prop):Prop:=match d with
  | .tuple ds=>ds.length = n ∧ dgs ds δ Q
  | _=>False
theorem zb0 (i:Nat):GvD K H₀ (yt6 i) [i] (xb0 i):=fun v d δ σ G H Qd Q S hd q k =>
  k _ _ (S.setD i hd) ⟨List.length_set,fun j hj=>by rw [List.getElem?_set_ne (fun z=>hj (by simp [z]))]⟩ q
theorem zt9:GsvD K H₀ gNil [] gvNil:=fun vs ds δ σ G H Qd Q S hd q k=>by
  unfold gvNil at q
  split at q
  · cases hd
    exact ⟨rfl,k δ σ S ⟨rfl,fun _ _=>rfl⟩ q⟩
  · exact q.elim
theorem zh7 (h1:GvD K H₀ g ns dg) (h2:GsvD K H₀ gs ms dgs):GsvD K H₀ (wo0 g gs) (ns ++ ms) (xb1 dg dgs):=fun vs ds δ σ G H Qd Q S hd q k=>by
  unfold xb1 at q
  split at q
  · cases hd with
    | cons hd hr =>
      refine ⟨_,_,rfl,h1 _ _ δ σ G H _ _ S hd q fun δ1 σ1 S1 k1 q1=>h2 _ _ δ1 σ1 G H _ _ S1 hr q1 fun δ2 σ2 S2 k2 q2=>k δ2 σ2 S2 ⟨k2.1.trans k1.1,fun j hj=>?_⟩ q2⟩
      rw [k2.2 j (fun z=>hj (List.mem_append_right _ z)),k1.2 j (fun z=>hj (List.mem_append_left _ z))]
  · exact q.elim
theorem zt8 {n:Nat} (h:GsvD K H₀ gs ns dgs):GvD K H₀ (gTup K n gs) ns (xz6 n dgs):=fun v d δ σ G H Qd Q S hd q k=>by
  unfold xz6 at q
  split at q
  · obtain ⟨a,vs,rfl,h1,h2⟩:=zv6 hd
    exact ⟨a,vs,rfl,zr6 S.sub.same h1,by rw [h2.len]; exact q.1,h _ _ δ σ G H _ _ S h2 q.2 k⟩
  · exact q.elim
noncomputable def dAsg (de:DE) (dg:DG) (e:DEnds) (δ:DEn):Prop:=de e.ex δ fun d=>dg d δ e.nx
theorem zd2 (h:EvD K H₀ E te de) (hg:GvD K H₀ g ns dg):SvD K H₀ E (tAsg te g) (dAsg de dg):=fun δ σ G H e D hx S q L =>
  h e.ex δ σ G H _ _ hx S q fun v d G' H' x hd qd=>hg v d δ σ G' H' _ _ (S.ext x) hd qd fun δ' σ' S' _ q'=>L.nx δ' σ' G' H' x.g S' q'
noncomputable def wp3 (dl:DL) (i:Nat) (e:DEnds) (δ:DEn):Prop:=dl e.ex δ fun ds=>e.nx (put (some (.own ds)) i δ)
theorem zf5 (i:Nat) (h:OvD K H₀ E te dl):SvD K H₀ E (tAsg te (yt6 i)) (wp3 dl i):=fun δ σ G H e D hx S q L =>
  h e.ex δ σ G H _ _ hx S q fun a vs ds G' H' x hn hg hh hd qd=>L.nx _ _ G' H' x.g (S.setO x i hn hg hh hd) qd
noncomputable def zy9:DEn → Bool
  | []=>true
  | some (.own _) :: _=>false
  | _ :: r=>zy9 r
theorem zi8:∀ {δ:DEn} {i:Nat} {ds:List PyData},zy9 δ = true → slot δ i ≠ some (.own ds)
  | [],_,_,_,h=>by cases h
  | some (.own _) :: _,_,_,h,_=>by cases h
  | some (.dat _) :: _,0,_,_,h=>by cases h
  | some (.exc _) :: _,0,_,_,h=>by cases h
  | some (.fz _ _) :: _,0,_,_,h=>by cases h
  | some (.fz _ _) :: r,i + 1,ds,h,e=>zi8 (δ:=r) (i:=i) (ds:=ds) h e
  | some (.mon _) :: _,0,_,_,h=>by cases h
  | some (.mon _) :: r,i + 1,ds,h,e=>zi8 (δ:=r) (i:=i) (ds:=ds) h e
  | some (.two _ _) :: _,0,_,_,h=>by cases h
  | some (.two _ _) :: r,i + 1,ds,h,e=>zi8 (δ:=r) (i:=i) (ds:=ds) h e
  | none :: _,0,_,_,h=>by cases h
  | some (.exc _) :: r,i + 1,ds,h,e=>zi8 (δ:=r) (i:=i) (ds:=ds) h e
  | some (.dat _) :: r,i + 1,ds,h,e=>zi8 (δ:=r) (i:=i) (ds:=ds) h e
  | none :: r,i + 1,ds,h,e=>zi8 (δ:=r) (i:=i) (ds:=ds) h e
theorem Sees.all2 {G H H':Hp} {δ:DEn} {σ:L2.St} (S:Sees K H₀ G δ σ H) (h:zy9 δ = true) (sm:Same H H'):Sees K H₀ H' δ σ H' :=
  ⟨S.oldH.trans sm,.refl _,S.len,fun i s e=>by
    obtain ⟨v,h1,h2⟩:=S.has i s e
    cases s with
    | dat d=>exact ⟨v,h1,zg4 (S.sub.same.trans sm) h2⟩
    | two xs ys=>exact h2.elim
    | fz as d=>exact ⟨v,h1,FzIs.same (S.sub.same.trans sm) h2⟩
    | mon φ=>exact ⟨v,h1,fun G2 s2=>h2 G2 ((S.sub.same.trans sm).trans s2)⟩
    | exc C =>
      obtain ⟨x,rfl,hx⟩:=h2
      exact ⟨_,h1,x,rfl,sm _ _ (S.sub.same _ _ hx)⟩
    | own ds=>exact absurd e (zi8 h),fun i j xs ys a e=>absurd e (zi8 h)⟩
noncomputable def xp8 (w:DW) (dl:DL) (dg:DG) (e:DEnds) (δ:DEn):Prop:=dl e.ex δ fun ds=>zy9 δ = true ∧ w ds (anyS fun d=>dg d δ e.nx) fun _=>False
theorem yb9 {w:DW} (ha:AvD K H₀ E t dl) (hg:GvD K H₀ g ns dg):SvD K H₀ E (tAsg (yb8 (spW K w) [] E0 t) g) (xp8 w dl dg):=fun δ σ G H e D hx S q L =>
  ha e.ex δ σ G H _ _ hx S q fun vs ds G1 H1 e1 h1 ⟨no,q1⟩=>by
    refine ⟨ds,_,fun _=>False,by rw [List.append_nil]; exact h1,q1,fun v s H2 sm r qs=>?_,fun C H2 sm hc=>hc.elim⟩
    obtain ⟨d,hd,q2⟩:=zw7 r qs
    exact hg v d δ σ H2 H2 _ _ ((S.ext e1).all2 no sm) hd q2 fun δ' σ' S' _ q'=>L.nx δ' σ' H2 H2 ((S.ext e1).sub.same.trans sm |> fun z=>e1.g.trans z) S' q'
noncomputable def xz9 (i:Nat) (δ:DEn):DEn:=match slot δ i with
  | some (.own ds)=>put (some (.dat (.list ds))) i δ
  | _=>δ
noncomputable def dFrz (i:Nat) (d:DS) (e:DEnds) (δ:DEn):Prop:=d e (xz9 i δ)
theorem zz6 (i:Nat) (h:SvD K H₀ E ts ds):SvD K H₀ E ts (dFrz i ds):=fun δ σ G H e D hx S q L=>by
  unfold dFrz xz9 at q
  split at q
  · rename_i xs hs
    obtain ⟨G',s,S'⟩:=S.frz hs
    exact h _ σ G' H e D hx S' q (L.mono s)
  · exact h δ σ G H e D hx S q L
noncomputable def dPar (i j:Nat) (dl:DL) (e:DEnds) (δ:DEn):Prop:=dl e.ex δ fun ds=>match ds with
  | [d1,d2]=>e.nx (put (some (.dat d2)) j (put (some (.dat d1)) i δ))
  | _=>False
theorem we8 {n:Nat} (i j:Nat) (h:AvE K H₀ E t n dl):SvD K H₀ E (tPar i j t) (dPar i j dl):=fun δ σ G H e D hx S q L =>
  h e.ex δ σ G H _ _ hx S q fun vs ds G' H' x hd _ qd=>by
    split at qd
    · obtain ⟨v,w,rfl,h1,h2⟩:=dvs2 hd
      exact ⟨v,w,rfl,L.nx _ _ G' H' x.g (((S.ext x).setD i h1).setD j h2) qd⟩
    · exact qd.elim
noncomputable def xp2 (C:Addr) (dl:DL) (e:DEnds) (δ:DEn):Prop:=dl e.ex δ fun _=>e.ex C
theorem zf6 {C:Addr} {n:Nat} (h:AvE K H₀ E t n dl) (hn:n ≤ 1000):SvD K H₀ E (xl4 E C t) (xp2 C dl):=fun δ σ G H e D hx S q L =>
  h e.ex δ σ G H _ _ hx S q fun vs ds G' H' x hd q0 qd=>⟨Nat.le_of_lt (ze3 (by rw [hd.len,q0]; exact hn)),hx C H' (S.ext x).oldH qd⟩
noncomputable def dApp (i:Nat) (de:DE) (e:DEnds) (δ:DEn):Prop:=match slot δ i with
  | some (.own ds)=>de e.ex δ fun d=>ds.length < 1000 ∧ e.nx (put (some (.own (ds ++ [d]))) i δ)
  | _=>False
theorem yp2 (i:Nat) (h:EvD K H₀ E te de):SvD K H₀ E (xf7 (tBM K "list" rAppend (tVar i) (zo8 te tNil))) (dApp i de):=fun δ σ G H e D hx S q L=>by
  unfold dApp at q
  split at q
  · rename_i ds hs
    obtain ⟨a,vs,h1,h2,h3,h4⟩:=S.ownAt hs
    refine ⟨_,h1,.inl ⟨rfl,_,SqL.of h3⟩,h e.ex δ σ G H _ _ hx S q fun v d G' H' x hd qd=>?_⟩
    obtain ⟨q1,q2⟩:=qd
    have S':=S.ext x
    exact ⟨a,vs,v,rfl,rfl,x.h _ _ h3,ze3 (by rw [h4.len]; omega),L.nx _ _ G' _ x.g (S'.updO hs h1 ((zd8 x.g h4).append (.cons hd .nil))) q2⟩
  · exact q.elim
noncomputable def ItS (K:PySem.W.Frag) (J:It) (G:Hp) (ds:List PyData):Prop:=∀ G' H',Same G G' → Sub G' H' → ∀ i,
  (∀ d,ds[i]? = some d → J.go i H' ∧ ∀ x H2,J.yld i H' x H2 → ∃ G2,Ext G' H' G2 H2 ∧ DV K G2 x d) ∧ (ds.length ≤ i → J.stop i H')
noncomputable def ItE (K:PySem.W.Frag) (J:It) (G H:Hp) (ds:List PyData):Prop:=∀ G' H',Ext G H G' H' → ∀ i,
  (∀ d,ds[i]? = some d → J.go i H' ∧ ∀ x H2,J.yld i H' x H2 → ∃ G2,Ext G' H' G2 H2 ∧ DV K G2 x d) ∧ (ds.length ≤ i → J.stop i H')
theorem ItS.e {J:It} {G H:Hp} {ds:List PyData} (h:ItS K J G ds):ItE K J G H ds:=fun G' H' e=>h G' H' e.g e.s
noncomputable def IvS (K:PySem.W.Frag) (H₀:Hp) (E:XK) (wi:TI) (dl:DL):Prop:=∀ ex δ σ G H Qd R,ExOk H₀ E ex → Sees K H₀ G δ σ H → dl ex δ Qd → (∀ J ds G' H',Ext G H G' H' → ItS K J G' ds → Qd ds → R J H') → wi σ H R
noncomputable def IvE (K:PySem.W.Frag) (H₀:Hp) (E:XK) (wi:TI) (dl:DL):Prop:=∀ ex δ σ G H Qd R,ExOk H₀ E ex → Sees K H₀ G δ σ H → dl ex δ Qd → (∀ J ds G' H',Ext G H G' H' → ItE K J G' H' ds → Qd ds → R J H') → wi σ H R
theorem IvS.e {wi:TI} (h:IvS K H₀ E wi dl):IvE K H₀ E wi dl:=fun ex δ σ G H Qd R hx S q k=>h ex δ σ G H Qd R hx S q fun J ds G' H' e hi qd=>k J ds G' H' e hi.e qd
theorem zx8 (h:EvD K H₀ E te de):IvS K H₀ E (xi4 K te) (dAsL de):=fun ex δ σ G H Qd R hx S q k =>
  h ex δ σ G H _ _ hx S q fun v d G' H' e hd qd=>by
    cases d with
    | list ds =>
      obtain ⟨a,vs,rfl,h1,h2⟩:=zk8 hd
      refine ⟨a,rfl,⟨vs,e.s.same.seq h1⟩,k _ ds G' H' e (fun G2 H2 s1 s2 i=>⟨fun d hi=>?_,fun hi=>⟨vs,s2.same.seq (s1.seq h1),by rw [h2.len]; exact hi⟩⟩) qd⟩
      obtain ⟨x,g1,g2⟩:=h2.at hi
      refine ⟨⟨vs,x,s2.same.seq (s1.seq h1),g1⟩,fun y H3 ⟨z,w⟩=>?_⟩
      subst z
      have:=w vs (s2.same.seq (s1.seq h1))
      rw [g1] at this
      cases this
      exact ⟨G2,.refl s2,zg4 s1 g2⟩
    | _=>exact qd.elim
theorem zh1 (h:LvD K H₀ E te dl):IvE K H₀ E (xi4 K te) dl:=fun ex δ σ G H Qd R hx S q k =>
  h ex δ σ G H _ _ hx S q fun a vs ds G' H' e h1 h2 qd=>by
    refine ⟨a,rfl,⟨vs,h1⟩,k _ ds G' H' e (fun G2 H2 e2 i=>⟨fun d hi=>?_,fun hi=>⟨vs,e2.h.seq h1,by rw [h2.len]; exact hi⟩⟩) qd⟩
    obtain ⟨x,g1,g2⟩:=h2.at hi
    refine ⟨⟨vs,x,e2.h.seq h1,g1⟩,fun y H3 ⟨z,w⟩=>?_⟩
    subst z
    have:=w vs (e2.h.seq h1)
    rw [g1] at this
    cases this
    exact ⟨G2,.refl e2.s,zg4 e2.g g2⟩
noncomputable def rngD (lo:Int) (n:Nat) (st:Int):List PyData:=(List.range n).map fun (k:Nat)=>PyData.int (lo + (k:Int) * st)
theorem yl4 {lo st:Int} {n i:Nat} {d:PyData} (h:(rngD lo n st)[i]? = some d):i < n ∧ d = .int (lo + (i:Int) * st):=by
  unfold rngD at h
  rw [List.getElem?_map] at h
  cases q:(List.range n)[i]? with
  | none=>rw [q] at h; cases h
  | some k =>
    rw [q] at h
    obtain ⟨h1,h2⟩:=List.getElem?_eq_some_iff.mp q
    simp only [List.getElem_range] at h2
    subst h2
    simp only [List.length_range] at h1
    simp only [Option.map_some,Option.some.injEq] at h
    exact ⟨h1,h.symm⟩
theorem yc6 {lo st:Int} {n:Nat}:(rngD lo n st).length = n:=by simp [rngD]
noncomputable def wp6 (dl:DL) (ex:DX) (δ:DEn) (Q:List PyData → Prop):Prop:=dl ex δ fun ds=>match ds with
  | [.int j]=>(-(2 ^ 62) ≤ j ∧ j < 2 ^ 62) ∧ Q (rngD 0 j.toNat 1)
  | _=>False
noncomputable def wp5 (dl:DL) (ex:DX) (δ:DEn) (Q:List PyData → Prop):Prop:=dl ex δ fun ds=>match ds with
  | [.int i,.int j]=>(-(2 ^ 62) ≤ i ∧ i < 2 ^ 62 ∧ -(2 ^ 62) ≤ j ∧ j < 2 ^ 62) ∧ Q (rngD i (j - i).toNat 1)
  | _=>False
noncomputable def wp4 (dl:DL) (ex:DX) (δ:DEn) (Q:List PyData → Prop):Prop:=dl ex δ fun ds=>match ds with
  | [.int i,.int j,.int k]=>∃ n:Nat,(k ≠ 0 ∧ k.natAbs < 1000000 ∧ Builtin.Range.small i j k = true) ∧ Builtin.Range.rangeSize i j k = (n:Int) ∧ Q (rngD i n k)
  | _=>False
theorem wn2 {lo:Int} {n:Nat} {G:Hp}:ItS K (Itr lo n) G (rngD lo n 1):=fun G' H' s1 s2 i=>⟨fun d hi=>by
    obtain ⟨h1,rfl⟩:=yl4 hi
    refine ⟨h1,fun x H2 ⟨e1,e2⟩=>?_⟩
    subst e1 e2
    rw [Int.mul_one]
    exact ⟨G',.refl s2,.int _⟩,fun hi=>by rw [yc6] at hi; exact hi⟩
theorem ww1 {lo st:Int} {n:Nat} {G:Hp}:ItS K (Its lo st n) G (rngD lo n st):=fun G' H' s1 s2 i=>⟨fun d hi=>by
    obtain ⟨h1,rfl⟩:=yl4 hi
    refine ⟨h1,fun x H2 ⟨e1,e2⟩=>?_⟩
    subst e1 e2
    exact ⟨G',.refl s2,.int _⟩,fun hi=>by rw [yc6] at hi; exact hi⟩
theorem dvs3 {H:Hp} {xs:List V} {d e f:PyData} (h:DVs K H xs [d,e,f]):∃ x y z,xs = [x,y,z] ∧ DV K H x d ∧ DV K H y e ∧ DV K H z f:=by
  cases h with
  | cons h t=>cases t with
    | cons h2 t=>cases t with
      | cons h3 t=>cases t; exact ⟨_,_,_,rfl,h,h2,h3⟩
theorem ym5 (h:AvD K H₀ E t dl):IvS K H₀ E (wn8 t) (wp6 dl):=fun ex δ σ G H Qd R hx S q k =>
  h ex δ σ G H _ _ hx S q fun vs ds G' H' e hd qd=>by
    split at qd
    · obtain ⟨x,rfl,h1⟩:=dvs1 hd
      cases zf1 h1
      exact ⟨_,rfl,qd.1.1,qd.1.2,k _ _ G' H' e wn2 qd.2⟩
    · exact qd.elim
theorem xa4 (h:AvD K H₀ E t dl):IvS K H₀ E (wn7 t) (wp5 dl):=fun ex δ σ G H Qd R hx S q k =>
  h ex δ σ G H _ _ hx S q fun vs ds G' H' e hd qd=>by
    split at qd
    · obtain ⟨x,y,rfl,h1,h2⟩:=dvs2 hd
      cases zf1 h1; cases zf1 h2
      exact ⟨_,_,rfl,qd.1,k _ _ G' H' e wn2 qd.2⟩
    · exact qd.elim
theorem xz3 (h:AvD K H₀ E t dl):IvS K H₀ E (wn6 t) (wp4 dl):=fun ex δ σ G H Qd R hx S q k =>
  h ex δ σ G H _ _ hx S q fun vs ds G' H' e hd qd=>by
    split at qd
    · obtain ⟨x,y,z,rfl,h1,h2,h3⟩:=dvs3 hd
      cases zf1 h1; cases zf1 h2; cases zf1 h3
      obtain ⟨n,⟨q1,q2,q3⟩,q4,q5⟩:=qd
      exact ⟨_,_,_,rfl,n,q1,q2,q3,q4,k _ _ G' H' e ww1 q5⟩
    · exact qd.elim
noncomputable def dFor (dl:DL) (dg:DG) (db:DS) (e:DEnds) (δ:DEn):Prop:=dl e.ex δ fun ds=>∃ I:Nat → DEn → Prop,I 0 δ ∧
  (∀ i d δ',ds[i]? = some d → I i δ' → dg d δ' fun δ2=>db { e with nx:=I (i + 1),ct:=I (i + 1),bk:=e.nx } δ2) ∧ ∀ δ',I ds.length δ' → e.nx δ'
theorem zn2 {wi:TI} (hi:IvS K H₀ E wi dl) (hg:GvD K H₀ g ns dg) (hb:SvD K H₀ E ts ds):SvD K H₀ E (tFor wi g ts) (dFor dl dg ds):=fun δ σ G H e D hx S q L =>
  hi e.ex δ σ G H _ _ hx S q fun J xs G1 H1 e1 it ⟨I,i0,step,fin⟩=>by
    refine ⟨fun i m σ H=>m = xs.length - i ∧ i ≤ xs.length ∧ ∃ δ' G',Same G1 G' ∧ Sees K H₀ G' δ' σ H ∧ I i δ',⟨_,rfl,Nat.zero_le _,δ,G1,Same.refl _,S.ext e1,i0⟩,?_⟩
    rintro i m σ' H' ⟨rfl,hil,δ',G',sg,S',hI⟩
    obtain ⟨t1,t2⟩:=it G' H' sg S'.sub i
    by_cases hlt:i < xs.length
    · obtain ⟨g1,g2⟩:=t1 _ (List.getElem?_eq_getElem hlt)
      refine .inr ⟨g1,fun σ H=>∃ δ' G',Same G1 G' ∧ Sees K H₀ G' δ' σ H ∧ I (i + 1) δ',fun σ2 H2 z=>⟨_,by omega,rfl,hlt,z⟩,fun x H2 y=>?_⟩
      obtain ⟨G2,e2,hd⟩:=g2 x H2 y
      have S2:=S'.ext e2
      refine hg x _ δ' σ' G2 H2 _ _ S2 hd (step i _ δ' (List.getElem?_eq_getElem hlt) hI) fun δ3 σ3 S3 _ q3=>?_
      have up:Same G1 G2:=sg.trans e2.g
      exact hb δ3 σ3 G2 H2 { e with nx:=I (i + 1),ct:=I (i + 1),bk:=e.nx } _ hx S3 q3 ⟨fun δ4 σ4 G4 H4 s4 S4 q4=>⟨δ4,G4,up.trans s4,S4,q4⟩,L.rt,fun δ4 σ4 G4 H4 s4 S4 q4=>L.nx δ4 σ4 G4 H4 (e1.g.trans (up.trans s4)) S4 q4,fun δ4 σ4 G4 H4 s4 S4 q4=>⟨δ4,G4,up.trans s4,S4,q4⟩⟩
    · have:i = xs.length:=by omega
      subst this
      exact .inl ⟨t2 (Nat.le_refl _),L.nx δ' σ' G' H' (e1.g.trans sg) S' (fin δ' hI)⟩
noncomputable def wp2 (dt:DT) (db:DS) (e:DEnds) (δ:DEn):Prop:=∃ I:Nat → DEn → Prop,(∃ m,I m δ) ∧ ∀ m δ',I m δ' →
  dt e.ex δ' fun b=>if b = true then db { e with nx:=fun δ2=>∃ k,k < m ∧ I k δ2,ct:=fun δ2=>∃ k,k < m ∧ I k δ2,bk:=e.nx } δ' else e.nx δ'
theorem zu6 (h:TvD K H₀ E tt dt) (hb:SvD K H₀ E ts ds):SvD K H₀ E (xl3 tt ts) (wp2 dt ds):=fun δ σ G H e D hx S ⟨I,⟨m0,i0⟩,step⟩ L=>by
  refine ⟨fun m σ H=>∃ δ' G',Same G G' ∧ Sees K H₀ G' δ' σ H ∧ I m δ',⟨m0,δ,G,Same.refl _,S,i0⟩,?_⟩
  rintro m σ' H' ⟨δ',G',sg,S',hI⟩
  refine h e.ex δ' σ' G' H' _ _ hx S' (step m δ' hI) fun b G2 H2 e2 q2=>?_
  have S2:=S'.ext e2
  have up:Same G G2:=sg.trans e2.g
  cases b with
  | true =>
    have n1:∀ δ4 σ4 G4 H4,Same G2 G4 → Sees K H₀ G4 δ4 σ4 H4 → (∃ k,k < m ∧ I k δ4) → ∃ k,k < m ∧ ∃ δ' G',Same G G' ∧ Sees K H₀ G' δ' σ4 H4 ∧ I k δ':=fun δ4 σ4 G4 H4 s4 S4 ⟨k,hk,q4⟩=>⟨k,hk,δ4,G4,up.trans s4,S4,q4⟩
    exact ⟨fun σ4 H4=>∃ k,k < m ∧ ∃ δ' G',Same G G' ∧ Sees K H₀ G' δ' σ4 H4 ∧ I k δ',fun _ _ z=>z,hb δ' σ' G2 H2 { e with nx:=fun δ2=>∃ k,k < m ∧ I k δ2,ct:=fun δ2=>∃ k,k < m ∧ I k δ2,bk:=e.nx } _ hx S2 q2 ⟨n1,L.rt,fun δ4 σ4 G4 H4 s4 S4 q4=>L.nx δ4 σ4 G4 H4 (up.trans s4) S4 q4,n1⟩⟩
  | false=>exact L.nx δ' σ' G2 H2 up S2 q2
noncomputable def capD (cap:List (Option Nat)) (δ:DEn):DEn:=match cap with
  | []=>[]
  | none :: r=>none :: capD r δ
  | some i :: r=>slot δ i :: capD r δ
theorem yf0:∀ (cap:List (Option Nat)) (δ:DEn),(capD cap δ).length = cap.length
  | [],_=>rfl
  | none :: r,δ=>by simp [capD,yf0 r δ]
  | some i :: r,δ=>by simp [capD,yf0 r δ]
theorem zq2:∀ {cap:List (Option Nat)} {δ:DEn} {j:Nat} {s:Sl},slot (capD cap δ) j = some s → ∃ i,cap[j]? = some (some i) ∧ slot δ i = some s
  | [],_,_,_,h=>by cases h
  | none :: r,δ,0,s,h=>by cases h
  | some i :: r,δ,0,s,h=>⟨i,rfl,h⟩
  | none :: r,δ,j + 1,s,h=>by
    obtain ⟨i,h1,h2⟩:=zq2 (cap:=r) (δ:=δ) (j:=j) h
    exact ⟨i,by simpa using h1,h2⟩
  | some _ :: r,δ,j + 1,s,h=>by
    obtain ⟨i,h1,h2⟩:=zq2 (cap:=r) (δ:=δ) (j:=j) h
    exact ⟨i,by simpa using h1,h2⟩
theorem xd7 {cap:List (Option Nat)} {j i:Nat} (h:cap[j]? = some (some i)):i ∈ cap.filterMap id:=List.mem_filterMap.mpr ⟨some i,List.mem_of_getElem? h,rfl⟩
theorem yn4:∀ {cap:List (Option Nat)} {j k i:Nat},(cap.filterMap id).Nodup → cap[j]? = some (some i) → cap[k]? = some (some i) → j = k
  | [],_,_,_,_,h,_=>by simp at h
  | none :: r,0,_,_,_,h,_=>by simp at h
  | none :: r,_ + 1,0,_,_,_,h=>by simp at h
  | none :: r,j + 1,k + 1,i,n,h1,h2=>congrArg (· + 1) (yn4 (cap:=r) (by simpa using n) (by simpa using h1) (by simpa using h2))
  | some a :: r,0,0,_,_,_,_=>rfl
  | some a :: r,0,k + 1,i,n,h1,h2=>by
    have e:a = i:=by simpa using h1
    subst e
    have:a ∈ r.filterMap id:=xd7 (by simpa using h2)
    simp only [List.filterMap_cons,id,List.nodup_cons] at n
    exact absurd this n.1
  | some a :: r,j + 1,0,i,n,h1,h2=>by
    have e:a = i:=by simpa using h2
    subst e
    have:a ∈ r.filterMap id:=xd7 (by simpa using h1)
    simp only [List.filterMap_cons,id,List.nodup_cons] at n
    exact absurd this n.1
  | some a :: r,j + 1,k + 1,i,n,h1,h2=>congrArg (· + 1) (yn4 (cap:=r) (by
      simp only [List.filterMap_cons,id,List.nodup_cons] at n
      exact n.2) (by simpa using h1) (by simpa using h2))
noncomputable def xe7 (cap:List (Option Nat)) (σ σc:L2.St):Prop:=σc.length = cap.length ∧ ∀ (j i:Nat),cap[j]? = some (some i) → σc[j]? = some ((σ[i]?).bind id)
theorem wq8 {cap:List (Option Nat)} {σ:L2.St}:xe7 cap σ (capσ cap σ):=⟨by simp [capσ],fun j i h=>by
  unfold capσ
  rw [List.getElem?_map,h]
  rfl⟩
theorem wb4 {cap:List (Option Nat)} {G H G' H':Hp} {δ:DEn} {σ σc:L2.St} (S:Sees K H₀ G δ σ H) (e:Ext G H G' H') (hn:(cap.filterMap id).Nodup) (c:xe7 cap σ σc):Sees K H₀ G' (capD cap δ) σc H':=by
  have S':=S.ext e
  refine ⟨S'.old,S'.sub,by rw [yf0,c.1]; exact Nat.le_refl _,fun j s h=>?_,fun j k xs ys a h1 h2 e1 e2=>?_⟩
  · obtain ⟨i,h1,h2⟩:=zq2 h
    obtain ⟨v,h3,h4⟩:=S'.has i s h2
    refine ⟨v,?_,h4⟩
    rw [c.2 j i h1,h3]
    rfl
  · obtain ⟨i,g1,g2⟩:=zq2 h1
    obtain ⟨i',g3,g4⟩:=zq2 h2
    obtain ⟨b,_,q1,_⟩:=S'.ownAt g2
    obtain ⟨b',_,q2,_⟩:=S'.ownAt g4
    rw [c.2 j i g1,q1] at e1
    rw [c.2 k i' g3,q2] at e2
    have z1:b = a:=by cases e1; rfl
    have z2:b' = a:=by cases e2; rfl
    subst z1; subst z2
    have:=S'.sep i i' xs ys _ g2 g4 q1 q2
    subst this
    exact yn4 hn g1 g3
noncomputable def dYes (_ex:DX) (_δ:DEn) (Q:Bool → Prop):Prop:=Q true
theorem zh2:TvD K H₀ E tYes dYes:=fun ex δ σ G H Qd Q hx S q k=>k true G H S.refl q
noncomputable def dLC (dl:DL) (cap:List (Option Nat)) (dg:DG) (dt:DT) (de:DE) (ex:DX) (δ:DEn) (Q:List PyData → Prop):Prop:=dl ex δ fun ds=>ds.length ≤ 1000 ∧ ∃ I:Nat → List PyData → Prop,I 0 [] ∧
  (∀ i d acc,ds[i]? = some d → I i acc → dg d (capD cap δ) fun δ2=>dt (fun _=>False) δ2 fun b=>if b = true then de (fun _=>False) δ2 fun y=>I (i + 1) (acc ++ [y]) else I (i + 1) acc) ∧ ∀ acc,I ds.length acc → Q acc
theorem zk2 {wi:TI} {cap:List (Option Nat)} (hi:IvE K H₀ E wi dl) (hg:GvD K H₀ g ns dg) (ht:TvD K H₀ E tt dt) (he:EvD K H₀ E te de) (hn:(cap.filterMap id).Nodup) (hns:ns.all (fun j=>(cap[j]?.bind id).isNone) = true):OvD K H₀ E (tLC wi cap g tt te) (dLC dl cap dg dt de):=fun ex δ σ G H Qd Q hx S q k =>
  hi ex δ σ G H _ _ hx S q fun J xs G1 H1 e1 it ⟨hlen,I,i0,step,fin⟩=>by
    intro D hD
    obtain ⟨eD,gD⟩:=zo1 (xs:=[]) e1.s hD
    refine ⟨fun i m σc Hc=>m = xs.length - i ∧ i ≤ xs.length ∧ xe7 cap σ σc ∧ ∃ G' acc ys,Ext G1 H1 G' Hc ∧ G' D = none ∧ Hc D = some (.lst ys) ∧ DVs K G' ys acc ∧ acc.length ≤ i ∧ I i acc,
      ⟨_,rfl,Nat.zero_le _,wq8,G1,[],[],eD,gD,ze0,.nil,Nat.le_refl _,i0⟩,?_⟩
    rintro i m σc Hc ⟨rfl,hil,cs,G',acc,ys,e',gd,hd,hv,hal,hI⟩
    obtain ⟨t1,t2⟩:=it G' Hc e' i
    by_cases hlt:i < xs.length
    · obtain ⟨g1,g2⟩:=t1 _ (List.getElem?_eq_getElem hlt)
      refine .inr ⟨g1,fun σ2 H2=>xe7 cap σ σ2 ∧ ∃ G' acc ys,Ext G1 H1 G' H2 ∧ G' D = none ∧ H2 D = some (.lst ys) ∧ DVs K G' ys acc ∧ acc.length ≤ i + 1 ∧ I (i + 1) acc,fun σ2 H2 z=>⟨_,by omega,rfl,hlt,z⟩,fun x H2 y=>?_⟩
      obtain ⟨G2,e2,hx2⟩:=g2 x H2 y
      have S2:Sees K H₀ G2 (capD cap δ) σc H2:=wb4 S (e1.trans (e'.trans e2)) hn cs
      refine hg x _ _ σc G2 H2 _ _ S2 hx2 (step i _ acc (List.getElem?_eq_getElem hlt) hI) fun δ3 σ3 S3 kp q3=>?_
      have cs3:xe7 cap σ σ3:=⟨kp.1.trans cs.1,fun j z hj=>by
        rw [kp.2 j (fun hm=>by
          have:=List.all_eq_true.mp hns j hm
          rw [hj] at this
          cases this)]
        exact cs.2 j z hj⟩
      refine ht (fun _=>False) δ3 σ3 G2 H2 _ _ xb6 S3 q3 fun b G4 H4 e4 q4=>?_
      cases b with
      | true =>
        refine he (fun _=>False) δ3 σ3 G4 H4 _ _ xb6 (S3.ext e4) q4 fun y dy G5 H5 e5 hy q5=>?_
        have e25:Ext G' Hc G5 H5:=e2.trans (e4.trans e5)
        have gd5:G5 D = none:=e25.keep gd hd
        have hd5:H5 D = some (.lst ys):=e25.h _ _ hd
        have e15:Ext G1 H1 G5 H5:=e'.trans e25
        refine ⟨ys,hd5,ze3 (by rw [hv.len]; omega),cs3,G5,acc ++ [dy],ys ++ [y],⟨e15.g,fun b o z=>?_,fun b=>?_,e15.n⟩,gd5,ze0,(zd8 e25.g hv).append (.cons hy .nil),by rw [List.length_append]; simp; exact hal,q5⟩
        · rw [zd9 (ze7 z hD)]; exact e15.h b o z
        · by_cases w:b = D
          · subst w; exact .inr ⟨gd5,_,ze0⟩
          · rw [zd9 w]; exact e15.s b
      | false =>
        have e24:Ext G' Hc G4 H4:=e2.trans e4
        exact ⟨cs3,G4,acc,ys,e'.trans e24,e24.keep gd hd,e24.h _ _ hd,zd8 e24.g hv,Nat.le_succ_of_le hal,q4⟩
    · have:i = xs.length:=by omega
      subst this
      exact .inl ⟨t2 (Nat.le_refl _),k D ys acc G' Hc (e1.trans e') (e1.h.free hD) gd hd hv (fin acc hI)⟩
end
noncomputable def zq8:List Str → List PyData → DEn
  | [],_=>[]
  | _ :: N,[]=>none :: zq8 N []
  | _ :: N,d :: ds=>some (.dat d) :: zq8 N ds
theorem zs9:∀ (N:List Str) (ds:List PyData),(zq8 N ds).length = N.length
  | [],_=>rfl
  | _ :: N,[]=>congrArg (· + 1) (zs9 N [])
  | _ :: N,_ :: ds=>congrArg (· + 1) (zs9 N ds)
theorem zn7:∀ {N:List Str} {ds:List PyData} {i:Nat} {s:Sl},slot (zq8 N ds) i = some s → ∃ d,ds[i]? = some d ∧ s = .dat d
  | [],_,_,_,h=>by cases h
  | _ :: N,[],0,_,h=>by cases h
  | _ :: N,[],i + 1,s,h=>by
    obtain ⟨d,h1,_⟩:=zn7 (N:=N) (ds:=[]) (i:=i) h
    simp at h1
  | _ :: N,d :: ds,0,s,h=>by cases h; exact ⟨d,rfl,rfl⟩
  | _ :: N,_ :: ds,i + 1,s,h=>by
    obtain ⟨d,h1,h2⟩:=zn7 (N:=N) (ds:=ds) (i:=i) h
    exact ⟨d,by simpa using h1,h2⟩
theorem zz7 {K:PySem.W.Frag} {H:Hp} {N:List Str} {vs:List V} {ds:List PyData} (h:DVs K H vs ds):Sees K H H (zq8 N ds) (L2.start N vs) H:=by
  refine ⟨Same.refl _,.refl _,?_,fun i s e=>?_,fun i j xs ys a e=>?_⟩
  · rw [zs9]
    simp only [L2.start,List.length_append,List.length_map,List.length_replicate]
    omega
  · obtain ⟨d,h1,rfl⟩:=zn7 e
    obtain ⟨v,h2,h3⟩:=h.at h1
    refine ⟨v,?_,h3⟩
    unfold L2.start
    rw [List.getElem?_append_left (by rw [List.length_map]; exact (List.getElem?_eq_some_iff.mp h2).1),List.getElem?_map,h2]
    rfl
  · obtain ⟨d,_,z⟩:=zn7 e
    cases z
section
variable {P:Program} {w:World} {K:PySem.W.Frag} {mg:Str → Option Value} {base:Heap}
theorem okW {x qual:Str} {st:Stmt} {f:Addr} {fd:FuncData} {N ps:List Str} {k:Nat} {W:DW} (F:Fun K x qual st f fd) (S:FnScope N ps (zb4 st)) (len:∀ ds Q E,W ds Q E → ds.length = ps.length)
    (hbody:∀ (cdv:Value) (A:Around) (outer:List Env) (s:Shared) (H:Hp) (E:XK),Room k (A.deeper (envOfC qual (zb4 st) s.heap.objs.size f cdv)) →
      ∃ t,PSs (cxOf (CXE P w) P w K mg base N qual (zb4 st) f cdv A outer s H E) (zm9 st) t ∧ ∃ d,SvD K H E t d ∧ ∀ ds Q X,W ds Q X → d { nx:=fun _=>Q (.dat .none),rt:=Q,ex:=X } (zq8 N ds)):FnOk P w K mg base (CXE P w) (k + 1) f fd ps (spW K W):=by
  refine okE F S (fun vs H Q E h=>?_) (fun cdv A outer s H vs Q E hr h=>?_)
  · obtain ⟨ds,Qd,Ed,h1,h2,_⟩:=h
    rw [h1.len]; exact len _ _ _ h2
  · obtain ⟨ds,Qd,Ed,h1,h2,h3,h4⟩:=h
    obtain ⟨t,ht,d,hd,hq⟩:=hbody cdv A outer s H E hr
    refine ⟨t,ht,hd _ _ H H { nx:=fun _=>Qd (.dat .none),rt:=Qd,ex:=Ed } _ h4 (zz7 h1) (hq ds Qd Ed h2) ⟨fun δ σ G H' _ S q=>?_,fun v s H' sm r q=>h3 v s H' sm r q,fun _ _ _ _ _ _ z=>z.elim,fun _ _ _ _ _ _ z=>z.elim⟩⟩
    exact h3 .non (.dat .none) H' S.oldH .non q
end
noncomputable def kinds:List String:=["int","bool","str","list","tuple"]
theorem wm3 {K:PySem.W.Frag} (d:PyData) (n:String) (hn:kinds.contains n = true):PySem.W.kitOne K (.type (tyD d)) (.type n) = some (isD n d):=by
  have hm:n = "int" ∨ n = "bool" ∨ n = "str" ∨ n = "list" ∨ n = "tuple":=by
    simpa [kinds] using hn
  have ht:tyD d = "NoneType" ∨ tyD d = "bool" ∨ tyD d = "int" ∨ tyD d = "str" ∨ tyD d = "list" ∨ tyD d = "tuple" ∨ tyD d = "dict":=by
    cases d <;> simp [tyD]
  have key:∀ t n:String,t ≠ n → (PySem.W.kitOne K (.type t) (.type n) = PySem.W.kitCls K (.type t) (.type n)):=fun t n h=>by
    unfold PySem.W.kitOne
    rw [if_neg (by simpa using h)]
  have same:∀ n:String,PySem.W.kitOne K (.type n) (.type n) = some true:=fun n=>by
    unfold PySem.W.kitOne
    rw [if_pos (by simp)]
  unfold isD
  generalize tyD d = t at ht
  clear hn
  rcases ht with rfl | rfl | rfl | rfl | rfl | rfl | rfl <;> rcases hm with rfl | rfl | rfl | rfl | rfl <;>
    first
    | exact same _
    | (rw [key _ _ (by decide)]
       unfold PySem.W.kitCls PySem.W.subIn
       dsimp only
       rw [if_pos (by decide +kernel)]
       decide +kernel)
section
variable {X:Cx} {pins:List (Addr × Obj)} {σ:L2.St} {H:Hp} {s:Shared}
theorem wn3 {A:Around} {Q:Value → Shared → Prop} {Ee:Value → Shared → Prop} {x:V} {d:PyData} {u c:Value} {b:Bool} (I:Inv X pins σ H s) (rx:RelV x u) (h:DV X.K H x d) (e:PySem.W.kitOne X.K (.type (tyD d)) c = some b) (hq:∀ tk,Q (.bool b) { s with toks:=tk }) :
    wpAny (model X.prog X.w) A (call (.builtin "isinstance") [u,c]) Q Ee s:=by
  cases h with
  | non=>exact zp9 I rx .non e hq
  | bl y=>exact zp9 I rx (.bl y) e hq
  | int y=>exact zp9 I rx (.int y) e hq
  | str y=>exact zp9 I rx (.str y) e hq
  | @lst a xs ds hs hd =>
    cases (show u = Value.ref a from rx)
    obtain ⟨its,r,⟨o,n,ho,hc,_,_⟩,_⟩:=I.list hs
    exact PySem.W.kia_one PySem.W.kitx_list I.kIn ⟨o,ho,hc⟩ e (fun z=>nomatch z) hq
  | @tup a xs ds hs hd =>
    cases (show u = Value.ref a from rx)
    obtain ⟨its,r,⟨o,ho,hc,n,_⟩,_⟩:=I.tuple hs
    exact PySem.W.kia_one PySem.W.kitx_tuple I.kIn ⟨o,ho,hc⟩ e (fun z=>nomatch z) hq
  | dct hd=>exact zp9 I rx (.dK hd) e hq
noncomputable def rIsi (K:PySem.W.Frag):List V → Hp → VK → Prop:=fun xs H Q=>∃ x d n,xs = [x,.ty n] ∧ kinds.contains n = true ∧ DV K H x d ∧ Q (.bl (isD n d)) H
theorem xi3 {K:PySem.W.Frag} (hK:X.K = K):CallR X (.builtin "isinstance") (rIsi K):=by
  subst hK
  intro pins s σ H xs us Q I r h
  obtain ⟨x,d,n,rfl,hn,hd,q⟩:=h
  obtain ⟨u,v,rfl,ru,rv⟩:=yu4 r
  cases (show v = Value.type n from rv)
  exact wn3 I ru hd (wm3 d n hn) fun tk=>⟨.bl _,H,I.tok tk,rfl,q⟩
end
section
variable {K:PySem.W.Frag} {H₀:Hp} {E:XK} {te ta tb:TE} {da db de:DE} {dl dk:DL} {t:TA}
noncomputable def dIsi (n:String) (de:DE) (ex:DX) (δ:DEn) (Q:PyData → Prop):Prop:=de ex δ fun d=>Q (.bool (isD n d))
theorem yr5 {n:String} (hn:kinds.contains n = true) (h:BvD K H₀ E te de):EvD K H₀ E (tCB (rIsi K) (zo8 te (zo8 (tC (.ty n)) tNil))) (dIsi n de):=fun ex δ σ G H Qd Q hx S q k =>
  h ex δ σ G H _ _ hx S q fun x d G1 H1 e1 h1 q1=>⟨x,d,n,rfl,hn,h1,k _ _ G1 H1 e1 (.bl _) q1⟩
noncomputable def MvD (K:PySem.W.Frag) (H₀:Hp) (E:XK) (te:TE) (dl:DL):Prop:=∀ ex δ σ G H Qd Q,ExOk H₀ E ex → Sees K H₀ G δ σ H → dl ex δ Qd → (∀ a vs ds G' H',Ext G H G' H' → H' a = some (.lst vs) → DVs K G' vs ds → Qd ds → Q (.ref a) H') → te σ H Q
theorem yy9 (h:OvD K H₀ E te dl):MvD K H₀ E te dl:=fun ex δ σ G H Qd Q hx S q k =>
  h ex δ σ G H _ Q hx S q fun a vs ds G' H' e hn hg hh hd qd=>k a vs ds G' H' e hh hd qd
noncomputable def wa8 (i:Nat) (_ex:DX) (δ:DEn) (Q:List PyData → Prop):Prop:=match slot δ i with
  | some (.own ds)=>Q ds
  | _=>False
theorem wl8 (i:Nat):MvD K H₀ E (tVar i) (wa8 i):=fun ex δ σ G H Qd Q hx S q k=>by
  unfold wa8 at q
  split at q
  · rename_i ds hs
    obtain ⟨a,vs,h1,h2,h3,h4⟩:=S.ownAt hs
    exact ⟨_,h1,k a vs ds G H S.refl h3 h4 q⟩
  · exact q.elim
noncomputable def dCat (dl dk:DL) (ex:DX) (δ:DEn) (Q:List PyData → Prop):Prop:=dl ex δ fun xs=>dk ex δ fun ys=>xs.length + ys.length ≤ 1000 ∧ Q (xs ++ ys)
theorem xm8 (h1:MvD K H₀ E ta dl) (h2:MvD K H₀ E tb dk):OvD K H₀ E (tOp rCat ta tb) (dCat dl dk):=fun ex δ σ G H Qd Q hx S q k =>
  h1 ex δ σ G H _ _ hx S q fun a vs ds G1 H1 e1 l1 d1 q1=>h2 ex δ σ G1 H1 _ _ hx (S.ext e1) q1 fun b ws es G2 H2 e2 l2 d2 ⟨q2,q3⟩ =>
    ⟨a,b,vs,ws,rfl,rfl,e2.h _ _ l1,l2,Nat.le_of_lt (ze3 (by rw [d1.len,d2.len]; exact q2)),fun p hp=>by
      obtain ⟨e3,g3⟩:=zo1 (xs:=vs ++ ws) e2.s hp
      have e0:=e1.trans e2
      exact k p _ _ _ _ (e0.trans e3) (e0.h.free hp) g3 ze0 ((zd8 e2.g d1).append d2) q3⟩
end
section
variable {dl:DL} {dg:DG} {db d1 d2:DS} {e:DEnds} {δ:DEn}
theorem zj6 (h:d1 { e with nx:=d2 e } δ):dSeq d1 d2 e δ:=h
theorem yr8 (I:DEn → Prop) (h:d1 { e with nx:=I } δ) (k:∀ δ',I δ' → d2 e δ'):dCut d1 d2 e δ:=⟨I,h,k⟩
theorem zo0 {α:Type} (f:α → PyData) (xs:List α) (hl:∀ Q,Q (xs.map f) → dl e.ex δ Q) (I:Nat → DEn → Prop) (h0:I 0 δ)
    (hs:∀ i x δ',xs[i]? = some x → I i δ' → dg (f x) δ' fun δ2=>db { e with nx:=I (i + 1),ct:=I (i + 1),bk:=e.nx } δ2) (hd:∀ δ',I xs.length δ' → e.nx δ'):dFor dl dg db e δ :=
  hl _ ⟨I,h0,fun i d δ' hi hI=>by
    rw [List.getElem?_map] at hi
    cases q:xs[i]? with
    | none=>rw [q] at hi; cases hi
    | some x =>
      rw [q] at hi
      cases hi
      exact hs i x δ' q hI,fun δ' hI=>hd δ' (by rw [List.length_map] at hI; exact hI)⟩
theorem ye3 {lo st:Int} {n:Nat} (hl:∀ Q,Q (rngD lo n st) → dl e.ex δ Q) (I:Nat → DEn → Prop) (h0:I 0 δ)
    (hs:∀ i δ',i < n → I i δ' → dg (.int (lo + (i:Int) * st)) δ' fun δ2=>db { e with nx:=I (i + 1),ct:=I (i + 1),bk:=e.nx } δ2) (hd:∀ δ',I n δ' → e.nx δ'):dFor dl dg db e δ :=
  hl _ ⟨I,h0,fun i d δ' hi hI=>by
    obtain ⟨h1,rfl⟩:=yl4 hi
    exact hs i δ' h1 hI,fun δ' hI=>hd δ' (by rw [yc6] at hI; exact hI)⟩
variable {dt:DT} {de:DE} {cap:List (Option Nat)} {ex:DX} {Q:List PyData → Prop}
theorem zh3 {α β:Type} (f:α → PyData) (g:β → PyData) (F:α → List β) (xs:List α) (hlen:xs.length ≤ 1000) (hl:∀ Q,Q (xs.map f) → dl ex δ Q)
    (hs:∀ x ∈ xs,∀ N:List PyData → Prop,∀ acc,N (acc ++ (F x).map g) → dg (f x) (capD cap δ) fun δ2=>dt (fun _=>False) δ2 fun b=>if b = true then de (fun _=>False) δ2 fun y=>N (acc ++ [y]) else N acc)
    (hd:Q ((xs.flatMap F).map g)):dLC dl cap dg dt de ex δ Q :=
  hl _ ⟨by rw [List.length_map]; exact hlen,fun i acc=>acc = ((xs.take i).flatMap F).map g,by simp,fun i d acc hi hI=>by
    rw [List.getElem?_map] at hi
    cases q:xs[i]? with
    | none=>rw [q] at hi; cases hi
    | some x =>
      rw [q] at hi
      cases hi
      subst hI
      refine hs x (List.mem_of_getElem? q) (fun acc=>acc = ((xs.take (i + 1)).flatMap F).map g) _ ?_
      have e:xs.take (i + 1) = xs.take i ++ [x]:=by
        rw [List.take_add_one,q]; rfl
      rw [e]
      simp,fun acc hI=>by
    subst hI
    rw [List.length_map,List.take_of_length_le (Nat.le_refl _)]
    exact hd⟩
end
noncomputable abbrev DXS:=DEn → Addr → Prop
noncomputable abbrev DSX:=DEnds → DXS → DEn → Prop
structure LkX (K:PySem.W.Frag) (H₀ G:Hp) (xd:DXS) (XE:XS):Prop where
  ex:∀ δ σ C G' H,Same G G' → Sees K H₀ G' δ σ H → xd δ C → XE σ (.ref C) none H
theorem LkX.mono {K:PySem.W.Frag} {H₀ G G1:Hp} {xd:DXS} {XE:XS} (L:LkX K H₀ G xd XE) (s:Same G G1):LkX K H₀ G1 xd XE:=⟨fun δ σ C G' H t=>L.ex δ σ C G' H (s.trans t)⟩
noncomputable abbrev nox (e:DEnds):DEnds:={ e with ex:=fun _=>False }
theorem Lk.nox {K:PySem.W.Frag} {H₀ G:Hp} {e:DEnds} {D:Ends} (L:Lk K H₀ G e D):Lk K H₀ G (nox e) D:=⟨L.nx,L.rt,L.bk,L.ct⟩
section
variable {K:PySem.W.Frag} {H₀:Hp} {E:XK} {t:TA} {dl:DL} {ts:TS} {ds:DS} {tb tc:TSX} {db dc:DSX} {tt:TT} {dt:DT}
end
section
variable {K:PySem.W.Frag} {H₀:Hp} {E:XK} {t:TA} {dl:DL} {ts:TS} {ds:DS} {tb tc:TSX} {db dc:DSX}
end
noncomputable def wLaw:DW:=fun ds Q _=>∃ ns:List Int,ds = [.list (ns.map .int)] ∧ ns.length ≤ 63 ∧ (∀ v ∈ ns,Builtin.Int.intBits v ≤ 1048576) ∧ Q (.dat (.bool true))
theorem zy4 {K:PySem.W.Frag} {H:Hp}:∀ ns:List Int,DVs K H (ns.map V.int) (ns.map PyData.int)
  | []=>.nil
  | n :: ns=>.cons (.int n) (zy4 ns)
theorem wm2 {P:Program} {w:World} {K:PySem.W.Frag} {mg:Str → Option Value} {base:Heap} {k:Nat} {f:Addr} {fd:FuncData} {ps:List Str} (F:FnOk P w K mg base (CXE P w) k f fd ps (spW K wLaw)):FnOk P w K mg base (CXE P w) k f fd ps (xg4 K) :=
  F.imp fun vs H Q E ⟨a,ns,e,hS,hl,hb,_,q⟩=>by
    subst e
    refine ⟨[.list (ns.map .int)],fun s=>s = .dat (.bool true),fun _=>False,.cons (.lst hS (zy4 ns)) .nil,⟨ns,rfl,hl,hb,rfl⟩,fun v s H' _ r hs=>?_,fun _ _ _ z=>z.elim⟩
    subst hs
    cases zz1 r
    exact q H'
section
variable {X:Cx} {pins:List (Addr × Obj)} {σ:L2.St} {H:Hp} {s:Shared} {h':Heap}
theorem zi0 {t':Nat} {ws:List Addr} (I:Inv X pins σ H s) (k:∀ b o,b ∉ ws → s.heap.get? b = some o → h'.get? b = some o) (f:∀ b ∈ ws,FpOk X pins H b):Inv X pins σ H { s with heap:=h',toks:=t' }:=by
  have nit:∀ b u,H b = some u → b ∉ ws:=fun b u e z=>by rw [(f b z).1] at e; cases e
  refine I.step (g':=s.gens) (d':=s.drawn) (ch:=ws) (fun b hb=>⟨(f b hb).2.2.2.1,(f b hb).2.1,(f b hb).2.2.2.2.1,(f b hb).2.2.2.2.2⟩) (fun b o _ _ hc e _=>k b o hc e) (fun b o _ _ hc e _=>⟨o.slots,k b o hc e⟩) (fun _ _ _ _ n=>n)
    (fun b o hc e=>⟨o,k b o hc e⟩) (fun _ _ e=>e) (fun _ _ _ e=>e) (fun b ps e=>⟨#[],by rw [e]; simp⟩) (fun m hm=>?_) (fun b u e=>?_) I.bare
  · obtain ⟨o,es,ep,ho,r⟩:=hm
    exact ⟨o,es,ep,k _ o (fun z=>(f _ z).2.1 rfl) ho,r⟩
  · refine (I.hok b u e).stay (fun c v hc q=>k c v ?_ q) (fun _ q=>q) fun _ _ q=>q
    rcases hc with z | z
    · rw [z]; exact nit b u e
    · exact nit c _ z
theorem xa5 {T:Addr} {xs:List V} {its:List Value} (I:Inv X pins σ H s) (f:FpOk X pins H T) (h0:X.s₀.heap.objs.size ≤ T) (hT:s.heap.IsTuple T its.toArray) (r:Vals xs its) (hz:xs.length ≤ sizeLine):Inv X pins σ (upd H T (.tup xs)) s:=by
  obtain ⟨f0,f1,f2,f3,f4,f5⟩:=f
  have neH:∀ b o,H b = some o → b ≠ T:=fun b o e z=>by rw [z,f0] at e; cases e
  refine ⟨I.ok,I.os,I.bare,⟨I.base.keep,I.base.slot,fun b o e n hb=>?_,I.base.there,fun b xs e=>?_,fun b o u e=>?_,fun b ps e=>?_⟩,I.loc,I.cell,?_,fun y c e=>?_,fun p hp=>?_,fun b o e=>?_,I.len⟩
  · rw [zd9 (Nat.ne_of_lt (Nat.lt_of_lt_of_le (Heap.lt_size e) h0))]
    exact I.base.free b o e n hb
  · have q:=I.base.tups b xs e
    rw [zd9 (neH b _ q)]; exact q
  · have q:=I.base.frzs b o u e
    rw [zd9 (neH b _ q)]; exact q
  · obtain ⟨m,q⟩:=I.base.tbls b ps e
    exact ⟨m,by rw [zd9 (neH b _ q)]; exact q⟩
  · rw [zd9 (Ne.symm f1)]; exact I.free
  · rw [zd9 (f4 y c e)]; exact I.freeC y c e
  · obtain ⟨e,n,r⟩:=I.pin p hp
    exact ⟨e,by rw [zd9 (f5 p hp)]; exact n,r⟩
  · by_cases hb:b = T
    · subst hb
      rw [ze0] at e; cases e
      exact ⟨hz,its,r,hT⟩
    · rw [zd9 hb] at e
      exact (I.hok b o e).stay (fun c v _ q=>q) (fun c q=>by rw [zd9 (neH c _ q)]; exact q) fun c xs q=>by rw [zd9 (neH c _ q)]; exact q
end
noncomputable def Itz (K:PySem.W.Frag) (a b:Addr):It :=
  ⟨fun i H=>∃ xs ys,SqL K H a xs ∧ SqL K H b ys ∧ i < xs.length ∧ i < ys.length,
   fun i H x H'=>∃ T u v,x = .ref T ∧ H T = none ∧ H' = upd H T (.tup [u,v]) ∧ (∀ xs,SqL K H a xs → xs[i]? = some u) ∧ ∀ ys,SqL K H b ys → ys[i]? = some v,
   fun i H=>∃ xs ys,SqL K H a xs ∧ SqL K H b ys ∧ (xs.length ≤ i ∨ ys.length ≤ i)⟩
theorem xf5 {P:Program} {w:World} {K:PySem.W.Frag} {elts:List Expr} {k:Nat} {pos:Pos} {z TI TO i1 i2 l1 l2:Addr} (D:ZipApart z TI TO i1 i2 l1 l2) :
    Turn P w K (.Tuple elts k pos) (Itz K l1 l2) [z,TI,TO,i1,i2] z (fun i h=>IsZip h z TI TO .none ∧ IsPair h TI (.ref i1) (.ref i2) ∧ (∃ a b,IsPair h TO a b) ∧ h.IsListIter i1 l1 i ∧ h.IsListIter i2 l2 i) where
  mem:=by simp
  obj:=fun i h st b hb=>by
    obtain ⟨hz,hTI,⟨x,y,hTO⟩,⟨o1,e1,_,d1⟩,⟨o2,e2,_,d2⟩⟩:=st
    simp only [List.mem_cons,List.not_mem_nil,or_false] at hb
    rcases hb with rfl | rfl | rfl | rfl | rfl
    · exact ⟨_,hz,fun v q=>by cases q⟩
    · exact ⟨_,hTI,fun v q=>by cases q⟩
    · exact ⟨_,hTO,fun v q=>by cases q⟩
    · exact ⟨o1,e1,fun v q=>by rw [d1] at q; cases q⟩
    · exact ⟨o2,e2,fun v q=>by rw [d2] at q; cases q⟩
  keep:=fun i h h' st kp=>by
    obtain ⟨hz,hTI,⟨x,y,hTO⟩,h1,h2⟩:=st
    exact ⟨kp z (by simp) _ hz,kp TI (by simp) _ hTI,⟨x,y,kp TO (by simp) _ hTO⟩,h1.at fun o e=>kp i1 (by simp) o e,h2.at fun o e=>kp i2 (by simp) o e⟩
  item:=by
    intro X hP hw hK hc i pins s σ H E I hf st hg
    subst hP hw hK
    obtain ⟨xs,ys,q1,q2,g1,g2⟩:=hg
    obtain ⟨its1,rv1,p1,z1⟩:=I.list q1
    obtain ⟨its2,rv2,p2,z2⟩:=I.list q2
    obtain ⟨hz,hTI,⟨x0,y0,hTO⟩,h1,h2⟩:=st
    have W:=WalksT.zip2 (prog:=X.prog) (w:=X.w) (A:=X.A) (I.ok.hd hc) z TI TO i1 i2 l1 l2 D its1.toArray its2.toArray
    have L1:=rv1.length
    have L2:=rv2.length
    refine W.item i s _ _ (by simp only [List.size_toArray]; omega) ⟨hz,hTI,⟨_,_,hTO⟩,h1,h2,p1.isList,p2.isList⟩ fun T vals h' tk hv hsz hT hmid kk=>?_
    obtain ⟨x,y,hx,hy,rfl⟩:=hv
    refine ⟨_,rfl,W.go elts k pos i T { s with heap:=h',toks:=tk } _ _ hmid fun h3 hst kk3=>?_⟩
    obtain ⟨u,e1⟩:∃ u,xs[i]? = some u:=⟨xs[i],List.getElem?_eq_getElem g1⟩
    obtain ⟨v,e2⟩:∃ v,ys[i]? = some v:=⟨ys[i],List.getElem?_eq_getElem g2⟩
    obtain ⟨x',e3,r1⟩:=rv1.get e1
    obtain ⟨y',e4,r2⟩:=rv2.get e2
    have ex:x' = x:=by
      have:its1[i]? = some x:=by simpa using hx
      rw [e3] at this; exact Option.some.inj this
    have ey:y' = y:=by
      have:its2[i]? = some y:=by simpa using hy
      rw [e4] at this; exact Option.some.inj this
    subst ex; subst ey
    have fw:∀ b ∈ [z,TO,i1,i2],FpOk X pins H b:=fun b hb=>hf b (by
      simp only [List.mem_cons,List.not_mem_nil,or_false] at hb ⊢
      rcases hb with rfl | rfl | rfl | rfl <;> simp)
    have I1:Inv X pins σ H { s with heap:=h',toks:=tk }:=zi0 I kk fw
    have I2:Inv X pins σ H { s with heap:=h3,toks:=tk }:=zi0 (s:={ s with heap:=h',toks:=tk }) I1 kk3 fw
    have nT:=W.apart i T h' hmid
    have hT3:h3.IsTuple T #[x',y']:=by
      obtain ⟨o,ho,r⟩:=hT
      exact ⟨o,kk3 T o nT ho,r⟩
    have fT:FpOk X pins H T:=I.fpOk hsz (I.hok.fresh hsz)
    have I3:=xa5 (xs:=[u,v]) (its:=[x',y']) I2 fT (Nat.le_trans I.sz hsz) hT3 (.cons r1 (.cons r2 .nil)) (Nat.le_of_lt (ze3 (by show 2 ≤ 1000; decide)))
    refine ⟨.ref T,upd H T (.tup [u,v]),I3,rfl,⟨T,u,v,rfl,fT.1,rfl,fun xs' h=>by rw [I.list_inj h q1]; exact e1,fun ys' h=>by rw [I.list_inj h q2]; exact e2⟩,⟨hst.1,hst.2.1,hst.2.2.1,hst.2.2.2.1,hst.2.2.2.2.1⟩,fun b hb=>?_⟩
    rw [zd9]
    · exact (hf b hb).1
    · intro e
      subst e
      have:∃ o,s.heap.get? b = some o:=by
        simp only [List.mem_cons,List.not_mem_nil,or_false] at hb
        rcases hb with rfl | rfl | rfl | rfl | rfl
        · exact ⟨_,hz⟩
        · exact ⟨_,hTI⟩
        · exact ⟨_,hTO⟩
        · obtain ⟨o,e,_⟩:=h1; exact ⟨o,e⟩
        · obtain ⟨o,e,_⟩:=h2; exact ⟨o,e⟩
      obtain ⟨o,e⟩:=this
      exact absurd (Heap.lt_size e) (Nat.not_lt.mpr hsz)
  done:=by
    intro X hP hw hK hc i pins s σ H E I hf st hg
    subst hP hw hK
    obtain ⟨xs,ys,q1,q2,g⟩:=hg
    obtain ⟨its1,rv1,p1,z1⟩:=I.list q1
    obtain ⟨its2,rv2,p2,z2⟩:=I.list q2
    obtain ⟨hz,hTI,⟨x0,y0,hTO⟩,h1,h2⟩:=st
    have L1:=rv1.length
    have L2:=rv2.length
    refine wpAny_pyNext_zip_end (I.ok.hd hc) D hz hTI hTO h1 h2 p1.isList p2.isList ?_ fun h' hk=>⟨rfl,?_⟩
    · rcases g with g | g
      · exact .inl (by simp; omega)
      · exact .inr (by simp; omega)
    · exact zi0 (t':=s.toks) (ws:=[z,TO,i1,i2]) I (fun b o hb e=>hk b o (fun x=>hb (by simp [x])) (fun x=>hb (by simp [x])) (fun x=>hb (by simp [x])) (fun x=>hb (by simp [x])) e) fun b hb=>hf b (by
        simp only [List.mem_cons,List.not_mem_nil,or_false] at hb ⊢
        rcases hb with rfl | rfl | rfl | rfl <;> simp)
  self:=fun _ _ _ _ _ st h=>wpAny_pyIter_zip st.1 h
theorem xk4:bootBuiltins "zip" = some (.type "zip"):=by decide +kernel
theorem zz2:bootBuiltins "enumerate" = some (.type "enumerate"):=by decide +kernel
section
variable {X:Cx} {K:PySem.W.Frag}
noncomputable def iZip (K:PySem.W.Frag) (t:TA):TI:=fun σ H R=>t σ H fun vs H1=>∃ a b,vs = [.ref a,.ref b] ∧ (∃ xs,SqL K H1 a xs) ∧ (∃ ys,SqL K H1 b ys) ∧ R (Itz K a b) H1
theorem ya1 {elts:List Expr} {k:Nat} {tpos:Pos} {a b:Expr} {ta:TA} {p pos:Pos} (hK:X.K = K) (hg:Gl X "zip") (hm:X.mg "zip" = none) (ha:PA X [a,b] ta) (hs:starEach [a,b] X.env = [(false,eval a X.env),(false,eval b X.env)]:=by rfl) (hs2:starEach [b] X.env = [(false,eval b X.env)]:=by rfl) :
    PI X (.Tuple elts k tpos) (.Call (.Name "zip" p) [a,b] [] pos) (iZip K ta):=by
  subst hK
  intro pins s σ H R I h
  refine Call_ (zt6 I hg hm xk4 (PyProof.Rows.callWith_type1 (thn (ha pos pins s σ H _ I h) fun us s1 ⟨vs,H1,I1,r1,q1⟩=>?_) (by rw [hs,hs2]) (by rw [hs2]; rfl)))
  obtain ⟨a',b',e,⟨xs,g1⟩,⟨ys,g2⟩,q⟩:=q1
  subst e
  obtain ⟨u,v,rfl,ru,rv⟩:=yu4 r1
  cases ru; cases rv
  obtain ⟨its1,rv1,p1,z1⟩:=I1.list g1
  obtain ⟨its2,rv2,p2,z2⟩:=I1.list g2
  have a1:a' < s1.heap.objs.size:=by obtain ⟨_,e,_⟩:=p1.isList; exact Heap.lt_size e
  have a2:b' < s1.heap.objs.size:=by obtain ⟨_,e,_⟩:=p2.isList; exact Heap.lt_size e
  refine call_zip_2 p1.isList p2.isList fun h' hz hTI hTO hi1 hi2 _ hk=>wpAny_pyIter_zip hz ?_
  refine ⟨s1.heap.objs.size + 4,[s1.heap.objs.size + 4,s1.heap.objs.size + 2,s1.heap.objs.size + 3,s1.heap.objs.size,s1.heap.objs.size + 1],_,_,H1,rfl,I1.kept (t':=s1.toks) hk,xf5 (zipApart_new a1 a2),⟨hz,hTI,⟨_,_,hTO⟩,hi1,hi2⟩,fun b hb=>?_,q⟩
  have hb2:s1.heap.objs.size ≤ b:=by
    simp only [List.mem_cons,List.not_mem_nil,or_false] at hb
    rcases hb with rfl | rfl | rfl | rfl | rfl <;> omega
  exact I1.fpOk hb2 (I1.hok.fresh hb2)
end
noncomputable def Ite (K:PySem.W.Frag) (a:Addr):It :=
  ⟨fun i H=>∃ xs,SqL K H a xs ∧ i < xs.length,
   fun i H x H'=>∃ T u,x = .ref T ∧ H T = none ∧ H' = upd H T (.tup [.int (i:Int),u]) ∧ ∀ xs,SqL K H a xs → xs[i]? = some u,
   fun i H=>∃ xs,SqL K H a xs ∧ xs.length ≤ i⟩
theorem yv0 {P:Program} {w:World} {K:PySem.W.Frag} {elts:List Expr} {k:Nat} {pos:Pos} {e it l:Addr} (hei:e ≠ it) (hle:l ≠ e) (hli:l ≠ it) :
    Turn P w K (.Tuple elts k pos) (Ite K l) [e,it] e (fun i h=>(∃ old,IsEnum h e it i old) ∧ h.IsListIter it l i) where
  mem:=by simp
  obj:=fun i h st b hb=>by
    obtain ⟨⟨old,he⟩,⟨o1,e1,_,d1⟩⟩:=st
    simp only [List.mem_cons,List.not_mem_nil,or_false] at hb
    rcases hb with rfl | rfl
    · exact ⟨_,he,fun v q=>by cases q⟩
    · exact ⟨o1,e1,fun v q=>by rw [d1] at q; cases q⟩
  keep:=fun i h h' st kp=>by
    obtain ⟨⟨old,he⟩,h1⟩:=st
    exact ⟨⟨old,kp e (by simp) _ he⟩,h1.at fun o x=>kp it (by simp) o x⟩
  item:=by
    intro X hP hw hK hc i pins s σ H E I hf st hg
    subst hP hw hK
    obtain ⟨xs,q1,g1⟩:=hg
    obtain ⟨its1,rv1,p1,z1⟩:=I.list q1
    obtain ⟨⟨old,he⟩,h1⟩:=st
    have W:=WalksT.enumerate (prog:=X.prog) (w:=X.w) (A:=X.A) (I.ok.hd hc) e it l hei hle hli its1.toArray
    have L1:=rv1.length
    refine W.item i s _ _ (by simp only [List.size_toArray]; omega) ⟨⟨old,he⟩,h1,p1.isList⟩ fun T vals h' tk hv hsz hT hmid kk=>?_
    obtain ⟨t,x,hx,rfl⟩:=hv
    refine ⟨_,rfl,W.go elts k pos i T { s with heap:=h',toks:=tk } _ _ hmid fun h3 hst kk3=>?_⟩
    obtain ⟨u,e1⟩:∃ u,xs[i]? = some u:=⟨xs[i],List.getElem?_eq_getElem g1⟩
    obtain ⟨x',e3,r1⟩:=rv1.get e1
    have ex:x' = x:=by
      have:its1[i]? = some x:=by simpa using hx
      rw [e3] at this; exact Option.some.inj this
    subst ex
    have I1:Inv X pins σ H { s with heap:=h',toks:=tk }:=zi0 I kk hf
    have I2:Inv X pins σ H { s with heap:=h3,toks:=tk }:=zi0 (s:={ s with heap:=h',toks:=tk }) I1 kk3 hf
    have nT:=W.apart i T h' hmid
    have hT3:h3.IsTuple T #[.int i t,x']:=by
      obtain ⟨o,ho,r⟩:=hT
      exact ⟨o,kk3 T o nT ho,r⟩
    have fT:FpOk X pins H T:=I.fpOk hsz (I.hok.fresh hsz)
    have I3:=xa5 (xs:=[.int (i:Int),u]) (its:=[.int i t,x']) I2 fT (Nat.le_trans I.sz hsz) hT3 (.cons ⟨t,rfl⟩ (.cons r1 .nil)) (Nat.le_of_lt (ze3 (by show 2 ≤ 1000; decide)))
    refine ⟨.ref T,upd H T (.tup [.int (i:Int),u]),I3,rfl,⟨T,u,rfl,fT.1,rfl,fun xs' h=>by rw [I.list_inj h q1]; exact e1⟩,⟨hst.1,hst.2.1⟩,fun b hb=>?_⟩
    rw [zd9]
    · exact (hf b hb).1
    · intro e'
      subst e'
      have:∃ o,s.heap.get? b = some o:=by
        simp only [List.mem_cons,List.not_mem_nil,or_false] at hb
        rcases hb with rfl | rfl
        · exact ⟨_,he⟩
        · obtain ⟨o,e,_⟩:=h1; exact ⟨o,e⟩
      obtain ⟨o,e⟩:=this
      exact absurd (Heap.lt_size e) (Nat.not_lt.mpr hsz)
  done:=by
    intro X hP hw hK hc i pins s σ H E I hf st hg
    subst hP hw hK
    obtain ⟨xs,q1,g⟩:=hg
    obtain ⟨its1,rv1,p1,z1⟩:=I.list q1
    obtain ⟨⟨old,he⟩,h1⟩:=st
    have L1:=rv1.length
    exact wpAny_pyNext_enum_end (I.ok.hd hc) he h1 p1.isList (by simp; omega) fun h' hx=>⟨rfl,zi0 (t':=s.toks) (ws:=[e,it]) I (fun b o hb y=>hx b o (fun e'=>hb (by simp [e'])) y) hf⟩
  self:=fun _ _ _ _ _ st h=>by
    obtain ⟨⟨old,he⟩,_⟩:=st
    exact wpAny_pyIter_enum he h
section
variable {X:Cx} {K:PySem.W.Frag}
noncomputable def wn9 (K:PySem.W.Frag) (t:TA):TI:=fun σ H R=>t σ H fun vs H1=>∃ a,vs = [.ref a] ∧ (∃ xs,SqL K H1 a xs) ∧ R (Ite K a) H1
theorem yh2 {elts:List Expr} {k:Nat} {tpos:Pos} {a:Expr} {ta:TA} {p pos:Pos} (hK:X.K = K) (hg:Gl X "enumerate") (hm:X.mg "enumerate" = none) (ha:PA X [a] ta) (hs:starEach [a] X.env = [(false,eval a X.env)]:=by rfl) :
    PI X (.Tuple elts k tpos) (.Call (.Name "enumerate" p) [a] [] pos) (wn9 K ta):=by
  subst hK
  intro pins s σ H R I h
  refine Call_ (zt6 I hg hm zz2 (PyProof.Rows.callWith_type1 (thn (ha pos pins s σ H _ I h) fun us s1 ⟨vs,H1,I1,r1,q1⟩=>?_) (by rw [hs]; rfl) (by rfl)))
  obtain ⟨a',e,⟨xs,g1⟩,q⟩:=q1
  subst e
  obtain ⟨u,rfl,ru⟩:=zu1 r1
  cases ru
  obtain ⟨its1,rv1,p1,z1⟩:=I1.list g1
  have a1:a' < s1.heap.objs.size:=by obtain ⟨_,e,_⟩:=p1.isList; exact Heap.lt_size e
  refine call_enumerate_list p1.isList fun h' hz hi1 _ hk=>wpAny_pyIter_enum hz ?_
  refine ⟨s1.heap.objs.size + 1,[s1.heap.objs.size + 1,s1.heap.objs.size],_,_,H1,rfl,I1.kept (t':=s1.toks) hk,yv0 (e:=s1.heap.objs.size + 1) (it:=s1.heap.objs.size) (l:=a') (Nat.succ_ne_self _) (Nat.ne_of_lt (Nat.lt_succ_of_lt a1)) (Nat.ne_of_lt a1),⟨⟨_,hz⟩,hi1⟩,fun b hb=>?_,q⟩
  have hb2:s1.heap.objs.size ≤ b:=by
    simp only [List.mem_cons,List.not_mem_nil,or_false] at hb
    rcases hb with rfl | rfl <;> omega
  exact I1.fpOk hb2 (I1.hok.fresh hb2)
end
section
variable {K:PySem.W.Frag} {H₀:Hp} {E:XK} {te ta tb:TE} {da db de:DE} {dl dk:DL} {t:TA}
noncomputable def pairD:List PyData → List PyData → List PyData
  | x :: xs,y :: ys=>.tuple [x,y] :: pairD xs ys
  | _,_=>[]
theorem yh4:∀ xs ys:List PyData,(pairD xs ys).length = min xs.length ys.length
  | [],_=>by simp [pairD]
  | _ :: _,[]=>by simp [pairD]
  | x :: xs,y :: ys=>by simp [pairD,yh4 xs ys]
theorem yq2:∀ {xs ys:List PyData} {i:Nat} {d:PyData},(pairD xs ys)[i]? = some d → ∃ x y,xs[i]? = some x ∧ ys[i]? = some y ∧ d = .tuple [x,y]
  | [],_,_,_,h=>by simp [pairD] at h
  | _ :: _,[],_,_,h=>by simp [pairD] at h
  | x :: xs,y :: ys,0,d,h=>⟨x,y,rfl,rfl,by simpa [pairD] using h.symm⟩
  | x :: xs,y :: ys,i + 1,d,h=>by
    obtain ⟨u,v,h1,h2,h3⟩:=yq2 (xs:=xs) (ys:=ys) (i:=i) (d:=d) (by simpa [pairD] using h)
    exact ⟨u,v,by simpa using h1,by simpa using h2,h3⟩
noncomputable def dZip (dl dk:DL) (ex:DX) (δ:DEn) (Q:List PyData → Prop):Prop:=dl ex δ fun xs=>dk ex δ fun ys=>Q (pairD xs ys)
theorem xo2 {a b:Addr} {vs ws:List V} {xs ys:List PyData} {G H:Hp} (s:Sub G H) (h1:SqL K H a vs) (h2:SqL K H b ws) (d1:DVs K G vs xs) (d2:DVs K G ws ys) (i:Nat) :
    (∀ d,(pairD xs ys)[i]? = some d → (Itz K a b).go i H ∧ ∀ x H2,(Itz K a b).yld i H x H2 → ∃ G2,Ext G H G2 H2 ∧ DV K G2 x d) ∧ ((pairD xs ys).length ≤ i → (Itz K a b).stop i H):=by
  refine ⟨fun d hi=>?_,fun hi=>⟨vs,ws,h1,h2,?_⟩⟩
  · obtain ⟨x,y,e1,e2,rfl⟩:=yq2 hi
    obtain ⟨u,f1,f2⟩:=d1.at e1
    obtain ⟨v,g1,g2⟩:=d2.at e2
    refine ⟨⟨vs,ws,h1,h2,(List.getElem?_eq_some_iff.mp f1).1,(List.getElem?_eq_some_iff.mp g1).1⟩,fun z H2 ⟨T,u',v',e3,hT,e4,k1,k2⟩=>?_⟩
    subst e3 e4
    have q1:=k1 vs h1
    have q2:=k2 ws h2
    rw [f1] at q1; rw [g1] at q2
    cases q1; cases q2
    have e:=ye4 (xs:=[u,v]) s hT
    exact ⟨_,e,.tup (SqT.of ze0) (.cons (zg4 e.g f2) (.cons (zg4 e.g g2) .nil))⟩
  · rw [yh4] at hi
    have:=d1.len
    have:=d2.len
    omega
theorem xo3 (h1:EvD K H₀ E ta da) (h2:EvD K H₀ E tb db):IvS K H₀ E (iZip K (zo8 ta (zo8 tb tNil))) (dZip (dAsL da) (dAsL db)):=fun ex δ σ G H Qd R hx S q k =>
  h1 ex δ σ G H _ _ hx S q fun v d G1 H1 e1 hd q1=>by
    cases d with
    | list xs =>
      refine h2 ex δ σ G1 H1 _ _ hx (S.ext e1) q1 fun v2 d2 G2 H2 e2 hd2 q2=>?_
      cases d2 with
      | list ys =>
        obtain ⟨a,vs,rfl,a1,a2⟩:=zk8 hd
        obtain ⟨b,ws,rfl,b1,b2⟩:=zk8 hd2
        refine ⟨a,b,rfl,⟨vs,e2.h.seq (e1.s.same.seq a1)⟩,⟨ws,e2.s.same.seq b1⟩,k _ _ G2 H2 (e1.trans e2) (fun G' H' s1 s2 i=>?_) q2⟩
        exact xo2 s2 (s2.same.seq (s1.seq (e2.g.seq a1))) (s2.same.seq (s1.seq b1)) (zd8 s1 (zd8 e2.g a2)) (zd8 s1 b2) i
      | _=>exact q2.elim
    | _=>exact q1.elim
theorem yr1 (h1:LvD K H₀ E ta dl) (h2:LvD K H₀ E tb dk):IvE K H₀ E (iZip K (zo8 ta (zo8 tb tNil))) (dZip dl dk):=fun ex δ σ G H Qd R hx S q k =>
  h1 ex δ σ G H _ _ hx S q fun a vs xs G1 H1 e1 a1 a2 q1=>h2 ex δ σ G1 H1 _ _ hx (S.ext e1) q1 fun b ws ys G2 H2 e2 b1 b2 q2 =>
    ⟨a,b,rfl,⟨vs,e2.h.seq a1⟩,⟨ws,b1⟩,k _ _ G2 H2 (e1.trans e2) (fun G' H' e i=>xo2 e.s (e.h.seq (e2.h.seq a1)) (e.h.seq b1) (zd8 e.g (zd8 e2.g a2)) (zd8 e.g b2) i) q2⟩
noncomputable def enumD:Nat → List PyData → List PyData
  | _,[]=>[]
  | k,x :: xs=>.tuple [.int (k:Int),x] :: enumD (k + 1) xs
theorem yj4:∀ (k:Nat) (xs:List PyData),(enumD k xs).length = xs.length
  | _,[]=>rfl
  | k,x :: xs=>by simp [enumD,yj4 (k + 1) xs]
theorem yr6:∀ {k:Nat} {xs:List PyData} {i:Nat} {d:PyData},(enumD k xs)[i]? = some d → ∃ x,xs[i]? = some x ∧ d = .tuple [.int ((k + i:Nat):Int),x]
  | _,[],_,_,h=>by simp [enumD] at h
  | k,x :: xs,0,d,h=>⟨x,rfl,by simpa [enumD] using h.symm⟩
  | k,x :: xs,i + 1,d,h=>by
    obtain ⟨u,h1,h2⟩:=yr6 (k:=k + 1) (xs:=xs) (i:=i) (d:=d) (by simpa [enumD] using h)
    refine ⟨u,by simpa using h1,?_⟩
    rw [h2]
    have e:k + 1 + i = k + (i + 1):=by omega
    rw [e]
noncomputable def wq1 (dl:DL) (ex:DX) (δ:DEn) (Q:List PyData → Prop):Prop:=dl ex δ fun xs=>Q (enumD 0 xs)
theorem wn1 {a:Addr} {vs:List V} {xs:List PyData} {G H:Hp} (s:Sub G H) (h1:SqL K H a vs) (d1:DVs K G vs xs) (i:Nat) :
    (∀ d,(enumD 0 xs)[i]? = some d → (Ite K a).go i H ∧ ∀ x H2,(Ite K a).yld i H x H2 → ∃ G2,Ext G H G2 H2 ∧ DV K G2 x d) ∧ ((enumD 0 xs).length ≤ i → (Ite K a).stop i H):=by
  refine ⟨fun d hi=>?_,fun hi=>⟨vs,h1,?_⟩⟩
  · obtain ⟨x,e1,rfl⟩:=yr6 hi
    obtain ⟨u,f1,f2⟩:=d1.at e1
    refine ⟨⟨vs,h1,(List.getElem?_eq_some_iff.mp f1).1⟩,fun z H2 ⟨T,u',e3,hT,e4,k1⟩=>?_⟩
    subst e3 e4
    have q1:=k1 vs h1
    rw [f1] at q1
    cases q1
    have e:=ye4 (xs:=[.int (i:Int),u]) s hT
    rw [Nat.zero_add]
    exact ⟨_,e,.tup (SqT.of ze0) (.cons (.int _) (.cons (zg4 e.g f2) .nil))⟩
  · rw [yj4] at hi
    rw [d1.len]; exact hi
theorem xz4 (h1:EvD K H₀ E ta da):IvS K H₀ E (wn9 K (zo8 ta tNil)) (wq1 (dAsL da)):=fun ex δ σ G H Qd R hx S q k =>
  h1 ex δ σ G H _ _ hx S q fun v d G1 H1 e1 hd q1=>by
    cases d with
    | list xs =>
      obtain ⟨a,vs,rfl,a1,a2⟩:=zk8 hd
      exact ⟨a,rfl,⟨vs,e1.s.same.seq a1⟩,k _ _ G1 H1 e1 (fun G' H' s1 s2 i=>wn1 s2 (s2.same.seq (s1.seq a1)) (zd8 s1 a2) i) q1⟩
    | _=>exact q1.elim
end
section
variable {prog:Program} {w:World} {A:Around} {E:Value → Shared → Prop} {s:Shared}
end
section
variable {prog:Program} {w:World} {A:Around} {s:Shared} {R:Result → Shared → Prop}
variable {I:Addr} {fp wr:List Addr} {G:Array GenState → Array GenState → Prop} {n:Nat} {P:Nat → Value → Prop} {St:Nat → Shared → Prop}
end
section
variable {prog:Program} {w:World} {A:Around} {E:Value → Shared → Prop} {s:Shared}
end
section
variable {X:Cx} {pins:List (Addr × Obj)} {σ:L2.St} {H:Hp} {s:Shared}
end
section
variable {X:Cx} {K:PySem.W.Frag}
end
section
variable {K:PySem.W.Frag} {H₀:Hp} {E:XK} {te:TE} {dl:DL}
end
end Dl
namespace Dl
open PySem PySem.Spec PyProof.Rows L2 Lx PySem.W
noncomputable def AllT {α:Type} (N:Nat) (P:α → Prop):KasT α → Prop
  | .ret a=>P a
  | .ask i j k=>i < N ∧ j < N ∧ ∀ b,AllT N P (k b)
theorem AllT.mono {α:Type} {N:Nat} {P Q:α → Prop} (hf:∀ a,P a → Q a):∀ {t:KasT α},AllT N P t → AllT N Q t
  | .ret a,h=>hf a h
  | .ask i j k,h=>⟨h.1,h.2.1,fun b=>AllT.mono hf (h.2.2 b)⟩
section
variable {prog:Program} {w:World} {A:Around} {E:Value → Shared → Prop} {s:Shared}
end
section
variable {X:Cx} {K:PySem.W.Frag}
end
section
variable {K:PySem.W.Frag} {H₀:Hp} {E:XK} {te ta:TE} {de da:DE} {dl:DL}
noncomputable abbrev pr (q:Int × Int):PyData:=.tuple [.int q.1,.int q.2]
end
section
variable {X:Cx}
noncomputable def rInsert:V → List V → Hp → VK → Prop:=fun x vs H Q=>∃ l xs i y,x = .ref l ∧ vs = [.int i,y] ∧ H l = some (.lst xs) ∧ 0 ≤ i ∧ i ≤ (xs.length:Int) ∧ xs.length < sizeLine ∧ Q .non (upd H l (.lst (xs.take i.toNat ++ y :: xs.drop i.toNat)))
theorem yi3:MtM X "list.insert" rInsert:=by
  intro pins s σ H x vs v us Q I rx rv h
  obtain ⟨l,xs,i,y,rfl,rfl,hH,h0,h1,hz,q⟩:=h
  cases rx
  obtain ⟨u,w',rfl,⟨t,rfl⟩,ru⟩:=yu4 rv
  obtain ⟨z,its,n,r,hl,e⟩:=I.lstM hH
  have hlen:=r.length
  have hn:=ya6
  refine call_meets F.slot_list_insert ⟨_,e,rfl⟩ F.entry_list_insert (F.args_list_insert_3 _ _ _) (PySem.AutoListH.list_insert_list_int_val_1 l its.toArray n i t w' (by simp [Builtin.List.listFitsIndex]; omega) (by rw [List.size_toArray]; omega)) ⟨e,?_⟩
  refine ⟨.non,_,I.lset (its':=its.take i.toNat ++ w' :: its.drop i.toNat) hH e ?_ ((r.take _).append (.cons ru (r.drop _))) ?_,rfl,q⟩
  · have e1:¬ i < 0:=by omega
    have e2:min i.toNat its.length = i.toNat:=by omega
    simp only [e1,if_false,List.size_toArray,e2]
    apply Array.ext'
    simp [List.take_of_length_le]
  · rw [List.length_append,List.length_cons,List.length_take,List.length_drop]
    omega
end
section
variable {K:PySem.W.Frag} {H₀:Hp} {E:XK} {te ta:TE} {de da:DE} {dl:DL}
noncomputable def dIns (i:Nat) (da de:DE) (e:DEnds) (δ:DEn):Prop:=match slot δ i with
  | some (.own ds)=>da e.ex δ fun x=>(match x with
    | .int k=>de e.ex δ fun d=>0 ≤ k ∧ k ≤ (ds.length:Int) ∧ ds.length < 1000 ∧ e.nx (put (some (.own (ds.take k.toNat ++ d :: ds.drop k.toNat))) i δ)
    | _=>False)
  | _=>False
theorem xl5 (i:Nat) (ha:BvD K H₀ E ta da) (h:EvD K H₀ E te de):SvD K H₀ E (xf7 (tBM K "list" rInsert (tVar i) (zo8 ta (zo8 te tNil)))) (dIns i da de):=fun δ σ G H e D hx S q L=>by
  unfold dIns at q
  split at q
  · rename_i ds hs
    obtain ⟨a,vs,h1,h2,h3,h4⟩:=S.ownAt hs
    refine ⟨_,h1,.inl ⟨rfl,_,SqL.of h3⟩,ha e.ex δ σ G H _ _ hx S q fun v d G' H' x hd qd=>?_⟩
    cases d with
    | int k =>
      cases zf1 hd
      refine h e.ex δ σ G' H' _ _ hx (S.ext x) qd fun v2 d2 G2 H2 x2 hd2 q2=>?_
      obtain ⟨q0,q1,q3,q4⟩:=q2
      have x3:=x.trans x2
      have S':=S.ext x3
      have hl:=h4.len
      exact ⟨a,vs,k,v2,rfl,rfl,x3.h _ _ h3,q0,by rw [hl]; exact q1,ze3 (by rw [hl]; omega),L.nx _ _ G2 _ x3.g (S'.updO hs h1 (((zd8 x3.g h4).take _).append (.cons hd2 ((zd8 x3.g h4).drop _)))) q4⟩
    | _=>exact qd.elim
  · exact q.elim
end
section
variable {X:Cx} {K:PySem.W.Frag}
end
section
variable {K:PySem.W.Frag} {H₀:Hp} {E:XK} {ta tb:TE} {db:DE} {dl:DL}
noncomputable def dRep (dl:DL) (db:DE) (ex:DX) (δ:DEn) (Q:List PyData → Prop):Prop:=dl ex δ fun xs=>db ex δ fun y=>match y with
  | .int k=>(-(2 ^ 63) ≤ k ∧ k < 2 ^ 63) ∧ xs.length * k.toNat ≤ 1000 ∧ Q (List.replicate k.toNat xs).flatten
  | _=>False
theorem xb7 {G:Hp} {vs:List V} {ds:List PyData} (h:DVs K G vs ds):∀ n:Nat,DVs K G (List.replicate n vs).flatten (List.replicate n ds).flatten
  | 0=>.nil
  | n + 1=>by
    rw [List.replicate_succ,List.replicate_succ,List.flatten_cons,List.flatten_cons]
    exact h.append (xb7 h n)
theorem xm7 (h1:MvD K H₀ E ta dl) (h2:BvD K H₀ E tb db):OvD K H₀ E (tOp rRep ta tb) (dRep dl db):=fun ex δ σ G H Qd Q hx S q k =>
  h1 ex δ σ G H _ _ hx S q fun a vs ds G1 H1 e1 l1 d1 q1=>h2 ex δ σ G1 H1 _ _ hx (S.ext e1) q1 fun y dy G2 H2 e2 hy q2=>by
    cases dy with
    | int j =>
      cases zf1 hy
      obtain ⟨⟨b1,b2⟩,q2,q3⟩:=q2
      refine ⟨a,j,vs,rfl,rfl,e2.h _ _ l1,b1,b2,Nat.le_of_lt (ze3 (by rw [d1.len]; exact q2)),fun p hp=>?_⟩
      obtain ⟨e3,g3⟩:=zo1 (xs:=(List.replicate j.toNat vs).flatten) e2.s hp
      have e0:=e1.trans e2
      exact k p _ _ _ _ (e0.trans e3) (e0.h.free hp) g3 ze0 (xb7 (zd8 e2.g d1) _) q3
    | _=>exact q2.elim
end
theorem ktup {K:PySem.W.Frag} {a:Addr} {od:Option Addr} {n:Nat} {sl:Array (Option Value)} {its:Array Value} {xs:List V} {ds:List PyData} (h:K.lookup a = some ⟨.type "tuple",od,.seq its n,sl⟩) (hz:its.size ≤ sizeLine) (r:Vals xs its.toList) (d:∀ H,DVs K H xs ds) (H:Hp):DV K H (.ref a) (.tuple ds) :=
  .tup (.inr ⟨_,its,n,h,rfl,rfl,hz,r⟩) (d H)
noncomputable def eStr:Enc { x:Str // PyData.strOk x = true }:=⟨fun x=>.str x.1,0,by decide,fun x=>x.2,fun _=>by simp [PyData.depth],fun x y=>by simp [PyData.eqv,Subtype.ext_iff]⟩
noncomputable def rInT (K:PySem.W.Frag) (neg:Bool):R2:=fun x y H Q=>∃ (α:Type) (e:Enc α) (a:α) (bs:List α),DV K H x (e.d a) ∧ DV K H y (.tuple (bs.map e.d)) ∧ ∀ k:Bool,(k = true ↔ a ∈ bs) → Q (.bl (if neg then !k else k)) H
section
variable {X:Cx} {K:PySem.W.Frag}
theorem xx8 (hK:X.K = K) (hu:X.A.units + 64 < cLine):OpR X (compareOp .NotIn) (rInT K true):=by
  subst hK
  intro pins s σ H x y v u Q I rx ry h
  obtain ⟨α,e,a,bs,da,db,q⟩:=h
  obtain ⟨as,r1⟩:=zl0 I da rx
  obtain ⟨cs,r2⟩:=zl0 I db ry
  have h1:=e.depth a
  have h2:=e.small
  exact PySem.SeqAt.notIn_tuple_reads r2 r1 (zy2 e bs).1 (e.lay a) (by omega) ⟨.bl _,H,I,rfl,q _ (yn7 e a bs)⟩
end
noncomputable def oNInT (x y:PyData) (Q:PyData → Prop):Prop:=∃ (α:Type) (e:Enc α) (a:α) (bs:List α),x = e.d a ∧ y = .tuple (bs.map e.d) ∧ ∀ k:Bool,(k = true ↔ a ∈ bs) → Q (.bool !k)
section
variable {K:PySem.W.Frag}
theorem yw8:ROp K (rInT K true) oNInT:=by
  rintro G H x y dx dy Qd Q hx hy ⟨α,e,a,bs,rfl,rfl,q⟩ k
  exact ⟨α,e,a,bs,hx,hy,fun c hc=>k _ _ (.bl _) (q c hc)⟩
end
noncomputable def xm6 (K:PySem.W.Frag) (f:List Bool → Bool):List V → Hp → VK → Prop:=fun xs H Q=>∃ (p:Addr) (bs:List Bool),xs = [.ref p] ∧ SqL K H p (bs.map V.bl) ∧ Q (.bl (f bs)) H
theorem ya9:∀ {bs:List Bool} {us:List Value},Vals (bs.map V.bl) us → LSm.BoolsAre us bs
  | [],_,.nil=>.nil
  | b :: bs,_,.cons r t=>by
    cases (show _ = Value.bool b from r)
    exact .cons b (ya9 t)
section
variable {X:Cx} {K:PySem.W.Frag}
theorem allK (hK:X.K = K) (hc:X.calm = true):CallR X (.builtin "all") (xm6 K (·.all id)):=by
  subst hK
  intro pins s σ H xs us Q I r h
  obtain ⟨p,bs,rfl,hq,q⟩:=h
  obtain ⟨u,rfl,rx⟩:=zu1 r
  cases rx
  obtain ⟨its,r',pl,hz⟩:=I.list hq
  have hb:=ya9 r'
  have hl:s.heap.IsList p its.toArray:=pl.isList
  have hlt:p < s.heap.objs.size:=by obtain ⟨_,e,_⟩:=hl; exact Heap.lt_size e
  refine call_all_walk (wpAny_pyIter_list hl ?_)
  refine ⟨s.heap.objs.size,[s.heap.objs.size,p],[s.heap.objs.size],its.toArray.size,_,_,fun i=>(bs[i]?).getD true,rfl,Walks.list (A:=X.A.in1) (I.ok.hd hc) _ p (Nat.ne_of_lt hlt) its.toArray,
    ⟨⟨_,Heap.get?_push_size _ rfl,rfl,rfl⟩,hl.push _⟩,fun i v s' Q' E' hP hQ=>?_,fun h' tk hk=>?_⟩
  · obtain ⟨b,e,rfl⟩:=hb.get i v (by simpa using hP)
    simp only [e,Option.getD_some] at hQ
    exact wpAny_truthy_bool hQ
  · have e:((List.range its.toArray.size).all fun i=>(bs[i]?).getD true) = bs.all id:=by
      rw [List.size_toArray,hb.length]; exact LSm.range_all bs
    rw [e]
    exact ⟨.bl _,H,I.kept (t':=tk) (LSm.kept_iter hk),rfl,q⟩
end
noncomputable def bAll (ds:List PyData) (Q:PyData → Prop):Prop:=match ds with
  | [.list bs]=>∃ ks:List Bool,bs = ks.map PyData.bool ∧ Q (.bool (ks.all id))
  | _=>False
section
variable {K:PySem.W.Frag}
theorem yj5 {H:Hp}:∀ {ks:List Bool} {xs:List V},DVs K H xs (ks.map PyData.bool) → xs = ks.map V.bl
  | [],_,.nil=>rfl
  | k :: ks,_,.cons h t=>by rw [zz1 h,yj5 t]; rfl
theorem xm4:RCb K (xm6 K (·.all id)) bAll:=by
  intro G H xs ds Qd Q hx q k
  unfold bAll at q
  split at q
  · obtain ⟨ks,rfl,q⟩:=q
    obtain ⟨x,rfl,hd⟩:=dvs1 hx
    obtain ⟨a,vs,rfl,h1,h2⟩:=zk8 hd
    rw [yj5 h2] at h1
    exact ⟨a,ks,rfl,h1,k _ _ (.bl _) q⟩
  · exact q.elim
end
theorem boot_all:bootBuiltins "all" = some (.builtin "all"):=by decide +kernel
section
variable {prog:Program} {w:World} {A:Around} {E:Value → Shared → Prop}
end
section
variable {X:Cx} {K:PySem.W.Frag}
end
section
variable {K:PySem.W.Frag} {H₀:Hp}
end
noncomputable def tNoS:TS:=fun _ _ _=>False
theorem zu2 {X:Cx} {st:Stmt}:PS X st tNoS:=fun _ _ _ _ _ _ h=>h.elim
noncomputable def dNoS:DS:=fun _ _=>False
theorem yl0 {K:PySem.W.Frag} {H₀:Hp} {E:XK}:SvD K H₀ E tNoS dNoS:=fun _ _ _ _ _ _ _ _ q _=>q.elim
local macro_rules | `(tactic| walk_at "o") => `(tactic| first | omega | (refine (fun (h : @Eq Nat _ _) => ?_); omega))
section
variable {prog:Program} {w:World} {A:Around} {E:Value → Shared → Prop} {s:Shared}
end
section
variable {prog:Program} {w:World} {A:Around} {E:Value → Shared → Prop} {s:Shared}
end
section
variable {X:Cx} {K:PySem.W.Frag}
end
section
variable {K:PySem.W.Frag} {H₀:Hp} {E:XK} {ta tb tc:TE} {da db dc:DE} {dl dk dm:DL}
end
theorem yy8 (o:Option PyData) (δ:DEn):zy9 (o.map Sl.dat :: δ) = zy9 δ:=by
  cases o <;> rfl
section
variable {K:PySem.W.Frag} {H₀:Hp} {E:XK} {te ta tb:TE} {da db de:DE} {ts:TS} {ds:DS}
end
section
variable {K:PySem.W.Frag} {H₀:Hp} {E:XK} {dl:DL} {tt:TT} {dt:DT} {ts:TS} {ds:DS} {g:TG} {dg:DG} {ns:List Nat}
end
noncomputable def d2 (dl dk:DL) (ex:DX) (δ:DEn) (Q:List PyData → List PyData → Prop):Prop:=dl ex δ fun xs=>dk ex δ fun ys=>Q xs ys
section
variable {K:PySem.W.Frag} {H₀:Hp} {E:XK} {ta tb:TE} {dl dk:DL} {t:TA}
end
section
variable {K:PySem.W.Frag} {H₀:Hp} {E:XK}
end
section
variable {K:PySem.W.Frag} {H₀:Hp} {E:XK} {tb:TE} {db:DE} {dl:DL} {t:TA} {g:TG} {dg:DG} {ns:List Nat}
noncomputable def xd2 (w:DW) (dl:DL) (db:DE) (dg:DG) (e:DEnds) (δ:DEn):Prop:=dl e.ex δ fun ds=>zy9 δ = true ∧ w ds (anyS fun d=>match d with
  | .list xs=>db e.ex δ fun y=>(match y with
    | .int i=>∃ d,atI xs i = some d ∧ dg d δ e.nx
    | _=>False)
  | _=>False) fun _=>False
theorem yv6 {w:DW} (ha:AvD K H₀ E t dl) (hb:BvD K H₀ E tb db) (hg:GvD K H₀ g ns dg):SvD K H₀ E (tAsg (tOp (rIxL K) (yb8 (spW K w) [] E0 t) tb) g) (xd2 w dl db dg):=fun δ σ G H e D hx S q L =>
  ha e.ex δ σ G H _ _ hx S q fun vs ds G1 H1 e1 h1 ⟨no,q1⟩=>by
    refine ⟨ds,_,fun _=>False,by rw [List.append_nil]; exact h1,q1,fun v s H2 sm r qs=>?_,fun C H2 sm hc=>hc.elim⟩
    obtain ⟨d,hd,q2⟩:=zw7 r qs
    have S2:=(S.ext e1).all2 no sm
    cases d with
    | list xs =>
      obtain ⟨a,vs2,rfl,hs,hv⟩:=zk8 hd
      refine hb e.ex δ σ H2 H2 _ _ hx S2 q2 fun y dy G3 H3 e3 hy q3=>?_
      cases dy with
      | int i =>
        obtain ⟨d',z,q4⟩:=q3
        cases zf1 hy
        obtain ⟨v,z1,z2⟩:=zy5 hv z
        refine ⟨a,vs2,i,v,rfl,rfl,e3.h.seq hs,z1,?_⟩
        exact hg v d' δ σ G3 H3 _ _ (S2.ext e3) (zg4 e3.g z2) q4 fun δ' σ' S' _ q'=>L.nx δ' σ' G3 H3 (((e1.g.trans ((S.ext e1).sub.same.trans sm))).trans e3.g) S' q'
      | _=>exact q3.elim
    | _=>exact q2.elim
end
end Dl
namespace Lx
open PySem PySem.Spec PyProof.Rows L2
structure LcOk1 (X:Cx) (scope:Scope) (x:Str) (cl:List (Str × Addr)) (cap:List (Option Nat)) (NC:List Str):Prop where
  clos:closureFor scope X.env = pure cl
  kind:scope.kind = .function
  one:∀ n,cellsFrom n scope.names cl = (x,n) :: cl
  push:∀ h,pushCells h scope.names = h.push { cls:=.type "cell",data:=.cell none }
  fresh:cl.lookup x = none
  names:∀ x ∈ scope.names,x.2 = .local → scope.names.lookup x.1 = some .local
  caps:CapsOk X scope cl cap NC
  cells:∀ p ∈ cl,X.env.cells.lookup p.1 = some p.2
  has:∀ c:Addr,((relabel scope X.env).names.all fun p=>(p.2 != .cell && p.2 != .free) || (((x,c) :: cl).lookup p.1).isSome) = true
section
variable {X:Cx} {elt target iter:Expr} {ifs:List Expr} {scope:Scope} {pos:Pos} {wi:TI} {cap:List (Option Nat)} {NC:List Str} {cl:List (Str × Addr)} {g:TG} {tt:TT} {te:TE} {x0:Str}
end
end Lx
namespace Dl
open PySem PySem.Spec PyProof.Rows L2 Lx
section
variable {K:PySem.W.Frag} {H₀:Hp} {E:XK} {te:TE} {de:DE} {dl:DL} {ta:TA}
end
section
variable {X:Cx}
end
section
variable {K:PySem.W.Frag} {H₀:Hp} {E:XK} {te:TE} {de:DE} {dl:DL} {t:TA} {tt:TT} {dt:DT} {ts tz:TS} {ds dz:DS}
end
noncomputable abbrev IsZ (h:Heap) (z TI TO:Addr) (f0 f1:Value):Prop:=h.get? z = some { cls:=.type "zip",dict:=none,data:=.fields #[f0,f1,.bool false,.ref TI,.ref TO],slots:=#[] }
section
variable {prog:Program} {w:World} {A:Around} {E:Value → Shared → Prop} {s:Shared}
structure ZSt (h:Heap) (z TI TO i1 i2 l1 l2 base:Addr) (i:Nat) (xs ys:Array Value):Prop where
  z:IsZ h z TI TO .none (.bool false) ∨ ∃ (T:Addr) (b:Bool) (o:Obj),IsZ h z TI TO (rawInt (T:Int)) (.bool b) ∧ base ≤ T ∧ h.get? T = some o
  ti:IsPair h TI (.ref i1) (.ref i2)
  to:∃ a b,IsPair h TO a b
  i1:h.IsListIter i1 l1 i
  i2:h.IsListIter i2 l2 i
  l1:h.IsList l1 xs
  l2:h.IsList l2 ys
end
section
variable {prog:Program} {w:World} {A:Around} {R:Result → Shared → Prop}
end
section
variable {prog:Program} {w:World} {A:Around} {s:Shared} {R:Result → Shared → Prop}
variable {z TI TO i1 i2 l1 l2 S base n:Nat} {xs ys:Array Value}
end
section
variable {prog:Program} {w:World} {A:Around} {E:Value → Shared → Prop} {s:Shared}
end
section
variable {X:Cx} {K:PySem.W.Frag}
end
section
variable {K:PySem.W.Frag} {H₀:Hp} {E:XK} {ta tb:TE} {dl dk:DL}
end
section
variable {X:Cx} {K:PySem.W.Frag}
end
section
variable {X:Cx} {K:PySem.W.Frag}
noncomputable def xw4 (K:PySem.W.Frag):R2:=fun x y H Q=>∃ l b xs zs,x = .ref l ∧ y = .ref b ∧ SqL K H l xs ∧ SqL K H b zs ∧ xs.length + zs.length ≤ sizeLine ∧ ∀ p,H p = none → Q (.ref p) (upd H p (.lst (xs ++ zs)))
theorem xx1:OpR X (binaryOp .Add) (xw4 X.K):=by
  intro pins s σ H x y v u Q I rx ry h
  obtain ⟨l,b,xs,zs,rfl,rfl,hH,hB,hz,q⟩:=h
  cases rx
  cases ry
  obtain ⟨its,r,⟨⟨cls,dd,data,sl⟩,n,e,c1,c2,c3⟩,z⟩:=I.list hH
  obtain ⟨its2,r2,⟨⟨cls2,dd2,data2,sl2⟩,n2,e2,d1,d2,d3⟩,z2⟩:=I.list hB
  simp only at c1 c2 c3 d1 d2 d3
  subst c1 c2 c3 d1 d2 d3
  have hl:=r.length
  have hl2:=r2.length
  refine concat_meets ⟨_,e,rfl⟩ ⟨_,e2,rfl⟩ noFill_list_add seq_list_add PySem.F.slot_list_add PySem.F.entry_list_add (PySem.F.args_list_add_2 _ _) (list_addW l b its.toArray its2.toArray n n2 none none sl sl2 (by simp; omega)) ⟨e,e2,?_⟩
  have ea:its.toArray ++ its2.toArray = (its ++ its2).toArray:=by simp
  rw [ea]
  exact ⟨.ref _,_,I.lnew (t':=s.toks) (r.append r2) (by rw [List.length_append]; omega),rfl,q _ I.fresh⟩
theorem ww7 (h:X.K = K):OpR X (binaryOp .Add) (xw4 K):=by subst h; exact xx1
end
section
variable {K:PySem.W.Frag} {H₀:Hp} {E:XK} {te ta tb:TE} {da de:DE} {dl dk:DL}
end
section
variable {K:PySem.W.Frag} {H₀:Hp} {E:XK} {dl:DL} {t:TA} {g:TG} {dg:DG} {ns:List Nat}
noncomputable def xd1 (w:DW) (dl:DL) (m:Nat) (dg:DG) (e:DEnds) (δ:DEn):Prop:=dl e.ex δ fun ds=>zy9 δ = true ∧ w ds (anyS fun d=>match d with
  | .tuple xs=>(match nth xs m with
    | some d=>dg d δ e.nx
    | none=>False)
  | _=>False) fun _=>False
theorem yv5 {w:DW} (m:Nat) (ha:AvD K H₀ E t dl) (hg:GvD K H₀ g ns dg):SvD K H₀ E (tAsg (tOp (rIxT K) (yb8 (spW K w) [] E0 t) (tC (.int (m:Int)))) g) (xd1 w dl m dg):=fun δ σ G H e D hx S q L =>
  ha e.ex δ σ G H _ _ hx S q fun vs ds G1 H1 e1 h1 ⟨no,q1⟩=>by
    refine ⟨ds,_,fun _=>False,by rw [List.append_nil]; exact h1,q1,fun v s H2 sm r qs=>?_,fun C H2 sm hc=>hc.elim⟩
    obtain ⟨d,hd,q2⟩:=zw7 r qs
    have S2:=(S.ext e1).all2 no sm
    cases d with
    | tuple xs =>
      dsimp only at q2
      split at q2
      · rename_i d' z
        obtain ⟨a,us,rfl,hs,hv⟩:=zv6 hd
        obtain ⟨u,z1,z2⟩:=zy5 hv (zk9 (yy6 z))
        refine ⟨a,us,_,u,rfl,rfl,hs,z1,?_⟩
        exact hg u d' δ σ H2 H2 _ _ S2 z2 q2 fun δ' σ' S' _ q'=>L.nx δ' σ' H2 H2 (e1.g.trans ((S.ext e1).sub.same.trans sm)) S' q'
      · exact q2.elim
    | _=>exact q2.elim
end
section
variable {X:Cx} {K:PySem.W.Frag}
end
section
variable {K:PySem.W.Frag} {H₀:Hp} {E:XK} {te ta tb:TE} {da db:DE} {dl:DL}
noncomputable def wq3 (da db:DE) (ex:DX) (δ:DEn) (Q:List PyData → Prop):Prop:=da ex δ fun x=>db ex δ fun y=>∃ xs ys,x = .list xs ∧ y = .list ys ∧ zi4 xs = true ∧ zi4 ys = true ∧ xs.length + ys.length ≤ 1000 ∧ Q (xs ++ ys)
theorem xx0 (h1:BvD K H₀ E ta da) (h2:BvD K H₀ E tb db):OvD K H₀ E (tOp (xw4 K) ta tb) (wq3 da db):=fun ex δ σ G H Qd Q hx S q k =>
  h1 ex δ σ G H _ _ hx S q fun x d1 G1 H1 e1 x1 q1=>h2 ex δ σ G1 H1 _ _ hx (S.ext e1) q1 fun y d2 G2 H2 e2 y1 q2=>by
    obtain ⟨xs,ys,rfl,rfl,f1,f2,l,q3⟩:=q2
    obtain ⟨a,vs,rfl,s1,v1⟩:=zk8 x1
    obtain ⟨b,ws,rfl,s2,v2⟩:=zk8 y1
    have ot:∀ c o,H2 c = some o → (∀ xs,o ≠ .lst xs) → G2 c = some o:=fun c o z n=>e2.s.other z n
    refine ⟨a,b,vs,ws,rfl,rfl,e2.h.seq s1,s2,Nat.le_of_lt (ze3 (by rw [v1.len,v2.len]; exact l)),fun p hp=>?_⟩
    obtain ⟨e3,g3⟩:=zo1 (xs:=vs ++ ws) e2.s hp
    have e0:=e1.trans e2
    exact k p _ _ _ _ (e0.trans e3) (e0.h.free hp) g3 ze0 (DVs.append (zm7 ot (zd8 e2.h v1) f1) (zm7 ot v2 f2)) q3
end
section
variable {prog:Program} {w:World} {A:Around} {E:Value → Shared → Prop} {s:Shared}
end
section
variable {prog:Program} {w:World} {A:Around} {E:Value → Shared → Prop} {s:Shared}
end
section
variable {X:Cx} {K:PySem.W.Frag}
end
section
variable {K:PySem.W.Frag} {H₀:Hp} {E:XK} {ta tb:TE} {da db:DE}
end
section
variable {K:PySem.W.Frag} {H₀:Hp} {E:XK} {te:TE} {de:DE} {dl:DL} {t:TA} {ts tz:TS} {ds:DS} {w:DW}
end
section
variable {K:PySem.W.Frag} {H₀:Hp} {E:XK} {ta tb:TE} {da db:DE}
end
section
variable {K:PySem.W.Frag} {H₀:Hp} {E:XK} {ta tb tc:TE} {da db dc:DE} {f g:Int → Int → Bool}
end
section
variable {X:Cx} {e es:Expr} {te:TE} {ts:TO} {pos p2:Pos}
end
section
variable {K:PySem.W.Frag} {H₀:Hp} {E:XK} {te:TE} {dl:DL} {t1:TO} {d1:DO}
end
section
variable {K:PySem.W.Frag} {H₀:Hp} {E:XK}
end
section
variable {K:PySem.W.Frag} {H₀:Hp} {E:XK} {te:TE} {de:DE} {dl:DL} {t:TA} {ts tz:TS} {ds:DS} {w:DW}
end
section
variable {K:PySem.W.Frag} {H₀:Hp} {E:XK} {te ta tb:TE} {de da db:DE} {t1 t2:TO} {d1 d2:DO}
end
section
variable {K:PySem.W.Frag} {H₀:Hp} {E:XK} {tb:TE} {db:DE} {dl:DL} {t:TA} {g:TG} {dg:DG} {ns:List Nat}
end
section
variable {K:PySem.W.Frag} {H₀:Hp} {E:XK} {te:TE} {de:DE} {ta:TA} {dl:DL} {ts:TS} {ds:DS} {g:TG} {dg:DG} {ns:List Nat}
end
section
variable {X:Cx}
end
section
variable {K:PySem.W.Frag} {H₀:Hp} {E:XK} {te:TE} {de:DE} {dl:DL} {t:TA} {tt:TT} {dt:DT} {ts tz:TS} {ds dz:DS}
end
section
variable {K:PySem.W.Frag} {H₀:Hp} {E:XK}
end
theorem boot_str:bootBuiltins "str" = some (.type "str"):=by decide +kernel
theorem txtL {n:Nat} (h:n ≤ 100000):n < sizeLine:=Nat.lt_of_le_of_lt h (by decide)
section
variable {X:Cx}
noncomputable def rSlS:V → Option Int → Option Int → Hp → VK → Prop:=fun x lo hi H Q=>∃ z,x = .str z ∧ z.length ≤ sizeLine ∧ Q (.str (PySem.Txt.slice z lo hi)) H
theorem yp7:SlR X rSlS:=by
  intro pins s σ H x v vl vu lo hi sl Q I rx hs pl pu h
  obtain ⟨z,rfl,hz,q⟩:=h
  obtain ⟨t,rfl⟩:=rx
  refine ⟨"str",_,slot_str_getitem.lookup,typeIs_str _ _ _,?_⟩
  cases pl with
  | none =>
    cases pu with
    | none=>exact wpAny_getItem_str_slice (l:=none) (u:=none) (st:=none) hs rfl (post_val_or_str ⟨Nat.le_trans (PySem.Txt.slice_le z none none) hz,fun t' k=>⟨.str _,H,I.tok _,⟨_,rfl⟩,q⟩⟩)
    | int j uj=>exact wpAny_getItem_str_slice (l:=none) (u:=some (j,uj)) (st:=none) hs rfl (post_val_or_str ⟨Nat.le_trans (PySem.Txt.slice_le z none (some j)) hz,fun t' k=>⟨.str _,H,I.tok _,⟨_,rfl⟩,q⟩⟩)
  | int i ui =>
    cases pu with
    | none=>exact wpAny_getItem_str_slice (l:=some (i,ui)) (u:=none) (st:=none) hs rfl (post_val_or_str ⟨Nat.le_trans (PySem.Txt.slice_le z (some i) none) hz,fun t' k=>⟨.str _,H,I.tok _,⟨_,rfl⟩,q⟩⟩)
    | int j uj=>exact wpAny_getItem_str_slice (l:=some (i,ui)) (u:=some (j,uj)) (st:=none) hs rfl (post_val_or_str ⟨Nat.le_trans (PySem.Txt.slice_le z (some i) (some j)) hz,fun t' k=>⟨.str _,H,I.tok _,⟨_,rfl⟩,q⟩⟩)
noncomputable def rPartition:V → List V → Hp → VK → Prop:=fun x vs H Q=>∃ z y,x = .str z ∧ vs = [.str y] ∧ z.length ≤ sizeLine ∧ (y.length == 0) = false ∧
  ∀ p,H p = none → Q (.ref p) (upd H p (.tup [.str (PySem.Txt.partition z y).1,.str (PySem.Txt.partition z y).2.1,.str (PySem.Txt.partition z y).2.2]))
theorem zm5:MtR X "str.partition" rPartition:=by
  intro pins s σ H x xs v us Q I rx rs h
  obtain ⟨z,y,rfl,rfl,hz,hy,q⟩:=h
  obtain ⟨t,rfl⟩:=rx
  obtain ⟨u,rfl,t',rfl⟩:=zu1 rs
  refine call_meets PySem.F.slot_str_partition (typeIs_str _ _ _) PySem.F.entry_str_partition (PySem.F.args_str_partition_2 _ _) (meets_str_partition z y t t' hy hz) ?_
  have q':=q _ (I.hok.fresh (Nat.le_refl _))
  unfold PySem.Txt.partition at q'
  revert q'
  cases Builtin.Str.occurrences z y 0 z.length 1 with
  | nil =>
    intro q'
    exact ⟨.ref s.heap.objs.size,_,I.laid (t':=s.toks + 1) (o:=.tup [.str z,.str Str.empty,.str Str.empty]) (fun b ob q=>Heap.get?_push_of_some _ q) (Nat.le_refl _)
      ⟨Nat.le_of_lt (ze3 (show 3 ≤ 1000 by decide)),_,.cons ⟨_,rfl⟩ (.cons ⟨_,rfl⟩ (.cons ⟨_,rfl⟩ .nil)),IsTup.new _ _⟩,rfl,q'⟩
  | cons i r =>
    intro q'
    exact ⟨.ref s.heap.objs.size,_,I.laid (t':=s.toks + 1 + 1) (o:=.tup [.str (Builtin.Str.strSub z 0 i),.str y,.str (Builtin.Str.strSub z (i + y.length) z.length)]) (fun b ob q=>Heap.get?_push_of_some _ q) (Nat.le_refl _)
      ⟨Nat.le_of_lt (ze3 (show 3 ≤ 1000 by decide)),_,.cons ⟨_,rfl⟩ (.cons ⟨_,rfl⟩ (.cons ⟨_,rfl⟩ .nil)),IsTup.new _ _⟩,rfl,q'⟩
theorem zy7:CallR X (.type "int") (fun xs H Q=>∃ z n,xs = [.str z] ∧ z.length ≤ 640 ∧ PySem.intText? z = some n ∧ Q (.int n) H):=by
  intro pins s σ H xs us Q I r h
  obtain ⟨z,n,rfl,hl,hn,q⟩:=h
  obtain ⟨u,rfl,t,rfl⟩:=zu1 r
  exact PySem.W.KIN.call_text hn hl ⟨.int n,H,I.tok _,⟨_,rfl⟩,q⟩
noncomputable def Its (z:Str):It:=⟨fun i _=>i < z.cps.size,fun i H x H'=>H' = H ∧ ∃ c,z.cps[i]? = some c ∧ x = .str ⟨#[c]⟩,fun i _=>z.cps.size ≤ i⟩
theorem yo4 {P:Program} {w:World} {K:PySem.W.Frag} {tg:Expr} (it:Addr) (z:Str) (t:Tok) (ty:String) (hty:ty = "str_ascii_iterator" ∨ ty = "str_iterator") :
    Turn P w K tg (Its z) [it] it (fun i h=>h.IsStrIter it ty z t i) where
  mem:=by simp
  obj:=fun i h st b hb=>by
    have e:b = it:=by simpa using hb
    subst e
    obtain ⟨o,e,c,d⟩:=st
    exact ⟨o,e,fun v z=>by rw [d] at z; cases z⟩
  keep:=fun i h h' st k=>let ⟨o,ho,r⟩:=st; ⟨o,k it (by simp) o ho,r⟩
  item:=by
    intro X hP hw hK hc i pins s σ H E I hf st hg
    subst hP hw hK
    obtain ⟨f0,f1,f2,f3,f4,f5⟩:=hf it (by simp)
    obtain ⟨c,hx⟩:∃ c,z.cps[i]? = some c:=⟨_,Array.getElem?_eq_getElem hg⟩
    rcases hty with rfl | rfl
    · refine wpAny_pyNext_ascii_item st hx fun h' st' sb=>?_
      have I1:Inv X pins σ H { s with heap:=h',toks:=s.toks + 1 }:=I.turned (fun b o hb e=>(sb.2 b hb).trans e) f0 f1 f3 f4 f5
      obtain ⟨o,e,c',d⟩:=id st'
      exact ⟨_,rfl,xb2 (s:={ s with heap:=h',toks:=s.toks + 1 }) e c' d (by decide) ⟨.str ⟨#[c]⟩,H,I1,⟨_,rfl⟩,⟨rfl,c,hx,rfl⟩,st',fun b hb=>(hf b hb).1⟩⟩
    · refine wpAny_pyNext_wide_item st hx fun h' st' sb=>?_
      have I1:Inv X pins σ H { s with heap:=h',toks:=s.toks + 1 }:=I.turned (fun b o hb e=>(sb.2 b hb).trans e) f0 f1 f3 f4 f5
      obtain ⟨o,e,c',d⟩:=id st'
      exact ⟨_,rfl,xb2 (s:={ s with heap:=h',toks:=s.toks + 1 }) e c' d (by decide) ⟨.str ⟨#[c]⟩,H,I1,⟨_,rfl⟩,⟨rfl,c,hx,rfl⟩,st',fun b hb=>(hf b hb).1⟩⟩
  done:=by
    intro X hP hw hK hc i pins s σ H E I hf st hg
    subst hP hw hK
    obtain ⟨f0,f1,f2,f3,f4,f5⟩:=hf it (by simp)
    have hx:z.cps[i]? = none:=Array.getElem?_eq_none hg
    rcases hty with rfl | rfl
    · exact wpAny_pyNext_ascii_end (I.ok.hd hc) st hx fun h' eb=>⟨rfl,I.turned (t':=s.toks) (fun b o hb e=>eb b o hb e) f0 f1 f3 f4 f5⟩
    · exact wpAny_pyNext_wide_end (I.ok.hd hc) st hx fun h' eb=>⟨rfl,I.turned (t':=s.toks) (fun b o hb e=>eb b o hb e) f0 f1 f3 f4 f5⟩
  self:=fun _ _ _ _ _ st h=>by
    rcases hty with rfl | rfl
    · exact wpAny_pyIter_striter_ascii st h
    · exact wpAny_pyIter_striter_wide st h
noncomputable def iStr (tl:TE):TI:=fun σ H R=>tl σ H fun x H1=>∃ z,x = .str z ∧ R (Its z) H1
theorem yx4 {tg l:Expr} {tl:TE} (hl:PE X l tl):PI X tg l (iStr tl):=by
  intro pins s σ H R I h
  refine thn (hl pins s σ H _ I h) fun v s1 ⟨x,H1,I1,r1,q1⟩=>?_
  obtain ⟨z,e,q⟩:=q1
  subst e
  obtain ⟨t,rfl⟩:=r1
  have fp:∀ b ∈ [s1.heap.objs.size],FpOk X pins H1 b:=fun b hb=>by
    have e:b = s1.heap.objs.size:=by simpa using hb
    subst e
    exact I1.fpOk (Nat.le_refl _) (I1.hok.fresh (Nat.le_refl _))
  cases ha:z.cps.all (· < 128)
  · refine wpAny_pyIter_wide ha ?_
    exact ⟨s1.heap.objs.size,[s1.heap.objs.size],_,_,H1,rfl,I1.kept (t':=s1.toks) fun b o e=>Heap.get?_push_of_some _ e,yo4 _ z t _ (.inr rfl),⟨_,Heap.get?_push_size _ rfl,rfl,rfl⟩,fp,q⟩
  · refine wpAny_pyIter_ascii ha ?_
    exact ⟨s1.heap.objs.size,[s1.heap.objs.size],_,_,H1,rfl,I1.kept (t':=s1.toks) fun b o e=>Heap.get?_push_of_some _ e,yo4 _ z t _ (.inl rfl),⟨_,Heap.get?_push_size _ rfl,rfl,rfl⟩,fp,q⟩
end
section
variable {K:PySem.W.Frag} {H₀:Hp} {E:XK} {te ta tb:TE} {de da db:DE} {t1 t2:TO} {d1 d2:DO}
noncomputable def sgD (c:Nat):PyData:=.str ⟨#[c]⟩
noncomputable def dAsS (de:DE) (ex:DX) (δ:DEn) (Q:List PyData → Prop):Prop:=de ex δ fun d=>match d with
  | .str z=>Q (z.cps.toList.map sgD)
  | _=>False
theorem xa3 (h:EvD K H₀ E te de):IvS K H₀ E (iStr te) (dAsS de):=fun ex δ σ G H Qd R hx S q k =>
  h ex δ σ G H _ _ hx S q fun v d G' H' e hd qd=>by
    cases d with
    | str z =>
      cases zg7 hd
      refine ⟨z,rfl,k _ _ G' H' e (fun G2 H2 s1 s2 i=>⟨fun d hi=>?_,fun hi=>?_⟩) qd⟩
      · rw [List.getElem?_map] at hi
        obtain ⟨c,hc,rfl⟩:=Option.map_eq_some_iff.mp hi
        rw [Array.getElem?_toList] at hc
        refine ⟨(Array.getElem?_eq_some_iff.mp hc).1,fun x H3 ⟨z1,c',h1,h2⟩=>?_⟩
        subst z1
        rw [hc] at h1
        cases h1
        subst h2
        exact ⟨G2,.refl s2,.str _⟩
      · show z.cps.size ≤ i
        simpa using hi
    | _=>exact qd.elim
noncomputable def oIxs (x y:PyData) (Q:PyData → Prop):Prop:=match x,y with
  | .str z,.int i=>z.length ≤ 100000 ∧ ∃ c,atI z.cps.toList i = some c ∧ Q (.str ⟨#[c]⟩)
  | _,_=>False
theorem wh4:ROp K rIxS oIxs:=by
  intro G H x y dx dy Qd Q hx hy q k
  unfold oIxs at q
  split at q
  · cases zg7 hx; cases zf1 hy
    obtain ⟨hl,c,hc,q⟩:=q
    exact ⟨_,_,c,rfl,rfl,Nat.le_of_lt (txtL hl),hc,k _ _ (.str _) q⟩
  · exact q.elim
noncomputable def oCats (x y:PyData) (Q:PyData → Prop):Prop:=match x,y with
  | .str a,.str b=>a.length + b.length ≤ 100000 ∧ Q (.str (a ++ b))
  | _,_=>False
theorem zg0:ROp K (fun x y H Q=>∃ i j,x = .str i ∧ y = .str j ∧ i.length + j.length ≤ sizeLine ∧ Q (.str (i ++ j)) H) oCats:=by
  intro G H x y dx dy Qd Q hx hy q k
  unfold oCats at q
  split at q
  · cases zg7 hx; cases zg7 hy
    exact ⟨_,_,rfl,rfl,Nat.le_of_lt (txtL q.1),k _ _ (.str _) q.2⟩
  · exact q.elim
noncomputable def oInS (x y:PyData) (Q:PyData → Prop):Prop:=match x,y with
  | .str a,.str b=>Q (.bool (PySem.Txt.contains b a))
  | _,_=>False
noncomputable def oNInS (x y:PyData) (Q:PyData → Prop):Prop:=match x,y with
  | .str a,.str b=>Q (.bool (!PySem.Txt.contains b a))
  | _,_=>False
theorem xl8:ROp K (fun x y H Q=>∃ i j,x = .str i ∧ y = .str j ∧ Q (.bl (!(Builtin.Str.occurrences j i 0 j.length 1).isEmpty)) H) oInS:=by
  intro G H x y dx dy Qd Q hx hy q k
  unfold oInS at q
  split at q
  · cases zg7 hx; cases zg7 hy
    exact ⟨_,_,rfl,rfl,k _ _ (.bl _) q⟩
  · exact q.elim
theorem yg7:ROp K (fun x y H Q=>∃ i j,x = .str i ∧ y = .str j ∧ Q (.bl (!(!(Builtin.Str.occurrences j i 0 j.length 1).isEmpty))) H) oNInS:=by
  intro G H x y dx dy Qd Q hx hy q k
  unfold oNInS at q
  split at q
  · cases zg7 hx; cases zg7 hy
    exact ⟨_,_,rfl,rfl,k _ _ (.bl _) q⟩
  · exact q.elim
noncomputable def bLens (ds:List PyData) (Q:PyData → Prop):Prop:=match ds with
  | [.str z]=>z.length ≤ 100000 ∧ Q (.int z.length)
  | _=>False
theorem zt2:RCb K (fun xs H Q=>∃ z,xs = [.str z] ∧ z.length ≤ sizeLine ∧ Q (.int z.length) H) bLens:=by
  intro G H xs ds Qd Q hx q k
  unfold bLens at q
  split at q
  · obtain ⟨x,rfl,h1⟩:=dvs1 hx
    cases zg7 h1
    exact ⟨_,rfl,Nat.le_of_lt (txtL q.1),k _ _ (.int _) q.2⟩
  · exact q.elim
noncomputable def bIntS (ds:List PyData) (Q:PyData → Prop):Prop:=match ds with
  | [.str z]=>z.length ≤ 640 ∧ ∃ n,PySem.intText? z = some n ∧ Q (.int n)
  | _=>False
theorem yl5:RCb K (fun xs H Q=>∃ z n,xs = [.str z] ∧ z.length ≤ 640 ∧ PySem.intText? z = some n ∧ Q (.int n) H) bIntS:=by
  intro G H xs ds Qd Q hx q k
  unfold bIntS at q
  split at q
  · obtain ⟨x,rfl,h1⟩:=dvs1 hx
    cases zg7 h1
    obtain ⟨hl,n,hn,q⟩:=q
    exact ⟨_,n,rfl,hl,hn,k _ _ (.int _) q⟩
  · exact q.elim
noncomputable def bStr (ds:List PyData) (Q:PyData → Prop):Prop:=match ds with
  | [.int i]=>i.natAbs.log2 < 1920 ∧ Q (.str (toString i))
  | _=>False
theorem zp1:RCb K (fun xs H Q=>∃ i,xs = [.int i] ∧ i.natAbs.log2 < 1920 ∧ Q (.str (toString i)) H) bStr:=by
  intro G H xs ds Qd Q hx q k
  unfold bStr at q
  split at q
  · obtain ⟨x,rfl,h1⟩:=dvs1 hx
    cases zf1 h1
    exact ⟨_,rfl,q.1,k _ _ (.str _) q.2⟩
  · exact q.elim
noncomputable def dSlS (de:DE) (d1 d2:DO) (ex:DX) (δ:DEn) (Q:PyData → Prop):Prop:=de ex δ fun d=>d1 ex δ fun lo=>d2 ex δ fun hi=>match d with
  | .str z=>z.length ≤ 100000 ∧ Q (.str (PySem.Txt.slice z lo hi))
  | _=>False
theorem yr4 (ha:BvD K H₀ E te de) (h1:OvP K H₀ E t1 d1) (h2:OvP K H₀ E t2 d2):EvD K H₀ E (tSl rSlS te t1 t2) (dSlS de d1 d2):=fun ex δ σ G H Qd Q hx S q k =>
  ha ex δ σ G H _ _ hx S q fun v d G1 H1 e1 hv q1=>h1 ex δ σ G1 H1 _ _ hx (S.ext e1) q1 fun lo G2 H2 e2 q2=>h2 ex δ σ G2 H2 _ _ hx (S.ext (e1.trans e2)) q2 fun hi G3 H3 e3 q3=>by
    split at q3
    · cases zg7 hv
      exact ⟨_,rfl,Nat.le_of_lt (txtL q3.1),k _ _ G3 H3 ((e1.trans e2).trans e3) (.str _) q3.2⟩
    · exact q3.elim
noncomputable def xp3 (da db:DE) (ex:DX) (δ:DEn) (Q:PyData → Prop):Prop:=da ex δ fun x=>match x with
  | .str z=>db ex δ fun y=>match y with
    | .str y=>z.length ≤ 100000 ∧ (y.length == 0) = false ∧ Q (.tuple [.str (PySem.Txt.partition z y).1,.str (PySem.Txt.partition z y).2.1,.str (PySem.Txt.partition z y).2.2])
    | _=>False
  | _=>False
theorem zv5 (h1:BvD K H₀ E ta da) (h2:BvD K H₀ E tb db):EvD K H₀ E (tBM K "str" rPartition ta (zo8 tb tNil)) (xp3 da db):=fun ex δ σ G H Qd Q hx S q k =>
  h1 ex δ σ G H _ _ hx S q fun x d1 G1 H1 e1 hx1 q1=>by
    split at q1
    · rename_i z
      cases zg7 hx1
      refine ⟨rfl,h2 ex δ σ G1 H1 _ _ hx (S.ext e1) q1 fun y d2 G2 H2 e2 hy q2=>?_⟩
      split at q2
      · rename_i y2
        cases zg7 hy
        refine ⟨_,_,rfl,rfl,Nat.le_of_lt (txtL q2.1),q2.2.1,fun p hp=>?_⟩
        have e4:=ye4 (xs:=[.str (PySem.Txt.partition z y2).1,.str (PySem.Txt.partition z y2).2.1,.str (PySem.Txt.partition z y2).2.2]) e2.s hp
        exact k _ _ _ _ ((e1.trans e2).trans e4) (.tup (SqT.of ze0) (.cons (.str _) (.cons (.str _) (.cons (.str _) .nil)))) q2.2.2
      · exact q2.elim
    · exact q1.elim
end
section
variable {K:PySem.W.Frag} {G H G' H':Hp}
theorem Rws.len:∀ {bs:List Addr} {dss:List (List PyData)},Rws K G H bs dss → bs.length = dss.length
  | _,_,.nil=>rfl
  | _,_,.cons _ _ r=>congrArg (· + 1) r.len
theorem Rws.ne {c:Addr} {o:HO}:∀ {bs:List Addr} {dss:List (List PyData)},c ∉ bs → Rws K G H bs dss → Rws K G (upd H c o) bs dss
  | _,_,_,.nil=>.nil
  | _,_,n,.cons h1 h2 r=>.cons (by rw [zd9 (fun z=>n (by rw [z]; exact List.mem_cons_self))]; exact h1) h2 (r.ne fun z=>n (List.mem_cons_of_mem _ z))
theorem Rws.at:∀ {bs:List Addr} {dss:List (List PyData)} {j:Nat} {ds:List PyData},Rws K G H bs dss → dss[j]? = some ds → ∃ b vs,bs[j]? = some b ∧ H b = some (.lst vs) ∧ DVs K G vs ds
  | _,_,_,_,.nil,e=>by simp at e
  | _,_,0,_,.cons h1 h2 _,e=>by
    simp at e
    subst e
    exact ⟨_,_,rfl,h1,h2⟩
  | _,_,j + 1,_,.cons _ _ r,e=>by
    obtain ⟨b,vs,e1,h⟩:=r.at (j:=j) (by simpa using e)
    exact ⟨b,vs,by simpa using e1,h⟩
theorem Rws.set {b:Addr} {vs:List V} {ds:List PyData} (h2:DVs K G vs ds):∀ {bs:List Addr} {dss:List (List PyData)} {j:Nat},bs.Nodup → bs[j]? = some b → Rws K G H bs dss → Rws K G (upd H b (.lst vs)) bs (dss.set j ds)
  | _,_,_,_,e,.nil=>by simp at e
  | _,_,0,nd,e,.cons h3 h4 r=>by
    simp at e
    subst e
    exact .cons ze0 h2 (r.ne (List.nodup_cons.mp nd).1)
  | _,_,j + 1,nd,e,.cons h3 h4 r=>by
    have e2:=e
    simp at e2
    have hm:b ∈ _:=List.mem_of_getElem? e2
    refine .cons ?_ h4 (Rws.set h2 (List.nodup_cons.mp nd).2 e2 r)
    rw [zd9 (fun z=>(List.nodup_cons.mp nd).1 (by rw [z]; exact hm))]
    exact h3
end
structure Gst (K:PySem.W.Frag) (H₀ G:Hp) (t:Nat) (δ:DEn) (σ:L2.St) (H:Hp) (a:Addr) (bs:List Addr) (dss:List (List PyData)):Prop where
  un:Sees K H₀ G (put none t δ) σ H
  dt:∀ i s,slot δ i = some s → (∃ d,s = .dat d) ∨ ∃ xs c,s = .own xs ∧ σ[i]? = some (some (.ref c)) ∧ c ∉ a :: bs
  sl:slot δ t = some (.dat (.list (dss.map PyData.list)))
  pl:σ[t]? = some (some (.ref a))
  ga:∀ c ∈ a :: bs,G c = none
  nd:(a :: bs).Nodup
  ha:H a = some (.lst (bs.map V.ref))
  rw:Rws K G H bs dss
noncomputable def wc0 (K:PySem.W.Frag) (H₀ G:Hp) (t:Nat) (δ:DEn) (σ:L2.St) (H:Hp):Prop:=∃ a bs dss,Gst K H₀ G t δ σ H a bs dss
section
variable {K:PySem.W.Frag} {H₀ G H G' H':Hp} {t:Nat} {δ:DEn} {σ:L2.St} {a:Addr} {bs:List Addr} {dss:List (List PyData)}
open Classical in
theorem Gst.frz (S:Gst K H₀ G t δ σ H a bs dss):∃ Gf:Hp,Same G Gf ∧ (∀ c,c ∉ a :: bs → Gf c = G c) ∧ (∀ c ∈ a :: bs,Gf c = H c) ∧ Sees K H₀ Gf δ σ H:=by
  obtain ⟨Gf,hGf⟩:∃ Gf:Hp,∀ c,Gf c = if c ∈ a :: bs then H c else G c:=⟨fun c=>if c ∈ a :: bs then H c else G c,fun c=>rfl⟩
  have f1:∀ c,c ∉ a :: bs → Gf c = G c:=fun c h=>by rw [hGf,if_neg h]
  have f2:∀ c ∈ a :: bs,Gf c = H c:=fun c h=>by rw [hGf,if_pos h]
  have sm:Same G Gf:=fun c o z=>by
    rw [f1 c fun h=>by rw [S.ga c h] at z; cases z]; exact z
  refine ⟨Gf,sm,f1,f2,S.un.old.trans sm,fun c=>?_,by have:=S.un.len; rw [zw8] at this; exact this,fun i s h=>?_,fun i j xs ys c h=>?_⟩
  · by_cases h:c ∈ a :: bs
    · exact .inl (f2 c h)
    · rw [f1 c h]; exact S.un.sub c
  · by_cases hi:i = t
    · subst hi
      rw [S.sl] at h
      cases h
      refine ⟨_,S.pl,.lst (SqL.of (xs:=bs.map V.ref) (by rw [f2 a List.mem_cons_self]; exact S.ha)) (S.rw.dv Gf sm fun c hc=>f2 c (List.mem_cons_of_mem _ hc))⟩
    · have hu:slot (put none t δ) i = some s:=by rw [zj1,if_neg (fun z=>hi z.1)]; exact h
      obtain ⟨v,h1,h2⟩:=S.un.has i s hu
      refine ⟨v,h1,?_⟩
      rcases S.dt i s h with ⟨d,rfl⟩ | ⟨xs,c,rfl,hc,hn⟩
      · exact zg4 sm h2
      · obtain ⟨c',vs,rfl,g1,g2,g3⟩:=h2
        rw [h1] at hc
        cases hc
        exact ⟨_,vs,rfl,by rw [f1 _ hn]; exact g1,g2,zd8 sm g3⟩
  · intro hj e1 e2
    by_cases hi:i = t
    · subst hi
      rw [S.sl] at h
      cases h
    · by_cases hjt:j = t
      · subst hjt
        rw [S.sl] at hj
        cases hj
      · exact S.un.sep i j xs ys c (by rw [zj1,if_neg (fun z=>hi z.1)]; exact h) (by rw [zj1,if_neg (fun z=>hjt z.1)]; exact hj) e1 e2
open Classical in
theorem yq0 (x y:Option Sl):∀ {i j:Nat} (δ:DEn),i ≠ j → put x i (put y j δ) = put y j (put x i δ)
  | i,j,[],_=>by cases i <;> cases j <;> rfl
  | 0,0,_ :: _,h=>absurd rfl h
  | 0,j + 1,_ :: _,_=>rfl
  | i + 1,0,_ :: _,_=>rfl
  | i + 1,j + 1,z :: δ,h=>by
    show z :: put x i (put y j δ) = z :: put y j (put x i δ)
    rw [yq0 x y δ (fun e=>h (by rw [e]))]
theorem Gst.set {i:Nat} {v:V} {d:PyData} (S:Gst K H₀ G t δ σ H a bs dss) (hi:i ≠ t) (h:DV K G v d):Gst K H₀ G t (put (some (.dat d)) i δ) (σ.set i (some v)) H a bs dss:=by
  refine ⟨?_,fun j s hj=>?_,?_,?_,S.ga,S.nd,S.ha,S.rw⟩
  · rw [yq0 _ _ δ (Ne.symm hi)]
    exact S.un.setD i h
  · rw [zj1] at hj
    split at hj
    · cases hj
      exact .inl ⟨d,rfl⟩
    · rename_i hc
      have hji:j ≠ i:=fun z=>hc ⟨z,by rw [← z]; exact zw2 hj⟩
      rcases S.dt j s hj with h | ⟨xs,c,h1,h2,h3⟩
      · exact .inl h
      · exact .inr ⟨xs,c,h1,by rw [List.getElem?_set_ne (Ne.symm hji)]; exact h2,h3⟩
  · rw [zj1,if_neg (fun z=>hi z.1.symm)]
    exact S.sl
  · rw [List.getElem?_set_ne hi]
    exact S.pl
end
structure LkG (K:PySem.W.Frag) (H₀ G:Hp) (t:Nat) (e:DEnds) (D:Ends):Prop where
  nx:∀ δ σ G' H,Same G G' → wc0 K H₀ G' t δ σ H → e.nx δ → D.nx σ H
  rt:∀ v s H,Same H₀ H → yf2 K H₀ H v s → e.rt s → D.rt v H
  bk:∀ δ σ G' H,Same G G' → wc0 K H₀ G' t δ σ H → e.bk δ → D.bk σ H
  ct:∀ δ σ G' H,Same G G' → wc0 K H₀ G' t δ σ H → e.ct δ → D.ct σ H
theorem LkG.mono {K:PySem.W.Frag} {H₀ G G1:Hp} {t:Nat} {e:DEnds} {D:Ends} (L:LkG K H₀ G t e D) (s:Same G G1):LkG K H₀ G1 t e D :=
  ⟨fun δ σ G' H q=>L.nx δ σ G' H (s.trans q),L.rt,fun δ σ G' H q=>L.bk δ σ G' H (s.trans q),fun δ σ G' H q=>L.ct δ σ G' H (s.trans q)⟩
section
variable {K:PySem.W.Frag} {H₀:Hp} {E:XK} {t:Nat} {te ta tb:TE} {da db de:DE} {dl dk:DL} {tt:TT} {dt:DT} {ts tz:TS} {ds dz:DS}
end
section
variable {K:PySem.W.Frag} {H₀:Hp} {E:XK} {t:Nat} {te:TE} {dl dk:DL} {g:TG} {dg:DG} {ns:List Nat} {tz:TS} {dz:DS}
end
section
variable {dl dk:DL} {cap:List (Option Nat)} {dg:DG} {ex:DX} {δ:DEn} {Q:List (List PyData) → Prop}
end
section
variable {X:Cx}
end
section
variable {K:PySem.W.Frag} {H₀:Hp} {E:XK} {te:TE} {de:DE} {dl:DL} {t:TA} {tt:TT} {dt:DT} {ts tz:TS} {ds dz:DS}
end
section
variable {K:PySem.W.Frag} {H₀:Hp} {E:XK} {te1 te2 te3 te4:TE} {dl d1 d2 d4:DL} {d3:DE}
theorem xs0 {δ:DEn} {i j:Nat} {x:Option Sl} (h:j ≠ i):slot (put x i δ) j = slot δ j:=by
  rw [zj1,if_neg (fun z=>h z.1)]
structure RwI (K:PySem.W.Frag) (H₀:Hp) (tb:Nat) (δ:DEn) (σ:L2.St) (G H:Hp) (a:Addr) (cs:List Addr) (dss:List (List PyData)):Prop where
  sl:slot δ tb = some (.own (dss.map PyData.list))
  rw:Rws K G G cs dss
  pl:σ[tb]? = some (some (.ref a))
  ha:H a = some (.lst (cs.map V.ref))
  nd:cs.Nodup
  fr:∀ c ∈ cs,H₀ c = none ∧ ∃ zs,G c = some (.lst zs)
theorem RwI.ext {tb:Nat} {δ:DEn} {σ:L2.St} {G H G' H':Hp} {a:Addr} {cs:List Addr} {dss:List (List PyData)} (R:RwI K H₀ tb δ σ G H a cs dss) (g:Same G G') (h:Same H H'):RwI K H₀ tb δ σ G' H' a cs dss :=
  ⟨R.sl,R.rw.mono g g,R.pl,h _ _ R.ha,R.nd,fun c hc=>⟨(R.fr c hc).1,by obtain ⟨zs,z⟩:=(R.fr c hc).2; exact ⟨zs,g _ _ z⟩⟩⟩
theorem RwI.put {tb i:Nat} {δ:DEn} {σ:L2.St} {G H:Hp} {a:Addr} {cs:List Addr} {dss:List (List PyData)} {x:Option Sl} {y:Option V} (R:RwI K H₀ tb δ σ G H a cs dss) (h:tb ≠ i):RwI K H₀ tb (put x i δ) (σ.set i y) G H a cs dss :=
  ⟨by rw [xs0 h]; exact R.sl,R.rw,by rw [List.getElem?_set_ne (Ne.symm h)]; exact R.pl,R.ha,R.nd,R.fr⟩
end
section
variable {K:PySem.W.Frag} {H₀:Hp} {E:XK} {t:TA} {teA teB teC teD teX:TE} {dl dA:DL} {dB dC:DX → DEn → (List (List PyData) → Prop) → Prop} {dD dX:DE} {tz:TS} {dz:DS} {w:DW}
theorem Rws.flat {G H G':Hp} (s:∀ b o,G b = some o → (∀ xs,o ≠ .lst xs) → G' b = some o):∀ {bs:List Addr} {dss:List (List PyData)},(∀ d ∈ dss,zi4 d = true) → Rws K G H bs dss → Rws K G' H bs dss
  | _,_,_,.nil=>.nil
  | _,_,f,.cons h1 h2 r=>.cons h1 (zm7 s h2 (f _ List.mem_cons_self)) (r.flat s fun d hd=>f d (List.mem_cons_of_mem _ hd))
theorem Sees.nil {G H:Hp} {δ:DEn} {σ σ':L2.St} (S:Sees K H₀ G δ σ H):Sees K H₀ G [] σ' H:=⟨S.old,S.sub,Nat.zero_le _,(fun i s h=>by cases h),(fun i j xs ys a h=>by cases h)⟩
open Classical in
end
theorem yf5:∀ {zs:List Str} {its:List Value},Vals (zs.map V.str) its → ∃ ps:List (Str × Tok),ps.map (·.1) = zs ∧ its = strValues ps
  | [],_,.nil=>⟨[],rfl,rfl⟩
  | z :: zs,_,.cons h t=>by
    obtain ⟨tk,rfl⟩:=h
    obtain ⟨ps,e1,e2⟩:=yf5 t
    exact ⟨(z,tk) :: ps,by rw [List.map_cons,e1],by rw [e2]; rfl⟩
theorem yf7:∀ (tk:Nat) (zs:List Str),Vals (zs.map V.str) (strsFrom tk zs)
  | _,[]=>.nil
  | tk,z :: zs=>.cons ⟨tk,rfl⟩ (yf7 (tk + 1) zs)
section
variable {X:Cx}
noncomputable def xw3 (K:PySem.W.Frag):V → List V → Hp → VK → Prop:=fun x vs H Q=>∃ (sep:Str) (l:Addr) (zs:List Str),x = .str sep ∧ vs = [.ref l] ∧ SqL K H l (zs.map V.str) ∧ Builtin.Str.tooLong (zs.toArray.foldl (· + ·.length + sep.length) 0) = false ∧ Q (.str (Txt.join sep zs)) H
theorem xy2:MtR X "str.join" (xw3 X.K):=by
  intro pins s σ H x xs v us Q I rx rs h
  obtain ⟨sep,l,zs,rfl,rfl,hS,hl,q⟩:=h
  obtain ⟨t,rfl⟩:=rx
  obtain ⟨u,rfl,ru⟩:=zu1 rs
  cases ru
  obtain ⟨its,r,pl,hz⟩:=I.list hS
  obtain ⟨ps,e1,e2⟩:=yf5 r
  subst e1 e2
  refine call_meets PySem.F.slot_str_join (typeIs_str _ _ _) PySem.F.entry_str_join (PySem.F.args_str_join_2 _ _) (meets_str_join_list sep t l ps hl) ⟨pl.isList,?_⟩
  have hlen:=joinFit_length hl
  match ps,q,hlen with
  | [],q,hlen=>exact ⟨hlen,.str _,H,I.tok _,⟨_,rfl⟩,q⟩
  | [p],q,hlen=>exact ⟨.str _,H,I,⟨_,rfl⟩,q⟩
  | p :: p2 :: ps,q,hlen=>exact ⟨hlen,.str _,H,I.tok _,⟨_,rfl⟩,q⟩
noncomputable def rSplit:V → List V → Hp → VK → Prop:=fun x vs H Q=>∃ z y,x = .str z ∧ vs = [.str y] ∧ z.length ≤ sizeLine ∧ (y.length == 0) = false ∧ (Txt.split z y).length ≤ sizeLine ∧ ∀ l,H l = none → Q (.ref l) (upd H l (.lst ((Txt.split z y).map V.str)))
theorem yd4:MtR X "str.split" rSplit:=by
  intro pins s σ H x xs v us Q I rx rs h
  obtain ⟨z,y,rfl,rfl,hz,hy,hn,q⟩:=h
  obtain ⟨t,rfl⟩:=rx
  obtain ⟨u,rfl,t',rfl⟩:=zu1 rs
  have self:Txt.split z y = [z] → EP X pins σ Q (.ref s.heap.objs.size) { s with heap:=s.heap.push { cls:=.type "list",data:=.seq [Value.str z t].toArray } }:=fun e=>by
    rw [e] at q
    refine ⟨.ref s.heap.objs.size,_,I.laid (t':=s.toks) (o:=.lst [.str z]) (fun b ob q=>Heap.get?_push_of_some _ q) (Nat.le_refl _) ?_,rfl,q _ (I.hok.fresh (Nat.le_refl _))⟩
    exact ⟨Nat.le_of_lt (ze3 (show 1 ≤ 1000 by decide)),_,0,.cons ⟨_,rfl⟩ .nil,Heap.get?_push_size _ rfl⟩
  cases h1:(decide (z.length < y.length) || decide (Builtin.Str.strKind z < Builtin.Str.strKind y)) with
  | true =>
    refine call_meets PySem.F.slot_str_split (typeIs_str _ _ _) PySem.F.entry_str_split (PySem.F.args_str_split_2 _ _) (meets_str_split_cannot_occur z y t t' h1) (self ?_)
    unfold Txt.split
    rw [if_pos h1]
  | false =>
    cases h2:(Builtin.Str.occurrences z y 0 z.length (z.length + 1)).isEmpty with
    | true =>
      refine call_meets PySem.F.slot_str_split (typeIs_str _ _ _) PySem.F.entry_str_split (PySem.F.args_str_split_2 _ _) (meets_str_split_not_found z y t t' h1 hy h2) (self ?_)
      unfold Txt.split
      rw [if_neg (by rw [h1]; decide),if_pos h2]
    | false =>
      have e:Txt.split z y = Builtin.Str.partsBetween z (Builtin.Str.occurrences z y 0 z.length (z.length + 1)) y.length:=by
        unfold Txt.split
        rw [if_neg (by rw [h1]; decide),if_neg (by rw [h2]; decide)]
      rw [e] at q hn
      refine call_meets PySem.F.slot_str_split (typeIs_str _ _ _) PySem.F.entry_str_split (PySem.F.args_str_split_2 _ _) (meets_str_split_sep z y t t' h1 hy h2 hz hn) ?_
      refine ⟨.ref s.heap.objs.size,_,I.laid (t':=s.toks + _) (o:=.lst ((Builtin.Str.partsBetween z (Builtin.Str.occurrences z y 0 z.length (z.length + 1)) y.length).map V.str)) (fun b ob q=>Heap.get?_push_of_some _ q) (Nat.le_refl _) ?_,rfl,q _ (I.hok.fresh (Nat.le_refl _))⟩
      exact ⟨by rw [List.length_map]; exact hn,_,0,yf7 _ _,Heap.get?_push_size _ rfl⟩
end
theorem zr9 {X:Cx} {K:PySem.W.Frag} (hK:X.K = K):MtR X "str.join" (xw3 K):=by subst hK; exact xy2
theorem xa2 {sep:Str} {zs:List Str} (h:(zs.map (·.length)).sum + zs.length * sep.length ≤ 100000):Builtin.Str.tooLong (zs.toArray.foldl (· + ·.length + sep.length) 0) = false:=by
  rw [StrLaws.joinTotal]
  unfold Builtin.Str.tooLong
  exact decide_eq_false (by have:=txtL h; omega)
theorem yr7 {K:PySem.W.Frag} {H:Hp}:∀ {vs:List V} {zs:List Str},DVs K H vs (zs.map PyData.str) → vs = zs.map V.str
  | _,[],.nil=>rfl
  | _,z :: zs,.cons h t=>by
    cases zg7 h
    rw [yr7 t]
    rfl
theorem yp3 {K:PySem.W.Frag} {H:Hp}:∀ zs:List Str,DVs K H (zs.map V.str) (zs.map PyData.str)
  | []=>.nil
  | z :: zs=>.cons (.str z) (yp3 zs)
section
variable {K:PySem.W.Frag} {H₀:Hp} {E:XK} {ta tb:TE} {da db:DE} {dl:DL}
noncomputable def wp9 (da:DE) (dl:DL) (ex:DX) (δ:DEn) (Q:PyData → Prop):Prop:=da ex δ fun x=>match x with
  | .str sep=>dl ex δ fun ds=>∃ zs:List Str,ds = zs.map PyData.str ∧ (zs.map (·.length)).sum + zs.length * sep.length ≤ 100000 ∧ Q (.str (Txt.join sep zs))
  | _=>False
theorem zy1 (h1:BvD K H₀ E ta da) (h2:LvD K H₀ E tb dl):EvD K H₀ E (tBM K "str" (xw3 K) ta (zo8 tb tNil)) (wp9 da dl):=fun ex δ σ G H Qd Q hx S q k =>
  h1 ex δ σ G H _ _ hx S q fun x d1 G1 H1 e1 hx1 q1=>by
    split at q1
    · cases zg7 hx1
      refine ⟨rfl,h2 ex δ σ G1 H1 _ _ hx (S.ext e1) q1 fun a vs ds G2 H2 e2 hl hd q2=>?_⟩
      obtain ⟨zs,rfl,hn,q3⟩:=q2
      have:=yr7 hd
      subst this
      exact ⟨_,a,zs,rfl,rfl,hl,xa2 hn,k _ _ G2 H2 (e1.trans e2) (.str _) q3⟩
    · exact q1.elim
noncomputable def xp1 (da db:DE) (ex:DX) (δ:DEn) (Q:List PyData → Prop):Prop:=da ex δ fun x=>match x with
  | .str z=>db ex δ fun y=>match y with
    | .str y=>z.length ≤ 90000 ∧ (y.length == 0) = false ∧ Q ((Txt.split z y).map PyData.str)
    | _=>False
  | _=>False
theorem yd2 (h1:BvD K H₀ E ta da) (h2:BvD K H₀ E tb db):OvD K H₀ E (tBM K "str" rSplit ta (zo8 tb tNil)) (xp1 da db):=fun ex δ σ G H Qd Q hx S q k =>
  h1 ex δ σ G H _ _ hx S q fun x d1 G1 H1 e1 hx1 q1=>by
    split at q1
    · rename_i z
      cases zg7 hx1
      refine ⟨rfl,h2 ex δ σ G1 H1 _ _ hx (S.ext e1) q1 fun y d2 G2 H2 e2 hy q2=>?_⟩
      split at q2
      · rename_i y2
        cases zg7 hy
        have hl:=split_le z y2
        refine ⟨_,_,rfl,rfl,Nat.le_of_lt (txtL (by omega)),q2.2.1,Nat.le_of_lt (txtL (by omega)),fun p hp=>?_⟩
        obtain ⟨e3,hg⟩:=zo1 (xs:=(Txt.split z y2).map V.str) e2.s hp
        have e0:=e1.trans e2
        exact k p _ _ _ _ (e0.trans e3) (e0.h.free hp) hg ze0 (yp3 _) q2.2.2
      · exact q2.elim
    · exact q1.elim
end
end Dl
namespace Lx
open PySem PySem.Spec PyProof.Rows L2
noncomputable def ExcG (h₀ h:Heap) (H:Hp) (x:Addr) (C:Value):Prop :=
  ∃ oe vs,h.get? x = some oe ∧ oe.cls = C ∧ oe.data = .fields vs ∧ H x = none ∧ h₀.get? x = none ∧
    (vs[1]? = some Value.none ∨ ∃ T oT ts,vs[1]? = some (Value.ref T) ∧ T ≠ x ∧ h.get? T = some oT ∧ oT.data = .fields ts ∧ 3 < ts.size ∧ H T = none ∧ h₀.get? T = none)
noncomputable def ExcF (h₀ h:Heap) (H:Hp) (x:Addr) (C:Value):Prop :=
  ∃ oe vs T oT ts,h.get? x = some oe ∧ oe.cls = C ∧ oe.data = .fields vs ∧ H x = none ∧ h₀.get? x = none ∧
    vs[1]? = some (Value.ref T) ∧ T ≠ x ∧ h.get? T = some oT ∧ oT.data = .fields ts ∧ 3 < ts.size ∧ H T = none ∧ h₀.get? T = none
theorem ExcAt.g {h₀ h:Heap} {H:Hp} {x:Addr} {C:Value} (e:ExcAt h₀ h H x C):ExcG h₀ h H x C:=by
  obtain ⟨oe,vs,h1,h2,h3,h4,h5,h6⟩:=e
  refine ⟨oe,vs,h1,h2,h3,h4,h5,?_⟩
  rcases h6 with h6 | ⟨T,oT,ts,g1,g2,g3,g4,g5,g6,g7⟩
  · exact .inl h6
  · exact .inr ⟨T,oT,ts,g1,g2,g3,g4,(Array.getElem?_eq_some_iff.mp g5).1,g6,g7⟩
theorem ExcF.g {h₀ h:Heap} {H:Hp} {x:Addr} {C:Value} (e:ExcF h₀ h H x C):ExcG h₀ h H x C:=by
  obtain ⟨oe,vs,T,oT,ts,h1,h2,h3,h4,h5,g1,g2,g3,g4,g5,g6,g7⟩:=e
  exact ⟨oe,vs,h1,h2,h3,h4,h5,.inr ⟨T,oT,ts,g1,g2,g3,g4,g5,g6,g7⟩⟩
noncomputable def KeptO (h₀:Heap) (H:Hp) (fs:List Addr) (h h':Heap):Prop :=
  (∀ b o,h.get? b = some o → (h₀.get? b ≠ none ∨ H b ≠ none) → b ∉ fs → h'.get? b = some o) ∧ ∀ b o,h.get? b = some o → b ∈ fs → ∃ sl,h'.get? b = some { o with slots:=sl }
theorem KeptO.trans {h₀ h h1 h2:Heap} {H:Hp} {fs:List Addr} (x:KeptO h₀ H fs h h1) (y:KeptO h₀ H fs h1 h2):KeptO h₀ H fs h h2 :=
  ⟨fun b o e n f=>y.1 b o (x.1 b o e n f) n f,fun b o e f=>by
    obtain ⟨s1,e1⟩:=x.2 b o e f
    obtain ⟨s2,e2⟩:=y.2 b _ e1 f
    exact ⟨s2,e2⟩⟩
theorem KeptO.there {h₀ h h1:Heap} {H:Hp} {fs:List Addr} (x:KeptO h₀ H fs h h1) {b:Addr} {o:Obj} (e:h.get? b = some o) (n:h₀.get? b ≠ none ∨ H b ≠ none):∃ u,h1.get? b = some u:=by
  by_cases f:b ∈ fs
  · obtain ⟨s1,e1⟩:=x.2 b o e f
    exact ⟨_,e1⟩
  · exact ⟨o,x.1 b o e n f⟩
section
variable {M:Model} {A:Around} {E:Value → Shared → Prop} {s:Shared} {base h₀:Heap} {env:Env} {outer:List Env} {L x:Addr} {C:Value} {H:Hp} {Q:Unit → Shared → Prop}
end
end Lx
namespace Lx
open PySem PySem.Spec PyProof.Rows L2
section
variable {prog:Program} {w:World} {A:Around} {R:Result → Shared → Prop} {s:Shared}
end
section
variable {X:Cx} {E:XK} {scope:Scope} {cl:List (Str × Addr)} {NC:List Str} {C:Addr} {s₀:Shared} {H₀:Hp} {fp:List Addr} {pins:List (Addr × Obj)} {σ:L2.St} {H:Hp} {s:Shared}
end
section
variable {X:Cx} {E:XK} {elt target iter:Expr} {ifs:List Expr} {scope:Scope} {pos:Pos} {wi:TI} {cap:List (Option Nat)} {NC:List Str} {cl:List (Str × Addr)} {g:TG} {tt:TT} {te:TE}
end
end Lx
namespace Lx
open PySem PySem.Spec PyProof.Rows L2
open Builtin Builtin.Str in
open Builtin Builtin.Str in
section
variable {X:Cx}
end
end Lx
namespace Dl
open PySem PySem.Spec PyProof.Rows L2 Lx
section
variable {X:Cx}
end
section
variable {K:PySem.W.Frag} {H₀:Hp} {E:XK} {te ta tb:TE} {da db de:DE} {dl:DL} {tt:TT} {dt:DT} {g:TG} {dg:DG} {ns:List Nat}
end
mutual
noncomputable def ndD:PyData → Bool
  | .dict _=>false
  | .list ds=>ndDs ds
  | .tuple ds=>ndDs ds
  | _=>true
noncomputable def ndDs:List PyData → Bool
  | []=>true
  | d :: ds=>ndD d && ndDs ds
end
mutual
theorem wo6 {K:PySem.W.Frag} {G H:Hp} (s:∀ b o,H b = some o → (∀ kvs,o ≠ .dK kvs) → G b = some o):∀ {x:V} {d:PyData},DV K H x d → ndD d = true → DV K G x d
  | _,_,.non,_=>.non
  | _,_,.bl b,_=>.bl b
  | _,_,.int i,_=>.int i
  | _,_,.str x,_=>.str x
  | _,_,.tup h hs,f=>.tup (by
      rcases h with (h | ⟨o,h⟩) | h
      · exact .inl (.inl (s _ _ h (by intro xs z; cases z)))
      · exact .inl (.inr ⟨o,s _ _ h (by intro xs z; cases z)⟩)
      · exact .inr h) (ye5 s hs f)
  | _,_,.lst h hs,f=>.lst (by
      rcases h with (h | ⟨o,h⟩) | h
      · exact .inl (.inl (s _ _ h (by intro xs z; cases z)))
      · exact .inl (.inr ⟨o,s _ _ h (by intro xs z; cases z)⟩)
      · exact .inr h) (ye5 s hs f)
  | _,_,.dct h,f=>by cases f
theorem ye5 {K:PySem.W.Frag} {G H:Hp} (s:∀ b o,H b = some o → (∀ kvs,o ≠ .dK kvs) → G b = some o):∀ {xs:List V} {ds:List PyData},DVs K H xs ds → ndDs ds = true → DVs K G xs ds
  | _,_,.nil,_=>.nil
  | _,_,.cons h t,f=>by
    simp only [ndDs,Bool.and_eq_true] at f
    exact .cons (wo6 s h f.1) (ye5 s t f.2)
end
noncomputable abbrev DKs (K:PySem.W.Frag) (G:Hp) (kvs:List (Key × V)) (kv:List (Str × PyData)):Prop:=Paired (fun (p:Key × V) (q:Str × PyData)=>p.1 = Sum.inr q.1 ∧ DV K G p.2 q.2) kvs kv
theorem DKs.same {K:PySem.W.Frag} {G G':Hp} (s:Same G G') {kvs:List (Key × V)} {kv:List (Str × PyData)} (h:DKs K G kvs kv):DKs K G' kvs kv:=Paired.mapP h fun _ _ z=>⟨z.1,zg4 s z.2⟩
noncomputable def dskP (C:Addr) (f:Str) (kv:List (Str × PyData)):PySem.W.Frag → Hp → V → Prop:=fun K G v=>∃ p dx d kvs,v = .ref p ∧ G p = some (.ins C dx [(f,V.ref d)]) ∧ G d = some (.dK kvs) ∧ DKs K G kvs kv
theorem dskP.same {C:Addr} {f:Str} {kv:List (Str × PyData)} {K:PySem.W.Frag} {G G':Hp} {v:V} (s:Same G G') (h:dskP C f kv K G v):dskP C f kv K G' v:=by
  obtain ⟨p,dx,d,kvs,h1,h2,h3,h4⟩:=h
  exact ⟨p,dx,d,kvs,h1,s _ _ h2,s _ _ h3,h4.same s⟩
theorem dskP.sl {C:Addr} {f:Str} {kv:List (Str × PyData)} {K:PySem.W.Frag} {G H:Hp} {v:V} (h:dskP C f kv K G v):SlIs K G H v (.mon (dskP C f kv)):=fun _ s=>h.same s
noncomputable def isP (p:Addr):PySem.W.Frag → Hp → V → Prop:=fun _ _ v=>v = .ref p
noncomputable def anyP:PySem.W.Frag → Hp → V → Prop:=fun _ _ _=>True
theorem yb3 {K:PySem.W.Frag} {G:Hp} {x:Str} {d:PyData}:∀ {kvs:List (Key × V)} {kv:List (Str × PyData)},DKs K G kvs kv → kv.lookup x = some d → ∃ v,valV kvs (Sum.inr x:Key) = some v ∧ DV K G v d
  | _,_,.nil,h=>by simp at h
  | p :: kvs,q :: kv,.cons hp t,h=>by
    obtain ⟨k,v⟩:=p
    obtain ⟨y,e⟩:=q
    obtain ⟨h1,h2⟩:=hp
    dsimp only at h1 h2
    subst h1
    by_cases hx:x = y
    · subst hx
      rw [List.lookup_cons,beq_self_eq_true] at h
      cases h
      exact ⟨v,zu5 rfl,h2⟩
    · rw [List.lookup_cons,beq_eq_false_iff_ne.mpr hx] at h
      obtain ⟨w,h3,h4⟩:=yb3 t h
      exact ⟨w,by rw [zr5 (by intro z; injection z with z; exact hx z.symm)]; exact h3,h4⟩
noncomputable def yw4 (C:Addr) (f:Str):Sp:=fun vs H Q _=>∃ (p dx:Addr),vs = [.ref p] ∧ H p = some (.ins C dx []) ∧ ∀ (d:Addr) (H':Hp),H d = none → H' p = some (.ins C dx [(f,V.ref d)]) → H' d = some (.dK []) → (∀ b o,H b = some o → b ≠ p → H' b = some o) → Q .non H'
noncomputable abbrev DM:=List PyData → (Str → List PyData → Prop) → Prop
noncomputable def yw3 (K:PySem.W.Frag) (C:Addr) (f:Str) (L:DM):Sp:=fun vs H Q _=>∃ (p dx d:Addr) (vs':List V) (ds:List PyData) (R:Str → List PyData → Prop),vs = .ref p :: vs' ∧ H p = some (.ins C dx [(f,V.ref d)]) ∧ H d = some (.dK []) ∧ DVs K H vs' ds ∧ L ds R ∧
  ∀ (x:Str) (ms:List PyData) (a:Addr) (us:List V) (H':Hp),R x ms → zi4 ms = true → (∀ b o,b ≠ d → H b = some o → H' b = some o) → H' d = some (.dK [(Sum.inr x,V.ref a)]) → H a = none → H' a = some (.lst us) → DVs K H' us ms → Q (.str "ok") H'
noncomputable abbrev DWK:=List (Str × PyData) → DW
noncomputable def spDR (K:PySem.W.Frag) (C:Addr) (f:Str) (w:DWK):Sp:=fun vs H Q E=>∃ (v0:V) (vs':List V) (kv:List (Str × PyData)) (ds:List PyData) (Qd:Sl → Prop) (Ed:DX),vs = v0 :: vs' ∧ dskP C f kv K H v0 ∧ DVs K H vs' ds ∧ w kv ds Qd Ed ∧
  (∀ v s H',Same H H' → yf2 K H H' v s → Qd s → Q v H') ∧ (∀ C H',Same H H' → Ed C → E (.ref C) none H')
section
variable {K:PySem.W.Frag} {H₀:Hp} {E:XK} {te ta tb:TE} {da db de:DE} {dl:DL} {t:TA} {g:TG} {dg:DG} {ns:List Nat} {ts tz:TS} {ds dz:DS} {C:Addr} {f m:Str} {w:DWK}
noncomputable def xp4 (C:Addr) (f:Str) (i:Nat) (w:DWK) (dl:DL) (ex:DX) (δ:DEn) (Q:PyData → Prop):Prop:=∃ kv,slot δ i = some (.mon (dskP C f kv)) ∧ dl ex δ fun ds=>w kv ds (yt7 Q) fun _=>False
theorem yq6 {f m:Str} (h:f ≠ m) {v:V}:([(f,v)]:List (Str × V)).lookup m = none:=by
  rw [List.lookup_cons,beq_eq_false_iff_ne.mpr (Ne.symm h)]
  rfl
theorem zs5 (i:Nat) (hf:f ≠ m) (ha:AvD K H₀ E t dl):EvD K H₀ E (yv3 C m (spDR K C f w) [] E0 (tVar i) t) (xp4 C f i w dl):=fun ex δ σ G H Qd Q hx S ⟨kv,hs,q⟩ k=>by
  obtain ⟨v,h1,h2⟩:=S.has i _ hs
  obtain ⟨p,dx,d,kvs,rfl,g2,g3,g4⟩:=h2 G (Same.refl _)
  refine ⟨_,h1,p,dx,_,rfl,S.sub.same _ _ g2,yq6 hf,ha ex δ σ G H _ _ hx S q fun vs ds G1 H1 e1 hd q1=>?_⟩
  refine ⟨.ref p,vs,kv,ds,_,fun _=>False,by rw [List.append_nil],(dskP.same (e1.g.trans e1.s.same) ⟨p,dx,d,kvs,rfl,g2,g3,g4⟩),hd,q1,fun v s H2 sm r qs=>?_,fun C H2 sm hc=>hc.elim⟩
  obtain ⟨d2,G',e2,hd2,q2⟩:=yc7 e1.s sm r qs
  exact k v d2 G' H2 (e1.trans e2) hd2 q2
noncomputable def xp9 (C:Addr) (f:Str) (i:Nat) (w:DWK) (dl:DL) (dg:DG) (e:DEnds) (δ:DEn):Prop:=∃ kv,slot δ i = some (.mon (dskP C f kv)) ∧ dl e.ex δ fun ds=>zy9 δ = true ∧ w kv ds (anyS fun d=>dg d δ e.nx) fun _=>False
theorem xf9 (i:Nat) (hf:f ≠ m) (ha:AvD K H₀ E t dl) (hg:GvD K H₀ g ns dg):SvD K H₀ E (tAsg (yv3 C m (spDR K C f w) [] E0 (tVar i) t) g) (xp9 C f i w dl dg):=fun δ σ G H e D hx S ⟨kv,hs,q⟩ L=>by
  obtain ⟨v,h1,h2⟩:=S.has i _ hs
  obtain ⟨p,dx,d,kvs,rfl,g2,g3,g4⟩:=h2 G (Same.refl _)
  refine ⟨_,h1,p,dx,_,rfl,S.sub.same _ _ g2,yq6 hf,ha e.ex δ σ G H _ _ hx S q fun vs ds G1 H1 e1 hd ⟨no,q1⟩=>?_⟩
  refine ⟨.ref p,vs,kv,ds,_,fun _=>False,by rw [List.append_nil],(dskP.same (e1.g.trans e1.s.same) ⟨p,dx,d,kvs,rfl,g2,g3,g4⟩),hd,q1,fun v s H2 sm r qs=>?_,fun C H2 sm hc=>hc.elim⟩
  obtain ⟨d2,hd2,q2⟩:=zw7 r qs
  exact hg v d2 δ σ H2 H2 _ _ ((S.ext e1).all2 no sm) hd2 q2 fun δ' σ' S' _ q'=>L.nx δ' σ' H2 H2 ((S.ext e1).sub.same.trans sm |> fun z=>e1.g.trans z) S' q'
theorem zw4 {H:Hp} {N:List Str} {x:Str} {v0:V} {φ:PySem.W.Frag → Hp → V → Prop} {vs:List V} {ds:List PyData} (h0:∀ G',Same H G' → φ K G' v0) (h:DVs K H vs ds):Sees K H H (some (.mon φ) :: zq8 N ds) (L2.start (x :: N) (v0 :: vs)) H:=by
  have S:=zz7 (K:=K) (N:=N) h
  have e:L2.start (x :: N) (v0 :: vs) = some v0 :: L2.start N vs:=by
    simp [L2.start]
  refine ⟨S.old,S.sub,?_,fun i s hi=>?_,fun i j xs ys a hi hj=>?_⟩
  · rw [e]
    exact Nat.succ_le_succ S.len
  · rw [e]
    cases i with
    | zero=>cases hi; exact ⟨v0,rfl,h0⟩
    | succ i=>exact S.has i s hi
  · intro e1 e2
    rw [e] at e1 e2
    cases i with
    | zero=>cases hi
    | succ i =>
      cases j with
      | zero=>cases hj
      | succ j=>exact congrArg (· + 1) (S.sep i j xs ys a hi hj e1 e2)
noncomputable def xp6 (C:Addr) (f:Str) (i:Nat) (L:DM) (de:DE) (dz:DS) (e:DEnds) (δ:DEn):Prop:=i < δ.length ∧ de e.ex (put (some (.mon anyP)) i δ) fun d=>L [d] fun x ms=>dz e (put (some (.mon (dskP C f [(x,.list ms)]))) i δ)
theorem xf8 {L:DM} (i:Nat) (hf:f ≠ m) (ha:BvD K H₀ E te de) (hz:SvD K H₀ E tz dz) :
    SvD K H₀ E (tSeq (tAsg (we5 C (yw4 C f) [] E0 tNil) (yt6 i)) (tSeq (tIfS (xr5 (tOp rNe (yv3 C m (yw3 K C f L) [] E0 (tVar i) (zo8 te tNil)) (tC (.str "ok")))) ts tNext) tz)) (xp6 C f i L de dz):=fun δ σ G H e D hx S ⟨hil,q⟩ LK=>by
  intro x dx hxn hdn hne
  refine ⟨x,dx,rfl,ze0,fun d H1 hd0 h1 h2 h3=>⟨rfl,?_⟩⟩
  have xd:x ≠ d:=by
    rintro rfl
    rw [ze0] at hd0; cases hd0
  have hdn':H d = none:=by
    have:upd (upd H dx (.own x)) x (.ins C dx []) d = none:=hd0
    rw [zd9 (Ne.symm xd)] at this
    by_cases z:d = dx
    · rw [z,ze0] at this; cases this
    · rw [zd9 z] at this; exact this
  have s1:Same H H1:=fun b o eb=>h3 b o (by rw [zd9 (ze7 eb hxn),zd9 (ze7 eb hdn)]; exact eb) (ze7 eb hxn)
  have e1:=zs4 S.sub s1
  have S1:=(S.ext e1).setS (v:=.ref x) (s:=.mon anyP) i (fun _ _=>trivial) fun _ _ _ _ z=>nomatch z
  have s0:(σ.set i (some (V.ref x)))[i]? = some (some (.ref x)):=by
    rw [List.getElem?_set_self]
    exact Nat.lt_of_lt_of_le hil S.len
  refine ⟨_,s0,x,dx,_,rfl,h1,yq6 hf,ha e.ex _ _ _ H1 _ _ hx S1 q fun v d2 G2 H2 e2 hv q2=>?_⟩
  have dd2:H2 d = some (.dK []):=e2.h _ _ h2
  refine ⟨x,dx,d,[v],[d2],_,rfl,e2.h _ _ h1,dd2,.cons hv .nil,q2,fun y ms a us H3 hR hfl k3 kd ka km kv=>?_⟩
  refine ⟨rfl,?_⟩
  refine ⟨false,by simp,iteF ?_⟩
  have e12:=e1.trans e2
  have nd:∀ {b:Addr} {o:HO},H b = some o → b ≠ d:=fun eb=>ze7 eb hdn'
  have n2:∀ {b:Addr},H2 b = none → H b = none:=fun {b} z=>by
    cases q:H b with
    | none=>rfl
    | some o=>rw [e12.h b o q] at z; cases z
  let G3:Hp:=fun b=>if b = d then H3 d else match H2 b with
    | none=>H3 b
    | some _=>G2 b
  have gd:G3 d = H3 d:=if_pos rfl
  have gn:∀ {b:Addr},b ≠ d → H2 b = none → G3 b = H3 b:=fun {b} z q=>by
    show (if b = d then H3 d else match H2 b with | none=>H3 b | some _=>G2 b) = H3 b
    rw [if_neg z,q]
  have gs:∀ {b:Addr} {o:HO},b ≠ d → H2 b = some o → G3 b = G2 b:=fun {b o} z q=>by
    show (if b = d then H3 d else match H2 b with | none=>H3 b | some _=>G2 b) = G2 b
    rw [if_neg z,q]
  have sub3:Sub G3 H3:=fun b=>by
    by_cases z:b = d
    · subst z; exact .inl gd
    · cases q:H2 b with
      | none=>exact .inl (gn z q)
      | some o =>
        have k:=k3 b o z q
        rcases e2.s b with w | ⟨w,xs,w2⟩
        · exact .inl (by rw [gs z q,w,q,k])
        · rw [q] at w2
          cases w2
          exact .inr ⟨by rw [gs z q]; exact w,xs,k⟩
  have E3:Ext G H G3 H3:=by
    refine ⟨fun b o eb=>?_,fun b o eb=>k3 b o (nd eb) (e12.h b o eb),sub3,fun b o eb=>?_⟩
    · have hb:=S.sub.same b o eb
      rw [gs (nd hb) (e12.h b o hb)]
      exact e12.g b o eb
    · by_cases z:b = d
      · exact .inr (by rw [z]; exact hdn')
      · cases q:H2 b with
        | none=>exact .inr (n2 q)
        | some u =>
          rw [gs z q] at eb
          exact e12.n b o eb
  have ad:a ≠ d:=by
    rintro rfl
    rw [dd2] at ka; cases ka
  have P3:dskP C f [(y,.list ms)] K G3 (.ref x):=by
    refine ⟨x,dx,d,[(Sum.inr y,V.ref a)],rfl,?_,by rw [gd]; exact kd,.cons ⟨rfl,.lst (SqL.of (by rw [gn ad ka]; exact km)) (zm7 (fun b o q n=>sub3.other q n) kv hfl)⟩ .nil⟩
    rw [gs xd (e2.h _ _ h1)]
    refine e2.g _ _ ?_
    show (match H x with | none=>H1 x | some _=>G x) = _
    rw [hxn]
    exact h1
  exact hz _ _ G3 H3 e D hx ((S.ext E3).setS i P3.sl fun _ _ _ _ z=>nomatch z) hR (LK.mono E3.g)
end
theorem hu1 {n m:Nat} (h:n + 64 < m):n + 1 < m:=by omega
noncomputable abbrev Tab:=List (Str × V × PyData)
noncomputable def yn8 (w:World) (K:PySem.W.Frag) (g:Addr) (tb:Tab):Prop:=(g == sysModules) = false ∧ ∃ (es:Array DictEntry) (n:Nat),K.lookup g = some ⟨.type "dict",none,.dict es n,#[]⟩ ∧ PySem.W.KeysLit w.params es.toList ∧
  Paired (fun (e:DictEntry) (p:Str × V × PyData)=>(∃ t,e.key = .str p.1 t) ∧ RelV p.2.1 e.val) es.toList tb ∧ ∀ p ∈ tb,∀ H,DV K H p.2.1 p.2.2
theorem yb7 {x:Str}:∀ {es:List DictEntry} {tb:Tab},Paired (fun (e:DictEntry) (p:Str × V × PyData)=>(∃ t,e.key = .str p.1 t) ∧ RelV p.2.1 e.val) es tb → RelO ((tb.lookup x).map (·.1)) ((es.find? fun e=>Value.isStrOf x e.key).map (·.val))
  | _,_,.nil=>trivial
  | e :: es,(y,v,d) :: tb,.cons ⟨⟨t,ht⟩,hv⟩ r=>by
    have ih:=yb7 (x:=x) r
    dsimp only at ht hv
    by_cases h:x = y
    · subst h
      rw [List.lookup_cons,beq_self_eq_true,List.find?_cons_of_pos (by rw [ht]; simp [Value.isStrOf])]
      exact hv
    · rw [List.lookup_cons,beq_eq_false_iff_ne.mpr h,List.find?_cons_of_neg (by rw [ht]; simp [Value.isStrOf]; exact fun z=>h z.symm)]
      exact ih
theorem ya5 {α:Type} {x:Str} {y:α}:∀ {l:List (Str × α)},l.lookup x = some y → (x,y) ∈ l
  | [],h=>by simp at h
  | (z,u) :: l,h=>by
    by_cases e:x = z
    · subst e
      rw [List.lookup_cons,beq_self_eq_true] at h
      cases h
      exact List.mem_cons_self
    · rw [List.lookup_cons,beq_eq_false_iff_ne.mpr e] at h
      exact List.mem_cons_of_mem _ (ya5 h)
section
variable {X:Cx} {g:Addr} {tb:Tab}
noncomputable def yg8 (g:Addr) (tb:Tab):R2:=fun x y H Q=>∃ s,x = .str s ∧ y = .ref g ∧ Q (.bl (!(tb.lookup s).isSome)) H
noncomputable def xm5 (g:Addr) (tb:Tab):R2:=fun x y H Q=>∃ s p,x = .ref g ∧ y = .str s ∧ tb.lookup s = some p ∧ Q p.1 H
theorem yl8 {K:PySem.W.Frag} {w:World} (hK:X.K = K) (hw:X.w = w) (c:yn8 w K g tb):OpR X (compareOp .NotIn) (yg8 g tb):=by
  rintro pins s σ H x y v u Q I rx ry ⟨a,rfl,rfl,q⟩
  subst hK
  subst hw
  obtain ⟨t,rfl⟩:=(show ∃ t,v = Value.str a t from rx)
  cases (show u = Value.ref g from ry)
  obtain ⟨lo,es,n,hl,hk,hp,_⟩:=c
  have r:=yb7 (x:=a) hp
  refine wpAny_notIn_of (strKind_is X.prog X.w a t) lo (PySem.W.mapOf_K (prog:=X.prog) I.kIn hl hk) ?_
  have e:=RelO.isSome_eq r
  rw [Option.isSome_map] at e
  have e2:findBy Value.isStrOf es a = (es.toList.find? fun e=>Value.isStrOf a e.key).map (·.val):=by
    obtain ⟨l⟩:=es
    unfold findBy
    rw [List.find?_toArray]
  rw [e2,← e]
  exact ⟨.bl _,H,I.tok _,rfl,q⟩
theorem wm9 {K:PySem.W.Frag} {w:World} (hK:X.K = K) (hw:X.w = w) (c:yn8 w K g tb):IxR X (xm5 g tb):=by
  rintro value slice pins s σ H x y v u Q I rx ry ⟨a,p,rfl,rfl,hp0,q⟩ hs
  subst hK
  subst hw
  cases (show v = Value.ref g from rx)
  obtain ⟨t,rfl⟩:=(show ∃ t,u = Value.str a t from ry)
  obtain ⟨lo,es,n,hl,hk,hp,_⟩:=c
  have r:=yb7 (x:=a) hp
  rw [hp0] at r
  have hm:=PySem.W.mapOf_K (prog:=X.prog) I.kIn hl hk
  have e2:findBy Value.isStrOf es a = (es.toList.find? fun e=>Value.isStrOf a e.key).map (·.val):=by
    obtain ⟨l⟩:=es
    unfold findBy
    rw [List.find?_toArray]
  obtain ⟨w',hw,rw'⟩:=RelO.some_of r
  exact tail_any hm.typeIs slot_dict_getitem.lookup (wpAny_getItem_of (strKind_is X.prog X.w a t) hm (e2.trans hw) ⟨p.1,H,I.tok _,rw',q⟩) hs
end
section
variable {K:PySem.W.Frag} {w:World} {H₀:Hp} {E:XK} {te ta tb:TE} {da db de:DE} {g:Addr} {T:Tab}
noncomputable def yj6 (T:Tab) (da:DE) (ex:DX) (δ:DEn) (Q:PyData → Prop):Prop:=da ex δ fun x=>match x with
  | .str s=>Q (.bool (!(T.lookup s).isSome))
  | _=>False
theorem ym6 (ha:BvD K H₀ E ta da):EvD K H₀ E (tOp (yg8 g T) ta (tC (.ref g))) (yj6 T da):=fun ex δ σ G H Qd Q hx S q k =>
  ha ex δ σ G H _ _ hx S q fun x dx G1 H1 e1 h1 q1=>by
    cases dx with
    | str s=>cases zg7 h1; exact ⟨_,rfl,rfl,k _ _ G1 H1 e1 (.bl _) q1⟩
    | _=>exact q1.elim
noncomputable def xp5 (T:Tab) (da:DE) (ex:DX) (δ:DEn) (Q:PyData → Prop):Prop:=da ex δ fun x=>match x with
  | .str s=>∃ p,T.lookup s = some p ∧ Q p.2
  | _=>False
theorem xj2 (c:yn8 w K g T) (ha:BvD K H₀ E ta da):EvD K H₀ E (tOp (xm5 g T) (tC (.ref g)) ta) (xp5 T da):=fun ex δ σ G H Qd Q hx S q k =>
  ha ex δ σ G H _ _ hx S q fun x dx G1 H1 e1 h1 q1=>by
    cases dx with
    | str s =>
      cases zg7 h1
      obtain ⟨p,hp,q1⟩:=q1
      obtain ⟨_,_,_,_,_,_,hv⟩:=c
      exact ⟨s,p,rfl,rfl,hp,k _ _ G1 H1 e1 (hv _ (ya5 hp) G1) q1⟩
    | _=>exact q1.elim
end
section
variable {P:Program} {w:World} {K:PySem.W.Frag} {mg:Str → Option Value} {base:Heap} {C:Addr} {f:Str}
theorem okR {x qual s0:Str} {st:Stmt} {a:Addr} {fd:FuncData} {N ps:List Str} {k:Nat} {W:DWK} (F:Fun K x qual st a fd) (S:FnScope (s0 :: N) ps (zb4 st)) (len:∀ kv ds Q E,W kv ds Q E → ds.length + 1 = ps.length)
    (hbody:∀ (cdv:Value) (A:Around) (outer:List Env) (s:Shared) (H:Hp) (E:XK),Room k (A.deeper (envOfC qual (zb4 st) s.heap.objs.size a cdv)) →
      ∃ t,PSs (cxOf (CXE P w) P w K mg base (s0 :: N) qual (zb4 st) a cdv A outer s H E) (zm9 st) t ∧ ∃ d,SvD K H E t d ∧ ∀ kv ds Q X,W kv ds Q X → d { nx:=fun _=>Q (.dat .none),rt:=Q,ex:=X } (some (.mon (dskP C f kv)) :: zq8 N ds)) :
    FnOk P w K mg base (CXE P w) (k + 1) a fd ps (spDR K C f W):=by
  refine okE F S (fun vs H Q E h=>?_) (fun cdv A outer s H vs Q E hr h=>?_)
  · obtain ⟨v0,vs',kv,ds,Qd,Ed,rfl,h0,h1,h2,_⟩:=h
    rw [List.length_cons,h1.len]; exact len _ _ _ _ h2
  · obtain ⟨v0,vs',kv,ds,Qd,Ed,rfl,h0,h1,h2,h3,h4⟩:=h
    obtain ⟨t,ht,d,hd,hq⟩:=hbody cdv A outer s H E hr
    refine ⟨t,ht,hd _ _ H H { nx:=fun _=>Qd (.dat .none),rt:=Qd,ex:=Ed } _ h4 (zw4 (fun G' sm=>h0.same sm) h1) (hq kv ds Qd Ed h2) ⟨fun δ σ G H' _ S q=>?_,fun v s H' sm r q=>h3 v s H' sm r q,fun _ _ _ _ _ _ z=>z.elim,fun _ _ _ _ _ _ z=>z.elim⟩⟩
    exact h3 .non (.dat .none) H' S.oldH .non q
noncomputable def xc8 (C:Addr) (f:Str) (i:Nat) (da:DE) (ex:DX) (δ:DEn) (Q:Bool → Prop):Prop:=∃ kv,slot δ i = some (.mon (dskP C f kv)) ∧ da ex δ fun x=>match x with
  | .str s=>Q (!(kv.lookup s).isSome)
  | _=>False
theorem yf8 {K:PySem.W.Frag} {G:Hp} {x:Str}:∀ {kvs:List (Key × V)} {kv:List (Str × PyData)},DKs K G kvs kv → kv.lookup x = none → valV kvs (Sum.inr x:Key) = none
  | _,_,.nil,h=>rfl
  | p :: kvs,q :: kv,.cons hp t,h=>by
    obtain ⟨k,v⟩:=p
    obtain ⟨y,e⟩:=q
    obtain ⟨h1,h2⟩:=hp
    dsimp only at h1 h2
    subst h1
    by_cases hx:x = y
    · subst hx
      rw [List.lookup_cons,beq_self_eq_true] at h
      cases h
    · rw [List.lookup_cons,beq_eq_false_iff_ne.mpr hx] at h
      rw [zr5 (by intro z; injection z with z; exact hx z.symm)]
      exact yf8 t h
theorem yk8 {K:PySem.W.Frag} {G:Hp} {x:Str} {kvs:List (Key × V)} {kv:List (Str × PyData)} (h:DKs K G kvs kv):(valV kvs (Sum.inr x:Key)).isSome = (kv.lookup x).isSome:=by
  cases e:kv.lookup x with
  | none=>rw [yf8 h e]; rfl
  | some d=>obtain ⟨v,h1,_⟩:=yb3 h e; rw [h1]; rfl
variable {H₀:Hp} {E:XK} {te ta tb:TE} {da db de:DE} {dl:DL} {t:TA} {tt:TT} {dt:DT} {ts tz:TS} {ds dz:DS}
theorem yu8 (i:Nat) (hc:Cls K C) (hn:NoAttr K C f) (ha:BvD K H₀ E ta da):TvD K H₀ E (tB (yv4 ta (tFld K (tVar i) f))) (xc8 C f i da):=fun ex δ σ G H Qd Q hx S ⟨kv,hs,q⟩ k =>
  ha ex δ σ G H _ _ hx S q fun x dx G1 H1 e1 h1 q1=>by
    obtain ⟨v,hv,h2⟩:=S.has i _ hs
    obtain ⟨p,dx0,d,kvs,rfl,g2,g3,g4⟩:=h2 G1 e1.g
    cases dx with
    | str s =>
      cases zg7 h1
      refine ⟨_,hv,p,C,dx0,_,_,rfl,e1.s.same _ _ g2,hc,hn,by rw [List.lookup_cons,beq_self_eq_true],d,_,rfl,DGet.k (k:=Sum.inr s) (e1.s.same _ _ g3),_,rfl,k _ G1 H1 e1 ?_⟩
      rw [yk8 g4]
      exact q1
    | _=>exact q1.elim
noncomputable def wq0 (C:Addr) (f:Str) (i:Nat) (da:DE) (ex:DX) (δ:DEn) (Q:PyData → Prop):Prop:=∃ kv,slot δ i = some (.mon (dskP C f kv)) ∧ da ex δ fun x=>match x with
  | .str s=>∃ d,kv.lookup s = some d ∧ Q d
  | _=>False
theorem wb5 (i:Nat) (hc:Cls K C) (hn:NoAttr K C f) (ha:BvD K H₀ E ta da):EvD K H₀ E (we6 (tFld K (tVar i) f) ta) (wq0 C f i da):=fun ex δ σ G H Qd Q hx S ⟨kv,hs,q⟩ k=>by
  obtain ⟨v,hv,h2⟩:=S.has i _ hs
  obtain ⟨p,dx0,d,kvs,rfl,g2,g3,g4⟩:=h2 G (Same.refl _)
  refine ⟨_,hv,p,C,dx0,_,_,rfl,S.sub.same _ _ g2,hc,hn,by rw [List.lookup_cons,beq_self_eq_true],?_⟩
  refine ha ex δ σ G H _ _ hx S q fun x dx G1 H1 e1 h1 q1=>?_
  cases dx with
  | str s =>
    cases zg7 h1
    obtain ⟨r,hr,q1⟩:=q1
    obtain ⟨u,hu,du⟩:=yb3 g4 hr
    exact ⟨d,u,rfl,hu ▸ DGet.k (k:=Sum.inr s) (e1.h _ _ (S.sub.same _ _ g3)),k u r G1 H1 e1 (zg4 e1.g du) q1⟩
  | _=>exact q1.elim
structure EndM (K:PySem.W.Frag) (H₀:Hp) (d:Addr) (R:Str → List PyData → Prop) (D:Ends):Prop where
  rt:∀ (x:Str) (ms:List PyData) (a:Addr) (us:List V) (H':Hp),R x ms → zi4 ms = true → (∀ b o,b ≠ d → H₀ b = some o → H' b = some o) → H' d = some (.dK [(Sum.inr x,V.ref a)]) → H₀ a = none → H' a = some (.lst us) → DVs K H' us ms → D.rt (.str "ok") H'
noncomputable abbrev DMS:=(Str → List PyData → Prop) → DX → DEn → Prop
noncomputable def MuD (K:PySem.W.Frag) (H₀:Hp) (E:XK) (C:Addr) (f:Str) (p dx d:Addr) (ts:TS) (dm:DMS):Prop:=∀ R ex δ σ G H D,ExOk H₀ E ex → Sees K H₀ G δ σ H → slot δ 0 = some (.mon (isP p)) → H₀ p = some (.ins C dx [(f,V.ref d)]) → H₀ d = some (.dK []) → dm R ex δ → EndM K H₀ d R D → ts D σ H
variable {p dx d:Addr} {dm dm2:DMS}
noncomputable def dmNo (_R:Str → List PyData → Prop) (_ex:DX) (_δ:DEn):Prop:=False
noncomputable def wo9 (ds:DS) (dm:DMS) (R:Str → List PyData → Prop) (ex:DX) (δ:DEn):Prop:=ds { nx:=fun δ'=>slot δ' 0 = slot δ 0 ∧ dm R ex δ',rt:=fun _=>False,ex:=ex } δ
theorem xn9 (h1:SvD K H₀ E ts ds) (h2:MuD K H₀ E C f p dx d tz dm):MuD K H₀ E C f p dx d (tSeq ts tz) (wo9 ds dm):=fun R ex δ σ G H D hx S h0 hp hd q L =>
  h1 δ σ G H _ { D with nx:=tz D } hx S q ⟨fun δ' σ' G' H' s S' q'=>h2 R ex δ' σ' G' H' D hx S' (q'.1.trans h0) hp hd q'.2 L,fun _ _ _ _ _ z=>z.elim,fun _ _ _ _ _ _ z=>z.elim,fun _ _ _ _ _ _ z=>z.elim⟩
noncomputable def dmIf (dt:DT) (dm dm2:DMS) (R:Str → List PyData → Prop) (ex:DX) (δ:DEn):Prop:=dt ex δ fun b=>if b = true then dm R ex δ else dm2 R ex δ
theorem wm0 {tw:TS} (h:TvD K H₀ E tt dt) (h2:MuD K H₀ E C f p dx d tz dm2):MuD K H₀ E C f p dx d (tSeq (tIfS tt tw tNext) tz) (dmIf dt dmNo dm2):=fun R ex δ σ G H D hx S h0 hp hd q L =>
  h ex δ σ G H _ _ hx S q fun b G1 H1 e1 q1=>by
    cases b with
    | true=>exact q1.elim
    | false=>exact iteF (h2 R ex δ σ G1 H1 D hx (S.ext e1) h0 hp hd q1 L)
theorem wl9 {tw:TS} (h:TvD K H₀ E tt dt) (h1:MuD K H₀ E C f p dx d ts dm):MuD K H₀ E C f p dx d (tSeq (tIfS tt ts tw) tz) (dmIf dt dm dmNo):=fun R ex δ σ G H D hx S h0 hp hd q L =>
  h ex δ σ G H _ _ hx S q fun b G1 H1 e1 q1=>by
    cases b with
    | true=>exact iteT (h1 R ex δ σ G1 H1 _ hx (S.ext e1) h0 hp hd q1 ⟨L.rt⟩)
    | false=>exact q1.elim
noncomputable def xo7 (i:Nat) (dl:DL) (R:Str → List PyData → Prop) (ex:DX) (δ:DEn):Prop:=∃ x,slot δ i = some (.dat (.str x)) ∧ dl ex δ fun ms=>zi4 ms = true ∧ ndDs ms = true ∧ R x ms
theorem xy0 (i:Nat) (hc:Cls K C) (hn:NoAttr K C f) (ho:OvD K H₀ E te dl):MuD K H₀ E C f p dx d (tSeq (wh3 (tFld K (tVar 0) f) (tVar i) te) (tRet (tC (.str "ok")))) (xo7 i dl):=fun R ex δ σ G H D hx S h0 hp hd ⟨x,hi,q⟩ L =>
  ho ex δ σ G H _ _ hx S q fun a us ms G1 H1 e1 hn1 hg hh hD ⟨fl,nd,hR⟩=>by
    obtain ⟨v,hv,hv2⟩:=S.has 0 _ h0
    cases (show v = V.ref p from hv2 G (Same.refl _))
    obtain ⟨y,hy,hy2⟩:=S.has i _ hi
    cases zg7 hy2
    have o1:=(S.ext e1).oldH
    have hd1:=o1 _ _ hd
    have ad:a ≠ d:=by
      rintro rfl
      rw [hd1] at hh; cases hh
    refine ⟨_,hv,p,C,dx,_,_,rfl,o1 _ _ hp,hc,hn,by rw [List.lookup_cons,beq_self_eq_true],_,hy,d,_,rfl,DPut.k (k:=Sum.inr x) hd1 (by decide),?_⟩
    refine L.rt x ms a us _ hR fl (fun b o nb eb=>?_) ?_ (S.oldH.free hn1) ?_ ?_
    · rw [zd9 nb]; exact o1 _ _ eb
    · rw [ze0]; rfl
    · rw [zd9 ad]; exact hh
    · refine ye5 (fun b o eb no=>?_) (zd8 e1.s.same hD) nd
      have:b ≠ d:=by
        rintro rfl
        rw [hd1] at eb
        cases eb
        exact no _ rfl
      rw [zd9 this]; exact eb
noncomputable def xo8 (L:DM) (dl:DL) (R:Str → List PyData → Prop) (ex:DX) (δ:DEn):Prop:=dl ex δ fun ds=>L ds R
theorem xy1 {L:DM} {m:Str} (hf:f ≠ m) (ha:AvD K H₀ E t dl):MuD K H₀ E C f p dx d (tRet (yv3 C m (yw3 K C f L) [] E0 (tVar 0) t)) (xo8 L dl):=fun R ex δ σ G H D hx S h0 hp hd q LK=>by
  obtain ⟨v,hv,hv2⟩:=S.has 0 _ h0
  cases (show v = V.ref p from hv2 G (Same.refl _))
  refine ⟨_,hv,p,dx,_,rfl,S.oldH _ _ hp,yq6 hf,ha ex δ σ G H _ _ hx S q fun vs ds G1 H1 e1 hv1 q1=>?_⟩
  have o1:=(S.ext e1).oldH
  refine ⟨p,dx,d,vs,ds,R,by rw [List.append_nil],o1 _ _ hp,o1 _ _ hd,hv1,q1,fun x ms a us H' hR fl k1 k2 k3 k4 k5=>?_⟩
  exact LK.rt x ms a us H' hR fl (fun b o nb eb=>k1 b o nb (o1 _ _ eb)) k2 (o1.free k3) k4 k5
theorem okM {x qual s0:Str} {st:Stmt} {a:Addr} {fd:FuncData} {N ps:List Str} {k:Nat} {L:DM} (F:Fun K x qual st a fd) (S:FnScope (s0 :: N) ps (zb4 st)) (len:∀ ds R,L ds R → ds.length + 1 = ps.length)
    (hbody:∀ (cdv:Value) (A:Around) (outer:List Env) (s:Shared) (H:Hp) (E:XK),Room k (A.deeper (envOfC qual (zb4 st) s.heap.objs.size a cdv)) →
      ∃ t,PSs (cxOf (CXE P w) P w K mg base (s0 :: N) qual (zb4 st) a cdv A outer s H E) (zm9 st) t ∧ ∃ dm,(∀ p dx d,MuD K H E C f p dx d t dm) ∧ ∀ p ds R,L ds R → dm R (fun _=>False) (some (.mon (isP p)) :: zq8 N ds)) :
    FnOk P w K mg base (CXE P w) (k + 1) a fd ps (yw3 K C f L):=by
  refine okE F S (fun vs H Q E h=>?_) (fun cdv A outer s H vs Q E hr h=>?_)
  · obtain ⟨p,dx,d,vs',ds,R,rfl,_,_,h1,h2,_⟩:=h
    rw [List.length_cons,h1.len]; exact len _ _ h2
  · obtain ⟨p,dx,d,vs',ds,R,rfl,hp,hd,h1,h2,h3⟩:=h
    obtain ⟨t,ht,dm,hdm,hq⟩:=hbody cdv A outer s H E hr
    refine ⟨t,ht,hdm p dx d R (fun _=>False) _ _ H H _ (fun _ _ _ z=>z.elim) (zw4 (φ:=isP p) (fun _ _=>rfl) h1) rfl hp hd (hq p ds R h2) ⟨fun x ms a us H' hR fl k1 k2 k3 k4 k5=>h3 x ms a us H' hR fl k1 k2 k3 k4 k5⟩⟩
theorem wl6 {x qual:Str} {st:Stmt} {a:Addr} {fd:FuncData} {ps:List Str} {k:Nat} (F:Fun K x qual st a fd) (S:FnScope ["self"] ps (zb4 st)) (hl:ps.length = 1) (hc:Cls K C) (hn:NoAttr K C f)
    (hbody:∀ (cdv:Value) (A:Around) (outer:List Env) (s:Shared) (H:Hp) (E:XK),Room k (A.deeper (envOfC qual (zb4 st) s.heap.objs.size a cdv)) →
      PSs (cxOf (CXE P w) P w K mg base ["self"] qual (zb4 st) a cdv A outer s H E) (zm9 st) (sFld K (tVar 0) tDNewK f)) :
    FnOk P w K mg base (CXE P w) (k + 1) a fd ps (yw4 C f):=by
  refine okE F S (fun vs H Q E h=>?_) (fun cdv A outer s H vs Q E hr h=>?_)
  · obtain ⟨p,dx,rfl,_⟩:=h
    rw [hl]; rfl
  · obtain ⟨p,dx,rfl,hp,h3⟩:=h
    refine ⟨_,hbody cdv A outer s H E hr,fun d hd=>?_⟩
    have pd:p ≠ d:=fun z=>by rw [z,hd] at hp; cases hp
    refine ⟨_,rfl,p,C,dx,[],rfl,by rw [zd9 pd]; exact hp,hc,hn,by decide,?_⟩
    refine h3 d _ hd (by rw [ze0]; rfl) (by rw [zd9 (Ne.symm pd),ze0]) fun b o eb nb=>?_
    rw [zd9 nb,zd9 (ze7 eb hd)]
    exact eb
noncomputable def dIxB (da db:DE) (ex:DX) (δ:DEn) (Q:PyData → Prop):Prop:=da ex δ fun x=>db ex δ fun y=>match x,y with
  | .list ds,.int i=>∃ d,atI ds i = some d ∧ Q d
  | _,_=>False
theorem wr0 (ha:BvD K H₀ E ta da) (hb:BvD K H₀ E tb db):BvD K H₀ E (tOp (rIxL K) ta tb) (dIxB da db):=fun ex δ σ G H Qd Q hx S q k =>
  ha ex δ σ G H _ _ hx S q fun x dx G1 H1 e1 h1 q1=>hb ex δ σ G1 H1 _ _ hx (S.ext e1) q1 fun y dy G2 H2 e2 h3 q2=>by
    split at q2
    · obtain ⟨d,z,q2⟩:=q2
      cases zf1 h3
      obtain ⟨a,vs,rfl,h4,h5⟩:=zk8 (zg4 e2.h h1)
      obtain ⟨v,z1,z2⟩:=zy5 h5 z
      exact ⟨a,vs,_,v,rfl,rfl,h4,z1,k v d G2 H2 (e1.trans e2) z2 q2⟩
    · exact q2.elim
end
section
open PySem.AutoSeq1 (wpAny_loadPart')
open PySem.MeetsSeq
end
section
variable {X:Cx}
end
section
variable {K:PySem.W.Frag} {H₀:Hp} {E:XK} {te:TE} {de:DE}
end
end Dl
namespace My
open PySem PySem.Spec PyProof.Rows L2 Lx Dl
noncomputable def top (i:Nat):Stmt:=PySem.Challenge.pw_leastmiss_k83_whole_few_steps_by_text.main.body.getD i (.Pass ⟨0,0,0,0⟩)
noncomputable abbrev s_qa:Stmt:=top 12
theorem sc_qa:FnScope ["one","other","rest"] ["one","other"] (zb4 s_qa):=⟨rfl,rfl,rfl,by decide +kernel,rfl,by decide +kernel,by decide +kernel⟩
noncomputable abbrev s_qb:Stmt:=top 13
theorem sc_qb:FnScope ["top","bottom","divisor"] ["top","bottom"] (zb4 s_qb):=⟨rfl,rfl,rfl,by decide +kernel,rfl,by decide +kernel,by decide +kernel⟩
noncomputable abbrev s_qc:Stmt:=top 14
theorem sc_qc:FnScope ["one","other","shared","rest","top","divisor"] ["one","other"] (zb4 s_qc):=⟨rfl,rfl,rfl,by decide +kernel,rfl,by decide +kernel,by decide +kernel⟩
noncomputable abbrev s_qd:Stmt:=top 15
theorem wu4:FnScope ["one","other"] ["one","other"] (zb4 s_qd):=⟨rfl,rfl,rfl,by decide +kernel,rfl,by decide +kernel,by decide +kernel⟩
noncomputable abbrev s_qe:Stmt:=top 16
theorem sc_qe:FnScope ["one","other","left","right"] ["one","other"] (zb4 s_qe):=⟨rfl,rfl,rfl,by decide +kernel,rfl,by decide +kernel,by decide +kernel⟩
noncomputable abbrev s_qf:Stmt:=top 17
theorem wu3:FnScope ["one","other"] ["one","other"] (zb4 s_qf):=⟨rfl,rfl,rfl,by decide +kernel,rfl,by decide +kernel,by decide +kernel⟩
noncomputable abbrev s_qg:Stmt:=top 18
theorem wg8:FnScope ["one","other"] ["one","other"] (zb4 s_qg):=⟨rfl,rfl,rfl,by decide +kernel,rfl,by decide +kernel,by decide +kernel⟩
noncomputable abbrev s_qh:Stmt:=top 19
theorem wu2:FnScope ["one"] ["one"] (zb4 s_qh):=⟨rfl,rfl,rfl,by decide +kernel,rfl,by decide +kernel,by decide +kernel⟩
noncomputable abbrev s_qi:Stmt:=top 20
theorem sc_qi:FnScope ["some","total","one"] ["some"] (zb4 s_qi):=⟨rfl,rfl,rfl,by decide +kernel,rfl,by decide +kernel,by decide +kernel⟩
noncomputable abbrev s_qj:Stmt:=top 21
theorem sc_qj:FnScope ["some","greatest","one"] ["some"] (zb4 s_qj):=⟨rfl,rfl,rfl,by decide +kernel,rfl,by decide +kernel,by decide +kernel⟩
noncomputable abbrev s_qk:Stmt:=top 22
theorem sc_qk:FnScope ["some","least","one"] ["some"] (zb4 s_qk):=⟨rfl,rfl,rfl,by decide +kernel,rfl,by decide +kernel,by decide +kernel⟩
noncomputable abbrev s_ql:Stmt:=top 37
theorem wu1:FnScope ["marks","place"] ["marks","place"] (zb4 s_ql):=⟨rfl,rfl,rfl,by decide +kernel,rfl,by decide +kernel,by decide +kernel⟩
noncomputable abbrev s_qm:Stmt:=top 38
theorem sc_qm:FnScope ["some","marks","mark","spot"] ["some"] (zb4 s_qm):=⟨rfl,rfl,rfl,by decide +kernel,rfl,by decide +kernel,by decide +kernel⟩
noncomputable abbrev s_qn:Stmt:=top 39
theorem wu0:FnScope ["marks","row"] ["marks","row"] (zb4 s_qn):=⟨rfl,rfl,rfl,by decide +kernel,rfl,by decide +kernel,by decide +kernel⟩
noncomputable abbrev s_qo:Stmt:=top 42
theorem wt9:FnScope ["kind"] ["kind"] (zb4 s_qo):=⟨rfl,rfl,rfl,by decide +kernel,rfl,by decide +kernel,by decide +kernel⟩
noncomputable abbrev s_qp:Stmt:=top 43
theorem wt8:FnScope ["marks","row"] ["marks","row"] (zb4 s_qp):=⟨rfl,rfl,rfl,by decide +kernel,rfl,by decide +kernel,by decide +kernel⟩
noncomputable abbrev s_qq:Stmt:=top 44
theorem sc_qq:FnScope ["kind","marks","row","misses","weighed"] ["kind","marks","row"] (zb4 s_qq):=⟨rfl,rfl,rfl,by decide +kernel,rfl,by decide +kernel,by decide +kernel⟩
noncomputable abbrev s_qr:Stmt:=top 46
theorem sc_qr:FnScope ["kind","marks","heights","weights","weighed"] ["kind","marks"] (zb4 s_qr):=⟨rfl,rfl,rfl,by decide +kernel,rfl,by decide +kernel,by decide +kernel⟩
noncomputable abbrev s_qs:Stmt:=top 47
theorem sc_qs:FnScope ["some","weights","pairs","whole","spot","reached"] ["some","weights"] (zb4 s_qs):=⟨rfl,rfl,rfl,by decide +kernel,rfl,by decide +kernel,by decide +kernel⟩
noncomputable abbrev s_qt:Stmt:=top 48
theorem sc_qt:FnScope ["some","weights","pairs","one","weight","spot"] ["some","weights"] (zb4 s_qt):=⟨rfl,rfl,rfl,by decide +kernel,rfl,by decide +kernel,by decide +kernel⟩
noncomputable abbrev s_qu:Stmt:=top 74
theorem sc_qu:FnScope ["kind","marks","first","last","stretch"] ["kind","marks","first","last"] (zb4 s_qu):=⟨rfl,rfl,rfl,by decide +kernel,rfl,by decide +kernel,by decide +kernel⟩
noncomputable abbrev s_qv:Stmt:=top 75
theorem wt7:FnScope ["kind","one","other"] ["kind","one","other"] (zb4 s_qv):=⟨rfl,rfl,rfl,by decide +kernel,rfl,by decide +kernel,by decide +kernel⟩
noncomputable abbrev s_qw:Stmt:=top 78
theorem wt6:FnScope ["kind","marks","last"] ["kind","marks","last"] (zb4 s_qw):=⟨rfl,rfl,rfl,by decide +kernel,rfl,by decide +kernel,by decide +kernel⟩
noncomputable abbrev s_qx:Stmt:=top 79
theorem wt5:FnScope ["kind","marks"] ["kind","marks"] (zb4 s_qx):=⟨rfl,rfl,rfl,by decide +kernel,rfl,by decide +kernel,by decide +kernel⟩
noncomputable abbrev s_qy:Stmt:=top 80
theorem wt4:FnScope ["kind","entry","one","other"] ["kind","entry","one","other"] (zb4 s_qy):=⟨rfl,rfl,rfl,by decide +kernel,rfl,by decide +kernel,by decide +kernel⟩
noncomputable abbrev s_qz:Stmt:=top 81
theorem sc_qz:FnScope ["kind","marks","k","costs","table","starts","entries","spot","found"] ["kind","marks","k"] (zb4 s_qz):=⟨rfl,rfl,rfl,by decide +kernel,rfl,by decide +kernel,by decide +kernel⟩
noncomputable abbrev xw1:Stmt:=top 82
theorem sc_qa1:FnScope ["kind","costs","entries_ahead","best","start","spot","one"] ["kind","costs","entries_ahead"] (zb4 xw1):=⟨rfl,rfl,rfl,by decide +kernel,rfl,by decide +kernel,by decide +kernel⟩
noncomputable abbrev xv9:Stmt:=top 83
theorem sc_qb1:FnScope ["kind","marks","starts","row","count","spot","first","stretch"] ["kind","marks","starts"] (zb4 xv9):=⟨rfl,rfl,rfl,by decide +kernel,rfl,by decide +kernel,by decide +kernel⟩
noncomputable abbrev xv7:Stmt:=top 87
theorem wh1:FnScope ["text"] ["text"] (zb4 xv7):=⟨rfl,rfl,rfl,by decide +kernel,rfl,by decide +kernel,by decide +kernel⟩
noncomputable abbrev xv5:Stmt:=top 88
theorem wh0:FnScope ["text"] ["text"] (zb4 xv5):=⟨rfl,rfl,rfl,by decide +kernel,rfl,by decide +kernel,by decide +kernel⟩
noncomputable abbrev xv3:Stmt:=top 89
theorem sc_qe1:FnScope ["text","figures"] ["text"] (zb4 xv3):=⟨rfl,rfl,rfl,by decide +kernel,rfl,by decide +kernel,by decide +kernel⟩
noncomputable abbrev xv1:Stmt:=top 90
theorem sc_qf1:FnScope ["text","parts","top","bottom"] ["text"] (zb4 xv1):=⟨rfl,rfl,rfl,by decide +kernel,rfl,by decide +kernel,by decide +kernel⟩
noncomputable abbrev xu9:Stmt:=top 91
theorem sc_qg1:FnScope ["text","parts","others","place","height","weight"] ["text"] (zb4 xu9):=⟨rfl,rfl,rfl,by decide +kernel,rfl,by decide +kernel,by decide +kernel⟩
noncomputable abbrev xu7:Stmt:=top 92
theorem wg6:FnScope ["x"] ["x"] (zb4 xu7):=⟨rfl,rfl,rfl,by decide +kernel,rfl,by decide +kernel,by decide +kernel⟩
noncomputable abbrev xu5:Stmt:=top 93
theorem wg4:FnScope ["some"] ["some"] (zb4 xu5):=⟨rfl,rfl,rfl,by decide +kernel,rfl,by decide +kernel,by decide +kernel⟩
noncomputable abbrev xu3:Stmt:=top 100
theorem sc_qj1:FnScope ["row","words","bounds"] ["row"] (zb4 xu3):=⟨rfl,rfl,rfl,by decide +kernel,rfl,by decide +kernel,by decide +kernel⟩
noncomputable abbrev xu2:Stmt:=top 101
theorem wg3:FnScope ["word"] ["word"] (zb4 xu2):=⟨rfl,rfl,rfl,by decide +kernel,rfl,by decide +kernel,by decide +kernel⟩
noncomputable abbrev xu1:Stmt:=top 103
theorem wg2:FnScope ["parts"] ["parts"] (zb4 xu1):=⟨rfl,rfl,rfl,by decide +kernel,rfl,by decide +kernel,by decide +kernel⟩
noncomputable abbrev xu0:Stmt:=top 106
theorem sc_qm1:FnScope ["kind","marks","k","row"] ["kind","marks","k"] (zb4 xu0):=⟨rfl,rfl,rfl,by decide +kernel,rfl,by decide +kernel,by decide +kernel⟩
noncomputable abbrev xt9:Stmt:=top 107
theorem wg1:FnScope ["kind","marks","words"] ["kind","marks","words"] (zb4 xt9):=⟨rfl,rfl,rfl,by decide +kernel,rfl,by decide +kernel,by decide +kernel⟩
noncomputable abbrev xt8:Stmt:=top 108
theorem sc_qo1:FnScope ["words","marks","kind"] ["words","marks"] (zb4 xt8):=⟨rfl,rfl,rfl,by decide +kernel,rfl,by decide +kernel,by decide +kernel⟩
noncomputable abbrev xt7:Stmt:=top 111
theorem wg0:FnScope ["script","k"] ["script","k"] (zb4 xt7):=⟨rfl,rfl,rfl,by decide +kernel,rfl,by decide +kernel,by decide +kernel⟩
noncomputable abbrev xt6:Stmt:=top 112
theorem sc_qq1:FnScope ["top","bottom","one","other"] ["top","bottom"] (zb4 xt6):=⟨rfl,rfl,rfl,by decide +kernel,rfl,by decide +kernel,by decide +kernel⟩
noncomputable abbrev xt5:Stmt:=top 115
theorem wf9:FnScope ["one","other"] ["one","other"] (zb4 xt5):=⟨rfl,rfl,rfl,by decide +kernel,rfl,by decide +kernel,by decide +kernel⟩
noncomputable abbrev xt4:Stmt:=top 116
theorem wf8:FnScope ["kind","one","other"] ["kind","one","other"] (zb4 xt4):=⟨rfl,rfl,rfl,by decide +kernel,rfl,by decide +kernel,by decide +kernel⟩
noncomputable abbrev xt3:Stmt:=top 117
theorem sc_qt1:FnScope ["kind","some","row","total","mark","height","top","bottom"] ["kind","some","row"] (zb4 xt3):=⟨rfl,rfl,rfl,by decide +kernel,rfl,by decide +kernel,by decide +kernel⟩
noncomputable abbrev xt2:Stmt:=top 118
theorem sc_qu1:FnScope ["word","figures","sign"] ["word"] (zb4 xt2):=⟨rfl,rfl,rfl,by decide +kernel,rfl,by decide +kernel,by decide +kernel⟩
noncomputable abbrev xt1:Stmt:=top 119
theorem sc_qv1:FnScope ["word","first","stroke","second","top","bottom"] ["word"] (zb4 xt1):=⟨rfl,rfl,rfl,by decide +kernel,rfl,by decide +kernel,by decide +kernel⟩
noncomputable abbrev xt0:Stmt:=top 120
theorem wf7:FnScope ["answer"] ["answer"] (zb4 xt0):=⟨rfl,rfl,rfl,by decide +kernel,rfl,by decide +kernel,by decide +kernel⟩
noncomputable abbrev xs9:Stmt:=top 121
theorem wf6:FnScope ["x"] ["x"] (zb4 xs9):=⟨rfl,rfl,rfl,by decide +kernel,rfl,by decide +kernel,by decide +kernel⟩
noncomputable abbrev xs8:Stmt:=top 122
theorem wf5:FnScope ["mark"] ["mark"] (zb4 xs8):=⟨rfl,rfl,rfl,by decide +kernel,rfl,by decide +kernel,by decide +kernel⟩
noncomputable abbrev xs7:Stmt:=top 123
theorem sc_qz1:FnScope ["script","start","most","some","place","k","cell","other","height"] ["script","start","most"] (zb4 xs7):=⟨rfl,rfl,rfl,by decide +kernel,rfl,by decide +kernel,by decide +kernel⟩
noncomputable abbrev xw0:Stmt:=top 124
theorem sc_qa2:FnScope ["row","total","k"] ["row"] (zb4 xw0):=⟨rfl,rfl,rfl,by decide +kernel,rfl,by decide +kernel,by decide +kernel⟩
noncomputable abbrev xv8:Stmt:=top 125
theorem wh2:FnScope ["one","other"] ["one","other"] (zb4 xv8):=⟨rfl,rfl,rfl,by decide +kernel,rfl,by decide +kernel,by decide +kernel⟩
noncomputable abbrev xv6:Stmt:=top 126
theorem sc_qc2:FnScope ["number","some","one"] ["number","some"] (zb4 xv6):=⟨rfl,rfl,rfl,by decide +kernel,rfl,by decide +kernel,by decide +kernel⟩
noncomputable abbrev xv4:Stmt:=top 127
theorem sc_qd2:FnScope ["cell","some","k","number","height","left","row","mark"] ["cell","some","k"] (zb4 xv4):=⟨rfl,rfl,rfl,by decide +kernel,rfl,by decide +kernel,by decide +kernel⟩
noncomputable abbrev xv2:Stmt:=ye2 (top 109) 0
theorem wg9:FnScope ["self"] ["self"] (zb4 xv2):=⟨rfl,rfl,rfl,by decide +kernel,rfl,by decide +kernel,by decide +kernel⟩
noncomputable abbrev xv0:Stmt:=ye2 (top 109) 1
theorem sc_qf2:FnScope ["self","row","words","marks"] ["self","row"] (zb4 xv0):=⟨rfl,rfl,rfl,by decide +kernel,rfl,by decide +kernel,by decide +kernel⟩
noncomputable abbrev xu8:Stmt:=ye2 (top 109) 2
theorem wg7:FnScope ["self","name","words"] ["self","name","words"] (zb4 xu8):=⟨rfl,rfl,rfl,by decide +kernel,rfl,by decide +kernel,by decide +kernel⟩
noncomputable abbrev xu6:Stmt:=ye2 (top 109) 3
theorem wg5:FnScope ["self","name"] ["self","name"] (zb4 xu6):=⟨rfl,rfl,rfl,by decide +kernel,rfl,by decide +kernel,by decide +kernel⟩
noncomputable abbrev xu4:Stmt:=top 128
theorem sc_qi2:FnScope ["script","kind","k","some","at","desk","found","judge","j","other","judged","more"] ["script"] (zb4 xu4):=⟨rfl,rfl,rfl,by decide +kernel,rfl,by decide +kernel,by decide +kernel⟩
set_option genInjectivity false in
structure Adr where
  a_qa:Addr
  d_qa:FuncData
  a_qb:Addr
  d_qb:FuncData
  a_qc:Addr
  d_qc:FuncData
  a_qd:Addr
  d_qd:FuncData
  a_qe:Addr
  d_qe:FuncData
  a_qf:Addr
  d_qf:FuncData
  a_qg:Addr
  d_qg:FuncData
  a_qh:Addr
  d_qh:FuncData
  a_qi:Addr
  d_qi:FuncData
  a_qj:Addr
  d_qj:FuncData
  a_qk:Addr
  d_qk:FuncData
  a_ql:Addr
  d_ql:FuncData
  a_qm:Addr
  d_qm:FuncData
  a_qn:Addr
  d_qn:FuncData
  a_qo:Addr
  d_qo:FuncData
  a_qp:Addr
  d_qp:FuncData
  a_qq:Addr
  d_qq:FuncData
  a_qr:Addr
  d_qr:FuncData
  a_qs:Addr
  d_qs:FuncData
  a_qt:Addr
  d_qt:FuncData
  a_qu:Addr
  d_qu:FuncData
  a_qv:Addr
  d_qv:FuncData
  a_qw:Addr
  d_qw:FuncData
  a_qx:Addr
  d_qx:FuncData
  a_qy:Addr
  d_qy:FuncData
  a_qz:Addr
  d_qz:FuncData
  a_qa1:Addr
  d_qa1:FuncData
  a_qb1:Addr
  d_qb1:FuncData
  a_qc1:Addr
  d_qc1:FuncData
  a_qd1:Addr
  d_qd1:FuncData
  a_qe1:Addr
  d_qe1:FuncData
  a_qf1:Addr
  d_qf1:FuncData
  a_qg1:Addr
  d_qg1:FuncData
  a_qh1:Addr
  d_qh1:FuncData
  a_qi1:Addr
  d_qi1:FuncData
  a_qj1:Addr
  d_qj1:FuncData
  a_qk1:Addr
  d_qk1:FuncData
  a_ql1:Addr
  d_ql1:FuncData
  a_qm1:Addr
  d_qm1:FuncData
  a_qn1:Addr
  d_qn1:FuncData
  a_qo1:Addr
  d_qo1:FuncData
  a_qp1:Addr
  d_qp1:FuncData
  a_qq1:Addr
  d_qq1:FuncData
  a_qr1:Addr
  d_qr1:FuncData
  a_qs1:Addr
  d_qs1:FuncData
  a_qt1:Addr
  d_qt1:FuncData
  a_qu1:Addr
  d_qu1:FuncData
  a_qv1:Addr
  d_qv1:FuncData
  a_qw1:Addr
  d_qw1:FuncData
  a_qx1:Addr
  d_qx1:FuncData
  a_qy1:Addr
  d_qy1:FuncData
  a_qz1:Addr
  d_qz1:FuncData
  a_qa2:Addr
  d_qa2:FuncData
  a_qb2:Addr
  d_qb2:FuncData
  a_qc2:Addr
  d_qc2:FuncData
  a_qd2:Addr
  d_qd2:FuncData
  a_qe2:Addr
  d_qe2:FuncData
  a_qf2:Addr
  d_qf2:FuncData
  a_qg2:Addr
  d_qg2:FuncData
  a_qh2:Addr
  d_qh2:FuncData
  a_qi2:Addr
  d_qi2:FuncData
  x_MissError:Addr
  x_NoNumber:Addr
  x_NoMarks:Addr
  x_NoKind:Addr
  x_NoBend:Addr
  x_NoAnswer:Addr
  x_NoText:Addr
  x_NoName:Addr
  x_NoRow:Addr
  g_KINDS:Addr
  g_NOUGHT:Addr
  c_Desk:Addr
  g_COUNTS:Addr
  g_COUNTS_0:Addr
  g_COUNTS_1:Addr
  g_COUNTS_2:Addr
  g_COUNTS_3:Addr
  g_COUNTS_4:Addr
  g_COUNTS_5:Addr
  g_COUNTS_6:Addr
  g_COUNTS_7:Addr
noncomputable def zl3 (A:Adr):Tab:=[("marks",.ref A.g_COUNTS_0,(.tuple [(.int 3),(.int 62)])),("drop",.ref A.g_COUNTS_1,(.tuple [(.int 2),(.int 2)])),("names",.ref A.g_COUNTS_2,(.tuple [(.int 1),(.int 1)])),("show",.ref A.g_COUNTS_3,(.tuple [(.int 2),(.int 2)])),("bend",.ref A.g_COUNTS_4,(.tuple [(.int 4),(.int 4)])),("rise",.ref A.g_COUNTS_5,(.tuple [(.int 3),(.int 3)])),("steps",.ref A.g_COUNTS_6,(.tuple [(.int 4),(.int 4)])),("judge",.ref A.g_COUNTS_7,(.tuple [(.int 4),(.int 63)]))]
structure Txt (K:PySem.W.Frag) (mg:Str → Option Value) (A:Adr):Prop where
  F_qa:Fun K "common_divisor" "common_divisor" s_qa A.a_qa A.d_qa
  m_qa:mg "common_divisor" = some (.ref A.a_qa)
  b_qa:Binds K A.d_qa ["one","other"] []
  F_qb:Fun K "fraction" "fraction" s_qb A.a_qb A.d_qb
  m_qb:mg "fraction" = some (.ref A.a_qb)
  b_qb:Binds K A.d_qb ["top","bottom"] []
  F_qc:Fun K "plus" "plus" s_qc A.a_qc A.d_qc
  m_qc:mg "plus" = some (.ref A.a_qc)
  b_qc:Binds K A.d_qc ["one","other"] []
  F_qd:Fun K "minus" "minus" s_qd A.a_qd A.d_qd
  m_qd:mg "minus" = some (.ref A.a_qd)
  b_qd:Binds K A.d_qd ["one","other"] []
  F_qe:Fun K "product" "product" s_qe A.a_qe A.d_qe
  m_qe:mg "product" = some (.ref A.a_qe)
  b_qe:Binds K A.d_qe ["one","other"] []
  F_qf:Fun K "quotient" "quotient" s_qf A.a_qf A.d_qf
  m_qf:mg "quotient" = some (.ref A.a_qf)
  b_qf:Binds K A.d_qf ["one","other"] []
  F_qg:Fun K "is_less" "is_less" s_qg A.a_qg A.d_qg
  m_qg:mg "is_less" = some (.ref A.a_qg)
  b_qg:Binds K A.d_qg ["one","other"] []
  F_qh:Fun K "size_of" "size_of" s_qh A.a_qh A.d_qh
  m_qh:mg "size_of" = some (.ref A.a_qh)
  b_qh:Binds K A.d_qh ["one"] []
  F_qi:Fun K "total_of" "total_of" s_qi A.a_qi A.d_qi
  m_qi:mg "total_of" = some (.ref A.a_qi)
  b_qi:Binds K A.d_qi ["some"] []
  F_qj:Fun K "greatest_of" "greatest_of" s_qj A.a_qj A.d_qj
  m_qj:mg "greatest_of" = some (.ref A.a_qj)
  b_qj:Binds K A.d_qj ["some"] []
  F_qk:Fun K "least_of" "least_of" s_qk A.a_qk A.d_qk
  m_qk:mg "least_of" = some (.ref A.a_qk)
  b_qk:Binds K A.d_qk ["some"] []
  F_ql:Fun K "count_ahead" "count_ahead" s_ql A.a_ql A.d_ql
  m_ql:mg "count_ahead" = some (.ref A.a_ql)
  b_ql:Binds K A.d_ql ["marks","place"] []
  F_qm:Fun K "marks_of" "marks_of" s_qm A.a_qm A.d_qm
  m_qm:mg "marks_of" = some (.ref A.a_qm)
  b_qm:Binds K A.d_qm ["some"] []
  F_qn:Fun K "misses_of" "misses_of" s_qn A.a_qn A.d_qn
  m_qn:mg "misses_of" = some (.ref A.a_qn)
  b_qn:Binds K A.d_qn ["marks","row"] []
  F_qo:Fun K "check_kind" "check_kind" s_qo A.a_qo A.d_qo
  m_qo:mg "check_kind" = some (.ref A.a_qo)
  b_qo:Binds K A.d_qo ["kind"] []
  F_qp:Fun K "weighed_misses" "weighed_misses" s_qp A.a_qp A.d_qp
  m_qp:mg "weighed_misses" = some (.ref A.a_qp)
  b_qp:Binds K A.d_qp ["marks","row"] []
  F_qq:Fun K "measured" "measured" s_qq A.a_qq A.d_qq
  m_qq:mg "measured" = some (.ref A.a_qq)
  b_qq:Binds K A.d_qq ["kind","marks","row"] []
  F_qr:Fun K "least_level" "least_level" s_qr A.a_qr A.d_qr
  m_qr:mg "least_level" = some (.ref A.a_qr)
  b_qr:Binds K A.d_qr ["kind","marks"] []
  F_qs:Fun K "middle_of" "middle_of" s_qs A.a_qs A.d_qs
  m_qs:mg "middle_of" = some (.ref A.a_qs)
  b_qs:Binds K A.d_qs ["some","weights"] []
  F_qt:Fun K "in_order" "in_order" s_qt A.a_qt A.d_qt
  m_qt:mg "in_order" = some (.ref A.a_qt)
  b_qt:Binds K A.d_qt ["some","weights"] []
  F_qu:Fun K "stretch_cost" "stretch_cost" s_qu A.a_qu A.d_qu
  m_qu:mg "stretch_cost" = some (.ref A.a_qu)
  b_qu:Binds K A.d_qu ["kind","marks","first","last"] []
  F_qv:Fun K "joined" "joined" s_qv A.a_qv A.d_qv
  m_qv:mg "joined" = some (.ref A.a_qv)
  b_qv:Binds K A.d_qv ["kind","one","other"] []
  F_qw:Fun K "costs_to" "costs_to" s_qw A.a_qw A.d_qw
  m_qw:mg "costs_to" = some (.ref A.a_qw)
  b_qw:Binds K A.d_qw ["kind","marks","last"] []
  F_qx:Fun K "all_costs" "all_costs" s_qx A.a_qx A.d_qx
  m_qx:mg "all_costs" = some (.ref A.a_qx)
  b_qx:Binds K A.d_qx ["kind","marks"] []
  F_qy:Fun K "is_above" "is_above" s_qy A.a_qy A.d_qy
  m_qy:mg "is_above" = some (.ref A.a_qy)
  b_qy:Binds K A.d_qy ["kind","entry","one","other"] []
  F_qz:Fun K "step_least" "step_least" s_qz A.a_qz A.d_qz
  m_qz:mg "step_least" = some (.ref A.a_qz)
  b_qz:Binds K A.d_qz ["kind","marks","k"] []
  F_qa1:Fun K "best_entry" "best_entry" xw1 A.a_qa1 A.d_qa1
  m_qa1:mg "best_entry" = some (.ref A.a_qa1)
  b_qa1:Binds K A.d_qa1 ["kind","costs","entries_ahead"] []
  F_qb1:Fun K "laid_row" "laid_row" xv9 A.a_qb1 A.d_qb1
  m_qb1:mg "laid_row" = some (.ref A.a_qb1)
  b_qb1:Binds K A.d_qb1 ["kind","marks","starts"] []
  F_qc1:Fun K "check_text" "check_text" xv7 A.a_qc1 A.d_qc1
  m_qc1:mg "check_text" = some (.ref A.a_qc1)
  b_qc1:Binds K A.d_qc1 ["text"] []
  F_qd1:Fun K "is_figures" "is_figures" xv5 A.a_qd1 A.d_qd1
  m_qd1:mg "is_figures" = some (.ref A.a_qd1)
  b_qd1:Binds K A.d_qd1 ["text"] []
  F_qe1:Fun K "read_whole" "read_whole" xv3 A.a_qe1 A.d_qe1
  m_qe1:mg "read_whole" = some (.ref A.a_qe1)
  b_qe1:Binds K A.d_qe1 ["text"] []
  F_qf1:Fun K "read_fraction" "read_fraction" xv1 A.a_qf1 A.d_qf1
  m_qf1:mg "read_fraction" = some (.ref A.a_qf1)
  b_qf1:Binds K A.d_qf1 ["text"] []
  F_qg1:Fun K "read_mark" "read_mark" xu9 A.a_qg1 A.d_qg1
  m_qg1:mg "read_mark" = some (.ref A.a_qg1)
  b_qg1:Binds K A.d_qg1 ["text"] []
  F_qh1:Fun K "show_fraction" "show_fraction" xu7 A.a_qh1 A.d_qh1
  m_qh1:mg "show_fraction" = some (.ref A.a_qh1)
  b_qh1:Binds K A.d_qh1 ["x"] []
  F_qi1:Fun K "show_fractions" "show_fractions" xu5 A.a_qi1 A.d_qi1
  m_qi1:mg "show_fractions" = some (.ref A.a_qi1)
  b_qi1:Binds K A.d_qi1 ["some"] []
  F_qj1:Fun K "words_of" "words_of" xu3 A.a_qj1 A.d_qj1
  m_qj1:mg "words_of" = some (.ref A.a_qj1)
  b_qj1:Binds K A.d_qj1 ["row"] []
  F_qk1:Fun K "check_name" "check_name" xu2 A.a_qk1 A.d_qk1
  m_qk1:mg "check_name" = some (.ref A.a_qk1)
  b_qk1:Binds K A.d_qk1 ["word"] []
  F_ql1:Fun K "parted" "parted" xu1 A.a_ql1 A.d_ql1
  m_ql1:mg "parted" = some (.ref A.a_ql1)
  b_ql1:Binds K A.d_ql1 ["parts"] []
  F_qm1:Fun K "steps_answer" "steps_answer" xu0 A.a_qm1 A.d_qm1
  m_qm1:mg "steps_answer" = some (.ref A.a_qm1)
  b_qm1:Binds K A.d_qm1 ["kind","marks","k"] []
  F_qn1:Fun K "judge_answer" "judge_answer" xt9 A.a_qn1 A.d_qn1
  m_qn1:mg "judge_answer" = some (.ref A.a_qn1)
  b_qn1:Binds K A.d_qn1 ["kind","marks","words"] []
  F_qo1:Fun K "asked" "asked" xt8 A.a_qo1 A.d_qo1
  m_qo1:mg "asked" = some (.ref A.a_qo1)
  b_qo1:Binds K A.d_qo1 ["words","marks"] []
  F_qp1:Fun K "_law_cell" "_law_cell" xt7 A.a_qp1 A.d_qp1
  m_qp1:mg "_law_cell" = some (.ref A.a_qp1)
  b_qp1:Binds K A.d_qp1 ["script","k"] []
  F_qq1:Fun K "_law_lowest" "_law_lowest" xt6 A.a_qq1 A.d_qq1
  m_qq1:mg "_law_lowest" = some (.ref A.a_qq1)
  b_qq1:Binds K A.d_qq1 ["top","bottom"] []
  F_qr1:Fun K "_law_less" "_law_less" xt5 A.a_qr1 A.d_qr1
  m_qr1:mg "_law_less" = some (.ref A.a_qr1)
  b_qr1:Binds K A.d_qr1 ["one","other"] []
  F_qs1:Fun K "_law_joined" "_law_joined" xt4 A.a_qs1 A.d_qs1
  m_qs1:mg "_law_joined" = some (.ref A.a_qs1)
  b_qs1:Binds K A.d_qs1 ["kind","one","other"] []
  F_qt1:Fun K "_law_missed" "_law_missed" xt3 A.a_qt1 A.d_qt1
  m_qt1:mg "_law_missed" = some (.ref A.a_qt1)
  b_qt1:Binds K A.d_qt1 ["kind","some","row"] []
  F_qu1:Fun K "_law_number" "_law_number" xt2 A.a_qu1 A.d_qu1
  m_qu1:mg "_law_number" = some (.ref A.a_qu1)
  b_qu1:Binds K A.d_qu1 ["word"] []
  F_qv1:Fun K "_law_read" "_law_read" xt1 A.a_qv1 A.d_qv1
  m_qv1:mg "_law_read" = some (.ref A.a_qv1)
  b_qv1:Binds K A.d_qv1 ["word"] []
  F_qw1:Fun K "_law_lists" "_law_lists" xt0 A.a_qw1 A.d_qw1
  m_qw1:mg "_law_lists" = some (.ref A.a_qw1)
  b_qw1:Binds K A.d_qw1 ["answer"] []
  F_qx1:Fun K "_law_written" "_law_written" xs9 A.a_qx1 A.d_qx1
  m_qx1:mg "_law_written" = some (.ref A.a_qx1)
  b_qx1:Binds K A.d_qx1 ["x"] []
  F_qy1:Fun K "_law_word" "_law_word" xs8 A.a_qy1 A.d_qy1
  m_qy1:mg "_law_word" = some (.ref A.a_qy1)
  b_qy1:Binds K A.d_qy1 ["mark"] []
  F_qz1:Fun K "_law_some" "_law_some" xs7 A.a_qz1 A.d_qz1
  m_qz1:mg "_law_some" = some (.ref A.a_qz1)
  b_qz1:Binds K A.d_qz1 ["script","start","most"] []
  F_qa2:Fun K "_law_steps" "_law_steps" xw0 A.a_qa2 A.d_qa2
  m_qa2:mg "_law_steps" = some (.ref A.a_qa2)
  b_qa2:Binds K A.d_qa2 ["row"] []
  F_qb2:Fun K "_law_half" "_law_half" xv8 A.a_qb2 A.d_qb2
  m_qb2:mg "_law_half" = some (.ref A.a_qb2)
  b_qb2:Binds K A.d_qb2 ["one","other"] []
  F_qc2:Fun K "_law_height" "_law_height" xv6 A.a_qc2 A.d_qc2
  m_qc2:mg "_law_height" = some (.ref A.a_qc2)
  b_qc2:Binds K A.d_qc2 ["number","some"] []
  F_qd2:Fun K "_law_other" "_law_other" xv4 A.a_qd2 A.d_qd2
  m_qd2:mg "_law_other" = some (.ref A.a_qd2)
  b_qd2:Binds K A.d_qd2 ["cell","some","k"] []
  F_qe2:Fun K "__init__" "Desk.__init__" xv2 A.a_qe2 A.d_qe2
  M_qe2:Meth K A.c_Desk "__init__" A.a_qe2
  b_qe2:Binds K A.d_qe2 ["self"] []
  F_qf2:Fun K "say" "Desk.say" xv0 A.a_qf2 A.d_qf2
  M_qf2:Meth K A.c_Desk "say" A.a_qf2
  b_qf2:Binds K A.d_qf2 ["self","row"] []
  F_qg2:Fun K "lay" "Desk.lay" xu8 A.a_qg2 A.d_qg2
  M_qg2:Meth K A.c_Desk "lay" A.a_qg2
  b_qg2:Binds K A.d_qg2 ["self","name","words"] []
  F_qh2:Fun K "marks_by" "Desk.marks_by" xu6 A.a_qh2 A.d_qh2
  M_qh2:Meth K A.c_Desk "marks_by" A.a_qh2
  b_qh2:Binds K A.d_qh2 ["self","name"] []
  F_qi2:Fun K "law" "law" xu4 A.a_qi2 A.d_qi2
  m_qi2:mg "law" = some (.ref A.a_qi2)
  b_qi2:Binds K A.d_qi2 ["script"] []
  x_MissError:ExcCl K mg "MissError" A.x_MissError
  x_NoNumber:ExcCl K mg "NoNumber" A.x_NoNumber
  x_NoMarks:ExcCl K mg "NoMarks" A.x_NoMarks
  x_NoKind:ExcCl K mg "NoKind" A.x_NoKind
  x_NoBend:ExcCl K mg "NoBend" A.x_NoBend
  x_NoAnswer:ExcCl K mg "NoAnswer" A.x_NoAnswer
  x_NoText:ExcCl K mg "NoText" A.x_NoText
  x_NoName:ExcCl K mg "NoName" A.x_NoName
  x_NoRow:ExcCl K mg "NoRow" A.x_NoRow
  n_abs:mg "abs" = none
  n_all:mg "all" = none
  n_enumerate:mg "enumerate" = none
  n_int:mg "int" = none
  n_isinstance:mg "isinstance" = none
  n_len:mg "len" = none
  n_max:mg "max" = none
  n_min:mg "min" = none
  n_range:mg "range" = none
  n_sorted:mg "sorted" = none
  n_str:mg "str" = none
  n_zip:mg "zip" = none
  m_Desk:mg "Desk" = some (.ref A.c_Desk)
  cl_Desk:Cls K A.c_Desk
  mk_Desk:Mk K A.c_Desk A.a_qe2
  nA_Desk:NoAttr K A.c_Desk "kept"
  c_COUNTS:mg "COUNTS" = some (.ref A.g_COUNTS)
  c_FIGURES:∃ t,mg "FIGURES" = some (.str "0123456789" t)
  c_KINDS:mg "KINDS" = some (.ref A.g_KINDS)
  k_KINDS:∀ H:Hp,DV K H (.ref A.g_KINDS) (.tuple [(.str "far"),(.str "sum"),(.str "square")])
  c_LETTERS:∃ t,mg "LETTERS" = some (.str "abcdefghijklmnopqrstuvwxyz" t)
  c_MOST_BEND:∃ t,mg "MOST_BEND" = some (.int 3 t)
  c_MOST_FIGURES:∃ t,mg "MOST_FIGURES" = some (.int 40 t)
  c_MOST_LETTERS:∃ t,mg "MOST_LETTERS" = some (.int 8 t)
  c_MOST_MARKS:∃ t,mg "MOST_MARKS" = some (.int 60 t)
  c_MOST_NUMBERS:∃ t,mg "MOST_NUMBERS" = some (.int 4 t)
  c_MOST_STEPS:∃ t,mg "MOST_STEPS" = some (.int 59 t)
  c_NOUGHT:mg "NOUGHT" = some (.ref A.g_NOUGHT)
  k_NOUGHT:∀ H:Hp,DV K H (.ref A.g_NOUGHT) (.tuple [(.int 0),(.int 1)])
noncomputable abbrev bt_abs:=PyProof.Rows.boot_abs
noncomputable abbrev bt_isinstance:=PyProof.Rows.boot_isinstance
noncomputable abbrev bt_int:=PyProof.Rows.boot_int
noncomputable abbrev bt_min:=PyProof.Rows.boot_min
noncomputable abbrev bt_max:=PyProof.Rows.boot_max
local macro_rules | `(tactic| walk_at "d") => `(tactic| (try simp only [yj6, xp5, xc8, wq0, xp4, xp9, xp6, wo9, dmIf, dmNo, xo7, xo8, dIxB, zq8, slot, put, dVar, xj7, wa9, dC, dFz, dAsL, dNil, wb0, dTup, dLst, dOp, oI, oI0, oB0, oEq, oNe, oIsN, dNeg, dIxK, nth, dMap, oIxs, oCats, oInS, oNInS, bLens, bIntS, bStr, dSlS, xp3, dAsS, dCb, bAbs, bMin, bMax, bLen, bInt, wp9, xp1, dNoP, wp8, dSl, dAsB, dAnd, dOr, dNot, wq5, dIfE, wq4, xp7, xc9, xd0, dNext, dRet, wp7, wa7, wq2, dIfS, xb0, gvNil, xb1, xz6, dAsg, wp3, xp8, zy9, xz9, dFrz, dPar, xp2, dApp, wp6, wp5, wp4, capD, dYes, dIsi, isD, tyD, dCat, wa8, dIxL, dZip, wq1, dIns, wq3, dRep, d2, xd2, xd1, yy8, bAll, dNoS, yt7, ownS, anyS, yj1, zi4, Bool.and_true, Bool.true_and, Bool.and_self, Bool.not_true, Bool.not_false, true_and, and_true, decide_eq_true_eq, Bool.not_eq_true', decide_eq_false_iff_not, if_true, if_false, ite_true, ite_false, Bool.false_eq_true, Bool.true_eq_false, not_true_eq_false, not_false_eq_true, reduceCtorEq, List.length_cons, List.length_nil, List.length_map]))
local macro_rules | `(tactic| walk_at "s") => `(tactic| (walk_at "d"; refine zj6 ?_; walk_at "d"))
theorem ys4:bootBuiltins "str" = some (.type "str"):=by decide +kernel
noncomputable abbrev fr (q:Rat):PyData:=.tuple [.int q.num,.int (q.den:Int)]
theorem yt9 {g:Nat} {b:Int} (h:g ≤ b.natAbs) (hb:Wee b):Wee (g:Int):=by
  unfold Wee at *
  omega
theorem yt8 {b:Int} (hb:Wee b):Wee (-b):=by
  unfold Wee at *
  omega
theorem cpow {i j:Int} (h:decide (0 ≤ j ∧ j ≤ 1000000 ∧ i.natAbs < 2 ^ 64) = true):CPow i j:=(of_decide_eq_true h:0 ≤ j ∧ j ≤ 1000000 ∧ i.natAbs < 2 ^ 64)
theorem wee {i:Int} (h:decide (i.natAbs < 2 ^ 8000) = true):Wee i:=(of_decide_eq_true h:i.natAbs < 2 ^ 8000)
theorem zr1 {i:Int} {n:Nat} (h:i.natAbs ≤ n) (hn:decide (n < 2 ^ 8000) = true):Wee i:=Nat.lt_of_le_of_lt h (of_decide_eq_true hn)
theorem cdiv {i j:Int} (h:decide (0 < j ∧ j.natAbs < 2 ^ 8000) = true):xk6 i j:=(of_decide_eq_true h:0 < j ∧ j.natAbs < 2 ^ 8000)
structure Ok (q:Rat):Prop where
  n:Wee q.num
  d:Wee (q.den:Int)
theorem zn0 {g b:Nat} (h:g ≤ b) (hb:Wee (b:Int)):Wee (g:Int):=by
  unfold Wee at *
  omega
theorem dpos (q:Rat):(0:Int) < (q.den:Int):=by have:=q.den_nz; omega
theorem okS {q:Rat} {N:Nat} (h:Fm.Sz N q) (hN:decide (N < 2 ^ 8000) = true):Ok q:=⟨zr1 h.n hN,zr1 (n:=N) (by have:=h.d; omega) hN⟩
theorem wa0 (q:Rat):yj1 (fr q) = true:=rfl
theorem zm6:∀ qs:List Rat,zi4 (qs.map fr) = true
  | []=>rfl
  | q :: qs=>by
    have:=zm6 qs
    simp only [List.map_cons,zi4,wa0,this,Bool.and_self]
section
variable {P:Program} {w:World} {K:PySem.W.Frag} {mg:Str → Option Value} {base:Heap} {A:Adr}
noncomputable def wGcd:DW:=fun ds Q _=>∃ a b:Int,ds = [.int a,.int b] ∧ 0 ≤ a ∧ 0 ≤ b ∧ Q (.dat (.int ((Int.gcd a b:Nat):Int)))
theorem wl5 (T:Txt K mg A):FnOk P w K mg base (CXE P w) 1 A.a_qa A.d_qa ["one","other"] (spW K wGcd):=by
  refine okW T.F_qa sc_qa (fun ds Q E h=>?_) (fun cdv Ar outer s H E hr=>?_)
  · obtain ⟨a,b,rfl,_⟩:=h; rfl
  refine ⟨_,(za5 (zv0 PassesOwn.leaving (zb9 yh5 (pv 1) za6 (zc9 _)) (za5 (zc1 (i:=2) sc_qa.nd rfl (Or.inl rfl) (zc4 zi3 (pv 0) (pv 1)))
      (za5 (zc1 (i:=0) sc_qa.nd rfl (Or.inl rfl) (pv 1))
      (za8 (zc1 (i:=1) sc_qa.nd rfl (Or.inl rfl) (pv 2))))))
      (za8 (zc5 (pv 0)))),_,(zb2 (zu6 (zc0 (za1 (zb6 yl3 (za3 1) (za1 zb3)))) (zb2 (zd2 (zb6 ro_i (za3 0) (za3 1)) (zb0 2))
      (zb2 (zd2 (zb5 1) (zb0 0))
      (zd2 (zb5 2) (zb0 1)))))
      (zi7 0)),?_⟩
  rintro ds Q X ⟨a,b,rfl,ha,hb,k⟩
  walk_at "s"
  refine ⟨fun m δ=>∃ x y r,δ = [some (.dat (.int x)),some (.dat (.int y)),r] ∧ m = y.toNat ∧ 0 ≤ x ∧ 0 ≤ y ∧ Int.gcd x y = Int.gcd a b,⟨_,a,b,none,rfl,rfl,ha,hb,rfl⟩,?_⟩
  rintro m δ ⟨x,y,r,rfl,rfl,hx,hy,hg⟩
  walk_at "d"
  refine ite2 (fun c=>?_) (fun c=>?_)
  · have hy0:y ≠ 0:=c
    have hp:0 < y:=by omega
    walk_at "s"
    refine ⟨hp,?_⟩
    walk_at "s"
    walk_at "d"
    refine ⟨_,?_,y,x % y,_,rfl,rfl,hy,Int.emod_nonneg _ hy0,?_⟩
    · have:=Int.emod_lt_of_pos x hp
      have:=Int.emod_nonneg x hy0
      omega
    · rw [Fm.gcd_step x y hp,hg]
  · have hy0:y = 0:=Decidable.not_not.mp c
    subst hy0
    rw [← hg,Fm.gcd_zero hx] at k
    exact k
noncomputable def yu2 (C:Addr):DW:=fun ds Q X=>∃ t b:Int,ds = [.int t,.int b] ∧ Wee b ∧ (b = 0 → X C) ∧ (b ≠ 0 → Q (.dat (fr (Rat.divInt t b))))
theorem xx5 (T:Txt K mg A):FnOk P w K mg base (CXE P w) 2 A.a_qb A.d_qb ["top","bottom"] (spW K (yu2 A.x_NoNumber)):=by
  have G_qa:=wl5 (P:=P) (w:=w) (base:=base) T
  refine okW T.F_qb sc_qb (fun ds Q E h=>?_) (fun cdv Ar outer s H E hr=>?_)
  · obtain ⟨a,b,rfl,_⟩:=h; rfl
  refine ⟨_,(za5 (ze6 (zb9 zh0 (pv 1) za6 (zc9 _)) (za8 (zf8 T.x_NoNumber hr.hd ze2 rfl (za0 zd0 za4))) zc6)
      (za5 (zc1 (i:=2) sc_qb.nd rfl (Or.inl rfl) (za9 G_qa (hr.mono (by decide)) rfl T.m_qa T.F_qa.kp T.b_qa .nil zb7 (za0 (zc7 zq6 rfl T.n_abs bt_abs (za0 (pv 0) za4)) (za0 (zc7 zq6 rfl T.n_abs bt_abs (za0 (pv 1) za4)) za4))))
      (za5 (ze6 (zb9 zu3 (pv 1) za6 (zc9 _)) (za8 (zc1 (i:=2) sc_qb.nd rfl (Or.inl rfl) (wi2 xk8 (pv 2)))) zc6)
      (za8 (zc5 (zh6 (za0 (zc4 yq3 (pv 0) (pv 2)) (za0 (zc4 yq3 (pv 1) (pv 2)) za4)))))))),_,(zb2 (ze9 (zc0 (za1 (zb6 zg9 (za3 1) (za1 zb3)))) (zf6 (zb8 zd1 zd7) (by decide)) zc8)
      (zb2 (zd2 (zb1 (za2 (za1 (ze8 zz9 (za2 (za3 0) za7))) (za2 (za1 (ze8 zz9 (za2 (za3 1) za7))) za7))) (zb0 2))
      (yp1 (ze9 (zc0 (za1 (zb6 zl7 (za3 1) (za1 zb3)))) (zd2 (xo5 (za3 2)) (zb0 2)) zc8)
      (zd6 (za1 (zh8 (zb8 (zb6 ro_i (za3 0) (za3 2)) (zb8 (zb6 ro_i (za3 1) (za3 2)) zd7)) (by decide))))))),?_⟩
  rintro ds Q X ⟨t,b,rfl,hw,k0,k1⟩
  walk_at "s"
  refine ite2 (fun c=>?_) (fun c=>?_)
  · exact k0 c
  have hb:b ≠ 0:=c
  have kq:=k1 hb
  walk_at "s"
  refine ⟨_,_,rfl,by rw [Fm.abs_if]; omega,by rw [Fm.abs_if]; omega,?_⟩
  have eg:Int.gcd (if t < 0 then -t else t) (if b < 0 then -b else b) = Int.gcd t b:=by
    rw [Fm.abs_if,Fm.abs_if]
    simp [Int.gcd]
  rw [eg]
  walk_at "d"
  refine ?_
  have h1:=Fm.gcd_pos_right (a:=t) hb
  have h2:=yt9 (Fm.gcd_le_right (a:=t) hb) hw
  refine yr8 (fun δ=>δ = [some (.dat (.int t)),some (.dat (.int b)),some (.dat (.int (if b < 0 then -((Int.gcd t b:Nat):Int) else ((Int.gcd t b:Nat):Int))))]) ?_ ?_
  · walk_at "d"
    refine ite2 (fun c2=>?_) (fun c2=>?_)
    · rw [if_pos c2]
    · rw [if_neg c2]
  · rintro δ rfl
    walk_at "d"
    have hg:(if b < 0 then -((Int.gcd t b:Nat):Int) else ((Int.gcd t b:Nat):Int)) ≠ 0:=by split <;> omega
    have hg2:Wee (if b < 0 then -((Int.gcd t b:Nat):Int) else ((Int.gcd t b:Nat):Int)):=by
      split
      · exact yt8 h2
      · exact h2
    refine ⟨⟨hg,hg2⟩,⟨hg,hg2⟩,?_⟩
    rw [Fm.fr_num hb,Fm.fr_den hb]
    exact kq
end
noncomputable def wTwo (f:Rat → Rat → Rat):DW:=fun ds Q _=>∃ a b:Rat,ds = [fr a,fr b] ∧ Ok a ∧ Ok b ∧ Q (.dat (fr (f a b)))
section
variable {P:Program} {w:World} {K:PySem.W.Frag} {mg:Str → Option Value} {base:Heap} {A:Adr}
theorem yy2 (T:Txt K mg A):FnOk P w K mg base (CXE P w) 2 A.a_qc A.d_qc ["one","other"] (spW K (wTwo (· + ·))):=by
  have G_qa:=wl5 (P:=P) (w:=w) (base:=base) T
  refine okW T.F_qc sc_qc (fun ds Q E h=>?_) (fun cdv Ar outer s H E hr=>?_)
  · obtain ⟨a,b,rfl,_⟩:=h; rfl
  refine ⟨_,(za5 (zc1 (i:=2) sc_qc.nd rfl (Or.inl rfl) (za9 G_qa (hr.mono (by decide)) rfl T.m_qa T.F_qa.kp T.b_qa .nil zb7 (za0 (zc2 (ixtK (K:=K) rfl) (pv 0) za6 (fun _ _=>rfl)) (za0 (zc2 (ixtK (K:=K) rfl) (pv 1) za6 (fun _ _=>rfl)) za4))))
      (za5 (zc1 (i:=3) sc_qc.nd rfl (Or.inl rfl) (zc4 zg2 (zc2 (ixtK (K:=K) rfl) (pv 0) za6 (fun _ _=>rfl)) (pv 2)))
      (za5 (zc1 (i:=4) sc_qc.nd rfl (Or.inl rfl) (zc4 zg8 (zc4 ze4 (zc2 (ixtK (K:=K) rfl) (pv 0) za6 (fun _ _=>rfl)) (zc4 zg2 (zc2 (ixtK (K:=K) rfl) (pv 1) za6 (fun _ _=>rfl)) (pv 2))) (zc4 ze4 (zc2 (ixtK (K:=K) rfl) (pv 1) za6 (fun _ _=>rfl)) (pv 3))))
      (za5 (zc1 (i:=5) sc_qc.nd rfl (Or.inl rfl) (za9 G_qa (hr.mono (by decide)) rfl T.m_qa T.F_qa.kp T.b_qa .nil zb7 (za0 (pv 2) (za0 (zc7 zq6 rfl T.n_abs bt_abs (za0 (pv 4) za4)) za4))))
      (za8 (zc5 (zh6 (za0 (zc4 zg2 (pv 4) (pv 5)) (za0 (zc4 ze4 (pv 3) (zc4 zg2 (zc2 (ixtK (K:=K) rfl) (pv 1) za6 (fun _ _=>rfl)) (pv 5))) za4))))))))),_,(zb2 (zd2 (zb1 (za2 (za1 (zc3 1 (zb5 0))) (za2 (za1 (zc3 1 (zb5 1))) za7))) (zb0 2))
      (zb2 (zd2 (zb6 ro_i (za1 (zc3 1 (zb5 0))) (za3 2)) (zb0 3))
      (zb2 (zd2 (zb6 zh5 (za1 (zb6 ro_i (za1 (zc3 0 (zb5 0))) (za1 (zb6 ro_i (za1 (zc3 1 (zb5 1))) (za3 2))))) (za1 (zb6 ro_i (za1 (zc3 0 (zb5 1))) (za3 3)))) (zb0 4))
      (zb2 (zd2 (zb1 (za2 (za3 2) (za2 (za1 (ze8 zz9 (za2 (za3 4) za7))) za7))) (zb0 5))
      (zd6 (za1 (zh8 (zb8 (zb6 ro_i (za3 4) (za3 5)) (zb8 (zb6 ro_i (za3 3) (za1 (zb6 ro_i (za1 (zc3 1 (zb5 1))) (za3 5)))) zd7)) (by decide)))))))),?_⟩
  rintro ds Q X ⟨a,b,rfl,oa,ob,k⟩
  have s0:0 < a.den.gcd b.den:=Nat.gcd_pos_of_pos_left _ (Nat.pos_of_ne_zero a.den_nz)
  have sw:Wee ((a.den.gcd b.den:Nat):Int):=zn0 (Nat.le_of_dvd (Nat.pos_of_ne_zero a.den_nz) (Nat.gcd_dvd_left _ _)) oa.d
  walk_at "s"
  refine ⟨_,_,rfl,by omega,by omega,?_⟩
  rw [Int.gcd_natCast_natCast]
  generalize hs:a.den.gcd b.den = sh at s0 sw ⊢
  walk_at "d"
  refine ?_
  walk_at "s"
  refine ⟨⟨by omega,sw⟩,?_⟩
  rw [← Int.natCast_ediv]
  walk_at "s"
  refine ⟨⟨by omega,sw⟩,?_⟩
  rw [← Int.natCast_ediv]
  refine ⟨zh9 oa.n (zn0 (Nat.div_le_self _ _) ob.d),zh9 ob.n (zn0 (Nat.div_le_self _ _) oa.d),?_⟩
  generalize ht:a.num * ((b.den / sh:Nat):Int) + b.num * ((a.den / sh:Nat):Int) = tp
  walk_at "s"
  refine ⟨_,_,rfl,by omega,by rw [Fm.abs_if]; omega,?_⟩
  rw [Fm.abs_if,Int.gcd_natCast_natCast]
  generalize hg:sh.gcd tp.natAbs = g
  have g0:0 < g:=by rw [← hg]; exact Nat.gcd_pos_of_pos_left _ s0
  have gw:Wee (g:Int):=zn0 (by rw [← hg]; exact Nat.le_of_dvd s0 (Nat.gcd_dvd_left _ _)) sw
  walk_at "d"
  refine ?_
  obtain ⟨e1,e2⟩:=Fm.add_parts a b sh hs.symm tp ht.symm g hg.symm
  walk_at "d"
  refine ⟨⟨by omega,gw⟩,⟨by omega,gw⟩,zh9 (zn0 (Nat.div_le_self _ _) oa.d) (by rw [← Int.natCast_ediv]; exact zn0 (Nat.div_le_self _ _) ob.d),?_⟩
  rw [← Int.natCast_ediv,← Int.natCast_mul,← e1,← e2]
  exact k
theorem wv9 (T:Txt K mg A):FnOk P w K mg base (CXE P w) 3 A.a_qd A.d_qd ["one","other"] (spW K (wTwo (· - ·))):=by
  have G_qc:=yy2 (P:=P) (w:=w) (base:=base) T
  refine okW T.F_qd wu4 (fun ds Q E h=>?_) (fun cdv Ar outer s H E hr=>?_)
  · obtain ⟨a,b,rfl,_⟩:=h; rfl
  refine ⟨_,(za8 (zc5 (za9 G_qc (hr.mono (by decide)) rfl T.m_qc T.F_qc.kp T.b_qc .nil zb7 (za0 (pv 0) (za0 (zh6 (za0 (wi2 xk8 (zc2 (ixtK (K:=K) rfl) (pv 1) za6 (fun _ _=>rfl))) (za0 (zc2 (ixtK (K:=K) rfl) (pv 1) za6 (fun _ _=>rfl)) za4))) za4))))),_,(zd6 (za1 (zb1 (za2 (za3 0) (za2 (za1 (zh8 (zb8 (xo5 (za1 (zc3 0 (zb5 1)))) (zb8 (zc3 1 (zb5 1)) zd7)) (by decide))) za7))))),?_⟩
  rintro ds Q X ⟨a,b,rfl,oa,ob,k⟩
  walk_at "d"
  refine ⟨a,-b,rfl,oa,⟨yt8 ob.n,ob.d⟩,rfl,?_⟩
  dsimp only
  rw [← Rat.sub_eq_add_neg]
  exact k
theorem xh1 (T:Txt K mg A):FnOk P w K mg base (CXE P w) 3 A.a_qe A.d_qe ["one","other"] (spW K (wTwo (· * ·))):=by
  have G_qb:=xx5 (P:=P) (w:=w) (base:=base) T
  refine okW T.F_qe sc_qe (fun ds Q E h=>?_) (fun cdv Ar outer s H E hr=>?_)
  · obtain ⟨a,b,rfl,_⟩:=h; rfl
  refine ⟨_,(za5 (zc1 (i:=2) sc_qe.nd rfl (Or.inl rfl) (za9 G_qb (hr.mono (by decide)) rfl T.m_qb T.F_qb.kp T.b_qb .nil zb7 (za0 (zc2 (ixtK (K:=K) rfl) (pv 0) za6 (fun _ _=>rfl)) (za0 (zc2 (ixtK (K:=K) rfl) (pv 1) za6 (fun _ _=>rfl)) za4))))
      (za5 (zc1 (i:=3) sc_qe.nd rfl (Or.inl rfl) (za9 G_qb (hr.mono (by decide)) rfl T.m_qb T.F_qb.kp T.b_qb .nil zb7 (za0 (zc2 (ixtK (K:=K) rfl) (pv 1) za6 (fun _ _=>rfl)) (za0 (zc2 (ixtK (K:=K) rfl) (pv 0) za6 (fun _ _=>rfl)) za4))))
      (za8 (zc5 (zh6 (za0 (zc4 ze4 (zc2 (ixtK (K:=K) rfl) (pv 2) za6 (fun _ _=>rfl)) (zc2 (ixtK (K:=K) rfl) (pv 3) za6 (fun _ _=>rfl))) (za0 (zc4 ze4 (zc2 (ixtK (K:=K) rfl) (pv 2) za6 (fun _ _=>rfl)) (zc2 (ixtK (K:=K) rfl) (pv 3) za6 (fun _ _=>rfl))) za4))))))),_,(zb2 (zd2 (zb1 (za2 (za1 (zc3 0 (zb5 0))) (za2 (za1 (zc3 1 (zb5 1))) za7))) (zb0 2))
      (zb2 (zd2 (zb1 (za2 (za1 (zc3 0 (zb5 1))) (za2 (za1 (zc3 1 (zb5 0))) za7))) (zb0 3))
      (zd6 (za1 (zh8 (zb8 (zb6 ro_i (za1 (zc3 0 (zb5 2))) (za1 (zc3 0 (zb5 3)))) (zb8 (zb6 ro_i (za1 (zc3 1 (zb5 2))) (za1 (zc3 1 (zb5 3)))) zd7)) (by decide)))))),?_⟩
  rintro ds Q X ⟨a,b,rfl,oa,ob,k⟩
  have z1:((b.den:Nat):Int) ≠ 0:=by have:=b.den_nz; omega
  have z2:((a.den:Nat):Int) ≠ 0:=by have:=a.den_nz; omega
  obtain ⟨e1,e2⟩:=Fm.mul_parts a b
  walk_at "s"
  refine ⟨_,_,rfl,ob.d,fun z=>absurd z z1,fun _=>?_⟩
  walk_at "s"
  refine ⟨_,_,rfl,oa.d,fun z=>absurd z z2,fun _=>?_⟩
  have n1:=Fm.num_le a.num z1
  have n2:=Fm.den_le a.num z1
  have n3:=Fm.num_le b.num z2
  have n4:=Fm.den_le b.num z2
  have w1:=oa.n; have w2:=oa.d; have w3:=ob.n; have w4:=ob.d
  walk_at "d"
  refine ⟨zh9 (by unfold Wee at *; omega) (by unfold Wee at *; omega),zh9 (by unfold Wee at *; omega) (by unfold Wee at *; omega),?_⟩
  rw [← Int.natCast_mul,← e1,← e2]
  exact k
noncomputable def ws4:DW:=fun ds Q _=>∃ a b:Rat,ds = [fr a,fr b] ∧ Ok a ∧ Ok b ∧ Q (.dat (.bool (decide (a < b))))
theorem yy0 (T:Txt K mg A):FnOk P w K mg base (CXE P w) 1 A.a_qg A.d_qg ["one","other"] (spW K ws4):=by
  refine okW T.F_qg wg8 (fun ds Q E h=>?_) (fun cdv Ar outer s H E hr=>?_)
  · obtain ⟨a,b,rfl,_⟩:=h; rfl
  refine ⟨_,(za8 (zc5 (zp5 zu3 (zc4 ze4 (zc2 (ixtK (K:=K) rfl) (pv 0) za6 (fun _ _=>rfl)) (zc2 (ixtK (K:=K) rfl) (pv 1) za6 (fun _ _=>rfl))) (zc4 ze4 (zc2 (ixtK (K:=K) rfl) (pv 1) za6 (fun _ _=>rfl)) (zc2 (ixtK (K:=K) rfl) (pv 0) za6 (fun _ _=>rfl))) (zc9 _)))),_,(zd6 (za1 (zb6 zl7 (za1 (zb6 ro_i (za1 (zc3 0 (zb5 0))) (za1 (zc3 1 (zb5 1))))) (za1 (zb6 ro_i (za1 (zc3 0 (zb5 1))) (za1 (zc3 1 (zb5 0)))))))),?_⟩
  rintro ds Q X ⟨a,b,rfl,oa,ob,k⟩
  walk_at "d"
  refine ⟨zh9 oa.n ob.d,zh9 ob.n oa.d,?_⟩
  have e:decide (a.num * (b.den:Int) < b.num * (a.den:Int)) = decide (a < b):=by
    rw [decide_eq_decide]; exact Fm.less_iff a b
  rw [e]
  exact k
noncomputable def ws0 (C:Addr):DW:=fun ds Q X=>∃ a b:Rat,ds = [fr a,fr b] ∧ Ok a ∧ Ok b ∧ (b = 0 → X C) ∧ (b ≠ 0 → Q (.dat (fr (a / b))))
theorem wv8 (T:Txt K mg A):FnOk P w K mg base (CXE P w) 4 A.a_qf A.d_qf ["one","other"] (spW K (ws0 A.x_NoNumber)):=by
  have G_qb:=xx5 (P:=P) (w:=w) (base:=base) T
  have G_qe:=xh1 (P:=P) (w:=w) (base:=base) T
  refine okW T.F_qf wu3 (fun ds Q E h=>?_) (fun cdv Ar outer s H E hr=>?_)
  · obtain ⟨a,b,rfl,_⟩:=h; rfl
  refine ⟨_,(za5 (ze6 (zb9 zh0 (zc2 (ixtK (K:=K) rfl) (pv 1) za6 (fun _ _=>rfl)) za6 (zc9 _)) (za8 (zf8 T.x_NoNumber hr.hd ze2 rfl (za0 zd0 za4))) zc6)
      (za8 (zc5 (za9 G_qe (hr.mono (by decide)) rfl T.m_qe T.F_qe.kp T.b_qe .nil zb7 (za0 (pv 0) (za0 (za9 G_qb (hr.mono (by decide)) rfl T.m_qb T.F_qb.kp T.b_qb .nil zb7 (za0 (zc2 (ixtK (K:=K) rfl) (pv 1) za6 (fun _ _=>rfl)) (za0 (zc2 (ixtK (K:=K) rfl) (pv 1) za6 (fun _ _=>rfl)) za4))) za4)))))),_,(zb2 (ze9 (zc0 (za1 (zb6 zg9 (za1 (zc3 0 (zb5 1))) (za1 zb3)))) (zf6 (zb8 zd1 zd7) (by decide)) zc8)
      (zd6 (za1 (zb1 (za2 (za3 0) (za2 (za1 (zb1 (za2 (za1 (zc3 1 (zb5 1))) (za2 (za1 (zc3 0 (zb5 1))) za7)))) za7)))))),?_⟩
  rintro ds Q X ⟨a,b,rfl,oa,ob,k0,k1⟩
  walk_at "s"
  refine ite2 (fun c=>?_) (fun c=>?_)
  · exact k0 (Rat.num_eq_zero.mp c)
  · have c2:b.num ≠ 0:=c
    have hb:b ≠ 0:=fun z=>c2 (by rw [z]; rfl)
    walk_at "d"
    refine ⟨_,_,rfl,ob.n,fun z=>absurd z c2,fun _=>⟨rfl,a,b⁻¹,?_,oa,?_,rfl,?_⟩⟩
    · rw [Fm.div_inv]
    · rw [← Fm.div_inv]
      have n1:=Fm.num_le (b.den:Int) c2
      have n2:=Fm.den_le (b.den:Int) c2
      have w3:=ob.n; have w4:=ob.d
      exact ⟨by unfold Wee at *; omega,by unfold Wee at *; omega⟩
    · dsimp only
      rw [← Rat.div_def]
      exact k1 hb
end
theorem wb7 {α β:Type} (f:α → β) (xs:List α) (i:Int):atI (xs.map f) i = (atI xs i).map f:=by
  unfold atI
  rw [List.length_map]
  cases ixN xs.length i with
  | none=>rfl
  | some j=>exact List.getElem?_map
theorem ww8 {α:Type} [Inhabited α] {xs:List α} {k:Int} (h0:0 ≤ k) (h1:k < (xs.length:Int)):atI xs k = some (xs.getD k.toNat default):=by
  have e:k = ((k.toNat:Nat):Int):=by omega
  have hl:k.toNat < xs.length:=by omega
  conv=>lhs; rw [e]
  refine zk9 ?_
  rw [List.getElem?_eq_getElem hl]
  simp [List.getD,hl]
theorem xe5 {α β:Type} [Inhabited α] (f:α → β) {xs:List α} {k:Int} (h0:0 ≤ k) (h1:k < (xs.length:Int)):atI (xs.map f) k = some (f (xs.getD k.toNat default)):=by
  rw [wb7,ww8 h0 h1]; rfl
theorem getD_mem' {α:Type} [Inhabited α] {xs:List α} {j:Nat} (h:j < xs.length):xs.getD j default ∈ xs:=by
  have e:xs.getD j default = xs[j]:=by simp [List.getD,h]
  rw [e]; exact List.getElem_mem h
theorem xi7 {α:Type} [Inhabited α] {xs:List α} {j:Nat} {p:α → Prop} (h:∀ v ∈ xs,p v) (h0:p default):p (xs.getD j default):=by
  by_cases hj:j < xs.length
  · exact h _ (getD_mem' hj)
  · have e:xs.getD j default = default:=by simp [List.getD,hj]
    rw [e]; exact h0
section
variable {P:Program} {w:World} {K:PySem.W.Frag} {mg:Str → Option Value} {base:Heap} {A:Adr}
noncomputable def yu1 (C:Addr):DW:=fun ds Q X=>∃ qs:List Rat,ds = [.list (qs.map fr)] ∧ (∀ q ∈ qs,Ok q) ∧ (qs = [] → X C) ∧ ∀ q ∈ qs,(∀ r ∈ qs,r ≤ q) → Q (.dat (fr q))
theorem xx3 (T:Txt K mg A):FnOk P w K mg base (CXE P w) 2 A.a_qj A.d_qj ["some"] (spW K (yu1 A.x_NoNumber)):=by
  have G_qg:=yy0 (P:=P) (w:=w) (base:=base) T
  refine okW T.F_qj sc_qj (fun ds Q E h=>?_) (fun cdv Ar outer s H E hr=>?_)
  · obtain ⟨a,rfl,_⟩:=h; rfl
  refine ⟨_,(za5 (ze6 (zb9 zh0 (zc7 (lenK (K:=K) rfl) rfl T.n_len PySem.boot_len (za0 (pv 0) za4)) za6 (zc9 _)) (za8 (zf8 T.x_NoNumber hr.hd ze2 rfl (za0 zd0 za4))) zc6)
      (za5 (zc1 (i:=1) sc_qj.nd rfl (Or.inl rfl) (zc2 (ixlK (K:=K) rfl) (pv 0) za6 (fun _ _=>rfl)))
      (za5 (zn3 PassesOwn.leaving rfl (pilK (K:=K) rfl (pv 0)) (zd5 (i:=2) sc_qj.nd rfl (Or.inl rfl))
        (za8 (ze6 (zl8 (za9 G_qg (hr.mono (by decide)) rfl T.m_qg T.F_qg.kp T.b_qg .nil zb7 (za0 (pv 1) (za0 (pv 2) za4)))) (za8 (zc1 (i:=1) sc_qj.nd rfl (Or.inl rfl) (pv 2))) zc6)))
      (za8 (zc5 (pv 1)))))),_,(zb2 (ze9 (zc0 (za1 (zb6 zg9 (za1 (ze8 zf9 (za2 (za3 0) za7))) (za1 zb3)))) (zf6 (zb8 zd1 zd7) (by decide)) zc8)
      (zb2 (zd2 (ze5 (zd3 0) (za1 zb3)) (zb0 1))
      (zb2 (zn2 (zx8 (zb5 0)) (zb0 2)
        (ze9 (tv_b (za1 (zb1 (za2 (za3 1) (za2 (za3 2) za7))))) (zd2 (zb5 2) (zb0 1)) zc8))
      (zi7 1)))),?_⟩
  rintro ds Q X ⟨qs,rfl,ho,k0,k⟩
  walk_at "s"
  rcases qs with _ | ⟨q0,qs⟩
  · rw [if_pos (by simp)]
    exact k0 rfl
  rw [if_neg (by simp; omega)]
  walk_at "s"
  refine ⟨fr q0,zk9 (j:=0) rfl,zj6 (zo0 fr (q0 :: qs) (fun Q h=>h) (fun i δ=>∃ q r,δ = [some (.dat (.list ((q0 :: qs).map fr))),some (.dat (fr q)),r] ∧ q ∈ q0 :: qs ∧ ∀ j r,j < i → (q0 :: qs)[j]? = some r → r ≤ q) ⟨q0,none,rfl,List.mem_cons_self,fun j r hj=>absurd hj (Nat.not_lt_zero _)⟩ ?_ ?_)⟩
  · rintro i q1 δ hi ⟨q,r,rfl,hq,hle⟩
    walk_at "d"
    refine ⟨q,q1,rfl,ho q hq,ho q1 (List.mem_of_getElem? hi),?_⟩
    walk_at "d"
    have up:∀ z,q ≤ z → q1 ≤ z → ∀ j r,j < i + 1 → (q0 :: qs)[j]? = some r → r ≤ z:=fun z h1 h2 j r hj e=>by
      by_cases hji:j = i
      · subst hji
        rw [hi] at e
        cases e
        exact h2
      · exact Rat.le_trans (hle j r (by omega) e) h1
    refine ite2 (fun c=>?_) (fun c=>?_)
    · exact ⟨q1,_,rfl,List.mem_of_getElem? hi,up q1 (by grind) Rat.le_refl⟩
    · exact ⟨q,_,rfl,hq,up q Rat.le_refl (Rat.not_lt.mp c)⟩
  · rintro δ ⟨q,r,rfl,hq,hle⟩
    walk_at "d"
    refine k q hq fun r hr'=>?_
    obtain ⟨j,hj⟩:=List.getElem?_of_mem hr'
    exact hle j r (List.getElem?_eq_some_iff.mp hj).1 hj
noncomputable def wd1 (C:Addr):DW:=fun ds Q X=>∃ qs:List Rat,ds = [.list (qs.map fr)] ∧ (∀ q ∈ qs,Ok q) ∧ (qs = [] → X C) ∧ ∀ q ∈ qs,(∀ r ∈ qs,q ≤ r) → Q (.dat (fr q))
theorem wv6 (T:Txt K mg A):FnOk P w K mg base (CXE P w) 2 A.a_qk A.d_qk ["some"] (spW K (wd1 A.x_NoNumber)):=by
  have G_qg:=yy0 (P:=P) (w:=w) (base:=base) T
  refine okW T.F_qk sc_qk (fun ds Q E h=>?_) (fun cdv Ar outer s H E hr=>?_)
  · obtain ⟨a,rfl,_⟩:=h; rfl
  refine ⟨_,(za5 (ze6 (zb9 zh0 (zc7 (lenK (K:=K) rfl) rfl T.n_len PySem.boot_len (za0 (pv 0) za4)) za6 (zc9 _)) (za8 (zf8 T.x_NoNumber hr.hd ze2 rfl (za0 zd0 za4))) zc6)
      (za5 (zc1 (i:=1) sc_qk.nd rfl (Or.inl rfl) (zc2 (ixlK (K:=K) rfl) (pv 0) za6 (fun _ _=>rfl)))
      (za5 (zn3 PassesOwn.leaving rfl (pilK (K:=K) rfl (pv 0)) (zd5 (i:=2) sc_qk.nd rfl (Or.inl rfl))
        (za8 (ze6 (zl8 (za9 G_qg (hr.mono (by decide)) rfl T.m_qg T.F_qg.kp T.b_qg .nil zb7 (za0 (pv 2) (za0 (pv 1) za4)))) (za8 (zc1 (i:=1) sc_qk.nd rfl (Or.inl rfl) (pv 2))) zc6)))
      (za8 (zc5 (pv 1)))))),_,(zb2 (ze9 (zc0 (za1 (zb6 zg9 (za1 (ze8 zf9 (za2 (za3 0) za7))) (za1 zb3)))) (zf6 (zb8 zd1 zd7) (by decide)) zc8)
      (zb2 (zd2 (ze5 (zd3 0) (za1 zb3)) (zb0 1))
      (zb2 (zn2 (zx8 (zb5 0)) (zb0 2)
        (ze9 (tv_b (za1 (zb1 (za2 (za3 2) (za2 (za3 1) za7))))) (zd2 (zb5 2) (zb0 1)) zc8))
      (zi7 1)))),?_⟩
  rintro ds Q X ⟨qs,rfl,ho,k0,k⟩
  walk_at "s"
  rcases qs with _ | ⟨q0,qs⟩
  · rw [if_pos (by simp)]
    exact k0 rfl
  rw [if_neg (by simp; omega)]
  walk_at "s"
  refine ⟨fr q0,zk9 (j:=0) rfl,zj6 (zo0 fr (q0 :: qs) (fun Q h=>h) (fun i δ=>∃ q r,δ = [some (.dat (.list ((q0 :: qs).map fr))),some (.dat (fr q)),r] ∧ q ∈ q0 :: qs ∧ ∀ j r,j < i → (q0 :: qs)[j]? = some r → q ≤ r) ⟨q0,none,rfl,List.mem_cons_self,fun j r hj=>absurd hj (Nat.not_lt_zero _)⟩ ?_ ?_)⟩
  · rintro i q1 δ hi ⟨q,r,rfl,hq,hle⟩
    walk_at "d"
    refine ⟨q1,q,rfl,ho q1 (List.mem_of_getElem? hi),ho q hq,?_⟩
    walk_at "d"
    have up:∀ z,z ≤ q → z ≤ q1 → ∀ j r,j < i + 1 → (q0 :: qs)[j]? = some r → z ≤ r:=fun z h1 h2 j r hj e=>by
      by_cases hji:j = i
      · subst hji
        rw [hi] at e
        cases e
        exact h2
      · exact Rat.le_trans h1 (hle j r (by omega) e)
    refine ite2 (fun c=>?_) (fun c=>?_)
    · exact ⟨q1,_,rfl,List.mem_of_getElem? hi,up q1 (by grind) Rat.le_refl⟩
    · exact ⟨q,_,rfl,hq,up q Rat.le_refl (Rat.not_lt.mp c)⟩
  · rintro δ ⟨q,r,rfl,hq,hle⟩
    walk_at "d"
    refine k q hq fun r hr'=>?_
    obtain ⟨j,hj⟩:=List.getElem?_of_mem hr'
    exact hle j r (List.getElem?_eq_some_iff.mp hj).1 hj
end
noncomputable def tot:List Rat → Rat
  | []=>0
  | q :: qs=>q + tot qs
theorem yb5:∀ (a b:List Rat),tot (a ++ b) = tot a + tot b
  | [],b=>by simp [tot,Rat.zero_add]
  | q :: a,b=>by
    show q + tot (a ++ b) = q + tot a + tot b
    rw [yb5 a b,Rat.add_assoc]
theorem xf6 (qs:List Rat) (q:Rat):tot (qs ++ [q]) = tot qs + q:=by
  rw [yb5]
  simp [tot,Rat.add_zero]
theorem zn1 {α:Type} {xs:List α} {i:Nat} {x:α} (h:xs[i]? = some x):xs.take (i + 1) = xs.take i ++ [x]:=by
  rw [List.take_add_one,h]; rfl
section
variable {P:Program} {w:World} {K:PySem.W.Frag} {mg:Str → Option Value} {base:Heap} {A:Adr}
noncomputable def wc3:DW:=fun ds Q _=>∃ qs:List Rat,ds = [.list (qs.map fr)] ∧ (∀ q ∈ qs,Ok q) ∧ (∀ i,Ok (tot (qs.take i))) ∧ Q (.dat (fr (tot qs)))
theorem xx4 (T:Txt K mg A):FnOk P w K mg base (CXE P w) 3 A.a_qi A.d_qi ["some"] (spW K wc3):=by
  have G_qc:=yy2 (P:=P) (w:=w) (base:=base) T
  refine okW T.F_qi sc_qi (fun ds Q E h=>?_) (fun cdv Ar outer s H E hr=>?_)
  · obtain ⟨a,rfl,_⟩:=h; rfl
  refine ⟨_,(za5 (zc1 (i:=1) sc_qi.nd rfl (Or.inl rfl) (zm8 rfl T.c_NOUGHT (show RelV (.ref _) (.ref _) from rfl)))
      (za5 (zn3 PassesOwn.leaving rfl (pilK (K:=K) rfl (pv 0)) (zd5 (i:=2) sc_qi.nd rfl (Or.inl rfl))
        (za8 (zc1 (i:=1) sc_qi.nd rfl (Or.inl rfl) (za9 G_qc (hr.mono (by decide)) rfl T.m_qc T.F_qc.kp T.b_qc .nil zb7 (za0 (pv 1) (za0 (pv 2) za4))))))
      (za8 (zc5 (pv 1))))),_,(zb2 (zd2 (ev_c T.k_NOUGHT) (zb0 1))
      (zb2 (zn2 (zx8 (zb5 0)) (zb0 2)
        (zd2 (zb1 (za2 (za3 1) (za2 (za3 2) za7))) (zb0 1)))
      (zi7 1))),?_⟩
  rintro ds Q X ⟨qs,rfl,ho,ht,k⟩
  walk_at "s"
  refine ?_
  refine zj6 (zo0 fr qs (fun Q h=>h) (fun i δ=>∃ r,δ = [some (.dat (.list (qs.map fr))),some (.dat (fr (tot (qs.take i)))),r]) ⟨none,rfl⟩ ?_ ?_)
  · rintro i q δ hi ⟨r,rfl⟩
    walk_at "d"
    refine ⟨_,q,rfl,ht i,ho q (List.mem_of_getElem? hi),?_⟩
    walk_at "d"
    exact ⟨_,by rw [zn1 hi,xf6]⟩
  · rintro δ ⟨r,rfl⟩
    walk_at "d"
    rw [List.take_of_length_le (Nat.le_refl _)]
    exact k
end
theorem zd4 {α β:Type} (f:α → β):∀ xs:List α,xs.flatMap (fun x=>[f x]) = xs.map f
  | []=>rfl
  | x :: xs=>by simp [zd4 f xs]
noncomputable abbrev Mk:=Rat × Rat × Int
noncomputable abbrev mk3 (m:Mk):PyData:=.tuple [fr m.1,fr m.2.1,.int m.2.2]
theorem zv2:∀ ms:List Mk,zi4 (ms.map mk3) = true
  | []=>rfl
  | m :: ms=>by
    have:=zv2 ms
    simp only [List.map_cons,zi4,yj1,this,Bool.and_self]
noncomputable def Bg (n:Nat) (v:Int):Prop:=v.natAbs < 2 ^ n
theorem Bg.bits {n:Nat} {v:Int} (h:Bg n v):Builtin.Int.intBits v ≤ n:=xd9 h
theorem Bg.of {n:Nat} {v:Int} (h:Builtin.Int.intBits v ≤ n):Bg (n + 1) v:=by
  unfold Bg
  by_cases h0:v = 0
  · subst h0; exact Nat.two_pow_pos _
  · unfold Builtin.Int.intBits at h
    rw [if_neg (by simpa using h0)] at h
    exact (Nat.log2_lt (by omega)).mp (by omega)
theorem Bg.mono {n m:Nat} {v:Int} (h:Bg n v) (l:n ≤ m):Bg m v:=Nat.lt_of_lt_of_le h (Nat.pow_le_pow_right (by decide) l)
theorem Bg.add {n:Nat} {a b:Int} (ha:Bg n a) (hb:Bg n b):Bg (n + 1) (a + b):=by
  unfold Bg at *
  rw [Nat.pow_succ]
  have:=Int.natAbs_add_le a b
  omega
theorem Bg.small {n:Nat} {a:Int} (h:a.natAbs < 2 ^ 64) (hn:64 ≤ n):Bg n a:=Nat.lt_of_lt_of_le h (Nat.pow_le_pow_right (by decide) hn)
open Fm
theorem dgOk {n:Nat} {q:Rat} (h:Dg n q) (l:n ≤ 2400):Ok q:=okS (h.mono l) (by decide +kernel)
theorem zo3 {n:Nat} {i:Int} (h:i.natAbs ≤ 10 ^ n) (l:n ≤ 2400):Wee i:=zr1 (Nat.le_trans h (xl1 l)) (by decide +kernel)
theorem zl9 {α β:Type} (f:α → PyData) (g:β → PyData):∀ (xs:List α) (ys:List β),pairD (xs.map f) (ys.map g) = (xs.zip ys).map fun p=>PyData.tuple [f p.1,g p.2]
  | [],_=>by simp [Dl.pairD]
  | x :: xs,[]=>by simp [Dl.pairD]
  | x :: xs,y :: ys=>by
    have:=zl9 f g xs ys
    simp [Dl.pairD,this]
theorem zq9 {α β γ:Type} (f:α → β → γ):∀ (xs:List α) (ys:List β),((xs.zip ys).map fun p=>f p.1 p.2) = List.zipWith f xs ys
  | [],_=>by simp
  | x :: xs,[]=>by simp
  | x :: xs,y :: ys=>by simp [zq9 f xs ys]
theorem zv9 {α β:Type} {p:α → Prop} {q:β → Prop}:∀ {xs:List α} {ys:List β},(∀ x ∈ xs,p x) → (∀ y ∈ ys,q y) → ∀ z ∈ xs.zip ys,p z.1 ∧ q z.2:=fun {xs ys} h1 h2 z hz=>by
  have:=List.of_mem_zip (a:=z.1) (b:=z.2) hz
  exact ⟨h1 _ this.1,h2 _ this.2⟩
theorem zr0 {α β γ:Type} {f:α → β → γ} {p:α → Prop} {q:β → Prop} {r:γ → Prop} {xs:List α} {ys:List β} (h1:∀ x ∈ xs,p x) (h2:∀ y ∈ ys,q y) (h:∀ x y,p x → q y → r (f x y)):∀ z ∈ List.zipWith f xs ys,r z:=fun z hz=>by
  rw [← zq9] at hz
  obtain ⟨w,hw,rfl⟩:=List.mem_map.mp hz
  have:=zv9 h1 h2 w hw
  exact h _ _ this.1 this.2
noncomputable def zk7 (ms:List Mk) (row:List Rat):List Rat:=List.zipWith (fun (m:Mk) h=>m.2.1 - h) ms row
noncomputable def zg6 (ms:List Mk) (row:List Rat):List Rat:=List.zipWith (fun (m:Mk) x=>(m.2.2:Rat) * x) ms (zk7 ms row)
noncomputable def sqR (ms:List Mk) (row:List Rat):List Rat:=List.zipWith (fun a b=>a * b) (zg6 ms row) (zk7 ms row)
noncomputable def maxR:List Rat → Rat
  | []=>0
  | x :: xs=>if maxR xs < x then x else maxR xs
theorem yd7:∀ xs:List Rat,0 ≤ maxR xs
  | []=>Rat.le_refl
  | x :: xs=>by
    have:=yd7 xs
    unfold maxR
    split
    · grind
    · exact this
theorem zt4:∀ {xs:List Rat},∀ x ∈ xs,x ≤ maxR xs
  | y :: xs,x,h=>by
    have ih:=@zt4 xs
    unfold maxR
    rcases List.mem_cons.mp h with rfl | h
    · split
      · exact Rat.le_refl
      · exact Rat.not_lt.mp ‹_›
    · have:=ih x h
      split
      · grind
      · exact this
theorem zs1:∀ {xs:List Rat},maxR xs = 0 ∨ maxR xs ∈ xs
  | []=>.inl rfl
  | x :: xs=>by
    unfold maxR
    split
    · exact .inr List.mem_cons_self
    · rcases @zs1 xs with h | h
      · exact .inl h
      · exact .inr (List.mem_cons_of_mem _ h)
theorem yd8 {xs:List Rat} {m:Rat} (h0:0 ≤ m) (h1:m = 0 ∨ m ∈ xs) (h2:∀ x ∈ xs,x ≤ m):m = maxR xs:=by
  refine Rat.le_antisymm ?_ ?_
  · rcases h1 with rfl | h1
    · exact yd7 xs
    · exact zt4 m h1
  · rcases @zs1 xs with h | h
    · rw [h]; exact h0
    · exact h2 _ h
noncomputable def meas (kd:Str) (ms:List Mk) (row:List Rat):Rat:=if kd = "far" then maxR ((zk7 ms row).map absR) else if kd = "sum" then tot ((zg6 ms row).map absR) else tot (sqR ms row)
theorem Cm.tot {L B:Nat}:∀ {qs:List Rat},(∀ q ∈ qs,Cm L B q) → Cm L (qs.length * B) (tot qs)
  | [],_=>Cm.zero
  | q :: qs,h=>by
    have h1:=h q List.mem_cons_self
    have h2:=Cm.tot (qs:=qs) fun x hx=>h x (List.mem_cons_of_mem _ hx)
    exact (h1.add h2).mono (Nat.dvd_refl _) (by rw [List.length_cons,Nat.add_mul]; omega)
theorem zl5 {B b:Nat} (h:B ≤ 10 ^ b):B + B ≤ 10 ^ (b + 1):=by rw [Nat.pow_succ]; omega
theorem zk6 {B b C c:Nat} (h:B ≤ 10 ^ b) (h2:C ≤ 10 ^ c):B * C ≤ 10 ^ (b + c):=by rw [Nat.pow_add]; exact Nat.mul_le_mul h h2
theorem zr7 {n B b:Nat} (hn:n ≤ 60) (h:B ≤ 10 ^ b):n * B ≤ 10 ^ (b + 2):=by
  have:n * B ≤ 60 * 10 ^ b:=Nat.mul_le_mul hn h
  rw [Nat.pow_add]
  omega
structure MSz (L B W l b wd:Nat) (ms:List Mk) (row:List Rat):Prop where
  len:ms.length ≤ 60
  pos:0 < L
  pL:L ≤ 10 ^ l
  pB:B ≤ 10 ^ b
  pW:W ≤ 10 ^ wd
  h:∀ m ∈ ms,Cm L B m.2.1
  r:∀ q ∈ row,Cm L B q
  w:∀ m ∈ ms,m.2.2.natAbs ≤ W
  fit:2 * l + 2 * b + wd + 6 ≤ 2400
section
variable {L B W l b wd:Nat} {ms:List Mk} {row:List Rat}
theorem MSz.miss (z:MSz L B W l b wd ms row):∀ x ∈ zk7 ms row,Cm L (B + B) x:=zr0 z.h z.r fun _ _ h1 h2=>h1.sub h2
theorem MSz.wmiss (z:MSz L B W l b wd ms row):∀ x ∈ zg6 ms row,Cm L (W * (B + B)) x:=zr0 z.w z.miss fun _ _ h1 h2=>((Cm.int h1).mul h2).mono (by rw [Nat.one_mul]; exact Nat.dvd_refl _) (Nat.le_refl _)
theorem MSz.sq (z:MSz L B W l b wd ms row):∀ x ∈ sqR ms row,Cm (L * L) (W * (B + B) * (B + B)) x:=zr0 z.wmiss z.miss fun _ _ h1 h2=>h1.mul h2
theorem MSz.missOk (z:MSz L B W l b wd ms row):∀ x ∈ zk7 ms row,Ok x:=fun x hx=>dgOk ((z.miss x hx).dg z.pos z.pL (zl5 z.pB)) (by have:=z.fit; omega)
theorem MSz.wmissOk (z:MSz L B W l b wd ms row):∀ x ∈ zg6 ms row,Ok x:=fun x hx=>dgOk ((z.wmiss x hx).dg z.pos z.pL (zk6 z.pW (zl5 z.pB))) (by have:=z.fit; omega)
theorem MSz.sqOk (z:MSz L B W l b wd ms row):∀ x ∈ sqR ms row,Ok x:=fun x hx=>dgOk ((z.sq x hx).dg (Nat.mul_pos z.pos z.pos) (zk6 z.pL z.pL) (zk6 (zk6 z.pW (zl5 z.pB)) (zl5 z.pB))) (by have:=z.fit; omega)
theorem zq3:(zg6 ms row).length ≤ ms.length:=by unfold zg6; rw [List.length_zipWith]; omega
theorem yw2:(sqR ms row).length ≤ ms.length:=by unfold sqR; rw [List.length_zipWith]; have:=zq3 (ms:=ms) (row:=row); omega
theorem MSz.sumOk (z:MSz L B W l b wd ms row) (i:Nat):Ok (tot (((zg6 ms row).map absR).take i)):=by
  have h:=Cm.tot (qs:=((zg6 ms row).map absR).take i) (L:=L) (B:=W * (B + B)) fun q hq=>by
    obtain ⟨x,hx,rfl⟩:=List.mem_map.mp (List.mem_of_mem_take hq)
    exact (z.wmiss x hx).abs
  have hl:(((zg6 ms row).map absR).take i).length ≤ 60:=by
    rw [List.length_take,List.length_map]; have:=zq3 (ms:=ms) (row:=row); have:=z.len; omega
  exact dgOk (h.dg z.pos z.pL (zr7 hl (zk6 z.pW (zl5 z.pB)))) (by have:=z.fit; omega)
theorem MSz.sqsOk (z:MSz L B W l b wd ms row) (i:Nat):Ok (tot ((sqR ms row).take i)):=by
  have h:=Cm.tot (qs:=(sqR ms row).take i) (L:=L * L) (B:=W * (B + B) * (B + B)) fun q hq=>z.sq q (List.mem_of_mem_take hq)
  have hl:((sqR ms row).take i).length ≤ 60:=by
    rw [List.length_take]; have:=yw2 (ms:=ms) (row:=row); have:=z.len; omega
  exact dgOk (h.dg (Nat.mul_pos z.pos z.pos) (zk6 z.pL z.pL) (zr7 hl (zk6 (zk6 z.pW (zl5 z.pB)) (zl5 z.pB)))) (by have:=z.fit; omega)
theorem MSz.hOk (z:MSz L B W l b wd ms row):∀ m ∈ ms,Ok m.2.1:=fun m hm=>dgOk ((z.h m hm).dg z.pos z.pL z.pB) (by have:=z.fit; omega)
theorem MSz.rOk (z:MSz L B W l b wd ms row):∀ q ∈ row,Ok q:=fun m hm=>dgOk ((z.r m hm).dg z.pos z.pL z.pB) (by have:=z.fit; omega)
theorem MSz.wOk (z:MSz L B W l b wd ms row) {m:Mk} (hm:m ∈ ms):Ok (m.2.2:Rat):=⟨zo3 (Nat.le_trans (z.w m hm) z.pW) (by have:=z.fit; omega),show Wee ((1:Nat):Int) from wee (by decide +kernel)⟩
end
section
variable {P:Program} {w:World} {K:PySem.W.Frag} {mg:Str → Option Value} {base:Heap} {A:Adr}
noncomputable def wr8:DW:=fun ds Q _=>∃ q:Rat,ds = [fr q] ∧ Q (.dat (fr (absR q)))
theorem wv7 (T:Txt K mg A):FnOk P w K mg base (CXE P w) 1 A.a_qh A.d_qh ["one"] (spW K wr8):=by
  refine okW T.F_qh wu2 (fun ds Q E h=>?_) (fun cdv Ar outer s H E hr=>?_)
  · obtain ⟨_,rfl,_⟩:=h; rfl
  refine ⟨_,(za8 (zc5 (zh6 (za0 (zc7 zq6 rfl T.n_abs bt_abs (za0 (zc2 (ixtK (K:=K) rfl) (pv 0) za6 (fun _ _=>rfl)) za4)) (za0 (zc2 (ixtK (K:=K) rfl) (pv 0) za6 (fun _ _=>rfl)) za4))))),_,(zd6 (za1 (zh8 (zb8 (ze8 zz9 (za2 (za1 (zc3 0 (zb5 0))) za7)) (zb8 (zc3 1 (zb5 0)) zd7)) (by decide)))),?_⟩
  rintro ds Q X ⟨q,rfl,k⟩
  walk_at "d"
  rw [Fm.abs_if]
  exact k
noncomputable def xq6:DW:=fun ds Q _=>∃ (ms:List Mk) (row:List Rat),ds = [.list (ms.map mk3),.list (row.map fr)] ∧ ms.length ≤ 1000 ∧ (∀ m ∈ ms,Ok m.2.1) ∧ (∀ q ∈ row,Ok q) ∧ Q (.own ((zk7 ms row).map fr))
theorem wj8 (T:Txt K mg A):FnOk P w K mg base (CXE P w) 4 A.a_qn A.d_qn ["marks","row"] (spW K xq6):=by
  have G_qd:=wv9 (P:=P) (w:=w) (base:=base) T
  refine okW T.F_qn wu0 (fun ds Q E h=>?_) (fun cdv Ar outer s H E hr=>?_)
  · obtain ⟨_,_,rfl,_⟩:=h; rfl
  refine ⟨_,(za8 (zc5 (zm2 (cap:=[none,none]) (NC:=["mark","height"]) rfl ⟨rfl,rfl,by decide +kernel,by decide +kernel,trivial,(fun _ h=>nomatch h),rfl⟩ (ya1 (K:=K) rfl rfl T.n_zip (za0 (pv 0) (za0 (pv 1) za4))) (fun _ _ _ _=>(pgtK (K:=K) (n:=2) rfl rfl (zg1 (zd5 (i:=0) (show List.Nodup (["mark","height"]:List Str) by decide) rfl (Or.inl rfl)) (zg1 (zd5 (i:=1) (show List.Nodup (["mark","height"]:List Str) by decide) rfl (Or.inl rfl)) zp2)))) (fun _ _ _ _=>zf7) (fun _ _ _ _=>(za9 G_qd (hr.mono (by decide)) rfl T.m_qd T.F_qd.kp T.b_qd .nil zb7 (za0 (zc2 (ixtK (K:=K) rfl) (pv 0) za6 (fun _ _=>rfl)) (za0 (pv 1) za4))))))),_,(zs8 (zk2 (yr1 (zd3 0) (zd3 1)) (zt8 (zh7 (zb0 0) (zh7 (zb0 1) zt9))) zh2 (zb1 (za2 (za1 (zc3 1 (zb5 0))) (za2 (za3 1) za7))) (by decide) (by decide))),?_⟩
  rintro ds Q X ⟨ms,row,rfl,hl,hm,hr',k⟩
  walk_at "d"
  refine zh3 (fun p:Mk × Rat=>PyData.tuple [mk3 p.1,fr p.2]) fr (fun p:Mk × Rat=>[p.1.2.1 - p.2]) (ms.zip row) (by rw [List.length_zip]; omega) (fun Q h=>by
      walk_at "d"
      rw [zl9]; exact h) (fun p hp N acc hN=>?_) ?_
  · have:=zv9 hm hr' p hp
    walk_at "d"
    refine ⟨p.1.2.1,p.2,rfl,this.1,this.2,?_⟩
    walk_at "d"
    exact hN
  · rw [zd4,zq9 (fun (m:Mk) h=>m.2.1 - h)]
    exact k
noncomputable def xe8:DW:=fun ds Q _=>∃ (ms:List Mk) (row:List Rat) (L B W l b wd:Nat),ds = [.list (ms.map mk3),.list (row.map fr)] ∧ MSz L B W l b wd ms row ∧ Q (.own ((zg6 ms row).map fr))
theorem wv3 (T:Txt K mg A):FnOk P w K mg base (CXE P w) 5 A.a_qp A.d_qp ["marks","row"] (spW K xe8):=by
  have G_qe:=xh1 (P:=P) (w:=w) (base:=base) T
  have G_qn:=wj8 (P:=P) (w:=w) (base:=base) T
  refine okW T.F_qp wt8 (fun ds Q E h=>?_) (fun cdv Ar outer s H E hr=>?_)
  · obtain ⟨_,_,_,_,_,_,_,_,rfl,_⟩:=h; rfl
  refine ⟨_,(za8 (zc5 (zm2 (cap:=[none,none]) (NC:=["mark","miss"]) rfl ⟨rfl,rfl,by decide +kernel,by decide +kernel,trivial,(fun _ h=>nomatch h),rfl⟩ (ya1 (K:=K) rfl rfl T.n_zip (za0 (pv 0) (za0 (za9 G_qn (hr.mono (by decide)) rfl T.m_qn T.F_qn.kp T.b_qn .nil zb7 (za0 (pv 0) (za0 (pv 1) za4))) za4))) (fun _ _ _ _=>(pgtK (K:=K) (n:=2) rfl rfl (zg1 (zd5 (i:=0) (show List.Nodup (["mark","miss"]:List Str) by decide) rfl (Or.inl rfl)) (zg1 (zd5 (i:=1) (show List.Nodup (["mark","miss"]:List Str) by decide) rfl (Or.inl rfl)) zp2)))) (fun _ _ _ _=>zf7) (fun _ _ _ _=>(za9 G_qe (hr.mono (by decide)) rfl T.m_qe T.F_qe.kp T.b_qe .nil zb7 (za0 (zh6 (za0 (zc2 (ixtK (K:=K) rfl) (pv 0) za6 (fun _ _=>rfl)) (za0 za6 za4))) (za0 (pv 1) za4))))))),_,(zs8 (zk2 (yr1 (zd3 0) (zz0 (zj4 (za2 (za3 0) (za2 (za3 1) za7))))) (zt8 (zh7 (zb0 0) (zh7 (zb0 1) zt9))) zh2 (zb1 (za2 (za1 (zh8 (zb8 (zc3 2 (zb5 0)) (zb8 zb3 zd7)) (by decide))) (za2 (za3 1) za7))) (by decide) (by decide))),?_⟩
  rintro ds Q X ⟨ms,row,L,B,W,l,b,wd,rfl,z,k⟩
  walk_at "d"
  refine zh3 (fun p:Mk × Rat=>PyData.tuple [mk3 p.1,fr p.2]) fr (fun p:Mk × Rat=>[(p.1.2.2:Rat) * p.2]) (ms.zip (zk7 ms row)) (by rw [List.length_zip]; have:=z.len; omega) (fun Q h=>by
      walk_at "d"
      refine ⟨ms,row,rfl,by have:=z.len; omega,z.hOk,z.rOk,?_⟩
      walk_at "d"
      refine ⟨zm6 _,?_⟩
      rw [zl9]; exact h) (fun p hp N acc hN=>?_) ?_
  · have:=zv9 (p:=fun m=>m ∈ ms) (fun _ h=>h) z.missOk p hp
    walk_at "d"
    refine ⟨(p.1.2.2:Rat),p.2,rfl,z.wOk this.1,this.2,?_⟩
    walk_at "d"
    exact hN
  · rw [zd4,zq9 (fun (m:Mk) x=>(m.2.2:Rat) * x)]
    exact k
noncomputable def kdsL:List Str:=["far","sum","square"]
noncomputable def kdsS:List { x:Str // PyData.strOk x = true }:=[⟨"far",by decide +kernel⟩,⟨"sum",by decide +kernel⟩,⟨"square",by decide +kernel⟩]
theorem xy8 {kd:Str} (h:PyData.strOk kd = true):(⟨kd,h⟩:{ x:Str // PyData.strOk x = true }) ∈ kdsS ↔ kd ∈ kdsL:=by
  simp [kdsS,kdsL,Subtype.ext_iff]
noncomputable def wd9 (C:Addr):DW:=fun ds Q X=>∃ d:PyData,ds = [d] ∧ (∀ kd:Str,d = .str kd → PyData.strOk kd = true) ∧ ((∃ kd:Str,d = .str kd ∧ kd ∈ kdsL) → Q (.dat .none)) ∧ ((∀ kd:Str,d = .str kd → kd ∉ kdsL) → X C)
theorem yx9 (T:Txt K mg A):FnOk P w K mg base (CXE P w) 1 A.a_qo A.d_qo ["kind"] (spW K (wd9 A.x_NoKind)):=by
  refine okW T.F_qo wt9 (fun ds Q E h=>?_) (fun cdv Ar outer s H E hr=>?_)
  · obtain ⟨_,rfl,_⟩:=h; rfl
  refine ⟨_,(za8 (ze6 (PW.pt (zn8 (ya0 (zl8 (zc7 (xi3 (K:=K) rfl) rfl T.n_isinstance bt_isinstance (za0 (pv 0) (za0 (yc8 rfl T.n_str ys4 (show RelV (.ty "str") (.type "str") from rfl)) za4))))) (zm4 (zb9 (xx8 (K:=K) rfl hr.units) (pv 0) (zm8 rfl T.c_KINDS (show RelV (.ref _) (.ref _) from rfl)) rfl)))) (za8 (zf8 T.x_NoKind hr.hd ze2 rfl (za0 zd0 za4))) zc6)),_,(ze9 (zn6 (zz4 (tv_b (za1 (yr5 (by decide) (za3 0))))) (zc0 (za1 (zb6 yw8 (za3 0) (za1 (ev_c T.k_KINDS)))))) (zf6 (zb8 zd1 zd7) (by decide)) zc8),?_⟩
  rintro ds Q X ⟨d,rfl,ok,k1,k2⟩
  have no:(∀ kd:Str,d ≠ .str kd) → X A.x_NoKind:=fun h=>k2 fun kd e=>absurd e (h kd)
  cases d with
  | str kd =>
    walk_at "d"
    refine ⟨_,eStr,⟨kd,ok kd rfl⟩,kdsS,rfl,rfl,fun b hb=>?_⟩
    rw [xy8] at hb
    cases b with
    | true =>
      walk_at "d"
      exact k1 ⟨kd,rfl,hb.mp rfl⟩
    | false =>
      walk_at "d"
      refine k2 fun kd' e h=>?_
      cases e
      exact absurd (hb.mpr h) (by decide)
  | _=>exact no fun _=>by simp
noncomputable def ws2 (C:Addr):DW:=fun ds Q X=>∃ (d:PyData) (ms:List Mk) (row:List Rat) (L B W l b wd:Nat),ds = [d,.list (ms.map mk3),.list (row.map fr)] ∧ MSz L B W l b wd ms row ∧ ms ≠ [] ∧ row.length = ms.length ∧ (∀ kd:Str,d = .str kd → PyData.strOk kd = true) ∧
  (∀ kd:Str,d = .str kd → kd ∈ kdsL → Q (.dat (fr (meas kd ms row)))) ∧ ((∀ kd:Str,d = .str kd → kd ∉ kdsL) → X C)
theorem xx2 (T:Txt K mg A):FnOk P w K mg base (CXE P w) 6 A.a_qq A.d_qq ["kind","marks","row"] (spW K (ws2 A.x_NoKind)):=by
  have G_qo:=yx9 (P:=P) (w:=w) (base:=base) T
  have G_qn:=wj8 (P:=P) (w:=w) (base:=base) T
  have G_qp:=wv3 (P:=P) (w:=w) (base:=base) T
  have G_qj:=xx3 (P:=P) (w:=w) (base:=base) T
  have G_qi:=xx4 (P:=P) (w:=w) (base:=base) T
  have G_qh:=wv7 (P:=P) (w:=w) (base:=base) T
  have G_qe:=xh1 (P:=P) (w:=w) (base:=base) T
  refine okW T.F_qq sc_qq (fun ds Q E h=>?_) (fun cdv Ar outer s H E hr=>?_)
  · obtain ⟨_,_,_,_,_,_,_,_,_,rfl,_⟩:=h; rfl
  refine ⟨_,(za5 (zj2 (za9 G_qo (hr.mono (by decide)) rfl T.m_qo T.F_qo.kp T.b_qo .nil ze2 (za0 (pv 0) za4)))
      (za5 (zc1 (i:=3) sc_qq.nd rfl (Or.inl rfl) (za9 G_qn (hr.mono (by decide)) rfl T.m_qn T.F_qn.kp T.b_qn .nil zb7 (za0 (pv 1) (za0 (pv 2) za4))))
      (za5 (ze6 (zb9 zh0 (pv 0) zd0 (zc9 _)) (za8 (zc5 (za9 G_qj (hr.mono (by decide)) rfl T.m_qj T.F_qj.kp T.b_qj .nil zb7 (za0 (zm2 (cap:=[none]) (NC:=["miss"]) rfl ⟨rfl,rfl,by decide +kernel,by decide +kernel,trivial,(fun _ h=>nomatch h),rfl⟩ (pilK (K:=K) rfl (pv 3)) (fun _ _ _ _=>(zd5 (i:=0) (show List.Nodup (["miss"]:List Str) by decide) rfl (Or.inl rfl))) (fun _ _ _ _=>zf7) (fun _ _ _ _=>(za9 G_qh (hr.mono (by decide)) rfl T.m_qh T.F_qh.kp T.b_qh .nil zb7 (za0 (pv 0) za4)))) za4)))) zc6)
      (za5 (zc1 (i:=4) sc_qq.nd rfl (Or.inl rfl) (za9 G_qp (hr.mono (by decide)) rfl T.m_qp T.F_qp.kp T.b_qp .nil zb7 (za0 (pv 1) (za0 (pv 2) za4))))
      (za5 (ze6 (zb9 zh0 (pv 0) zd0 (zc9 _)) (za8 (zc5 (za9 G_qi (hr.mono (by decide)) rfl T.m_qi T.F_qi.kp T.b_qi .nil zb7 (za0 (zm2 (cap:=[none]) (NC:=["one"]) rfl ⟨rfl,rfl,by decide +kernel,by decide +kernel,trivial,(fun _ h=>nomatch h),rfl⟩ (pilK (K:=K) rfl (pv 4)) (fun _ _ _ _=>(zd5 (i:=0) (show List.Nodup (["one"]:List Str) by decide) rfl (Or.inl rfl))) (fun _ _ _ _=>zf7) (fun _ _ _ _=>(za9 G_qh (hr.mono (by decide)) rfl T.m_qh T.F_qh.kp T.b_qh .nil zb7 (za0 (pv 0) za4)))) za4)))) zc6)
      (za8 (zc5 (za9 G_qi (hr.mono (by decide)) rfl T.m_qi T.F_qi.kp T.b_qi .nil zb7 (za0 (zm2 (cap:=[none,none]) (NC:=["one","miss"]) rfl ⟨rfl,rfl,by decide +kernel,by decide +kernel,trivial,(fun _ h=>nomatch h),rfl⟩ (ya1 (K:=K) rfl rfl T.n_zip (za0 (pv 4) (za0 (pv 3) za4))) (fun _ _ _ _=>(pgtK (K:=K) (n:=2) rfl rfl (zg1 (zd5 (i:=0) (show List.Nodup (["one","miss"]:List Str) by decide) rfl (Or.inl rfl)) (zg1 (zd5 (i:=1) (show List.Nodup (["one","miss"]:List Str) by decide) rfl (Or.inl rfl)) zp2)))) (fun _ _ _ _=>zf7) (fun _ _ _ _=>(za9 G_qe (hr.mono (by decide)) rfl T.m_qe T.F_qe.kp T.b_qe .nil zb7 (za0 (pv 0) (za0 (pv 1) za4))))) za4))))))))),_,(zb2 (zo9 (za1 (zm1 (za2 (za3 0) za7))))
      (zb2 (zf5 3 (zj4 (za2 (za3 1) (za2 (za3 2) za7))))
      (zb2 (ze9 (zc0 (za1 (zb6 zg9 (za3 0) (za1 zd1)))) (zd6 (za1 (zb1 (za2 (za1 (zj5 (zk2 (zh1 (zd3 3)) (zb0 0) zh2 (zb1 (za2 (za3 0) za7)) (by decide) (by decide)))) za7)))) zc8)
      (zb2 (zf5 4 (zj4 (za2 (za3 1) (za2 (za3 2) za7))))
      (zb2 (ze9 (zc0 (za1 (zb6 zg9 (za3 0) (za1 zd1)))) (zd6 (za1 (zb1 (za2 (za1 (zj5 (zk2 (zh1 (zd3 4)) (zb0 0) zh2 (zb1 (za2 (za3 0) za7)) (by decide) (by decide)))) za7)))) zc8)
      (zd6 (za1 (zb1 (za2 (za1 (zj5 (zk2 (yr1 (zd3 4) (zd3 3)) (zt8 (zh7 (zb0 0) (zh7 (zb0 1) zt9))) zh2 (zb1 (za2 (za3 0) (za2 (za3 1) za7))) (by decide) (by decide)))) za7))))))))),?_⟩
  rintro ds Q X ⟨d,ms,row,L,B,W,l,b,wd,rfl,z,hne,hlr,ok,k,kx⟩
  have zl:=z.len
  walk_at "s"
  refine ⟨d,rfl,ok,?_,kx⟩
  rintro ⟨kd,rfl,hkd⟩
  have kq:=k kd rfl hkd
  walk_at "s"
  refine ⟨ms,row,rfl,by omega,z.hOk,z.rOk,?_⟩
  walk_at "d"
  refine ⟨zm6 _,?_⟩
  walk_at "s"
  have hml:(zk7 ms row).length = ms.length:=by unfold zk7; rw [List.length_zipWith]; omega
  refine ite2 (fun c=>?_) (fun c=>?_)
  · have ek:kd = "far":=c
    subst ek
    have e:meas "far" ms row = maxR ((zk7 ms row).map absR):=by unfold meas; rw [if_pos rfl]
    rw [e] at kq
    walk_at "d"
    refine zh3 fr fr (fun q:Rat=>[absR q]) (zk7 ms row) (by omega) (fun Q h=>h) (fun q hq N acc hN=>?_) ?_
    · walk_at "d"
      refine ⟨q,rfl,?_⟩
      walk_at "d"
      exact hN
    rw [zd4]
    refine ⟨(zk7 ms row).map absR,rfl,fun q hq=>?_,fun h0=>?_,fun q hq hle=>?_⟩
    · obtain ⟨x,hx,rfl⟩:=List.mem_map.mp hq
      have:=z.missOk x hx
      exact ⟨by rw [zq7]; have:=this.n; unfold Wee at *; omega,this.d⟩
    · have:=congrArg List.length h0
      rw [List.length_map,hml] at this
      exact absurd (List.length_eq_zero_iff.mp this) hne
    · have hq0:0 ≤ q:=by
        obtain ⟨x,_,rfl⟩:=List.mem_map.mp hq
        exact yf1 x
      rw [yd8 hq0 (.inr hq) hle]
      walk_at "d"
      exact kq
  have nk:kd ≠ "far":=c
  walk_at "s"
  refine ⟨ms,row,L,B,W,l,b,wd,rfl,z,?_⟩
  walk_at "d"
  refine ⟨zm6 _,?_⟩
  walk_at "s"
  have hwl:=zq3 (ms:=ms) (row:=row)
  refine ite2 (fun c=>?_) (fun c=>?_)
  · have ek:kd = "sum":=c
    subst ek
    have e:meas "sum" ms row = tot ((zg6 ms row).map absR):=by unfold meas; rw [if_neg (by decide),if_pos rfl]
    rw [e] at kq
    walk_at "d"
    refine zh3 fr fr (fun q:Rat=>[absR q]) (zg6 ms row) (by omega) (fun Q h=>h) (fun q hq N acc hN=>?_) ?_
    · walk_at "d"
      refine ⟨q,rfl,?_⟩
      walk_at "d"
      exact hN
    rw [zd4]
    refine ⟨(zg6 ms row).map absR,rfl,fun q hq=>?_,z.sumOk,?_⟩
    · obtain ⟨x,hx,rfl⟩:=List.mem_map.mp hq
      have:=z.wmissOk x hx
      exact ⟨by rw [zq7]; have:=this.n; unfold Wee at *; omega,this.d⟩
    · walk_at "d"
      exact kq
  · have nk2:kd ≠ "sum":=c
    have e:meas kd ms row = tot (sqR ms row):=by unfold meas; rw [if_neg nk,if_neg nk2]
    rw [e] at kq
    walk_at "d"
    refine zh3 (fun p:Rat × Rat=>PyData.tuple [fr p.1,fr p.2]) fr (fun p:Rat × Rat=>[p.1 * p.2]) ((zg6 ms row).zip (zk7 ms row)) (by rw [List.length_zip]; omega) (fun Q h=>by
        walk_at "d"
        rw [zl9]; exact h) (fun p hp N acc hN=>?_) ?_
    · have:=zv9 z.wmissOk z.missOk p hp
      walk_at "d"
      refine ⟨p.1,p.2,rfl,this.1,this.2,?_⟩
      walk_at "d"
      exact hN
    rw [zd4,zq9 (fun a b:Rat=>a * b)]
    refine ⟨sqR ms row,rfl,z.sqOk,z.sqsOk,?_⟩
    walk_at "d"
    exact kq
end
noncomputable abbrev Pr:=Rat × Rat
noncomputable def pr2 (z:Pr):PyData:=.tuple [fr z.1,fr z.2]
theorem yq1:∀ zs:List Pr,zi4 (zs.map pr2) = true
  | []=>rfl
  | z :: zs=>by
    have:=yq1 zs
    simp only [List.map_cons,zi4,pr2,yj1,fr,this,Bool.and_self]
noncomputable def UpP (zs:List Pr):Prop:=zs.Pairwise fun a b=>a.1 ≤ b.1
noncomputable def cntP (zs:List Pr) (p:Rat):Nat:=(zs.flatMap fun z=>if z.1 < p then [z] else []).length
theorem ye9 (a b:List Pr) (p:Rat):cntP (a ++ b) p = cntP a p + cntP b p:=by
  unfold cntP
  rw [List.flatMap_append,List.length_append]
theorem xk2 {a:List Pr} {p:Rat} (h:∀ z ∈ a,z.1 < p):cntP a p = a.length:=by
  induction a with
  | nil=>rfl
  | cons m a ih =>
    have e:cntP (m :: a) p = cntP [m] p + cntP a p:=ye9 [m] a p
    have e1:cntP [m] p = 1:=by unfold cntP; simp [h m List.mem_cons_self]
    rw [e,e1,ih fun x hx=>h x (List.mem_cons_of_mem _ hx),List.length_cons]
    omega
theorem xd4 {a:List Pr} {p:Rat} (h:∀ z ∈ a,¬ z.1 < p):cntP a p = 0:=by
  induction a with
  | nil=>rfl
  | cons m a ih =>
    have e:cntP (m :: a) p = cntP [m] p + cntP a p:=ye9 [m] a p
    have e1:cntP [m] p = 0:=by unfold cntP; simp [h m List.mem_cons_self]
    rw [e,e1,ih fun x hx=>h x (List.mem_cons_of_mem _ hx)]
theorem yg0 (p:Rat):∀ {zs:List Pr},UpP zs → ∃ a b,zs = a ++ b ∧ (∀ z ∈ a,z.1 < p) ∧ (∀ z ∈ b,¬ z.1 < p)
  | [],_=>⟨[],[],rfl,(fun _ h=>nomatch h),fun _ h=>nomatch h⟩
  | m :: ms,h=>by
    have h1:=List.pairwise_cons.mp h
    by_cases c:m.1 < p
    · obtain ⟨a,b,e,h2,h3⟩:=yg0 p h1.2
      refine ⟨m :: a,b,by rw [e]; rfl,fun x hx=>?_,h3⟩
      rcases List.mem_cons.mp hx with rfl | hx
      · exact c
      · exact h2 x hx
    · refine ⟨[],m :: ms,rfl,(fun _ h=>nomatch h),fun x hx=>?_⟩
      rcases List.mem_cons.mp hx with rfl | hx
      · exact c
      · have:=h1.1 x hx
        grind
theorem xr2 {zs:List Pr} (h:UpP zs) (z:Pr):cntP zs z.1 ≤ zs.length ∧ UpP (zs.take (cntP zs z.1) ++ z :: zs.drop (cntP zs z.1)) ∧ (zs.take (cntP zs z.1) ++ z :: zs.drop (cntP zs z.1)).Perm (zs ++ [z]):=by
  obtain ⟨a,b,e,h1,h2⟩:=yg0 z.1 h
  have ec:cntP zs z.1 = a.length:=by rw [e,ye9,xk2 h1,xd4 h2]; rfl
  have et:zs.take a.length = a:=by rw [e]; simp
  have ed:zs.drop a.length = b:=by rw [e]; simp
  rw [ec,et,ed]
  refine ⟨by rw [e,List.length_append]; omega,?_,?_⟩
  · rw [e] at h
    have h3:=List.pairwise_append.mp h
    refine List.pairwise_append.mpr ⟨h3.1,List.pairwise_cons.mpr ⟨fun y hy=>Rat.not_lt.mp (h2 y hy),h3.2.1⟩,fun x hx y hy=>?_⟩
    rcases List.mem_cons.mp hy with rfl | hy
    · have:=h1 x hx; grind
    · exact h3.2.2 x hx y hy
  · rw [e,List.append_assoc]
    exact List.Perm.append_left a (List.perm_append_comm (l₁:=[z]) (l₂:=b))
theorem yo5 {a b:List Rat} (h:a.Perm b):tot a = tot b:=by
  induction h with
  | nil=>rfl
  | cons x _ ih=>simp only [tot,ih]
  | swap x y l=>simp only [tot]; grind
  | trans _ _ i1 i2=>rw [i1,i2]
noncomputable def fsum (p:Pr → Bool) (zs:List Pr):Rat:=tot ((zs.filter p).map (·.2))
theorem zv4 (p:Pr → Bool) (a b:List Pr):fsum p (a ++ b) = fsum p a + fsum p b:=by
  unfold fsum
  rw [List.filter_append,List.map_append,yb5]
theorem xi8 {p:Pr → Bool} {a:List Pr} (h:∀ z ∈ a,p z = true):fsum p a = tot (a.map (·.2)):=by
  unfold fsum
  rw [List.filter_eq_self.mpr h]
theorem xb3 {p:Pr → Bool} {a:List Pr} (h:∀ z ∈ a,¬ p z = true):fsum p a = 0:=by
  unfold fsum
  rw [List.filter_eq_nil_iff.mpr h]; rfl
theorem yv2:∀ {a:List Rat},(∀ q ∈ a,0 ≤ q) → 0 ≤ tot a
  | [],_=>Rat.le_refl
  | x :: a,h=>by
    have h1:=h x List.mem_cons_self
    have h2:=yv2 (a:=a) fun q hq=>h q (List.mem_cons_of_mem _ hq)
    simp only [tot]
    grind
theorem xz8 {p:Pr → Bool} {a:List Pr} (h:∀ z ∈ a,0 ≤ z.2):0 ≤ fsum p a:=yv2 fun q hq=>by
  obtain ⟨z,hz,rfl⟩:=List.mem_map.mp hq
  exact h z (List.mem_filter.mp hz).1
theorem xb4 {p:Pr → Bool}:∀ {a:List Pr},(∀ z ∈ a,0 ≤ z.2) → fsum p a ≤ tot (a.map (·.2))
  | [],_=>Rat.le_refl
  | x :: a,h=>by
    have h1:=h x List.mem_cons_self
    have h2:=xb4 (p:=p) (a:=a) fun q hq=>h q (List.mem_cons_of_mem _ hq)
    have e:fsum p (x :: a) = fsum p [x] + fsum p a:=zv4 p [x] a
    have e1:fsum p [x] ≤ x.2:=by
      unfold fsum
      by_cases c:p x = true
      · simp [c,tot]; grind
      · simp [c,tot]; exact h1
    rw [e]
    simp only [List.map_cons,tot]
    grind
theorem yi8 {p:Pr → Bool} {a b:List Pr} (h:a.Perm b):fsum p a = fsum p b:=yo5 ((h.filter p).map _)
structure Mid (zs:List Pr) (x:Rat):Prop where
  mem:∃ z ∈ zs,z.1 = x
  lo:fsum (fun z=>decide (z.1 < x)) zs + fsum (fun z=>decide (z.1 < x)) zs < tot (zs.map (·.2))
  hi:tot (zs.map (·.2)) ≤ fsum (fun z=>decide (z.1 ≤ x)) zs + fsum (fun z=>decide (z.1 ≤ x)) zs
theorem wm1 {zs ps:List Pr} {s:Nat} (up:UpP ps) (pm:ps.Perm zs) (nn:∀ z ∈ zs,0 ≤ z.2) (hs:s < ps.length) (h1:tot ((ps.take s).map (·.2)) + tot ((ps.take s).map (·.2)) < tot (zs.map (·.2)))
    (h2:tot (zs.map (·.2)) ≤ tot ((ps.take (s + 1)).map (·.2)) + tot ((ps.take (s + 1)).map (·.2))):Mid zs ps[s].1:=by
  have np:∀ z ∈ ps,0 ≤ z.2:=fun z hz=>nn z (pm.mem_iff.mp hz)
  refine ⟨⟨ps[s],pm.mem_iff.mp (List.getElem_mem hs),rfl⟩,?_,?_⟩
  · rw [← yi8 pm]
    have e:=zv4 (fun z=>decide (z.1 < ps[s].1)) (ps.take s) (ps.drop s)
    rw [List.take_append_drop] at e
    have e0:fsum (fun z=>decide (z.1 < ps[s].1)) (ps.drop s) = 0:=xb3 fun z hz=>by
      rw [List.drop_eq_getElem_cons hs] at hz
      have hp:UpP (ps.drop s):=List.Pairwise.drop up
      rw [List.drop_eq_getElem_cons hs] at hp
      rcases List.mem_cons.mp hz with rfl | hz
      · simp
      · have:=(List.pairwise_cons.mp hp).1 z hz
        simpa using Rat.not_lt.mpr this
    have e1:=xb4 (p:=fun z=>decide (z.1 < ps[s].1)) (a:=ps.take s) fun z hz=>np z (List.mem_of_mem_take hz)
    grind
  · rw [← yi8 pm]
    have e:=zv4 (fun z=>decide (z.1 ≤ ps[s].1)) (ps.take (s + 1)) (ps.drop (s + 1))
    rw [List.take_append_drop] at e
    have e0:=xz8 (p:=fun z=>decide (z.1 ≤ ps[s].1)) (a:=ps.drop (s + 1)) fun z hz=>np z (List.mem_of_mem_drop hz)
    have e1:fsum (fun z=>decide (z.1 ≤ ps[s].1)) (ps.take (s + 1)) = tot ((ps.take (s + 1)).map (·.2)):=xi8 fun z hz=>by
      obtain ⟨i,hi,rfl⟩:=List.getElem_of_mem hz
      rw [List.getElem_take]
      rw [List.length_take] at hi
      by_cases c:i = s
      · subst c; simp
      · have:=List.pairwise_iff_getElem.mp up i s (by omega) hs (by omega)
        simpa using this
    grind
section
variable {P:Program} {w:World} {K:PySem.W.Frag} {mg:Str → Option Value} {base:Heap} {A:Adr}
theorem xe4 {ps:List Pr} {k:Int} {j:Nat} (e:k = (j:Int)) (h:j < ps.length):atI (ps.map pr2) k = some (pr2 ps[j]):=by
  rw [xe5 (xs:=ps) pr2 (by omega) (by omega),e,Int.toNat_natCast]
  simp [h]
noncomputable def wc7:DW:=fun ds Q _=>∃ qs vs:List Rat,ds = [.list (qs.map fr),.list (vs.map fr)] ∧ qs.length = vs.length ∧ qs.length ≤ 60 ∧ (∀ q ∈ qs,Ok q) ∧ ∀ ps:List Pr,UpP ps → ps.Perm (qs.zip vs) → Q (.own (ps.map pr2))
theorem wv1 (T:Txt K mg A):FnOk P w K mg base (CXE P w) 2 A.a_qt A.d_qt ["some","weights"] (spW K wc7):=by
  have G_qg:=yy0 (P:=P) (w:=w) (base:=base) T
  refine okW T.F_qt sc_qt (fun ds Q E h=>?_) (fun cdv Ar outer s H E hr=>?_)
  · obtain ⟨_,_,rfl,_⟩:=h; rfl
  refine ⟨_,(za5 (zc1 (i:=2) sc_qt.nd rfl (Or.inl rfl) (zi1 za4))
      (za5 (zn3 PassesOwn.leaving rfl (ya1 (K:=K) rfl rfl T.n_zip (za0 (pv 0) (za0 (pv 1) za4))) (pgtK (K:=K) (n:=2) rfl rfl (zg1 (zd5 (i:=3) sc_qt.nd rfl (Or.inr rfl)) (zg1 (zd5 (i:=4) sc_qt.nd rfl (Or.inl rfl)) zp2)))
        (za5 (zc1 (i:=5) sc_qt.nd rfl (Or.inl rfl) (zc7 (lenK (K:=K) rfl) rfl T.n_len PySem.boot_len (za0 (zm2 (cap:=[none,some 3]) (NC:=["pair","one"]) rfl ⟨rfl,rfl,by decide +kernel,by decide +kernel,⟨⟨_,rfl,rfl,rfl,rfl,rfl⟩,trivial⟩,(List.forall_mem_cons.2 ⟨rfl,(fun _ h=>nomatch h)⟩),rfl⟩ (pilK (K:=K) rfl (pv 2)) (fun _ _ _ _=>(zd5 (i:=0) (show List.Nodup (["pair","one"]:List Str) by decide) rfl (Or.inl rfl))) (fun _ _ _ _=>(yx3 (zl8 (za9 G_qg (hr.mono (by decide)) rfl T.m_qg T.F_qg.kp T.b_qg .nil zb7 (za0 (zc2 (ixtK (K:=K) rfl) (pv 0) za6 (fun _ _=>rfl)) (za0 (pv 1) za4)))))) (fun _ _ _ _=>(pv 0))) za4)))
      (za8 (zj2 (zo4 PySem.F.plainAttrs_list PySem.F.slot_list_insert PySem.F.type_list_insert yi3 (pv 2) (za0 (pv 5) (za0 (zh6 (za0 (pv 3) (za0 (pv 4) za4))) za4)))))))
      (za8 (zc5 (pv 2))))),_,(zb2 (zf5 2 (zi2 zd7 (by decide)))
      (zb2 (zn2 (xo3 (zb5 0) (zb5 1)) (zt8 (zh7 (zb0 3) (zh7 (zb0 4) zt9)))
        (zb2 (zd2 (ze8 zf9 (za2 (za1 (zj5 (zk2 (zh1 (zd3 2)) (zb0 0) (tv_b (za1 (zb1 (za2 (za1 (zc3 0 (zb5 0))) (za2 (za3 1) za7))))) (zb5 0) (by decide) (by decide)))) za7)) (zb0 5))
      (xl5 2 (za3 5) (zh8 (zb8 (zb5 3) (zb8 (zb5 4) zd7)) (by decide)))))
      (zi7 2))),?_⟩
  rintro ds Q X ⟨qs,vs,rfl,hl,n60,ho,k⟩
  have zl:(qs.zip vs).length ≤ 60:=by rw [List.length_zip]; omega
  have hz:∀ z ∈ qs.zip vs,Ok z.1:=fun z h=>ho _ (List.of_mem_zip (a:=z.1) (b:=z.2) h).1
  walk_at "s"
  refine zj6 (zo0 (fun z:Pr=>PyData.tuple [fr z.1,fr z.2]) (qs.zip vs) (fun Q h=>by
      walk_at "d"
      rw [zl9]; exact h)
    (fun i δ=>∃ (ps:List Pr) (t1 t2 t3:Option Sl),δ = [some (.dat (.list (qs.map fr))),some (.dat (.list (vs.map fr))),some (.own (ps.map pr2)),t1,t2,t3] ∧ UpP ps ∧ ps.Perm ((qs.zip vs).take i))
    ⟨[],_,_,_,rfl,List.Pairwise.nil,.nil⟩ ?_ ?_)
  · rintro i z δ hi ⟨ps,t1,t2,t3,rfl,up,pm⟩
    have pl:ps.length ≤ 60:=by have:=pm.length_eq; rw [List.length_take] at this; omega
    have po:∀ x ∈ ps,Ok x.1:=fun x hx=>hz x (List.mem_of_mem_take (pm.mem_iff.mp hx))
    have oz:=hz z (List.mem_of_getElem? hi)
    obtain ⟨h1,h2,h3⟩:=xr2 up z
    have pm2:(ps.take (cntP ps z.1) ++ z :: ps.drop (cntP ps z.1)).Perm ((qs.zip vs).take (i + 1)):=by
      rw [zn1 hi]
      exact h3.trans (pm.append_right [z])
    walk_at "s"
    refine zh3 pr2 pr2 (fun x:Pr=>if x.1 < z.1 then [x] else []) ps (by omega) (fun Q h=>h) (fun x h N acc hN=>?_) ?_
    · walk_at "d"
      refine ⟨x.1,z.1,rfl,po x h,oz,?_⟩
      walk_at "d"
      by_cases c:x.1 < z.1
      · rw [if_pos c]
        rw [if_pos c] at hN
        exact hN
      · rw [if_neg c]
        rw [if_neg c] at hN
        simpa using hN
    have ec:((ps.flatMap fun x:Pr=>if x.1 < z.1 then [x] else []).map pr2).length = cntP ps z.1:=by rw [List.length_map]; rfl
    generalize (ps.flatMap fun x:Pr=>if x.1 < z.1 then [x] else []) = L at *
    walk_at "d"
    rw [List.length_map] at ec
    rw [ec]
    have ef:List.take (cntP ps z.1) (ps.map pr2) ++ PyData.tuple [fr z.1,fr z.2] :: List.drop (cntP ps z.1) (ps.map pr2) = (ps.take (cntP ps z.1) ++ z :: ps.drop (cntP ps z.1)).map pr2:=by
      rw [List.map_append,List.map_cons,List.map_take,List.map_drop]
      rfl
    rw [Int.toNat_natCast,ef]
    exact ⟨by omega,by omega,by omega,_,_,_,_,rfl,h2,pm2⟩
  · rintro δ ⟨ps,t1,t2,t3,rfl,up,pm⟩
    walk_at "d"
    rw [List.take_of_length_le (Nat.le_refl _)] at pm
    exact k ps up pm
theorem yv1:∀ {a:List Rat},a ≠ [] → (∀ q ∈ a,0 < q) → 0 < tot a
  | [],h,_=>absurd rfl h
  | x :: a,_,h=>by
    have h1:=h x List.mem_cons_self
    have h2:=yv2 (a:=a) fun q hq=>by have:=h q (List.mem_cons_of_mem _ hq); grind
    simp only [tot]
    grind
noncomputable def xq8:DW:=fun ds Q _=>∃ qs vs:List Rat,ds = [.list (qs.map fr),.list (vs.map fr)] ∧ qs.length = vs.length ∧ 1 ≤ qs.length ∧ qs.length ≤ 60 ∧ (∀ q ∈ qs,Ok q) ∧ (∀ v ∈ vs,0 < v ∧ Cm 1 (10 ^ 120) v) ∧ ∀ x:Rat,Mid (qs.zip vs) x → Q (.dat (fr x))
theorem wv2 (T:Txt K mg A):FnOk P w K mg base (CXE P w) 4 A.a_qs A.d_qs ["some","weights"] (spW K xq8):=by
  have G_qg:=yy0 (P:=P) (w:=w) (base:=base) T
  have G_qt:=wv1 (P:=P) (w:=w) (base:=base) T
  have G_qi:=xx4 (P:=P) (w:=w) (base:=base) T
  have G_qc:=yy2 (P:=P) (w:=w) (base:=base) T
  refine okW T.F_qs sc_qs (fun ds Q E h=>?_) (fun cdv Ar outer s H E hr=>?_)
  · obtain ⟨_,_,rfl,_⟩:=h; rfl
  refine ⟨_,(za5 (zc1 (i:=2) sc_qs.nd rfl (Or.inl rfl) (za9 G_qt (hr.mono (by decide)) rfl T.m_qt T.F_qt.kp T.b_qt .nil zb7 (za0 (pv 0) (za0 (pv 1) za4))))
      (za5 (zc1 (i:=3) sc_qs.nd rfl (Or.inl rfl) (za9 G_qi (hr.mono (by decide)) rfl T.m_qi T.F_qi.kp T.b_qi .nil zb7 (za0 (pv 1) za4)))
      (za5 (zc1 (i:=4) sc_qs.nd rfl (Or.inl rfl) za6)
      (za5 (zc1 (i:=5) sc_qs.nd rfl (Or.inl rfl) (zc2 (ixtK (K:=K) rfl) (zc2 (ixlK (K:=K) rfl) (pv 2) za6 (fun _ _=>rfl)) za6 (fun _ _=>rfl)))
      (za5 (zv0 PassesOwn.leaving (zl8 (za9 G_qg (hr.mono (by decide)) rfl T.m_qg T.F_qg.kp T.b_qg .nil zb7 (za0 (za9 G_qc (hr.mono (by decide)) rfl T.m_qc T.F_qc.kp T.b_qc .nil zb7 (za0 (pv 5) (za0 (pv 5) za4))) (za0 (pv 3) za4)))) (za5 (zc1 (i:=4) sc_qs.nd rfl (Or.inl rfl) (zc4 zg8 (pv 4) za6))
      (za8 (zc1 (i:=5) sc_qs.nd rfl (Or.inl rfl) (za9 G_qc (hr.mono (by decide)) rfl T.m_qc T.F_qc.kp T.b_qc .nil zb7 (za0 (pv 5) (za0 (zc2 (ixtK (K:=K) rfl) (zc2 (ixlK (K:=K) rfl) (pv 2) (pv 4) (fun _ _=>rfl)) za6 (fun _ _=>rfl)) za4)))))))
      (za8 (zc5 (zc2 (ixtK (K:=K) rfl) (zc2 (ixlK (K:=K) rfl) (pv 2) (pv 4) (fun _ _=>rfl)) za6 (fun _ _=>rfl))))))))),_,(zb2 (zf5 2 (zj4 (za2 (za3 0) (za2 (za3 1) za7))))
      (zb2 (zd2 (zb1 (za2 (za3 1) za7)) (zb0 3))
      (zb2 (zd2 zb3 (zb0 4))
      (zb2 (zd2 (zc3 1 (ze5 (zd3 2) (za1 zb3))) (zb0 5))
      (zb2 (zu6 (tv_b (za1 (zb1 (za2 (za1 (zb1 (za2 (za3 5) (za2 (za3 5) za7)))) (za2 (za3 3) za7))))) (zb2 (zd2 (zb6 zh5 (za3 4) (za1 zb3)) (zb0 4))
      (zd2 (zb1 (za2 (za3 5) (za2 (za1 (zc3 1 (ze5 (zd3 2) (za3 4)))) za7))) (zb0 5))))
      (zd6 (za1 (zc3 0 (ze5 (zd3 2) (za3 4)))))))))),?_⟩
  rintro ds Q X ⟨qs,vs,rfl,hl,n1,n60,ho,hv,k⟩
  have cdg:∀ {l:List Rat},l.length ≤ 60 → (∀ v ∈ l,Cm 1 (10 ^ 120) v) → Dg 123 (tot l):=fun {l} h1 h2=>by
    have h:=Cm.tot (qs:=l) (L:=1) (B:=10 ^ 120) h2
    refine h.dg (by decide) (l:=0) (by decide) (b:=122) ?_
    exact Nat.le_trans (Nat.mul_le_mul_right _ h1) (by decide +kernel)
  walk_at "s"
  refine ⟨qs,vs,rfl,hl,n60,ho,fun ps up pm=>?_⟩
  have pl:ps.length = qs.length:=by rw [pm.length_eq,List.length_zip]; omega
  have zs2:(qs.zip vs).map (·.2) = vs:=List.map_snd_zip (by omega)
  have p2:(ps.map (·.2)).Perm vs:=by rw [← zs2]; exact pm.map _
  have pv:∀ v ∈ ps.map (·.2),0 < v ∧ Cm 1 (10 ^ 120) v:=fun v h=>hv v (p2.mem_iff.mp h)
  have sdg:∀ s,Dg 123 (tot ((ps.take s).map (·.2))):=fun s=>cdg (by rw [List.length_map,List.length_take]; omega) fun v h=>by
    rw [List.map_take] at h
    exact (pv v (List.mem_of_mem_take h)).2
  have wdg:Dg 123 (tot vs):=cdg (by omega) fun v h=>(hv v h).2
  have wpos:0 < tot vs:=yv1 (fun e=>by rw [e,List.length_nil] at hl; omega) fun v h=>(hv v h).1
  walk_at "d"
  refine ⟨yq1 _,?_⟩
  walk_at "s"
  refine ⟨vs,rfl,fun v h=>dgOk ((hv v h).2.dg (by decide) (l:=0) (by decide) (b:=120) (Nat.le_refl _)) (by decide),fun i=>dgOk (cdg (by rw [List.length_take]; omega) fun v h=>(hv v (List.mem_of_mem_take h)).2) (by decide),?_⟩
  walk_at "s"
  walk_at "s"
  refine ⟨_,xe4 (j:=0) rfl (by omega),?_⟩
  walk_at "s"
  have s1:tot ((ps.take 1).map (·.2)) = ps[0].2:=by
    rw [zn1 (List.getElem?_eq_getElem (show 0 < ps.length by omega))]
    simp [tot,Rat.add_zero]
  refine ⟨fun m δ=>∃ s:Nat,s < ps.length ∧ m = ps.length - s ∧ δ = [some (.dat (.list (qs.map fr))),some (.dat (.list (vs.map fr))),some (.own (ps.map pr2)),some (.dat (fr (tot vs))),some (.dat (.int (s:Int))),some (.dat (fr (tot ((ps.take (s + 1)).map (·.2)))))] ∧ tot ((ps.take s).map (·.2)) + tot ((ps.take s).map (·.2)) < tot vs,⟨_,0,by omega,rfl,by rw [s1]; rfl,by simpa [tot,Rat.add_zero] using wpos⟩,?_⟩
  rintro m δ ⟨s,hs,rfl,rfl,hlt⟩
  have o1:=dgOk (sdg (s + 1)) (by decide)
  have d2:Dg 247 (tot ((ps.take (s + 1)).map (·.2)) + tot ((ps.take (s + 1)).map (·.2))):=(sdg (s + 1)).add (sdg (s + 1))
  walk_at "d"
  refine ⟨_,_,rfl,o1,o1,?_⟩
  walk_at "d"
  refine ⟨_,_,rfl,dgOk d2 (by decide),dgOk wdg (by decide),?_⟩
  walk_at "d"
  refine ite2 (fun c=>?_) (fun c=>?_)
  · have hs2:s + 1 < ps.length:=Decidable.not_not.mp fun z=>by
      rw [List.take_of_length_le (by omega),yo5 p2] at c
      grind
    walk_at "s"
    refine ⟨_,xe4 (j:=s + 1) (by omega) hs2,?_⟩
    have ov:Ok ps[s + 1].2:=dgOk ((pv _ (List.mem_map.mpr ⟨_,List.getElem_mem hs2,rfl⟩)).2.dg (by decide) (l:=0) (by decide) (b:=120) (Nat.le_refl _)) (by decide)
    refine ⟨_,_,rfl,o1,ov,?_⟩
    walk_at "d"
    refine ⟨ps.length - (s + 1),by omega,s + 1,hs2,rfl,?_,c⟩
    rw [zn1 (List.getElem?_eq_getElem hs2),List.map_append,yb5]
    simp [tot,Rat.add_zero]
  · walk_at "d"
    refine ⟨_,xe4 (j:=s) rfl hs,?_⟩
    refine k _ (wm1 up pm (fun z hz=>?_) hs ?_ ?_)
    · have:=(hv z.2 (List.of_mem_zip (a:=z.1) (b:=z.2) hz).2).1
      grind
    · rw [zs2]; exact hlt
    · rw [zs2]; exact Rat.not_lt.mp c
end
noncomputable def half0:Rat:=Rat.divInt 1 2
noncomputable def hgts (ms:List Mk):List Rat:=ms.map fun m=>m.2.1
noncomputable def wgts (ms:List Mk):List Rat:=ms.map fun m=>(m.2.2:Rat)
structure LevelOk (kd:Str) (ms:List Mk) (x:Rat):Prop where
  far:kd = "far" → ∃ a b,a ∈ hgts ms ∧ (∀ r ∈ hgts ms,r ≤ a) ∧ b ∈ hgts ms ∧ (∀ r ∈ hgts ms,b ≤ r) ∧ x = half0 * (a + b)
  sum:kd = "sum" → Mid ((hgts ms).zip (wgts ms)) x
  sq:kd = "square" → x = tot (List.zipWith (fun v h=>v * h) (wgts ms) (hgts ms)) / tot (wgts ms)
section
variable {P:Program} {w:World} {K:PySem.W.Frag} {mg:Str → Option Value} {base:Heap} {A:Adr}
noncomputable def wc9:DW:=fun ds Q _=>∃ (kd:Str) (ms:List Mk) (L:Nat),ds = [.str kd,.list (ms.map mk3)] ∧ kd ∈ kdsL ∧ 1 ≤ ms.length ∧ ms.length ≤ 60 ∧ 0 < L ∧ L ≤ 10 ^ 100 ∧ (∀ m ∈ ms,Cm L (10 ^ 100) m.2.1) ∧ (∀ m ∈ ms,1 ≤ m.2.2 ∧ m.2.2 ≤ 10 ^ 100) ∧ ∀ x,LevelOk kd ms x → Q (.dat (fr x))
theorem wj5 (T:Txt K mg A):FnOk P w K mg base (CXE P w) 5 A.a_qr A.d_qr ["kind","marks"] (spW K wc9):=by
  have G_qe:=xh1 (P:=P) (w:=w) (base:=base) T
  have G_qc:=yy2 (P:=P) (w:=w) (base:=base) T
  have G_qj:=xx3 (P:=P) (w:=w) (base:=base) T
  have G_qk:=wv6 (P:=P) (w:=w) (base:=base) T
  have G_qs:=wv2 (P:=P) (w:=w) (base:=base) T
  have G_qf:=wv8 (P:=P) (w:=w) (base:=base) T
  have G_qi:=xx4 (P:=P) (w:=w) (base:=base) T
  refine okW T.F_qr sc_qr (fun ds Q E h=>?_) (fun cdv Ar outer s H E hr=>?_)
  · obtain ⟨_,_,_,rfl,_⟩:=h; rfl
  refine ⟨_,(za5 (zv1 (i:=2) (cap:=[none]) (NC:=["mark"]) sc_qr.nd rfl rfl rfl ⟨rfl,rfl,by decide +kernel,by decide +kernel,trivial,(fun _ h=>nomatch h),rfl⟩ (pilK (K:=K) rfl (pv 1)) (fun _ _ _ _=>(zd5 (i:=0) (show List.Nodup (["mark"]:List Str) by decide) rfl (Or.inl rfl))) (fun _ _ _ _=>zf7) (fun _ _ _ _=>(zc2 (ixtK (K:=K) rfl) (pv 0) za6 (fun _ _=>rfl))))
      (za5 (ze6 (zb9 zh0 (pv 0) zd0 (zc9 _)) (za8 (zc5 (za9 G_qe (hr.mono (by decide)) rfl T.m_qe T.F_qe.kp T.b_qe .nil zb7 (za0 (zh6 (za0 za6 (za0 za6 za4))) (za0 (za9 G_qc (hr.mono (by decide)) rfl T.m_qc T.F_qc.kp T.b_qc .nil zb7 (za0 (za9 G_qj (hr.mono (by decide)) rfl T.m_qj T.F_qj.kp T.b_qj .nil zb7 (za0 (pv 2) za4)) (za0 (za9 G_qk (hr.mono (by decide)) rfl T.m_qk T.F_qk.kp T.b_qk .nil zb7 (za0 (pv 2) za4)) za4))) za4))))) zc6)
      (za5 (zv1 (i:=3) (cap:=[none]) (NC:=["mark"]) sc_qr.nd rfl rfl rfl ⟨rfl,rfl,by decide +kernel,by decide +kernel,trivial,(fun _ h=>nomatch h),rfl⟩ (pilK (K:=K) rfl (pv 1)) (fun _ _ _ _=>(zd5 (i:=0) (show List.Nodup (["mark"]:List Str) by decide) rfl (Or.inl rfl))) (fun _ _ _ _=>zf7) (fun _ _ _ _=>(zh6 (za0 (zc2 (ixtK (K:=K) rfl) (pv 0) za6 (fun _ _=>rfl)) (za0 za6 za4)))))
      (za5 (ze6 (zb9 zh0 (pv 0) zd0 (zc9 _)) (za8 (zc5 (za9 G_qs (hr.mono (by decide)) rfl T.m_qs T.F_qs.kp T.b_qs .nil zb7 (za0 (pv 2) (za0 (pv 3) za4))))) zc6)
      (za5 (zv1 (i:=4) (cap:=[none,none]) (NC:=["weight","height"]) sc_qr.nd rfl rfl rfl ⟨rfl,rfl,by decide +kernel,by decide +kernel,trivial,(fun _ h=>nomatch h),rfl⟩ (ya1 (K:=K) rfl rfl T.n_zip (za0 (pv 3) (za0 (pv 2) za4))) (fun _ _ _ _=>(pgtK (K:=K) (n:=2) rfl rfl (zg1 (zd5 (i:=0) (show List.Nodup (["weight","height"]:List Str) by decide) rfl (Or.inl rfl)) (zg1 (zd5 (i:=1) (show List.Nodup (["weight","height"]:List Str) by decide) rfl (Or.inl rfl)) zp2)))) (fun _ _ _ _=>zf7) (fun _ _ _ _=>(za9 G_qe (hr.mono (by decide)) rfl T.m_qe T.F_qe.kp T.b_qe .nil zb7 (za0 (pv 0) (za0 (pv 1) za4)))))
      (za8 (zc5 (za9 G_qf (hr.mono (by decide)) rfl T.m_qf T.F_qf.kp T.b_qf .nil zb7 (za0 (za9 G_qi (hr.mono (by decide)) rfl T.m_qi T.F_qi.kp T.b_qi .nil zb7 (za0 (pv 4) za4)) (za0 (za9 G_qi (hr.mono (by decide)) rfl T.m_qi T.F_qi.kp T.b_qi .nil zb7 (za0 (pv 3) za4)) za4)))))))))),_,(zb2 (zf5 2 (zk2 (zh1 (zd3 1)) (zb0 0) zh2 (zc3 1 (zb5 0)) (by decide) (by decide)))
      (zb2 (ze9 (zc0 (za1 (zb6 zg9 (za3 0) (za1 zd1)))) (zd6 (za1 (zb1 (za2 (za1 (zh8 (zb8 zb3 (zb8 zb3 zd7)) (by decide))) (za2 (za1 (zb1 (za2 (za1 (zb1 (za2 (za3 2) za7))) (za2 (za1 (zb1 (za2 (za3 2) za7))) za7)))) za7))))) zc8)
      (zb2 (zf5 3 (zk2 (zh1 (zd3 1)) (zb0 0) zh2 (zh8 (zb8 (zc3 2 (zb5 0)) (zb8 zb3 zd7)) (by decide)) (by decide) (by decide)))
      (zb2 (ze9 (zc0 (za1 (zb6 zg9 (za3 0) (za1 zd1)))) (zd6 (za1 (zb1 (za2 (za3 2) (za2 (za3 3) za7))))) zc8)
      (zb2 (zf5 4 (zk2 (yr1 (zd3 3) (zd3 2)) (zt8 (zh7 (zb0 0) (zh7 (zb0 1) zt9))) zh2 (zb1 (za2 (za3 0) (za2 (za3 1) za7))) (by decide) (by decide)))
      (zd6 (za1 (zb1 (za2 (za1 (zb1 (za2 (za3 4) za7))) (za2 (za1 (zb1 (za2 (za3 3) za7))) za7)))))))))),?_⟩
  rintro ds Q X ⟨kd,ms,L,rfl,hkd,n1,n60,L0,L1,hc,hw,k⟩
  walk_at "s"
  refine zh3 mk3 fr (fun m:Mk=>[m.2.1]) ms (by omega) (fun Q h=>h) (fun m h N acc hN=>?_) ?_
  · walk_at "d"
    exact hN
  rw [zd4]
  obtain ⟨hs,hhs⟩:∃ hs,hgts ms = hs:=⟨_,rfl⟩
  rw [show ms.map (fun m:Mk=>m.2.1) = hs from hhs]
  have hl:hs.length = ms.length:=by rw [← hhs,hgts,List.length_map]
  have hcm:∀ q ∈ hs,Cm L (10 ^ 100) q:=fun q hq=>by
    rw [← hhs] at hq
    obtain ⟨m,hm,rfl⟩:=List.mem_map.mp hq
    exact hc m hm
  have hdg:∀ q ∈ hs,Dg 201 q:=fun q hq=>(hcm q hq).dg L0 L1 (b:=100) (Nat.le_refl _)
  have hok:∀ q ∈ hs,Ok q:=fun q hq=>dgOk (hdg q hq) (by decide)
  walk_at "s"
  refine ite2 (fun c=>?_) (fun c=>?_)
  · have ek:kd = "far":=c
    subst ek
    walk_at "d"
    have hne:hs ≠ []:=fun e=>by rw [e,List.length_nil] at hl; omega
    refine ⟨hs,rfl,hok,fun e=>hne e,fun a ha hla=>⟨rfl,?_⟩⟩
    refine ⟨hs,rfl,hok,fun e=>hne e,fun b hb hlb=>⟨rfl,?_⟩⟩
    refine ⟨a,b,rfl,hok a ha,hok b hb,rfl,?_⟩
    have dab:Dg 403 (a + b):=(hdg a ha).add (hdg b hb)
    have dh:Dg 1 half0:=⟨by decide +kernel,by decide +kernel⟩
    refine ⟨half0,a + b,rfl,dgOk dh (by decide),dgOk dab (by decide),rfl,?_⟩
    refine k _ ⟨fun _=>⟨a,b,?_,?_,?_,?_,rfl⟩,fun h=>absurd h (by decide),fun h=>absurd h (by decide)⟩ <;> rw [hhs] <;> assumption
  have nk:kd ≠ "far":=c
  walk_at "s"
  refine zh3 mk3 fr (fun m:Mk=>[(m.2.2:Rat)]) ms (by omega) (fun Q h=>h) (fun m h N acc hN=>?_) ?_
  · walk_at "d"
    exact hN
  rw [zd4]
  obtain ⟨vs,hvs⟩:∃ vs,wgts ms = vs:=⟨_,rfl⟩
  rw [show ms.map (fun m:Mk=>(m.2.2:Rat)) = vs from hvs]
  have vl:vs.length = ms.length:=by rw [← hvs,wgts,List.length_map]
  have hv:∀ v ∈ vs,0 < v ∧ Cm 1 (10 ^ 120) v:=fun v h=>by
    rw [← hvs] at h
    obtain ⟨m,hm,rfl⟩:=List.mem_map.mp h
    have h1:=hw m hm
    refine ⟨Rat.intCast_pos.mpr (by omega),Cm.int ?_⟩
    have:(10:Nat) ^ 100 ≤ 10 ^ 120:=by decide +kernel
    omega
  walk_at "s"
  refine ite2 (fun c=>?_) (fun c=>?_)
  · have ek:kd = "sum":=c
    subst ek
    walk_at "d"
    refine ⟨hs,vs,rfl,by omega,by omega,by omega,hok,hv,fun x hx=>?_⟩
    walk_at "d"
    exact k x ⟨fun h=>absurd h (by decide),fun _=>by rw [hhs,hvs]; exact hx,fun h=>absurd h (by decide)⟩
  have nk2:kd ≠ "sum":=c
  walk_at "s"
  have v0:∀ v ∈ vs,Cm 1 (10 ^ 100) v:=fun v h=>by
    rw [← hvs] at h
    obtain ⟨m,hm,rfl⟩:=List.mem_map.mp h
    have h1:=hw m hm
    exact Cm.int (by omega)
  have vok:∀ v ∈ vs,Ok v:=fun v h=>dgOk ((v0 v h).dg (by decide) (l:=0) (by decide) (b:=100) (Nat.le_refl _)) (by decide)
  refine zh3 (fun p:Rat × Rat=>PyData.tuple [fr p.1,fr p.2]) fr (fun p:Rat × Rat=>[p.1 * p.2]) (vs.zip hs) (by rw [List.length_zip]; omega) (fun Q h=>by
      walk_at "d"
      rw [zl9]; exact h) (fun p hp N acc hN=>?_) ?_
  · have:=zv9 vok hok p hp
    walk_at "d"
    refine ⟨p.1,p.2,rfl,this.1,this.2,?_⟩
    walk_at "d"
    exact hN
  rw [zd4,zq9 (fun a b:Rat=>a * b)]
  obtain ⟨us,hus⟩:∃ us,List.zipWith (fun a b:Rat=>a * b) vs hs = us:=⟨_,rfl⟩
  rw [hus]
  have ul:us.length ≤ 60:=by rw [← hus,List.length_zipWith]; omega
  have uc:∀ u ∈ us,Cm (1 * L) (10 ^ 100 * 10 ^ 100) u:=fun u hu=>by
    rw [← hus,← zq9] at hu
    obtain ⟨p,hp,rfl⟩:=List.mem_map.mp hu
    have hz:=List.of_mem_zip (a:=p.1) (b:=p.2) hp
    exact (v0 _ hz.1).mul (hcm _ hz.2)
  have ud:∀ i,Dg 303 (tot (us.take i)):=fun i=>by
    have h:=Cm.tot (qs:=us.take i) fun u hu=>uc u (List.mem_of_mem_take hu)
    refine h.dg (l:=100) (by omega) (by omega) (b:=202) ?_
    exact Nat.le_trans (Nat.mul_le_mul_right _ (show _ ≤ 60 by rw [List.length_take]; omega)) (by decide +kernel)
  have wd:∀ i,Dg 103 (tot (vs.take i)):=fun i=>by
    have h:=Cm.tot (qs:=vs.take i) fun u hu=>v0 u (List.mem_of_mem_take hu)
    refine h.dg (l:=0) (by decide) (by decide) (b:=102) ?_
    exact Nat.le_trans (Nat.mul_le_mul_right _ (show _ ≤ 60 by rw [List.length_take]; omega)) (by decide +kernel)
  have ude:=ud us.length
  have wde:=wd vs.length
  rw [List.take_of_length_le (Nat.le_refl _)] at ude wde
  have wpos:0 < tot vs:=yv1 (fun e=>by rw [e,List.length_nil] at vl; omega) fun v h=>(hv v h).1
  refine ⟨us,rfl,fun u hu=>dgOk ((uc u hu).dg (l:=100) (by omega) (by omega) (b:=200) (by decide +kernel)) (by decide),fun i=>dgOk (ud i) (by decide),rfl,?_⟩
  refine ⟨vs,rfl,vok,fun i=>dgOk (wd i) (by decide),rfl,?_⟩
  refine ⟨tot us,tot vs,rfl,dgOk ude (by decide),dgOk wde (by decide),fun e=>by rw [e] at wpos; exact absurd wpos (by decide),fun _=>⟨rfl,?_⟩⟩
  exact k _ ⟨fun h=>absurd h nk,fun h=>absurd h nk2,fun _=>by rw [hhs,hvs,hus]⟩
end
noncomputable def wsum:List Mk → Int
  | []=>0
  | m :: ms=>m.2.2 + wsum ms
theorem yb1:∀ ms:List Mk,tot (wgts ms) = (wsum ms:Rat)
  | []=>rfl
  | m :: ms=>by
    have:=yb1 ms
    show (m.2.2:Rat) + tot (wgts ms) = ((m.2.2 + wsum ms:Int):Rat)
    rw [this,Rat.intCast_add]
theorem zr4:∀ {ms:List Mk},ms ≠ [] → (∀ m ∈ ms,1 ≤ m.2.2) → 1 ≤ wsum ms
  | [],h,_=>absurd rfl h
  | [m],_,h=>by have:=h m List.mem_cons_self; simp only [wsum]; omega
  | m :: n :: ms,_,h=>by
    have h1:=h m List.mem_cons_self
    have h2:=zr4 (ms:=n :: ms) (by simp) fun x hx=>h x (List.mem_cons_of_mem _ hx)
    rw [wsum]; omega
theorem yk7 {W:Int}:∀ {ms:List Mk},(∀ m ∈ ms,m.2.2 ≤ W) → wsum ms ≤ ms.length * W
  | [],_=>by simp [wsum]
  | m :: ms,h=>by
    have h1:=h m List.mem_cons_self
    have h2:=yk7 (ms:=ms) fun x hx=>h x (List.mem_cons_of_mem _ hx)
    rw [wsum,List.length_cons]
    have:((ms.length + 1:Nat):Int) * W = ms.length * W + W:=by rw [Int.natCast_add,Int.add_mul]; simp
    omega
noncomputable def umix (ms:List Mk):Rat:=tot (List.zipWith (fun v h=>v * h) (wgts ms) (hgts ms))
theorem zw0 (m:Mk) (ms:List Mk):umix (m :: ms) = (m.2.2:Rat) * m.2.1 + umix ms:=rfl
theorem yu7 {B:Rat}:∀ {ms:List Mk},(∀ m ∈ ms,-B ≤ m.2.1 ∧ m.2.1 ≤ B) → (∀ m ∈ ms,1 ≤ m.2.2) → -(B * (wsum ms:Rat)) ≤ umix ms ∧ umix ms ≤ B * (wsum ms:Rat)
  | [],_,_=>by
    have e:umix [] = 0:=rfl
    have e2:((wsum []:Int):Rat) = 0:=rfl
    rw [e,e2,Rat.mul_zero]
    exact ⟨by decide,by decide⟩
  | m :: ms,h,hw=>by
    have h1:=h m List.mem_cons_self
    have w1:=hw m List.mem_cons_self
    have h2:=yu7 (B:=B) (ms:=ms) (fun x hx=>h x (List.mem_cons_of_mem _ hx)) fun x hx=>hw x (List.mem_cons_of_mem _ hx)
    have w0:(0:Rat) ≤ (m.2.2:Rat):=Rat.intCast_nonneg.mpr (by omega)
    have a:=Rat.mul_nonneg w0 (show 0 ≤ B - m.2.1 by grind)
    have b:=Rat.mul_nonneg w0 (show 0 ≤ B + m.2.1 by grind)
    rw [zw0,wsum,Rat.intCast_add]
    constructor <;> grind
theorem yu6 {L B:Nat}:∀ {ms:List Mk},(∀ m ∈ ms,Cm L B m.2.1) → (umix ms).den ∣ L
  | [],_=>⟨L,(Nat.one_mul L).symm⟩
  | m :: ms,h=>by
    have h1:(((m.2.2:Int):Rat) * m.2.1).den ∣ 1 * L:=((Cm.int (i:=m.2.2) (Nat.le_refl _)).mul (h m List.mem_cons_self)).d
    have h2:=yu6 (ms:=ms) fun x hx=>h x (List.mem_cons_of_mem _ hx)
    rw [Nat.one_mul] at h1
    rw [zw0]
    have c1:Cm L ((((m.2.2:Int):Rat) * m.2.1).num.natAbs) (((m.2.2:Int):Rat) * m.2.1):=Cm.of h1 (Nat.le_mul_of_pos_right _ (Rat.den_pos _))
    have c2:Cm L (umix ms).num.natAbs (umix ms):=Cm.of h2 (Nat.le_mul_of_pos_right _ (Rat.den_pos _))
    exact (c1.add c2).d
theorem xq1 {x T B:Rat} (hT:0 < T) (h:x * T ≤ B * T):x ≤ B:=Rat.not_lt.mp fun c=>by
  have:=Rat.mul_pos (show 0 < x - B by grind) hT
  grind
theorem zs3 (m:Rat):half0 * m + half0 * m = m:=by
  have:half0 + half0 = 1:=by decide +kernel
  grind
theorem xa9 {s B:Rat} (h1:-(B + B) ≤ s) (h2:s ≤ B + B):-B ≤ half0 * s ∧ half0 * s ≤ B:=by
  have h0:(0:Rat) ≤ half0:=by decide +kernel
  have e:=zs3 B
  have a:=Rat.mul_nonneg h0 (show 0 ≤ s + (B + B) by grind)
  have b:=Rat.mul_nonneg h0 (show 0 ≤ (B + B) + -s by grind)
  rw [Rat.mul_add,Rat.mul_add,e] at a
  rw [Rat.mul_add,Rat.mul_add,e,Rat.mul_neg] at b
  constructor <;> grind
theorem yq7 {kd:Str} {ms:List Mk} {x:Rat} {L B:Nat} (hk:kd ∈ kdsL) (X:LevelOk kd ms x) (hne:ms ≠ []) (hc:∀ m ∈ ms,Cm L B m.2.1) (hw:∀ m ∈ ms,1 ≤ m.2.2):Cm (2 * L * (wsum ms).toNat) B x:=by
  have hh:∀ q ∈ hgts ms,Cm L B q:=fun q hq=>by
    obtain ⟨m,hm,rfl⟩:=List.mem_map.mp hq
    exact hc m hm
  have wp:=zr4 hne hw
  have dl:L ∣ 2 * L * (wsum ms).toNat:=⟨2 * (wsum ms).toNat,by rw [Nat.mul_comm 2 L,Nat.mul_assoc]⟩
  have hk3:kd = "far" ∨ kd = "sum" ∨ kd = "square":=by simpa [kdsL] using hk
  rcases hk3 with e | e | e
  · obtain ⟨a,b,ha,_,hb,_,rfl⟩:=X.far e
    have ca:=hh a ha
    have cb:=hh b hb
    have ch:Cm 2 1 half0:=⟨by decide +kernel,by decide +kernel,by decide +kernel⟩
    have cx:=ch.mul (ca.add cb)
    refine ⟨Nat.dvd_trans cx.d (Nat.dvd_mul_right _ _),?_,?_⟩
    · have h1:=ca.lo; have h2:=cb.lo; have h3:=ca.hi; have h4:=cb.hi
      exact (xa9 (by grind) (by grind)).1
    · have h1:=ca.lo; have h2:=cb.lo; have h3:=ca.hi; have h4:=cb.hi
      exact (xa9 (by grind) (by grind)).2
  · obtain ⟨z,hz,rfl⟩:=(X.sum e).mem
    exact (hh _ (List.of_mem_zip (a:=z.1) (b:=z.2) hz).1).mono dl (Nat.le_refl _)
  · have ex:=X.sq e
    have T0:(0:Rat) < (wsum ms:Rat):=Rat.intCast_pos.mpr (by omega)
    have ex2:x * (wsum ms:Rat) = umix ms:=by
      rw [ex,yb1,Rat.div_mul_cancel (by grind)]; rfl
    have bd:=yu7 (B:=(B:Rat)) (ms:=ms) (fun m hm=>⟨(hc m hm).lo,(hc m hm).hi⟩) hw
    rw [← ex2] at bd
    refine ⟨?_,?_,xq1 T0 bd.2⟩
    · have c1:=yu6 hc
      have e3:x = umix ms * Rat.divInt 1 ((wsum ms).toNat:Int):=by
        rw [← ex2,Int.toNat_of_nonneg (by omega)]
        have:(wsum ms:Rat) * Rat.divInt 1 (wsum ms) = 1:=by
          rw [Rat.divInt_eq_div,Rat.div_def]
          show (wsum ms:Rat) * (1 * (wsum ms:Rat)⁻¹) = 1
          rw [Rat.one_mul,Rat.mul_inv_cancel _ (by grind)]
        rw [Rat.mul_assoc,this,Rat.mul_one]
      rw [e3]
      have c2:Cm L (umix ms).num.natAbs (umix ms):=Cm.of c1 (Nat.le_mul_of_pos_right _ (Rat.den_pos _))
      have c3:Cm (wsum ms).toNat 1 (Rat.divInt 1 ((wsum ms).toNat:Int)):=Cm.div (by omega) (Nat.dvd_refl _) (by show 1 ≤ _; omega)
      have:=(c2.mul c3).d
      exact Nat.dvd_trans this ⟨2,by rw [Nat.mul_comm (L * _) 2,Nat.mul_assoc]⟩
    · have:=xq1 (x:=-x) (B:=(B:Rat)) T0 (by grind)
      grind
section
variable {P:Program} {w:World} {K:PySem.W.Frag} {mg:Str → Option Value} {base:Heap} {A:Adr}
theorem yx1 (n:Nat) (x:Rat):(List.replicate n [fr x]).flatten = (List.replicate n x).map fr:=by
  rw [List.map_replicate]
  simp
noncomputable def zf0 (ms:List Mk) (f l:Nat):List Mk:=(ms.take (l + 1)).drop f
theorem zt7 {kd:Str} (h:kd ∈ kdsL):PyData.strOk kd = true:=by
  have:kd = "far" ∨ kd = "sum" ∨ kd = "square":=by simpa [kdsL] using h
  rcases this with rfl | rfl | rfl <;> decide +kernel
noncomputable def ws7:DW:=fun ds Q _=>∃ (kd:Str) (ms:List Mk) (L f l:Nat),ds = [.str kd,.list (ms.map mk3),.int (f:Int),.int (l:Int)] ∧ kd ∈ kdsL ∧ f ≤ l ∧ l < ms.length ∧ ms.length ≤ 60 ∧ 0 < L ∧ L ≤ 10 ^ 100 ∧ (∀ m ∈ ms,Cm L (10 ^ 100) m.2.1) ∧ (∀ m ∈ ms,1 ≤ m.2.2 ∧ m.2.2 ≤ 10 ^ 100) ∧
  ∀ x,LevelOk kd (zf0 ms f l) x → Q (.dat (fr (meas kd (zf0 ms f l) (List.replicate (zf0 ms f l).length x))))
theorem wv0 (T:Txt K mg A):FnOk P w K mg base (CXE P w) 7 A.a_qu A.d_qu ["kind","marks","first","last"] (spW K ws7):=by
  have G_qo:=yx9 (P:=P) (w:=w) (base:=base) T
  have G_qr:=wj5 (P:=P) (w:=w) (base:=base) T
  have G_qq:=xx2 (P:=P) (w:=w) (base:=base) T
  refine okW T.F_qu sc_qu (fun ds Q E h=>?_) (fun cdv Ar outer s H E hr=>?_)
  · obtain ⟨_,_,_,_,_,rfl,_⟩:=h; rfl
  refine ⟨_,(za5 (zj2 (za9 G_qo (hr.mono (by decide)) rfl T.m_qo T.F_qo.kp T.b_qo .nil ze2 (za0 (pv 0) za4)))
      (za5 (zc1 (i:=4) sc_qu.nd rfl (Or.inl rfl) (zj3 (sllK (K:=K) rfl) (pv 1) (zj7 (pv 2)) (zj7 (zc4 zg8 (pv 3) za6))))
      (za8 (zc5 (za9 G_qq (hr.mono (by decide)) rfl T.m_qq T.F_qq.kp T.b_qq .nil zb7 (za0 (pv 0) (za0 (pv 4) (za0 (zc4 xm9 (zi1 (za0 (za9 G_qr (hr.mono (by decide)) rfl T.m_qr T.F_qr.kp T.b_qr .nil zb7 (za0 (pv 0) (za0 (pv 4) za4))) za4)) (zc7 (lenK (K:=K) rfl) rfl T.n_len PySem.boot_len (za0 (pv 4) za4))) za4)))))))),_,(zb2 (zo9 (za1 (zm1 (za2 (za3 0) za7))))
      (zb2 (zf5 4 (yl7 (zd3 1) (zj8 (za3 2)) (zj8 (za1 (zb6 zh5 (za3 3) (za1 zb3))))))
      (zd6 (za1 (zb1 (za2 (za3 0) (za2 (za3 4) (za2 (za1 (zj5 (xm7 (yy9 (zi2 (zb8 (zb1 (za2 (za3 0) (za2 (za3 4) za7))) zd7) (by decide))) (za1 (ze8 zf9 (za2 (za3 4) za7)))))) za7)))))))),?_⟩
  rintro ds Q X ⟨kd,ms,L,f,l,rfl,hkd,hfl,hl,n60,L0,L1,hc,hw,k⟩
  walk_at "s"
  refine ⟨.str kd,rfl,fun k' e=>by cases e; exact zt7 hkd,fun _=>?_,fun h=>absurd hkd (h _ rfl)⟩
  walk_at "s"
  obtain ⟨S,hS⟩:∃ S,zf0 ms f l = S:=⟨_,rfl⟩
  have eS:cutL (ms.map mk3) (some (f:Int)) (some ((l:Int) + 1)) = S.map mk3:=by
    rw [zv7,← hS]
    unfold cutL zf0
    rw [show (l:Int) + 1 = ((l + 1:Nat):Int) by omega,HT.sIx_nat,HT.sIx_nat,List.drop_take,Nat.min_eq_left (by omega),Nat.min_eq_left (by omega)]
  rw [hS] at k
  rw [eS]
  have Sl:S.length = l + 1 - f:=by rw [← hS,zf0,List.length_drop,List.length_take]; omega
  have Sm:∀ m ∈ S,m ∈ ms:=fun m h=>by rw [← hS] at h; exact List.mem_of_mem_take (List.mem_of_mem_drop h)
  have Sne:S ≠ []:=fun e=>by rw [e,List.length_nil] at Sl; omega
  have Sc:∀ m ∈ S,Cm L (10 ^ 100) m.2.1:=fun m h=>hc m (Sm m h)
  have Sw:∀ m ∈ S,1 ≤ m.2.2 ∧ m.2.2 ≤ 10 ^ 100:=fun m h=>hw m (Sm m h)
  refine ⟨kd,S,L,rfl,hkd,by omega,by omega,L0,L1,Sc,Sw,fun x hx=>⟨rfl,?_⟩⟩
  dsimp only
  rw [List.length_map,Int.toNat_natCast,yx1]
  have wp:=zr4 Sne fun m h=>(Sw m h).1
  have wl:wsum S ≤ 60 * 10 ^ 100:=by
    have h1:=yk7 (W:=10 ^ 100) fun m h=>(Sw m h).2
    have h2:(S.length:Int) * 10 ^ 100 ≤ 60 * 10 ^ 100:=Int.mul_le_mul_of_nonneg_right (by omega) (by decide +kernel)
    omega
  have wn:(wsum S).toNat ≤ 60 * 10 ^ 100:=by omega
  have cx:=yq7 hkd hx Sne Sc fun m h=>(Sw m h).1
  have dl:L ∣ 2 * L * (wsum S).toNat:=⟨2 * (wsum S).toNat,by rw [Nat.mul_comm 2 L,Nat.mul_assoc]⟩
  refine ⟨⟨by omega,by omega⟩,by omega,?_⟩
  refine ⟨.str kd,S,List.replicate S.length x,2 * L * (wsum S).toNat,10 ^ 100,10 ^ 100,203,100,100,rfl,⟨by omega,?_,?_,Nat.le_refl _,Nat.le_refl _,fun m h=>(Sc m h).mono dl (Nat.le_refl _),fun q hq=>?_,fun m h=>?_,by decide⟩,Sne,List.length_replicate,fun k' e=>by cases e; exact zt7 hkd,fun k' e hk'=>?_,fun h=>absurd hkd (h _ rfl)⟩
  · exact Nat.mul_pos (by omega) (by omega)
  · exact Nat.le_trans (Nat.mul_le_mul (Nat.mul_le_mul_left 2 L1) wn) (by decide +kernel)
  · rw [List.eq_of_mem_replicate hq]; exact cx
  · have:=Sw m h; omega
  · cases e
    exact ⟨rfl,k x hx⟩
end
noncomputable def cst (zs:List Pr) (b:Rat):Rat:=tot (zs.map fun z=>z.2 * absR (z.1 - b))
theorem yi9 (p:Pr → Bool) (z:Pr) (zs:List Pr):fsum p (z :: zs) = (if p z = true then z.2 else 0) + fsum p zs:=by
  have e:fsum p (z :: zs) = fsum p [z] + fsum p zs:=zv4 p [z] zs
  rw [e]
  by_cases c:p z = true
  · rw [if_pos c]; simp [fsum,c,tot,Rat.add_zero]
  · rw [if_neg c]; simp [fsum,c,tot]
theorem xq0 {x b:Rat} (hxb:x ≤ b):∀ {zs:List Pr},(∀ z ∈ zs,0 ≤ z.2) → cst zs x + (b - x) * (fsum (fun z=>decide (z.1 ≤ x)) zs + fsum (fun z=>decide (z.1 ≤ x)) zs - tot (zs.map (·.2))) ≤ cst zs b
  | [],_=>by simp [cst,fsum,tot]; grind
  | z :: zs,h=>by
    have ih:=xq0 hxb (zs:=zs) fun y hy=>h y (List.mem_cons_of_mem _ hy)
    have hz:=h z List.mem_cons_self
    have e1:∀ t,cst (z :: zs) t = z.2 * absR (z.1 - t) + cst zs t:=fun t=>rfl
    rw [e1,e1,yi9,List.map_cons,tot]
    generalize fsum (fun z=>decide (z.1 ≤ x)) zs = F at *
    generalize tot (zs.map (·.2)) = W at *
    by_cases c:z.1 ≤ x
    · rw [if_pos (by simpa using c),zo2 (show z.1 - x ≤ 0 by grind),zo2 (show z.1 - b ≤ 0 by grind)]
      grind
    · rw [if_neg (by simpa using c),zl2 (show 0 ≤ z.1 - x by grind)]
      have h1:z.1 - b ≤ absR (z.1 - b):=by rcases zj0 (z.1 - b) with ⟨_,e⟩ | ⟨_,e⟩ <;> rw [e] <;> grind
      have h2:=Rat.mul_nonneg hz (show 0 ≤ absR (z.1 - b) - (z.1 - b) by grind)
      grind
theorem yr9 {x b:Rat} (hxb:b ≤ x):∀ {zs:List Pr},(∀ z ∈ zs,0 ≤ z.2) → cst zs x + (x - b) * (tot (zs.map (·.2)) - (fsum (fun z=>decide (z.1 < x)) zs + fsum (fun z=>decide (z.1 < x)) zs)) ≤ cst zs b
  | [],_=>by simp [cst,fsum,tot]; grind
  | z :: zs,h=>by
    have ih:=yr9 hxb (zs:=zs) fun y hy=>h y (List.mem_cons_of_mem _ hy)
    have hz:=h z List.mem_cons_self
    have e1:∀ t,cst (z :: zs) t = z.2 * absR (z.1 - t) + cst zs t:=fun t=>rfl
    rw [e1,e1,yi9,List.map_cons,tot]
    generalize fsum (fun z=>decide (z.1 < x)) zs = F at *
    generalize tot (zs.map (·.2)) = W at *
    by_cases c:z.1 < x
    · rw [if_pos (by simpa using c),zo2 (show z.1 - x ≤ 0 by grind)]
      have h1:-(z.1 - b) ≤ absR (z.1 - b):=by rcases zj0 (z.1 - b) with ⟨_,e⟩ | ⟨_,e⟩ <;> rw [e] <;> grind
      have h2:=Rat.mul_nonneg hz (show 0 ≤ absR (z.1 - b) + (z.1 - b) by grind)
      grind
    · rw [if_neg (by simpa using c),zl2 (show 0 ≤ z.1 - x by grind),zl2 (show 0 ≤ z.1 - b by grind)]
      grind
theorem yz0 {zs:List Pr} {x:Rat} (nn:∀ z ∈ zs,0 ≤ z.2) (M:Mid zs x) (b:Rat):cst zs x ≤ cst zs b:=by
  rcases Rat.le_total (a:=x) (b:=b) with h | h
  · have h1:=xq0 h nn
    have h2:=Rat.mul_nonneg (show 0 ≤ b - x by grind) (show 0 ≤ fsum (fun z=>decide (z.1 ≤ x)) zs + fsum (fun z=>decide (z.1 ≤ x)) zs - tot (zs.map (·.2)) by have:=M.hi; grind)
    grind
  · have h1:=yr9 h nn
    have h2:=Rat.mul_nonneg (show 0 ≤ x - b by grind) (show 0 ≤ tot (zs.map (·.2)) - (fsum (fun z=>decide (z.1 < x)) zs + fsum (fun z=>decide (z.1 < x)) zs) by have:=M.lo; grind)
    grind
theorem xj1 {hs:List Rat} {a b:Rat} (ha:a ∈ hs) (hla:∀ r ∈ hs,r ≤ a) (hlb:∀ r ∈ hs,b ≤ r):maxR ((hs.map fun h=>h - half0 * (a + b)).map absR) = half0 * (a - b):=by
  have e1:=zs3 a
  have e2:=zs3 b
  have ea:half0 * (a + b) = half0 * a + half0 * b:=Rat.mul_add ..
  have es:half0 * (a - b) = half0 * a - half0 * b:=by rw [Rat.sub_eq_add_neg,Rat.mul_add,Rat.mul_neg,Rat.sub_eq_add_neg]
  have hab:=hlb a ha
  have h0:(0:Rat) ≤ half0:=by decide +kernel
  have nn:=Rat.mul_nonneg h0 (show 0 ≤ a - b by grind)
  have top:absR (a - half0 * (a + b)) = half0 * (a - b):=by
    have:a - half0 * (a + b) = half0 * (a - b):=by grind
    rw [this]; exact zl2 nn
  refine (yd8 nn (.inr ?_) fun q hq=>?_).symm
  · exact List.mem_map.mpr ⟨_,List.mem_map.mpr ⟨a,ha,rfl⟩,top⟩
  · obtain ⟨y,hy,rfl⟩:=List.mem_map.mp hq
    obtain ⟨h,hh,rfl⟩:=List.mem_map.mp hy
    have h1:=hla h hh
    have h2:=hlb h hh
    rcases zj0 (h - half0 * (a + b)) with ⟨_,e⟩ | ⟨_,e⟩ <;> rw [e] <;> grind
noncomputable def sq2 (ms:List Mk):Rat:=tot (ms.map fun m=>(m.2.2:Rat) * m.2.1 * m.2.1)
theorem yl1 (x:Rat):∀ ms:List Mk,tot (ms.map fun m=>(m.2.2:Rat) * (m.2.1 - x) * (m.2.1 - x)) = sq2 ms - (x + x) * umix ms + x * x * (wsum ms:Rat)
  | []=>by
    have e:umix [] = 0:=rfl
    have e2:((wsum []:Int):Rat) = 0:=rfl
    rw [e,e2]; simp [sq2,tot]; grind
  | m :: ms=>by
    have ih:=yl1 x ms
    have e:sq2 (m :: ms) = (m.2.2:Rat) * m.2.1 * m.2.1 + sq2 ms:=rfl
    rw [List.map_cons,tot,ih,e,zw0,wsum,Rat.intCast_add]
    grind
noncomputable def zo6 (ns:List Int) (k:Int):Int:=if k < (ns.length:Int) then ns.getD k.toNat default else 5 * k * k + 11 * k + 2
theorem ys2 {ns:List Int} (h:∀ v ∈ ns,Builtin.Int.intBits v ≤ 1048576) {k:Int} (h0:0 ≤ k) (h1:k ≤ 1000):Bg 1048577 (zo6 ns k):=by
  unfold zo6
  split
  · exact Bg.of (xi7 (p:=fun v=>Builtin.Int.intBits v ≤ 1048576) h (by decide))
  · refine Bg.small ?_ (by decide)
    have h2:5 * k * k ≤ 5000 * 1000:=Int.mul_le_mul (by omega) h1 h0 (by omega)
    have h3:0 ≤ 5 * k * k:=Int.mul_nonneg (by omega) h0
    omega
section
variable {P:Program} {w:World} {K:PySem.W.Frag} {mg:Str → Option Value} {base:Heap} {A:Adr}
noncomputable def ws9:DW:=fun ds Q _=>∃ (ns:List Int) (k:Int),ds = [.list (ns.map .int),.int k] ∧ 0 ≤ k ∧ k ≤ 1000 ∧ Q (.dat (.int (zo6 ns k)))
theorem xn4 (T:Txt K mg A):FnOk P w K mg base (CXE P w) 1 A.a_qp1 A.d_qp1 ["script","k"] (spW K ws9):=by
  refine okW T.F_qp1 wg0 (fun ds Q E h=>?_) (fun cdv Ar outer s H E hr=>?_)
  · obtain ⟨_,_,rfl,_⟩:=h; rfl
  refine ⟨_,(za5 (ze6 (zb9 zu3 (pv 1) (zc7 (lenK (K:=K) rfl) rfl T.n_len PySem.boot_len (za0 (pv 0) za4)) (zc9 _)) (za8 (zc5 (zc2 (ixlK (K:=K) rfl) (pv 0) (pv 1) (fun _ _=>rfl)))) zc6)
      (za8 (zc5 (zc4 zg8 (zc4 zg8 (zc4 ze4 (zc4 ze4 za6 (pv 1)) (pv 1)) (zc4 ze4 za6 (pv 1))) za6)))),_,(zb2 (ze9 (zc0 (za1 (zb6 zl7 (za3 1) (za1 (ze8 zf9 (za2 (za3 0) za7)))))) (zd6 (za1 (ze5 (zd3 0) (za3 1)))) zc8)
      (zd6 (za1 (zb6 zh5 (za1 (zb6 zh5 (za1 (zb6 ro_i (za1 (zb6 ro_i (za1 zb3) (za3 1))) (za3 1))) (za1 (zb6 ro_i (za1 zb3) (za3 1))))) (za1 zb3))))),?_⟩
  rintro ds Q X ⟨ns,k,rfl,h0,h1,kq⟩
  unfold zo6 at kq
  walk_at "s"
  refine ite2 (fun c=>?_) (fun c=>?_)
  · rw [if_pos c] at kq
    exact ⟨_,xe5 PyData.int h0 c,kq⟩
  · rw [if_neg c] at kq
    walk_at "d"
    exact ⟨zh9 (wee (by decide +kernel)) (zr1 (n:=1000) (by omega) (by decide +kernel)),zh9 (zr1 (n:=5000) (by omega) (by decide +kernel)) (zr1 (n:=1000) (by omega) (by decide +kernel)),zh9 (wee (by decide +kernel)) (zr1 (n:=1000) (by omega) (by decide +kernel)),kq⟩
noncomputable def wLow:DW:=fun ds Q _=>∃ t b:Int,ds = [.int t,.int b] ∧ 1 ≤ b ∧ Wee b ∧ Q (.dat (fr (Rat.divInt t b)))
theorem ya3 (T:Txt K mg A):FnOk P w K mg base (CXE P w) 1 A.a_qq1 A.d_qq1 ["top","bottom"] (spW K wLow):=by
  refine okW T.F_qq1 sc_qq1 (fun ds Q E h=>?_) (fun cdv Ar outer s H E hr=>?_)
  · obtain ⟨_,_,rfl,_⟩:=h; rfl
  refine ⟨_,(za5 (zc1 (i:=2) sc_qq1.nd rfl (Or.inl rfl) (zc7 zq6 rfl T.n_abs bt_abs (za0 (pv 0) za4)))
      (za5 (zc1 (i:=3) sc_qq1.nd rfl (Or.inl rfl) (pv 1))
      (za5 (zv0 PassesOwn.leaving (zb9 zx0 (pv 3) za6 (zc9 _)) (za8 (wh7 (i:=2) (j:=3) rfl sc_qq1.nd rfl rfl (by decide) rfl rfl (za0 (pv 3) (za0 (zc4 zi3 (pv 2) (pv 3)) za4)) rfl)))
      (za8 (zc5 (zh6 (za0 (zc4 zg2 (pv 0) (pv 2)) (za0 (zc4 zg2 (pv 1) (pv 2)) za4)))))))),_,(zb2 (zd2 (ze8 zz9 (za2 (za3 0) za7)) (zb0 2))
      (zb2 (zd2 (zb5 1) (zb0 3))
      (zb2 (zu6 (zc0 (za1 (zb6 zl7 (za3 3) (za1 zb3)))) (we8 2 3 (zb8 (zb5 3) (zb8 (zb6 ro_i (za3 2) (za3 3)) zd7))))
      (zd6 (za1 (zh8 (zb8 (zb6 ro_i (za3 0) (za3 2)) (zb8 (zb6 ro_i (za3 1) (za3 2)) zd7)) (by decide))))))),?_⟩
  rintro ds Q X ⟨t,b,rfl,hb,hw,k⟩
  walk_at "s"
  walk_at "s"
  refine zj6 ?_
  refine ⟨fun m δ=>∃ x y:Int,δ = [some (.dat (.int t)),some (.dat (.int b)),some (.dat (.int x)),some (.dat (.int y))] ∧ m = y.toNat ∧ 0 ≤ x ∧ 0 ≤ y ∧ Int.gcd x y = Int.gcd t b,⟨_,_,b,rfl,rfl,by split <;> omega,by omega,by rw [Fm.abs_if]; simp [Int.gcd]⟩,?_⟩
  rintro m δ ⟨x,y,rfl,rfl,hx,hy,hg⟩
  walk_at "d"
  refine ite2 (fun c=>?_) (fun c=>?_)
  · refine ⟨c,_,?_,y,x % y,rfl,rfl,hy,Int.emod_nonneg _ (by omega),?_⟩
    · have:=Int.emod_lt_of_pos x c
      have:=Int.emod_nonneg x (show y ≠ 0 by omega)
      omega
    · rw [Fm.gcd_step x y c,hg]
  · have hy0:y = 0:=by omega
    subst hy0
    have ex:x = ((Int.gcd t b:Nat):Int):=by rw [← hg,Fm.gcd_zero hx]
    have g0:(0:Int) < ((Int.gcd t b:Nat):Int):=by have:=Fm.gcd_pos_right (a:=t) (b:=b) (by omega); omega
    have gw:Wee ((Int.gcd t b:Nat):Int):=yt9 (Fm.gcd_le_right (a:=t) (b:=b) (by omega)) hw
    obtain ⟨e1,e2⟩:=Fm.fr_pos (t:=t) (b:=b) (by omega)
    rw [ex]
    refine ⟨⟨g0,gw⟩,⟨g0,gw⟩,?_⟩
    rw [e1,e2]
    exact k
end
theorem dv_q (h:Int) {b:Int}:Rat.divInt h b = (h:Rat) / (b:Rat):=Rat.divInt_eq_div _ _
theorem zs0 (x:Rat):∀ S:List Mk,zk7 S (List.replicate S.length x) = S.map fun m=>m.2.1 - x
  | []=>rfl
  | m :: S=>by
    have:=zs0 x S
    unfold zk7 at *
    simp only [List.length_cons,List.replicate_succ,List.zipWith_cons_cons,List.map_cons,this]
theorem yf3 (x:Rat):∀ S:List Mk,zg6 S (List.replicate S.length x) = S.map fun m=>(m.2.2:Rat) * (m.2.1 - x):=fun S=>by
  unfold zg6
  rw [zs0]
  induction S with
  | nil=>rfl
  | cons m S ih=>simp only [List.map_cons,List.zipWith_cons_cons,ih]
theorem xl6 (x:Rat):∀ S:List Mk,sqR S (List.replicate S.length x) = S.map fun m=>(m.2.2:Rat) * (m.2.1 - x) * (m.2.1 - x):=fun S=>by
  unfold sqR
  rw [yf3,zs0]
  induction S with
  | nil=>rfl
  | cons m S ih=>simp only [List.map_cons,List.zipWith_cons_cons,ih]
theorem yk6 {v:Int} (hv:1 ≤ v) (y:Rat):absR ((v:Rat) * y) = (v:Rat) * absR y:=by
  have v0:(0:Rat) ≤ (v:Rat):=Rat.intCast_nonneg.mpr (by omega)
  rcases Rat.le_total (a:=0) (b:=y) with h | h
  · rw [zl2 h,zl2 (Rat.mul_nonneg v0 h)]
  · have:=Rat.mul_nonneg v0 (show 0 ≤ -y by grind)
    rw [zo2 h,zo2 (by grind)]; grind
theorem yv8 {x:Rat}:∀ {S:List Mk},(∀ m ∈ S,1 ≤ m.2.2) → tot ((zg6 S (List.replicate S.length x)).map absR) = cst ((hgts S).zip (wgts S)) x:=fun {S} h=>by
  rw [yf3]
  induction S with
  | nil=>rfl
  | cons m S ih =>
    have i:=ih fun y hy=>h y (List.mem_cons_of_mem _ hy)
    have ec:cst ((hgts (m :: S)).zip (wgts (m :: S))) x = (m.2.2:Rat) * absR (m.2.1 - x) + cst ((hgts S).zip (wgts S)) x:=rfl
    rw [ec,← i,List.map_cons,List.map_cons,tot,yk6 (h m List.mem_cons_self)]
section
variable {P:Program} {w:World} {K:PySem.W.Frag} {mg:Str → Option Value} {base:Heap} {A:Adr}
noncomputable def zk0 (kd:Str) (a b:Rat):Rat:=if kd = "far" then (if a < b then b else a) else a + b
noncomputable def xr1 (C:Addr):DW:=fun ds Q X=>∃ (d:PyData) (a b:Rat),ds = [d,fr a,fr b] ∧ Ok a ∧ Ok b ∧ (∀ kd:Str,d = .str kd → PyData.strOk kd = true) ∧ (∀ kd:Str,d = .str kd → kd ∈ kdsL → Q (.dat (fr (zk0 kd a b)))) ∧ ((∀ kd:Str,d = .str kd → kd ∉ kdsL) → X C)
theorem wu9 (T:Txt K mg A):FnOk P w K mg base (CXE P w) 3 A.a_qv A.d_qv ["kind","one","other"] (spW K (xr1 A.x_NoKind)):=by
  have G_qo:=yx9 (P:=P) (w:=w) (base:=base) T
  have G_qj:=xx3 (P:=P) (w:=w) (base:=base) T
  have G_qc:=yy2 (P:=P) (w:=w) (base:=base) T
  refine okW T.F_qv wt7 (fun ds Q E h=>?_) (fun cdv Ar outer s H E hr=>?_)
  · obtain ⟨_,_,_,rfl,_⟩:=h; rfl
  refine ⟨_,(za5 (zj2 (za9 G_qo (hr.mono (by decide)) rfl T.m_qo T.F_qo.kp T.b_qo .nil ze2 (za0 (pv 0) za4)))
      (za5 (ze6 (zb9 zh0 (pv 0) zd0 (zc9 _)) (za8 (zc5 (za9 G_qj (hr.mono (by decide)) rfl T.m_qj T.F_qj.kp T.b_qj .nil zb7 (za0 (zi1 (za0 (pv 1) (za0 (pv 2) za4))) za4)))) zc6)
      (za8 (zc5 (za9 G_qc (hr.mono (by decide)) rfl T.m_qc T.F_qc.kp T.b_qc .nil zb7 (za0 (pv 1) (za0 (pv 2) za4))))))),_,(zb2 (zo9 (za1 (zm1 (za2 (za3 0) za7))))
      (zb2 (ze9 (zc0 (za1 (zb6 zg9 (za3 0) (za1 zd1)))) (zd6 (za1 (zb1 (za2 (za1 (zj5 (zi2 (zb8 (zb5 1) (zb8 (zb5 2) zd7)) (by decide)))) za7)))) zc8)
      (zd6 (za1 (zb1 (za2 (za3 1) (za2 (za3 2) za7))))))),?_⟩
  rintro ds Q X ⟨d,a,b,rfl,oa,ob,ok,k,kx⟩
  walk_at "s"
  refine ⟨d,rfl,ok,?_,kx⟩
  rintro ⟨kd,rfl,hkd⟩
  have kq:=k kd rfl hkd
  unfold zk0 at kq
  walk_at "s"
  refine ite2 (fun c=>?_) (fun c=>?_)
  · have ek:kd = "far":=c
    rw [if_pos ek] at kq
    walk_at "d"
    refine ⟨[a,b],rfl,fun q hq=>?_,fun h=>absurd h (by simp),fun q hq hle=>?_⟩
    · rcases List.mem_cons.mp hq with rfl | hq
      · exact oa
      · rw [List.mem_singleton.mp hq]; exact ob
    · walk_at "d"
      have ha:=hle a (by simp)
      have hb:=hle b (by simp)
      have e:q = (if a < b then b else a):=by
        rcases List.mem_cons.mp hq with rfl | hq
        · rw [if_neg (Rat.not_lt.mpr hb)]
        · rw [List.mem_singleton.mp hq] at ha ⊢
          split
          · rfl
          · exact Rat.le_antisymm (Rat.not_lt.mp ‹_›) ha
      rw [e]
      exact kq
  · have nk:kd ≠ "far":=c
    rw [if_neg nk] at kq
    walk_at "d"
    refine ⟨a,b,rfl,oa,ob,?_⟩
    walk_at "d"
    exact kq
end
theorem zu4 {α β γ:Type} (f:α → β → γ):∀ {A:List α} {r:List β} {B:List α} {t:List β},A.length = r.length → List.zipWith f (A ++ B) (r ++ t) = List.zipWith f A r ++ List.zipWith f B t
  | [],[],_,_,_=>rfl
  | [],_ :: _,_,_,h=>by cases h
  | _ :: _,[],_,_,h=>by cases h
  | a :: A,x :: r,B,t,h=>by
    rw [List.cons_append,List.cons_append,List.zipWith_cons_cons,List.zipWith_cons_cons,List.cons_append,zu4 f (by simpa using h)]
theorem yb4:∀ (a b:List Rat),tot (a ++ b) = tot a + tot b
  | [],b=>by show tot b = 0 + tot b; grind
  | x :: a,b=>by
    have:=yb4 a b
    rw [List.cons_append]
    simp only [tot]
    rw [this]
    grind
theorem xh6 (a b:List Rat):maxR (a ++ b) = if maxR a < maxR b then maxR b else maxR a:=by
  have ha:=yd7 a
  have hb:=yd7 b
  symm
  refine yd8 ?_ ?_ fun x hx=>?_
  · split <;> assumption
  · split
    · rcases @zs1 b with h | h
      · exact .inl h
      · exact .inr (List.mem_append_right _ h)
    · rcases @zs1 a with h | h
      · exact .inl h
      · exact .inr (List.mem_append_left _ h)
  · rcases List.mem_append.mp hx with h | h
    · have:=zt4 x h
      split <;> grind
    · have:=zt4 x h
      split <;> grind
theorem yd5 {A B:List Mk} {r t:List Rat} (h:A.length = r.length):zk7 (A ++ B) (r ++ t) = zk7 A r ++ zk7 B t:=zu4 _ h
theorem ya4 {A:List Mk} {r:List Rat} (h:A.length = r.length):(zk7 A r).length = A.length:=by
  unfold zk7
  rw [List.length_zipWith]; omega
theorem yf4 {A B:List Mk} {r t:List Rat} (h:A.length = r.length):zg6 (A ++ B) (r ++ t) = zg6 A r ++ zg6 B t:=by
  unfold zg6
  rw [yd5 h]
  exact zu4 _ (ya4 h).symm
theorem wf0 {A B:List Mk} {r t:List Rat} (h:A.length = r.length):sqR (A ++ B) (r ++ t) = sqR A r ++ sqR B t:=by
  unfold sqR
  rw [yd5 h,yf4 h]
  refine zu4 _ ?_
  unfold zg6
  rw [List.length_zipWith,ya4 h]; omega
theorem yd6 (kd:Str) {A B:List Mk} {r t:List Rat} (h:A.length = r.length):meas kd (A ++ B) (r ++ t) = zk0 kd (meas kd A r) (meas kd B t):=by
  unfold meas zk0
  by_cases h1:kd = "far"
  · rw [if_pos h1,if_pos h1,if_pos h1,if_pos h1,yd5 h,List.map_append,xh6]
  · rw [if_neg h1,if_neg h1,if_neg h1,if_neg h1]
    by_cases h2:kd = "sum"
    · rw [if_pos h2,if_pos h2,if_pos h2,yf4 h,List.map_append,yb4]
    · rw [if_neg h2,if_neg h2,if_neg h2,wf0 h,yb4]
theorem yt2 (kd:Str) {a a' b b':Rat} (h1:a ≤ a') (h2:b ≤ b'):zk0 kd a b ≤ zk0 kd a' b':=by
  unfold zk0
  by_cases h:kd = "far"
  · rw [if_pos h,if_pos h]
    split <;> split <;> grind
  · rw [if_neg h,if_neg h]
    grind
theorem zr2 {kd:Str} {S:List Mk} {x:Rat} (hk:kd ∈ kdsL) (X:LevelOk kd S x) (hne:S ≠ []) (hw:∀ m ∈ S,1 ≤ m.2.2) (y:Rat):meas kd S (List.replicate S.length x) ≤ meas kd S (List.replicate S.length y):=by
  have hk3:kd = "far" ∨ kd = "sum" ∨ kd = "square":=by simpa [kdsL] using hk
  rcases hk3 with rfl | rfl | rfl
  · obtain ⟨a,b,a1,a2,b1,b2,ex⟩:=X.far rfl
    unfold meas
    rw [if_pos rfl,if_pos rfl]
    have e:zk7 S (List.replicate S.length x) = (hgts S).map fun h=>h - half0 * (a + b):=by rw [zs0,ex,hgts,List.map_map]; rfl
    have e2:zk7 S (List.replicate S.length y) = (hgts S).map fun h=>h - y:=by rw [zs0,hgts,List.map_map]; rfl
    rw [e,xj1 a1 a2 b2,e2]
    have ha:absR (a - y) ≤ maxR (((hgts S).map fun h=>h - y).map absR):=zt4 _ (List.mem_map.mpr ⟨a - y,List.mem_map.mpr ⟨a,a1,rfl⟩,rfl⟩)
    have hb:absR (b - y) ≤ maxR (((hgts S).map fun h=>h - y).map absR):=zt4 _ (List.mem_map.mpr ⟨b - y,List.mem_map.mpr ⟨b,b1,rfl⟩,rfl⟩)
    have hd:=zs3 (a - b)
    rcases zj0 (a - y) with ⟨_,h1⟩ | ⟨_,h1⟩ <;> rcases zj0 (b - y) with ⟨_,h2⟩ | ⟨_,h2⟩ <;> grind
  · unfold meas
    rw [if_neg (by decide),if_pos rfl,if_neg (by decide),if_pos rfl,yv8 hw,yv8 hw]
    refine yz0 (fun z hz=>?_) (X.sum rfl) y
    have:=(List.of_mem_zip hz).2
    obtain ⟨m,hm,e⟩:=List.mem_map.mp this
    rw [← e]
    have:=hw m hm
    exact Rat.intCast_nonneg.mpr (by omega)
  · unfold meas
    rw [if_neg (by decide),if_neg (by decide),if_neg (by decide),if_neg (by decide),xl6,xl6,yl1,yl1]
    have wp:=zr4 hne hw
    have w0:(0:Rat) < (wsum S:Rat):=Rat.intCast_pos.mpr (by omega)
    have h1:x * (wsum S:Rat) = umix S:=by
      rw [X.sq rfl,yb1]
      have:tot (List.zipWith (fun v h=>v * h) (wgts S) (hgts S)) = umix S:=rfl
      rw [this]
      grind
    have h2:0 ≤ (wsum S:Rat) * ((y - x) * (y - x)):=Rat.mul_nonneg (Rat.le_of_lt w0) (by
      rcases Rat.le_total (a:=0) (b:=y - x) with h | h
      · exact Rat.mul_nonneg h h
      · have:=Rat.mul_nonneg (show 0 ≤ -(y - x) by grind) (show 0 ≤ -(y - x) by grind)
        grind)
    rw [← h1]
    grind
open Classical in
noncomputable def cF (kd:Str) (S:List Mk):Rat:=if h:∃ x,LevelOk kd S x then meas kd S (List.replicate S.length h.choose) else 0
theorem xd8 {kd:Str} {S:List Mk} {x:Rat} (hk:kd ∈ kdsL) (X:LevelOk kd S x) (hne:S ≠ []) (hw:∀ m ∈ S,1 ≤ m.2.2):meas kd S (List.replicate S.length x) = cF kd S:=by
  unfold cF
  rw [dif_pos ⟨x,X⟩]
  exact Rat.le_antisymm (zr2 hk X hne hw _) (zr2 hk (Exists.choose_spec (⟨x,X⟩:∃ x,LevelOk kd S x)) hne hw _)
theorem wq9 {kd:Str} {S:List Mk} (hk:kd ∈ kdsL) (hx:∃ x,LevelOk kd S x) (hne:S ≠ []) (hw:∀ m ∈ S,1 ≤ m.2.2) (y:Rat):cF kd S ≤ meas kd S (List.replicate S.length y):=by
  obtain ⟨x,X⟩:=hx
  rw [← xd8 hk X hne hw]
  exact zr2 hk X hne hw y
noncomputable def zi6 (kd:Str) (c:Nat → Nat → Rat) (a:Nat → Rat) (i:Nat):Nat → Rat × Nat
  | 0=>(c 0 i,0)
  | m + 1=>if zk0 kd (a m) (c (m + 1) i) < (zi6 kd c a i m).1 then (zk0 kd (a m) (c (m + 1) i),m + 1) else zi6 kd c a i m
noncomputable def tabE (kd:Str) (c:Nat → Nat → Rat):Nat → Nat → Rat × Nat
  | 0,i=>(c 0 i,0)
  | j + 1,i=>zi6 kd c (fun h=>(tabE kd c j h).1) i i
theorem xe0 (kd:Str) (c:Nat → Nat → Rat) (a:Nat → Rat) (i:Nat):∀ m,(zi6 kd c a i m).1 ≤ c 0 i ∧ ∀ h,h < m → (zi6 kd c a i m).1 ≤ zk0 kd (a h) (c (h + 1) i)
  | 0=>⟨Rat.le_refl,fun h hh=>absurd hh (by omega)⟩
  | m + 1=>by
    obtain ⟨h1,h2⟩:=xe0 kd c a i m
    unfold zi6
    split
    · rename_i hc
      refine ⟨by simp only; grind,fun h hh=>?_⟩
      rcases Nat.lt_or_eq_of_le (Nat.lt_succ_iff.mp hh) with hl | rfl
      · have:=h2 h hl
        simp only; grind
      · exact Rat.le_refl
    · rename_i hc
      refine ⟨h1,fun h hh=>?_⟩
      rcases Nat.lt_or_eq_of_le (Nat.lt_succ_iff.mp hh) with hl | rfl
      · exact h2 h hl
      · exact Rat.not_lt.mp hc
theorem xe2 (kd:Str) (c:Nat → Nat → Rat) (a:Nat → Rat) (i:Nat):∀ m,zi6 kd c a i m = (c 0 i,0) ∨ ∃ h,h < m ∧ zi6 kd c a i m = (zk0 kd (a h) (c (h + 1) i),h + 1)
  | 0=>.inl rfl
  | m + 1=>by
    unfold zi6
    split
    · exact .inr ⟨m,by omega,rfl⟩
    · rcases xe2 kd c a i m with h | ⟨h,hl,e⟩
      · exact .inl h
      · exact .inr ⟨h,by omega,e⟩
inductive FwL:Nat → Rat → List Rat → Prop
  | one (j:Nat) (x:Rat):FwL j x [x]
  | same {j:Nat} {x:Rat} {r:List Rat}:FwL j x r → FwL j x (r ++ [x])
  | step {j:Nat} {x y:Rat} {r:List Rat}:FwL j y r → FwL (j + 1) x (r ++ [x])
theorem FwL.up {j:Nat} {x:Rat} {r:List Rat} (h:FwL j x r):∀ d,FwL (j + d) x r:=by
  induction h with
  | one j x=>exact fun d=>.one _ _
  | same _ ih=>exact fun d=>.same (ih d)
  | @step j x y r _ ih =>
    intro d
    have:=ih d
    rw [show j + 1 + d = j + d + 1 from by omega]
    exact .step this
theorem FwL.ne {j:Nat} {x:Rat} {r:List Rat} (h:FwL j x r):1 ≤ r.length:=by
  cases h <;> simp
theorem zu9 (m:Nat) (x:Rat):List.replicate (m + 1) x = List.replicate m x ++ [x]:=List.replicate_succ'
theorem FwL.last {j:Nat} {x:Rat} {r:List Rat} (h:FwL j x r):∃ m,r = List.replicate (m + 1) x ∨ ∃ j' y r1,j = j' + 1 ∧ FwL j' y r1 ∧ r = r1 ++ List.replicate (m + 1) x:=by
  induction h with
  | one j x=>exact ⟨0,.inl rfl⟩
  | @same j x r h ih =>
    obtain ⟨m,e | ⟨j',y,r1,e1,h1,e⟩⟩:=ih
    · exact ⟨m + 1,.inl (by rw [e,zu9 (m + 1)])⟩
    · exact ⟨m + 1,.inr ⟨j',y,r1,e1,h1,by rw [e,zu9 (m + 1),List.append_assoc]⟩⟩
  | @step j x y r h ih=>exact ⟨0,.inr ⟨j,y,r,rfl,h,rfl⟩⟩
theorem FwL.rep (j:Nat) (x:Rat):∀ m,FwL j x (List.replicate (m + 1) x)
  | 0=>.one j x
  | m + 1=>by rw [zu9]; exact .same (FwL.rep j x m)
theorem FwL.app {j:Nat} {y:Rat} {r:List Rat} (h:FwL j y r) (x:Rat):∀ m,FwL (j + 1) x (r ++ List.replicate (m + 1) x)
  | 0=>.step h
  | m + 1=>by rw [zu9,← List.append_assoc]; exact .same (FwL.app h x m)
theorem yo7 (ms:List Mk) {h i:Nat} (hi:h < i):ms.take (i + 1) = ms.take (h + 1) ++ zf0 ms (h + 1) i:=by
  unfold zf0
  have e:ms.take (h + 1) = (ms.take (i + 1)).take (h + 1):=by rw [List.take_take,Nat.min_eq_left (by omega)]
  rw [e]
  exact (List.take_append_drop _ _).symm
theorem zm3 {ms:List Mk} {f l:Nat} (hl:l < ms.length):(zf0 ms f l).length = l + 1 - f:=by
  unfold zf0
  rw [List.length_drop,List.length_take]; omega
theorem zk1 {ms:List Mk} {f l:Nat} {m:Mk} (h:m ∈ zf0 ms f l):m ∈ ms:=List.mem_of_mem_take (List.mem_of_mem_drop h)
section
variable {kd:Str} {ms:List Mk}
theorem xr3 (hk:kd ∈ kdsL) (hw:∀ m ∈ ms,1 ≤ m.2.2) (hx:∀ f l,f ≤ l → l < ms.length → ∃ x,LevelOk kd (zf0 ms f l) x) :
    ∀ (j:Nat) {x:Rat} {r:List Rat} {i:Nat},FwL j x r → r.length = i + 1 → i < ms.length → (tabE kd (fun f l=>cF kd (zf0 ms f l)) j i).1 ≤ meas kd (ms.take (i + 1)) r:=by
  have one:∀ {i:Nat} (x:Rat),i < ms.length → cF kd (zf0 ms 0 i) ≤ meas kd (ms.take (i + 1)) (List.replicate (i + 1) x):=fun {i} x hi=>by
    have hl:=zm3 (f:=0) hi
    have:=wq9 hk (hx 0 i (by omega) hi) (fun e=>by rw [e] at hl; simp at hl) (fun m hm=>hw m (zk1 hm)) x
    rw [hl] at this
    exact this
  intro j
  induction j with
  | zero =>
    intro x r i h hr hi
    obtain ⟨m,e | ⟨j',_,_,e1,_,_⟩⟩:=h.last
    · subst e
      rw [List.length_replicate] at hr
      rw [hr]
      exact one x hi
    · omega
  | succ j ih =>
    intro x r i h hr hi
    obtain ⟨b1,b2⟩:=xe0 kd (fun f l=>cF kd (zf0 ms f l)) (fun h=>(tabE kd (fun f l=>cF kd (zf0 ms f l)) j h).1) i i
    obtain ⟨m,e | ⟨j',y,r1,e1,h1,e⟩⟩:=h.last
    · subst e
      rw [List.length_replicate] at hr
      rw [hr]
      exact Rat.le_trans b1 (one x hi)
    · have ej:j = j':=by omega
      subst ej
      have n1:=h1.ne
      obtain ⟨h',hh⟩:∃ h',r1.length = h' + 1:=⟨r1.length - 1,by omega⟩
      have hr2:h' + 1 + (m + 1) = i + 1:=by rw [← hr,e,List.length_append,List.length_replicate,hh]
      have hlt:h' < i:=by omega
      have i1:=ih h1 hh (by omega)
      have hl:=zm3 (f:=h' + 1) hi
      have i2:=wq9 hk (hx (h' + 1) i (by omega) hi) (fun e=>by rw [e] at hl; simp at hl; omega) (fun m hm=>hw m (zk1 hm)) x
      have e3:i + 1 - (h' + 1) = m + 1:=by omega
      rw [hl,e3] at i2
      rw [e,yo7 ms hlt,yd6 kd (by rw [List.length_take,hh]; omega)]
      exact Rat.le_trans (b2 h' hlt) (yt2 kd i1 i2)
inductive Laid (kd:Str) (ms:List Mk):Nat → Nat → List Rat → Prop
  | base {j i:Nat} {x:Rat}:(tabE kd (fun f l=>cF kd (zf0 ms f l)) j i).2 = 0 → LevelOk kd (zf0 ms 0 i) x → Laid kd ms j i (List.replicate (i + 1) x)
  | step {j i h:Nat} {x:Rat} {r:List Rat}:(tabE kd (fun f l=>cF kd (zf0 ms f l)) (j + 1) i).2 = h + 1 → h < i → Laid kd ms j h r → LevelOk kd (zf0 ms (h + 1) i) x → Laid kd ms (j + 1) i (r ++ List.replicate (i - h) x)
theorem zo7 (j i:Nat):(tabE kd (fun f l=>cF kd (zf0 ms f l)) j i = (cF kd (zf0 ms 0 i),0)) ∨
    ∃ j' h,j = j' + 1 ∧ h < i ∧ tabE kd (fun f l=>cF kd (zf0 ms f l)) j i = (zk0 kd (tabE kd (fun f l=>cF kd (zf0 ms f l)) j' h).1 (cF kd (zf0 ms (h + 1) i)),h + 1):=by
  cases j with
  | zero=>exact .inl rfl
  | succ j =>
    rcases xe2 kd (fun f l=>cF kd (zf0 ms f l)) (fun h=>(tabE kd (fun f l=>cF kd (zf0 ms f l)) j h).1) i i with h | ⟨h,hl,e⟩
    · exact .inl h
    · exact .inr ⟨j,h,rfl,hl,e⟩
theorem Laid.is (hk:kd ∈ kdsL) (hw:∀ m ∈ ms,1 ≤ m.2.2) {j i:Nat} {r:List Rat} (L:Laid kd ms j i r) (hi:i < ms.length) :
    r.length = i + 1 ∧ (∃ x,FwL j x r) ∧ meas kd (ms.take (i + 1)) r = (tabE kd (fun f l=>cF kd (zf0 ms f l)) j i).1:=by
  induction L with
  | @base j i x h0 hL =>
    have hl:=zm3 (f:=0) hi
    have e:=xd8 hk hL (fun e=>by rw [e] at hl; simp at hl) fun m hm=>hw m (zk1 hm)
    rw [hl] at e
    refine ⟨List.length_replicate,⟨x,FwL.rep j x i⟩,?_⟩
    rcases zo7 (kd:=kd) (ms:=ms) j i with h | ⟨j',h,_,_,e2⟩
    · rw [h]; exact e
    · rw [e2] at h0; cases h0
  | @step j i h x r h0 hh hr hL ih =>
    obtain ⟨l1,⟨y,f1⟩,m1⟩:=ih (by omega)
    have hl:=zm3 (f:=h + 1) hi
    have e:=xd8 hk hL (fun e=>by rw [e] at hl; simp at hl; omega) fun m hm=>hw m (zk1 hm)
    have e3:i + 1 - (h + 1) = i - h:=by omega
    rw [hl,e3] at e
    refine ⟨by rw [List.length_append,List.length_replicate]; omega,⟨x,?_⟩,?_⟩
    · obtain ⟨m,hm⟩:∃ m,i - h = m + 1:=⟨i - h - 1,by omega⟩
      rw [hm]
      exact f1.app x m
    · rw [yo7 ms hh,yd6 kd (by rw [List.length_take,l1]; omega),m1,e]
      rcases zo7 (kd:=kd) (ms:=ms) (j + 1) i with h2 | ⟨j',h2,ej,_,e2⟩
      · rw [h2] at h0; cases h0
      · have ej2:j = j':=by omega
        subst ej2
        rw [e2] at h0
        have:h2 = h:=by simpa using h0
        subst this
        rw [e2]
end
section
variable {dl:DL} {cap:List (Option Nat)} {dg:DG} {dt:DT} {de:DE} {ex:DX} {δ:DEn} {Q:List PyData → Prop}
theorem yz7 {α β:Type} (f:α → PyData) (g:β → PyData) (F:α → List β) (xs:List α) (p:α → Prop) (hlen:xs.length ≤ 1000) (hl:∀ Q,Q (xs.map f) → dl ex δ Q)
    (hs:∀ x ∈ xs,∀ N:List PyData → Prop,∀ acc,(p x → N (acc ++ (F x).map g)) → dg (f x) (capD cap δ) fun δ2=>dt (fun _=>False) δ2 fun b=>if b = true then de (fun _=>False) δ2 fun y=>N (acc ++ [y]) else N acc)
    (hd:(∀ x ∈ xs,p x) → Q ((xs.flatMap F).map g)):dLC dl cap dg dt de ex δ Q :=
  hl _ ⟨by rw [List.length_map]; exact hlen,fun i acc=>acc = ((xs.take i).flatMap F).map g ∧ ∀ x ∈ xs.take i,p x,⟨by simp,by simp⟩,fun i d acc hi hI=>by
    rw [List.getElem?_map] at hi
    cases q:xs[i]? with
    | none=>rw [q] at hi; cases hi
    | some x =>
      rw [q] at hi
      cases hi
      obtain ⟨rfl,hp⟩:=hI
      refine hs x (List.mem_of_getElem? q) (fun acc=>acc = ((xs.take (i + 1)).flatMap F).map g ∧ ∀ x ∈ xs.take (i + 1),p x) _ fun px=>?_
      have e:xs.take (i + 1) = xs.take i ++ [x]:=by
        rw [List.take_add_one,q]; rfl
      rw [e]
      refine ⟨by simp,fun z hz=>?_⟩
      rcases List.mem_append.mp hz with h | h
      · exact hp z h
      · rw [List.mem_singleton.mp h]; exact px,fun acc hI=>by
    obtain ⟨rfl,hp⟩:=hI
    rw [List.length_map,List.take_of_length_le (Nat.le_refl _)] at hp ⊢
    exact hd hp⟩
end
section
variable {P:Program} {w:World} {K:PySem.W.Frag} {mg:Str → Option Value} {base:Heap} {A:Adr}
noncomputable def wd0:DW:=fun ds Q _=>∃ p q r s:Int,ds = [.tuple [.int p,.int q],.tuple [.int r,.int s]] ∧ Wee p ∧ Wee q ∧ Wee r ∧ Wee s ∧ Q (.dat (.bool (decide (p * s < r * q))))
theorem yl9 (T:Txt K mg A):FnOk P w K mg base (CXE P w) 1 A.a_qg A.d_qg ["one","other"] (spW K wd0):=by
  refine okW T.F_qg wg8 (fun ds Q E h=>?_) (fun cdv Ar outer s H E hr=>?_)
  · obtain ⟨_,_,_,_,rfl,_⟩:=h; rfl
  refine ⟨_,(za8 (zc5 (zp5 zu3 (zc4 ze4 (zc2 (ixtK (K:=K) rfl) (pv 0) za6 (fun _ _=>rfl)) (zc2 (ixtK (K:=K) rfl) (pv 1) za6 (fun _ _=>rfl))) (zc4 ze4 (zc2 (ixtK (K:=K) rfl) (pv 1) za6 (fun _ _=>rfl)) (zc2 (ixtK (K:=K) rfl) (pv 0) za6 (fun _ _=>rfl))) (zc9 _)))),_,(zd6 (za1 (zb6 zl7 (za1 (zb6 ro_i (za1 (zc3 0 (zb5 0))) (za1 (zc3 1 (zb5 1))))) (za1 (zb6 ro_i (za1 (zc3 0 (zb5 1))) (za1 (zc3 1 (zb5 0)))))))),?_⟩
  rintro ds Q X ⟨p,q,r,s,rfl,hp,hq,hr,hs,k⟩
  walk_at "d"
  exact ⟨zh9 hp hs,zh9 hr hq,k⟩
theorem zr8 (a:Rat):a * (a.den:Rat) = (a.num:Rat):=(Fm.num_eq a).symm
theorem xe6 (a b e:Rat):(a.num * (b.den:Int) + b.num * (a.den:Int)) * (e.den:Int) < e.num * ((a.den:Int) * (b.den:Int)) ↔ a + b < e:=by
  have ha:a * (a.den:Rat) = (a.num:Rat):=zr8 a
  have hb:b * (b.den:Rat) = (b.num:Rat):=zr8 b
  have he:e * (e.den:Rat) = (e.num:Rat):=zr8 e
  have pa:(0:Rat) < (a.den:Rat):=by have:=dpos a; exact_mod_cast this
  have pb:(0:Rat) < (b.den:Rat):=by have:=dpos b; exact_mod_cast this
  have pe:(0:Rat) < (e.den:Rat):=by have:=dpos e; exact_mod_cast this
  have pd:(0:Rat) < (a.den:Rat) * (b.den:Rat) * (e.den:Rat):=Rat.mul_pos (Rat.mul_pos pa pb) pe
  rw [← Rat.intCast_lt_intCast]
  have e1:(((a.num * (b.den:Int) + b.num * (a.den:Int)) * (e.den:Int):Int):Rat) = (a + b) * ((a.den:Rat) * (b.den:Rat) * (e.den:Rat)):=by
    rw [Rat.intCast_mul,Rat.intCast_add,Rat.intCast_mul,Rat.intCast_mul,← ha,← hb]
    show (a * (a.den:Rat) * (b.den:Rat) + b * (b.den:Rat) * (a.den:Rat)) * (e.den:Rat) = _
    grind
  have e2:((e.num * ((a.den:Int) * (b.den:Int)):Int):Rat) = e * ((a.den:Rat) * (b.den:Rat) * (e.den:Rat)):=by
    rw [Rat.intCast_mul,Rat.intCast_mul,← he]
    show e * (e.den:Rat) * ((a.den:Rat) * (b.den:Rat)) = _
    grind
  rw [e1,e2]
  constructor
  · intro h
    refine Rat.not_le.mp fun z=>?_
    have:=Rat.mul_le_mul_of_nonneg_right z (Rat.le_of_lt pd)
    grind
  · intro h
    exact Rat.mul_lt_mul_of_pos_right h pd
noncomputable def we0:DW:=fun ds Q _=>∃ (kd:Str) (e a b:Rat) (D Da:Nat),ds = [.str kd,fr e,fr a,fr b] ∧ Dg D e ∧ Dg Da a ∧ Dg D b ∧ D + Da ≤ 2300 ∧ D ≤ 2300 ∧ Ok e ∧ Q (.dat (.bool (decide (zk0 kd a b < e))))
theorem wu6 (T:Txt K mg A):FnOk P w K mg base (CXE P w) 2 A.a_qy A.d_qy ["kind","entry","one","other"] (spW K we0):=by
  have G_qg:=yl9 (P:=P) (w:=w) (base:=base) T
  refine okW T.F_qy wt4 (fun ds Q E h=>?_) (fun cdv Ar outer s H E hr=>?_)
  · obtain ⟨_,_,_,_,_,_,rfl,_⟩:=h; rfl
  refine ⟨_,(za5 (ze6 (zb9 zh0 (pv 0) zd0 (zc9 _)) (za8 (zc5 (wi4 (za9 G_qg (hr.mono (by decide)) rfl T.m_qg T.F_qg.kp T.b_qg .nil zb7 (za0 (pv 2) (za0 (pv 1) za4))) (wi3 (za9 G_qg (hr.mono (by decide)) rfl T.m_qg T.F_qg.kp T.b_qg .nil zb7 (za0 (pv 3) (za0 (pv 1) za4))))))) zc6)
      (za8 (zc5 (za9 G_qg (hr.mono (by decide)) rfl T.m_qg T.F_qg.kp T.b_qg .nil zb7 (za0 (zh6 (za0 (zc4 zg8 (zc4 ze4 (zc2 (ixtK (K:=K) rfl) (pv 2) za6 (fun _ _=>rfl)) (zc2 (ixtK (K:=K) rfl) (pv 3) za6 (fun _ _=>rfl))) (zc4 ze4 (zc2 (ixtK (K:=K) rfl) (pv 3) za6 (fun _ _=>rfl)) (zc2 (ixtK (K:=K) rfl) (pv 2) za6 (fun _ _=>rfl)))) (za0 (zc4 ze4 (zc2 (ixtK (K:=K) rfl) (pv 2) za6 (fun _ _=>rfl)) (zc2 (ixtK (K:=K) rfl) (pv 3) za6 (fun _ _=>rfl))) za4))) (za0 (pv 1) za4)))))),_,(zb2 (ze9 (zc0 (za1 (zb6 zg9 (za3 0) (za1 zd1)))) (zd6 (za1 (wo5 (za1 (zb1 (za2 (za3 2) (za2 (za3 1) za7)))) (zb1 (za2 (za3 3) (za2 (za3 1) za7)))))) zc8)
      (zd6 (za1 (zb1 (za2 (za1 (zh8 (zb8 (zb6 zh5 (za1 (zb6 ro_i (za1 (zc3 0 (zb5 2))) (za1 (zc3 1 (zb5 3))))) (za1 (zb6 ro_i (za1 (zc3 0 (zb5 3))) (za1 (zc3 1 (zb5 2)))))) (zb8 (zb6 ro_i (za1 (zc3 1 (zb5 2))) (za1 (zc3 1 (zb5 3)))) zd7)) (by decide))) (za2 (za3 1) za7)))))),?_⟩
  rintro ds Q X ⟨kd,e,a,b,D,Da,rfl,de,da,db,hD,hD2,oe,k⟩
  have oa:Ok a:=dgOk da (by omega)
  have ob:Ok b:=dgOk db (by omega)
  unfold zk0 at k
  walk_at "s"
  refine ite2 (fun c=>?_) (fun c=>?_)
  · have ek:kd = "far":=c
    rw [if_pos ek] at k
    walk_at "d"
    refine ⟨_,_,_,_,rfl,oa.n,oa.d,oe.n,oe.d,?_⟩
    have e1:decide (a.num * (e.den:Int) < e.num * (a.den:Int)) = decide (a < e):=by rw [decide_eq_decide]; exact Fm.less_iff a e
    have e2:decide (b.num * (e.den:Int) < e.num * (b.den:Int)) = decide (b < e):=by rw [decide_eq_decide]; exact Fm.less_iff b e
    walk_at "d"
    refine ite2 (fun c2=>?_) (fun c2=>?_)
    · have ha:a < e:=(Fm.less_iff a e).mp c2
      refine ⟨_,_,_,_,rfl,ob.n,ob.d,oe.n,oe.d,?_⟩
      rw [e2]
      have e3:decide ((if a < b then b else a) < e) = decide (b < e):=by
        rw [decide_eq_decide]
        split
        · exact Iff.rfl
        · exact ⟨fun _=>by grind,fun _=>ha⟩
      rw [e3] at k
      walk_at "d"
      exact k
    · have ha:¬ a < e:=fun z=>c2 ((Fm.less_iff a e).mpr z)
      have e3:decide ((if a < b then b else a) < e) = false:=decide_eq_false (by split <;> grind)
      rw [e3] at k
      exact k
  · have nk:kd ≠ "far":=c
    rw [if_neg nk] at k
    have pr:∀ {x y:Int},x.natAbs ≤ 10 ^ Da → y.natAbs ≤ 10 ^ D → (x * y).natAbs ≤ 10 ^ (D + Da):=fun {x y} hx hy=>by
      rw [Int.natAbs_mul,Nat.add_comm D Da,Nat.pow_add]
      exact Nat.mul_le_mul hx hy
    have p1:=pr da.n (y:=(b.den:Int)) (by have:=db.d; omega)
    have p2:=pr (x:=(a.den:Int)) (by have:=da.d; omega) db.n
    have p3:=pr (x:=(a.den:Int)) (y:=(b.den:Int)) (by have:=da.d; omega) (by have:=db.d; omega)
    rw [Int.mul_comm] at p2
    have hs:(a.num * (b.den:Int) + b.num * (a.den:Int)).natAbs ≤ 10 ^ (D + Da + 1):=by
      have:=Int.natAbs_add_le (a.num * (b.den:Int)) (b.num * (a.den:Int))
      rw [Nat.pow_succ]
      omega
    walk_at "d"
    refine ⟨zh9 oa.n ob.d,zh9 ob.n oa.d,zh9 oa.d ob.d,_,_,_,_,rfl,zo3 hs (by omega),zo3 p3 (by omega),oe.n,oe.d,?_⟩
    have e1:decide ((a.num * (b.den:Int) + b.num * (a.den:Int)) * (e.den:Int) < e.num * ((a.den:Int) * (b.den:Int))) = decide (a + b < e):=by rw [decide_eq_decide]; exact xe6 a b e
    rw [e1]
    walk_at "d"
    exact k
end
structure MkC (L:Nat) (ms:List Mk):Prop where
  n1:1 ≤ ms.length
  n60:ms.length ≤ 60
  L0:0 < L
  L1:L ≤ 10 ^ 100
  hc:∀ m ∈ ms,Cm L (10 ^ 100) m.2.1
  hw:∀ m ∈ ms,1 ≤ m.2.2 ∧ m.2.2 ≤ 10 ^ 100
noncomputable def ye7 (kd:Str) (ms:List Mk) (l:Nat):List Rat:=(List.range (l + 1)).map fun f=>cF kd (zf0 ms f l)
section
variable {P:Program} {w:World} {K:PySem.W.Frag} {mg:Str → Option Value} {base:Heap} {A:Adr}
noncomputable def xf2:DW:=fun ds Q _=>∃ (kd:Str) (ms:List Mk) (L l:Nat),ds = [.str kd,.list (ms.map mk3),.int (l:Int)] ∧ kd ∈ kdsL ∧ MkC L ms ∧ l < ms.length ∧
  ((∀ f,f ≤ l → ∃ x,LevelOk kd (zf0 ms f l) x) → Q (.own ((ye7 kd ms l).map fr)))
theorem wu8 (T:Txt K mg A):FnOk P w K mg base (CXE P w) 8 A.a_qw A.d_qw ["kind","marks","last"] (spW K xf2):=by
  have G_qu:=wv0 (P:=P) (w:=w) (base:=base) T
  refine okW T.F_qw wt6 (fun ds Q E h=>?_) (fun cdv Ar outer s H E hr=>?_)
  · obtain ⟨_,_,_,_,rfl,_⟩:=h; rfl
  refine ⟨_,(za8 (zc5 (zm2 (cap:=[none,some 0,some 1,some 2]) (NC:=["first","kind","marks","last"]) rfl ⟨rfl,rfl,by decide +kernel,by decide +kernel,⟨⟨_,rfl,rfl,rfl,rfl,rfl⟩,⟨⟨_,rfl,rfl,rfl,rfl,rfl⟩,⟨⟨_,rfl,rfl,rfl,rfl,rfl⟩,trivial⟩⟩⟩,(List.forall_mem_cons.2 ⟨rfl,(List.forall_mem_cons.2 ⟨rfl,(List.forall_mem_cons.2 ⟨rfl,(fun _ h=>nomatch h)⟩)⟩)⟩),rfl⟩ (zw9 rfl T.n_range (za0 (zc4 zg8 (pv 2) za6) za4)) (fun _ _ _ _=>(zd5 (i:=0) (show List.Nodup (["first","kind","marks","last"]:List Str) by decide) rfl (Or.inl rfl))) (fun _ _ _ _=>zf7) (fun _ _ _ _=>(za9 G_qu (hr.mono (by decide)) rfl T.m_qu T.F_qu.kp T.b_qu .nil zb7 (za0 (pv 1) (za0 (pv 2) (za0 (pv 0) (za0 (pv 3) za4))))))))),_,(zs8 (zk2 (IvS.e (ym5 (za2 (za1 (zb6 zh5 (za3 2) (za1 zb3))) za7))) (zb0 0) zh2 (zb1 (za2 (za3 1) (za2 (za3 2) (za2 (za3 0) (za2 (za3 3) za7))))) (by decide) (by decide))),?_⟩
  rintro ds Q X ⟨kd,ms,L,l,rfl,hk,M,hl,k⟩
  walk_at "d"
  refine yz7 (fun f:Nat=>PyData.int (0 + (f:Int) * 1)) fr (fun f:Nat=>[cF kd (zf0 ms f l)]) (List.range (l + 1)) (fun f=>∃ x,LevelOk kd (zf0 ms f l) x) (by rw [List.length_range]; have:=M.n60; omega) (fun Q h=>by
      walk_at "d"
      refine ⟨⟨by omega,by have:=M.n60; omega⟩,?_⟩
      have e:((l:Int) + 1).toNat = l + 1:=by omega
      rw [e]; exact h) (fun f hf N acc hN=>?_) (fun hp=>?_)
  · have hf2:=List.mem_range.mp hf
    walk_at "d"
    refine ⟨kd,ms,L,f,l,by rw [show (0:Int) + (f:Int) * 1 = (f:Int) by omega],hk,by omega,hl,M.n60,M.L0,M.L1,M.hc,M.hw,fun x hx=>?_⟩
    have hlen:=zm3 (f:=f) hl
    rw [xd8 hk hx (fun e=>by rw [e] at hlen; simp at hlen; omega) fun m hm=>(M.hw m (zk1 hm)).1]
    walk_at "d"
    exact hN ⟨x,hx⟩
  · rw [zd4]
    exact k fun f hf=>hp f (List.mem_range.mpr (by omega))
noncomputable def wq7 (kd:Str) (ms:List Mk):List PyData:=(List.range ms.length).map fun l=>PyData.list ((ye7 kd ms l).map fr)
noncomputable def yu3:DW:=fun ds Q _=>∃ (kd:Str) (ms:List Mk) (L:Nat),ds = [.str kd,.list (ms.map mk3)] ∧ kd ∈ kdsL ∧ MkC L ms ∧
  ((∀ f l,f ≤ l → l < ms.length → ∃ x,LevelOk kd (zf0 ms f l) x) → Q (.own (wq7 kd ms)))
theorem wu7 (T:Txt K mg A):FnOk P w K mg base (CXE P w) 9 A.a_qx A.d_qx ["kind","marks"] (spW K yu3):=by
  have G_qw:=wu8 (P:=P) (w:=w) (base:=base) T
  refine okW T.F_qx wt5 (fun ds Q E h=>?_) (fun cdv Ar outer s H E hr=>?_)
  · obtain ⟨_,_,_,rfl,_⟩:=h; rfl
  refine ⟨_,(za8 (zc5 (zm2 (cap:=[none,some 0,some 1]) (NC:=["last","kind","marks"]) rfl ⟨rfl,rfl,by decide +kernel,by decide +kernel,⟨⟨_,rfl,rfl,rfl,rfl,rfl⟩,⟨⟨_,rfl,rfl,rfl,rfl,rfl⟩,trivial⟩⟩,(List.forall_mem_cons.2 ⟨rfl,(List.forall_mem_cons.2 ⟨rfl,(fun _ h=>nomatch h)⟩)⟩),rfl⟩ (zw9 rfl T.n_range (za0 (zc7 (lenK (K:=K) rfl) rfl T.n_len PySem.boot_len (za0 (pv 1) za4)) za4)) (fun _ _ _ _=>(zd5 (i:=0) (show List.Nodup (["last","kind","marks"]:List Str) by decide) rfl (Or.inl rfl))) (fun _ _ _ _=>zf7) (fun _ _ _ _=>(za9 G_qw (hr.mono (by decide)) rfl T.m_qw T.F_qw.kp T.b_qw .nil zb7 (za0 (pv 1) (za0 (pv 2) (za0 (pv 0) za4)))))))),_,(zs8 (zk2 (IvS.e (ym5 (za2 (za1 (ze8 zf9 (za2 (za3 1) za7))) za7))) (zb0 0) zh2 (zj5 (zj4 (za2 (za3 1) (za2 (za3 2) (za2 (za3 0) za7))))) (by decide) (by decide))),?_⟩
  rintro ds Q X ⟨kd,ms,L,rfl,hk,M,k⟩
  walk_at "d"
  refine yz7 (fun f:Nat=>PyData.int (0 + (f:Int) * 1)) (fun l:Nat=>PyData.list ((ye7 kd ms l).map fr)) (fun l:Nat=>[l]) (List.range ms.length) (fun l=>∀ f,f ≤ l → ∃ x,LevelOk kd (zf0 ms f l) x) (by rw [List.length_range]; have:=M.n60; omega) (fun Q h=>by
      walk_at "d"
      rw [Int.toNat_natCast]
      exact ⟨⟨by omega,by have:=M.n60; omega⟩,h⟩) (fun l hl N acc hN=>?_) (fun hp=>?_)
  · have hl2:=List.mem_range.mp hl
    walk_at "d"
    refine ⟨kd,ms,L,l,by rw [show (0:Int) + (l:Int) * 1 = (l:Int) by omega],hk,M,hl2,fun hx=>?_⟩
    have hN2:=hN hx
    walk_at "d"
    exact ⟨zm6 _,hN2⟩
  · rw [zd4]
    have e:(List.range ms.length).map (fun l=>l) = List.range ms.length:=List.map_id _
    rw [e]
    exact k fun f l hf hl=>hp l (List.mem_range.mpr hl) f hf
end
theorem xj8 {α β:Type} (f:α → β) (xs:List α) (n:Nat):cutL (xs.map f) none (some (n:Int)) = (xs.take n).map f:=by
  unfold cutL
  rw [HT.sIx_none,HT.sIx_nat]
  simp only [List.length_map,List.drop_zero,Nat.sub_zero]
  rw [← List.map_take]
  congr 1
  by_cases h:xs.length ≤ n
  · rw [List.take_of_length_le h]
    exact List.take_of_length_le (by omega)
  · congr 1
    omega
theorem yj3 {α:Type} (f:α → PyData):∀ (k:Nat) (xs:List α),enumD k (xs.map f) = (xs.zipIdx k).map fun p=>PyData.tuple [.int (p.2:Int),f p.1]
  | k,[]=>rfl
  | k,x :: xs=>by
    have:=yj3 f (k + 1) xs
    simp [Dl.enumD,this]
theorem yk5 {qs:List Rat} {k:Int} {j:Nat} (e:k = (j:Int)) (h:j < qs.length):atI (qs.map fr) k = some (fr (qs.getD j 0)):=by
  rw [xe5 (xs:=qs) fr (by omega) (by omega),e,Int.toNat_natCast]
  simp [List.getD,h]
theorem yi7 {xs:List Rat} {j:Nat} (h:j < xs.length):xs.getD j 0 ∈ xs:=by
  have e:xs.getD j 0 = xs[j]:=by simp [List.getD,h]
  rw [e]; exact List.getElem_mem h
theorem xe1 {kd:Str} {c:Nat → Nat → Rat} {a:Nat → Rat} {i D Da:Nat}:∀ m,(∀ f,f ≤ i → Dg D (c f i)) → (∀ h,h < m → Dg Da (a h)) → m ≤ i → Dg (D + Da + 1) (zi6 kd c a i m).1
  | 0,hc,_,_=>(hc 0 (by omega)).mono (by omega)
  | m + 1,hc,ha,hm=>by
    unfold zi6
    split
    · have h1:=ha m (by omega)
      have h2:=hc (m + 1) (by omega)
      show Dg _ (zk0 kd (a m) (c (m + 1) i))
      unfold zk0
      split
      · split
        · exact h2.mono (by omega)
        · exact h1.mono (by omega)
      · exact (h1.add h2).mono (by omega)
    · exact xe1 m hc (fun h hh=>ha h (by omega)) (by omega)
section
variable {P:Program} {w:World} {K:PySem.W.Frag} {mg:Str → Option Value} {base:Heap} {A:Adr}
noncomputable def wt0:DW:=fun ds Q _=>∃ (kd:Str) (c a:List Rat) (I D Da:Nat),ds = [.str kd,.list (c.map fr),.list (a.map fr)] ∧ kd ∈ kdsL ∧ c.length = I + 1 ∧ I < 60 ∧ a.length ≤ 60 ∧ (∀ q ∈ c,Dg D q) ∧ (∀ q ∈ a,Dg Da q) ∧ D + 2 * Da + 1 ≤ 2300 ∧
  Q (.dat (.tuple [fr (zi6 kd (fun f _=>c.getD f 0) (fun h=>a.getD h 0) I (min I a.length)).1,.int ((zi6 kd (fun f _=>c.getD f 0) (fun h=>a.getD h 0) I (min I a.length)).2:Int)]))
theorem wl4 (T:Txt K mg A):FnOk P w K mg base (CXE P w) 4 A.a_qa1 A.d_qa1 ["kind","costs","entries_ahead"] (spW K wt0):=by
  have G_qy:=wu6 (P:=P) (w:=w) (base:=base) T
  have G_qv:=wu9 (P:=P) (w:=w) (base:=base) T
  refine okW T.F_qa1 sc_qa1 (fun ds Q E h=>?_) (fun cdv Ar outer s H E hr=>?_)
  · obtain ⟨_,_,_,_,_,_,rfl,_⟩:=h; rfl
  refine ⟨_,(za5 (zc1 (i:=3) sc_qa1.nd rfl (Or.inl rfl) (zc2 (ixlK (K:=K) rfl) (pv 1) za6 (fun _ _=>rfl)))
      (za5 (zc1 (i:=4) sc_qa1.nd rfl (Or.inl rfl) za6)
      (za5 (zn3 PassesOwn.leaving rfl (yh2 (K:=K) rfl rfl T.n_enumerate (za0 (zj3 (sllK (K:=K) rfl) (pv 2) zn9 (zj7 (zc4 zp6 (zc7 (lenK (K:=K) rfl) rfl T.n_len PySem.boot_len (za0 (pv 1) za4)) za6))) za4)) (pgtK (K:=K) (n:=2) rfl rfl (zg1 (zd5 (i:=5) sc_qa1.nd rfl (Or.inl rfl)) (zg1 (zd5 (i:=6) sc_qa1.nd rfl (Or.inl rfl)) zp2)))
        (za8 (ze6 (zl8 (za9 G_qy (hr.mono (by decide)) rfl T.m_qy T.F_qy.kp T.b_qy .nil zb7 (za0 (pv 0) (za0 (pv 3) (za0 (pv 6) (za0 (zc2 (ixlK (K:=K) rfl) (pv 1) (zc4 zg8 (pv 5) za6) (fun _ _=>rfl)) za4)))))) (za5 (zc1 (i:=3) sc_qa1.nd rfl (Or.inl rfl) (za9 G_qv (hr.mono (by decide)) rfl T.m_qv T.F_qv.kp T.b_qv .nil zb7 (za0 (pv 0) (za0 (pv 6) (za0 (zc2 (ixlK (K:=K) rfl) (pv 1) (zc4 zg8 (pv 5) za6) (fun _ _=>rfl)) za4)))))
      (za8 (zc1 (i:=4) sc_qa1.nd rfl (Or.inl rfl) (zc4 zg8 (pv 5) za6)))) zc6)))
      (za8 (zc5 (zh6 (za0 (pv 3) (za0 (pv 4) za4)))))))),_,(zb2 (zd2 (ze5 (zd3 1) (za1 zb3)) (zb0 3))
      (zb2 (zd2 zb3 (zb0 4))
      (zb2 (zn2 (xz4 (zj5 (yl7 (zd3 2) yd3 (zj8 (za1 (zb6 zh5 (za1 (ze8 zf9 (za2 (za3 1) za7))) (za1 zb3))))))) (zt8 (zh7 (zb0 5) (zh7 (zb0 6) zt9)))
        (ze9 (tv_b (za1 (zb1 (za2 (za3 0) (za2 (za3 3) (za2 (za3 6) (za2 (za1 (ze5 (zd3 1) (za1 (zb6 zh5 (za3 5) (za1 zb3))))) za7))))))) (zb2 (zd2 (zb1 (za2 (za3 0) (za2 (za3 6) (za2 (za1 (ze5 (zd3 1) (za1 (zb6 zh5 (za3 5) (za1 zb3))))) za7)))) (zb0 3))
      (zd2 (zb6 zh5 (za3 5) (za1 zb3)) (zb0 4))) zc8))
      (zd6 (za1 (zh8 (zb8 (zb5 3) (zb8 (zb5 4) zd7)) (by decide))))))),?_⟩
  rintro ds Q X ⟨kd,c,a,I,D,Da,rfl,hk,cl,I60,al,hc,ha,hD,k⟩
  obtain ⟨B,hB⟩:∃ B,zi6 kd (fun f _=>c.getD f 0) (fun h=>a.getD h 0) I = B:=⟨_,rfl⟩
  rw [hB] at k
  have hcd:∀ f,f ≤ I → Dg D (c.getD f 0):=fun f hf=>hc _ (yi7 (by omega))
  have had:∀ h,h < a.length → Dg Da (a.getD h 0):=fun h hh=>ha _ (yi7 hh)
  have hBd:∀ m,m ≤ min I a.length → Dg (D + Da + 1) (B m).1:=fun m hm=>by rw [← hB]; exact xe1 m hcd (fun h hh=>had h (by omega)) (by omega)
  walk_at "s"
  refine ⟨_,yk5 (j:=0) rfl (by omega),?_⟩
  have tl:(a.take I).length = min I a.length:=List.length_take
  walk_at "s"
  refine zj6 (zo0 (fun p:Rat × Nat=>PyData.tuple [.int (p.2:Int),fr p.1]) ((a.take I).zipIdx 0) (fun Q h=>by
      walk_at "d"
      rw [cl,show ((I + 1:Nat):Int) - 1 = (I:Int) by omega,xj8,yj3]
      exact h) (fun i δ=>∃ s5 s6:Option Sl,δ = [some (.dat (.str kd)),some (.dat (.list (c.map fr))),some (.dat (.list (a.map fr))),some (.dat (fr (B i).1)),some (.dat (.int ((B i).2:Int))),s5,s6]) ⟨none,none,by rw [← hB]; rfl⟩ ?_ ?_)
  · rintro i ⟨q,ix⟩ δ hi ⟨s5,s6,rfl⟩
    obtain ⟨hi1,hi2⟩:i < min I a.length ∧ (q,ix) = (a.getD i 0,i):=by
      rw [List.getElem?_zipIdx] at hi
      have hlt:i < (a.take I).length:=by
        cases h:(a.take I)[i]? with
        | none=>rw [h] at hi; cases hi
        | some z=>exact (List.getElem?_eq_some_iff.mp h).1
      rw [tl] at hlt
      refine ⟨hlt,?_⟩
      have e:(a.take I)[i]? = some (a.getD i 0):=by
        rw [List.getElem?_take_of_lt (by omega),List.getD_eq_getElem?_getD,List.getElem?_eq_getElem (by omega)]
        rfl
      rw [e] at hi
      simp at hi
      rw [← hi.1,← hi.2,List.getD_eq_getElem?_getD]
    cases hi2
    have d1:=hBd i (by omega)
    have d2:=had i (by omega)
    have d3:=hcd (i + 1) (by omega)
    have eB:B (i + 1) = if zk0 kd (a.getD i 0) (c.getD (i + 1) 0) < (B i).1 then (zk0 kd (a.getD i 0) (c.getD (i + 1) 0),i + 1) else B i:=by rw [← hB]; rfl
    walk_at "d"
    refine ⟨_,yk5 (j:=i + 1) (by omega) (by omega),kd,_,_,_,D + Da + 1,Da,rfl,d1,d2,d3.mono (by omega),by omega,by omega,dgOk d1 (by omega),?_⟩
    walk_at "d"
    refine ite2 (fun c2=>?_) (fun c2=>?_)
    · walk_at "s"
      refine ⟨_,yk5 (j:=i + 1) (by omega) (by omega),.str kd,_,_,rfl,dgOk d2 (by omega),dgOk d3 (by omega),fun k' e=>by cases e; exact zt7 hk,fun k' e _=>?_,fun h=>absurd hk (h _ rfl)⟩
      cases e
      walk_at "d"
      rw [eB,if_pos c2]
      exact ⟨_,_,rfl⟩
    · rw [eB,if_neg c2]
      walk_at "d"
      exact ⟨_,_,rfl⟩
  · rintro δ ⟨s5,s6,rfl⟩
    rw [List.length_zipIdx,tl]
    walk_at "d"
    exact k
end
noncomputable def zw1 (kd:Str) (ms:List Mk) (j:Nat):List Int:=(List.range ms.length).map fun i=>((tabE kd (fun f l=>cF kd (zf0 ms f l)) j i).2:Int)
noncomputable def zp0 (kd:Str) (ms:List Mk) (k:Nat):List PyData:=(List.range k).map fun j=>PyData.list ((zw1 kd ms j).map PyData.int)
theorem yw0 {kd:Str} {ms:List Mk} {k j:Nat} (h:j < k):atI (zp0 kd ms k) (j:Int) = some (PyData.list ((zw1 kd ms j).map PyData.int)):=zk9 (by simp [zp0,h])
theorem yw1 {kd:Str} {ms:List Mk} {j i:Nat} (h:i < ms.length):atI ((zw1 kd ms j).map PyData.int) (i:Int) = some (PyData.int ((tabE kd (fun f l=>cF kd (zf0 ms f l)) j i).2:Int)):=zk9 (by simp [zw1,h])
theorem xj9 {ms:List Mk} {f l:Nat} (hfl:f ≤ l) (hl:l < ms.length):cutL (ms.map mk3) (some (f:Int)) (some ((l + 1:Nat):Int)) = (zf0 ms f l).map mk3:=by
  rw [zv7]
  unfold cutL zf0
  rw [HT.sIx_nat,HT.sIx_nat,List.drop_take,Nat.min_eq_left (by omega),Nat.min_eq_left (by omega)]
section
variable {P:Program} {w:World} {K:PySem.W.Frag} {mg:Str → Option Value} {base:Heap} {A:Adr}
noncomputable def wd2:DW:=fun ds Q _=>∃ (kd:Str) (ms:List Mk) (L k:Nat),ds = [.str kd,.list (ms.map mk3),.list (zp0 kd ms (k + 1))] ∧ kd ∈ kdsL ∧ MkC L ms ∧ k ≤ 59 ∧ ∀ row,Laid kd ms k (ms.length - 1) row → Q (.own (row.map fr))
theorem wl2 (T:Txt K mg A):FnOk P w K mg base (CXE P w) 6 A.a_qb1 A.d_qb1 ["kind","marks","starts"] (spW K wd2):=by
  have G_qr:=wj5 (P:=P) (w:=w) (base:=base) T
  refine okW T.F_qb1 sc_qb1 (fun ds Q E h=>?_) (fun cdv Ar outer s H E hr=>?_)
  · obtain ⟨_,_,_,_,rfl,_⟩:=h; rfl
  refine ⟨_,(za5 (zc1 (i:=3) sc_qb1.nd rfl (Or.inl rfl) (zi1 za4))
      (za5 (zc1 (i:=4) sc_qb1.nd rfl (Or.inl rfl) (zc7 (lenK (K:=K) rfl) rfl T.n_len PySem.boot_len (za0 (pv 1) za4)))
      (za5 (zc1 (i:=5) sc_qb1.nd rfl (Or.inl rfl) (zc4 zp6 (zc7 (lenK (K:=K) rfl) rfl T.n_len PySem.boot_len (za0 (pv 2) za4)) za6))
      (za5 (zv0 PassesOwn.leaving (zb9 zx0 (pv 4) za6 (zc9 _)) (za5 (zc1 (i:=6) sc_qb1.nd rfl (Or.inl rfl) (zc2 (ixlK (K:=K) rfl) (zc2 (ixlK (K:=K) rfl) (pv 2) (pv 5) (fun _ _=>rfl)) (zc4 zp6 (pv 4) za6) (fun _ _=>rfl)))
      (za5 (zc1 (i:=7) sc_qb1.nd rfl (Or.inl rfl) (zj3 (sllK (K:=K) rfl) (pv 1) (zj7 (pv 6)) (zj7 (pv 4))))
      (za5 (zc1 (i:=3) sc_qb1.nd rfl (Or.inl rfl) (zc4 xn1 (zc4 xm9 (zi1 (za0 (za9 G_qr (hr.mono (by decide)) rfl T.m_qr T.F_qr.kp T.b_qr .nil zb7 (za0 (pv 0) (za0 (pv 7) za4))) za4)) (zc7 (lenK (K:=K) rfl) rfl T.n_len PySem.boot_len (za0 (pv 7) za4))) (pv 3)))
      (za5 (zc1 (i:=4) sc_qb1.nd rfl (Or.inl rfl) (pv 6))
      (za8 (zc1 (i:=5) sc_qb1.nd rfl (Or.inl rfl) (zc4 zp6 (pv 5) za6))))))))
      (za8 (zc5 (pv 3))))))),_,(zb2 (zf5 3 (zi2 zd7 (by decide)))
      (zb2 (zd2 (ze8 zf9 (za2 (za3 1) za7)) (zb0 4))
      (zb2 (zd2 (zb6 zh5 (za1 (ze8 zf9 (za2 (za3 2) za7))) (za1 zb3)) (zb0 5))
      (zb2 (zu6 (zc0 (za1 (zb6 zl7 (za3 4) (za1 zb3)))) (zb2 (zd2 (ze5 (yz4 (ze5 (zd3 2) (za3 5))) (za1 (zb6 zh5 (za3 4) (za1 zb3)))) (zb0 6))
      (zb2 (zf5 7 (yl7 (zd3 1) (zj8 (za3 6)) (zj8 (za3 4))))
      (zb2 (zf5 3 (xm8 (yy9 (xm7 (yy9 (zi2 (zb8 (zb1 (za2 (za3 0) (za2 (za3 7) za7))) zd7) (by decide))) (za1 (ze8 zf9 (za2 (za3 7) za7))))) (wl8 3)))
      (zb2 (zd2 (zb5 6) (zb0 4))
      (zd2 (zb6 zh5 (za3 5) (za1 zb3)) (zb0 5)))))))
      (zi7 3))))),?_⟩
  rintro ds Q X ⟨kd,ms,L,k,rfl,hk,M,k59,kq⟩
  have n1:=M.n1
  have n60:=M.n60
  have stl:(zp0 kd ms (k + 1)).length = k + 1:=by simp [zp0]
  walk_at "s"
  walk_at "s"
  walk_at "s"
  refine zj6 ?_
  refine ⟨fun m δ=>∃ (row:List Rat) (sp:Int) (s6 s7:Option Sl),δ = [some (.dat (.str kd)),some (.dat (.list (ms.map mk3))),some (.dat (.list (zp0 kd ms (k + 1)))),some (.own (row.map fr)),some (.dat (.int (m:Int))),some (.dat (.int sp)),s6,s7] ∧ row.length + m = ms.length ∧ (m = 0 → Laid kd ms k (ms.length - 1) row) ∧
      (0 < m → ∃ j:Nat,sp = (j:Int) ∧ j ≤ k ∧ ∀ r,Laid kd ms j (m - 1) r → Laid kd ms k (ms.length - 1) (r ++ row)),
    ⟨ms.length,[],_,none,none,by rw [stl]; rfl,by simp,fun h=>by omega,fun _=>⟨k,by omega,Nat.le_refl _,fun r hr=>by rw [List.append_nil]; exact hr⟩⟩,?_⟩
  rintro m δ ⟨row,sp,s6,s7,rfl,hlen,h0,h1⟩
  walk_at "d"
  refine ite2 (fun c=>?_) (fun c=>?_)
  · have m0:0 < m:=by omega
    obtain ⟨j,rfl,jk,hr⟩:=h1 m0
    obtain ⟨i,rfl⟩:∃ i,m = i + 1:=⟨m - 1,by omega⟩
    have hi:i < ms.length:=by omega
    walk_at "s"
    refine ⟨_,yw0 (by omega),?_⟩
    dsimp only
    refine ⟨_,by rw [show ((i + 1:Nat):Int) - 1 = (i:Int) by omega]; exact yw1 hi,?_⟩
    obtain ⟨f,hf⟩:∃ f,(tabE kd (fun f l=>cF kd (zf0 ms f l)) j i).2 = f:=⟨_,rfl⟩
    have fi:f ≤ i:=by
      rcases zo7 (kd:=kd) (ms:=ms) j i with h | ⟨j',h,_,hl,e⟩
      · rw [h] at hf; simp at hf; omega
      · rw [e] at hf; simp at hf; omega
    rw [hf]
    walk_at "s"
    rw [xj9 fi hi]
    obtain ⟨S,hS⟩:∃ S,zf0 ms f i = S:=⟨_,rfl⟩
    have Sl:S.length = i + 1 - f:=by rw [← hS]; exact zm3 hi
    have Sm:∀ m ∈ S,m ∈ ms:=fun m h=>by rw [← hS] at h; exact zk1 h
    rw [hS]
    walk_at "s"
    refine ⟨kd,S,L,rfl,hk,by omega,by omega,M.L0,M.L1,fun m h=>M.hc m (Sm m h),fun m h=>M.hw m (Sm m h),fun x hx=>?_⟩
    have hx2:LevelOk kd (zf0 ms f i) x:=by rw [hS]; exact hx
    walk_at "d"
    rw [Int.toNat_natCast,yx1]
    refine ⟨⟨by omega,by omega⟩,by omega,by rw [List.length_map,List.length_replicate]; omega,?_⟩
    walk_at "s"
    walk_at "d"
    rw [← List.map_append]
    refine ⟨f,by omega,List.replicate S.length x ++ row,(j:Int) - 1,some (.dat (.int (f:Int))),some (.own (S.map mk3)),rfl,by rw [List.length_append,List.length_replicate]; omega,fun e=>?_,fun e=>?_⟩
    · subst e
      have e2:S.length = i + 1:=by omega
      rw [e2]
      exact hr _ (.base hf hx2)
    · rcases zo7 (kd:=kd) (ms:=ms) j i with h | ⟨j',h,ej,hl,e2⟩
      · rw [h] at hf; simp at hf; omega
      · subst ej
        have ef:f = h + 1:=by rw [e2] at hf; simp at hf; omega
        subst ef
        refine ⟨j',by omega,by omega,fun r hL=>?_⟩
        have e3:S.length = i - h:=by omega
        rw [← List.append_assoc,e3]
        exact hr _ (.step hf hl hL hx2)
  · walk_at "d"
    exact kq row (h0 (by omega))
end
theorem yb0 {kd:Str} {c c':Nat → Nat → Rat} {a a':Nat → Rat} {i:Nat}:∀ m,(∀ f,f ≤ m → c f i = c' f i) → (∀ h,h < m → a h = a' h) → zi6 kd c a i m = zi6 kd c' a' i m
  | 0,hc,_=>by unfold zi6; rw [hc 0 (by omega)]
  | m + 1,hc,ha=>by
    unfold zi6
    rw [yb0 m (fun f hf=>hc f (by omega)) fun h hh=>ha h (by omega),hc (m + 1) (by omega),ha m (by omega)]
noncomputable def entL (kd:Str) (ms:List Mk):Nat → List Rat
  | 0=>[]
  | j + 1=>(List.range ms.length).map fun i=>(tabE kd (fun f l=>cF kd (zf0 ms f l)) j i).1
noncomputable def zz5 (kd:Str) (ms:List Mk) (k:Nat):List PyData:=(List.range k).map fun j=>PyData.list ((entL kd ms (j + 1)).map fr)
theorem xl2 {kd:Str} {ms:List Mk} {D:Nat} (hD:∀ f l,f ≤ l → l < ms.length → Dg D (cF kd (zf0 ms f l))):∀ j i,i < ms.length → Dg ((D + 1) * (i + 1)) (tabE kd (fun f l=>cF kd (zf0 ms f l)) j i).1
  | j,i,hi=>by
    rcases zo7 (kd:=kd) (ms:=ms) j i with h | ⟨j',h,rfl,hl,e⟩
    · rw [h]
      exact (hD 0 i (by omega) hi).mono (by rw [Nat.mul_add]; omega)
    · rw [e]
      have h1:=xl2 hD j' h (by omega)
      have h2:=hD (h + 1) i (by omega) hi
      have hm:(D + 1) * (h + 1) + (D + 1) ≤ (D + 1) * (i + 1):=by
        rw [← Nat.mul_succ]
        exact Nat.mul_le_mul_left _ (by omega)
      show Dg _ (zk0 kd _ _)
      unfold zk0
      split
      · split
        · exact h2.mono (by omega)
        · exact h1.mono (by omega)
      · exact (h1.add h2).mono (by omega)
theorem ys0 {kd:Str} {ms:List Mk} {l f:Nat} (h:f ≤ l):(ye7 kd ms l).getD f 0 = cF kd (zf0 ms f l):=by
  have:f < l + 1:=by omega
  simp [ye7,List.getD_eq_getElem?_getD,this]
theorem wa1 {kd:Str} {ms:List Mk} {j h:Nat} (hh:h < ms.length):(entL kd ms (j + 1)).getD h 0 = (tabE kd (fun f l=>cF kd (zf0 ms f l)) j h).1:=by
  simp [entL,List.getD_eq_getElem?_getD,hh]
theorem xk5 {kd:Str} {ms:List Mk} (i:Nat) {l:Nat} (hl:l < ms.length):zi6 kd (fun f _=>(ye7 kd ms l).getD f 0) (fun h=>(entL kd ms i).getD h 0) l (min l (entL kd ms i).length) = tabE kd (fun f l=>cF kd (zf0 ms f l)) i l:=by
  cases i with
  | zero =>
    have e:min l (entL kd ms 0).length = 0:=by simp [entL]
    rw [e]
    unfold zi6 tabE
    rw [ys0 (by omega)]
  | succ j =>
    have e:min l (entL kd ms (j + 1)).length = l:=by simp [entL]; omega
    rw [e]
    show _ = zi6 kd _ _ l l
    exact yb0 l (fun f hf=>ys0 hf) fun h hh=>wa1 (by omega)
section
variable {P:Program} {w:World} {K:PySem.W.Frag} {mg:Str → Option Value} {base:Heap} {A:Adr}
noncomputable def prE (p:Rat × Nat):PyData:=.tuple [fr p.1,.int (p.2:Int)]
noncomputable def wr6:DW:=fun ds Q _=>∃ (kd:Str) (ms:List Mk) (L k D:Nat),ds = [.str kd,.list (ms.map mk3),.int (k:Int)] ∧ kd ∈ kdsL ∧ MkC L ms ∧ k ≤ 59 ∧ (∀ f l,f ≤ l → l < ms.length → Dg D (cF kd (zf0 ms f l))) ∧ D + 2 * ((D + 1) * ms.length) + 1 ≤ 2300 ∧
  ((∀ f l,f ≤ l → l < ms.length → ∃ x,LevelOk kd (zf0 ms f l) x) → ∀ row,Laid kd ms k (ms.length - 1) row → Q (.dat (.tuple [.list (row.map fr),.list (zz5 kd ms (k + 1))])))
theorem wu5 (T:Txt K mg A):FnOk P w K mg base (CXE P w) 10 A.a_qz A.d_qz ["kind","marks","k"] (spW K wr6):=by
  have G_qo:=yx9 (P:=P) (w:=w) (base:=base) T
  have G_qx:=wu7 (P:=P) (w:=w) (base:=base) T
  have G_qa1:=wl4 (P:=P) (w:=w) (base:=base) T
  have G_qb1:=wl2 (P:=P) (w:=w) (base:=base) T
  refine okW T.F_qz sc_qz (fun ds Q E h=>?_) (fun cdv Ar outer s H E hr=>?_)
  · obtain ⟨_,_,_,_,_,rfl,_⟩:=h; rfl
  refine ⟨_,(za5 (zj2 (za9 G_qo (hr.mono (by decide)) rfl T.m_qo T.F_qo.kp T.b_qo .nil zb7 (za0 (pv 0) za4)))
      (za5 (ze6 (PW.pt (zn8 (zb9 zu3 (pv 2) za6 (zc9 _)) (zm4 (zb9 zx0 (pv 2) (zm8 rfl T.c_MOST_STEPS.choose_spec (show RelV (.int 59) _ from ⟨_,rfl⟩)) (zc9 _))))) (za8 (zf8 T.x_NoNumber hr.hd ze2 rfl (za0 zd0 za4))) zc6)
      (za5 (zc1 (i:=3) sc_qz.nd rfl (Or.inl rfl) (za9 G_qx (hr.mono (by decide)) rfl T.m_qx T.F_qx.kp T.b_qx .nil zb7 (za0 (pv 0) (za0 (pv 1) za4))))
      (za5 (zc1 (i:=4) sc_qz.nd rfl (Or.inl rfl) (zi1 za4))
      (za5 (zc1 (i:=5) sc_qz.nd rfl (Or.inl rfl) (zi1 za4))
      (za5 (zc1 (i:=6) sc_qz.nd rfl (Or.inr rfl) (zi1 za4))
      (za5 (zn3 PassesOwn.leaving rfl (zw9 rfl T.n_range (za0 (zc4 zg8 (pv 2) za6) za4)) (zd5 (i:=7) sc_qz.nd rfl (Or.inl rfl))
        (za5 (zv1 (i:=8) (cap:=[none,some 0,some 6]) (NC:=["some","kind","entries"]) sc_qz.nd rfl rfl rfl ⟨rfl,rfl,by decide +kernel,by decide +kernel,⟨⟨_,rfl,rfl,rfl,rfl,rfl⟩,⟨⟨_,rfl,rfl,rfl,rfl,rfl⟩,trivial⟩⟩,(List.forall_mem_cons.2 ⟨rfl,(List.forall_mem_cons.2 ⟨rfl,(fun _ h=>nomatch h)⟩)⟩),rfl⟩ (pilK (K:=K) rfl (pv 3)) (fun _ _ _ _=>(zd5 (i:=0) (show List.Nodup (["some","kind","entries"]:List Str) by decide) rfl (Or.inl rfl))) (fun _ _ _ _=>zf7) (fun _ _ _ _=>(za9 G_qa1 (hr.mono (by decide)) rfl T.m_qa1 T.F_qa1.kp T.b_qa1 .nil zb7 (za0 (pv 1) (za0 (pv 0) (za0 (pv 2) za4))))))
      (za5 (zc1 (i:=6) sc_qz.nd rfl (Or.inr rfl) (zm2 (cap:=[none]) (NC:=["one"]) rfl ⟨rfl,rfl,by decide +kernel,by decide +kernel,trivial,(fun _ h=>nomatch h),rfl⟩ (pilK (K:=K) rfl (pv 8)) (fun _ _ _ _=>(zd5 (i:=0) (show List.Nodup (["one"]:List Str) by decide) rfl (Or.inl rfl))) (fun _ _ _ _=>zf7) (fun _ _ _ _=>(zc2 (ixtK (K:=K) rfl) (pv 0) za6 (fun _ _=>rfl)))))
      (za5 (zj2 (zo4 PySem.F.plainAttrs_list PySem.F.slot_list_append PySem.F.type_list_append zp8 (pv 4) (za0 (pv 6) za4)))
      (za8 (zj2 (zo4 PySem.F.plainAttrs_list PySem.F.slot_list_append PySem.F.type_list_append zp8 (pv 5) (za0 (zm2 (cap:=[none]) (NC:=["one"]) rfl ⟨rfl,rfl,by decide +kernel,by decide +kernel,trivial,(fun _ h=>nomatch h),rfl⟩ (pilK (K:=K) rfl (pv 8)) (fun _ _ _ _=>(zd5 (i:=0) (show List.Nodup (["one"]:List Str) by decide) rfl (Or.inl rfl))) (fun _ _ _ _=>zf7) (fun _ _ _ _=>(zc2 (ixtK (K:=K) rfl) (pv 0) za6 (fun _ _=>rfl)))) za4))))))))
      (za8 (zc5 (zh6 (za0 (za9 G_qb1 (hr.mono (by decide)) rfl T.m_qb1 T.F_qb1.kp T.b_qb1 .nil zb7 (za0 (pv 0) (za0 (pv 1) (za0 (pv 5) za4)))) (za0 (pv 4) za4)))))))))))),_,(zb2 (zo9 (za1 (zb1 (za2 (za3 0) za7))))
      (zb2 (ze9 (zn6 (zc0 (za1 (zb6 zl7 (za3 2) (za1 zb3)))) (zc0 (za1 (zb6 zl7 (za3 2) (za1 zb3))))) (zf6 (zb8 zd1 zd7) (by decide)) zc8)
      (zb2 (yb9 (za2 (za3 0) (za2 (za3 1) za7)) (zb0 3))
      (zb2 (zf5 4 (zi2 zd7 (by decide)))
      (zb2 (zf5 5 (zi2 zd7 (by decide)))
      (zb2 (zf5 6 (zi2 zd7 (by decide)))
      (zb2 (zz6 6 (zn2 (ym5 (za2 (za1 (zb6 zh5 (za3 2) (za1 zb3))) za7)) (zb0 7)
        (zb2 (zf5 8 (zk2 (zh1 (zd3 3)) (zb0 0) zh2 (zb1 (za2 (za3 1) (za2 (za3 0) (za2 (za3 2) za7)))) (by decide) (by decide)))
      (zb2 (zf5 6 (zk2 (zh1 (zd3 8)) (zb0 0) zh2 (zc3 0 (zb5 0)) (by decide) (by decide)))
      (zb2 (zz6 6 (yp2 4 (zb5 6)))
      (yp2 5 (zj5 (zk2 (zh1 (zd3 8)) (zb0 0) zh2 (zc3 1 (zb5 0)) (by decide) (by decide)))))))))
      (zz6 4 (zd6 (za1 (zh8 (zb8 (zj5 (zj4 (za2 (za3 0) (za2 (za3 1) (za2 (za3 5) za7))))) (zb8 (zb5 4) zd7)) (by decide)))))))))))),?_⟩
  rintro ds Q X ⟨kd,ms,L,k,D,rfl,hk,M,k59,hDg,hDn,kq⟩
  have n60:=M.n60
  walk_at "s"
  refine ⟨.str kd,rfl,fun k' e=>by cases e; exact zt7 hk,fun _=>?_,fun h=>absurd hk (h _ rfl)⟩
  walk_at "s"
  refine ite2 (fun c=>absurd c (by omega)) (fun _=>ite2 (fun c=>absurd c (by omega)) (fun _=>?_))
  walk_at "s"
  refine ⟨kd,ms,L,rfl,hk,M,fun hx=>?_⟩
  have kq2:=kq hx
  walk_at "d"
  walk_at "s"
  walk_at "s"
  walk_at "s"
  refine zj6 ?_
  walk_at "d"
  refine ye3 (lo:=0) (st:=1) (n:=k + 1) (fun Q h=>by
      walk_at "d"
      have e:((k:Int) + 1).toNat = k + 1:=by omega
      rw [e]
      exact ⟨⟨by omega,by omega⟩,h⟩)
    (fun i δ=>∃ s7 s8:Option Sl,δ = [some (.dat (.str kd)),some (.dat (.list (ms.map mk3))),some (.dat (.int (k:Int))),some (.dat (.list (wq7 kd ms))),some (.own (zz5 kd ms i)),some (.own (zp0 kd ms i)),some (.dat (.list ((entL kd ms i).map fr))),s7,s8]) ⟨none,none,rfl⟩ ?_ ?_
  · rintro i δ hi ⟨s7,s8,rfl⟩
    have el:(entL kd ms i).length ≤ 60:=by cases i <;> simp [entL]; omega
    have ed:∀ q ∈ entL kd ms i,Dg ((D + 1) * ms.length) q:=fun q hq=>by
      cases i with
      | zero=>cases hq
      | succ j =>
        obtain ⟨h,hh,rfl⟩:=List.mem_map.mp hq
        have hh2:=List.mem_range.mp hh
        exact (xl2 hDg j h hh2).mono (Nat.mul_le_mul_left _ (by omega))
    walk_at "s"
    refine zh3 (fun l:Nat=>PyData.list ((ye7 kd ms l).map fr)) prE (fun l:Nat=>[tabE kd (fun f l=>cF kd (zf0 ms f l)) i l]) (List.range ms.length) (by rw [List.length_range]; omega) (fun Q h=>h) (fun l hl N acc hN=>?_) ?_
    · have hl2:=List.mem_range.mp hl
      walk_at "d"
      refine ⟨kd,ye7 kd ms l,entL kd ms i,l,D,(D + 1) * ms.length,rfl,hk,by simp [ye7],by omega,el,fun q hq=>?_,ed,by omega,?_⟩
      · obtain ⟨f,hf,rfl⟩:=List.mem_map.mp hq
        have:=List.mem_range.mp hf
        exact hDg f l (by omega) hl2
      rw [xk5 i hl2]
      walk_at "d"
      exact hN
    rw [zd4]
    walk_at "s"
    refine zh3 prE fr (fun p:Rat × Nat=>[p.1]) _ (by rw [List.length_map,List.length_range]; omega) (fun Q h=>h) (fun p hp N acc hN=>?_) ?_
    · unfold prE
      walk_at "d"
      exact hN
    rw [zd4]
    have e3:((List.range ms.length).map fun l=>tabE kd (fun f l=>cF kd (zf0 ms f l)) i l).map (fun p=>p.1) = entL kd ms (i + 1):=by simp [entL]
    have e4:((List.range ms.length).map fun l=>tabE kd (fun f l=>cF kd (zf0 ms f l)) i l).map (fun p=>(p.2:Int)) = zw1 kd ms i:=by simp [zw1]
    have e1:zz5 kd ms i ++ [PyData.list ((entL kd ms (i + 1)).map fr)] = zz5 kd ms (i + 1):=by simp [zz5,List.range_succ]
    have e2:zp0 kd ms i ++ [PyData.list ((zw1 kd ms i).map PyData.int)] = zp0 kd ms (i + 1):=by simp [zp0,List.range_succ]
    rw [e3]
    walk_at "s"
    refine ⟨by simp [zz5]; omega,?_⟩
    refine zh3 prE PyData.int (fun p:Rat × Nat=>[(p.2:Int)]) _ (by rw [List.length_map,List.length_range]; omega) (fun Q h=>h) (fun p hp N acc hN=>?_) ?_
    · unfold prE
      walk_at "d"
      exact hN
    rw [zd4,e4,e1,e2]
    walk_at "d"
    exact ⟨by simp [zp0]; omega,_,_,rfl⟩
  · rintro δ ⟨s7,s8,rfl⟩
    walk_at "d"
    refine ⟨kd,ms,L,k,rfl,hk,M,k59,fun row hr=>?_⟩
    walk_at "d"
    exact ⟨zm6 _,kq2 row hr⟩
noncomputable def wd4:DW:=fun ds Q _=>∃ a b:Rat,ds = [fr a,fr b] ∧ Ok a ∧ Ok b ∧ Q (.dat (.bool (decide (a < b))))
theorem xn3 (T:Txt K mg A):FnOk P w K mg base (CXE P w) 1 A.a_qr1 A.d_qr1 ["one","other"] (spW K wd4):=by
  refine okW T.F_qr1 wf9 (fun ds Q E h=>?_) (fun cdv Ar outer s H E hr=>?_)
  · obtain ⟨_,_,rfl,_⟩:=h; rfl
  refine ⟨_,(za8 (zc5 (zp5 zu3 (zc4 ze4 (zc2 (ixtK (K:=K) rfl) (pv 0) za6 (fun _ _=>rfl)) (zc2 (ixtK (K:=K) rfl) (pv 1) za6 (fun _ _=>rfl))) (zc4 ze4 (zc2 (ixtK (K:=K) rfl) (pv 1) za6 (fun _ _=>rfl)) (zc2 (ixtK (K:=K) rfl) (pv 0) za6 (fun _ _=>rfl))) (zc9 _)))),_,(zd6 (za1 (zb6 zl7 (za1 (zb6 ro_i (za1 (zc3 0 (zb5 0))) (za1 (zc3 1 (zb5 1))))) (za1 (zb6 ro_i (za1 (zc3 0 (zb5 1))) (za1 (zc3 1 (zb5 0)))))))),?_⟩
  rintro ds Q X ⟨a,b,rfl,oa,ob,k⟩
  walk_at "d"
  refine ⟨zh9 oa.n ob.d,zh9 ob.n oa.d,?_⟩
  have e:decide (a.num * (b.den:Int) < b.num * (a.den:Int)) = decide (a < b):=by rw [decide_eq_decide]; exact Fm.less_iff a b
  rw [e]
  exact k
theorem we9 (a b:Rat):Rat.divInt (a.num * (b.den:Int) + b.num * (a.den:Int)) ((a.den:Int) * (b.den:Int)) = a + b:=by
  have ha:=zr8 a
  have hb:=zr8 b
  have pa:=dpos a
  have pb:=dpos b
  refine (Fm.eq_divInt (Int.mul_ne_zero (by omega) (by omega)) ?_).symm
  rw [Rat.intCast_mul,Rat.intCast_add,Rat.intCast_mul,Rat.intCast_mul,← ha,← hb]
  show (a + b) * ((a.den:Rat) * (b.den:Rat)) = a * (a.den:Rat) * (b.den:Rat) + b * (b.den:Rat) * (a.den:Rat)
  grind
noncomputable def wd5:DW:=fun ds Q _=>∃ (kd:Str) (a b:Rat) (Da Db:Nat),ds = [.str kd,fr a,fr b] ∧ Dg Da a ∧ Dg Db b ∧ Da + Db ≤ 2300 ∧ Q (.dat (fr (zk0 kd a b)))
theorem wj4 (T:Txt K mg A):FnOk P w K mg base (CXE P w) 2 A.a_qs1 A.d_qs1 ["kind","one","other"] (spW K wd5):=by
  have G_qr1:=xn3 (P:=P) (w:=w) (base:=base) T
  have G_qq1:=ya3 (P:=P) (w:=w) (base:=base) T
  refine okW T.F_qs1 wf8 (fun ds Q E h=>?_) (fun cdv Ar outer s H E hr=>?_)
  · obtain ⟨_,_,_,_,_,rfl,_⟩:=h; rfl
  refine ⟨_,(za5 (ze6 (zb9 zh0 (pv 0) zd0 (zc9 _)) (za5 (ze6 (zl8 (za9 G_qr1 (hr.mono (by decide)) rfl T.m_qr1 T.F_qr1.kp T.b_qr1 .nil zb7 (za0 (pv 1) (za0 (pv 2) za4)))) (za8 (zc5 (pv 2))) zc6)
      (za8 (zc5 (pv 1)))) zc6)
      (za8 (zc5 (za9 G_qq1 (hr.mono (by decide)) rfl T.m_qq1 T.F_qq1.kp T.b_qq1 .nil zb7 (za0 (zc4 zg8 (zc4 ze4 (zc2 (ixtK (K:=K) rfl) (pv 1) za6 (fun _ _=>rfl)) (zc2 (ixtK (K:=K) rfl) (pv 2) za6 (fun _ _=>rfl))) (zc4 ze4 (zc2 (ixtK (K:=K) rfl) (pv 2) za6 (fun _ _=>rfl)) (zc2 (ixtK (K:=K) rfl) (pv 1) za6 (fun _ _=>rfl)))) (za0 (zc4 ze4 (zc2 (ixtK (K:=K) rfl) (pv 1) za6 (fun _ _=>rfl)) (zc2 (ixtK (K:=K) rfl) (pv 2) za6 (fun _ _=>rfl))) za4)))))),_,(zb2 (ze9 (zc0 (za1 (zb6 zg9 (za3 0) (za1 zd1)))) (zb2 (ze9 (tv_b (za1 (zb1 (za2 (za3 1) (za2 (za3 2) za7))))) (zi7 2) zc8)
      (zi7 1)) zc8)
      (zd6 (za1 (zb1 (za2 (za1 (zb6 zh5 (za1 (zb6 ro_i (za1 (zc3 0 (zb5 1))) (za1 (zc3 1 (zb5 2))))) (za1 (zb6 ro_i (za1 (zc3 0 (zb5 2))) (za1 (zc3 1 (zb5 1))))))) (za2 (za1 (zb6 ro_i (za1 (zc3 1 (zb5 1))) (za1 (zc3 1 (zb5 2))))) za7)))))),?_⟩
  rintro ds Q X ⟨kd,a,b,Da,Db,rfl,da,db,hD,k⟩
  have oa:Ok a:=dgOk da (by omega)
  have ob:Ok b:=dgOk db (by omega)
  unfold zk0 at k
  walk_at "s"
  refine ite2 (fun c=>?_) (fun c=>?_)
  · have ek:kd = "far":=c
    rw [if_pos ek] at k
    walk_at "s"
    refine ⟨a,b,rfl,oa,ob,?_⟩
    walk_at "d"
    refine ite2 (fun c2=>?_) (fun c2=>?_)
    · rw [if_pos c2] at k
      exact k
    · rw [if_neg c2] at k
      walk_at "d"
      exact k
  · have nk:kd ≠ "far":=c
    rw [if_neg nk] at k
    walk_at "d"
    have p3:((a.den:Int) * (b.den:Int)).natAbs ≤ 10 ^ (Da + Db):=by
      rw [Int.natAbs_mul,Nat.pow_add]
      exact Nat.mul_le_mul (by have:=da.d; omega) (by have:=db.d; omega)
    refine ⟨zh9 oa.n ob.d,zh9 ob.n oa.d,zh9 oa.d ob.d,_,_,rfl,Int.mul_pos (dpos a) (dpos b),zo3 p3 (by omega),?_⟩
    rw [we9]
    walk_at "d"
    exact k
theorem xh5 {x:Rat} (h:0 ≤ x):maxR [x] = x:=(yd8 h (.inr (by simp)) fun y hy=>by rw [List.mem_singleton.mp hy]; exact Rat.le_refl).symm
theorem zv3 (kd:Str) (m:Mk) (h:Rat):meas kd [m] [h] = if kd = "far" then absR (m.2.1 - h) else if kd = "sum" then absR ((m.2.2:Rat) * (m.2.1 - h)) else (m.2.2:Rat) * (m.2.1 - h) * (m.2.1 - h):=by
  unfold meas zk7 zg6 sqR zg6 zk7
  by_cases h1:kd = "far"
  · rw [if_pos h1,if_pos h1]
    exact xh5 (yf1 _)
  · rw [if_neg h1,if_neg h1]
    by_cases h2:kd = "sum"
    · rw [if_pos h2,if_pos h2]
      show absR _ + 0 = _
      grind
    · rw [if_neg h2,if_neg h2]
      show _ + 0 = _
      grind
theorem wa4 (a b:Rat):Rat.divInt (a.num * (b.den:Int) - b.num * (a.den:Int)) ((a.den:Int) * (b.den:Int)) = a - b:=by
  have ha:=zr8 a
  have hb:=zr8 b
  have pa:=dpos a
  have pb:=dpos b
  refine (Fm.eq_divInt (Int.mul_ne_zero (by omega) (by omega)) ?_).symm
  rw [Rat.intCast_mul,Rat.intCast_sub,Rat.intCast_mul,Rat.intCast_mul,← ha,← hb]
  show (a - b) * ((a.den:Rat) * (b.den:Rat)) = a * (a.den:Rat) * (b.den:Rat) - b * (b.den:Rat) * (a.den:Rat)
  grind
theorem wr1 {x y:Int} (hy:0 < y):Rat.divInt (if x < 0 then -x else x) y = absR (Rat.divInt x y):=by
  have y0:(0:Rat) < (y:Rat):=Rat.intCast_pos.mpr hy
  have yi:(0:Rat) < (y:Rat)⁻¹:=Rat.inv_pos.mpr y0
  rw [dv_q,dv_q,Rat.div_def,Rat.div_def]
  by_cases h:x < 0
  · rw [if_pos h]
    have hx:(x:Rat) ≤ 0:=by
      have:=Rat.intCast_le_intCast.mpr (show x ≤ 0 by omega)
      exact this
    have h2:0 ≤ (-(x:Rat)) * (y:Rat)⁻¹:=Rat.mul_nonneg (by grind) (Rat.le_of_lt yi)
    rw [zo2 (by grind),Rat.intCast_neg]
    grind
  · rw [if_neg h]
    have hx:(0:Rat) ≤ (x:Rat):=Rat.intCast_nonneg.mpr (by omega)
    rw [zl2 (Rat.mul_nonneg hx (Rat.le_of_lt yi))]
theorem yo8 {α:Type} {xs:List α} {i:Nat} {x:α} (h:xs[i]? = some x):xs.take (i + 1) = xs.take i ++ [x]:=by
  rw [List.take_add_one,h]; rfl
theorem dg0 (n:Nat):Dg n 0:=by
  refine ⟨?_,?_⟩
  · show Int.natAbs 0 ≤ _; simp
  · show (1:Nat) ≤ _; exact Nat.pow_pos (by decide:0 < 10)
theorem ww6 {n:Nat} {v:Int} (h:v.natAbs ≤ 10 ^ n):Dg n (v:Rat):=⟨h,by show (1:Nat) ≤ _; exact Nat.pow_pos (by decide:0 < 10)⟩
theorem wa5 {n:Nat} {q:Rat} (h:Dg n q):Dg n (absR q):=by
  rcases zj0 q with ⟨_,e⟩ | ⟨_,e⟩ <;> rw [e]
  · exact h
  · exact h.neg
theorem wi8 {kd:Str} {m:Mk} {h:Rat} {Dh Dr wd:Nat} (h1:Dg Dh m.2.1) (h2:m.2.2.natAbs ≤ 10 ^ wd) (h3:Dg Dr h):Dg (2 * (Dh + Dr + 1) + wd + 2) (meas kd [m] [h]):=by
  rw [zv3]
  have d1:=h1.sub h3
  have d2:=(ww6 h2).mul d1
  split
  · exact (wa5 d1).mono (by omega)
  · split
    · exact (wa5 d2).mono (by omega)
    · exact (d2.mul d1).mono (by omega)
theorem xz0 {kd:Str} {a b:Rat} {Da Db:Nat} (h1:Dg Da a) (h2:Dg Db b):Dg (Da + Db + 1) (zk0 kd a b):=by
  unfold zk0
  split
  · split
    · exact h2.mono (by omega)
    · exact h1.mono (by omega)
  · exact h1.add h2
theorem zx3 {kd:Str} {ms:List Mk} {row:List Rat} {i:Nat} {m:Mk} {h:Rat} (hm:ms[i]? = some m) (hh:row[i]? = some h):meas kd (ms.take (i + 1)) (row.take (i + 1)) = zk0 kd (meas kd (ms.take i) (row.take i)) (meas kd [m] [h]):=by
  rw [yo8 hm,yo8 hh]
  refine yd6 kd ?_
  have:=(List.getElem?_eq_some_iff.mp hm).1
  have:=(List.getElem?_eq_some_iff.mp hh).1
  rw [List.length_take,List.length_take]; omega
theorem wt3 {w tp bt:Int} {d:Rat} (hb:0 < bt) (h:Rat.divInt tp bt = absR d):Rat.divInt (w * tp * tp) (bt * bt) = (w:Rat) * d * d:=by
  have b0:(bt:Rat) ≠ 0:=fun z=>by have:=Rat.intCast_pos.mpr hb; grind
  have h2:absR d * (bt:Rat) = (tp:Rat):=by
    rw [← h,dv_q]
    exact Rat.div_mul_cancel b0
  have e6:absR d * absR d = d * d:=by
    rcases zj0 d with ⟨_,z⟩ | ⟨_,z⟩ <;> rw [z]
    grind
  refine (Fm.eq_divInt (Int.mul_ne_zero (by omega) (by omega)) ?_).symm
  rw [Rat.intCast_mul,Rat.intCast_mul,Rat.intCast_mul,← h2]
  have e7:(w:Rat) * (absR d * (bt:Rat)) * (absR d * (bt:Rat)) = (w:Rat) * (absR d * absR d) * ((bt:Rat) * (bt:Rat)):=by grind
  rw [e7,e6]
  grind
noncomputable def xq7:DW:=fun ds Q _=>∃ (kd:Str) (ms:List Mk) (row:List Rat) (Dh Dr wd:Nat),ds = [.str kd,.list (ms.map mk3),.list (row.map fr)] ∧ kd ∈ kdsL ∧ row.length = ms.length ∧ ms.length ≤ 60 ∧ (∀ m ∈ ms,Dg Dh m.2.1 ∧ 1 ≤ m.2.2 ∧ m.2.2.natAbs ≤ 10 ^ wd) ∧ (∀ q ∈ row,Dg Dr q) ∧
  (ms.length + 1) * (2 * (Dh + Dr + 1) + wd + 3) ≤ 2300 ∧ Q (.dat (fr (meas kd ms row)))
theorem wj3 (T:Txt K mg A):FnOk P w K mg base (CXE P w) 3 A.a_qt1 A.d_qt1 ["kind","some","row"] (spW K xq7):=by
  have G_qs1:=wj4 (P:=P) (w:=w) (base:=base) T
  have G_qq1:=ya3 (P:=P) (w:=w) (base:=base) T
  refine okW T.F_qt1 sc_qt1 (fun ds Q E h=>?_) (fun cdv Ar outer s H E hr=>?_)
  · obtain ⟨_,_,_,_,_,_,rfl,_⟩:=h; rfl
  refine ⟨_,(za5 (zc1 (i:=3) sc_qt1.nd rfl (Or.inl rfl) (zh6 (za0 za6 (za0 za6 za4))))
      (za5 (zn3 PassesOwn.leaving rfl (ya1 (K:=K) rfl rfl T.n_zip (za0 (pv 1) (za0 (pv 2) za4))) (pgtK (K:=K) (n:=2) rfl rfl (zg1 (zd5 (i:=4) sc_qt1.nd rfl (Or.inl rfl)) (zg1 (zd5 (i:=5) sc_qt1.nd rfl (Or.inl rfl)) zp2)))
        (za5 (zc1 (i:=6) sc_qt1.nd rfl (Or.inl rfl) (zc7 zq6 rfl T.n_abs bt_abs (za0 (zc4 zp6 (zc4 ze4 (zc2 (ixtK (K:=K) rfl) (zc2 (ixtK (K:=K) rfl) (pv 4) za6 (fun _ _=>rfl)) za6 (fun _ _=>rfl)) (zc2 (ixtK (K:=K) rfl) (pv 5) za6 (fun _ _=>rfl))) (zc4 ze4 (zc2 (ixtK (K:=K) rfl) (pv 5) za6 (fun _ _=>rfl)) (zc2 (ixtK (K:=K) rfl) (zc2 (ixtK (K:=K) rfl) (pv 4) za6 (fun _ _=>rfl)) za6 (fun _ _=>rfl)))) za4)))
      (za5 (zc1 (i:=7) sc_qt1.nd rfl (Or.inl rfl) (zc4 ze4 (zc2 (ixtK (K:=K) rfl) (zc2 (ixtK (K:=K) rfl) (pv 4) za6 (fun _ _=>rfl)) za6 (fun _ _=>rfl)) (zc2 (ixtK (K:=K) rfl) (pv 5) za6 (fun _ _=>rfl))))
      (za5 (ze6 (zb9 zh0 (pv 0) zd0 (zc9 _)) (za8 (zc1 (i:=3) sc_qt1.nd rfl (Or.inl rfl) (za9 G_qs1 (hr.mono (by decide)) rfl T.m_qs1 T.F_qs1.kp T.b_qs1 .nil zb7 (za0 (pv 0) (za0 (pv 3) (za0 (za9 G_qq1 (hr.mono (by decide)) rfl T.m_qq1 T.F_qq1.kp T.b_qq1 .nil zb7 (za0 (pv 6) (za0 (pv 7) za4))) za4)))))) zc6)
      (za5 (ze6 (zb9 zh0 (pv 0) zd0 (zc9 _)) (za8 (zc1 (i:=3) sc_qt1.nd rfl (Or.inl rfl) (za9 G_qs1 (hr.mono (by decide)) rfl T.m_qs1 T.F_qs1.kp T.b_qs1 .nil zb7 (za0 (pv 0) (za0 (pv 3) (za0 (za9 G_qq1 (hr.mono (by decide)) rfl T.m_qq1 T.F_qq1.kp T.b_qq1 .nil zb7 (za0 (zc4 ze4 (zc2 (ixtK (K:=K) rfl) (pv 4) za6 (fun _ _=>rfl)) (pv 6)) (za0 (pv 7) za4))) za4)))))) zc6)
      (za8 (ze6 (zb9 zh0 (pv 0) zd0 (zc9 _)) (za8 (zc1 (i:=3) sc_qt1.nd rfl (Or.inl rfl) (za9 G_qs1 (hr.mono (by decide)) rfl T.m_qs1 T.F_qs1.kp T.b_qs1 .nil zb7 (za0 (pv 0) (za0 (pv 3) (za0 (za9 G_qq1 (hr.mono (by decide)) rfl T.m_qq1 T.F_qq1.kp T.b_qq1 .nil zb7 (za0 (zc4 ze4 (zc4 ze4 (zc2 (ixtK (K:=K) rfl) (pv 4) za6 (fun _ _=>rfl)) (pv 6)) (pv 6)) (za0 (zc4 ze4 (pv 7) (pv 7)) za4))) za4)))))) zc6)))))))
      (za8 (zc5 (pv 3))))),_,(zb2 (zd2 (zh8 (zb8 zb3 (zb8 zb3 zd7)) (by decide)) (zb0 3))
      (zb2 (zn2 (xo3 (zb5 1) (zb5 2)) (zt8 (zh7 (zb0 4) (zh7 (zb0 5) zt9)))
        (zb2 (zd2 (ze8 zz9 (za2 (za1 (zb6 zh5 (za1 (zb6 ro_i (za1 (zc3 0 (zc3 1 (zb5 4)))) (za1 (zc3 1 (zb5 5))))) (za1 (zb6 ro_i (za1 (zc3 0 (zb5 5))) (za1 (zc3 1 (zc3 1 (zb5 4)))))))) za7)) (zb0 6))
      (zb2 (zd2 (zb6 ro_i (za1 (zc3 1 (zc3 1 (zb5 4)))) (za1 (zc3 1 (zb5 5)))) (zb0 7))
      (zb2 (ze9 (zc0 (za1 (zb6 zg9 (za3 0) (za1 zd1)))) (zd2 (zb1 (za2 (za3 0) (za2 (za3 3) (za2 (za1 (zb1 (za2 (za3 6) (za2 (za3 7) za7)))) za7)))) (zb0 3)) zc8)
      (zb2 (ze9 (zc0 (za1 (zb6 zg9 (za3 0) (za1 zd1)))) (zd2 (zb1 (za2 (za3 0) (za2 (za3 3) (za2 (za1 (zb1 (za2 (za1 (zb6 ro_i (za1 (zc3 2 (zb5 4))) (za3 6))) (za2 (za3 7) za7)))) za7)))) (zb0 3)) zc8)
      (ze9 (zc0 (za1 (zb6 zg9 (za3 0) (za1 zd1)))) (zd2 (zb1 (za2 (za3 0) (za2 (za3 3) (za2 (za1 (zb1 (za2 (za1 (zb6 ro_i (za1 (zb6 ro_i (za1 (zc3 2 (zb5 4))) (za3 6))) (za3 6))) (za2 (za1 (zb6 ro_i (za3 7) (za3 7))) za7)))) za7)))) (zb0 3)) zc8))))))
      (zi7 3))),?_⟩
  rintro ds Q X ⟨kd,ms,row,Dh,Dr,wd,rfl,hk,hl,n60,hm,hr2,hsz,k⟩
  walk_at "s"
  refine zj6 (zo0 (fun p:Mk × Rat=>PyData.tuple [mk3 p.1,fr p.2]) (ms.zip row) (fun Q h=>by
      walk_at "d"
      rw [zl9]; exact h)
    (fun i δ=>∃ s4 s5 s6 s7:Option Sl,δ = [some (.dat (.str kd)),some (.dat (.list (ms.map mk3))),some (.dat (.list (row.map fr))),some (.dat (fr (meas kd (ms.take i) (row.take i)))),s4,s5,s6,s7] ∧ Dg (i * (2 * (Dh + Dr + 1) + wd + 3)) (meas kd (ms.take i) (row.take i))) ⟨none,none,none,none,?_,?_⟩ ?_ ?_)
  · have e:meas kd (ms.take 0) (row.take 0) = 0:=by
      unfold meas
      split
      · rfl
      · split <;> rfl
    rw [e]; rfl
  · have e:meas kd (ms.take 0) (row.take 0) = 0:=by
      unfold meas
      split
      · rfl
      · split <;> rfl
    rw [e]; exact dg0 _
  · rintro i ⟨m,h⟩ δ hi ⟨s4,s5,s6,s7,rfl,hd⟩
    obtain ⟨hi1,hi2⟩:=List.getElem?_zip_eq_some.mp hi
    have hmm:=hm m (List.mem_of_getElem? hi1)
    have hhh:=hr2 h (List.mem_of_getElem? hi2)
    have il:i < ms.length:=(List.getElem?_eq_some_iff.mp hi1).1
    have e:=zx3 (kd:=kd) hi1 hi2
    obtain ⟨Di,hDi⟩:∃ Di,2 * (Dh + Dr + 1) + wd + 2 = Di:=⟨_,rfl⟩
    have hsz2:(i + 1) * (Di + 1) + (Di + 1) ≤ 2300:=by
      refine Nat.le_trans ?_ hsz
      rw [← Nat.succ_mul,← hDi]
      exact Nat.mul_le_mul_right _ (by omega)
    have hone:=wi8 (kd:=kd) hmm.1 hmm.2.2 hhh
    rw [hDi] at hone
    rw [show 2 * (Dh + Dr + 1) + wd + 3 = Di + 1 by omega] at hd
    have hnx:Dg ((i + 1) * (Di + 1)) (meas kd (ms.take (i + 1)) (row.take (i + 1))):=by
      rw [e,Nat.succ_mul]
      exact (xz0 hd hone).mono (by omega)
    have om:Ok m.2.1:=dgOk hmm.1 (by omega)
    have oh:Ok h:=dgOk hhh (by omega)
    have hf:2 * (Dh + Dr + 1) + wd + 3 = Di + 1:=by omega
    obtain ⟨T0,hT0⟩:∃ T0,meas kd (ms.take i) (row.take i) = T0:=⟨_,rfl⟩
    rw [hT0] at e hd ⊢
    walk_at "s"
    refine ⟨zh9 om.n oh.d,zh9 oh.n om.d,?_⟩
    walk_at "s"
    refine ⟨zh9 om.d oh.d,?_⟩
    have hq0:=wr1 (x:=m.2.1.num * (h.den:Int) - h.num * (m.2.1.den:Int)) (y:=(m.2.1.den:Int) * (h.den:Int)) (Int.mul_pos (dpos _) (dpos _))
    rw [wa4] at hq0
    have pr:∀ {x y:Int},x.natAbs ≤ 10 ^ Dh → y.natAbs ≤ 10 ^ Dr → (x * y).natAbs ≤ 10 ^ (Dh + Dr):=fun {x y} hx hy=>by
      rw [Int.natAbs_mul,Nat.pow_add]
      exact Nat.mul_le_mul hx hy
    have p1:=pr hmm.1.n (y:=(h.den:Int)) (by have:=hhh.d; omega)
    have p2:=pr (x:=(m.2.1.den:Int)) (by have:=hmm.1.d; omega) hhh.n
    rw [Int.mul_comm] at p2
    have p3:=pr (x:=(m.2.1.den:Int)) (y:=(h.den:Int)) (by have:=hmm.1.d; omega) (by have:=hhh.d; omega)
    have p4:(if m.2.1.num * (h.den:Int) - h.num * (m.2.1.den:Int) < 0 then -(m.2.1.num * (h.den:Int) - h.num * (m.2.1.den:Int)) else m.2.1.num * (h.den:Int) - h.num * (m.2.1.den:Int)).natAbs ≤ 10 ^ (Dh + Dr + 1):=by
      rw [Nat.pow_succ]
      split <;> omega
    have b0:(0:Int) < (m.2.1.den:Int) * (h.den:Int):=Int.mul_pos (dpos _) (dpos _)
    obtain ⟨tp,htp⟩:∃ tp:Int,(if m.2.1.num * (h.den:Int) - h.num * (m.2.1.den:Int) < 0 then -(m.2.1.num * (h.den:Int) - h.num * (m.2.1.den:Int)) else m.2.1.num * (h.den:Int) - h.num * (m.2.1.den:Int)) = tp:=⟨_,rfl⟩
    obtain ⟨bt,hbt⟩:∃ bt:Int,(m.2.1.den:Int) * (h.den:Int) = bt:=⟨_,rfl⟩
    rw [htp] at hq0 p4 ⊢
    rw [hbt] at hq0 p3 b0 ⊢
    have wt:Wee tp:=zo3 p4 (by omega)
    have wb:Wee bt:=zo3 p3 (by omega)
    have ww:Wee m.2.2:=zo3 hmm.2.2 (by omega)
    have bq:(bt:Rat) ≠ 0:=fun z=>by have:=Rat.intCast_pos.mpr b0; grind
    rw [zv3] at e hone
    have hk3:kd = "far" ∨ kd = "sum" ∨ kd = "square":=by simpa [kdsL] using hk
    rw [hf] at *
    rcases hk3 with rfl | rfl | rfl
    · rw [if_pos rfl] at e hone
      walk_at "s"
      refine ⟨tp,bt,rfl,by omega,wb,?_⟩
      rw [hq0]
      walk_at "d"
      refine ⟨_,_,_,_,_,rfl,hd,hone,by rw [Nat.succ_mul] at hsz2; omega,?_⟩
      rw [← e]
      walk_at "s"
      refine ite2 (fun c=>absurd c (by decide)) (fun _=>?_)
      walk_at "d"
      refine ite2 (fun c=>absurd c (by decide)) (fun _=>?_)
      exact ⟨_,_,_,_,rfl,hnx⟩
    · rw [if_neg (by decide),if_pos rfl] at e hone
      walk_at "s"
      refine ite2 (fun c=>absurd c (by decide)) (fun _=>?_)
      walk_at "s"
      refine ⟨zh9 ww wt,m.2.2 * tp,bt,rfl,by omega,wb,?_⟩
      have e5:Rat.divInt (m.2.2 * tp) bt = absR ((m.2.2:Rat) * (m.2.1 - h)):=by
        rw [yk6 hmm.2.1,← hq0,dv_q,dv_q,Rat.intCast_mul]
        grind
      rw [e5]
      walk_at "d"
      refine ⟨_,_,_,_,_,rfl,hd,hone,by rw [Nat.succ_mul] at hsz2; omega,?_⟩
      rw [← e]
      walk_at "d"
      refine ite2 (fun c=>absurd c (by decide)) (fun _=>?_)
      exact ⟨_,_,_,_,rfl,hnx⟩
    · rw [if_neg (by decide),if_neg (by decide)] at e hone
      walk_at "s"
      refine ite2 (fun c=>absurd c (by decide)) (fun _=>?_)
      walk_at "s"
      refine ite2 (fun c=>absurd c (by decide)) (fun _=>?_)
      walk_at "d"
      have q1:(m.2.2 * tp).natAbs ≤ 10 ^ (wd + (Dh + Dr + 1)):=by
        rw [Int.natAbs_mul,Nat.pow_add]
        exact Nat.mul_le_mul hmm.2.2 p4
      have q2:(bt * bt).natAbs ≤ 10 ^ ((Dh + Dr) + (Dh + Dr)):=by
        rw [Int.natAbs_mul,Nat.pow_add]
        exact Nat.mul_le_mul p3 p3
      have bb:0 < bt * bt:=Int.mul_pos b0 b0
      refine ⟨zh9 ww wt,zh9 (zo3 q1 (by omega)) wt,zh9 wb wb,m.2.2 * tp * tp,bt * bt,rfl,bb,zo3 q2 (by omega),?_⟩
      have e5:Rat.divInt (m.2.2 * tp * tp) (bt * bt) = (m.2.2:Rat) * (m.2.1 - h) * (m.2.1 - h):=wt3 b0 hq0
      rw [e5]
      walk_at "d"
      refine ⟨_,_,_,_,_,rfl,hd,hone,by rw [Nat.succ_mul] at hsz2; omega,?_⟩
      rw [← e]
      walk_at "d"
      exact ⟨_,_,_,_,rfl,hnx⟩
  · rintro δ ⟨s4,s5,s6,s7,rfl,hd⟩
    have e:(ms.zip row).length = ms.length:=by rw [List.length_zip]; omega
    have e2:row.take ms.length = row:=List.take_of_length_le (by omega)
    rw [e,List.take_length,e2]
    walk_at "d"
    exact k
end
theorem MSz.measDg {L B W l b wd:Nat} {ms:List Mk} {row:List Rat} (z:MSz L B W l b wd ms row) (kd:Str):Dg (2 * l + 2 * b + wd + 6) (meas kd ms row):=by
  unfold meas
  split
  · rcases @zs1 ((zk7 ms row).map absR) with h | h
    · rw [h]; exact dg0 _
    · obtain ⟨x,hx,e⟩:=List.mem_map.mp h
      rw [← e]
      exact (wa5 ((z.miss x hx).dg z.pos z.pL (zl5 z.pB))).mono (by omega)
  · split
    · have h:=Cm.tot (qs:=(zg6 ms row).map absR) (L:=L) (B:=W * (B + B)) fun q hq=>by
        obtain ⟨x,hx,rfl⟩:=List.mem_map.mp hq
        exact (z.wmiss x hx).abs
      have hl:((zg6 ms row).map absR).length ≤ 60:=by
        rw [List.length_map]; have:=zq3 (ms:=ms) (row:=row); have:=z.len; omega
      exact (h.dg z.pos z.pL (zr7 hl (zk6 z.pW (zl5 z.pB)))).mono (by omega)
    · have h:=Cm.tot (qs:=sqR ms row) (L:=L * L) (B:=W * (B + B) * (B + B)) fun q hq=>z.sq q hq
      have hl:(sqR ms row).length ≤ 60:=by
        have:=yw2 (ms:=ms) (row:=row); have:=z.len; omega
      exact (h.dg (Nat.mul_pos z.pos z.pos) (zk6 z.pL z.pL) (zr7 hl (zk6 (zk6 z.pW (zl5 z.pB)) (zl5 z.pB)))).mono (by omega)
theorem yz2 (kd:Str) {ms:List Mk} (hw:∀ m ∈ ms,1 ≤ m.2.2):∀ (i:Nat) {row:List Rat},row.length = ms.length → i ≤ ms.length → 0 ≤ meas kd (ms.take i) (row.take i)
  | 0,_,_,_=>by
    unfold meas
    split
    · exact Rat.le_refl
    · split <;> exact Rat.le_refl
  | i + 1,row,hl,hi=>by
    have h1:=yz2 kd hw i hl (by omega)
    have e1:ms[i]? = some ms[i]:=List.getElem?_eq_getElem (by omega)
    have e2:row[i]? = some row[i]:=List.getElem?_eq_getElem (by omega)
    rw [zx3 e1 e2]
    have h2:0 ≤ meas kd [ms[i]] [row[i]]:=by
      rw [zv3]
      have w0:(0:Rat) ≤ (ms[i].2.2:Rat):=Rat.intCast_nonneg.mpr (by have:=hw ms[i] (List.getElem_mem _); omega)
      split
      · exact yf1 _
      · split
        · exact yf1 _
        · rw [Rat.mul_assoc]
          refine Rat.mul_nonneg w0 ?_
          rcases Rat.le_total (a:=0) (b:=ms[i].2.1 - row[i]) with z | z
          · exact Rat.mul_nonneg z z
          · have:=Rat.mul_nonneg (show 0 ≤ -(ms[i].2.1 - row[i]) by grind) (show 0 ≤ -(ms[i].2.1 - row[i]) by grind)
            grind
    unfold zk0
    split
    · split <;> assumption
    · grind
theorem wo2:∀ (r:List Rat) (n:Nat),r.length = n + 1 → ∃ x,FwL n x r:=by
  intro r n
  induction n generalizing r with
  | zero =>
    intro h
    match r,h with
    | [x],_=>exact ⟨x,.one 0 x⟩
  | succ n ih =>
    intro h
    have hne:r ≠ []:=fun e=>by rw [e] at h; simp at h
    have e:=List.dropLast_concat_getLast hne
    obtain ⟨y,hy⟩:=ih r.dropLast (by rw [List.length_dropLast,h]; omega)
    generalize r.getLast hne = z at e
    exact ⟨z,by rw [← e]; exact .step hy⟩
theorem xh4 (kd:Str) (ms:List Mk):meas kd ms (ms.map fun m=>m.2.1) = 0:=by
  have a0:absR 0 = 0:=zl2 Rat.le_refl
  have key:∀ i,i ≤ ms.length → meas kd (ms.take i) ((ms.map fun m=>m.2.1).take i) = 0:=fun i=>by
    induction i with
    | zero =>
      intro _
      unfold meas
      split
      · rfl
      · split <;> rfl
    | succ i ih =>
      intro hi
      have e1:ms[i]? = some ms[i]:=List.getElem?_eq_getElem (by omega)
      have e2:(ms.map fun m=>m.2.1)[i]? = some ms[i].2.1:=by rw [List.getElem?_map,e1]; rfl
      rw [zx3 e1 e2,ih (by omega),zv3,Rat.sub_self,Rat.mul_zero,a0]
      have e3:(if kd = "far" then (0:Rat) else if kd = "sum" then 0 else 0 * 0) = 0:=by
        split
        · rfl
        · split
          · rfl
          · exact Rat.zero_mul 0
      first
        | rw [e3]
        | simp only [Rat.zero_mul,Rat.mul_zero,ite_self]
      unfold zk0
      split
      · split <;> rfl
      · exact Rat.add_zero 0
  have:=key ms.length (Nat.le_refl _)
  rw [List.take_length,List.take_of_length_le (by rw [List.length_map]; exact Nat.le_refl _)] at this
  exact this
noncomputable def LL:Nat:=2329089562800
noncomputable def NN:Nat:=24888331782803390919937920000
theorem wr4 {b:Nat} (h1:1 ≤ b) (h2:b ≤ 30):b ∣ LL:=by
  have:∀ b:Nat,b < 31 → 1 ≤ b → b ∣ LL:=by decide +kernel
  exact this b (by omega) h1
theorem wr3 {v:Nat} (h1:1 ≤ v) (h2:v ≤ 40):2 * LL * v ∣ NN:=by
  have:∀ v:Nat,v < 41 → 1 ≤ v → 2 * LL * v ∣ NN:=by decide +kernel
  exact this v (by omega) h1
theorem xq2:0 < NN:=by decide +kernel
theorem wr2:NN ≤ 10 ^ 29:=by decide +kernel
theorem wr5:LL ∣ NN:=by decide +kernel
noncomputable abbrev Ro (q:Rat):Prop:=Cm NN (10 ^ 6) q
structure MkT (ms:List Mk):Prop where
  n1:1 ≤ ms.length
  n10:ms.length ≤ 10
  hc:∀ m ∈ ms,Cm LL (10 ^ 6) m.2.1
  hw:∀ m ∈ ms,1 ≤ m.2.2 ∧ m.2.2 ≤ 4
theorem MkT.c {ms:List Mk} (M:MkT ms):MkC LL ms :=
  ⟨M.n1,by have:=M.n10; omega,by decide +kernel,by decide +kernel,fun m h=>(M.hc m h).mono (Nat.dvd_refl _) (by decide +kernel),fun m h=>⟨(M.hw m h).1,Int.le_trans (M.hw m h).2 (by decide +kernel)⟩⟩
theorem MkT.lev {ms:List Mk} {kd:Str} {f l:Nat} {x:Rat} (M:MkT ms) (hk:kd ∈ kdsL) (hfl:f ≤ l) (hl:l < ms.length) (X:LevelOk kd (zf0 ms f l) x):Ro x:=by
  obtain ⟨S,hS⟩:∃ S,zf0 ms f l = S:=⟨_,rfl⟩
  rw [hS] at X
  have Sl:S.length = l + 1 - f:=by rw [← hS]; exact zm3 hl
  have Sm:∀ m ∈ S,m ∈ ms:=fun m h=>by rw [← hS] at h; exact zk1 h
  have Sne:S ≠ []:=fun e=>by rw [e,List.length_nil] at Sl; omega
  have n10:=M.n10
  have wp:=zr4 Sne fun m h=>(M.hw m (Sm m h)).1
  have wl:wsum S ≤ 40:=by
    have h1:=yk7 (W:=4) fun m h=>(M.hw m (Sm m h)).2
    omega
  exact (yq7 hk X Sne (fun m h=>M.hc m (Sm m h)) fun m h=>(M.hw m (Sm m h)).1).mono (wr3 (by omega) (by omega)) (Nat.le_refl _)
theorem MkT.sz {ms:List Mk} {row:List Rat} (hl:ms.length ≤ 60) (hc:∀ m ∈ ms,Cm LL (10 ^ 6) m.2.1) (hw:∀ m ∈ ms,1 ≤ m.2.2 ∧ m.2.2 ≤ 4) (hr:∀ q ∈ row,Ro q):MSz NN (10 ^ 6) 4 29 6 1 ms row :=
  ⟨hl,xq2,wr2,Nat.le_refl _,by decide,fun m h=>(hc m h).mono wr5 (Nat.le_refl _),hr,fun m h=>by have:=hw m h; omega,by decide⟩
theorem MkT.ms {ms:List Mk} {row:List Rat} (M:MkT ms) (hr:∀ q ∈ row,Ro q):MSz NN (10 ^ 6) 4 29 6 1 ms row:=MkT.sz (by have:=M.n10; omega) M.hc M.hw hr
theorem MkT.dg {ms:List Mk} {row:List Rat} (M:MkT ms) (hr:∀ q ∈ row,Ro q) (kd:Str):Dg 77 (meas kd ms row):=((M.ms hr).measDg kd).mono (by decide)
theorem MkT.cost {ms:List Mk} {kd:Str} {f l:Nat} (M:MkT ms) (hk:kd ∈ kdsL) (hfl:f ≤ l) (hl:l < ms.length):Dg 77 (cF kd (zf0 ms f l)):=by
  by_cases hx:∃ x,LevelOk kd (zf0 ms f l) x
  · obtain ⟨x,X⟩:=hx
    have cx:=M.lev hk hfl hl X
    have Sl:=zm3 (f:=f) hl
    have n10:=M.n10
    rw [← xd8 hk X (fun e=>by rw [e] at Sl; simp at Sl; omega) fun m h=>(M.hw m (zk1 h)).1]
    refine ((MkT.sz (by omega) (fun m h=>M.hc m (zk1 h)) (fun m h=>M.hw m (zk1 h)) fun q hq=>?_).measDg kd).mono (by decide)
    rw [List.eq_of_mem_replicate hq]; exact cx
  · unfold cF
    rw [dif_neg hx]
    exact dg0 _
theorem Laid.ro {ms:List Mk} {kd:Str} (M:MkT ms) (hk:kd ∈ kdsL) {j i:Nat} {r:List Rat} (Ld:Laid kd ms j i r) (hi:i < ms.length):∀ q ∈ r,Ro q:=by
  induction Ld with
  | @base j i x h0 hL =>
    intro q hq
    rw [List.eq_of_mem_replicate hq]
    exact M.lev hk (by omega) hi hL
  | @step j i h x r h0 hh hr hL ih =>
    intro q hq
    rcases List.mem_append.mp hq with z | z
    · exact ih (by omega) q z
    · rw [List.eq_of_mem_replicate z]
      exact M.lev hk (by omega) hi hL
theorem Ro.dg {q:Rat} (h:Ro q):Dg 36 q:=(Cm.dg h xq2 wr2 (Nat.le_refl (10 ^ 6))).mono (by decide)
noncomputable def eT2 {α β:Type} (a:Enc α) (b:Enc β) (h:a.dep ≤ 50) (h':b.dep ≤ 50):Enc (α × β) where
  d:=fun p=>.tuple [a.d p.1,b.d p.2]
  dep:=a.dep + b.dep + 1 - min a.dep b.dep
  small:=by omega
  lay:=fun p=>by
    show ((a.d p.1).canLay0 && ((b.d p.2).canLay0 && true)) = true
    rw [a.lay,b.lay]; rfl
  depth:=fun p=>by
    have h1:=a.depth p.1
    have h2:=b.depth p.2
    simp only [PyData.depth,PyData.depthAll]
    omega
  eqv:=fun p q=>by
    show PyData.eqvAll [a.d p.1,b.d p.2] [a.d q.1,b.d q.2] = true ↔ p = q
    have h1:=a.eqv p.1 q.1
    have h2:=b.eqv p.2 q.2
    simp only [PyData.eqvAll,Bool.and_eq_true,h1,h2,and_true]
    exact ⟨fun ⟨x,y⟩=>Prod.ext x y,fun e=>by rw [e]; exact ⟨rfl,rfl⟩⟩
open PySem.NumText (AllDigits digitsVal)
theorem zk5 {x y:Str} (h:x.cps.toList = y.cps.toList):x = y:=by
  cases x; cases y
  simp only at h
  rw [Array.toList_inj.mp h]
theorem zg5 (x:Str):x.cps.toList.length = x.length:=by simp [Str.length]
theorem wf2 (x:Str):(PySem.Txt.slice x none (some 1)).cps.toList = x.cps.toList.take 1:=by
  have hl:=zg5 x
  by_cases h:1 ≤ x.length
  · have e:=slice_closes_to (x:=x) (j:=1) ⟨by decide,by omega⟩
    rw [eq_of_beq e]
    simp
  · have e:=PySem.Txt.slice_le x none (some 1)
    have e1:(PySem.Txt.slice x none (some 1)).cps.toList = []:=List.length_eq_zero_iff.mp (by rw [zg5]; omega)
    have e2:x.cps.toList = []:=List.length_eq_zero_iff.mp (by omega)
    rw [e1,e2]; rfl
theorem yw5 (x:Str):(PySem.Txt.slice x (some 1) none).cps.toList = x.cps.toList.drop 1:=by
  have hl:=zg5 x
  by_cases h:1 ≤ x.length
  · have e:=slice_closes_from (x:=x) (i:=1) ⟨by decide,by omega⟩
    rw [eq_of_beq e]
    have e2:((x.cps.toList.length:Int) - 1).toNat = (x.cps.toList.drop 1).length:=by rw [List.length_drop]; omega
    rw [e2]
    show List.take _ (x.cps.toList.drop (Int.toNat 1)) = _
    exact List.take_length
  · have e:=PySem.Txt.slice_le x (some 1) none
    have e1:(PySem.Txt.slice x (some 1) none).cps.toList = []:=List.length_eq_zero_iff.mp (by rw [zg5]; omega)
    have e2:x.cps.toList = []:=List.length_eq_zero_iff.mp (by omega)
    rw [e1,e2]; rfl
theorem ye8 (x y:Str):PySem.Txt.contains x y = decide (0 ≤ PySem.Txt.find x y):=by
  unfold PySem.Txt.contains PySem.Txt.find
  cases Builtin.Str.occurrences x y 0 x.length 1 with
  | nil=>rfl
  | cons i r=>simp
theorem yc9 {x y:Str} (h:PySem.Txt.contains x y = false):PySem.Txt.partition x y = (x,Str.empty,Str.empty):=by
  unfold PySem.Txt.contains at h
  unfold PySem.Txt.partition
  cases e:Builtin.Str.occurrences x y 0 x.length 1 with
  | nil=>rfl
  | cons i r=>rw [e] at h; cases h
theorem xw8 {x y:Str} (h:PySem.Txt.contains x y = true):(PySem.Txt.partition x y).2.1 = y:=by
  unfold PySem.Txt.contains at h
  unfold PySem.Txt.partition
  cases e:Builtin.Str.occurrences x y 0 x.length 1 with
  | nil=>rw [e] at h; cases h
  | cons i r=>rfl
noncomputable def ye0 (c:Nat):Bool:=decide (48 ≤ c) && decide (c ≤ 57)
theorem isDig_iff {c:Nat}:ye0 c = true ↔ 48 ≤ c ∧ c ≤ 57:=by simp [ye0]
theorem wo4:("0123456789":Str).cps.toList = [48,49,50,51,52,53,54,55,56,57]:=by decide +kernel
theorem xi9 (c:Nat):PySem.Txt.find "0123456789" ⟨#[c]⟩ = if ye0 c = true then (c:Int) - 48 else -1:=by
  have key:∀ i:Nat,PySem.StrLaws.At "0123456789" ⟨#[c]⟩ ("0123456789":Str).length i ↔ i < 10 ∧ c = 48 + i:=by
    intro i
    unfold PySem.StrLaws.At
    have hl:("0123456789":Str).length = 10:=by decide +kernel
    have h1:(⟨#[c]⟩:Str).length = 1:=rfl
    rw [PySem.StrLaws.subAt_eq,wo4,hl,h1]
    constructor
    · rintro ⟨h2,h3⟩
      have h4:i < 10:=by omega
      refine ⟨h4,?_⟩
      have h5:=eq_of_beq h3
      have h6:∀ i:Nat,i < 10 → ([48,49,50,51,52,53,54,55,56,57].drop i).take 1 = [48 + i]:=by decide
      rw [h6 i h4] at h5
      have h7:[48 + i] = [c]:=h5
      injection h7 with h7
      omega
    · rintro ⟨h4,rfl⟩
      refine ⟨by omega,?_⟩
      have h6:∀ i:Nat,i < 10 → ([48,49,50,51,52,53,54,55,56,57].drop i).take 1 = [48 + i]:=by decide
      rw [h6 i h4]
      exact beq_self_eq_true _
  rcases find_whole "0123456789" ⟨#[c]⟩ with ⟨h,hn⟩ | ⟨i,h,hi,_⟩
  · rw [h,if_neg]
    intro hc
    have hc:=isDig_iff.mp hc
    exact hn (c - 48) ((key _).mpr ⟨by omega,by omega⟩)
  · obtain ⟨h1,h2⟩:=(key i).mp hi
    rw [h,if_pos (isDig_iff.mpr ⟨by omega,by omega⟩)]
    omega
theorem xo4 (c:Nat):PySem.Txt.contains "0123456789" ⟨#[c]⟩ = ye0 c:=by
  rw [ye8,xi9]
  cases h:ye0 c with
  | true =>
    have:=isDig_iff.mp h
    rw [if_pos rfl]
    exact decide_eq_true (by omega)
  | false =>
    rw [if_neg Bool.false_ne_true]
    rfl
noncomputable def figs (cs:List Nat):List Nat:=if cs.head? = some 45 then cs.drop 1 else cs
noncomputable def figB (cs:List Nat):Bool:=decide (1 ≤ cs.length) && decide (cs.length ≤ 40) && !(decide (cs.head? = some 48) && decide (1 < cs.length)) && cs.all ye0
noncomputable def numF (cs:List Nat):Option Int:=if (!decide (cs = [45,48]) && figB (figs cs)) = true then some (if cs.head? = some 45 then -((digitsVal (figs cs):Nat):Int) else ((digitsVal (figs cs):Nat):Int)) else none
noncomputable def figS (x:Str):Str:=if x.cps.toList.head? = some 45 then PySem.Txt.slice x (some 1) none else x
theorem xb5 (x:Str):(figS x).cps.toList = figs x.cps.toList:=by
  unfold figS figs
  split
  · exact yw5 x
  · rfl
theorem xj0 (x:Str):(figS x).length ≤ x.length:=by
  unfold figS
  split
  · exact PySem.Txt.slice_le x _ _
  · exact Nat.le_refl _
theorem zt3:("-":Str).cps.toList = [45]:=by decide +kernel
theorem zx2:("-0":Str).cps.toList = [45,48]:=by decide +kernel
theorem zr3 (x:Str):PySem.Txt.slice x none (some 1) = "-" ↔ x.cps.toList.head? = some 45:=by
  have e:=wf2 x
  constructor
  · intro h
    rw [h,zt3] at e
    cases hx:x.cps.toList with
    | nil=>rw [hx] at e; cases e
    | cons c r=>rw [hx] at e; injection e with e1; rw [List.head?_cons,← e1]
  · intro h
    apply zk5
    rw [e,zt3]
    cases hx:x.cps.toList with
    | nil=>rw [hx] at h; cases h
    | cons c r=>rw [hx] at h; injection h with h1; rw [h1]; rfl
theorem yj2 (x:Str):x = "-0" ↔ x.cps.toList = [45,48]:=⟨fun h=>by rw [h,zx2],fun h=>zk5 (by rw [h,zx2])⟩
theorem yr3 {cs:List Nat} (h:figB cs = true):1 ≤ cs.length ∧ cs.length ≤ 40 ∧ AllDigits cs ∧ (cs.head? = some 48 → cs.length = 1):=by
  simp only [figB,Bool.and_eq_true,decide_eq_true_eq,Bool.not_eq_true',Bool.and_eq_false_iff,decide_eq_false_iff_not,List.all_eq_true] at h
  obtain ⟨⟨⟨h1,h2⟩,h3⟩,h4⟩:=h
  exact ⟨h1,h2,fun c hc=>isDig_iff.mp (h4 c hc),fun e=>by rcases h3 with h3 | h3; exact absurd e h3; omega⟩
theorem yi1 {cs:List Nat} {n:Int} (h:numF cs = some n):figB (figs cs) = true ∧ cs ≠ [45,48] ∧ n = if cs.head? = some 45 then -((digitsVal (figs cs):Nat):Int) else ((digitsVal (figs cs):Nat):Int):=by
  unfold numF at h
  split at h
  · rename_i hc
    simp only [Bool.and_eq_true,Bool.not_eq_true',decide_eq_false_iff_not] at hc
    cases h
    exact ⟨hc.2,hc.1,rfl⟩
  · cases h
theorem xx7 {x:Str} {n:Int} (h:numF x.cps.toList = some n):x.length ≤ 41 ∧ PySem.intText? x = some n:=by
  obtain ⟨h1,h2,h3⟩:=yi1 h
  obtain ⟨l1,l2,hd,_⟩:=yr3 h1
  have hl:=zg5 x
  unfold figs at l1 l2 hd h3
  split at l1
  · rename_i hc
    rw [if_pos hc] at l2 hd h3
    cases hx:x.cps.toList with
    | nil=>rw [hx] at hc; cases hc
    | cons c r =>
      rw [hx] at hc l1 l2 hd h3 hl
      injection hc with hc
      subst hc
      have hlen:x.length ≤ 41:=by
        rw [List.length_drop] at l2
        omega
      refine ⟨hlen,?_⟩
      rw [PySem.intText_neg hx (show AllDigits r from hd) (fun e=>by rw [e] at l1; exact absurd l1 (by decide)) (by omega),h3]
      rfl
  · rename_i hc
    rw [if_neg hc] at l2 hd h3
    refine ⟨by omega,?_⟩
    rw [PySem.intText_digits hd (fun e=>by rw [e] at l1; exact absurd l1 (by decide)) (by omega),h3,if_neg hc]
theorem yh9 (a b:String):(Str.ofString (a ++ b)).cps.toList = (Str.ofString a).cps.toList ++ (Str.ofString b).cps.toList:=by
  rw [signs_ofString,signs_ofString,signs_ofString]
  simp
theorem ww3 {cs:List Nat} (h:AllDigits cs):digitsVal cs < 10 ^ cs.length:=by
  have key:∀ (cs:List Nat) (a:Nat),AllDigits cs → cs.foldl (fun acc c=>acc * 10 + (c - 48)) a < (a + 1) * 10 ^ cs.length:=by
    intro cs
    induction cs with
    | nil=>intro a _; simp
    | cons c r ih =>
      intro a h
      have hc:=h c (by simp)
      have h1:=ih (a * 10 + (c - 48)) fun d hd=>h d (by simp [hd])
      rw [List.foldl_cons,List.length_cons,Nat.pow_succ]
      refine Nat.lt_of_lt_of_le h1 ?_
      have e:(a + 1) * (10 ^ r.length * 10) = (a * 10 + 10) * 10 ^ r.length:=by
        rw [Nat.mul_comm (10 ^ r.length) 10,← Nat.mul_assoc,Nat.add_mul a 1 10,Nat.one_mul]
      rw [e]
      exact Nat.mul_le_mul_right _ (by omega)
  have:=key cs 0 h
  simpa [digitsVal] using this
theorem yy5 {cs:List Nat} {n:Int} (h:numF cs = some n):n.natAbs < 10 ^ 40:=by
  obtain ⟨h1,h2,h3⟩:=yi1 h
  obtain ⟨l1,l2,hd,hz⟩:=yr3 h1
  have h4:=ww3 hd
  have h5:(10:Nat) ^ (figs cs).length ≤ 10 ^ 40:=Nat.pow_le_pow_right (by decide) l2
  have h6:n.natAbs = digitsVal (figs cs):=by
    rw [h3]; split <;> omega
  omega
theorem xh9 {i:Int} (h:i.natAbs < 10 ^ 50):i.natAbs.log2 < 1920:=by
  by_cases h0:i.natAbs = 0
  · rw [h0]; decide
  · exact (Nat.log2_lt h0).mpr (Nat.lt_of_lt_of_le h (by decide +kernel))
theorem zn5 {n:Int} (h:n.natAbs < 10 ^ 50):(Str.ofString (toString n)).length ≤ 51:=by
  by_cases h0:0 ≤ n
  · have:=toString_length_le (k:=50) h0 (by decide) (by omega)
    omega
  · rw [len_text_neg (by omega)]
    have:=toString_length_le (k:=50) (v:=0 - n) (by omega) (by decide) (by omega)
    omega
noncomputable def valF (x:Str):Option (Int × Int) :=
  match numF (PySem.Txt.partition x "/").1.cps.toList with
  | none=>none
  | some t=>if (PySem.Txt.partition x "/").2.1 = Str.empty then some (t,1) else
    match numF (PySem.Txt.partition x "/").2.2.cps.toList with
    | none=>none
    | some b=>if b < 2 ∨ Int.gcd t b ≠ 1 then none else some (t,b)
theorem zl6:(Str.ofString "/").length = 1:=by decide +kernel
theorem xg5:(Str.ofString "/") ≠ Str.empty:=by decide +kernel
theorem ya2 (x:Str):(PySem.Txt.partition x "/").2.1 = Str.empty ↔ PySem.Txt.contains x "/" = false:=by
  constructor
  · intro h
    cases hc:PySem.Txt.contains x "/" with
    | false=>rfl
    | true=>exact absurd ((xw8 hc).symm.trans h) xg5
  · intro h
    rw [yc9 h]
theorem yd0 (x y:Str):(PySem.Txt.partition x y).1.length ≤ x.length ∧ (PySem.Txt.partition x y).2.1.length ≤ x.length ∧ (PySem.Txt.partition x y).2.2.length ≤ x.length:=fact_partition x y
theorem zz3 {x:Str} (hc:PySem.Txt.contains x "/" = false):valF x = (numF x.cps.toList).map (fun t=>(t,1)):=by
  unfold valF
  rw [yc9 hc]
  cases numF x.cps.toList with
  | none=>rfl
  | some t=>simp
theorem yf9 {x:Str} (hc:PySem.Txt.contains x "/" = true) {t b:Int} (h1:numF (PySem.Txt.partition x "/").1.cps.toList = some t) (h2:numF (PySem.Txt.partition x "/").2.2.cps.toList = some b) :
    valF x = if b < 2 ∨ Int.gcd t b ≠ 1 then none else some (t,b):=by
  unfold valF
  rw [h1,h2]
  simp only
  rw [if_neg fun z=>by rw [(ya2 x).mp z] at hc; cases hc]
theorem xf4 {x:Str} (h1:numF (PySem.Txt.partition x "/").1.cps.toList = none):valF x = none:=by
  unfold valF
  rw [h1]
theorem xf3 {x:Str} (hc:PySem.Txt.contains x "/" = true) (h2:numF (PySem.Txt.partition x "/").2.2.cps.toList = none):valF x = none:=by
  unfold valF
  split
  · rfl
  · rw [h2]
    simp only
    rw [if_neg fun z=>by rw [(ya2 x).mp z] at hc; cases hc]
theorem xy4 {t b:Int} (hb:2 ≤ b):((Rat.divInt t b).num = t ∧ ((Rat.divInt t b).den:Int) = b) ↔ Int.gcd t b = 1:=by
  obtain ⟨e1,e2⟩:=Fm.fr_pos (t:=t) (b:=b) (by omega)
  rw [← e1,← e2]
  constructor
  · rintro ⟨_,h⟩
    have hd:((Int.gcd t b:Nat):Int) ∣ b:=Int.gcd_dvd_right ..
    have hm:=Int.mul_ediv_cancel' hd
    rw [h] at hm
    have h1:((Int.gcd t b:Nat):Int) * b = 1 * b:=by rw [hm,Int.one_mul]
    have h2:=Int.eq_of_mul_eq_mul_right (by omega) h1
    omega
  · intro h
    rw [h]
    simp
open PySem.StrLaws (At ChainG partsFrom occ_tight partsBetween_eq)
open PySem.Builtin.Str (occurrences partsBetween strSub subAt)
theorem zu7 (x:Str) (i j:Nat):(strSub x i j).cps.toList = (x.cps.toList.drop i).take (j - i):=PySem.StrLaws.strSub_toList x i j
theorem xe3 (x y:Str) (i:Nat):At x y x.length i ↔ i + y.length ≤ x.length ∧ (x.cps.toList.drop i).take y.length = y.cps.toList:=by
  unfold PySem.StrLaws.At
  rw [PySem.StrLaws.subAt_eq]
  exact ⟨fun h=>⟨h.1,eq_of_beq h.2⟩,fun h=>⟨h.1,beq_iff_eq.mpr h.2⟩⟩
structure Sp1 (y:Str) (c:Nat) (pre post:List Nat):Prop where
  is:y.cps.toList = pre ++ c :: post
  no:c ∉ pre
theorem Sp1.len {y:Str} {c:Nat} {pre post:List Nat} (s:Sp1 y c pre post):y.length = pre.length + 1 + post.length:=by
  rw [← zg5,s.is,List.length_append,List.length_cons]; omega
theorem yr2 {x y:Str} {c:Nat} {pre post u v:List Nat} {a:Nat} (s:Sp1 y c pre post) (hx:x.cps.toList.drop a = u ++ y.cps.toList ++ v) (ha:a ≤ x.length) (hu:c ∉ u) :
    At x y x.length (a + u.length) ∧ ∀ k,a ≤ k → k < a + u.length → ¬ At x y x.length k:=by
  have hl:=zg5 x
  have hly:=zg5 y
  have hlen:x.length - a = u.length + y.length + v.length:=by
    have:=congrArg List.length hx
    simp only [List.length_drop,List.length_append] at this
    omega
  refine ⟨(xe3 x y _).mpr ⟨by omega,?_⟩,fun k h1 h2 h3=>?_⟩
  · rw [← List.drop_drop,hx,List.append_assoc,List.drop_left,List.take_append_of_le_length (by omega),List.take_of_length_le (by omega)]
  · obtain ⟨h4,h5⟩:=(xe3 x y k).mp h3
    obtain ⟨j,rfl⟩:∃ j,k = a + j:=⟨k - a,by omega⟩
    rw [← List.drop_drop,hx] at h5
    have e1:(List.take y.length (List.drop j (u ++ y.cps.toList ++ v)))[pre.length]? = some c:=by
      rw [h5,s.is,List.getElem?_append_right (Nat.le_refl _),Nat.sub_self]; rfl
    rw [List.getElem?_take_of_lt (by rw [s.len]; omega),List.getElem?_drop,List.append_assoc] at e1
    by_cases h6:j + pre.length < u.length
    · rw [List.getElem?_append_left h6] at e1
      exact hu (List.mem_of_getElem? e1)
    · rw [List.getElem?_append_right (by omega),s.is,List.append_assoc,List.getElem?_append_left (by omega)] at e1
      exact s.no (List.mem_of_getElem? e1)
theorem xx9 {x y:Str} {c:Nat} {pre post:List Nat} {a:Nat} (s:Sp1 y c pre post) (hu:c ∉ x.cps.toList.drop a):∀ k,a ≤ k → ¬ At x y x.length k:=fun k h1 h3=>by
  obtain ⟨h4,h5⟩:=(xe3 x y k).mp h3
  obtain ⟨j,rfl⟩:∃ j,k = a + j:=⟨k - a,by omega⟩
  rw [← List.drop_drop] at h5
  have e1:(List.take y.length (List.drop j (x.cps.toList.drop a)))[pre.length]? = some c:=by
    rw [h5,s.is,List.getElem?_append_right (Nat.le_refl _),Nat.sub_self]; rfl
  rw [List.getElem?_take_of_lt (by rw [s.len]; omega),List.getElem?_drop] at e1
  exact hu (List.mem_of_getElem? e1)
noncomputable def yi5 (y:List Nat):List (List Nat) → List Nat
  | []=>[]
  | [w]=>w
  | w :: r=>w ++ y ++ yi5 y r
theorem zm0 (y w z:List Nat) (r:List (List Nat)):yi5 y (w :: z :: r) = w ++ y ++ yi5 y (z :: r):=rfl
theorem zk3 (y:Str):∀ ws:List Str,(Txt.join y ws).cps.toList = yi5 y.cps.toList (ws.map fun w=>w.cps.toList):=by
  intro ws
  show (Builtin.Str.glued y ws).cps.toList = _
  rw [PySem.StrLaws.glued_eq_join]
  induction ws with
  | nil=>rfl
  | cons w r ih =>
    cases r with
    | nil=>rfl
    | cons z r =>
      show (w ++ y ++ Str.join y (z :: r)).cps.toList = _
      rw [List.map_cons,List.map_cons,zm0,← List.map_cons (f:=fun w:Str=>w.cps.toList),← ih]
      simp only [Str.cps_append,Array.toList_append]
theorem yp4 {x y:Str} {c:Nat} {pre post:List Nat} (s:Sp1 y c pre post):∀ (ws:List (List Nat)) (a f:Nat) (cuts:List Nat),ws ≠ [] → a ≤ x.length → x.cps.toList.drop a = yi5 y.cps.toList ws → (∀ w ∈ ws,c ∉ w) →
    ChainG x y x.length a cuts f → (∀ k,f ≤ k → ¬ At x y x.length k) → (partsFrom x y.length a cuts).map (fun p=>p.cps.toList) = ws
  | [],_,_,_,h,_,_,_,_,_=>absurd rfl h
  | [w],a,f,cuts,_,ha,hx,hw,hc,hn=>by
    have no:=xx9 s (a:=a) (by rw [hx]; exact hw w (by simp))
    cases cuts with
    | nil =>
      show [(strSub x a x.length).cps.toList] = [w]
      have hl:=zg5 x
      rw [zu7,List.take_of_length_le (by rw [List.length_drop]; omega),hx]
      rfl
    | cons d r=>exact absurd hc.2.1 (no d hc.1)
  | w :: z :: r,a,f,cuts,_,ha,hx,hw,hc,hn=>by
    rw [zm0] at hx
    obtain ⟨h1,h2⟩:=yr2 s hx ha (hw w (by simp))
    have hl:=zg5 x
    have hly:=zg5 y
    have hlen:x.length - a = w.length + y.length + (yi5 y.cps.toList (z :: r)).length:=by
      have:=congrArg List.length hx
      simp only [List.length_drop,List.length_append] at this
      omega
    cases cuts with
    | nil =>
      have e:f = a:=hc
      exact absurd h1 (hn _ (by omega))
    | cons d q =>
      obtain ⟨c1,c2,c3,c4⟩:=hc
      have e:d = a + w.length:=by
        rcases Nat.lt_trichotomy d (a + w.length) with z1 | z1 | z1
        · exact absurd c2 (h2 d c1 z1)
        · exact z1
        · exact absurd h1 (c3 _ (by omega) z1)
      subst e
      show (strSub x a (a + w.length)).cps.toList :: (partsFrom x y.length (a + w.length + y.length) q).map (fun p=>p.cps.toList) = _
      rw [zu7,hx,show a + w.length - a = w.length by omega,List.append_assoc,List.take_left]
      congr 1
      refine yp4 s (z :: r) _ f q (by simp) (by omega) ?_ (fun u hu=>hw u (List.mem_cons_of_mem _ hu)) c4 hn
      have e3:x.cps.toList.drop (a + w.length + y.length) = List.drop (w.length + y.length) (x.cps.toList.drop a):=by
        rw [List.drop_drop]; congr 1; omega
      rw [e3,hx,List.append_assoc,← List.drop_drop,List.drop_left,← hly,List.drop_left]
theorem xg2 {x y:Str} (hy:1 ≤ y.length) (hk:Builtin.Str.strKind y ≤ Builtin.Str.strKind x):Txt.split x y = partsFrom x y.length 0 (occurrences x y 0 x.length (x.length + 1)):=by
  unfold PySem.Txt.split
  by_cases h1:x.length < y.length
  · rw [if_pos (by simp [h1])]
    obtain ⟨f,h2,_⟩:=occ_tight x y hy
    cases e:occurrences x y 0 x.length (x.length + 1) with
    | nil =>
      show [x] = [strSub x 0 x.length]
      rw [PySem.StrLaws.sub_whole]
    | cons c r =>
      rw [e] at h2
      have:=h2.2.1.1
      omega
  · rw [if_neg (by simp; omega)]
    split
    · rename_i h2
      rw [List.isEmpty_iff.mp h2]
      show [x] = [strSub x 0 x.length]
      rw [PySem.StrLaws.sub_whole]
    · exact partsBetween_eq x _ _
theorem xi0 {y:Str} (h:∀ c ∈ y.cps.toList,c < 128) (x:Str):Builtin.Str.strKind y ≤ Builtin.Str.strKind x:=by
  have h1:Builtin.Str.strKind y = 1:=by
    unfold Builtin.Str.strKind
    rw [if_pos]
    rw [← Array.all_toList]
    exact List.all_eq_true.mpr fun c hc=>decide_eq_true (Nat.lt_trans (h c hc) (by decide))
  rw [h1]
  unfold Builtin.Str.strKind
  split
  · exact Nat.le_refl _
  · split <;> decide
theorem zt0 {y:Str} {c:Nat} {pre post:List Nat} (s:Sp1 y c pre post) (hy:∀ d ∈ y.cps.toList,d < 128) {ws:List Str} (hne:ws ≠ []) (hw:∀ w ∈ ws,c ∉ w.cps.toList):Txt.split (Txt.join y ws) y = ws:=by
  have hyl:1 ≤ y.length:=by rw [s.len]; omega
  rw [xg2 hyl (xi0 hy _)]
  obtain ⟨f,h1,h2⟩:=occ_tight (Txt.join y ws) y hyl
  have h:=yp4 s (ws.map fun w=>w.cps.toList) 0 f _ (by simpa using hne) (Nat.zero_le _) (by rw [List.drop_zero,zk3]) (by simpa using hw) h1 h2
  have inj:∀ (a b:List Str),a.map (fun w=>w.cps.toList) = b.map (fun w=>w.cps.toList) → a = b:=by
    intro a
    induction a with
    | nil=>intro b hb; cases b with | nil=>rfl | cons _ _=>simp at hb
    | cons w r ih =>
      intro b hb
      cases b with
      | nil=>simp at hb
      | cons z q =>
        simp only [List.map_cons,List.cons.injEq] at hb
        rw [zk5 hb.1,ih q hb.2]
  exact inj _ _ h
theorem yd1 {y:Str} {c:Nat} {pre post:List Nat} (s:Sp1 y c pre post) {a b:Str} (ha:c ∉ a.cps.toList):PySem.Txt.partition (a ++ y ++ b) y = (a,y,b):=by
  obtain ⟨x,hx⟩:∃ x,a ++ y ++ b = x:=⟨_,rfl⟩
  have hxl:x.cps.toList = a.cps.toList ++ y.cps.toList ++ b.cps.toList:=by
    rw [← hx]; simp only [Str.cps_append,Array.toList_append]
  have hl:=zg5 x
  have la:=zg5 a
  have ly:=zg5 y
  obtain ⟨h1,h2⟩:=yr2 (a:=0) s (by rw [List.drop_zero]; exact hxl) (Nat.zero_le _) ha
  rw [Nat.zero_add] at h1 h2
  have hw:=find_whole x y
  unfold PySem.Txt.find at hw
  rw [hx]
  unfold PySem.Txt.partition
  cases e:occurrences x y 0 x.length 1 with
  | nil =>
    rw [e] at hw
    rcases hw with ⟨_,hn⟩ | ⟨i,hi,_⟩
    · exact absurd h1 (hn _)
    · simp at hi
  | cons i r =>
    rw [e] at hw
    have hi:At x y x.length i ∧ ∀ k,k < i → ¬ At x y x.length k:=by
      rcases hw with ⟨z,_⟩ | ⟨j,hj,h3,h4⟩
      · simp at z
      · have:i = j:=by have:(i:Int) = (j:Int):=hj; omega
        subst this
        exact ⟨h3,h4⟩
    have ei:i = a.cps.toList.length:=by
      rcases Nat.lt_trichotomy i a.cps.toList.length with z1 | z1 | z1
      · exact absurd hi.1 (h2 i (Nat.zero_le _) z1)
      · exact z1
      · exact absurd h1 (hi.2 _ z1)
    subst ei
    show (strSub x 0 a.cps.toList.length,y,strSub x (a.cps.toList.length + y.length) x.length) = (a,y,b)
    have e1:strSub x 0 a.cps.toList.length = a:=by
      apply zk5
      rw [zu7,hxl,List.drop_zero,Nat.sub_zero,List.append_assoc,List.take_left]
    have e2:strSub x (a.cps.toList.length + y.length) x.length = b:=by
      apply zk5
      rw [zu7,List.take_of_length_le (by rw [List.length_drop]; omega),hxl,List.append_assoc,← List.drop_drop,List.drop_left,← ly,List.drop_left]
    rw [e1,e2]
noncomputable abbrev Mk7:=(Int × Int) × (Int × Int) × Int
noncomputable def mD (m:Mk7):PyData:=.tuple [.tuple [.int m.1.1,.int m.1.2],.tuple [.int m.2.1.1,.int m.2.1.2],.int m.2.2]
noncomputable def shF (t b:Int):Str:=if b = 1 then Str.ofString (toString t) else Str.ofString (toString t) ++ Str.ofString "/" ++ Str.ofString (toString b)
noncomputable def shM (m:Mk7):Str:=shF m.1.1 m.1.2 ++ Str.ofString ":" ++ shF m.2.1.1 m.2.1.2 ++ Str.ofString "*" ++ Str.ofString (toString m.2.2)
noncomputable def Sm7 (m:Mk7):Prop:=m.1.1.natAbs < 10 ^ 50 ∧ m.1.2.natAbs < 10 ^ 50 ∧ m.2.1.1.natAbs < 10 ^ 50 ∧ m.2.1.2.natAbs < 10 ^ 50 ∧ m.2.2.natAbs < 10 ^ 50
theorem yc5 {t b:Int} (ht:t.natAbs < 10 ^ 50) (hb:b.natAbs < 10 ^ 50):(shF t b).length ≤ 103:=by
  have l1:=zn5 ht
  have l2:=zn5 hb
  have sl:=zl6
  unfold shF
  split
  · omega
  · rw [PySem.Str.length_append,PySem.Str.length_append]; omega
theorem zy6:(Str.ofString ":").length = 1:=by decide +kernel
theorem yc0:(Str.ofString "*").length = 1:=by decide +kernel
theorem zi5:(Str.ofString " ").length = 1:=by decide +kernel
theorem yl2 {m:Mk7} (h:Sm7 m):1 ≤ (shM m).length ∧ (shM m).length ≤ 259:=by
  have l1:=yc5 h.1 h.2.1
  have l2:=yc5 h.2.2.1 h.2.2.2.1
  have l3:=zn5 h.2.2.2.2
  have:=zy6
  have:=yc0
  unfold shM
  rw [PySem.Str.length_append,PySem.Str.length_append,PySem.Str.length_append,PySem.Str.length_append]
  omega
noncomputable def yc1 (x:Str):Option Mk7 :=
  match valF (PySem.Txt.partition x ":").1 with
  | none=>none
  | some a=>match valF (PySem.Txt.partition (PySem.Txt.partition x ":").2.2 "*").1 with
    | none=>none
    | some b=>match numF (PySem.Txt.partition (PySem.Txt.partition x ":").2.2 "*").2.2.cps.toList with
      | none=>none
      | some n=>if n < 1 then none else some (a,b,n)
structure Digs (k n:Nat) (cs:List Nat):Prop where
  al:AllDigits cs
  l1:1 ≤ cs.length
  l2:cs.length ≤ k
  hd:cs.head? = some 48 → cs.length = 1
  vl:digitsVal cs = n
theorem xb8 (cs:List Nat) (c:Nat):digitsVal (cs ++ [c]) = digitsVal cs * 10 + (c - 48):=by
  unfold PySem.NumText.digitsVal
  rw [List.foldl_append]; rfl
theorem ym9:∀ (k n:Nat),n < 10 ^ (k + 1) → ∃ cs,Digs (k + 1) n cs
  | 0,n,h=>⟨[48 + n],fun c hc=>by rw [List.mem_singleton.mp hc]; omega,by simp,by simp,fun _=>rfl,by have:=xb8 [] (48 + n); rw [List.nil_append] at this; rw [this]; show 0 * 10 + _ = n; omega⟩
  | k + 1,n,h=>by
    by_cases h1:n < 10
    · obtain ⟨cs,d⟩:=ym9 k n (by rw [Nat.pow_succ]; have:=Nat.pow_pos (n:=k) (show 0 < 10 by decide); omega)
      exact ⟨cs,d.al,d.l1,by have:=d.l2; omega,d.hd,d.vl⟩
    · obtain ⟨cs,d⟩:=ym9 k (n / 10) (by rw [Nat.pow_succ] at h; omega)
      have l1:=d.l1
      have l2:=d.l2
      refine ⟨cs ++ [48 + n % 10],fun c hc=>?_,by simp,by simp; omega,fun e=>?_,?_⟩
      · rcases List.mem_append.mp hc with z | z
        · exact d.al c z
        · rw [List.mem_singleton.mp z]; omega
      · have e2:cs.head? = some 48:=by
          cases cs with
          | nil=>simp at l1
          | cons a r=>simpa using e
        have l3:=d.hd e2
        obtain ⟨a,ha⟩:∃ a,cs = [a]:=List.length_eq_one_iff.mp l3
        rw [ha] at e2
        have ea:a = 48:=by simpa using e2
        have v:=d.vl
        rw [ha,ea] at v
        have:digitsVal [48] = 0:=rfl
        omega
      · rw [xb8,d.vl]; omega
theorem wa3 {k n:Nat} {cs:List Nat} (d:Digs k n cs):(Str.ofString (toString ((n:Nat):Int))).cps.toList = cs:=by
  have key:∀ c:Nat,c < 58 → (Char.ofNat c).toNat = c:=by decide
  have l1:=d.l1
  rw [← d.vl,PySem.W.KIN.signs_num,PySem.NumText.toDigits_digitsVal (cs.length - 1) cs (by omega) d.al ?_,List.map_map]
  · refine (List.map_congr_left (g:=id) fun c hc=>?_).trans (List.map_id _)
    have:=d.al c hc
    exact key c (by omega)
  · cases cs with
    | nil=>exact absurd l1 (by decide)
    | cons c r =>
      by_cases hc:c = 48
      · left
        have:=d.hd (by rw [hc]; rfl)
        omega
      · right
        have:=d.al c (by simp)
        exact ⟨c,r,rfl,by omega⟩
theorem zp7 {k:Nat} {n:Int} (h:n.natAbs < 10 ^ (k + 1)):∃ cs,Digs (k + 1) n.natAbs cs ∧ (Str.ofString (toString n)).cps.toList = if n < 0 then 45 :: cs else cs:=by
  obtain ⟨cs,d⟩:=ym9 k n.natAbs h
  refine ⟨cs,d,?_⟩
  have e:=wa3 d
  by_cases hn:n < 0
  · rw [if_pos hn,toString_neg hn,yh9]
    have e3:(0:Int) - n = ((n.natAbs:Nat):Int):=by omega
    rw [e3,e]
    show ("-":Str).cps.toList ++ cs = 45 :: cs
    rw [zt3]; rfl
  · rw [if_neg hn]
    have e3:n = ((n.natAbs:Nat):Int):=by omega
    rw [e3]
    exact e
theorem yi0 {n:Int} (h:n.natAbs < 10 ^ 40):numF (Str.ofString (toString n)).cps.toList = some n:=by
  obtain ⟨cs,d,e⟩:=zp7 (k:=39) h
  have l1:=d.l1
  have l2:=d.l2
  have fb:figB cs = true:=by
    unfold figB
    rw [decide_eq_true l1,decide_eq_true (show cs.length ≤ 40 by omega)]
    have e2:(decide (cs.head? = some 48) && decide (1 < cs.length)) = false:=by
      rw [Bool.and_eq_false_iff]
      by_cases h0:cs.head? = some 48
      · right; exact decide_eq_false (by have:=d.hd h0; omega)
      · left; exact decide_eq_false h0
    rw [e2]
    simp only [Bool.not_false,Bool.and_true,Bool.true_and,List.all_eq_true]
    exact fun c hc=>isDig_iff.mpr (d.al c hc)
  have hv:=d.vl
  have h45:cs.head? ≠ some 45:=fun z=>by
    cases cs with
    | nil=>simp at z
    | cons a r =>
      have:=d.al a (by simp)
      have:a = 45:=by simpa using z
      omega
  rw [e]
  unfold numF
  by_cases hn:n < 0
  · rw [if_pos hn]
    have ef:figs (45 :: cs) = cs:=rfl
    rw [ef,fb]
    have ne:(45 :: cs) ≠ [45,48]:=fun z=>by
      have:cs = [48]:=by simpa using z
      rw [this] at hv
      have:digitsVal [48] = 0:=rfl
      omega
    rw [decide_eq_false ne]
    simp only [Bool.not_false,Bool.and_true,if_true,List.head?_cons,hv]
    congr 1; omega
  · rw [if_neg hn]
    have ef:figs cs = cs:=if_neg h45
    rw [ef,fb]
    have ne:cs ≠ [45,48]:=fun z=>by rw [z] at h45; exact h45 rfl
    rw [decide_eq_false ne,if_neg h45]
    simp only [Bool.not_false,Bool.and_true,if_true,hv]
    congr 1; omega
noncomputable def xh2 (c:Nat):Prop:=c = 45 ∨ (48 ≤ c ∧ c ≤ 57)
theorem zx1 {n:Int} {k:Nat} (h:n.natAbs < 10 ^ (k + 1)):∀ c ∈ (Str.ofString (toString n)).cps.toList,xh2 c:=by
  obtain ⟨cs,d,e⟩:=zp7 h
  rw [e]
  intro c hc
  split at hc
  · rcases List.mem_cons.mp hc with z | z
    · exact .inl z
    · exact .inr (d.al c z)
  · exact .inr (d.al c hc)
theorem zt1:(Str.ofString "/").cps.toList = [47]:=by decide +kernel
theorem ya8:(Str.ofString ":").cps.toList = [58]:=by decide +kernel
theorem yg3:(Str.ofString "*").cps.toList = [42]:=by decide +kernel
theorem zl4:(Str.ofString " ").cps.toList = [32]:=by decide +kernel
theorem ys5:(Str.ofString " | ").cps.toList = [32,124,32]:=by decide +kernel
theorem yp5:Sp1 (Str.ofString "/") 47 [] []:=⟨zt1,by simp⟩
theorem xg3:Sp1 (Str.ofString ":") 58 [] []:=⟨ya8,by simp⟩
theorem xr9:Sp1 (Str.ofString "*") 42 [] []:=⟨yg3,by simp⟩
theorem yp6:Sp1 (Str.ofString " ") 32 [] []:=⟨zl4,by simp⟩
theorem wf1:Sp1 (Str.ofString " | ") 124 [32] [32]:=⟨ys5,by decide⟩
theorem zh4 (a b:Str):(a ++ b).cps.toList = a.cps.toList ++ b.cps.toList:=by simp only [Str.cps_append,Array.toList_append]
theorem yg5 {t b:Int} {k:Nat} (ht:t.natAbs < 10 ^ (k + 1)) (hb:b.natAbs < 10 ^ (k + 1)):∀ c ∈ (shF t b).cps.toList,xh2 c ∨ c = 47:=by
  intro c hc
  unfold shF at hc
  split at hc
  · exact .inl (zx1 ht c hc)
  · rw [zh4,zh4,zt1] at hc
    simp only [List.mem_append,List.mem_singleton] at hc
    rcases hc with (z | z) | z
    · exact .inl (zx1 ht c z)
    · exact .inr z
    · exact .inl (zx1 hb c z)
theorem wf4 {m:Mk7} (h:Sm7 m):∀ c ∈ (shM m).cps.toList,xh2 c ∨ c = 47 ∨ c = 58 ∨ c = 42:=by
  intro c hc
  unfold shM at hc
  rw [zh4,zh4,zh4,zh4,ya8,yg3] at hc
  simp only [List.mem_append,List.mem_singleton] at hc
  rcases hc with (((z | z) | z) | z) | z
  · rcases yg5 (k:=49) h.1 h.2.1 c z with y | y
    · exact .inl y
    · exact .inr (.inl y)
  · exact .inr (.inr (.inl z))
  · rcases yg5 (k:=49) h.2.2.1 h.2.2.2.1 c z with y | y
    · exact .inl y
    · exact .inr (.inl y)
  · exact .inr (.inr (.inr z))
  · exact .inl (zx1 (k:=49) h.2.2.2.2 c z)
theorem zl1 {x:Str} {c:Nat} {y:Str} (hy:y = ⟨#[c]⟩):PySem.Txt.contains x y = decide (c ∈ x.cps.toList):=by
  rw [hy]; exact PySem.StrLaws.found_one x c
theorem yc3:(Str.ofString "/") = ⟨#[47]⟩:=by decide +kernel
theorem yu5 {t b:Int} (ht:t.natAbs < 10 ^ 40) (hb:b.natAbs < 10 ^ 40) (h1:1 ≤ b) (hg:Int.gcd t b = 1):valF (shF t b) = some (t,b):=by
  have sg:=zx1 (k:=39) ht
  have no:47 ∉ (Str.ofString (toString t)).cps.toList:=fun z=>by
    rcases sg 47 z with y | y
    · exact absurd y (by decide)
    · omega
  unfold shF
  by_cases e:b = 1
  · rw [if_pos e,zz3 (by rw [zl1 yc3]; exact decide_eq_false no),yi0 ht,e]; rfl
  · rw [if_neg e]
    have hp:=yd1 yp5 (b:=Str.ofString (toString b)) no
    have hc:PySem.Txt.contains (Str.ofString (toString t) ++ Str.ofString "/" ++ Str.ofString (toString b)) "/" = true:=by
      refine (zl1 (x:=Str.ofString (toString t) ++ Str.ofString "/" ++ Str.ofString (toString b)) yc3).trans (decide_eq_true ?_)
      rw [zh4,zh4,zt1]; simp
    rw [yf9 hc (t:=t) (b:=b) (by rw [hp]; exact yi0 ht) (by rw [hp]; exact yi0 hb),if_neg]
    rintro (z | z)
    · omega
    · exact z hg
structure Lw7 (m:Mk7):Prop where
  a:m.1.1.natAbs < 10 ^ 40
  b:m.1.2.natAbs < 10 ^ 40
  c:m.2.1.1.natAbs < 10 ^ 40
  d:m.2.1.2.natAbs < 10 ^ 40
  e:m.2.2.natAbs < 10 ^ 40
  b1:1 ≤ m.1.2
  d1:1 ≤ m.2.1.2
  e1:1 ≤ m.2.2
  g1:Int.gcd m.1.1 m.1.2 = 1
  g2:Int.gcd m.2.1.1 m.2.1.2 = 1
theorem Lw7.sm {m:Mk7} (h:Lw7 m):Sm7 m:=⟨Nat.lt_trans h.a (by decide),Nat.lt_trans h.b (by decide),Nat.lt_trans h.c (by decide),Nat.lt_trans h.d (by decide),Nat.lt_trans h.e (by decide)⟩
theorem xr8 {m:Mk7} (h:Lw7 m):yc1 (shM m) = some m:=by
  have n1:58 ∉ (shF m.1.1 m.1.2).cps.toList:=fun z=>by
    rcases yg5 (k:=39) h.a h.b 58 z with (y | y) | y
    · exact absurd y (by decide)
    · omega
    · exact absurd y (by decide)
  have n2:42 ∉ (shF m.2.1.1 m.2.1.2).cps.toList:=fun z=>by
    rcases yg5 (k:=39) h.c h.d 42 z with (y | y) | y
    · exact absurd y (by decide)
    · omega
    · exact absurd y (by decide)
  have e0:shM m = shF m.1.1 m.1.2 ++ Str.ofString ":" ++ (shF m.2.1.1 m.2.1.2 ++ Str.ofString "*" ++ Str.ofString (toString m.2.2)):=by
    apply zk5
    unfold shM
    simp only [zh4,List.append_assoc]
  have p1:=yd1 xg3 (b:=shF m.2.1.1 m.2.1.2 ++ Str.ofString "*" ++ Str.ofString (toString m.2.2)) n1
  have p2:=yd1 xr9 (b:=Str.ofString (toString m.2.2)) n2
  have p1':PySem.Txt.partition (shM m) ":" = (shF m.1.1 m.1.2,(":":Str),shF m.2.1.1 m.2.1.2 ++ Str.ofString "*" ++ Str.ofString (toString m.2.2)):=by rw [e0]; exact p1
  have p2':PySem.Txt.partition (shF m.2.1.1 m.2.1.2 ++ Str.ofString "*" ++ Str.ofString (toString m.2.2)) "*" = (shF m.2.1.1 m.2.1.2,("*":Str),Str.ofString (toString m.2.2)):=p2
  unfold yc1
  rw [p1',p2']
  dsimp only
  rw [yu5 h.a h.b h.b1 h.g1,yu5 h.c h.d h.d1 h.g2,yi0 h.e]
  dsimp only
  rw [if_neg (by have:=h.e1; omega)]
section
variable {P:Program} {w:World} {K:PySem.W.Frag} {mg:Str → Option Value} {base:Heap} {A:Adr}
noncomputable def ws8 (C:Addr):DW:=fun ds Q X=>∃ d,ds = [d] ∧ ((∃ x,d = .str x) → Q (.dat .none)) ∧ ((∀ x,d ≠ .str x) → X C)
theorem xn7 (T:Txt K mg A):FnOk P w K mg base (CXE P w) 1 A.a_qc1 A.d_qc1 ["text"] (spW K (ws8 A.x_NoText)):=by
  refine okW T.F_qc1 wh1 (fun ds Q E h=>?_) (fun cdv Ar outer s H E hr=>?_)
  · obtain ⟨_,rfl,_⟩:=h; rfl
  refine ⟨_,(za8 (ze6 (ya0 (zl8 (zc7 (xi3 (K:=K) rfl) rfl T.n_isinstance bt_isinstance (za0 (pv 0) (za0 (yc8 rfl T.n_str ys4 (show RelV (.ty "str") (.type "str") from rfl)) za4))))) (za8 (zf8 T.x_NoText hr.hd ze2 rfl (za0 zd0 za4))) zc6)),_,(ze9 (zz4 (tv_b (za1 (yr5 (by decide) (za3 0))))) (zf6 (zb8 zd1 zd7) (by decide)) zc8),?_⟩
  rintro ds Q X ⟨d,rfl,k1,k2⟩
  cases d with
  | str x =>
    walk_at "d"
    exact k1 ⟨x,rfl⟩
  | _ =>
    walk_at "d"
    exact k2 (fun x e=>nomatch e)
noncomputable def ws6:DW:=fun ds Q _=>∃ x:Str,ds = [.str x] ∧ x.length ≤ 100000 ∧ Q (.dat (.bool (figB x.cps.toList)))
theorem wk9 (T:Txt K mg A):FnOk P w K mg base (CXE P w) 1 A.a_qd1 A.d_qd1 ["text"] (spW K ws6):=by
  refine okW T.F_qd1 wh0 (fun ds Q E h=>?_) (fun cdv Ar outer s H E hr=>?_)
  · obtain ⟨_,rfl,_⟩:=h; rfl
  refine ⟨_,(za5 (ze6 (PW.pt (zn8 (zb9 zh0 (zc7 zi9 rfl T.n_len PySem.boot_len (za0 (pv 0) za4)) za6 (zc9 _)) (zm4 (zb9 zx0 (zc7 zi9 rfl T.n_len PySem.boot_len (za0 (pv 0) za4)) (zm8 rfl T.c_MOST_FIGURES.choose_spec (show RelV (.int 40) _ from ⟨_,rfl⟩)) (zc9 _))))) (za8 (zc5 yh3)) zc6)
      (za5 (ze6 (PW.pt (yp9 (zb9 zh0 (zc2 wn0 (pv 0) za6 (fun _ _=>rfl)) zd0 (zc9 _)) (yl6 (zb9 zx0 (zc7 zi9 rfl T.n_len PySem.boot_len (za0 (pv 0) za4)) za6 (zc9 _))))) (za8 (zc5 yh3)) zc6)
      (za8 (zc5 (zc7 (allK (K:=K) rfl rfl) rfl T.n_all Dl.boot_all (za0 (zm2 (cap:=[none]) (NC:=["sign"]) rfl ⟨rfl,rfl,by decide +kernel,by decide +kernel,trivial,(fun _ h=>nomatch h),rfl⟩ (yx4 (pv 0)) (fun _ _ _ _=>(zd5 (i:=0) (show List.Nodup (["sign"]:List Str) by decide) rfl (Or.inl rfl))) (fun _ _ _ _=>zf7) (fun _ _ _ _=>(zp5 yh6 (pv 0) (zm8 rfl T.c_FIGURES.choose_spec (show RelV (.str "0123456789") _ from ⟨_,rfl⟩)) rfl))) za4)))))),_,(zb2 (ze9 (zn6 (zc0 (za1 (zb6 zg9 (za1 (ze8 zt2 (za2 (za3 0) za7))) (za1 zb3)))) (zc0 (za1 (zb6 zl7 (za1 (ze8 zt2 (za2 (za3 0) za7))) (za1 zb3))))) (zd6 (za1 ym7)) zc8)
      (zb2 (ze9 (yo3 (zc0 (za1 (zb6 zg9 (za1 (zb6 wh4 (za3 0) (za1 zb3))) (za1 zd1)))) (zc0 (za1 (zb6 zl7 (za1 (ze8 zt2 (za2 (za3 0) za7))) (za1 zb3))))) (zd6 (za1 ym7)) zc8)
      (zd6 (za1 (ze8 xm4 (za2 (za1 (zj5 (zk2 (IvS.e (xa3 (zb5 0))) (zb0 0) zh2 (zb6 xl8 (za3 0) (za1 zd1)) (by decide) (by decide)))) za7)))))),?_⟩
  rintro ds Q X ⟨x,rfl,hx,k⟩
  have hl:=zg5 x
  walk_at "s"
  refine ⟨hx,ite2 (fun c=>?_) (fun c=>?_)⟩
  · have e:figB x.cps.toList = false:=by
      unfold figB
      rw [decide_eq_false (show ¬ 1 ≤ x.cps.toList.length by omega)]; rfl
    rw [e] at k
    exact k
  refine ⟨hx,ite2 (fun c2=>?_) (fun c2=>?_)⟩
  · have e:figB x.cps.toList = false:=by
      unfold figB
      rw [decide_eq_false (show ¬ x.cps.toList.length ≤ 40 by omega)]
      simp
    rw [e] at k
    exact k
  obtain ⟨c0,r,hxr⟩:∃ c0 r,x.cps.toList = c0 :: r:=by
    cases h:x.cps.toList with
    | nil=>rw [h] at hl; simp at hl; omega
    | cons c0 r=>exact ⟨c0,r,rfl⟩
  walk_at "s"
  refine ⟨hx,c0,?_,?_⟩
  · rw [hxr]; exact zk9 (j:=0) rfl
  have ez:((⟨#[c0]⟩:Str) = "0") ↔ c0 = 48:=by
    constructor
    · intro h
      have h2:=congrArg (fun z:Str=>z.cps.toList) h
      have h3:("0":Str).cps.toList = [48]:=by decide +kernel
      rw [h3] at h2
      injection h2
    · rintro rfl
      apply zk5
      decide +kernel
  rw [hxr] at hl k
  have fin:¬ (c0 = 48 ∧ 1 < x.length) → dLC (dAsS (dVar 0)) [none] (xb0 0) dYes (dOp oInS (xj7 0) (dC (PyData.str (Str.ofString "0123456789")))) X
          [some (Sl.dat (PyData.str x))] (fun ds=>∃ ks,ds = List.map PyData.bool ks ∧ Q (Sl.dat (PyData.bool (ks.all id)))):=by
    intro hn
    refine zh3 sgD PyData.bool (fun c=>[ye0 c]) x.cps.toList (by rw [hxr]; omega) (fun Q h=>by
      walk_at "d"
      exact h) (fun c hc N acc hN=>?_) ?_
    · unfold sgD
      walk_at "d"
      rw [xo4]
      exact hN
    refine ⟨x.cps.toList.flatMap fun c=>[ye0 c],rfl,?_⟩
    have e:figB (c0 :: r) = (x.cps.toList.flatMap fun c=>[ye0 c]).all id:=by
      rw [hxr,zd4,List.all_map]
      unfold figB
      rw [decide_eq_true (show 1 ≤ (c0 :: r).length by simp),decide_eq_true (show (c0 :: r).length ≤ 40 by omega)]
      have e2:(decide ((c0 :: r).head? = some 48) && decide (1 < (c0 :: r).length)) = false:=by
        rw [Bool.and_eq_false_iff]
        by_cases h:c0 = 48
        · right; exact decide_eq_false fun z=>hn ⟨h,by omega⟩
        · left; exact decide_eq_false fun z=>h (by injection z)
      rw [e2]
      rfl
    rw [e] at k
    exact k
  refine ite2 (fun c3=>?_) (fun c3=>fin fun z=>c3 (ez.mpr z.1))
  refine ⟨hx,ite2 (fun c4=>?_) (fun c4=>fin fun z=>c4 (by omega))⟩
  have e:figB (c0 :: r) = false:=by
    unfold figB
    rw [decide_eq_true (show (c0 :: r).head? = some 48 by rw [ez.mp c3]; rfl),decide_eq_true (show 1 < (c0 :: r).length by omega)]
    simp
  rw [e] at k
  exact k
noncomputable def wc2 (C:Addr):DW:=fun ds Q X=>∃ x:Str,ds = [.str x] ∧ x.length ≤ 100000 ∧ (∀ n,numF x.cps.toList = some n → Q (.dat (.int n))) ∧ (numF x.cps.toList = none → X C)
theorem yy1 (T:Txt K mg A):FnOk P w K mg base (CXE P w) 2 A.a_qe1 A.d_qe1 ["text"] (spW K (wc2 A.x_NoText)):=by
  have G_qd1:=wk9 (P:=P) (w:=w) (base:=base) T
  refine okW T.F_qe1 sc_qe1 (fun ds Q E h=>?_) (fun cdv Ar outer s H E hr=>?_)
  · obtain ⟨_,rfl,_⟩:=h; rfl
  refine ⟨_,(za5 (zc1 (i:=1) sc_qe1.nd rfl (Or.inl rfl) (xg9 (zb9 zh0 (zj3 yp7 (pv 0) zn9 (zj7 za6)) zd0 (zc9 _)) (zj3 yp7 (pv 0) (zj7 za6) zn9) (pv 0)))
      (za5 (ze6 (PW.pt (zn8 (zb9 zh0 (pv 0) zd0 (zc9 _)) (zm4 (ya0 (zl8 (za9 G_qd1 (hr.mono (by decide)) rfl T.m_qd1 T.F_qd1.kp T.b_qd1 .nil zb7 (za0 (pv 1) za4))))))) (za8 (zf8 T.x_NoText hr.hd ze2 rfl (za0 zd0 za4))) zc6)
      (za8 (zc5 (zf3 zy7 rfl T.n_int bt_int (za0 (pv 0) za4)))))),_,(yp1 (zd2 (ww2 (zc0 (za1 (zb6 zg9 (za1 (yr4 (za3 0) yd3 (zj8 (za1 zb3)))) (za1 zd1)))) (yr4 (za3 0) (zj8 (za1 zb3)) yd3) (zb5 0)) (zb0 1))
      (zb2 (ze9 (zn6 (zc0 (za1 (zb6 zg9 (za3 0) (za1 zd1)))) (zz4 (tv_b (za1 (zb1 (za2 (za3 1) za7)))))) (zf6 (zb8 zd1 zd7) (by decide)) zc8)
      (zd6 (za1 (ze8 yl5 (za2 (za3 0) za7)))))),?_⟩
  rintro ds Q X ⟨x,rfl,hx,k1,k2⟩
  refine yr8 (fun δ=>δ = [some (.dat (.str x)),some (.dat (.str (figS x)))]) ?_ ?_
  · walk_at "d"
    refine ⟨hx,ite2 (fun c=>⟨hx,?_⟩) (fun c=>?_)⟩
    · unfold figS
      rw [if_pos ((zr3 x).mp c)]
    · unfold figS
      rw [if_neg fun z=>c ((zr3 x).mpr z)]
  rintro δ rfl
  refine zj6 ?_
  walk_at "d"
  have hfl:=xj0 x
  refine ite2 (fun c=>?_) (fun c=>?_)
  · refine k2 ?_
    unfold numF
    rw [decide_eq_true ((yj2 x).mp c)]
    rfl
  refine ⟨figS x,rfl,by omega,?_⟩
  walk_at "d"
  rw [xb5]
  refine ite2 (fun c2=>?_) (fun c2=>?_)
  · refine k2 ?_
    unfold numF
    rw [c2]
    simp
  have hs:∃ n,numF x.cps.toList = some n:=by
    unfold numF
    rw [if_pos]
    · exact ⟨_,rfl⟩
    · rw [decide_eq_false fun z=>c ((yj2 x).mpr z)]
      simpa using c2
  obtain ⟨n,hn⟩:=hs
  obtain ⟨hl,hi⟩:=xx7 hn
  walk_at "d"
  exact ⟨by omega,n,hi,k1 n hn⟩
noncomputable def wr9 (C:Addr):DW:=fun ds Q X=>(∃ x:Str,ds = [.str x] ∧ x.length ≤ 100000 ∧ (∀ t b,valF x = some (t,b) → Q (.dat (.tuple [.int t,.int b]))) ∧ (valF x = none → X C)) ∨ (∃ d,ds = [d] ∧ (∀ x,d ≠ .str x) ∧ X C)
theorem xn6 (T:Txt K mg A):FnOk P w K mg base (CXE P w) 3 A.a_qf1 A.d_qf1 ["text"] (spW K (wr9 A.x_NoText)):=by
  have G_qc1:=xn7 (P:=P) (w:=w) (base:=base) T
  have G_qe1:=yy1 (P:=P) (w:=w) (base:=base) T
  have G_qb:=xx5 (P:=P) (w:=w) (base:=base) T
  refine okW T.F_qf1 sc_qf1 (fun ds Q E h=>?_) (fun cdv Ar outer s H E hr=>?_)
  · rcases h with ⟨_,rfl,_⟩ | ⟨_,rfl,_⟩ <;> rfl
  refine ⟨_,(za5 (zj2 (za9 G_qc1 (hr.mono (by decide)) rfl T.m_qc1 T.F_qc1.kp T.b_qc1 .nil ze2 (za0 (pv 0) za4)))
      (za5 (ze6 (zb9 zt5 zd0 (pv 0) rfl) (za8 (zc5 (zh6 (za0 (za9 G_qe1 (hr.mono (by decide)) rfl T.m_qe1 T.F_qe1.kp T.b_qe1 .nil ze2 (za0 (pv 0) za4)) (za0 za6 za4))))) zc6)
      (za5 (zc1 (i:=1) sc_qf1.nd rfl (Or.inl rfl) (zo4 PySem.F.plainAttrs_str PySem.F.slot_str_partition PySem.F.type_str_partition zm5 (pv 0) (za0 zd0 za4)))
      (za5 (zc1 (i:=2) sc_qf1.nd rfl (Or.inl rfl) (za9 G_qe1 (hr.mono (by decide)) rfl T.m_qe1 T.F_qe1.kp T.b_qe1 .nil ze2 (za0 (zc2 (ixtK (K:=K) rfl) (pv 1) za6 (fun _ _=>rfl)) za4)))
      (za5 (zc1 (i:=3) sc_qf1.nd rfl (Or.inl rfl) (za9 G_qe1 (hr.mono (by decide)) rfl T.m_qe1 T.F_qe1.kp T.b_qe1 .nil ze2 (za0 (zc2 (ixtK (K:=K) rfl) (pv 1) za6 (fun _ _=>rfl)) za4)))
      (za5 (ze6 (PW.pt (zn8 (zb9 zu3 (pv 3) za6 (zc9 _)) (zm4 (zb9 (neK (K:=K) rfl hr.units) (za9 G_qb (hr.mono (by decide)) rfl T.m_qb T.F_qb.kp T.b_qb .nil zb7 (za0 (pv 2) (za0 (pv 3) za4))) (zh6 (za0 (pv 2) (za0 (pv 3) za4))) (zc9 _))))) (za8 (zf8 T.x_NoText hr.hd ze2 rfl (za0 zd0 za4))) zc6)
      (za8 (zc5 (zh6 (za0 (pv 2) (za0 (pv 3) za4))))))))))),_,(zb2 (zo9 (za1 (zm1 (za2 (za3 0) za7))))
      (zb2 (ze9 (zc0 (za1 (zb6 yg7 (za1 zd1) (za3 0)))) (zd6 (za1 (zh8 (zb8 (zm1 (za2 (za3 0) za7)) (zb8 zb3 zd7)) (by decide)))) zc8)
      (zb2 (zd2 (zv5 (za3 0) (za1 zd1)) (zb0 1))
      (zb2 (zd2 (zm1 (za2 (za1 (zc3 0 (zb5 1))) za7)) (zb0 2))
      (zb2 (zd2 (zm1 (za2 (za1 (zc3 2 (zb5 1))) za7)) (zb0 3))
      (zb2 (ze9 (zn6 (zc0 (za1 (zb6 zl7 (za3 3) (za1 zb3)))) (zc0 (za1 (zb6 zw6 (za1 (zb1 (za2 (za3 2) (za2 (za3 3) za7)))) (za1 (zh8 (zb8 (zb5 2) (zb8 (zb5 3) zd7)) (by decide))))))) (zf6 (zb8 zd1 zd7) (by decide)) zc8)
      (zd6 (za1 (zh8 (zb8 (zb5 2) (zb8 (zb5 3) zd7)) (by decide)))))))))),?_⟩
  rintro ds Q X (⟨x,rfl,hx,k1,k2⟩ | ⟨d,rfl,hd,k⟩)
  · walk_at "s"
    refine ⟨.str x,rfl,fun _=>?_,fun z=>absurd rfl (z x)⟩
    walk_at "s"
    refine ite2 (fun c=>?_) (fun c=>?_)
    · have e:=zz3 c
      refine ⟨x,rfl,hx,fun n hn=>?_,fun hn=>k2 (by rw [e,hn]; rfl)⟩
      walk_at "d"
      exact k1 n 1 (by rw [e,hn]; rfl)
    have hc:PySem.Txt.contains x "/" = true:=by simpa using c
    obtain ⟨l1,_,l3⟩:=yd0 x "/"
    walk_at "s"
    refine ⟨hx,by rw [zl6]; rfl,?_⟩
    walk_at "s"
    refine ⟨_,rfl,by omega,fun t ht=>?_,fun hn=>k2 (xf4 hn)⟩
    walk_at "s"
    refine ⟨_,rfl,by omega,fun b hb=>?_,fun hn=>k2 (xf3 hc hn)⟩
    have e:=yf9 hc ht hb
    have hbs:=yy5 hb
    walk_at "s"
    refine ite2 (fun c2=>k2 (by rw [e,if_pos (.inl c2)])) (fun c2=>?_)
    walk_at "d"
    refine ⟨t,b,rfl,zr1 (n:=10 ^ 40) (by omega) (by decide +kernel),fun z=>absurd z (by omega),fun _=>?_⟩
    walk_at "d"
    refine ⟨Int × Int,eT2 eInt eInt (by decide) (by decide),((Rat.divInt t b).num,((Rat.divInt t b).den:Int)),(t,b),rfl,rfl,fun v hv=>?_⟩
    have hv2:v = true ↔ Int.gcd t b = 1:=by
      rw [hv,Prod.mk.injEq,xy4 (by omega)]
    walk_at "d"
    cases v with
    | true =>
      rw [if_neg (by simp)]
      walk_at "d"
      exact k1 t b (by rw [e,if_neg (by rintro (z | z); omega; exact z (hv2.mp rfl))])
    | false =>
      rw [if_pos rfl]
      exact k2 (by rw [e,if_pos (.inr fun z=>nomatch hv2.mpr z)])
  · walk_at "s"
    exact ⟨d,rfl,fun ⟨x,e⟩=>absurd e (hd x),fun _=>k⟩
noncomputable def zo5 (ms:List Mk) (p:Rat):Nat:=(ms.flatMap fun m=>if m.1 < p then [m] else []).length
noncomputable def wd8:DW:=fun ds Q _=>∃ (ms:List Mk) (p:Rat),ds = [.list (ms.map mk3),fr p] ∧ (∀ m ∈ ms,Ok m.1) ∧ Ok p ∧ ms.length ≤ 1000 ∧ Q (.dat (.int (zo5 ms p:Int)))
theorem wv5 (T:Txt K mg A):FnOk P w K mg base (CXE P w) 2 A.a_ql A.d_ql ["marks","place"] (spW K wd8):=by
  have G_qg:=yy0 (P:=P) (w:=w) (base:=base) T
  refine okW T.F_ql wu1 (fun ds Q E h=>?_) (fun cdv Ar outer s H E hr=>?_)
  · obtain ⟨_,_,rfl,_⟩:=h; rfl
  refine ⟨_,(za8 (zc5 (zc7 (lenK (K:=K) rfl) rfl T.n_len PySem.boot_len (za0 (zm2 (cap:=[none,some 1]) (NC:=["mark","place"]) rfl ⟨rfl,rfl,by decide +kernel,by decide +kernel,⟨⟨_,rfl,rfl,rfl,rfl,rfl⟩,trivial⟩,(List.forall_mem_cons.2 ⟨rfl,(fun _ h=>nomatch h)⟩),rfl⟩ (pilK (K:=K) rfl (pv 0)) (fun _ _ _ _=>(zd5 (i:=0) (show List.Nodup (["mark","place"]:List Str) by decide) rfl (Or.inl rfl))) (fun _ _ _ _=>(yx3 (zl8 (za9 G_qg (hr.mono (by decide)) rfl T.m_qg T.F_qg.kp T.b_qg .nil zb7 (za0 (zc2 (ixtK (K:=K) rfl) (pv 0) za6 (fun _ _=>rfl)) (za0 (pv 1) za4)))))) (fun _ _ _ _=>(pv 0))) za4)))),_,(zd6 (za1 (ze8 zf9 (za2 (za1 (zj5 (zk2 (zh1 (zd3 0)) (zb0 0) (tv_b (za1 (zb1 (za2 (za1 (zc3 0 (zb5 0))) (za2 (za3 1) za7))))) (zb5 0) (by decide) (by decide)))) za7)))),?_⟩
  rintro ds Q X ⟨ms,p,rfl,hm,hp,hl,k⟩
  walk_at "d"
  refine zh3 mk3 mk3 (fun m:Mk=>if m.1 < p then [m] else []) ms hl (fun Q h=>h) (fun m h N acc hN=>?_) ?_
  · walk_at "d"
    refine ⟨m.1,p,rfl,hm m h,hp,?_⟩
    walk_at "d"
    by_cases c:m.1 < p
    · rw [if_pos c]
      rw [if_pos c] at hN
      exact hN
    · rw [if_neg c]
      rw [if_neg c] at hN
      simpa using hN
  · walk_at "d"
    exact k
end
noncomputable def Up (ms:List Mk):Prop:=ms.Pairwise fun a b=>a.1 < b.1
theorem yn3 (a b:List Mk) (p:Rat):zo5 (a ++ b) p = zo5 a p + zo5 b p:=by
  unfold zo5
  rw [List.flatMap_append,List.length_append]
theorem wb3 {a:List Mk} {p:Rat} (h:∀ m ∈ a,m.1 < p):zo5 a p = a.length:=by
  induction a with
  | nil=>rfl
  | cons m a ih =>
    have e:zo5 (m :: a) p = zo5 [m] p + zo5 a p:=yn3 [m] a p
    have e1:zo5 [m] p = 1:=by unfold zo5; simp [h m List.mem_cons_self]
    rw [e,e1,ih fun x hx=>h x (List.mem_cons_of_mem _ hx),List.length_cons]
    omega
theorem xk1 {a:List Mk} {p:Rat} (h:∀ m ∈ a,¬ m.1 < p):zo5 a p = 0:=by
  induction a with
  | nil=>rfl
  | cons m a ih =>
    have e:zo5 (m :: a) p = zo5 [m] p + zo5 a p:=yn3 [m] a p
    have e1:zo5 [m] p = 0:=by unfold zo5; simp [h m List.mem_cons_self]
    rw [e,e1,ih fun x hx=>h x (List.mem_cons_of_mem _ hx)]
theorem yo0 (p:Rat):∀ {ms:List Mk},Up ms → ∃ a b,ms = a ++ b ∧ (∀ m ∈ a,m.1 < p) ∧ (∀ m ∈ b,¬ m.1 < p)
  | [],_=>⟨[],[],rfl,(fun _ h=>nomatch h),fun _ h=>nomatch h⟩
  | m :: ms,h=>by
    have h1:=List.pairwise_cons.mp h
    by_cases c:m.1 < p
    · obtain ⟨a,b,e,h2,h3⟩:=yo0 p h1.2
      refine ⟨m :: a,b,by rw [e]; rfl,fun x hx=>?_,h3⟩
      rcases List.mem_cons.mp hx with rfl | hx
      · exact c
      · exact h2 x hx
    · refine ⟨[],m :: ms,rfl,(fun _ h=>nomatch h),fun x hx=>?_⟩
      rcases List.mem_cons.mp hx with rfl | hx
      · exact c
      · have:=h1.1 x hx
        grind
theorem we2:∀ {a b:List Mk},Up a → Up b → a.Perm b → a = b
  | [],b,_,_,h=>by rw [List.nil_perm.mp h]
  | x :: a,[],_,_,h=>absurd h.length_eq (by simp)
  | x :: a,y :: b,ha,hb,h=>by
    have h1:=List.pairwise_cons.mp ha
    have h2:=List.pairwise_cons.mp hb
    have e:x = y:=by
      have m1:x ∈ y :: b:=h.mem_iff.mp List.mem_cons_self
      have m2:y ∈ x :: a:=h.mem_iff.mpr List.mem_cons_self
      rcases List.mem_cons.mp m1 with z | z
      · exact z
      · rcases List.mem_cons.mp m2 with z2 | z2
        · exact z2.symm
        · have l1:=h2.1 x z
          have l2:=h1.1 y z2
          grind
    subst e
    rw [we2 h1.2 h2.2 (List.perm_cons x |>.mp h)]
theorem yo1 {ms:List Mk} (h:Up ms):(ms.map (·.1)).Nodup:=by
  unfold Up at h
  rw [List.nodup_iff_pairwise_ne,List.pairwise_map]
  exact h.imp fun {a b} l e=>by rw [e] at l; exact absurd l Rat.lt_irrefl
section
variable {P:Program} {w:World} {K:PySem.W.Frag} {mg:Str → Option Value} {base:Heap} {A:Adr}
noncomputable def xe9 (C:Addr):DW:=fun ds Q X=>∃ ms:List Mk,ds = [.list (ms.map mk3)] ∧ (∀ m ∈ ms,Ok m.1) ∧ (ms = [] → X C) ∧ (60 < ms.length → X C) ∧ (¬ (ms.map (·.1)).Nodup → X C) ∧
  (ms ≠ [] → ms.length ≤ 60 → (ms.map (·.1)).Nodup → ∀ res:List Mk,res.Perm ms → Up res → Q (.own (res.map mk3)))
theorem wv4 (T:Txt K mg A):FnOk P w K mg base (CXE P w) 3 A.a_qm A.d_qm ["some"] (spW K (xe9 A.x_NoMarks)):=by
  have G_ql:=wv5 (P:=P) (w:=w) (base:=base) T
  refine okW T.F_qm sc_qm (fun ds Q E h=>?_) (fun cdv Ar outer s H E hr=>?_)
  · obtain ⟨_,rfl,_⟩:=h; rfl
  refine ⟨_,(za5 (ze6 (zb9 zh0 (zc7 (lenK (K:=K) rfl) rfl T.n_len PySem.boot_len (za0 (pv 0) za4)) za6 (zc9 _)) (za8 (zf8 T.x_NoMarks hr.hd ze2 rfl (za0 zd0 za4))) zc6)
      (za5 (ze6 (zb9 zx0 (zc7 (lenK (K:=K) rfl) rfl T.n_len PySem.boot_len (za0 (pv 0) za4)) (zm8 rfl T.c_MOST_MARKS.choose_spec (show RelV (.int 60) _ from ⟨_,rfl⟩)) (zc9 _)) (za8 (zf8 T.x_NoMarks hr.hd ze2 rfl (za0 zd0 za4))) zc6)
      (za5 (zc1 (i:=1) sc_qm.nd rfl (Or.inl rfl) (zi1 za4))
      (za5 (zn3 PassesOwn.leaving rfl (pilK (K:=K) rfl (pv 0)) (zd5 (i:=2) sc_qm.nd rfl (Or.inl rfl))
        (za5 (zc1 (i:=3) sc_qm.nd rfl (Or.inl rfl) (za9 G_ql (hr.mono (by decide)) rfl T.m_ql T.F_ql.kp T.b_ql .nil zb7 (za0 (pv 1) (za0 (zc2 (ixtK (K:=K) rfl) (pv 2) za6 (fun _ _=>rfl)) za4))))
      (za5 (ze6 (PW.pt (yp9 (zb9 zu3 (pv 3) (zc7 (lenK (K:=K) rfl) rfl T.n_len PySem.boot_len (za0 (pv 1) za4)) (zc9 _)) (yl6 (zb9 (eqK (K:=K) rfl hr.units) (zc2 (ixtK (K:=K) rfl) (zc2 (ixlK (K:=K) rfl) (pv 1) (pv 3) (fun _ _=>rfl)) za6 (fun _ _=>rfl)) (zc2 (ixtK (K:=K) rfl) (pv 2) za6 (fun _ _=>rfl)) (zc9 _))))) (za8 (zf8 T.x_NoMarks hr.hd ze2 rfl (za0 zd0 za4))) zc6)
      (za8 (zj2 (zo4 PySem.F.plainAttrs_list PySem.F.slot_list_insert PySem.F.type_list_insert yi3 (pv 1) (za0 (pv 3) (za0 (pv 2) za4))))))))
      (za8 (zc5 (pv 1))))))),_,(zb2 (ze9 (zc0 (za1 (zb6 zg9 (za1 (ze8 zf9 (za2 (za3 0) za7))) (za1 zb3)))) (zf6 (zb8 zd1 zd7) (by decide)) zc8)
      (zb2 (ze9 (zc0 (za1 (zb6 zl7 (za1 (ze8 zf9 (za2 (za3 0) za7))) (za1 zb3)))) (zf6 (zb8 zd1 zd7) (by decide)) zc8)
      (zb2 (zf5 1 (zi2 zd7 (by decide)))
      (zb2 (zn2 (zx8 (zb5 0)) (zb0 2)
        (zb2 (zd2 (zb1 (za2 (za3 1) (za2 (za1 (zc3 0 (zb5 2))) za7))) (zb0 3))
      (zb2 (ze9 (yo3 (zc0 (za1 (zb6 zl7 (za3 3) (za1 (ze8 zf9 (za2 (za3 1) za7)))))) (zc0 (za1 (zb6 xm0 (za1 (zc3 0 (ze5 (zd3 1) (za3 3)))) (za1 (zc3 0 (zb5 2))))))) (zf6 (zb8 zd1 zd7) (by decide)) zc8)
      (xl5 1 (za3 3) (zb5 2)))))
      (zi7 1))))),?_⟩
  rintro ds Q X ⟨ms,rfl,ho,k0,k1,k2,k⟩
  walk_at "s"
  refine ite2 (fun c=>k0 (List.eq_nil_of_length_eq_zero (by omega))) (fun c=>?_)
  walk_at "s"
  refine ite2 (fun c1=>k1 (by omega)) (fun c1=>?_)
  walk_at "s"
  refine zj6 (zo0 mk3 ms (fun Q h=>h) (fun i δ=>∃ (res:List Mk) (r1 r2:Option Sl),δ = [some (.dat (.list (ms.map mk3))),some (.own (res.map mk3)),r1,r2] ∧ Up res ∧ res.Perm (ms.take i)) ⟨[],_,_,rfl,List.Pairwise.nil,by simp⟩ ?_ ?_)
  · rintro i m δ hi ⟨res,r1,r2,rfl,hu,hp⟩
    have hil:i < ms.length:=(List.getElem?_eq_some_iff.mp hi).1
    have hrl:res.length = i:=by rw [hp.length_eq,List.length_take]; omega
    have hsub:∀ x ∈ res,x ∈ ms:=fun x hx=>List.mem_of_mem_take (hp.mem_iff.mp hx)
    obtain ⟨a,b,rfl,ha,hb⟩:=yo0 m.1 hu
    have hc:zo5 (a ++ b) m.1 = a.length:=by rw [yn3,wb3 ha,xk1 hb]; rfl
    walk_at "s"
    refine ⟨_,m.1,rfl,fun x hx=>ho x (hsub x hx),ho m (List.mem_of_getElem? hi),by omega,?_⟩
    rw [hc]
    have tk:ms.take (i + 1) = ms.take i ++ [m]:=by rw [List.take_add_one,hi]; rfl
    have ins:(∀ x ∈ b,m.1 < x.1) → ∃ (res:List Mk) (r1 r2:Option Sl),[some (Sl.dat (.list (ms.map mk3))),some (.own (((a ++ b).map mk3).take a.length ++ mk3 m :: ((a ++ b).map mk3).drop a.length)),some (.dat (mk3 m)),some (.dat (.int (a.length:Int)))] = [some (.dat (.list (ms.map mk3))),some (.own (res.map mk3)),r1,r2] ∧ Up res ∧ res.Perm (ms.take (i + 1)):=fun hb2=>by
      refine ⟨a ++ m :: b,some (.dat (mk3 m)),some (.dat (.int (a.length:Int))),?_,?_,?_⟩
      · rw [List.map_append,List.map_append,List.take_left' (List.length_map _),List.drop_left' (List.length_map _)]
        rfl
      · have h1:=List.pairwise_append.mp hu
        refine List.pairwise_append.mpr ⟨h1.1,List.pairwise_cons.mpr ⟨hb2,h1.2.1⟩,fun x hx y hy=>?_⟩
        rcases List.mem_cons.mp hy with rfl | hy
        · exact ha x hx
        · exact h1.2.2 x hx y hy
      · rw [tk]
        refine List.perm_middle.trans ?_
        exact (hp.cons m).trans (List.perm_append_singleton m _).symm
    walk_at "d"
    have fin:(∀ x ∈ b,m.1 < x.1) → (0 ≤ (a.length:Int) ∧ (a.length:Int) ≤ ((a ++ b).length:Int) ∧ (a ++ b).length < 1000 ∧ ∃ (res:List Mk) (r1 r2:Option Sl),[some (Sl.dat (.list (ms.map mk3))),some (.own (((a ++ b).map mk3).take (a.length:Int).toNat ++ mk3 m :: ((a ++ b).map mk3).drop (a.length:Int).toNat)),some (.dat (mk3 m)),some (.dat (.int (a.length:Int)))] = [some (.dat (.list (ms.map mk3))),some (.own (res.map mk3)),r1,r2] ∧ Up res ∧ res.Perm (ms.take (i + 1))):=fun hb2 =>
      ⟨by omega,by rw [List.length_append]; omega,by omega,by rw [Int.toNat_natCast]; exact ins hb2⟩
    refine zj6 ?_
    walk_at "d"
    rcases b with _ | ⟨y,b⟩
    · rw [if_neg (by simp)]
      walk_at "d"
      exact fin fun _ h=>nomatch h
    rw [if_pos (by rw [List.length_append,List.length_cons]; omega)]
    have hy:atI ((a ++ y :: b).map mk3) (a.length:Int) = some (mk3 y):=by
      refine zk9 ?_
      rw [List.map_append,List.map_cons,List.getElem?_append_right (by rw [List.length_map]; exact Nat.le_refl _),List.length_map,Nat.sub_self]
      rfl
    refine ⟨_,hy,?_⟩
    walk_at "d"
    refine ⟨Rat,eRat,y.1,m.1,rfl,rfl,fun e he=>?_⟩
    cases e with
    | true =>
      walk_at "d"
      have e1:=he.mp rfl
      refine k2 fun nd=>?_
      have hym:y ∈ ms.take i:=hp.mem_iff.mp (List.mem_append_right _ List.mem_cons_self)
      have nd2:((ms.take (i + 1)).map (·.1)).Nodup:=nd.sublist ((List.take_sublist _ _).map _)
      rw [tk,List.map_append,List.nodup_append] at nd2
      exact nd2.2.2 y.1 (List.mem_map.mpr ⟨y,hym,rfl⟩) m.1 (by simp) e1
    | false =>
      have ne:y.1 ≠ m.1:=fun z=>by have:=he.mpr z; cases this
      walk_at "d"
      refine fin fun x hx=>?_
      have h1:=(List.pairwise_append.mp hu).2.1
      have h2:=List.pairwise_cons.mp h1
      have h3:=hb y List.mem_cons_self
      rcases List.mem_cons.mp hx with rfl | hx
      · grind
      · have:=h2.1 x hx
        grind
  · rintro δ ⟨res,r1,r2,rfl,hu,hp⟩
    walk_at "d"
    rw [List.take_of_length_le (Nat.le_refl _)] at hp
    refine k (fun z=>c (by rw [z]; rfl)) (by omega) ?_ res hp hu
    exact (hp.map (·.1)).nodup_iff.mp (yo1 hu)
noncomputable def xk7:DW:=fun ds Q _=>∃ t b:Int,ds = [.tuple [.int t,.int b]] ∧ t.natAbs < 10 ^ 50 ∧ b.natAbs < 10 ^ 50 ∧ Q (.dat (.str (shF t b)))
theorem xn2 (T:Txt K mg A):FnOk P w K mg base (CXE P w) 1 A.a_qx1 A.d_qx1 ["x"] (spW K xk7):=by
  refine okW T.F_qx1 wf6 (fun ds Q E h=>?_) (fun cdv Ar outer s H E hr=>?_)
  · obtain ⟨_,_,rfl,_⟩:=h; rfl
  refine ⟨_,(za5 (ze6 (zb9 zh0 (zc2 (ixtK (K:=K) rfl) (pv 0) za6 (fun _ _=>rfl)) za6 (zc9 _)) (za8 (zc5 (zf3 zf2 rfl T.n_str Dl.boot_str (za0 (zc2 (ixtK (K:=K) rfl) (pv 0) za6 (fun _ _=>rfl)) za4)))) zc6)
      (za8 (zc5 (zc4 ze1 (zc4 ze1 (zf3 zf2 rfl T.n_str Dl.boot_str (za0 (zc2 (ixtK (K:=K) rfl) (pv 0) za6 (fun _ _=>rfl)) za4)) zd0) (zf3 zf2 rfl T.n_str Dl.boot_str (za0 (zc2 (ixtK (K:=K) rfl) (pv 0) za6 (fun _ _=>rfl)) za4)))))),_,(zb2 (ze9 (zc0 (za1 (zb6 zg9 (za1 (zc3 1 (zb5 0))) (za1 zb3)))) (zd6 (za1 (ze8 zp1 (za2 (za1 (zc3 0 (zb5 0))) za7)))) zc8)
      (zd6 (za1 (zb6 zg0 (za1 (zb6 zg0 (za1 (ze8 zp1 (za2 (za1 (zc3 0 (zb5 0))) za7))) (za1 zd1))) (za1 (ze8 zp1 (za2 (za1 (zc3 1 (zb5 0))) za7))))))),?_⟩
  rintro ds Q X ⟨t,b,rfl,ht,hb,k⟩
  have l1:=zn5 ht
  have l2:=zn5 hb
  have sl:=zl6
  unfold shF at k
  walk_at "s"
  refine ite2 (fun c=>⟨xh9 ht,?_⟩) (fun c=>⟨xh9 ht,by omega,xh9 hb,by rw [PySem.Str.length_append]; omega,?_⟩)
  · rw [if_pos c] at k; exact k
  · rw [if_neg c] at k; exact k
noncomputable def wc4:DW:=fun ds Q _=>∃ m:Mk7,ds = [mD m] ∧ Sm7 m ∧ Q (.dat (.str (shM m)))
theorem wj0 (T:Txt K mg A):FnOk P w K mg base (CXE P w) 2 A.a_qy1 A.d_qy1 ["mark"] (spW K wc4):=by
  have G_qx1:=xn2 (P:=P) (w:=w) (base:=base) T
  refine okW T.F_qy1 wf5 (fun ds Q E h=>?_) (fun cdv Ar outer s H E hr=>?_)
  · obtain ⟨_,rfl,_⟩:=h; rfl
  refine ⟨_,(za8 (zc5 (zc4 ze1 (zc4 ze1 (zc4 ze1 (zc4 ze1 (za9 G_qx1 (hr.mono (by decide)) rfl T.m_qx1 T.F_qx1.kp T.b_qx1 .nil zb7 (za0 (zc2 (ixtK (K:=K) rfl) (pv 0) za6 (fun _ _=>rfl)) za4)) zd0) (za9 G_qx1 (hr.mono (by decide)) rfl T.m_qx1 T.F_qx1.kp T.b_qx1 .nil zb7 (za0 (zc2 (ixtK (K:=K) rfl) (pv 0) za6 (fun _ _=>rfl)) za4))) zd0) (zf3 zf2 rfl T.n_str Dl.boot_str (za0 (zc2 (ixtK (K:=K) rfl) (pv 0) za6 (fun _ _=>rfl)) za4))))),_,(zd6 (za1 (zb6 zg0 (za1 (zb6 zg0 (za1 (zb6 zg0 (za1 (zb6 zg0 (za1 (zb1 (za2 (za1 (zc3 0 (zb5 0))) za7))) (za1 zd1))) (za1 (zb1 (za2 (za1 (zc3 1 (zb5 0))) za7))))) (za1 zd1))) (za1 (ze8 zp1 (za2 (za1 (zc3 2 (zb5 0))) za7)))))),?_⟩
  rintro ds Q X ⟨⟨⟨a,b⟩,⟨c,d⟩,e⟩,rfl,⟨h1,h2,h3,h4,h5⟩,k⟩
  have l1:=yc5 h1 h2
  have l2:=yc5 h3 h4
  have l3:=zn5 h5
  have c1:=zy6
  have c2:=yc0
  unfold mD
  unfold shM at k
  dsimp only at h1 h2 h3 h4 h5 l1 l2 l3 k ⊢
  walk_at "d"
  refine ⟨a,b,rfl,h1,h2,?_⟩
  walk_at "d"
  refine ⟨by omega,c,d,rfl,h3,h4,?_⟩
  walk_at "d"
  exact ⟨by rw [PySem.Str.length_append]; omega,by rw [PySem.Str.length_append,PySem.Str.length_append]; omega,xh9 h5,by rw [PySem.Str.length_append,PySem.Str.length_append,PySem.Str.length_append]; omega,k⟩
end
theorem yv7 {α:Type} (f:α → Nat) (n:Nat):∀ xs:List α,(∀ x ∈ xs,f x ≤ n) → (xs.map f).sum ≤ xs.length * n
  | [],_=>by simp
  | x :: xs,h=>by
    have h1:=h x (by simp)
    have h2:=yv7 f n xs fun y hy=>h y (by simp [hy])
    rw [List.map_cons,List.sum_cons,List.length_cons,Nat.add_mul]
    omega
section
variable {P:Program} {w:World} {K:PySem.W.Frag} {mg:Str → Option Value} {base:Heap} {A:Adr}
noncomputable def ws3 (C:Addr):DW:=fun ds Q X=>(∃ x:Str,ds = [.str x] ∧ x.length ≤ 100000 ∧ (∀ m,yc1 x = some m → Q (.dat (mD m))) ∧ (yc1 x = none → X C)) ∨ (∃ d,ds = [d] ∧ (∀ x,d ≠ .str x) ∧ X C)
theorem wk6 (T:Txt K mg A):FnOk P w K mg base (CXE P w) 4 A.a_qg1 A.d_qg1 ["text"] (spW K (ws3 A.x_NoText)):=by
  have G_qc1:=xn7 (P:=P) (w:=w) (base:=base) T
  have G_qe1:=yy1 (P:=P) (w:=w) (base:=base) T
  have G_qf1:=xn6 (P:=P) (w:=w) (base:=base) T
  refine okW T.F_qg1 sc_qg1 (fun ds Q E h=>?_) (fun cdv Ar outer s H E hr=>?_)
  · rcases h with ⟨_,rfl,_⟩ | ⟨_,rfl,_⟩ <;> rfl
  refine ⟨_,(za5 (zj2 (za9 G_qc1 (hr.mono (by decide)) rfl T.m_qc1 T.F_qc1.kp T.b_qc1 .nil ze2 (za0 (pv 0) za4)))
      (za5 (zc1 (i:=1) sc_qg1.nd rfl (Or.inl rfl) (zo4 PySem.F.plainAttrs_str PySem.F.slot_str_partition PySem.F.type_str_partition zm5 (pv 0) (za0 zd0 za4)))
      (za5 (zc1 (i:=2) sc_qg1.nd rfl (Or.inl rfl) (zo4 PySem.F.plainAttrs_str PySem.F.slot_str_partition PySem.F.type_str_partition zm5 (zc2 (ixtK (K:=K) rfl) (pv 1) za6 (fun _ _=>rfl)) (za0 zd0 za4)))
      (za5 (zc1 (i:=3) sc_qg1.nd rfl (Or.inl rfl) (za9 G_qf1 (hr.mono (by decide)) rfl T.m_qf1 T.F_qf1.kp T.b_qf1 .nil ze2 (za0 (zc2 (ixtK (K:=K) rfl) (pv 1) za6 (fun _ _=>rfl)) za4)))
      (za5 (zc1 (i:=4) sc_qg1.nd rfl (Or.inl rfl) (za9 G_qf1 (hr.mono (by decide)) rfl T.m_qf1 T.F_qf1.kp T.b_qf1 .nil ze2 (za0 (zc2 (ixtK (K:=K) rfl) (pv 2) za6 (fun _ _=>rfl)) za4)))
      (za5 (zc1 (i:=5) sc_qg1.nd rfl (Or.inl rfl) (za9 G_qe1 (hr.mono (by decide)) rfl T.m_qe1 T.F_qe1.kp T.b_qe1 .nil ze2 (za0 (zc2 (ixtK (K:=K) rfl) (pv 2) za6 (fun _ _=>rfl)) za4)))
      (za5 (ze6 (zb9 zu3 (pv 5) za6 (zc9 _)) (za8 (zf8 T.x_NoText hr.hd ze2 rfl (za0 zd0 za4))) zc6)
      (za8 (zc5 (zh6 (za0 (pv 3) (za0 (pv 4) (za0 (pv 5) za4))))))))))))),_,(zb2 (zo9 (za1 (zm1 (za2 (za3 0) za7))))
      (zb2 (zd2 (zv5 (za3 0) (za1 zd1)) (zb0 1))
      (zb2 (zd2 (zv5 (za1 (zc3 2 (zb5 1))) (za1 zd1)) (zb0 2))
      (zb2 (zd2 (zm1 (za2 (za1 (zc3 0 (zb5 1))) za7)) (zb0 3))
      (zb2 (zd2 (zm1 (za2 (za1 (zc3 0 (zb5 2))) za7)) (zb0 4))
      (zb2 (zd2 (zm1 (za2 (za1 (zc3 2 (zb5 2))) za7)) (zb0 5))
      (zb2 (ze9 (zc0 (za1 (zb6 zl7 (za3 5) (za1 zb3)))) (zf6 (zb8 zd1 zd7) (by decide)) zc8)
      (zd6 (za1 (zh8 (zb8 (zb5 3) (zb8 (zb5 4) (zb8 (zb5 5) zd7))) (by decide))))))))))),?_⟩
  rintro ds Q X (⟨x,rfl,hx,k1,k2⟩ | ⟨d,rfl,hd,k⟩)
  · walk_at "s"
    refine ⟨.str x,rfl,fun _=>?_,fun z=>absurd rfl (z x)⟩
    obtain ⟨l1,_,l3⟩:=yd0 x ":"
    obtain ⟨l4,_,l6⟩:=yd0 (PySem.Txt.partition x ":").2.2 "*"
    unfold yc1 at k1 k2
    walk_at "s"
    refine ⟨hx,by rw [zy6]; rfl,?_⟩
    walk_at "s"
    refine ⟨by omega,by rw [yc0]; rfl,?_⟩
    walk_at "s"
    refine .inl ⟨_,rfl,by omega,fun a b hv=>?_,fun hn=>k2 ?_⟩
    · rw [hv] at k1 k2
      dsimp only at k1 k2
      walk_at "s"
      refine .inl ⟨_,rfl,by omega,fun c d hv2=>?_,fun hn=>k2 ?_⟩
      · rw [hv2] at k1 k2
        dsimp only at k1 k2
        walk_at "s"
        refine ⟨_,rfl,by omega,fun n hn=>?_,fun hn=>k2 ?_⟩
        · rw [hn] at k1 k2
          dsimp only at k1 k2
          walk_at "s"
          refine ite2 (fun c3=>?_) (fun c3=>?_)
          · exact k2 (if_pos c3)
          · walk_at "d"
            exact k1 ((a,b),(c,d),n) (if_neg c3)
        · rw [hn]
      · rw [hn]
    · rw [hn]
  · walk_at "s"
    exact ⟨d,rfl,fun ⟨x,e⟩=>absurd e (hd x),fun _=>k⟩
end
noncomputable def cntL:List (Str × Int × Int):=[("marks",3,62),("drop",2,2),("names",1,1),("show",2,2),("bend",4,4),("rise",3,3),("steps",4,4),("judge",4,63)]
noncomputable def yt3 (ws:List Str):Prop:=∃ w0 r lo hi,ws = w0 :: r ∧ cntL.lookup w0 = some (lo,hi) ∧ lo ≤ (ws.length:Int) ∧ (ws.length:Int) ≤ hi
theorem yo9 (x:Str):∀ {tb:Tab} {cl:List (Str × Int × Int)},Paired (fun (p:Str × V × PyData) (q:Str × Int × Int)=>p.1 = q.1 ∧ p.2.2 = .tuple [.int q.2.1,.int q.2.2]) tb cl → (cl.lookup x = none → tb.lookup x = none) ∧ ∀ lo hi,cl.lookup x = some (lo,hi) → ∃ v,tb.lookup x = some (v,.tuple [.int lo,.int hi])
  | _,_,.nil=>⟨fun _=>rfl,fun _ _ z=>by simp at z⟩
  | (px,pv,pd) :: _,(qx,ql,qh) :: _,.cons ⟨e1,e2⟩ t=>by
    have ih:=yo9 x t
    dsimp only at e1 e2
    subst e1 e2
    by_cases hx:x = px
    · subst hx
      simp only [List.lookup_cons,beq_self_eq_true]
      refine ⟨(fun z=>by cases z),fun lo hi z=>?_⟩
      cases z
      exact ⟨pv,rfl⟩
    · simp only [List.lookup_cons,beq_eq_false_iff_ne.mpr hx]
      exact ih
theorem xr4 (A:Adr) (x:Str):(cntL.lookup x = none → (zl3 A).lookup x = none) ∧ ∀ lo hi,cntL.lookup x = some (lo,hi) → ∃ v,(zl3 A).lookup x = some (v,.tuple [.int lo,.int hi]) :=
  yo9 x (.cons ⟨rfl,rfl⟩ (.cons ⟨rfl,rfl⟩ (.cons ⟨rfl,rfl⟩ (.cons ⟨rfl,rfl⟩ (.cons ⟨rfl,rfl⟩ (.cons ⟨rfl,rfl⟩ (.cons ⟨rfl,rfl⟩ (.cons ⟨rfl,rfl⟩ .nil))))))))
theorem xg1 (x y:Str):Txt.split x y ≠ []:=by
  unfold PySem.Txt.split
  split
  · simp
  · split
    · simp
    · rw [PySem.StrLaws.partsBetween_eq]
      obtain ⟨p,r,e⟩:=PySem.StrLaws.partsFrom_ne x y.length 0 (Builtin.Str.occurrences x y 0 x.length (x.length + 1))
      rw [e]; simp
section
variable {P:Program} {w:World} {K:PySem.W.Frag} {mg:Str → Option Value} {base:Heap} {A:Adr}
noncomputable def wc1 (C:Addr):DW:=fun ds Q X=>(∃ (x:Str) (ws:List Str),ds = [.str x] ∧ x.length ≤ 90000 ∧ Txt.split x (Str.ofString " ") = ws ∧ (yt3 ws → Q (.own (ws.map .str))) ∧ (¬ yt3 ws → X C)) ∨ (∃ d,ds = [d] ∧ (∀ x,d ≠ .str x) ∧ X C)
theorem xn5 (T:Txt K mg A) (CT_COUNTS:yn8 w K A.g_COUNTS (zl3 A)):FnOk P w K mg base (CXE P w) 1 A.a_qj1 A.d_qj1 ["row"] (spW K (wc1 A.x_NoRow)):=by
  refine okW T.F_qj1 sc_qj1 (fun ds Q E h=>?_) (fun cdv Ar outer s H E hr=>?_)
  · rcases h with ⟨_,_,rfl,_⟩ | ⟨_,rfl,_⟩ <;> rfl
  refine ⟨_,(za5 (ze6 (ya0 (zl8 (zc7 (xi3 (K:=K) rfl) rfl T.n_isinstance bt_isinstance (za0 (pv 0) (za0 (yc8 rfl T.n_str ys4 (show RelV (.ty "str") (.type "str") from rfl)) za4))))) (za8 (zf8 T.x_NoRow hr.hd ze2 rfl (za0 zd0 za4))) zc6)
      (za5 (zc1 (i:=1) sc_qj1.nd rfl (Or.inl rfl) (zo4 PySem.F.plainAttrs_str PySem.F.slot_str_split PySem.F.type_str_split yd4 (pv 0) (za0 zd0 za4)))
      (za5 (ze6 (zb9 (yl8 (K:=K) rfl rfl CT_COUNTS) (zc2 (ixlK (K:=K) rfl) (pv 1) za6 (fun _ _=>rfl)) (zm8 rfl T.c_COUNTS (show RelV (.ref _) (.ref _) from rfl)) rfl) (za8 (zf8 T.x_NoRow hr.hd ze2 rfl (za0 zd0 za4))) zc6)
      (za5 (zc1 (i:=2) sc_qj1.nd rfl (Or.inl rfl) (zc2 (wm9 (K:=K) rfl rfl CT_COUNTS) (zm8 rfl T.c_COUNTS (show RelV (.ref _) (.ref _) from rfl)) (zc2 (ixlK (K:=K) rfl) (pv 1) za6 (fun _ _=>rfl)) (fun _ _=>rfl)))
      (za5 (ze6 (PW.pt (zn8 (zb9 zu3 (zc7 (lenK (K:=K) rfl) rfl T.n_len PySem.boot_len (za0 (pv 1) za4)) (zc2 (ixtK (K:=K) rfl) (pv 2) za6 (fun _ _=>rfl)) (zc9 _)) (zm4 (zb9 zx0 (zc7 (lenK (K:=K) rfl) rfl T.n_len PySem.boot_len (za0 (pv 1) za4)) (zc2 (ixtK (K:=K) rfl) (pv 2) za6 (fun _ _=>rfl)) (zc9 _))))) (za8 (zf8 T.x_NoRow hr.hd ze2 rfl (za0 zd0 za4))) zc6)
      (za8 (zc5 (pv 1)))))))),_,(zb2 (ze9 (zz4 (tv_b (za1 (yr5 (by decide) (za3 0))))) (zf6 (zb8 zd1 zd7) (by decide)) zc8)
      (zb2 (zf5 1 (yd2 (za3 0) (za1 zd1)))
      (zb2 (ze9 (zc0 (za1 (ym6 (za1 (ze5 (zd3 1) (za1 zb3)))))) (zf6 (zb8 zd1 zd7) (by decide)) zc8)
      (zb2 (zd2 (xj2 CT_COUNTS (za1 (ze5 (zd3 1) (za1 zb3)))) (zb0 2))
      (zb2 (ze9 (zn6 (zc0 (za1 (zb6 zl7 (za1 (ze8 zf9 (za2 (za3 1) za7))) (za1 (zc3 0 (zb5 2)))))) (zc0 (za1 (zb6 zl7 (za1 (ze8 zf9 (za2 (za3 1) za7))) (za1 (zc3 1 (zb5 2))))))) (zf6 (zb8 zd1 zd7) (by decide)) zc8)
      (zi7 1)))))),?_⟩
  rintro ds Q X (⟨x,ws,rfl,hx,hws,k1,k2⟩ | ⟨d,rfl,hd,k⟩)
  · walk_at "s"
    refine ite2 (fun c=>absurd c (by decide)) (fun _=>?_)
    walk_at "s"
    refine ⟨hx,by rw [zi5]; rfl,?_⟩
    rw [hws]
    obtain ⟨w0,r,rfl⟩:∃ w0 r,ws = w0 :: r:=by
      cases ws with
      | nil=>exact absurd hws (xg1 x _)
      | cons w0 r=>exact ⟨w0,r,rfl⟩
    have a0:atI ((w0 :: r).map PyData.str) 0 = some (.str w0):=zk9 (j:=0) rfl
    obtain ⟨t1,t2⟩:=xr4 A w0
    walk_at "s"
    refine ⟨_,a0,?_⟩
    walk_at "d"
    cases hc:cntL.lookup w0 with
    | none =>
      rw [t1 hc]
      refine ite2 (fun _=>?_) (fun c=>absurd rfl c)
      exact k2 fun ⟨w1,r1,lo,hi,e,h1,_⟩=>by
        injection e with e1 e2
        rw [← e1,hc] at h1
        cases h1
    | some p =>
      obtain ⟨lo,hi⟩:=p
      obtain ⟨v,hv⟩:=t2 lo hi hc
      rw [hv]
      refine ite2 (fun c=>absurd c (by simp)) (fun _=>?_)
      walk_at "s"
      refine ⟨_,a0,?_⟩
      walk_at "d"
      refine ⟨_,hv,?_⟩
      walk_at "s"
      refine ite2 (fun c=>?_) (fun c=>ite2 (fun c2=>?_) (fun c2=>?_))
      · exact k2 fun ⟨w1,r1,lo1,hi1,e,h1,h2,h3⟩=>by
          injection e with e1 e2
          rw [← e1,hc] at h1
          cases h1
          rw [List.length_cons] at h2
          omega
      · exact k2 fun ⟨w1,r1,lo1,hi1,e,h1,h2,h3⟩=>by
          injection e with e1 e2
          rw [← e1,hc] at h1
          cases h1
          rw [List.length_cons] at h3
          omega
      · walk_at "d"
        exact k1 ⟨w0,r,lo,hi,rfl,hc,by rw [List.length_cons]; omega,by rw [List.length_cons]; omega⟩
  · cases d with
    | str x=>exact absurd rfl (hd x)
    | _ =>
      walk_at "s"
      exact k
noncomputable def yi2 (x:Str):Bool:=decide (1 ≤ x.length) && decide (x.length ≤ 8) && x.cps.toList.all fun c=>decide (97 ≤ c) && decide (c ≤ 122)
theorem yz6:("abcdefghijklmnopqrstuvwxyz":Str).cps.toList = (List.range 26).map (· + 97):=by decide +kernel
theorem wn5 (c:Nat):PySem.Txt.contains "abcdefghijklmnopqrstuvwxyz" ⟨#[c]⟩ = (decide (97 ≤ c) && decide (c ≤ 122)):=by
  rw [zl1 rfl,yz6]
  rw [Bool.eq_iff_iff]
  simp only [decide_eq_true_eq,Bool.and_eq_true,List.mem_map,List.mem_range]
  constructor
  · rintro ⟨a,h1,rfl⟩; omega
  · rintro ⟨h1,h2⟩; exact ⟨c - 97,by omega,by omega⟩
noncomputable def ws1 (C:Addr):DW:=fun ds Q X=>∃ x:Str,ds = [.str x] ∧ x.length ≤ 100000 ∧ (yi2 x = true → Q (.dat .none)) ∧ (yi2 x = false → X C)
theorem wk1 (T:Txt K mg A):FnOk P w K mg base (CXE P w) 1 A.a_qk1 A.d_qk1 ["word"] (spW K (ws1 A.x_NoName)):=by
  refine okW T.F_qk1 wg3 (fun ds Q E h=>?_) (fun cdv Ar outer s H E hr=>?_)
  · obtain ⟨_,rfl,_⟩:=h; rfl
  refine ⟨_,(za8 (ze6 (PW.pt (zn8 (zb9 zh0 (zc7 zi9 rfl T.n_len PySem.boot_len (za0 (pv 0) za4)) za6 (zc9 _)) (zn8 (zb9 zx0 (zc7 zi9 rfl T.n_len PySem.boot_len (za0 (pv 0) za4)) (zm8 rfl T.c_MOST_LETTERS.choose_spec (show RelV (.int 8) _ from ⟨_,rfl⟩)) (zc9 _)) (zm4 (ya0 (zl8 (zc7 (allK (K:=K) rfl rfl) rfl T.n_all Dl.boot_all (za0 (zm2 (cap:=[none]) (NC:=["sign"]) rfl ⟨rfl,rfl,by decide +kernel,by decide +kernel,trivial,(fun _ h=>nomatch h),rfl⟩ (yx4 (pv 0)) (fun _ _ _ _=>(zd5 (i:=0) (show List.Nodup (["sign"]:List Str) by decide) rfl (Or.inl rfl))) (fun _ _ _ _=>zf7) (fun _ _ _ _=>(zp5 yh6 (pv 0) (zm8 rfl T.c_LETTERS.choose_spec (show RelV (.str "abcdefghijklmnopqrstuvwxyz") _ from ⟨_,rfl⟩)) rfl))) za4)))))))) (za8 (zf8 T.x_NoName hr.hd ze2 rfl (za0 zd0 za4))) zc6)),_,(ze9 (zn6 (zc0 (za1 (zb6 zg9 (za1 (ze8 zt2 (za2 (za3 0) za7))) (za1 zb3)))) (zn6 (zc0 (za1 (zb6 zl7 (za1 (ze8 zt2 (za2 (za3 0) za7))) (za1 zb3)))) (zz4 (tv_b (za1 (ze8 xm4 (za2 (za1 (zj5 (zk2 (IvS.e (xa3 (zb5 0))) (zb0 0) zh2 (zb6 xl8 (za3 0) (za1 zd1)) (by decide) (by decide)))) za7))))))) (zf6 (zb8 zd1 zd7) (by decide)) zc8),?_⟩
  rintro ds Q X ⟨x,rfl,hx,k1,k2⟩
  have hl:=zg5 x
  walk_at "d"
  refine ⟨hx,ite2 (fun c=>?_) (fun c=>⟨hx,ite2 (fun c2=>?_) (fun c2=>?_)⟩)⟩
  · refine k2 ?_
    unfold yi2
    rw [decide_eq_false (show ¬ 1 ≤ x.length by omega)]; rfl
  · refine k2 ?_
    unfold yi2
    rw [decide_eq_false (show ¬ x.length ≤ 8 by omega)]
    simp
  refine zh3 sgD PyData.bool (fun c=>[decide (97 ≤ c) && decide (c ≤ 122)]) x.cps.toList (by omega) (fun Q h=>by
    walk_at "d"
    exact h) (fun c hc N acc hN=>?_) ?_
  · unfold sgD
    walk_at "d"
    rw [wn5]
    exact hN
  refine ⟨x.cps.toList.flatMap fun c=>[decide (97 ≤ c) && decide (c ≤ 122)],rfl,?_⟩
  have e:yi2 x = (x.cps.toList.flatMap fun c=>[decide (97 ≤ c) && decide (c ≤ 122)]).all id:=by
    rw [zd4,List.all_map]
    unfold yi2
    rw [decide_eq_true (show 1 ≤ x.length by omega),decide_eq_true (show x.length ≤ 8 by omega)]
    rfl
  rw [← e]
  walk_at "d"
  cases hn:yi2 x with
  | true=>exact ite2 (fun c=>absurd c (by decide)) (fun _=>k1 hn)
  | false=>exact ite2 (fun _=>k2 hn) (fun c=>absurd rfl c)
end
noncomputable def shQ (q:Rat):Str:=shF q.num (q.den:Int)
theorem log9 {i:Int} (h:i.natAbs < 10 ^ 90):i.natAbs.log2 < 1920:=by
  by_cases h0:i.natAbs = 0
  · rw [h0]; decide
  · exact (Nat.log2_lt h0).mpr (Nat.lt_of_lt_of_le h (by decide +kernel))
theorem txt9 {n:Int} (h:n.natAbs < 10 ^ 90):(Str.ofString (toString n)).length ≤ 91:=by
  obtain ⟨cs,d,e⟩:=zp7 (k:=89) h
  have l2:=d.l2
  rw [← zg5,e]
  split
  · rw [List.length_cons]; omega
  · omega
theorem dg9 {q:Rat} (h:Dg 89 q):q.num.natAbs < 10 ^ 90 ∧ ((q.den:Nat):Int).natAbs < 10 ^ 90:=by
  have h1:=h.n
  have h2:=h.d
  exact ⟨Nat.lt_of_le_of_lt h1 (by decide +kernel),by rw [Int.natAbs_natCast]; exact Nat.lt_of_le_of_lt h2 (by decide +kernel)⟩
theorem zw3 {q:Rat} (h:Dg 89 q):(shQ q).length ≤ 183:=by
  obtain ⟨h1,h2⟩:=dg9 h
  have l1:=txt9 h1
  have l2:=txt9 h2
  have sl:=zl6
  unfold shQ shF
  split
  · omega
  · rw [PySem.Str.length_append,PySem.Str.length_append]; omega
theorem wf3 {q:Rat} (h:Dg 89 q):∀ c ∈ (shQ q).cps.toList,xh2 c ∨ c = 47:=yg5 (k:=89) (dg9 h).1 (dg9 h).2
theorem yw6 {q:Rat} (h:Dg 89 q) {c:Nat} (hc:c = 32 ∨ c = 124):c ∉ (shQ q).cps.toList:=fun z=>by
  rcases wf3 h c z with (y | y) | y <;> omega
noncomputable def shL (qs:List Rat):Str:=Txt.join (Str.ofString " ") (qs.map shQ)
theorem yi4 {y:List Nat} {c:Nat}:∀ {ws:List (List Nat)},c ∈ yi5 y ws → c ∈ y ∨ ∃ w ∈ ws,c ∈ w
  | [],h=>by simp [yi5] at h
  | [w],h=>.inr ⟨w,by simp,h⟩
  | w :: z :: r,h=>by
    rw [zm0] at h
    rcases List.mem_append.mp h with h | h
    · rcases List.mem_append.mp h with h | h
      · exact .inr ⟨w,by simp,h⟩
      · exact .inl h
    · rcases yi4 h with h | ⟨u,hu,h⟩
      · exact .inl h
      · exact .inr ⟨u,List.mem_cons_of_mem _ hu,h⟩
theorem xs5 {qs:List Rat} (h:∀ q ∈ qs,Dg 89 q):124 ∉ (shL qs).cps.toList:=fun z=>by
  unfold shL at z
  rw [zk3,zl4] at z
  rcases yi4 z with y | ⟨u,hu,y⟩
  · exact absurd y (by decide)
  · obtain ⟨v,hv,rfl⟩:=List.mem_map.mp hu
    obtain ⟨q,hq,rfl⟩:=List.mem_map.mp hv
    exact yw6 (h q hq) (.inr rfl) y
theorem ym4 (y:Str) {ws:List Str} {n:Nat} (h:∀ w ∈ ws,w.length ≤ n):(Txt.join y ws).length ≤ ws.length * (n + y.length):=by
  unfold Txt.join
  rw [size_glued]
  have:=yv7 (fun z:Str=>z.length) n ws h
  have h2:(ws.length - 1) * y.length ≤ ws.length * y.length:=Nat.mul_le_mul_right _ (by omega)
  rw [Nat.mul_add]
  omega
theorem yc4 {qs:List Rat} (h:∀ q ∈ qs,Dg 89 q):(shL qs).length ≤ qs.length * 184:=by
  have:=ym4 (Str.ofString " ") (ws:=qs.map shQ) (n:=183) fun w hw=>by
    obtain ⟨q,hq,rfl⟩:=List.mem_map.mp hw
    exact zw3 (h q hq)
  rw [zi5,List.length_map] at this
  exact this
theorem fitJ {ws:List Str} {y:Str} {n:Nat} (h:∀ w ∈ ws,w.length ≤ n) (hb:ws.length * (n + y.length) ≤ 100000):(ws.map (·.length)).sum + ws.length * y.length ≤ 100000:=by
  have:=yv7 (fun z:Str=>z.length) n ws h
  rw [Nat.mul_add] at hb
  omega
noncomputable def shP (rows:List (List Rat)):Str:=Txt.join (Str.ofString " | ") (rows.map shL)
theorem yn5:(Str.ofString " | ").length = 3:=by decide +kernel
section
variable {P:Program} {w:World} {K:PySem.W.Frag} {mg:Str → Option Value} {base:Heap} {A:Adr}
noncomputable def wc6:DW:=fun ds Q _=>∃ q:Rat,ds = [fr q] ∧ Dg 89 q ∧ Q (.dat (.str (shQ q)))
theorem zn4 (T:Txt K mg A):FnOk P w K mg base (CXE P w) 1 A.a_qh1 A.d_qh1 ["x"] (spW K wc6):=by
  refine okW T.F_qh1 wg6 (fun ds Q E h=>?_) (fun cdv Ar outer s H E hr=>?_)
  · obtain ⟨_,rfl,_⟩:=h; rfl
  refine ⟨_,(za5 (ze6 (zb9 zh0 (zc2 (ixtK (K:=K) rfl) (pv 0) za6 (fun _ _=>rfl)) za6 (zc9 _)) (za8 (zc5 (zf3 zf2 rfl T.n_str Dl.boot_str (za0 (zc2 (ixtK (K:=K) rfl) (pv 0) za6 (fun _ _=>rfl)) za4)))) zc6)
      (za8 (zc5 (zc4 ze1 (zc4 ze1 (zf3 zf2 rfl T.n_str Dl.boot_str (za0 (zc2 (ixtK (K:=K) rfl) (pv 0) za6 (fun _ _=>rfl)) za4)) zd0) (zf3 zf2 rfl T.n_str Dl.boot_str (za0 (zc2 (ixtK (K:=K) rfl) (pv 0) za6 (fun _ _=>rfl)) za4)))))),_,(zb2 (ze9 (zc0 (za1 (zb6 zg9 (za1 (zc3 1 (zb5 0))) (za1 zb3)))) (zd6 (za1 (ze8 zp1 (za2 (za1 (zc3 0 (zb5 0))) za7)))) zc8)
      (zd6 (za1 (zb6 zg0 (za1 (zb6 zg0 (za1 (ze8 zp1 (za2 (za1 (zc3 0 (zb5 0))) za7))) (za1 zd1))) (za1 (ze8 zp1 (za2 (za1 (zc3 1 (zb5 0))) za7))))))),?_⟩
  rintro ds Q X ⟨q,rfl,hq,k⟩
  obtain ⟨h1,h2⟩:=dg9 hq
  have l1:=txt9 h1
  have l2:=txt9 h2
  have sl:=zl6
  unfold shQ shF at k
  walk_at "s"
  refine ite2 (fun c=>⟨log9 h1,?_⟩) (fun c=>⟨log9 h1,by omega,log9 h2,by rw [PySem.Str.length_append]; omega,?_⟩)
  · rw [if_pos c] at k; exact k
  · rw [if_neg c] at k; exact k
noncomputable def wc5:DW:=fun ds Q _=>∃ qs:List Rat,ds = [.list (qs.map fr)] ∧ qs.length ≤ 100 ∧ (∀ q ∈ qs,Dg 89 q) ∧ Q (.dat (.str (shL qs)))
theorem wk3 (T:Txt K mg A):FnOk P w K mg base (CXE P w) 2 A.a_qi1 A.d_qi1 ["some"] (spW K wc5):=by
  have G_qh1:=zn4 (P:=P) (w:=w) (base:=base) T
  refine okW T.F_qi1 wg4 (fun ds Q E h=>?_) (fun cdv Ar outer s H E hr=>?_)
  · obtain ⟨_,rfl,_⟩:=h; rfl
  refine ⟨_,(za8 (zc5 (zo4 PySem.F.plainAttrs_str PySem.F.slot_str_join PySem.F.type_str_join (zr9 (K:=K) rfl) zd0 (za0 (zm2 (cap:=[none]) (NC:=["x"]) rfl ⟨rfl,rfl,by decide +kernel,by decide +kernel,trivial,(fun _ h=>nomatch h),rfl⟩ (pilK (K:=K) rfl (pv 0)) (fun _ _ _ _=>(zd5 (i:=0) (show List.Nodup (["x"]:List Str) by decide) rfl (Or.inl rfl))) (fun _ _ _ _=>zf7) (fun _ _ _ _=>(za9 G_qh1 (hr.mono (by decide)) rfl T.m_qh1 T.F_qh1.kp T.b_qh1 .nil zb7 (za0 (pv 0) za4)))) za4)))),_,(zd6 (za1 (zy1 (za1 zd1) (zz0 (zk2 (zh1 (zd3 0)) (zb0 0) zh2 (zb1 (za2 (za3 0) za7)) (by decide) (by decide)))))),?_⟩
  rintro ds Q X ⟨qs,rfl,hl,hq,k⟩
  walk_at "d"
  refine zh3 fr PyData.str (fun q=>[shQ q]) qs (by omega) (fun Q h=>by
      walk_at "d"
      exact h) (fun q hm N acc hN=>?_) ?_
  · walk_at "d"
    refine ⟨q,rfl,hq q hm,?_⟩
    walk_at "d"
    exact hN
  · rw [zd4]
    refine ⟨qs.map shQ,rfl,fitJ (n:=183) (fun w hw=>?_) (by rw [List.length_map,zi5]; omega),k⟩
    obtain ⟨q,hq2,rfl⟩:=List.mem_map.mp hw
    exact zw3 (hq q hq2)
noncomputable def lsD (rows:List (List Rat)):List PyData:=rows.map fun r=>PyData.list (r.map fr)
noncomputable def xq5:DW:=fun ds Q _=>∃ rows:List (List Rat),ds = [.list (lsD rows)] ∧ rows.length ≤ 4 ∧ (∀ r ∈ rows,r.length ≤ 100 ∧ ∀ q ∈ r,Dg 89 q) ∧ Q (.dat (.str (shP rows)))
theorem wk0 (T:Txt K mg A):FnOk P w K mg base (CXE P w) 3 A.a_ql1 A.d_ql1 ["parts"] (spW K xq5):=by
  have G_qi1:=wk3 (P:=P) (w:=w) (base:=base) T
  refine okW T.F_ql1 wg2 (fun ds Q E h=>?_) (fun cdv Ar outer s H E hr=>?_)
  · obtain ⟨_,rfl,_⟩:=h; rfl
  refine ⟨_,(za8 (zc5 (zo4 PySem.F.plainAttrs_str PySem.F.slot_str_join PySem.F.type_str_join (zr9 (K:=K) rfl) zd0 (za0 (zm2 (cap:=[none]) (NC:=["some"]) rfl ⟨rfl,rfl,by decide +kernel,by decide +kernel,trivial,(fun _ h=>nomatch h),rfl⟩ (pilK (K:=K) rfl (pv 0)) (fun _ _ _ _=>(zd5 (i:=0) (show List.Nodup (["some"]:List Str) by decide) rfl (Or.inl rfl))) (fun _ _ _ _=>zf7) (fun _ _ _ _=>(za9 G_qi1 (hr.mono (by decide)) rfl T.m_qi1 T.F_qi1.kp T.b_qi1 .nil zb7 (za0 (pv 0) za4)))) za4)))),_,(zd6 (za1 (zy1 (za1 zd1) (zz0 (zk2 (zh1 (zd3 0)) (zb0 0) zh2 (zb1 (za2 (za3 0) za7)) (by decide) (by decide)))))),?_⟩
  rintro ds Q X ⟨rows,rfl,hl,hq,k⟩
  walk_at "d"
  refine zh3 (fun r:List Rat=>PyData.list (r.map fr)) PyData.str (fun r=>[shL r]) rows (by omega) (fun Q h=>by
      walk_at "d"
      exact h) (fun r hm N acc hN=>?_) ?_
  · walk_at "d"
    refine ⟨r,rfl,(hq r hm).1,(hq r hm).2,?_⟩
    walk_at "d"
    exact hN
  · rw [zd4]
    refine ⟨rows.map shL,rfl,fitJ (n:=18400) (fun w hw=>?_) (by rw [List.length_map,yn5]; omega),k⟩
    obtain ⟨r,hr2,rfl⟩:=List.mem_map.mp hw
    have:=yc4 (hq r hr2).2
    have:=(hq r hr2).1
    omega
end
theorem we1 {q:Rat} (h:Ro q):valF (shQ q) = some (q.num,(q.den:Int)):=by
  have d:=Ro.dg h
  have h1:=d.n
  have h2:=d.d
  refine yu5 (Nat.lt_of_le_of_lt h1 (by decide +kernel)) (by rw [Int.natAbs_natCast]; exact Nat.lt_of_le_of_lt h2 (by decide +kernel)) (dpos q) ?_
  exact q.reduced
theorem Ro.dg9 {q:Rat} (h:Ro q):Dg 89 q:=(Ro.dg h).mono (by decide)
section
variable {P:Program} {w:World} {K:PySem.W.Frag} {mg:Str → Option Value} {base:Heap} {A:Adr}
noncomputable def wd7:DW:=fun ds Q _=>∃ (kd:Str) (ms:List Mk) (row:List Rat),ds = [.str kd,.list (ms.map mk3),.list ((row.map shQ).map .str)] ∧ kd ∈ kdsL ∧ MkT ms ∧ row.length = ms.length ∧ (∀ q ∈ row,Ro q) ∧ Q (.dat (.str (shQ (meas kd ms row))))
theorem wj7 (T:Txt K mg A):FnOk P w K mg base (CXE P w) 7 A.a_qn1 A.d_qn1 ["kind","marks","words"] (spW K wd7):=by
  have G_qf1:=xn6 (P:=P) (w:=w) (base:=base) T
  have G_qq:=xx2 (P:=P) (w:=w) (base:=base) T
  have G_qh1:=zn4 (P:=P) (w:=w) (base:=base) T
  refine okW T.F_qn1 wg1 (fun ds Q E h=>?_) (fun cdv Ar outer s H E hr=>?_)
  · obtain ⟨_,_,_,rfl,_⟩:=h; rfl
  refine ⟨_,(za5 (ze6 (zb9 yh5 (zc7 (lenK (K:=K) rfl) rfl T.n_len PySem.boot_len (za0 (pv 2) za4)) (zc7 (lenK (K:=K) rfl) rfl T.n_len PySem.boot_len (za0 (pv 1) za4)) (zc9 _)) (za8 (zf8 T.x_NoRow hr.hd ze2 rfl (za0 zd0 za4))) zc6)
      (za8 (zc5 (za9 G_qh1 (hr.mono (by decide)) rfl T.m_qh1 T.F_qh1.kp T.b_qh1 .nil zb7 (za0 (za9 G_qq (hr.mono (by decide)) rfl T.m_qq T.F_qq.kp T.b_qq .nil zb7 (za0 (pv 0) (za0 (pv 1) (za0 (zm2 (cap:=[none]) (NC:=["word"]) rfl ⟨rfl,rfl,by decide +kernel,by decide +kernel,trivial,(fun _ h=>nomatch h),rfl⟩ (pilK (K:=K) rfl (pv 2)) (fun _ _ _ _=>(zd5 (i:=0) (show List.Nodup (["word"]:List Str) by decide) rfl (Or.inl rfl))) (fun _ _ _ _=>zf7) (fun _ _ _ _=>(za9 G_qf1 (hr.mono (by decide)) rfl T.m_qf1 T.F_qf1.kp T.b_qf1 .nil zb7 (za0 (pv 0) za4)))) za4)))) za4))))),_,(zb2 (ze9 (zc0 (za1 (zb6 yl3 (za1 (ze8 zf9 (za2 (za3 2) za7))) (za1 (ze8 zf9 (za2 (za3 1) za7)))))) (zf6 (zb8 zd1 zd7) (by decide)) zc8)
      (zd6 (za1 (zb1 (za2 (za1 (zb1 (za2 (za3 0) (za2 (za3 1) (za2 (za1 (zj5 (zk2 (zh1 (zd3 2)) (zb0 0) zh2 (zb1 (za2 (za3 0) za7)) (by decide) (by decide)))) za7))))) za7))))),?_⟩
  rintro ds Q X ⟨kd,ms,row,rfl,hk,M,hl,hr,k⟩
  have n10:=M.n10
  have n1:=M.n1
  walk_at "s"
  refine ite2 (fun c=>absurd (by omega) c) (fun _=>?_)
  refine zh3 PyData.str fr (fun x:Str=>[((valF x).map fun p=>Rat.divInt p.1 p.2).getD 0]) (row.map shQ) (by rw [List.length_map]; omega) (fun Q h=>by
      walk_at "d"
      exact h) (fun x hx N acc hN=>?_) ?_
  · obtain ⟨q,hq,rfl⟩:=List.mem_map.mp hx
    have hv:=we1 (hr q hq)
    have hlen:=zw3 (Ro.dg9 (hr q hq))
    walk_at "d"
    refine .inl ⟨_,rfl,by omega,fun t b hv2=>?_,fun hn=>by rw [hv] at hn; cases hn⟩
    rw [hv] at hv2 hN
    cases hv2
    walk_at "d"
    have e:Rat.divInt q.num (q.den:Int) = q:=Rat.num_divInt_den q
    simp only [Option.map_some,Option.getD_some,e,List.map_cons,List.map_nil] at hN
    exact hN
  · rw [zd4]
    have e:(row.map shQ).map (fun x:Str=>((valF x).map fun p=>Rat.divInt p.1 p.2).getD 0) = row:=by
      rw [List.map_map]
      refine (List.map_congr_left (g:=id) fun q hq=>?_).trans (List.map_id _)
      show ((valF (shQ q)).map fun p=>Rat.divInt p.1 p.2).getD 0 = q
      rw [we1 (hr q hq)]
      exact Rat.num_divInt_den q
    rw [e]
    refine ⟨_,ms,row,NN,10 ^ 6,4,29,6,1,rfl,M.ms hr,(fun e=>by rw [e] at n1; simp at n1),hl,(fun k2 e=>by cases e; exact zt7 hk),(fun k2 e hk2=>?_),fun z=>absurd hk (z kd rfl)⟩
    cases e
    walk_at "d"
    refine ⟨_,rfl,(M.dg hr kd).mono (by decide),?_⟩
    walk_at "d"
    exact k
noncomputable def xq4:DW:=fun ds Q _=>∃ (kd:Str) (ms:List Mk) (k:Nat),ds = [.str kd,.list (ms.map mk3),.int (k:Int)] ∧ kd ∈ kdsL ∧ MkT ms ∧ k ≤ 59 ∧
  ((∀ f l,f ≤ l → l < ms.length → ∃ x,LevelOk kd (zf0 ms f l) x) → ∀ row,Laid kd ms k (ms.length - 1) row → Q (.dat (.str (shP [[meas kd ms row],row]))))
theorem wj9 (T:Txt K mg A):FnOk P w K mg base (CXE P w) 11 A.a_qm1 A.d_qm1 ["kind","marks","k"] (spW K xq4):=by
  have G_qz:=wu5 (P:=P) (w:=w) (base:=base) T
  have G_qq:=xx2 (P:=P) (w:=w) (base:=base) T
  have G_ql1:=wk0 (P:=P) (w:=w) (base:=base) T
  refine okW T.F_qm1 sc_qm1 (fun ds Q E h=>?_) (fun cdv Ar outer s H E hr=>?_)
  · obtain ⟨_,_,_,rfl,_⟩:=h; rfl
  refine ⟨_,(za5 (zc1 (i:=3) sc_qm1.nd rfl (Or.inl rfl) (zc2 (ixtK (K:=K) rfl) (za9 G_qz (hr.mono (by decide)) rfl T.m_qz T.F_qz.kp T.b_qz .nil zb7 (za0 (pv 0) (za0 (pv 1) (za0 (pv 2) za4)))) za6 (fun _ _=>rfl)))
      (za8 (zc5 (za9 G_ql1 (hr.mono (by decide)) rfl T.m_ql1 T.F_ql1.kp T.b_ql1 .nil zb7 (za0 (zi1 (za0 (zi1 (za0 (za9 G_qq (hr.mono (by decide)) rfl T.m_qq T.F_qq.kp T.b_qq .nil zb7 (za0 (pv 0) (za0 (pv 1) (za0 (pv 3) za4)))) za4)) (za0 (pv 3) za4))) za4))))),_,(zb2 (yv5 0 (za2 (za3 0) (za2 (za3 1) (za2 (za3 2) za7))) (zb0 3))
      (zd6 (za1 (zb1 (za2 (za1 (zj5 (zi2 (zb8 (zj5 (zi2 (zb8 (zb1 (za2 (za3 0) (za2 (za3 1) (za2 (za3 3) za7)))) zd7) (by decide))) (zb8 (zb5 3) zd7)) (by decide)))) za7))))),?_⟩
  rintro ds Q X ⟨kd,ms,k,rfl,hk,M,hk59,kq⟩
  have n10:=M.n10
  have n1:=M.n1
  have hw1:∀ m ∈ ms,1 ≤ m.2.2:=fun m h=>(M.hw m h).1
  walk_at "s"
  refine ⟨kd,ms,LL,k,77,rfl,hk,M.c,hk59,fun f l h1 h2=>M.cost hk h1 h2,by omega,fun hx row hL=>?_⟩
  have hro:=hL.ro M hk (by omega)
  obtain ⟨h1,h2,h3⟩:=hL.is hk hw1 (by omega)
  have kk:=kq hx row hL
  walk_at "d"
  refine ⟨_,ms,row,NN,10 ^ 6,4,29,6,1,rfl,M.ms hro,(fun e=>by rw [e] at n1; simp at n1),by omega,(fun k2 e=>by cases e; exact zt7 hk),(fun k2 e hk2=>?_),fun z=>absurd hk (z kd rfl)⟩
  cases e
  walk_at "d"
  refine ⟨[[meas kd ms row],row],rfl,by simp,fun r hr=>?_,?_⟩
  · simp only [List.mem_cons,List.not_mem_nil,or_false] at hr
    rcases hr with rfl | rfl
    · exact ⟨by simp,fun q hq=>by rw [List.mem_singleton.mp hq]; exact (M.dg hro kd).mono (by decide)⟩
    · exact ⟨by omega,fun q hq=>Ro.dg9 (hro q hq)⟩
  · walk_at "d"
    exact kk
end
theorem zs7 {ws:List Str} {j:Nat} {x:Str} (h:ws[j]? = some x):atI (ws.map PyData.str) (j:Int) = some (.str x):=zk9 (by rw [List.getElem?_map,h]; rfl)
section
variable {P:Program} {w:World} {K:PySem.W.Frag} {mg:Str → Option Value} {base:Heap} {A:Adr}
noncomputable def wAsk:DW:=fun ds Q _=>∃ (nm kd:Str) (ms:List Mk) (ws:List Str),ds = [.list (ws.map .str),.list (ms.map mk3)] ∧ kd ∈ kdsL ∧ MkT ms ∧
  ((∃ k : Nat, ws = [Str.ofString "steps", nm, kd, Str.ofString (toString (k : Int))] ∧ k ≤ 59 ∧ ((∀ f l, f ≤ l → l < ms.length → ∃ x, LevelOk kd (zf0 ms f l) x) → ∀ row, Laid kd ms k (ms.length - 1) row → Q (.dat (.str (shP [[meas kd ms row], row]))))) ∨
   (∃ row:List Rat,ws = Str.ofString "judge" :: nm :: kd :: row.map shQ ∧ row.length = ms.length ∧ (∀ q ∈ row,Ro q) ∧ Q (.dat (.str (shQ (meas kd ms row))))))
theorem wj6 (T:Txt K mg A):FnOk P w K mg base (CXE P w) 12 A.a_qo1 A.d_qo1 ["words","marks"] (spW K wAsk):=by
  have G_qo:=yx9 (P:=P) (w:=w) (base:=base) T
  have G_qe1:=yy1 (P:=P) (w:=w) (base:=base) T
  have G_qm1:=wj9 (P:=P) (w:=w) (base:=base) T
  have G_qn1:=wj7 (P:=P) (w:=w) (base:=base) T
  refine okW T.F_qo1 sc_qo1 (fun ds Q E h=>?_) (fun cdv Ar outer s H E hr=>?_)
  · obtain ⟨_,_,_,_,rfl,_⟩:=h; rfl
  refine ⟨_,(za5 (zc1 (i:=2) sc_qo1.nd rfl (Or.inl rfl) (zc2 (ixlK (K:=K) rfl) (pv 0) za6 (fun _ _=>rfl)))
      (za5 (zj2 (za9 G_qo (hr.mono (by decide)) rfl T.m_qo T.F_qo.kp T.b_qo .nil zb7 (za0 (pv 2) za4)))
      (za5 (ze6 (zb9 zh0 (zc2 (ixlK (K:=K) rfl) (pv 0) za6 (fun _ _=>rfl)) zd0 (zc9 _)) (za8 zu2) zc6)
      (za5 (ze6 (zb9 zh0 (zc2 (ixlK (K:=K) rfl) (pv 0) za6 (fun _ _=>rfl)) zd0 (zc9 _)) (za8 zu2) zc6)
      (za5 (ze6 (zb9 zh0 (zc2 (ixlK (K:=K) rfl) (pv 0) za6 (fun _ _=>rfl)) zd0 (zc9 _)) (za8 (zc5 (za9 G_qm1 (hr.mono (by decide)) rfl T.m_qm1 T.F_qm1.kp T.b_qm1 .nil zb7 (za0 (pv 2) (za0 (pv 1) (za0 (za9 G_qe1 (hr.mono (by decide)) rfl T.m_qe1 T.F_qe1.kp T.b_qe1 .nil zb7 (za0 (zc2 (ixlK (K:=K) rfl) (pv 0) za6 (fun _ _=>rfl)) za4)) za4)))))) zc6)
      (za8 (zc5 (za9 G_qn1 (hr.mono (by decide)) rfl T.m_qn1 T.F_qn1.kp T.b_qn1 .nil zb7 (za0 (pv 2) (za0 (pv 1) (za0 (zj3 (sllK (K:=K) rfl) (pv 0) (zj7 za6) zn9) za4))))))))))),_,(zb2 (zd2 (ze5 (zd3 0) (za1 zb3)) (zb0 2))
      (zb2 (zo9 (za1 (zb1 (za2 (za3 2) za7))))
      (zb2 (ze9 (zc0 (za1 (zb6 zg9 (za1 (ze5 (zd3 0) (za1 zb3))) (za1 zd1)))) yl0 zc8)
      (zb2 (ze9 (zc0 (za1 (zb6 zg9 (za1 (ze5 (zd3 0) (za1 zb3))) (za1 zd1)))) yl0 zc8)
      (zb2 (ze9 (zc0 (za1 (zb6 zg9 (za1 (ze5 (zd3 0) (za1 zb3))) (za1 zd1)))) (zd6 (za1 (zb1 (za2 (za3 2) (za2 (za3 1) (za2 (za1 (zb1 (za2 (za1 (ze5 (zd3 0) (za1 zb3))) za7))) za7)))))) zc8)
      (zd6 (za1 (zb1 (za2 (za3 2) (za2 (za3 1) (za2 (za1 (zj5 (yl7 (zd3 0) (zj8 (za1 zb3)) yd3))) za7))))))))))),?_⟩
  rintro ds Q X ⟨nm,kd,ms,ws,rfl,hk,M,hc⟩
  rcases hc with ⟨k,rfl,k59,kq⟩ | ⟨row,rfl,hl,hro,kq⟩
  · obtain ⟨ws,hws⟩:∃ ws,[Str.ofString "steps",nm,kd,Str.ofString (toString (k:Int))] = ws:=⟨_,rfl⟩
    have a0:=zs7 (ws:=ws) (j:=0) (x:=Str.ofString "steps") (by rw [← hws]; rfl)
    have a2:=zs7 (ws:=ws) (j:=2) (x:=kd) (by rw [← hws]; rfl)
    have a3:=zs7 (ws:=ws) (j:=3) (x:=Str.ofString (toString (k:Int))) (by rw [← hws]; rfl)
    rw [hws]
    clear hws
    walk_at "s"
    refine ⟨_,a2,?_⟩
    walk_at "s"
    refine ⟨_,rfl,(fun k2 e=>by cases e; exact zt7 hk),fun _=>?_,fun z=>absurd hk (z kd rfl)⟩
    walk_at "s"
    refine ⟨_,a0,?_⟩
    walk_at "d"
    refine ite2 (fun c=>absurd c (by decide +kernel)) (fun _=>?_)
    walk_at "s"
    refine ⟨_,a0,?_⟩
    walk_at "d"
    refine ite2 (fun c=>absurd c (by decide +kernel)) (fun _=>?_)
    walk_at "s"
    refine ⟨_,a0,?_⟩
    walk_at "d"
    have n40:((k:Nat):Int).natAbs < 10 ^ 40:=by rw [Int.natAbs_natCast]; exact Nat.lt_of_le_of_lt k59 (by decide +kernel)
    have hn:=yi0 n40
    have hl:=zn5 (n:=(k:Int)) (Nat.lt_trans n40 (by decide +kernel))
    refine ⟨_,a3,_,rfl,by omega,fun n hn2=>?_,fun z=>by rw [hn] at z; cases z⟩
    rw [hn] at hn2
    cases hn2
    walk_at "d"
    refine ⟨kd,ms,k,rfl,hk,M,k59,fun hx row hL=>?_⟩
    walk_at "d"
    exact kq hx row hL
  · obtain ⟨ws,hws⟩:∃ ws,Str.ofString "judge" :: nm :: kd :: row.map shQ = ws:=⟨_,rfl⟩
    have a0:=zs7 (ws:=ws) (j:=0) (x:=Str.ofString "judge") (by rw [← hws]; rfl)
    have a2:=zs7 (ws:=ws) (j:=2) (x:=kd) (by rw [← hws]; rfl)
    have e3:cutL (ws.map PyData.str) (some 3) none = (row.map shQ).map .str:=by
      rw [show (3:Int) = ((3:Nat):Int) from rfl,yn2,← hws]; rfl
    rw [hws]
    clear hws
    walk_at "s"
    refine ⟨_,a2,?_⟩
    walk_at "s"
    refine ⟨_,rfl,(fun k2 e=>by cases e; exact zt7 hk),fun _=>?_,fun z=>absurd hk (z kd rfl)⟩
    walk_at "s"
    refine ⟨_,a0,?_⟩
    walk_at "d"
    refine ite2 (fun c=>absurd c (by decide +kernel)) (fun _=>?_)
    walk_at "s"
    refine ⟨_,a0,?_⟩
    walk_at "d"
    refine ite2 (fun c=>absurd c (by decide +kernel)) (fun _=>?_)
    walk_at "s"
    refine ⟨_,a0,?_⟩
    walk_at "d"
    refine ite2 (fun c=>absurd c (by decide +kernel)) (fun _=>?_)
    rw [e3]
    refine ⟨kd,ms,row,rfl,hk,M,hl,hro,?_⟩
    walk_at "d"
    exact kq
theorem wk7 (T:Txt K mg A):FnOk P w K mg base (CXE P w) 1 A.a_qe2 A.d_qe2 ["self"] (yw4 A.c_Desk "kept") :=
  wl6 T.F_qe2 wg9 rfl T.cl_Desk T.nA_Desk fun cdv Ar outer s H E hr=>za8 (wh8 (pv 0) xh0 rfl)
noncomputable def xf0 (C:Addr):DWK:=fun kv ds Q X=>∃ x:Str,ds = [.str x] ∧ (∀ d,kv.lookup x = some d → Q (.dat d)) ∧ (kv.lookup x = none → X C)
theorem wk4 (T:Txt K mg A):FnOk P w K mg base (CXE P w) 1 A.a_qh2 A.d_qh2 ["self","name"] (spDR K A.c_Desk "kept" (xf0 A.x_NoName)):=by
  refine okR T.F_qh2 wg5 (fun kv ds Q E h=>?_) (fun cdv Ar outer s H E hr=>?_)
  · obtain ⟨_,rfl,_⟩:=h; rfl
  refine ⟨_,(za5 (ze6 (wh6 (yx7 (hu1 hr.units) (pv 1) (yx6 (pv 0) rfl))) (za8 (zf8 T.x_NoName hr.hd ze2 rfl (za0 zd0 za4))) zc6)
      (za8 (zc5 (xw7 (hu1 hr.units) (yx6 (pv 0) rfl) (pv 1) (fun _ _=>rfl))))),_,(zb2 (ze9 (yu8 0 T.cl_Desk T.nA_Desk (za3 1)) (zf6 (zb8 zd1 zd7) (by decide)) zc8)
      (zd6 (za1 (wb5 0 T.cl_Desk T.nA_Desk (za3 1))))),?_⟩
  rintro kv ds Q X ⟨x,rfl,k1,k2⟩
  walk_at "s"
  refine ⟨kv,rfl,?_⟩
  cases e:kv.lookup x with
  | none=>exact ite2 (fun _=>k2 e) (fun c=>absurd rfl c)
  | some d =>
    refine ite2 (fun c=>absurd c (by simp)) (fun _=>?_)
    walk_at "d"
    exact ⟨kv,rfl,d,e,k1 d e⟩
noncomputable def m7 (m:Mk):Mk7:=((m.1.num,(m.1.den:Int)),(m.2.1.num,(m.2.1.den:Int)),m.2.2)
noncomputable def shMk (m:Mk):Str:=shM (m7 m)
noncomputable def lLay:DM:=fun ds R=>∃ (nm:Str) (ms:List Mk),ds = [.str nm,.list ((ms.map shMk).map .str)] ∧ nm.length ≤ 100000 ∧ yi2 nm = true ∧ ms ≠ [] ∧ ms.length ≤ 60 ∧ (∀ m ∈ ms,Lw7 (m7 m)) ∧ (ms.map (·.1)).Nodup ∧ ∀ res:List Mk,res.Perm ms → Up res → R nm (res.map mk3)
theorem xo1:∀ ms:List Mk,ndDs (ms.map mk3) = true
  | []=>rfl
  | m :: r=>by rw [List.map_cons]; show (ndD (mk3 m) && ndDs (r.map mk3)) = true; rw [xo1 r]; rfl
theorem wk5 (T:Txt K mg A):FnOk P w K mg base (CXE P w) 5 A.a_qg2 A.d_qg2 ["self","name","words"] (yw3 K A.c_Desk "kept" lLay):=by
  have G_qk1:=wk1 (P:=P) (w:=w) (base:=base) T
  have G_qg1:=wk6 (P:=P) (w:=w) (base:=base) T
  have G_qm:=wv4 (P:=P) (w:=w) (base:=base) T
  refine okM T.F_qg2 wg7 (fun ds R h=>?_) (fun cdv Ar outer s H E hr=>?_)
  · obtain ⟨_,_,rfl,_⟩:=h; rfl
  refine ⟨_,(za5 (zj2 (za9 G_qk1 (hr.mono (by decide)) rfl T.m_qk1 T.F_qk1.kp T.b_qk1 .nil zb7 (za0 (pv 1) za4)))
      (za5 (xw5 (hu1 hr.units) (yx6 (pv 0) rfl) (pv 1) (za9 G_qm (hr.mono (by decide)) rfl T.m_qm T.F_qm.kp T.b_qm .nil zb7 (za0 (zm2 (cap:=[none]) (NC:=["word"]) rfl ⟨rfl,rfl,by decide +kernel,by decide +kernel,trivial,(fun _ h=>nomatch h),rfl⟩ (pilK (K:=K) rfl (pv 2)) (fun _ _ _ _=>(zd5 (i:=0) (show List.Nodup (["word"]:List Str) by decide) rfl (Or.inl rfl))) (fun _ _ _ _=>zf7) (fun _ _ _ _=>(za9 G_qg1 (hr.mono (by decide)) rfl T.m_qg1 T.F_qg1.kp T.b_qg1 .nil zb7 (za0 (pv 0) za4)))) za4)) rfl)
      (za8 (zc5 zd0)))),_,fun p_ dx_ d_=>(xn9 (zo9 (za1 (zb1 (za2 (za3 1) za7))))
      (xy0 1 T.cl_Desk T.nA_Desk (zj4 (za2 (za1 (zj5 (zk2 (zh1 (zd3 2)) (zb0 0) zh2 (zb1 (za2 (za3 0) za7)) (by decide) (by decide)))) za7)))),?_⟩
  rintro p ds R ⟨nm,ms,rfl,hnl,hnm,hne,h60,hlw,hnd,k⟩
  walk_at "d"
  refine ⟨nm,rfl,hnl,fun _=>?_,fun z=>by rw [hnm] at z; cases z⟩
  walk_at "d"
  refine ⟨nm,rfl,?_⟩
  have e7:∀ m ∈ ms,yc1 (shMk m) = some (m7 m):=fun m hm=>xr8 (hlw m hm)
  refine zh3 PyData.str mD (fun x:Str=>[(yc1 x).getD ((0,1),(0,1),1)]) (ms.map shMk) (by rw [List.length_map]; omega) (fun Q h=>by
      walk_at "d"
      exact h) (fun x hx N acc hN=>?_) ?_
  · obtain ⟨m,hm,rfl⟩:=List.mem_map.mp hx
    have hv:=e7 m hm
    have hlen:=(yl2 (hlw m hm).sm).2
    walk_at "d"
    refine .inl ⟨_,rfl,(show (shM (m7 m)).length ≤ 100000 by omega),fun m2 hv2=>?_,fun hn=>by rw [hv] at hn; cases hn⟩
    rw [hv] at hv2 hN
    cases hv2
    walk_at "d"
    exact ⟨rfl,hN⟩
  · rw [zd4]
    have e:((ms.map shMk).map fun x:Str=>(yc1 x).getD ((0,1),(0,1),1)).map mD = ms.map mk3:=by
      rw [List.map_map,List.map_map]
      refine List.map_congr_left fun m hm=>?_
      show mD ((yc1 (shMk m)).getD ((0,1),(0,1),1)) = mk3 m
      rw [e7 m hm]; rfl
    rw [e]
    refine ⟨ms,rfl,fun m hm=>?_,fun z=>absurd z hne,fun z=>absurd h60 (by omega),fun z=>absurd hnd z,fun _ _ _ res hp hu=>?_⟩
    · have l:=hlw m hm
      exact ⟨zr1 (n:=10 ^ 40) (Nat.le_of_lt l.a) (by decide +kernel),zr1 (n:=10 ^ 40) (Nat.le_of_lt l.b) (by decide +kernel)⟩
    · walk_at "d"
      exact ⟨zv2 _,zv2 _,xo1 _,k res hp hu⟩
end
theorem yg1 (zs:List Str):zi4 (zs.map PyData.str) = true:=by
  induction zs with
  | nil=>rfl
  | cons m r ih=>rw [List.map_cons]; show (yj1 (PyData.str m) && zi4 (r.map PyData.str)) = true; rw [ih]; rfl
section
variable {P:Program} {w:World} {K:PySem.W.Frag} {mg:Str → Option Value} {base:Heap} {A:Adr}
noncomputable def lSay:DM:=fun ds R=>∃ (x nm:Str) (ms:List Mk),ds = [.str x] ∧ x.length ≤ 90000 ∧ Txt.split x (Str.ofString " ") = Str.ofString "marks" :: nm :: ms.map shMk ∧ lLay [.str nm,.list ((ms.map shMk).map .str)] R ∧ 1 ≤ ms.length ∧ ms.length ≤ 60
theorem yh8 (T:Txt K mg A) (CT_COUNTS:yn8 w K A.g_COUNTS (zl3 A)):FnOk P w K mg base (CXE P w) 13 A.a_qf2 A.d_qf2 ["self","row"] (yw3 K A.c_Desk "kept" lSay):=by
  have G_qj1:=xn5 (P:=P) (w:=w) (base:=base) T CT_COUNTS
  have G_qg2:=wk5 (P:=P) (w:=w) (base:=base) T
  refine okM T.F_qf2 sc_qf2 (fun ds R h=>?_) (fun cdv Ar outer s H E hr=>?_)
  · obtain ⟨_,_,_,rfl,_⟩:=h; rfl
  refine ⟨_,(za5 (zc1 (i:=2) sc_qf2.nd rfl (Or.inl rfl) (za9 G_qj1 (hr.mono (by decide)) rfl T.m_qj1 T.F_qj1.kp T.b_qj1 .nil zb7 (za0 (pv 1) za4)))
      (za5 (ze6 (zb9 zh0 (zc2 (ixlK (K:=K) rfl) (pv 2) za6 (fun _ _=>rfl)) zd0 (zc9 _)) (za8 zu2) zc6)
      (za5 (ze6 (zb9 zh0 (zc2 (ixlK (K:=K) rfl) (pv 2) za6 (fun _ _=>rfl)) zd0 (zc9 _)) (za8 (zc5 (zp4 (pv 0) T.cl_Desk T.M_qg2 G_qg2 (hr.mono (by decide)) T.b_qg2 .nil zb7 (za0 (zc2 (ixlK (K:=K) rfl) (pv 2) za6 (fun _ _=>rfl)) (za0 (zj3 (sllK (K:=K) rfl) (pv 2) (zj7 za6) zn9) za4))))) zc6)
      (za5 zu2
      (za5 zu2
      (za5 zu2
      (za8 zu2))))))),_,fun p_ dx_ d_=>(xn9 (zf5 2 (zj4 (za2 (za3 1) za7)))
      (wm0 (zc0 (za1 (zb6 zg9 (za1 (ze5 (zd3 2) (za1 zb3))) (za1 zd1))))
      (wl9 (zc0 (za1 (zb6 zg9 (za1 (ze5 (zd3 2) (za1 zb3))) (za1 zd1)))) (xy1 (by decide) (za2 (za1 (ze5 (zd3 2) (za1 zb3))) (za2 (za1 (zj5 (yl7 (zd3 2) (zj8 (za1 zb3)) yd3))) za7)))))),?_⟩
  rintro p ds R ⟨x,nm,ms,rfl,hx,hsp,hlay,m1,m60⟩
  obtain ⟨ws,hws⟩:∃ ws,Str.ofString "marks" :: nm :: ms.map shMk = ws:=⟨_,rfl⟩
  have a0:=zs7 (ws:=ws) (j:=0) (x:=Str.ofString "marks") (by rw [← hws]; rfl)
  have a1:=zs7 (ws:=ws) (j:=1) (x:=nm) (by rw [← hws]; rfl)
  have e2:cutL (ws.map PyData.str) (some 2) none = (ms.map shMk).map .str:=by
    rw [show (2:Int) = ((2:Nat):Int) from rfl,yn2,← hws]; rfl
  have gd:yt3 ws:=⟨Str.ofString "marks",nm :: ms.map shMk,3,62,hws.symm,by decide +kernel,by rw [← hws]; simp; omega,by rw [← hws]; simp; omega⟩
  rw [hws] at hsp
  clear hws
  walk_at "d"
  refine .inl ⟨x,ws,rfl,hx,hsp,fun _=>?_,fun z=>absurd gd z⟩
  walk_at "d"
  refine ⟨yg1 ws,?_⟩
  refine ⟨_,a0,?_⟩
  walk_at "d"
  refine ite2 (fun c=>absurd c (by decide +kernel)) (fun _=>?_)
  refine ⟨_,a0,?_⟩
  walk_at "d"
  refine ⟨_,a1,?_⟩
  rw [e2]
  exact hlay
noncomputable def wSay:DWK:=fun kv ds Q _=>∃ (x w0 nm:Str) (ws:List Str) (d:PyData),ds = [.str x] ∧ x.length ≤ 90000 ∧ Txt.split x (Str.ofString " ") = ws ∧ yt3 ws ∧ ws[0]? = some w0 ∧ ws[1]? = some nm ∧ w0 ≠ "names" ∧ w0 ≠ "marks" ∧ w0 ≠ "drop" ∧ w0 ≠ "show" ∧ kv.lookup nm = some d ∧ wAsk [.list (ws.map .str),d] (yt7 fun v=>Q (.dat v)) fun _=>False
theorem yh7 (T:Txt K mg A) (CT_COUNTS:yn8 w K A.g_COUNTS (zl3 A)):FnOk P w K mg base (CXE P w) 13 A.a_qf2 A.d_qf2 ["self","row"] (spDR K A.c_Desk "kept" wSay):=by
  have G_qj1:=xn5 (P:=P) (w:=w) (base:=base) T CT_COUNTS
  have G_qh2:=wk4 (P:=P) (w:=w) (base:=base) T
  have G_qo1:=wj6 (P:=P) (w:=w) (base:=base) T
  refine okR T.F_qf2 sc_qf2 (fun kv ds Q E h=>?_) (fun cdv Ar outer s H E hr=>?_)
  · obtain ⟨_,_,_,_,_,rfl,_⟩:=h; rfl
  refine ⟨_,(za5 (zc1 (i:=2) sc_qf2.nd rfl (Or.inl rfl) (za9 G_qj1 (hr.mono (by decide)) rfl T.m_qj1 T.F_qj1.kp T.b_qj1 .nil zb7 (za0 (pv 1) za4)))
      (za5 (ze6 (zb9 zh0 (zc2 (ixlK (K:=K) rfl) (pv 2) za6 (fun _ _=>rfl)) zd0 (zc9 _)) (za8 zu2) zc6)
      (za5 (ze6 (zb9 zh0 (zc2 (ixlK (K:=K) rfl) (pv 2) za6 (fun _ _=>rfl)) zd0 (zc9 _)) (za8 zu2) zc6)
      (za5 (zc1 (i:=3) sc_qf2.nd rfl (Or.inl rfl) (zp4 (pv 0) T.cl_Desk T.M_qh2 G_qh2 (hr.mono (by decide)) T.b_qh2 .nil zb7 (za0 (zc2 (ixlK (K:=K) rfl) (pv 2) za6 (fun _ _=>rfl)) za4)))
      (za5 (ze6 (zb9 zh0 (zc2 (ixlK (K:=K) rfl) (pv 2) za6 (fun _ _=>rfl)) zd0 (zc9 _)) (za5 zu2
      (za8 zu2)) zc6)
      (za5 (ze6 (zb9 zh0 (zc2 (ixlK (K:=K) rfl) (pv 2) za6 (fun _ _=>rfl)) zd0 (zc9 _)) (za8 zu2) zc6)
      (za8 (zc5 (za9 G_qo1 (hr.mono (by decide)) rfl T.m_qo1 T.F_qo1.kp T.b_qo1 .nil zb7 (za0 (pv 2) (za0 (pv 3) za4))))))))))),_,(zb2 (zf5 2 (zj4 (za2 (za3 1) za7)))
      (zb2 (ze9 (zc0 (za1 (zb6 zg9 (za1 (ze5 (zd3 2) (za1 zb3))) (za1 zd1)))) yl0 zc8)
      (zb2 (ze9 (zc0 (za1 (zb6 zg9 (za1 (ze5 (zd3 2) (za1 zb3))) (za1 zd1)))) yl0 zc8)
      (zb2 (zz6 2 (xf9 0 (by decide) (za2 (za1 (ze5 (zd3 2) (za1 zb3))) za7) (zb0 3)))
      (zb2 (ze9 (zc0 (za1 (zb6 zg9 (za1 (ze5 (zd3 2) (za1 zb3))) (za1 zd1)))) (zb2 yl0
      yl0) zc8)
      (zb2 (ze9 (zc0 (za1 (zb6 zg9 (za1 (ze5 (zd3 2) (za1 zb3))) (za1 zd1)))) yl0 zc8)
      (zd6 (za1 (zb1 (za2 (za3 2) (za2 (za3 3) za7))))))))))),?_⟩
  rintro kv ds Q X ⟨x,w0,nm,ws,d,rfl,hx,hsp,gd,h0,h1,n1,n2,n3,n4,hd,ha⟩
  have a0:=zs7 (j:=0) h0
  have a1:=zs7 (j:=1) h1
  walk_at "s"
  refine .inl ⟨x,ws,rfl,hx,hsp,fun _=>?_,fun z=>absurd gd z⟩
  walk_at "d"
  refine ⟨yg1 ws,?_⟩
  walk_at "s"
  refine ⟨_,a0,?_⟩
  walk_at "d"
  refine ite2 (fun c=>absurd c n1) (fun _=>?_)
  walk_at "s"
  refine ⟨_,a0,?_⟩
  walk_at "d"
  refine ite2 (fun c=>absurd c n2) (fun _=>?_)
  walk_at "s"
  refine ⟨kv,rfl,_,a1,nm,rfl,fun d2 hd2=>?_,fun z=>by rw [hd] at z; cases z⟩
  rw [hd] at hd2
  cases hd2
  walk_at "d"
  walk_at "s"
  refine ⟨_,a0,?_⟩
  walk_at "d"
  refine ite2 (fun c=>absurd c n3) (fun _=>?_)
  walk_at "s"
  refine ⟨_,a0,?_⟩
  walk_at "d"
  refine ite2 (fun c=>absurd c n4) (fun _=>?_)
  exact ha
end
open PySem.NumText (AllDigits digitsVal)
section
variable {P:Program} {w:World} {K:PySem.W.Frag} {mg:Str → Option Value} {base:Heap} {A:Adr}
theorem xs1 (x:Str):PySem.Txt.slice x (some 0) none = x:=by
  apply zk5
  have hl:=zg5 x
  have e:=slice_closes_from (x:=x) (i:=0) ⟨by decide,by omega⟩
  rw [eq_of_beq e]
  have e2:((x.cps.toList.length:Int) - 0).toNat = (x.cps.toList.drop 0).length:=by rw [List.length_drop]; omega
  rw [e2]
  show List.take _ (x.cps.toList.drop (Int.toNat 0)) = _
  exact List.take_length
theorem wn4 {n:Int} (h:n.natAbs < 10 ^ 90):PySem.intText? (Str.ofString (toString n)) = some n:=by
  obtain ⟨cs,d,e⟩:=zp7 (k:=89) h
  have l1:=d.l1
  have l2:=d.l2
  have ne:cs ≠ []:=fun z=>by rw [z] at l1; simp at l1
  have hv:=d.vl
  by_cases hn:n < 0
  · rw [if_pos hn] at e
    have hl0:=txt9 h
    rw [PySem.intText_neg e d.al ne (by omega),hv]
    congr 1; omega
  · rw [if_neg hn] at e
    have:=PySem.intText_digits (x:=Str.ofString (toString n)) (by rw [e]; exact d.al) (by rw [e]; exact ne) (by rw [← zg5,e]; omega)
    rw [this,e,hv]
    congr 1; omega
noncomputable def ws5:DW:=fun ds Q _=>∃ n:Int,ds = [.str (Str.ofString (toString n))] ∧ n.natAbs < 10 ^ 90 ∧ Q (.dat (.int n))
theorem zy8 (T:Txt K mg A):FnOk P w K mg base (CXE P w) 1 A.a_qu1 A.d_qu1 ["word"] (spW K ws5):=by
  refine okW T.F_qu1 sc_qu1 (fun ds Q E h=>?_) (fun cdv Ar outer s H E hr=>?_)
  · obtain ⟨_,rfl,_⟩:=h; rfl
  refine ⟨_,(za5 (zc1 (i:=1) sc_qu1.nd rfl (Or.inl rfl) (zj3 yp7 (pv 0) (zj7 (zf3 yk0 rfl T.n_int bt_int (za0 (zp5 zh0 (zj3 yp7 (pv 0) zn9 (zj7 za6)) zd0 (zc9 _)) za4))) zn9))
      (za5 (ze6 (PW.pt (zn8 (zb9 zh0 (pv 1) zd0 (zc9 _)) (zm4 (zb9 zx0 (zc7 zi9 rfl T.n_len PySem.boot_len (za0 (pv 1) za4)) za6 (zc9 _))))) (za8 (zc5 zp3)) zc6)
      (za5 (zn3 PassesOwn.leaving rfl (yx4 (pv 1)) (zd5 (i:=2) sc_qu1.nd rfl (Or.inl rfl))
        (za8 (ze6 (zb9 zt5 (pv 2) zd0 rfl) (za8 (zc5 zp3)) zc6)))
      (za5 (ze6 (zb9 yh5 (zf3 zf2 rfl T.n_str Dl.boot_str (za0 (zf3 zy7 rfl T.n_int bt_int (za0 (pv 0) za4)) za4)) (pv 0) (zc9 _)) (za8 (zc5 zp3)) zc6)
      (za8 (zc5 (zf3 zy7 rfl T.n_int bt_int (za0 (pv 0) za4)))))))),_,(zb2 (zd2 (yr4 (za3 0) (zj8 (za1 (ze8 xm3 (za2 (za1 (zb6 zg9 (za1 (yr4 (za3 0) yd3 (zj8 (za1 zb3)))) (za1 zd1))) za7)))) yd3) (zb0 1))
      (zb2 (ze9 (zn6 (zc0 (za1 (zb6 zg9 (za3 1) (za1 zd1)))) (zc0 (za1 (zb6 zl7 (za1 (ze8 zt2 (za2 (za3 1) za7))) (za1 zb3))))) (zd6 (za1 zq0)) zc8)
      (zb2 (zn2 (xa3 (zb5 1)) (zb0 2)
        (ze9 (zc0 (za1 (zb6 yg7 (za3 2) (za1 zd1)))) (zd6 (za1 zq0)) zc8))
      (zb2 (ze9 (zc0 (za1 (zb6 yl3 (za1 (ze8 zp1 (za2 (za1 (ze8 yl5 (za2 (za3 0) za7))) za7))) (za3 0)))) (zd6 (za1 zq0)) zc8)
      (zd6 (za1 (ze8 yl5 (za2 (za3 0) za7)))))))),?_⟩
  rintro ds Q X ⟨n,rfl,hn,k⟩
  obtain ⟨cs,d,e⟩:=zp7 (k:=89) hn
  have hi:=wn4 hn
  have hl:=txt9 hn
  have lg:=log9 hn
  have l1:=d.l1
  have l2:=d.l2
  have fm:=zr3 (Str.ofString (toString n))
  obtain ⟨x,hx⟩:∃ x,Str.ofString (toString n) = x:=⟨_,rfl⟩
  rw [hx] at e hi hl fm ⊢
  have h45:cs.head? ≠ some 45:=fun z=>by
    cases cs with
    | nil=>simp at z
    | cons a r =>
      have:=d.al a (by simp)
      have:a = 45:=by simpa using z
      omega
  have fig:(PySem.Txt.slice x (some (if decide (PySem.Txt.slice x none (some 1) = Str.ofString "-") = true then 1 else 0)) none).cps.toList = cs:=by
    by_cases h0:n < 0
    · rw [if_pos h0] at e
      rw [if_pos (decide_eq_true (fm.mpr (by rw [e]; rfl))),yw5,e]; rfl
    · rw [if_neg h0] at e
      rw [if_neg (fun z=>h45 (by have:=fm.mp (of_decide_eq_true z); rwa [e] at this)),xs1,e]
  have lx:(x.length:Int) ≤ 100000:=by omega
  walk_at "s"
  refine ⟨by omega,by omega,?_⟩
  simp only [decide_eq_true_eq] at fig
  obtain ⟨y,hy⟩:∃ y,PySem.Txt.slice x (some (if PySem.Txt.slice x none (some 1) = Str.ofString "-" then 1 else 0)) none = y:=⟨_,rfl⟩
  rw [hy] at fig ⊢
  have hly:=zg5 y
  rw [fig] at hly
  walk_at "s"
  refine ite2 (fun c=>?_) (fun _=>⟨by omega,ite2 (fun c=>absurd c (by omega)) (fun _=>?_)⟩)
  · rw [c] at hly
    have:(Str.ofString "").length = 0:=by decide +kernel
    omega
  walk_at "s"
  refine zj6 (zo0 sgD y.cps.toList (fun Q h=>by
      walk_at "d"
      exact h) (fun i δ=>∃ s3:Option Sl,δ = [some (.dat (.str x)),some (.dat (.str y)),s3]) ⟨none,rfl⟩ ?_ ?_)
  · rintro i c δ hc ⟨s3,rfl⟩
    unfold sgD
    have hd:=d.al c (by rw [← fig]; exact List.mem_of_getElem? hc)
    walk_at "d"
    rw [xo4,isDig_iff.mpr hd]
    refine ite2 (fun z=>absurd z (by decide)) (fun _=>?_)
    exact ⟨_,rfl⟩
  · rintro δ ⟨s3,rfl⟩
    walk_at "s"
    refine ⟨by omega,n,hi,lg,?_⟩
    rw [hx]
    refine ite2 (fun z=>absurd rfl z) (fun _=>?_)
    walk_at "d"
    exact ⟨by omega,n,hi,k⟩
theorem no47 {n:Int} (h:n.natAbs < 10 ^ 90):47 ∉ (Str.ofString (toString n)).cps.toList:=fun z=>by
  rcases zx1 (k:=89) h 47 z with y | y
  · exact absurd y (by decide)
  · omega
theorem xj3:Str.ofString "" = Str.empty:=by decide +kernel
noncomputable def wd3:DW:=fun ds Q _=>∃ q:Rat,ds = [.str (shQ q)] ∧ Dg 89 q ∧ Q (.dat (fr q))
theorem wj2 (T:Txt K mg A):FnOk P w K mg base (CXE P w) 2 A.a_qv1 A.d_qv1 ["word"] (spW K wd3):=by
  have G_qu1:=zy8 (P:=P) (w:=w) (base:=base) T
  have G_qq1:=ya3 (P:=P) (w:=w) (base:=base) T
  refine okW T.F_qv1 sc_qv1 (fun ds Q E h=>?_) (fun cdv Ar outer s H E hr=>?_)
  · obtain ⟨_,rfl,_⟩:=h; rfl
  refine ⟨_,(za5 (wh9 (zo4 PySem.F.plainAttrs_str PySem.F.slot_str_partition PySem.F.type_str_partition zm5 (pv 0) (za0 zd0 za4)) (pgtK (K:=K) (n:=3) rfl rfl (zg1 (zd5 (i:=1) sc_qv1.nd rfl (Or.inl rfl)) (zg1 (zd5 (i:=2) sc_qv1.nd rfl (Or.inl rfl)) (zg1 (zd5 (i:=3) sc_qv1.nd rfl (Or.inl rfl)) zp2)))))
      (za5 (zc1 (i:=4) sc_qv1.nd rfl (Or.inl rfl) (za9 G_qu1 (hr.mono (by decide)) rfl T.m_qu1 T.F_qu1.kp T.b_qu1 .nil zb7 (za0 (pv 1) za4)))
      (za5 (ze6 (PW.pt (zn8 (zb9 zh0 (pv 2) zd0 (zc9 _)) (zm4 (zb9 yx8 (pv 4) zp3 (zc9 _))))) (za5 (ze6 (zb9 yx8 (pv 4) zp3 (zc9 _)) (za8 (zc5 zp3)) zc6)
      (za8 (zc5 (zh6 (za0 (pv 4) (za0 za6 za4)))))) zc6)
      (za5 (zc1 (i:=5) sc_qv1.nd rfl (Or.inl rfl) (za9 G_qu1 (hr.mono (by decide)) rfl T.m_qu1 T.F_qu1.kp T.b_qu1 .nil zb7 (za0 (pv 3) za4)))
      (za5 (ze6 (PW.pt (zn8 (zb9 yx8 (pv 5) zp3 (zc9 _)) (zn8 (zb9 zu3 (pv 5) za6 (zc9 _)) (zm4 (zb9 (neK (K:=K) rfl hr.units) (za9 G_qq1 (hr.mono (by decide)) rfl T.m_qq1 T.F_qq1.kp T.b_qq1 .nil zb7 (za0 (pv 4) (za0 (pv 5) za4))) (zh6 (za0 (pv 4) (za0 (pv 5) za4))) (zc9 _)))))) (za8 (zc5 zp3)) zc6)
      (za8 (zc5 (zh6 (za0 (pv 4) (za0 (pv 5) za4)))))))))),_,(zb2 (zd2 (zv5 (za3 0) (za1 zd1)) (zt8 (zh7 (zb0 1) (zh7 (zb0 2) (zh7 (zb0 3) zt9)))))
      (zb2 (zd2 (zb1 (za2 (za3 1) za7)) (zb0 4))
      (zb2 (ze9 (zn6 (zc0 (za1 (zb6 zg9 (za3 2) (za1 zd1)))) (zc0 (za1 (zb6 yw9 (za3 4) (za1 zq0))))) (zb2 (ze9 (zc0 (za1 (zb6 yw9 (za3 4) (za1 zq0)))) (zd6 (za1 zq0)) zc8)
      (zd6 (za1 (zh8 (zb8 (zb5 4) (zb8 zb3 zd7)) (by decide))))) zc8)
      (zb2 (zd2 (zb1 (za2 (za3 3) za7)) (zb0 5))
      (zb2 (ze9 (zn6 (zc0 (za1 (zb6 yw9 (za3 5) (za1 zq0)))) (zn6 (zc0 (za1 (zb6 zl7 (za3 5) (za1 zb3)))) (zc0 (za1 (zb6 zw6 (za1 (zb1 (za2 (za3 4) (za2 (za3 5) za7)))) (za1 (zh8 (zb8 (zb5 4) (zb8 (zb5 5) zd7)) (by decide)))))))) (zd6 (za1 zq0)) zc8)
      (zd6 (za1 (zh8 (zb8 (zb5 4) (zb8 (zb5 5) zd7)) (by decide))))))))),?_⟩
  rintro ds Q X ⟨q,rfl,hq,k⟩
  obtain ⟨h1,h2⟩:=dg9 hq
  have n1:=no47 h1
  have hlen:=zw3 hq
  have dp:=dpos q
  have hfr:fr q = .tuple [.int q.num,.int (q.den:Int)]:=rfl
  rw [hfr] at k
  by_cases hd:(q.den:Int) = 1
  · have ex:shQ q = Str.ofString (toString q.num):=by unfold shQ shF; rw [if_pos hd]
    have hp:PySem.Txt.partition (shQ q) "/" = (Str.ofString (toString q.num),Str.empty,Str.empty):=by
      rw [ex]
      exact yc9 (by rw [zl1 yc3]; exact decide_eq_false n1)
    walk_at "s"
    refine ⟨by omega,by rw [zl6]; rfl,?_⟩
    rw [hp]
    walk_at "s"
    refine ⟨_,rfl,h1,?_⟩
    walk_at "s"
    rw [xj3]
    refine ite2 (fun _=>?_) (fun c=>absurd rfl c)
    walk_at "d"
    walk_at "s"
    rw [hd] at k
    exact k
  · have ex:shQ q = Str.ofString (toString q.num) ++ Str.ofString "/" ++ Str.ofString (toString (q.den:Int)):=by unfold shQ shF; rw [if_neg hd]
    have hp:PySem.Txt.partition (shQ q) "/" = (Str.ofString (toString q.num),Str.ofString "/",Str.ofString (toString (q.den:Int))):=by
      rw [ex]
      exact yd1 yp5 n1
    walk_at "s"
    refine ⟨by omega,by rw [zl6]; rfl,?_⟩
    rw [hp]
    walk_at "s"
    refine ⟨_,rfl,h1,?_⟩
    walk_at "s"
    refine ite2 (fun c=>absurd c (by decide +kernel)) (fun _=>?_)
    walk_at "s"
    refine ⟨_,rfl,h2,?_⟩
    walk_at "s"
    refine ite2 (fun c=>absurd c (by omega)) (fun _=>?_)
    refine ⟨_,_,rfl,dp,zo3 (n:=90) (by omega) (by decide),?_⟩
    rw [show Rat.divInt q.num (q.den:Int) = q from Rat.num_divInt_den q]
    walk_at "d"
    refine ⟨Rat,eRat,q,q,rfl,rfl,fun v hv=>?_⟩
    rw [hv.mpr rfl]
    walk_at "d"
    exact k
noncomputable def wc8:DW:=fun ds Q _=>∃ rows:List (List Rat),ds = [.str (shP rows)] ∧ rows ≠ [] ∧ rows.length ≤ 4 ∧ (∀ r ∈ rows,r ≠ [] ∧ r.length ≤ 100 ∧ ∀ q ∈ r,Dg 89 q) ∧ Q (.own (lsD rows))
theorem wj1 (T:Txt K mg A):FnOk P w K mg base (CXE P w) 3 A.a_qw1 A.d_qw1 ["answer"] (spW K wc8):=by
  have G_qv1:=wj2 (P:=P) (w:=w) (base:=base) T
  refine okW T.F_qw1 wf7 (fun ds Q E h=>?_) (fun cdv Ar outer s H E hr=>?_)
  · obtain ⟨_,rfl,_⟩:=h; rfl
  refine ⟨_,(za5 (ze6 (ya0 (zl8 (zc7 (xi3 (K:=K) rfl) rfl T.n_isinstance bt_isinstance (za0 (pv 0) (za0 (yc8 rfl T.n_str ys4 (show RelV (.ty "str") (.type "str") from rfl)) za4))))) (za8 (zc5 (zi1 (za0 (zi1 (za0 zp3 za4)) za4)))) zc6)
      (za8 (zc5 (zm2 (cap:=[none]) (NC:=["part"]) rfl ⟨rfl,rfl,by decide +kernel,by decide +kernel,trivial,(fun _ h=>nomatch h),rfl⟩ (pilK (K:=K) rfl (zo4 PySem.F.plainAttrs_str PySem.F.slot_str_split PySem.F.type_str_split yd4 (pv 0) (za0 zd0 za4))) (fun _ _ _ _=>(zd5 (i:=0) (show List.Nodup (["part"]:List Str) by decide) rfl (Or.inl rfl))) (fun _ _ _ _=>zf7) (fun _ _ _ _=>(zm2 (cap:=[none]) (NC:=["word"]) rfl ⟨rfl,rfl,by decide +kernel,by decide +kernel,trivial,(fun _ h=>nomatch h),rfl⟩ (pilK (K:=K) rfl (zo4 PySem.F.plainAttrs_str PySem.F.slot_str_split PySem.F.type_str_split yd4 (pv 0) (za0 zd0 za4))) (fun _ _ _ _=>(zd5 (i:=0) (show List.Nodup (["word"]:List Str) by decide) rfl (Or.inl rfl))) (fun _ _ _ _=>zf7) (fun _ _ _ _=>(za9 G_qv1 (hr.mono (by decide)) rfl T.m_qv1 T.F_qv1.kp T.b_qv1 .nil zb7 (za0 (pv 0) za4))))))))),_,(zb2 (ze9 (zz4 (tv_b (za1 (yr5 (by decide) (za3 0))))) (zs8 (zi2 (zb8 (zj5 (zi2 (zb8 zq0 zd7) (by decide))) zd7) (by decide))) zc8)
      (zs8 (zk2 (zh1 (zz0 (yd2 (za3 0) (za1 zd1)))) (zb0 0) zh2 (zj5 (zk2 (zh1 (zz0 (yd2 (za3 0) (za1 zd1)))) (zb0 0) zh2 (zb1 (za2 (za3 0) za7)) (by decide) (by decide))) (by decide) (by decide)))),?_⟩
  rintro ds Q X ⟨rows,rfl,hne,hl,hr2,k⟩
  have hlenL:∀ r ∈ rows,(shL r).length ≤ 18400:=fun r hr=>by
    have:=yc4 (hr2 r hr).2.2
    have:=(hr2 r hr).2.1
    omega
  have hlen:(shP rows).length ≤ 90000:=by
    have:=ym4 (Str.ofString " | ") (ws:=rows.map shL) (n:=18400) fun w hw=>by
      obtain ⟨r,hr,rfl⟩:=List.mem_map.mp hw
      exact hlenL r hr
    rw [yn5,List.length_map] at this
    unfold shP
    omega
  have hs1:Txt.split (shP rows) (Str.ofString " | ") = rows.map shL:=zt0 wf1 (by rw [ys5]; decide) (by simpa using hne) fun w hw=>by
    obtain ⟨r,hr,rfl⟩:=List.mem_map.mp hw
    exact xs5 (hr2 r hr).2.2
  have hs2:∀ r ∈ rows,Txt.split (shL r) (Str.ofString " ") = r.map shQ:=fun r hr=>zt0 yp6 (by rw [zl4]; decide) (by simpa using (hr2 r hr).1) fun w hw=>by
    obtain ⟨q,hq,rfl⟩:=List.mem_map.mp hw
    exact yw6 ((hr2 r hr).2.2 q hq) (.inl rfl)
  walk_at "s"
  refine ite2 (fun c=>absurd c (by decide)) (fun _=>?_)
  refine zh3 (fun r:List Rat=>PyData.str (shL r)) (fun r:List Rat=>PyData.list (r.map fr)) (fun r=>[r]) rows (by omega) (fun Q h=>by
      walk_at "d"
      refine ⟨hlen,by rw [yn5]; rfl,?_⟩
      rw [hs1,List.map_map]
      exact h) (fun r hr N acc hN=>?_) ?_
  · walk_at "d"
    refine zh3 (fun q:Rat=>PyData.str (shQ q)) fr (fun q=>[q]) r (by have:=(hr2 r hr).2.1; omega) (fun Q h=>by
        walk_at "d"
        refine ⟨by have:=hlenL r hr; omega,by rw [zi5]; rfl,?_⟩
        rw [hs2 r hr,List.map_map]
        exact h) (fun q hq N2 acc2 hN2=>?_) ?_
    · walk_at "d"
      refine ⟨q,rfl,(hr2 r hr).2.2 q hq,?_⟩
      walk_at "d"
      exact hN2
    · rw [zd4,List.map_id']
      exact hN
  · rw [zd4,List.map_id']
    exact k
end
structure MkR (most:Nat) (ms:List Mk):Prop where
  n1:1 ≤ ms.length
  nm:ms.length ≤ most
  hc:∀ m ∈ ms,Cm LL (10 ^ 6) m.2.1
  hw:∀ m ∈ ms,1 ≤ m.2.2 ∧ m.2.2 ≤ 4
  up:Up ms
  pl:∀ m ∈ ms,m.1.num.natAbs ≤ 1000 ∧ m.1.den ≤ 2
theorem MkR.t {most:Nat} {ms:List Mk} (M:MkR most ms) (h:most ≤ 10):MkT ms:=⟨M.n1,Nat.le_trans M.nm h,M.hc,M.hw⟩
theorem xq3:0 < LL:=by decide +kernel
theorem MkR.lw {most:Nat} {ms:List Mk} (M:MkR most ms):∀ m ∈ ms,Lw7 (m7 m):=fun m hm=>by
  have h1:=(M.hc m hm).dg xq3 (show LL ≤ 10 ^ 13 by decide +kernel) (Nat.le_refl (10 ^ 6))
  have h2:=M.hw m hm
  have h3:=M.pl m hm
  have e20:(10:Nat) ^ (6 + 13 + 1) < 10 ^ 40:=by decide +kernel
  have e4:(1000:Nat) < 10 ^ 40:=by decide +kernel
  have n1:=h1.n
  have n2:=h1.d
  refine ⟨?_,?_,?_,?_,?_,dpos _,dpos _,h2.1,m.1.reduced,m.2.1.reduced⟩
  · show m.1.num.natAbs < 10 ^ 40; omega
  · show ((m.1.den:Nat):Int).natAbs < 10 ^ 40; rw [Int.natAbs_natCast]; omega
  · show m.2.1.num.natAbs < 10 ^ 40; omega
  · show ((m.2.1.den:Nat):Int).natAbs < 10 ^ 40; rw [Int.natAbs_natCast]; omega
  · show m.2.2.natAbs < 10 ^ 40; omega
theorem wp1 {s t b:Int} (hb:0 < b) (h:s < t):Rat.divInt s b < Rat.divInt t b:=by
  rw [dv_q,dv_q,Rat.div_def,Rat.div_def]
  exact Rat.mul_lt_mul_of_pos_right (Rat.intCast_lt_intCast.mpr h) (Rat.inv_pos.mpr (Rat.intCast_pos.mpr hb))
theorem xc0 {t b:Int} (hb:1 ≤ b) (hb2:b ≤ 2) (ht:t.natAbs ≤ 500):(Rat.divInt t b).num.natAbs ≤ 1000 ∧ (Rat.divInt t b).den ≤ 2:=by
  have d2:b.toNat ∣ 2:=by
    have:b.toNat = 1 ∨ b.toNat = 2:=by omega
    rcases this with e | e <;> rw [e] <;> decide
  have c:=Cm.div (t:=t) (b:=b.toNat) (L:=2) (B:=500) (by omega) d2 (Nat.le_trans ht (Nat.le_mul_of_pos_right _ (by omega)))
  rw [show ((b.toNat:Nat):Int) = b by omega] at c
  have d:=c.den (by decide)
  have n:=c.num
  refine ⟨?_,d⟩
  have:500 * (Rat.divInt t b).den ≤ 500 * 2:=Nat.mul_le_mul_left _ d
  omega
theorem cmLL {t b:Int} (hb:1 ≤ b) (hb2:b ≤ 30) (ht:t.natAbs ≤ 10 ^ 6):Cm LL (10 ^ 6) (Rat.divInt t b):=by
  have c:=Cm.div (t:=t) (b:=b.toNat) (L:=LL) (B:=10 ^ 6) (by omega) (wr4 (by omega) (by omega)) (Nat.le_trans ht (Nat.le_mul_of_pos_right _ (by omega)))
  rw [show ((b.toNat:Nat):Int) = b by omega] at c
  exact c
section
variable {P:Program} {w:World} {K:PySem.W.Frag} {mg:Str → Option Value} {base:Heap} {A:Adr}
noncomputable def wr7:DW:=fun ds Q _=>∃ (ns:List Int) (st most:Nat),ds = [.list (ns.map .int),.int (st:Int),.int (most:Int)] ∧ (∀ v ∈ ns,Builtin.Int.intBits v ≤ 1048576) ∧ ns.length ≤ 100 ∧ 3 ≤ st ∧ st ≤ 10 ∧ 1 ≤ most ∧ most ≤ 10 ∧ ∀ ms:List Mk,MkR most ms → Q (.own (ms.map mk3))
theorem wi9 (T:Txt K mg A):FnOk P w K mg base (CXE P w) 2 A.a_qz1 A.d_qz1 ["script","start","most"] (spW K wr7):=by
  have G_qp1:=xn4 (P:=P) (w:=w) (base:=base) T
  have G_qq1:=ya3 (P:=P) (w:=w) (base:=base) T
  refine okW T.F_qz1 sc_qz1 (fun ds Q E h=>?_) (fun cdv Ar outer s H E hr=>?_)
  · obtain ⟨_,_,_,rfl,_⟩:=h; rfl
  refine ⟨_,(za5 (zc1 (i:=3) sc_qz1.nd rfl (Or.inl rfl) (zi1 za4))
      (za5 (zc1 (i:=4) sc_qz1.nd rfl (Or.inl rfl) (zc4 zp6 (zc4 zi3 (za9 G_qp1 (hr.mono (by decide)) rfl T.m_qp1 T.F_qp1.kp T.b_qp1 .nil zb7 (za0 (pv 0) (za0 za6 za4))) za6) za6))
      (za5 (zn3 PassesOwn.leaving rfl (yx5 rfl T.n_range (za0 (pv 1) (za0 (zc7 (yj8 rfl) rfl T.n_max bt_max (za0 (zc4 zg8 (pv 1) za6) (za0 (zc7 (yj7 rfl) rfl T.n_min bt_min (za0 (zc7 (lenK (K:=K) rfl) rfl T.n_len PySem.boot_len (za0 (pv 0) za4)) (za0 (zc4 zg8 (pv 1) (zc4 ze4 za6 (pv 2))) za4))) za4))) (za0 za6 za4)))) (zd5 (i:=5) sc_qz1.nd rfl (Or.inl rfl))
        (za5 (zc1 (i:=6) sc_qz1.nd rfl (Or.inl rfl) (za9 G_qp1 (hr.mono (by decide)) rfl T.m_qp1 T.F_qp1.kp T.b_qp1 .nil zb7 (za0 (pv 0) (za0 (pv 5) za4))))
      (za5 (zc1 (i:=7) sc_qz1.nd rfl (Or.inl rfl) (za9 G_qp1 (hr.mono (by decide)) rfl T.m_qp1 T.F_qp1.kp T.b_qp1 .nil zb7 (za0 (pv 0) (za0 (zc4 zg8 (pv 5) za6) za4))))
      (za5 (zc1 (i:=4) sc_qz1.nd rfl (Or.inl rfl) (zc4 zg8 (zc4 zg8 (pv 4) za6) (zc4 zi3 (pv 7) za6)))
      (za5 (zc1 (i:=8) sc_qz1.nd rfl (Or.inl rfl) (za9 G_qq1 (hr.mono (by decide)) rfl T.m_qq1 T.F_qq1.kp T.b_qq1 .nil zb7 (za0 (zc4 zp6 (zc4 zi3 (pv 6) za6) za6) (za0 (zc4 zg8 za6 (zc4 zi3 (zc4 zg2 (pv 6) za6) za6)) za4))))
      (za5 (ze6 (zb9 zh0 (zc4 zi3 (za9 G_qp1 (hr.mono (by decide)) rfl T.m_qp1 T.F_qp1.kp T.b_qp1 .nil zb7 (za0 (pv 0) (za0 za6 za4))) za6) za6 (zc9 _)) (za8 (zc1 (i:=8) sc_qz1.nd rfl (Or.inl rfl) (za9 G_qq1 (hr.mono (by decide)) rfl T.m_qq1 T.F_qq1.kp T.b_qq1 .nil zb7 (za0 (zc4 zp6 (zc4 zi3 (zc4 ze4 (pv 6) za6) (zc4 zg8 (zc4 ze4 za6 (zc4 xn0 za6 za6)) za6)) (zc4 xn0 za6 za6)) (za0 (zc4 zg8 za6 (zc4 zi3 (zc4 zg2 (pv 7) za6) za6)) za4))))) zc6)
      (za8 (zj2 (zo4 PySem.F.plainAttrs_list PySem.F.slot_list_append PySem.F.type_list_append zp8 (pv 3) (za0 (zh6 (za0 (za9 G_qq1 (hr.mono (by decide)) rfl T.m_qq1 T.F_qq1.kp T.b_qq1 .nil zb7 (za0 (pv 4) (za0 (zc4 zg8 za6 (zc4 zi3 (zc4 zg2 (za9 G_qp1 (hr.mono (by decide)) rfl T.m_qp1 T.F_qp1.kp T.b_qp1 .nil zb7 (za0 (pv 0) (za0 za6 za4))) za6) za6)) za4))) (za0 (pv 8) (za0 (zc4 zg8 za6 (zc4 zi3 (zc4 zg2 (pv 7) za6) za6)) za4)))) za4))))))))))
      (za8 (zc5 (pv 3)))))),_,(zb2 (zf5 3 (zi2 zd7 (by decide)))
      (zb2 (zd2 (zb6 zh5 (za1 (zk4 (k:=21) (by decide) (za1 (zb1 (za2 (za3 0) (za2 (za1 zb3) za7)))) zb3)) (za1 zb3)) (zb0 4))
      (zb2 (zn2 (xz3 (za2 (za3 1) (za2 (za1 (ze8 xm2 (za2 (za1 (zb6 zh5 (za3 1) (za1 zb3))) (za2 (za1 (ze8 xm1 (za2 (za1 (ze8 zf9 (za2 (za3 0) za7))) (za2 (za1 (zb6 zh5 (za3 1) (za1 (zb6 ro_i (za1 zb3) (za3 2))))) za7)))) za7)))) (za2 (za1 zb3) za7)))) (zb0 5)
        (zb2 (zd2 (zb1 (za2 (za3 0) (za2 (za3 5) za7))) (zb0 6))
      (zb2 (zd2 (zb1 (za2 (za3 0) (za2 (za1 (zb6 zh5 (za3 5) (za1 zb3))) za7))) (zb0 7))
      (zb2 (zd2 (zb6 zh5 (za1 (zb6 zh5 (za3 4) (za1 zb3))) (za1 (zk4 (k:=3) (by decide) (za3 7) zb3))) (zb0 4))
      (zb2 (zd2 (zb1 (za2 (za1 (zb6 zh5 (za1 (zk4 (k:=13) (by decide) (za3 6) zb3)) (za1 zb3))) (za2 (za1 (zb6 zh5 (za1 zb3) (za1 (zk4 (k:=3) (by decide) (za1 (zq1 (k:=13) (cdiv (by decide +kernel)) (za3 6) zb3)) zb3)))) za7))) (zb0 8))
      (yp1 (ze9 (zc0 (za1 (zb6 zg9 (za1 (zk4 (k:=3) (by decide) (za1 (zb1 (za2 (za3 0) (za2 (za1 zb3) za7)))) zb3)) (za1 zb3)))) (zd2 (zb1 (za2 (za1 (zb6 zh5 (za1 (zk4 (k:=2000001) (by decide) (za1 (zb6 ro_i (za3 6) (za1 zb3))) (ev_k (v:=2000001) (zb6 zh5 (za1 (zb6 ro_i (za1 zb3) (za1 (zb6 ro_i (za1 zb3) (za1 zb3))))) (za1 zb3)) (fun ex δ Q h=>⟨cpow (by decide +kernel),zh9 (wee (by decide +kernel)) (wee (by decide +kernel)),Eq.mpr (congrArg (fun z=>Q (.int z)) (by decide +kernel:(((2 * (10 ^ Int.toNat 6)) + 1):Int) = 2000001)) h⟩)))) (za1 (ev_k (v:=1000000) (zb6 ro_i (za1 zb3) (za1 zb3)) (fun ex δ Q h=>⟨cpow (by decide +kernel),Eq.mpr (congrArg (fun z=>Q (.int z)) (by decide +kernel:((10 ^ Int.toNat 6):Int) = 1000000)) h⟩))))) (za2 (za1 (zb6 zh5 (za1 zb3) (za1 (zk4 (k:=30) (by decide) (za1 (zq1 (k:=12) (cdiv (by decide +kernel)) (za3 7) zb3)) zb3)))) za7))) (zb0 8)) zc8)
      (yp2 3 (zh8 (zb8 (zb1 (za2 (za3 4) (za2 (za1 (zb6 zh5 (za1 zb3) (za1 (zk4 (k:=2) (by decide) (za1 (zq1 (k:=21) (cdiv (by decide +kernel)) (za1 (zb1 (za2 (za3 0) (za2 (za1 zb3) za7)))) zb3)) zb3)))) za7))) (zb8 (zb5 8) (zb8 (zb6 zh5 (za1 zb3) (za1 (zk4 (k:=4) (by decide) (za1 (zq1 (k:=3) (cdiv (by decide +kernel)) (za3 7) zb3)) zb3))) zd7))) (by decide)))))))))
      (zi7 3)))),?_⟩
  rintro ds Q X ⟨ns,st,most,rfl,hbits,hlen,st3,st10,mo1,mo10,k⟩
  obtain ⟨c1,hc1⟩:∃ c1:Int,zo6 ns 1 = c1:=⟨_,rfl⟩
  obtain ⟨c2,hc2⟩:∃ c2:Int,zo6 ns 2 = c2:=⟨_,rfl⟩
  have h2m:(2:Int) * (most:Int) = ((2 * most:Nat):Int):=by omega
  obtain ⟨tm,htm⟩:∃ tm:Int,(2:Int) * (most:Int) = tm:=⟨_,rfl⟩
  have tm1:2 ≤ tm:=by omega
  have tm2:tm = 2 * (most:Int):=by omega
  walk_at "s"
  walk_at "s"
  refine ⟨ns,1,rfl,by decide,by decide,?_⟩
  walk_at "d"
  rw [hc1]
  obtain ⟨p0,hp0,p0a⟩:∃ p0:Int,c1 % 21 - 10 = p0 ∧ p0.natAbs ≤ 10:=⟨_,rfl,by omega⟩
  rw [hp0]
  obtain ⟨hi,hhi,hi1,hi2⟩:∃ hi:Int,(if (if (st:Int) + tm < (ns.length:Int) then (st:Int) + tm else (ns.length:Int)) > (st:Int) + 2 then (if (st:Int) + tm < (ns.length:Int) then (st:Int) + tm else (ns.length:Int)) else (st:Int) + 2) = hi ∧ (st:Int) + 2 ≤ hi ∧ hi ≤ (st:Int) + tm:=⟨_,rfl,by (repeat' split) <;> omega,by (repeat' split) <;> omega⟩
  obtain ⟨n,hn,n1,n2⟩:∃ n:Nat,Builtin.Range.rangeSize (st:Int) hi 2 = (n:Int) ∧ 1 ≤ n ∧ n ≤ most:=by
    unfold Builtin.Range.rangeSize
    refine ⟨((hi - (st:Int) - 1) / 2 + 1).toNat,?_,by omega,by omega⟩
    rw [if_pos (by decide),if_pos (by omega)]
    omega
  refine zj6 (ye3 (lo:=(st:Int)) (st:=2) (n:=n) (fun Q h=>by
      walk_at "d"
      refine ⟨zh9 (wee (by decide +kernel)) (zr1 (n:=100) (by omega) (by decide +kernel)),?_⟩
      rw [htm,hhi]
      exact ⟨n,⟨by decide,by decide,yx0 ⟨by omega,by omega⟩ ⟨by omega,by omega⟩ (by decide)⟩,hn,h⟩)
    (fun i δ=>∃ (ms:List Mk) (p:Int) (s5 s6 s7 s8:Option Sl),δ = [some (.dat (.list (ns.map .int))),some (.dat (.int (st:Int))),some (.dat (.int (most:Int))),some (.own (ms.map mk3)),some (.dat (.int p)),s5,s6,s7,s8] ∧ ms.length = i ∧ p.natAbs ≤ 10 + 3 * i ∧ (∀ m ∈ ms,Cm LL (10 ^ 6) m.2.1) ∧ (∀ m ∈ ms,1 ≤ m.2.2 ∧ m.2.2 ≤ 4) ∧ Up ms ∧ (∀ m ∈ ms,m.1.num.natAbs ≤ 1000 ∧ m.1.den ≤ 2) ∧ ∀ m ∈ ms,∃ s:Int,s ≤ p ∧ m.1 = Rat.divInt s (1 + c1 / 21 % 2))
    ⟨[],p0,none,none,none,none,rfl,rfl,by omega,(fun m h=>nomatch h),(fun m h=>nomatch h),.nil,(fun m h=>nomatch h),fun m h=>nomatch h⟩ ?_ ?_)
  · rintro i δ hi3 ⟨ms,p,s5,s6,s7,s8,rfl,hml,hp,i1,i2,i3,i4,i5⟩
    obtain ⟨kk,hkk,kk0,kk1⟩:∃ kk:Int,(st:Int) + (i:Int) * 2 = kk ∧ 0 ≤ kk ∧ kk ≤ 100:=⟨_,rfl,by omega,by omega⟩
    rw [hkk]
    clear hkk
    walk_at "s"
    refine ⟨ns,kk,rfl,by omega,by omega,?_⟩
    have bc:=ys2 hbits (k:=kk) (by omega) (by omega)
    obtain ⟨ce,hce⟩:∃ ce:Int,zo6 ns kk = ce:=⟨_,rfl⟩
    rw [hce] at bc ⊢
    walk_at "s"
    refine ⟨ns,kk + 1,rfl,by omega,by omega,?_⟩
    obtain ⟨ot,hot⟩:∃ ot:Int,zo6 ns (kk + 1) = ot:=⟨_,rfl⟩
    rw [hot]
    walk_at "s"
    obtain ⟨pp,hpp,pp1,pp2⟩:∃ pp:Int,p + 1 + ot % 3 = pp ∧ p < pp ∧ pp.natAbs ≤ 10 + 3 * (i + 1):=⟨_,rfl,by omega,by omega⟩
    rw [hpp]
    walk_at "s"
    refine ⟨_,_,rfl,by omega,zr1 (n:=30) (by omega) (by decide +kernel),?_⟩
    walk_at "d"
    refine yr8 (fun δ=>∃ h:Rat,δ = [some (.dat (.list (ns.map .int))),some (.dat (.int (st:Int))),some (.dat (.int (most:Int))),some (.own (ms.map mk3)),some (.dat (.int pp)),some (.dat (.int kk)),some (.dat (.int ce)),some (.dat (.int ot)),some (.dat (fr h))] ∧ Cm LL (10 ^ 6) h) ?_ ?_
    · walk_at "d"
      refine ⟨ns,2,rfl,by decide,by decide,?_⟩
      walk_at "d"
      rw [hc2]
      refine ite2 (fun _=>?_) (fun _=>?_)
      · refine ⟨yq5 (Nat.le_trans bc.bits (by decide)) (wee (by decide +kernel)),_,_,rfl,by omega,zr1 (n:=30) (by omega) (by decide +kernel),?_⟩
        walk_at "d"
        refine ⟨_,rfl,cmLL (by omega) (by omega) ?_⟩
        generalize ce * 48271 = z
        omega
      · exact ⟨_,rfl,cmLL (by omega) (by omega) (by omega)⟩
    · rintro δ ⟨h,rfl,hh⟩
      obtain ⟨bt,hbt,bt1,bt2⟩:∃ bt:Int,1 + c1 / 21 % 2 = bt ∧ 1 ≤ bt ∧ bt ≤ 2:=⟨_,rfl,by omega,by omega⟩
      obtain ⟨wt,hwt,wt1,wt2⟩:∃ wt:Int,1 + ot / 3 % 4 = wt ∧ 1 ≤ wt ∧ wt ≤ 4:=⟨_,rfl,by omega,by omega⟩
      rw [hbt] at i5 ⊢
      walk_at "d"
      refine ⟨ns,1,rfl,by decide,by decide,?_⟩
      rw [hc1]
      walk_at "d"
      rw [hbt]
      refine ⟨_,_,rfl,bt1,zr1 (n:=30) (by omega) (by decide +kernel),?_⟩
      walk_at "d"
      rw [hwt]
      refine ⟨by rw [hml]; omega,ms ++ [(Rat.divInt pp bt,h,wt)],pp,_,_,_,_,by rw [List.map_append]; rfl,by rw [List.length_append,hml]; rfl,pp2,fun m hm=>?_,fun m hm=>?_,?_,fun m hm=>?_,fun m hm=>?_⟩
      · rcases List.mem_append.mp hm with z | z
        · exact i1 m z
        · rw [List.mem_singleton.mp z]; exact hh
      · rcases List.mem_append.mp hm with z | z
        · exact i2 m z
        · rw [List.mem_singleton.mp z]; exact ⟨wt1,wt2⟩
      · refine List.pairwise_append.mpr ⟨i3,List.pairwise_singleton _ _,fun a ha b hb=>?_⟩
        obtain ⟨s,hs,e⟩:=i5 a ha
        rw [List.mem_singleton.mp hb]
        show a.1 < Rat.divInt pp bt
        rw [e]
        exact wp1 (by omega) (by omega)
      · rcases List.mem_append.mp hm with z | z
        · exact i4 m z
        · rw [List.mem_singleton.mp z]; exact xc0 bt1 bt2 (by omega)
      · rcases List.mem_append.mp hm with z | z
        · obtain ⟨s,hs,e⟩:=i5 m z
          exact ⟨s,by omega,e⟩
        · rw [List.mem_singleton.mp z]; exact ⟨pp,by omega,rfl⟩
  · rintro δ ⟨ms,p,s5,s6,s7,s8,rfl,hml,hp,i1,i2,i3,i4,i5⟩
    walk_at "d"
    exact k ms ⟨by omega,by omega,i1,i2,i3,i4⟩
end
noncomputable def cntR:List Rat → Nat
  | a :: b :: r=>(if b = a then 0 else 1) + cntR (b :: r)
  | _=>0
theorem zs6 (a b:Rat):∀ l:List Rat,cntR (l ++ [a,b]) = cntR (l ++ [a]) + (if b = a then 0 else 1)
  | []=>by simp [cntR]
  | [c]=>by simp [cntR]
  | c :: d :: l=>by
    have ih:=zs6 a b (d :: l)
    simp only [List.cons_append,cntR] at ih ⊢
    omega
theorem xd3 {qs:List Rat} {i:Nat} (h:i + 1 < qs.length):cntR (qs.take (i + 2)) = cntR (qs.take (i + 1)) + (if qs.getD (i + 1) 0 = qs.getD i 0 then 0 else 1):=by
  have h1:qs[i]? = some (qs.getD i 0):=by rw [List.getElem?_eq_getElem (show i < qs.length by omega)]; simp [List.getD,show i < qs.length by omega]
  have h2:qs[i + 1]? = some (qs.getD (i + 1) 0):=by rw [List.getElem?_eq_getElem h]; simp [List.getD,h]
  rw [zn1 (i:=i + 1) h2,zn1 h1,List.append_assoc]
  exact zs6 _ _ _
theorem wo1 {j:Nat} {x:Rat} {r:List Rat} (h:FwL j x r):cntR r ≤ j ∧ r.getLast? = some x:=by
  induction h with
  | one j x=>exact ⟨Nat.zero_le _,rfl⟩
  | @same j x r h ih =>
    obtain ⟨h1,h2⟩:=ih
    obtain ⟨l,rfl⟩:∃ l,r = l ++ [x]:=by
      obtain ⟨l,e⟩:=List.getLast?_eq_some_iff.mp h2
      exact ⟨l,e⟩
    refine ⟨?_,by simp⟩
    rw [List.append_assoc]
    show cntR (l ++ [x,x]) ≤ j
    rw [zs6,if_pos rfl]
    exact h1
  | @step j x y r h ih =>
    obtain ⟨h1,h2⟩:=ih
    obtain ⟨l,rfl⟩:∃ l,r = l ++ [y]:=by
      obtain ⟨l,e⟩:=List.getLast?_eq_some_iff.mp h2
      exact ⟨l,e⟩
    refine ⟨?_,by simp⟩
    rw [List.append_assoc]
    show cntR (l ++ [y,x]) ≤ j + 1
    rw [zs6]
    split <;> omega
section
variable {P:Program} {w:World} {K:PySem.W.Frag} {mg:Str → Option Value} {base:Heap} {A:Adr}
noncomputable def xq9:DW:=fun ds Q _=>∃ qs:List Rat,ds = [.list (qs.map fr)] ∧ 1 ≤ qs.length ∧ qs.length ≤ 60 ∧ Q (.dat (.int (cntR qs:Int)))
theorem wl3 (T:Txt K mg A):FnOk P w K mg base (CXE P w) 1 A.a_qa2 A.d_qa2 ["row"] (spW K xq9):=by
  refine okW T.F_qa2 sc_qa2 (fun ds Q E h=>?_) (fun cdv Ar outer s H E hr=>?_)
  · obtain ⟨_,rfl,_⟩:=h; rfl
  refine ⟨_,(za5 (zc1 (i:=1) sc_qa2.nd rfl (Or.inl rfl) za6)
      (za5 (zn3 PassesOwn.leaving rfl (yh1 rfl T.n_range (za0 za6 (za0 (zc7 (lenK (K:=K) rfl) rfl T.n_len PySem.boot_len (za0 (pv 0) za4)) za4))) (zd5 (i:=2) sc_qa2.nd rfl (Or.inl rfl))
        (za8 (zc1 (i:=1) sc_qa2.nd rfl (Or.inl rfl) (zc4 zg8 (pv 1) (zf3 yk0 rfl T.n_int bt_int (za0 (zp5 (neK (K:=K) rfl hr.units) (zc2 (ixlK (K:=K) rfl) (pv 0) (pv 2) (fun _ _=>rfl)) (zc2 (ixlK (K:=K) rfl) (pv 0) (zc4 zp6 (pv 2) za6) (fun _ _=>rfl)) (zc9 _)) za4))))))
      (za8 (zc5 (pv 1))))),_,(zb2 (zd2 zb3 (zb0 1))
      (zb2 (zn2 (xa4 (za2 (za1 zb3) (za2 (za1 (ze8 zf9 (za2 (za3 0) za7))) za7))) (zb0 2)
        (zd2 (zb6 zh5 (za3 1) (za1 (ze8 xm3 (za2 (za1 (zb6 zw6 (za1 (ze5 (zd3 0) (za3 2))) (za1 (ze5 (zd3 0) (za1 (zb6 zh5 (za3 2) (za1 zb3))))))) za7)))) (zb0 1)))
      (zi7 1))),?_⟩
  rintro ds Q X ⟨qs,rfl,h1,h60,k⟩
  walk_at "s"
  refine zj6 (ye3 (lo:=1) (st:=1) (n:=qs.length - 1) (fun Q h=>by
      walk_at "d"
      have e:((qs.length:Int) - 1).toNat = qs.length - 1:=by omega
      rw [e]
      exact ⟨by omega,h⟩)
    (fun i δ=>∃ s2:Option Sl,δ = [some (.dat (.list (qs.map fr))),some (.dat (.int (cntR (qs.take (i + 1)):Int))),s2]) ⟨none,?_⟩ ?_ ?_)
  · have:cntR (qs.take (0 + 1)) = 0:=by
      match qs,h1 with
      | a :: r,_=>rfl
    rw [this]; rfl
  · rintro i δ hi ⟨s2,rfl⟩
    rw [show (1:Int) + (i:Int) * 1 = ((i + 1:Nat):Int) by omega]
    have e:=xd3 (qs:=qs) (i:=i) (by omega)
    walk_at "d"
    refine ⟨_,yk5 (j:=i + 1) rfl (by omega),_,yk5 (j:=i) (by omega) (by omega),Rat,eRat,_,_,rfl,rfl,fun b hb=>?_⟩
    cases b with
    | true =>
      rw [if_pos (hb.mp rfl)] at e
      rw [show i + 1 + 1 = i + 2 from rfl,e]
      walk_at "d"
      exact ⟨_,rfl⟩
    | false =>
      rw [if_neg (fun z=>absurd (hb.mpr z) (by decide))] at e
      rw [show i + 1 + 1 = i + 2 from rfl,e]
      walk_at "d"
      exact ⟨_,rfl⟩
  · rintro δ ⟨s2,rfl⟩
    walk_at "d"
    rw [List.take_of_length_le (by omega)]
    exact k
end
theorem xz5 {a b:Rat} (ha:Cm LL (10 ^ 6) a) (hb:Cm LL (10 ^ 6) b):Ro (Rat.divInt (a.num * (b.den:Int) + b.num * (a.den:Int)) (2 * (a.den:Int) * (b.den:Int))):=by
  have e:Rat.divInt (a.num * (b.den:Int) + b.num * (a.den:Int)) (2 * (a.den:Int) * (b.den:Int)) = Rat.divInt 1 2 * (a + b):=by
    have pa:=dpos a
    have pb:=dpos b
    have ha:=zr8 a
    have hb:=zr8 b
    refine (Fm.eq_divInt (Int.mul_ne_zero (by omega) (by omega)) ?_).symm
    rw [dv_q,Rat.intCast_mul,Rat.intCast_mul,Rat.intCast_add,Rat.intCast_mul,Rat.intCast_mul,← ha,← hb]
    show (1:Rat) / 2 * (a + b) * (2 * (a.den:Rat) * (b.den:Rat)) = a * (a.den:Rat) * (b.den:Rat) + b * (b.den:Rat) * (a.den:Rat)
    grind
  rw [e]
  have c1:Cm 2 1 (Rat.divInt 1 2):=Cm.div (t:=1) (b:=2) (by decide) (Nat.dvd_refl _) (by decide)
  have h2:Cm (2 * LL) (1 * (10 ^ 6 + 10 ^ 6)) (Rat.divInt 1 2 * (a + b)):=c1.mul (ha.add hb)
  refine ⟨Nat.dvd_trans h2.d (by decide +kernel),?_,?_⟩
  · have h3:=ha.lo
    have h4:=hb.lo
    have e2:Rat.divInt 1 2 = 1 / 2:=by rw [dv_q]; rfl
    rw [e2]
    grind
  · have h3:=ha.hi
    have h4:=hb.hi
    have e2:Rat.divInt 1 2 = 1 / 2:=by rw [dv_q]; rfl
    rw [e2]
    grind
theorem xk3 {a:Rat} (h:Cm LL (10 ^ 6) a):Ro a:=h.mono wr5 (Nat.le_refl _)
section
variable {P:Program} {w:World} {K:PySem.W.Frag} {mg:Str → Option Value} {base:Heap} {A:Adr}
noncomputable def wd6:DW:=fun ds Q _=>∃ a b:Rat,ds = [fr a,fr b] ∧ Cm LL (10 ^ 6) a ∧ Cm LL (10 ^ 6) b ∧ ∀ q:Rat,Ro q → Q (.dat (fr q))
theorem wl1 (T:Txt K mg A):FnOk P w K mg base (CXE P w) 2 A.a_qb2 A.d_qb2 ["one","other"] (spW K wd6):=by
  have G_qq1:=ya3 (P:=P) (w:=w) (base:=base) T
  refine okW T.F_qb2 wh2 (fun ds Q E h=>?_) (fun cdv Ar outer s H E hr=>?_)
  · obtain ⟨_,_,rfl,_⟩:=h; rfl
  refine ⟨_,(za8 (zc5 (za9 G_qq1 (hr.mono (by decide)) rfl T.m_qq1 T.F_qq1.kp T.b_qq1 .nil zb7 (za0 (zc4 zg8 (zc4 ze4 (zc2 (ixtK (K:=K) rfl) (pv 0) za6 (fun _ _=>rfl)) (zc2 (ixtK (K:=K) rfl) (pv 1) za6 (fun _ _=>rfl))) (zc4 ze4 (zc2 (ixtK (K:=K) rfl) (pv 1) za6 (fun _ _=>rfl)) (zc2 (ixtK (K:=K) rfl) (pv 0) za6 (fun _ _=>rfl)))) (za0 (zc4 ze4 (zc4 ze4 za6 (zc2 (ixtK (K:=K) rfl) (pv 0) za6 (fun _ _=>rfl))) (zc2 (ixtK (K:=K) rfl) (pv 1) za6 (fun _ _=>rfl))) za4))))),_,(zd6 (za1 (zb1 (za2 (za1 (zb6 zh5 (za1 (zb6 ro_i (za1 (zc3 0 (zb5 0))) (za1 (zc3 1 (zb5 1))))) (za1 (zb6 ro_i (za1 (zc3 0 (zb5 1))) (za1 (zc3 1 (zb5 0))))))) (za2 (za1 (zb6 ro_i (za1 (zb6 ro_i (za1 zb3) (za1 (zc3 1 (zb5 0))))) (za1 (zc3 1 (zb5 1))))) za7))))),?_⟩
  rintro ds Q X ⟨a,b,rfl,ha,hb,k⟩
  have da:=(Ro.dg (xk3 ha))
  have db:=(Ro.dg (xk3 hb))
  have oa:Ok a:=dgOk da (by decide)
  have ob:Ok b:=dgOk db (by decide)
  have pa:=dpos a
  have pb:=dpos b
  have hd1:=da.d
  have hd2:=db.d
  have p2:(2 * (a.den:Int)).natAbs ≤ 10 ^ 37:=by
    have:(10:Nat) ^ 37 = 10 ^ 36 * 10:=rfl
    omega
  have p3:(2 * (a.den:Int) * (b.den:Int)).natAbs ≤ 10 ^ (37 + 36):=by
    rw [Int.natAbs_mul,Nat.pow_add]
    exact Nat.mul_le_mul p2 (by omega)
  walk_at "d"
  refine ⟨zh9 oa.n ob.d,zh9 ob.n oa.d,zh9 (wee (by decide +kernel)) oa.d,zh9 (zo3 p2 (by decide)) ob.d,_,_,rfl,Int.mul_pos (Int.mul_pos (by decide) pa) pb,zo3 p3 (by decide),?_⟩
  walk_at "d"
  exact k _ (xz5 ha hb)
noncomputable def xf1:DW:=fun ds Q _=>∃ (n:Int) (ms:List Mk),ds = [.int n,.list (ms.map mk3)] ∧ ms ≠ [] ∧ ms.length ≤ 10 ∧ (∀ m ∈ ms,Cm LL (10 ^ 6) m.2.1) ∧ ∀ q:Rat,Ro q → Q (.dat (fr q))
theorem wl0 (T:Txt K mg A):FnOk P w K mg base (CXE P w) 3 A.a_qc2 A.d_qc2 ["number","some"] (spW K xf1):=by
  have G_qq1:=ya3 (P:=P) (w:=w) (base:=base) T
  have G_qb2:=wl1 (P:=P) (w:=w) (base:=base) T
  refine okW T.F_qc2 sc_qc2 (fun ds Q E h=>?_) (fun cdv Ar outer s H E hr=>?_)
  · obtain ⟨_,_,rfl,_⟩:=h; rfl
  refine ⟨_,(za5 (zc1 (i:=2) sc_qc2.nd rfl (Or.inl rfl) (zc2 (ixtK (K:=K) rfl) (zc2 (ixlK (K:=K) rfl) (pv 1) (zc4 zi3 (pv 0) (zc7 (lenK (K:=K) rfl) rfl T.n_len PySem.boot_len (za0 (pv 1) za4))) (fun _ _=>rfl)) za6 (fun _ _=>rfl)))
      (za5 (ze6 (zb9 zh0 (zc4 zi3 (zc4 zg2 (pv 0) za6) za6) za6 (zc9 _)) (za8 (zc5 (pv 2))) zc6)
      (za5 (ze6 (zb9 zh0 (zc4 zi3 (zc4 zg2 (pv 0) za6) za6) za6 (zc9 _)) (za8 (zc5 (za9 G_qb2 (hr.mono (by decide)) rfl T.m_qb2 T.F_qb2.kp T.b_qb2 .nil zb7 (za0 (pv 2) (za0 (zc2 (ixtK (K:=K) rfl) (zc2 (ixlK (K:=K) rfl) (pv 1) (zc4 zi3 (zc4 zg2 (pv 0) za6) (zc7 (lenK (K:=K) rfl) rfl T.n_len PySem.boot_len (za0 (pv 1) za4))) (fun _ _=>rfl)) za6 (fun _ _=>rfl)) za4))))) zc6)
      (za8 (zc5 (za9 G_qq1 (hr.mono (by decide)) rfl T.m_qq1 T.F_qq1.kp T.b_qq1 .nil zb7 (za0 (zc4 zp6 (zc4 zi3 (zc4 zg2 (pv 0) za6) za6) za6) (za0 za6 za4)))))))),_,(zb2 (zd2 (zc3 1 (ze5 (zd3 1) (za1 (zb6 ro_i (za3 0) (za1 (ze8 zf9 (za2 (za3 1) za7))))))) (zb0 2))
      (zb2 (ze9 (zc0 (za1 (zb6 zg9 (za1 (zk4 (k:=3) (by decide) (za1 (zq1 (k:=7) (cdiv (by decide +kernel)) (za3 0) zb3)) zb3)) (za1 zb3)))) (zi7 2) zc8)
      (zb2 (ze9 (zc0 (za1 (zb6 zg9 (za1 (zk4 (k:=3) (by decide) (za1 (zq1 (k:=7) (cdiv (by decide +kernel)) (za3 0) zb3)) zb3)) (za1 zb3)))) (zd6 (za1 (zb1 (za2 (za3 2) (za2 (za1 (zc3 1 (ze5 (zd3 1) (za1 (zb6 ro_i (za1 (zq1 (k:=21) (cdiv (by decide +kernel)) (za3 0) zb3)) (za1 (ze8 zf9 (za2 (za3 1) za7)))))))) za7))))) zc8)
      (zd6 (za1 (zb1 (za2 (za1 (zb6 zh5 (za1 (zk4 (k:=27) (by decide) (za1 (zq1 (k:=21) (cdiv (by decide +kernel)) (za3 0) zb3)) zb3)) (za1 zb3))) (za2 (za1 zb3) za7)))))))),?_⟩
  rintro ds Q X ⟨n,ms,rfl,hne,hl,hc,k⟩
  have lp:(0:Int) < (ms.length:Int):=by have:=List.length_pos_iff.mpr hne; omega
  have at1:∀ j:Int,∃ m:Mk,atI (ms.map mk3) (j % (ms.length:Int)) = some (mk3 m) ∧ Cm LL (10 ^ 6) m.2.1:=fun j=>by
    have h0:=Int.emod_nonneg j (show (ms.length:Int) ≠ 0 by omega)
    have h1:=Int.emod_lt_of_pos j lp
    obtain ⟨i,hi⟩:∃ i:Nat,j % (ms.length:Int) = (i:Int):=⟨(j % (ms.length:Int)).toNat,by omega⟩
    have hi2:i < ms.length:=by omega
    exact ⟨ms[i],by rw [hi]; exact zk9 (by rw [List.getElem?_map,List.getElem?_eq_getElem hi2]; rfl),hc _ (List.getElem_mem hi2)⟩
  obtain ⟨m1,hm1,z1⟩:=at1 n
  obtain ⟨m2,hm2,z2⟩:=at1 (n / 21)
  unfold mk3 at hm1 hm2
  walk_at "s"
  refine ⟨lp,_,hm1,?_⟩
  walk_at "d"
  walk_at "s"
  refine ite2 (fun _=>?_) (fun _=>?_)
  · exact k _ (xk3 z1)
  walk_at "s"
  refine ite2 (fun _=>?_) (fun _=>?_)
  · refine ⟨lp,_,hm2,?_⟩
    walk_at "d"
    refine ⟨_,_,rfl,z1,z2,fun q hq=>?_⟩
    walk_at "d"
    exact k q hq
  walk_at "d"
  refine ⟨_,_,rfl,by decide,wee (by decide +kernel),?_⟩
  walk_at "d"
  exact k _ (xk3 (cmLL (by decide) (by decide) (by omega)))
noncomputable def xr0:DW:=fun ds Q _=>∃ (c:Int) (ms:List Mk) (k:Nat),ds = [.int c,.list (ms.map mk3),.int (k:Int)] ∧ Bg 1048577 c ∧ ms ≠ [] ∧ ms.length ≤ 10 ∧ (∀ m ∈ ms,Cm LL (10 ^ 6) m.2.1) ∧ k ≤ 59 ∧
  ∀ (row:List Rat) (x:Rat),row.length = ms.length → FwL k x row → (∀ q ∈ row,Ro q) → Q (.own (row.map fr))
theorem wk8 (T:Txt K mg A):FnOk P w K mg base (CXE P w) 4 A.a_qd2 A.d_qd2 ["cell","some","k"] (spW K xr0):=by
  have G_qc2:=wl0 (P:=P) (w:=w) (base:=base) T
  refine okW T.F_qd2 sc_qd2 (fun ds Q E h=>?_) (fun cdv Ar outer s H E hr=>?_)
  · obtain ⟨_,_,_,rfl,_⟩:=h; rfl
  refine ⟨_,(za5 (zc1 (i:=3) sc_qd2.nd rfl (Or.inl rfl) (zc4 zi3 (zc4 ze4 (pv 0) za6) za6))
      (za5 (zc1 (i:=4) sc_qd2.nd rfl (Or.inl rfl) (za9 G_qc2 (hr.mono (by decide)) rfl T.m_qc2 T.F_qc2.kp T.b_qc2 .nil zb7 (za0 (pv 3) (za0 (pv 1) za4))))
      (za5 (zc1 (i:=5) sc_qd2.nd rfl (Or.inl rfl) (pv 2))
      (za5 (zc1 (i:=6) sc_qd2.nd rfl (Or.inl rfl) (zi1 za4))
      (za5 (zn3 PassesOwn.leaving rfl (pilK (K:=K) rfl (pv 1)) (zd5 (i:=7) sc_qd2.nd rfl (Or.inl rfl))
        (za5 (zc1 (i:=3) sc_qd2.nd rfl (Or.inl rfl) (zc4 zi3 (zc4 ze4 (pv 3) za6) za6))
      (za5 (ze6 (PW.pt (yp9 (zb9 (neK (K:=K) rfl hr.units) (pv 6) (zi1 za4) (zc9 _)) (yp9 (zb9 zx0 (pv 5) za6 (zc9 _)) (yl6 (zb9 zu3 (zc4 zi3 (pv 3) za6) za6 (zc9 _)))))) (za5 (zc1 (i:=4) sc_qd2.nd rfl (Or.inl rfl) (za9 G_qc2 (hr.mono (by decide)) rfl T.m_qc2 T.F_qc2.kp T.b_qc2 .nil zb7 (za0 (zc4 zg2 (pv 3) za6) (za0 (pv 1) za4))))
      (za8 (zc1 (i:=5) sc_qd2.nd rfl (Or.inl rfl) (zc4 zp6 (pv 5) za6)))) zc6)
      (za8 (zj2 (zo4 PySem.F.plainAttrs_list PySem.F.slot_list_append PySem.F.type_list_append zp8 (pv 6) (za0 (pv 4) za4)))))))
      (za8 (zc5 (pv 6)))))))),_,(zb2 (zd2 (zk4 (k:=2147483647) (by decide) (za1 (zb6 ro_i (za3 0) (za1 zb3))) zb3) (zb0 3))
      (zb2 (zd2 (zb1 (za2 (za3 3) (za2 (za3 1) za7))) (zb0 4))
      (zb2 (zd2 (zb5 2) (zb0 5))
      (zb2 (zf5 6 (zi2 zd7 (by decide)))
      (zb2 (zn2 (zx8 (zb5 1)) (zb0 7)
        (zb2 (zd2 (zk4 (k:=2147483647) (by decide) (za1 (zb6 ro_i (za3 3) (za1 zb3))) zb3) (zb0 3))
      (yp1 (ze9 (yo3 (zc0 (za1 (zb6 zw6 (za3 6) (za1 (zj5 (zi2 zd7 (by decide))))))) (yo3 (zc0 (za1 (zb6 zl7 (za3 5) (za1 zb3)))) (zc0 (za1 (zb6 zl7 (za1 (zk4 (k:=5) (by decide) (za3 3) zb3)) (za1 zb3)))))) (zb2 (zd2 (zb1 (za2 (za1 (zq1 (k:=5) (cdiv (by decide +kernel)) (za3 3) zb3)) (za2 (za3 1) za7))) (zb0 4))
      (zd2 (zb6 zh5 (za3 5) (za1 zb3)) (zb0 5))) zc8)
      (yp2 6 (zb5 4)))))
      (zi7 6)))))),?_⟩
  rintro ds Q X ⟨c,ms,k,rfl,hb,hne,hl,hc,k59,kq⟩
  walk_at "s"
  refine ⟨yq5 (Nat.le_trans hb.bits (by decide)) (wee (by decide +kernel)),?_⟩
  obtain ⟨n,hn,n0,n1⟩:∃ n:Int,c * 39373 % 2147483647 = n ∧ 0 ≤ n ∧ n < 2147483647:=⟨_,rfl,by generalize c * 39373 = z; omega,by generalize c * 39373 = z; omega⟩
  rw [hn]
  walk_at "s"
  refine ⟨n,ms,rfl,hne,hl,hc,fun h0 hd0=>?_⟩
  walk_at "d"
  walk_at "s"
  walk_at "s"
  refine zj6 (zo0 mk3 ms (fun Q h=>by
      walk_at "d"
      exact h)
    (fun i δ=>∃ (n':Int) (row:List Rat) (h:Rat) (l:Nat) (s7:Option Sl),δ = [some (.dat (.int c)),some (.dat (.list (ms.map mk3))),some (.dat (.int (k:Int))),some (.dat (.int n')),some (.dat (fr h)),some (.dat (.int (l:Int))),some (.own (row.map fr)),s7] ∧ 0 ≤ n' ∧ n' < 2147483647 ∧ row.length = i ∧ l ≤ k ∧ Ro h ∧ (∀ q ∈ row,Ro q) ∧ (0 < i → FwL (k - l) h row))
    ⟨n,[],h0,k,none,rfl,n0,n1,rfl,Nat.le_refl _,hd0,(fun q hq=>nomatch hq),fun z=>absurd z (by decide)⟩ ?_ ?_)
  · rintro i m δ him ⟨n',row,h,l,s7,rfl,m0,m1,rl,lk,hd,hrow,hf⟩
    have il:i < ms.length:=(List.getElem?_eq_some_iff.mp him).1
    walk_at "s"
    refine ⟨zh9 (zr1 (n:=10 ^ 10) (by omega) (by decide +kernel)) (wee (by decide +kernel)),?_⟩
    obtain ⟨nn,hnn⟩:∃ nn:Int,n' * 16807 % 2147483647 = nn:=⟨_,rfl⟩
    have q0:0 ≤ nn:=by omega
    have q1:nn < 2147483647:=by omega
    rw [hnn]
    refine yr8 (fun δ=>∃ (h':Rat) (l':Nat),δ = [some (.dat (.int c)),some (.dat (.list (ms.map mk3))),some (.dat (.int (k:Int))),some (.dat (.int nn)),some (.dat (fr h')),some (.dat (.int (l':Int))),some (.own (row.map fr)),some (.dat (mk3 m))] ∧ l' ≤ k ∧ Ro h' ∧ FwL (k - l') h' (row ++ [h'])) ?_ ?_
    · have stay:FwL (k - l) h (row ++ [h]):=by
        by_cases i0:i = 0
        · have:row = []:=List.length_eq_zero_iff.mp (by omega)
          rw [this]
          exact .one _ _
        · exact .same (hf (by omega))
      walk_at "d"
      refine ⟨List Rat,ym8 eRat (by decide),row,[],rfl,rfl,fun b hbb=>?_⟩
      cases b with
      | true=>exact ⟨h,l,rfl,lk,hd,stay⟩
      | false =>
        have i0:0 < i:=by
          cases row with
          | nil=>exact absurd (hbb.mpr rfl) (by decide)
          | cons a r=>rw [← rl]; simp
        walk_at "d"
        refine ite2 (fun c2=>ite2 (fun c3=>?_) (fun _=>?_)) (fun _=>?_)
        · walk_at "s"
          refine ⟨nn / 5,ms,rfl,hne,hl,hc,fun h2 hd2=>?_⟩
          walk_at "d"
          refine ⟨h2,l - 1,?_,by omega,hd2,?_⟩
          · rw [show ((l - 1:Nat):Int) = (l:Int) - 1 by omega]
          · rw [show k - (l - 1) = k - l + 1 by omega]
            exact .step (hf i0)
        · exact ⟨h,l,rfl,lk,hd,stay⟩
        · exact ⟨h,l,rfl,lk,hd,stay⟩
    · rintro δ ⟨h',l',rfl,lk',hd',hf'⟩
      walk_at "d"
      refine ⟨by rw [rl]; omega,nn,row ++ [h'],h',l',_,by rw [List.map_append]; rfl,q0,q1,by rw [List.length_append,rl]; rfl,lk',hd',fun q hq=>?_,fun _=>hf'⟩
      rcases List.mem_append.mp hq with z | z
      · exact hrow q z
      · rw [List.mem_singleton.mp z]; exact hd'
  · rintro δ ⟨n',row,h,l,s7,rfl,m0,m1,rl,lk,hd,hrow,hf⟩
    walk_at "d"
    have lp:=List.length_pos_iff.mpr hne
    have:=(hf (by omega)).up l
    rw [show k - l + l = k by omega] at this
    exact kq row h rl this hrow
end
noncomputable def optR:Option Rat → PyData
  | none=>.none
  | some q=>fr q
noncomputable def eOR:Enc (Option Rat) where
  d:=optR
  dep:=eRat.dep
  small:=eRat.small
  lay:=fun p=>by
    cases p with
    | none=>rfl
    | some m=>exact eRat.lay m
  depth:=fun p=>by
    cases p with
    | none=>exact Nat.zero_le _
    | some m=>exact eRat.depth m
  eqv:=fun p q=>by
    cases p with
    | none =>
      cases q with
      | none=>exact ⟨fun _=>rfl,fun _=>rfl⟩
      | some m=>exact ⟨fun h=>(by cases h),fun h=>(by cases h)⟩
    | some m =>
      cases q with
      | none=>exact ⟨fun h=>(by cases h),fun h=>(by cases h)⟩
      | some m'=>exact (eRat.eqv m m').trans ⟨fun h=>congrArg some h,fun h=>by injection h⟩
theorem xn8 {qs:List Rat} {Q:PyData → Prop} (h:Q (.bool false)):oInD .none (.list (qs.map fr)) Q:=⟨Option Rat,eOR,none,qs.map some,rfl,by rw [List.map_map]; rfl,fun b hb=>by
  cases b with
  | false=>exact h
  | true =>
    obtain ⟨q,_,e⟩:=List.mem_map.mp (hb.mp rfl)
    cases e⟩
theorem xk9 {a b ab:Str} {ws:List Str} (e:ab.cps.toList = a.cps.toList ++ [32] ++ (b.cps.toList ++ [32])) (h:ws ≠ []):ab ++ Txt.join (Str.ofString " ") ws = Txt.join (Str.ofString " ") (a :: b :: ws):=by
  apply zk5
  cases ws with
  | nil=>exact absurd rfl h
  | cons w r =>
    rw [zh4,zk3,zk3,zl4,e]
    simp only [List.map_cons,zm0,List.append_assoc]
theorem yo2 {a b ab c:Str} {ws:List Str} (e:ab.cps.toList = a.cps.toList ++ [32] ++ (b.cps.toList ++ [32])) (h:ws ≠ []):ab ++ c ++ Str.ofString " " ++ Txt.join (Str.ofString " ") ws = Txt.join (Str.ofString " ") (a :: b :: c :: ws):=by
  rw [← xk9 e (by simp)]
  apply zk5
  cases ws with
  | nil=>exact absurd rfl h
  | cons w r =>
    rw [zh4,zh4,zh4,zh4,zk3,zk3,zl4]
    simp only [List.map_cons,zm0,List.append_assoc]
theorem xl0 (x:Str):Txt.join (Str.ofString " ") [x] = x:=by
  apply zk5
  rw [zk3]; rfl
theorem xs3 (q:Rat):shP [[q]] = shQ q:=by
  apply zk5
  unfold shP shL
  rw [zk3]
  show (Txt.join (Str.ofString " ") [shQ q]).cps.toList = _
  rw [xl0]
theorem xa0 {kd:Str} (h:kd ∈ kdsL):32 ∉ kd.cps.toList ∧ kd.length ≤ 6:=by
  have h3:kd = "far" ∨ kd = "sum" ∨ kd = "square":=by simpa [kdsL] using h
  rcases h3 with rfl | rfl | rfl <;> exact ⟨by decide +kernel,by decide +kernel⟩
theorem xs4 {m:Mk} (h:Lw7 (m7 m)):32 ∉ (shMk m).cps.toList:=fun z=>by
  rcases wf4 h.sm 32 z with (y | y) | y | y | y <;> omega
theorem wl7 {n:Int} (h:n.natAbs < 10 ^ 40):32 ∉ (Str.ofString (toString n)).cps.toList:=fun z=>by
  rcases zx1 (k:=39) h 32 z with y | y <;> omega
theorem xy3:(Str.ofString "marks a ").cps.toList = (Str.ofString "marks").cps.toList ++ [32] ++ ((Str.ofString "a").cps.toList ++ [32]):=by decide +kernel
theorem xy9:(Str.ofString "judge a ").cps.toList = (Str.ofString "judge").cps.toList ++ [32] ++ ((Str.ofString "a").cps.toList ++ [32]):=by decide +kernel
theorem yb2 {ws:List Str} (hne:ws ≠ []) (h:∀ w ∈ ws,32 ∉ w.cps.toList):Txt.split (Txt.join (Str.ofString " ") ws) (Str.ofString " ") = ws:=zt0 yp6 (by rw [zl4]; decide) hne h
theorem xh7 {ms:List Mk} (hne:ms ≠ []) (h:∀ m ∈ ms,Lw7 (m7 m)):Txt.split (Str.ofString "marks a " ++ Txt.join (Str.ofString " ") (ms.map shMk)) (Str.ofString " ") = Str.ofString "marks" :: Str.ofString "a" :: ms.map shMk:=by
  rw [xk9 xy3 (by simpa using hne)]
  refine yb2 (by simp) fun w hw=>?_
  simp only [List.mem_cons] at hw
  rcases hw with rfl | rfl | hw
  · decide +kernel
  · decide +kernel
  · obtain ⟨m,hm,rfl⟩:=List.mem_map.mp hw
    exact xs4 (h m hm)
theorem xi2 {kd:Str} {qs:List Rat} (hk:kd ∈ kdsL) (hne:qs ≠ []) (h:∀ q ∈ qs,Dg 89 q):Txt.split (Str.ofString "judge a " ++ kd ++ Str.ofString " " ++ Txt.join (Str.ofString " ") (qs.map shQ)) (Str.ofString " ") = Str.ofString "judge" :: Str.ofString "a" :: kd :: qs.map shQ:=by
  rw [yo2 xy9 (by simpa using hne)]
  refine yb2 (by simp) fun w hw=>?_
  simp only [List.mem_cons] at hw
  rcases hw with rfl | rfl | rfl | hw
  · decide +kernel
  · decide +kernel
  · exact (xa0 hk).1
  · obtain ⟨q,hq,rfl⟩:=List.mem_map.mp hw
    exact yw6 (h q hq) (.inl rfl)
theorem xa1 {kd:Str} {qs:List Rat} (hk:kd ∈ kdsL) (hl:qs.length ≤ 60) (h:∀ q ∈ qs,Dg 89 q):(Str.ofString "judge a " ++ kd ++ Str.ofString " " ++ Txt.join (Str.ofString " ") (qs.map shQ)).length ≤ 90000:=by
  have h1:=yc4 h
  have h2:=(xa0 hk).2
  have h3:(Str.ofString "judge a ").length = 8:=by decide +kernel
  have h4:=zi5
  unfold shL at h1
  rw [PySem.Str.length_append,PySem.Str.length_append,PySem.Str.length_append]
  omega
theorem yz3 {ms:List Mk} (hl:ms.length ≤ 60) (h:∀ m ∈ ms,Lw7 (m7 m)):(Txt.join (Str.ofString " ") (ms.map shMk)).length ≤ 60000:=by
  have:=ym4 (Str.ofString " ") (ws:=ms.map shMk) (n:=259) fun w hw=>by
    obtain ⟨m,hm,rfl⟩:=List.mem_map.mp hw
    exact (yl2 (h m hm).sm).2
  rw [zi5,List.length_map] at this
  omega
theorem yt1 {kd:Str} {qs:List Rat} (h1:1 ≤ qs.length) (h:qs.length ≤ 60):yt3 (Str.ofString "judge" :: Str.ofString "a" :: kd :: qs.map shQ) :=
  ⟨_,_,4,63,rfl,by decide +kernel,by simp; omega,by simp; omega⟩
theorem xr7:(Str.ofString "steps a ").cps.toList = (Str.ofString "steps").cps.toList ++ [32] ++ ((Str.ofString "a").cps.toList ++ [32]):=by decide +kernel
theorem xg0 {kd:Str} {k:Nat} (hk:kd ∈ kdsL) (h:k ≤ 59):Txt.split (Str.ofString "steps a " ++ kd ++ Str.ofString " " ++ Str.ofString (toString (k:Int))) (Str.ofString " ") = [Str.ofString "steps",Str.ofString "a",kd,Str.ofString (toString (k:Int))]:=by
  have e:=yo2 (a:=Str.ofString "steps") (b:=Str.ofString "a") (c:=kd) (ws:=[Str.ofString (toString (k:Int))]) xr7 (by simp)
  rw [xl0] at e
  rw [e]
  refine yb2 (by simp) fun w hw=>?_
  simp only [List.mem_cons,List.not_mem_nil,or_false] at hw
  rcases hw with rfl | rfl | rfl | rfl
  · decide +kernel
  · decide +kernel
  · exact (xa0 hk).1
  · exact wl7 (by rw [Int.natAbs_natCast]; exact Nat.lt_of_le_of_lt h (by decide +kernel))
theorem yv9 {kd:Str} {k:Nat} (hk:kd ∈ kdsL) (h:k ≤ 59):(Str.ofString "steps a " ++ kd ++ Str.ofString " " ++ Str.ofString (toString (k:Int))).length ≤ 1000:=by
  have h2:=(xa0 hk).2
  have h3:(Str.ofString "steps a ").length = 8:=by decide +kernel
  have h4:=zi5
  have h5:=zn5 (n:=(k:Int)) (by rw [Int.natAbs_natCast]; exact Nat.lt_of_le_of_lt h (by decide +kernel))
  rw [PySem.Str.length_append,PySem.Str.length_append,PySem.Str.length_append]
  omega
theorem ys7 {kd n:Str}:yt3 [Str.ofString "steps",Str.ofString "a",kd,n]:=⟨_,_,4,4,rfl,by decide +kernel,by simp,by simp⟩
section
variable {P:Program} {w:World} {K:PySem.W.Frag} {mg:Str → Option Value} {base:Heap} {A:Adr}
theorem zw5 {kd:Str} {ms:List Mk} {k:Nat} {Q:Sl → Prop} {X:DX} (hk:kd ∈ kdsL) (M:MkT ms) (h:k ≤ 59)
    (kq:(∀ f l,f ≤ l → l < ms.length → ∃ x,LevelOk kd (zf0 ms f l) x) → ∀ row,Laid kd ms k (ms.length - 1) row → Q (.dat (.str (shP [[meas kd ms row],row])))) :
    wSay [(Str.ofString "a",.list (ms.map mk3))] [.str (Str.ofString "steps a " ++ kd ++ Str.ofString " " ++ Str.ofString (toString (k:Int)))] Q X :=
  ⟨_,Str.ofString "steps",Str.ofString "a",_,.list (ms.map mk3),rfl,Nat.le_trans (yv9 hk h) (by decide),xg0 hk h,ys7,rfl,rfl,by decide +kernel,by decide +kernel,by decide +kernel,by decide +kernel,by rw [List.lookup_cons,beq_self_eq_true],Str.ofString "a",kd,ms,_,rfl,hk,M,.inl ⟨k,rfl,h,fun hx row hL=>⟨rfl,kq hx row hL⟩⟩⟩
theorem yw7 {kd:Str} {ms:List Mk} {row:List Rat} {Q:Sl → Prop} {X:DX} (hk:kd ∈ kdsL) (M:MkT ms) (hl:row.length = ms.length) (hr:∀ q ∈ row,Ro q) (kq:Q (.dat (.str (shQ (meas kd ms row))))) :
    wSay [(Str.ofString "a",.list (ms.map mk3))] [.str (Str.ofString "judge a " ++ kd ++ Str.ofString " " ++ Txt.join (Str.ofString " ") (row.map shQ))] Q X:=by
  have n10:=M.n10
  have n1:=M.n1
  have h9:∀ q ∈ row,Dg 89 q:=fun q hq=>Ro.dg9 (hr q hq)
  exact ⟨_,Str.ofString "judge",Str.ofString "a",_,.list (ms.map mk3),rfl,xa1 hk (by omega) h9,xi2 hk (fun e=>by rw [e] at hl; simp at hl; omega) h9,yt1 (by omega) (by omega),rfl,rfl,by decide +kernel,by decide +kernel,by decide +kernel,by decide +kernel,by rw [List.lookup_cons,beq_self_eq_true],Str.ofString "a",kd,ms,_,rfl,hk,M,.inr ⟨row,rfl,hl,hr,rfl,kq⟩⟩
theorem xk0 {α:Type} (xs:List α) {i:Int} {n:Nat} (h:i = (n:Int)):cutL xs (some i) none = xs.drop n:=by rw [h]; exact yn2 xs n
theorem wq6 {α:Type} (xs:List α) {i:Int} {n:Nat} (h:i = (n:Int)):cutL xs none (some i) = xs.take n:=by rw [h]; exact wb1 xs n
theorem Cm.d20 {a:Rat} (h:Cm LL (10 ^ 6) a):Dg 20 a:=Fm.Cm.dg h xq3 (show LL ≤ 10 ^ 13 by decide +kernel) (Nat.le_refl (10 ^ 6))
theorem wk2 (T:Txt K mg A) (CT_COUNTS:yn8 w K A.g_COUNTS (zl3 A)):FnOk P w K mg base (CXE P w) 14 A.a_qi2 A.d_qi2 ["script"] (xg4 K):=by
  have G_qp1:=xn4 (P:=P) (w:=w) (base:=base) T
  have G_qz1:=wi9 (P:=P) (w:=w) (base:=base) T
  have G_qy1:=wj0 (P:=P) (w:=w) (base:=base) T
  have G_qx1:=xn2 (P:=P) (w:=w) (base:=base) T
  have G_qt1:=wj3 (P:=P) (w:=w) (base:=base) T
  have G_qw1:=wj1 (P:=P) (w:=w) (base:=base) T
  have G_qa2:=wl3 (P:=P) (w:=w) (base:=base) T
  have G_qd2:=wk8 (P:=P) (w:=w) (base:=base) T
  have G_qr1:=xn3 (P:=P) (w:=w) (base:=base) T
  have G_qe2:=wk7 (P:=P) (w:=w) (base:=base) T
  have G_Desk_sayM:=yh8 (P:=P) (w:=w) (base:=base) T CT_COUNTS
  have G_qf2:=yh7 (P:=P) (w:=w) (base:=base) T CT_COUNTS
  refine wm2 (okW T.F_qi2 sc_qi2 (fun ds Q E h=>?_) (fun cdv Ar outer s H E hr=>?_))
  · obtain ⟨a,rfl,_⟩:=h; rfl
  refine ⟨_,(za5 (zc1 (i:=1) sc_qi2.nd rfl (Or.inl rfl) (zc2 (ixlK (K:=K) rfl) (zi1 (za0 zd0 (za0 zd0 (za0 zd0 za4)))) (zc4 zi3 (za9 G_qp1 (hr.mono (by decide)) rfl T.m_qp1 T.F_qp1.kp T.b_qp1 .nil zb7 (za0 (pv 0) (za0 za6 za4))) za6) (fun _ _=>rfl)))
      (za5 (zc1 (i:=2) sc_qi2.nd rfl (Or.inl rfl) (zc4 zi3 (zc4 zg2 (za9 G_qp1 (hr.mono (by decide)) rfl T.m_qp1 T.F_qp1.kp T.b_qp1 .nil zb7 (za0 (pv 0) (za0 za6 za4))) za6) za6))
      (za5 (zc1 (i:=3) sc_qi2.nd rfl (Or.inl rfl) (za9 G_qz1 (hr.mono (by decide)) rfl T.m_qz1 T.F_qz1.kp T.b_qz1 .nil zb7 (za0 (pv 0) (za0 za6 (za0 za6 za4)))))
      (za5 (zc1 (i:=4) sc_qi2.nd rfl (Or.inl rfl) (zc4 zi3 (zc4 zg2 (za9 G_qp1 (hr.mono (by decide)) rfl T.m_qp1 T.F_qp1.kp T.b_qp1 .nil zb7 (za0 (pv 0) (za0 za6 za4))) za6) (zc7 (lenK (K:=K) rfl) rfl T.n_len PySem.boot_len (za0 (pv 3) za4))))
      (za5 (zc1 (i:=5) sc_qi2.nd rfl (Or.inl rfl) (xg8 T.mk_Desk G_qe2 (hr.mono (by decide)) rfl T.m_Desk T.b_qe2 .nil zb7))
      (za5 (ze6 (zb9 yh5 (zp4 (pv 5) T.cl_Desk T.M_qf2 G_Desk_sayM (hr.mono (by decide)) T.b_qf2 .nil zb7 (za0 (zc4 ze1 zd0 (zo4 PySem.F.plainAttrs_str PySem.F.slot_str_join PySem.F.type_str_join (zr9 (K:=K) rfl) zd0 (za0 (zm2 (cap:=[none]) (NC:=["mark"]) rfl ⟨rfl,rfl,by decide +kernel,by decide +kernel,trivial,(fun _ h=>nomatch h),rfl⟩ (pilK (K:=K) rfl (zc4 xn1 (zj3 (sllK (K:=K) rfl) (pv 3) (zj7 (pv 4)) zn9) (zj3 (sllK (K:=K) rfl) (pv 3) zn9 (zj7 (pv 4))))) (fun _ _ _ _=>(zd5 (i:=0) (show List.Nodup (["mark"]:List Str) by decide) rfl (Or.inl rfl))) (fun _ _ _ _=>zf7) (fun _ _ _ _=>(za9 G_qy1 (hr.mono (by decide)) rfl T.m_qy1 T.F_qy1.kp T.b_qy1 .nil zb7 (za0 (pv 0) za4)))) za4))) za4)) zd0 (zc9 _)) (za8 (zc5 yh3)) zc6)
      (za5 (zc1 (i:=6) sc_qi2.nd rfl (Or.inl rfl) (za9 G_qw1 (hr.mono (by decide)) rfl T.m_qw1 T.F_qw1.kp T.b_qw1 .nil zb7 (za0 (zp4 (pv 5) T.cl_Desk T.M_qf2 G_qf2 (hr.mono (by decide)) T.b_qf2 .nil zb7 (za0 (zc4 ze1 (zc4 ze1 (zc4 ze1 zd0 (pv 1)) zd0) (zf3 zf2 rfl T.n_str Dl.boot_str (za0 (pv 2) za4))) za4)) za4)))
      (za5 (ze6 (PW.pt (zn8 (zb9 yh5 (zc7 (lenK (K:=K) rfl) rfl T.n_len PySem.boot_len (za0 (pv 6) za4)) za6 (zc9 _)) (zn8 (zb9 yh5 (zc7 (lenK (K:=K) rfl) rfl T.n_len PySem.boot_len (za0 (zc2 (ixlK (K:=K) rfl) (pv 6) za6 (fun _ _=>rfl)) za4)) za6 (zc9 _)) (zn8 (zb9 yh5 (zc7 (lenK (K:=K) rfl) rfl T.n_len PySem.boot_len (za0 (zc2 (ixlK (K:=K) rfl) (pv 6) za6 (fun _ _=>rfl)) za4)) (zc7 (lenK (K:=K) rfl) rfl T.n_len PySem.boot_len (za0 (pv 3) za4)) (zc9 _)) (zm4 (zb9 (inK (K:=K) rfl hr.units) zp3 (zc4 (ww7 (K:=K) rfl) (zc2 (ixlK (K:=K) rfl) (pv 6) za6 (fun _ _=>rfl)) (zc2 (ixlK (K:=K) rfl) (pv 6) za6 (fun _ _=>rfl))) rfl)))))) (za8 (zc5 yh3)) zc6)
      (za5 (ze6 (PW.pt (zn8 (zb9 zx0 (za9 G_qa2 (hr.mono (by decide)) rfl T.m_qa2 T.F_qa2.kp T.b_qa2 .nil zb7 (za0 (zc2 (ixlK (K:=K) rfl) (pv 6) za6 (fun _ _=>rfl)) za4)) (pv 2) (zc9 _)) (zm4 (zb9 (neK (K:=K) rfl hr.units) (zc2 (ixlK (K:=K) rfl) (pv 6) za6 (fun _ _=>rfl)) (zi1 (za0 (za9 G_qt1 (hr.mono (by decide)) rfl T.m_qt1 T.F_qt1.kp T.b_qt1 .nil zb7 (za0 (pv 1) (za0 (pv 3) (za0 (zc2 (ixlK (K:=K) rfl) (pv 6) za6 (fun _ _=>rfl)) za4)))) za4)) (zc9 _))))) (za8 (zc5 yh3)) zc6)
      (za5 (zc1 (i:=7) sc_qi2.nd rfl (Or.inl rfl) (zc4 ze1 (zc4 ze1 zd0 (pv 1)) zd0))
      (za5 (ze6 (zb9 (neK (K:=K) rfl hr.units) (za9 G_qw1 (hr.mono (by decide)) rfl T.m_qw1 T.F_qw1.kp T.b_qw1 .nil zb7 (za0 (zp4 (pv 5) T.cl_Desk T.M_qf2 G_qf2 (hr.mono (by decide)) T.b_qf2 .nil zb7 (za0 (zc4 ze1 (pv 7) (zo4 PySem.F.plainAttrs_str PySem.F.slot_str_join PySem.F.type_str_join (zr9 (K:=K) rfl) zd0 (za0 (zm2 (cap:=[none]) (NC:=["x"]) rfl ⟨rfl,rfl,by decide +kernel,by decide +kernel,trivial,(fun _ h=>nomatch h),rfl⟩ (pilK (K:=K) rfl (zc2 (ixlK (K:=K) rfl) (pv 6) za6 (fun _ _=>rfl))) (fun _ _ _ _=>(zd5 (i:=0) (show List.Nodup (["x"]:List Str) by decide) rfl (Or.inl rfl))) (fun _ _ _ _=>zf7) (fun _ _ _ _=>(za9 G_qx1 (hr.mono (by decide)) rfl T.m_qx1 T.F_qx1.kp T.b_qx1 .nil zb7 (za0 (pv 0) za4)))) za4))) za4)) za4)) (zi1 (za0 (zc2 (ixlK (K:=K) rfl) (pv 6) za6 (fun _ _=>rfl)) za4)) (zc9 _)) (za8 (zc5 yh3)) zc6)
      (za5 (zn3 PassesOwn.leaving rfl (yh1 rfl T.n_range (za0 za6 (za0 (zc7 (yj8 rfl) rfl T.n_max bt_max (za0 za6 (za0 (zc7 (yj7 rfl) rfl T.n_min bt_min (za0 (zc7 (lenK (K:=K) rfl) rfl T.n_len PySem.boot_len (za0 (pv 0) za4)) (za0 za6 za4))) za4))) za4))) (zd5 (i:=8) sc_qi2.nd rfl (Or.inl rfl))
        (za5 (zc1 (i:=9) sc_qi2.nd rfl (Or.inl rfl) (za9 G_qd2 (hr.mono (by decide)) rfl T.m_qd2 T.F_qd2.kp T.b_qd2 .nil zb7 (za0 (za9 G_qp1 (hr.mono (by decide)) rfl T.m_qp1 T.F_qp1.kp T.b_qp1 .nil zb7 (za0 (pv 0) (za0 (pv 8) za4))) (za0 (pv 3) (za0 (pv 2) za4)))))
      (za5 (zc1 (i:=10) sc_qi2.nd rfl (Or.inl rfl) (za9 G_qw1 (hr.mono (by decide)) rfl T.m_qw1 T.F_qw1.kp T.b_qw1 .nil zb7 (za0 (zp4 (pv 5) T.cl_Desk T.M_qf2 G_qf2 (hr.mono (by decide)) T.b_qf2 .nil zb7 (za0 (zc4 ze1 (pv 7) (zo4 PySem.F.plainAttrs_str PySem.F.slot_str_join PySem.F.type_str_join (zr9 (K:=K) rfl) zd0 (za0 (zm2 (cap:=[none]) (NC:=["x"]) rfl ⟨rfl,rfl,by decide +kernel,by decide +kernel,trivial,(fun _ h=>nomatch h),rfl⟩ (pilK (K:=K) rfl (pv 9)) (fun _ _ _ _=>(zd5 (i:=0) (show List.Nodup (["x"]:List Str) by decide) rfl (Or.inl rfl))) (fun _ _ _ _=>zf7) (fun _ _ _ _=>(za9 G_qx1 (hr.mono (by decide)) rfl T.m_qx1 T.F_qx1.kp T.b_qx1 .nil zb7 (za0 (pv 0) za4)))) za4))) za4)) za4)))
      (za8 (ze6 (PW.pt (zn8 (zb9 (neK (K:=K) rfl hr.units) (pv 10) (zi1 (za0 (zi1 (za0 (za9 G_qt1 (hr.mono (by decide)) rfl T.m_qt1 T.F_qt1.kp T.b_qt1 .nil zb7 (za0 (pv 1) (za0 (pv 3) (za0 (pv 9) za4)))) za4)) za4)) (zc9 _)) (zm4 (zl8 (za9 G_qr1 (hr.mono (by decide)) rfl T.m_qr1 T.F_qr1.kp T.b_qr1 .nil zb7 (za0 (zc2 (ixlK (K:=K) rfl) (zc2 (ixlK (K:=K) rfl) (pv 10) za6 (fun _ _=>rfl)) za6 (fun _ _=>rfl)) (za0 (zc2 (ixlK (K:=K) rfl) (zc2 (ixlK (K:=K) rfl) (pv 6) za6 (fun _ _=>rfl)) za6 (fun _ _=>rfl)) za4))))))) (za8 (zc5 yh3)) zc6)))))
      (za5 (zc1 (i:=11) sc_qi2.nd rfl (Or.inl rfl) (zc2 (ixlK (K:=K) rfl) (za9 G_qw1 (hr.mono (by decide)) rfl T.m_qw1 T.F_qw1.kp T.b_qw1 .nil zb7 (za0 (zp4 (pv 5) T.cl_Desk T.M_qf2 G_qf2 (hr.mono (by decide)) T.b_qf2 .nil zb7 (za0 (zc4 ze1 (zc4 ze1 (zc4 ze1 zd0 (pv 1)) zd0) (zf3 zf2 rfl T.n_str Dl.boot_str (za0 (zc4 zg8 (pv 2) za6) za4))) za4)) za4)) za6 (fun _ _=>rfl)))
      (za5 (ze6 (PW.pt (zn8 (zb9 yh5 (zc7 (lenK (K:=K) rfl) rfl T.n_len PySem.boot_len (za0 (pv 11) za4)) za6 (zc9 _)) (zn8 (zb9 (inK (K:=K) rfl hr.units) zp3 (pv 11) rfl) (zm4 (zl8 (za9 G_qr1 (hr.mono (by decide)) rfl T.m_qr1 T.F_qr1.kp T.b_qr1 .nil zb7 (za0 (zc2 (ixlK (K:=K) rfl) (zc2 (ixlK (K:=K) rfl) (pv 6) za6 (fun _ _=>rfl)) za6 (fun _ _=>rfl)) (za0 (zc2 (ixlK (K:=K) rfl) (pv 11) za6 (fun _ _=>rfl)) za4)))))))) (za8 (zc5 yh3)) zc6)
      (za8 (zc5 (zp5 (eqK (K:=K) rfl hr.units) (zc2 (ixlK (K:=K) rfl) (za9 G_qw1 (hr.mono (by decide)) rfl T.m_qw1 T.F_qw1.kp T.b_qw1 .nil zb7 (za0 (zp4 (pv 5) T.cl_Desk T.M_qf2 G_qf2 (hr.mono (by decide)) T.b_qf2 .nil zb7 (za0 (zc4 ze1 (zc4 ze1 (zc4 ze1 zd0 (pv 1)) zd0) (zf3 zf2 rfl T.n_str Dl.boot_str (za0 (zc7 (lenK (K:=K) rfl) rfl T.n_len PySem.boot_len (za0 (pv 3) za4)) za4))) za4)) za4)) za6 (fun _ _=>rfl)) (zi1 (za0 (zh6 (za0 za6 (za0 za6 za4))) za4)) (zc9 _)))))))))))))))))),_,(zb2 (zd2 (ze5 (zz0 (zi2 (zb8 zd1 (zb8 zd1 (zb8 zd1 zd7))) (by decide))) (za1 (zk4 (k:=3) (by decide) (za1 (zb1 (za2 (za3 0) (za2 (za1 zb3) za7)))) zb3))) (zb0 1))
      (zb2 (zd2 (zk4 (k:=4) (by decide) (za1 (zq1 (k:=3) (cdiv (by decide +kernel)) (za1 (zb1 (za2 (za3 0) (za2 (za1 zb3) za7)))) zb3)) zb3) (zb0 2))
      (zb2 (zf5 3 (zj4 (za2 (za3 0) (za2 (za1 zb3) (za2 (za1 zb3) za7)))))
      (zb2 (zd2 (zb6 ro_i (za1 (zq1 (k:=3) (cdiv (by decide +kernel)) (za1 (zb1 (za2 (za3 0) (za2 (za1 zb3) za7)))) zb3)) (za1 (ze8 zf9 (za2 (za3 3) za7)))) (zb0 4))
      (xf8 5 (by decide) (za1 (zb6 zg0 (za1 zd1) (za1 (zy1 (za1 zd1) (zz0 (zk2 (zh1 (zz0 (xm8 (yy9 (yl7 (zd3 3) (zj8 (za3 4)) yd3)) (yy9 (yl7 (zd3 3) yd3 (zj8 (za3 4))))))) (zb0 0) zh2 (zb1 (za2 (za3 0) za7)) (by decide) (by decide)))))))
      (zb2 (zz6 3 (yb9 (za2 (za1 (zs5 5 (by decide) (za2 (za1 (zb6 zg0 (za1 (zb6 zg0 (za1 (zb6 zg0 (za1 zd1) (za3 1))) (za1 zd1))) (za1 (ze8 zp1 (za2 (za3 2) za7))))) za7))) za7) (zb0 6)))
      (zb2 (ze9 (zn6 (zc0 (za1 (zb6 yl3 (za1 (ze8 zf9 (za2 (za3 6) za7))) (za1 zb3)))) (zn6 (zc0 (za1 (zb6 yl3 (za1 (ze8 zf9 (za2 (za1 (ze5 (zd3 6) (za1 zb3))) za7))) (za1 zb3)))) (zn6 (zc0 (za1 (zb6 yl3 (za1 (ze8 zf9 (za2 (za1 (ze5 (zd3 6) (za1 zb3))) za7))) (za1 (ze8 zf9 (za2 (za3 3) za7)))))) (zc0 (za1 (zb6 xl9 (za1 zq0) (za1 (zj5 (xx0 (za1 (ze5 (zd3 6) (za1 zb3))) (za1 (ze5 (zd3 6) (za1 zb3)))))))))))) (zd6 (za1 ym7)) zc8)
      (zb2 (ze9 (zn6 (zc0 (za1 (zb6 zl7 (za1 (zb1 (za2 (za1 (ze5 (zd3 6) (za1 zb3))) za7))) (za3 2)))) (zc0 (za1 (zb6 zw6 (za1 (ze5 (zd3 6) (za1 zb3))) (za1 (zj5 (zi2 (zb8 (zb1 (za2 (za3 1) (za2 (za3 3) (za2 (za1 (ze5 (zd3 6) (za1 zb3))) za7)))) zd7) (by decide)))))))) (zd6 (za1 ym7)) zc8)
      (zb2 (zd2 (zb6 zg0 (za1 (zb6 zg0 (za1 zd1) (za3 1))) (za1 zd1)) (zb0 7))
      (zb2 (ze9 (zc0 (za1 (zb6 zw6 (ys3 (za2 (za1 (zs5 5 (by decide) (za2 (za1 (zb6 zg0 (za3 7) (za1 (zy1 (za1 zd1) (zz0 (zk2 (zh1 (yz4 (ze5 (zd3 6) (za1 zb3)))) (zb0 0) zh2 (zb1 (za2 (za3 0) za7)) (by decide) (by decide))))))) za7))) za7)) (za1 (zj5 (zi2 (zb8 (ze5 (zd3 6) (za1 zb3)) zd7) (by decide))))))) (zd6 (za1 ym7)) zc8)
      (zb2 (zn2 (xa4 (za2 (za1 zb3) (za2 (za1 (ze8 xm2 (za2 (za1 zb3) (za2 (za1 (ze8 xm1 (za2 (za1 (ze8 zf9 (za2 (za3 0) za7))) (za2 (za1 zb3) za7)))) za7)))) za7))) (zb0 8)
        (zb2 (zf5 9 (zj4 (za2 (za1 (zb1 (za2 (za3 0) (za2 (za3 8) za7)))) (za2 (za3 3) (za2 (za3 2) za7)))))
      (zb2 (zz6 9 (yb9 (za2 (za1 (zs5 5 (by decide) (za2 (za1 (zb6 zg0 (za3 7) (za1 (zy1 (za1 zd1) (zz0 (zk2 (zh1 (zd3 9)) (zb0 0) zh2 (zb1 (za2 (za3 0) za7)) (by decide) (by decide))))))) za7))) za7) (zb0 10)))
      (ze9 (zn6 (zc0 (za1 (zb6 zw6 (za3 10) (za1 (zj5 (zi2 (zb8 (zj5 (zi2 (zb8 (zb1 (za2 (za3 1) (za2 (za3 3) (za2 (za3 9) za7)))) zd7) (by decide))) zd7) (by decide))))))) (tv_b (za1 (zb1 (za2 (za1 (ze5 (yz4 (ze5 (zd3 10) (za1 zb3))) (za1 zb3))) (za2 (za1 (ze5 (yz4 (ze5 (zd3 6) (za1 zb3))) (za1 zb3))) za7)))))) (zd6 (za1 ym7)) zc8))))
      (zb2 (yv6 (za2 (za1 (zs5 5 (by decide) (za2 (za1 (zb6 zg0 (za1 (zb6 zg0 (za1 (zb6 zg0 (za1 zd1) (za3 1))) (za1 zd1))) (za1 (ze8 zp1 (za2 (za1 (zb6 zh5 (za3 2) (za1 zb3))) za7))))) za7))) za7) (za1 zb3) (zb0 11))
      (zb2 (ze9 (zn6 (zc0 (za1 (zb6 yl3 (za1 (ze8 zf9 (za2 (za3 11) za7))) (za1 zb3)))) (zn6 (zc0 (za1 (zb6 xl9 (za1 zq0) (za3 11)))) (tv_b (za1 (zb1 (za2 (za1 (ze5 (yz4 (ze5 (zd3 6) (za1 zb3))) (za1 zb3))) (za2 (za1 (ze5 (zd3 11) (za1 zb3))) za7))))))) (zd6 (za1 ym7)) zc8)
      (zd6 (za1 (zb6 xm0 (wr0 (ys3 (za2 (za1 (zs5 5 (by decide) (za2 (za1 (zb6 zg0 (za1 (zb6 zg0 (za1 (zb6 zg0 (za1 zd1) (za3 1))) (za1 zd1))) (za1 (ze8 zp1 (za2 (za1 (ze8 zf9 (za2 (za3 3) za7))) za7))))) za7))) za7)) (za1 zb3)) (za1 (zj5 (zi2 (zb8 (zh8 (zb8 zb3 (zb8 zb3 zd7)) (by decide)) zd7) (by decide)))))))))))))))))))),?_⟩
  rintro ds Q X ⟨ns,rfl,hlen,hbits,k⟩
  walk_at "s"
  refine ⟨ns,0,rfl,by decide,by decide,?_⟩
  walk_at "d"
  obtain ⟨kd,hkd,ak⟩:∃ kd:Str,kd ∈ kdsL ∧ atI [PyData.str (Str.ofString "far"),PyData.str (Str.ofString "sum"),PyData.str (Str.ofString "square")] (zo6 ns 0 % 3) = some (.str kd):=by
    have h3:zo6 ns 0 % 3 = 0 ∨ zo6 ns 0 % 3 = 1 ∨ zo6 ns 0 % 3 = 2:=by omega
    rcases h3 with e | e | e <;> rw [e]
    · exact ⟨"far",by simp [kdsL],rfl⟩
    · exact ⟨"sum",by simp [kdsL],rfl⟩
    · exact ⟨"square",by simp [kdsL],rfl⟩
  refine ⟨_,ak,?_⟩
  clear ak
  walk_at "s"
  refine ⟨ns,0,rfl,by decide,by decide,?_⟩
  walk_at "d"
  obtain ⟨kk,hkk,kk3⟩:∃ kk:Nat,zo6 ns 0 / 3 % 4 = (kk:Int) ∧ kk ≤ 3:=⟨(zo6 ns 0 / 3 % 4).toNat,by omega,by omega⟩
  rw [hkk]
  clear hkk
  walk_at "s"
  refine ⟨ns,3,6,rfl,hbits,by omega,by decide,by decide,by decide,by decide,fun ms MR=>?_⟩
  have M:=MR.t (by decide)
  have M1:=MR.n1
  have M6:=MR.nm
  have hlw:=MR.lw
  have hw1:∀ m ∈ ms,1 ≤ m.2.2:=fun m h=>(M.hw m h).1
  have mne:ms ≠ []:=fun e=>by rw [e] at M1; simp at M1
  walk_at "d"
  refine ⟨zv2 _,?_⟩
  walk_at "s"
  refine ⟨ns,2,rfl,by decide,by decide,?_⟩
  walk_at "d"
  refine ⟨by omega,?_⟩
  obtain ⟨at_,hat,hat2⟩:∃ at_:Nat,zo6 ns 2 / 3 % (ms.length:Int) = (at_:Int) ∧ at_ < ms.length:=by
    have h0:=Int.emod_nonneg (zo6 ns 2 / 3) (show (ms.length:Int) ≠ 0 by omega)
    have h1:=Int.emod_lt_of_pos (zo6 ns 2 / 3) (show (0:Int) < (ms.length:Int) by omega)
    exact ⟨(zo6 ns 2 / 3 % (ms.length:Int)).toNat,by omega,by omega⟩
  rw [hat]
  clear hat
  walk_at "d"
  refine ⟨by decide,?_⟩
  obtain ⟨rt,hrt⟩:∃ rt:List Mk,ms.drop at_ ++ ms.take at_ = rt:=⟨_,rfl⟩
  have rp:rt.Perm ms:=by
    rw [← hrt]
    exact List.perm_append_comm.trans (by rw [List.take_append_drop])
  have rl:rt.length = ms.length:=rp.length_eq
  have rlw:∀ m ∈ rt,Lw7 (m7 m):=fun m hm=>hlw m (rp.mem_iff.mp hm)
  have rne:rt ≠ []:=fun e=>by rw [e] at rl; simp at rl; omega
  refine zh3 mk3 PyData.str (fun m=>[shMk m]) rt (by omega) (fun Q h=>by
      walk_at "d"
      rw [zv7,zv7,xk0 ms rfl,wq6 ms rfl,← List.map_append,hrt]
      exact ⟨by rw [List.length_map,List.length_map,List.length_drop,List.length_take]; omega,h⟩) (fun m hm N acc hN=>?_) ?_
  · walk_at "d"
    refine ⟨m7 m,rfl,(rlw m hm).sm,?_⟩
    walk_at "d"
    exact hN
  rw [zd4]
  have ml:=yz3 (by omega) rlw
  refine ⟨rt.map shMk,rfl,fitJ (n:=259) (fun w hw=>?_) (by rw [List.length_map,zi5]; omega),?_,?_⟩
  · obtain ⟨m,hm,rfl⟩:=List.mem_map.mp hw
    exact (yl2 (rlw m hm).sm).2
  · have:(Str.ofString "marks a ").length = 8:=by decide +kernel
    omega
  refine ⟨_,Str.ofString "a",rt,rfl,?_,xh7 rne rlw,⟨_,rt,rfl,by decide +kernel,by decide +kernel,rne,by omega,rlw,(rp.map (·.1)).nodup_iff.mpr (yo1 MR.up),fun res hp hu=>?_⟩,by omega,by omega⟩
  · have:(Str.ofString "marks a ").length = 8:=by decide +kernel
    rw [PySem.Str.length_append]
    omega
  obtain rfl:res = ms:=we2 hu MR.up (hp.trans rp)
  clear rp rl rlw rne hrt ml hp hu rt hat2
  have laid:∀ {j:Nat} {r:List Rat},Laid kd res j (res.length - 1) r → r.length = res.length ∧ (∃ x,FwL j x r) ∧ meas kd res r = (tabE kd (fun f l=>cF kd (zf0 res f l)) j (res.length - 1)).1 ∧ ∀ q ∈ r,Ro q:=fun {j r} hL=>by
    obtain ⟨h1,h2,h3⟩:=hL.is hkd hw1 (by omega)
    rw [show res.length - 1 + 1 = res.length by omega,List.take_length] at h3
    exact ⟨by omega,h2,h3,hL.ro M hkd (by omega)⟩
  have hmis:∀ m ∈ res,Dg 20 m.2.1 ∧ 1 ≤ m.2.2 ∧ m.2.2.natAbs ≤ 10 ^ 1:=fun m h=>⟨Cm.d20 (M.hc m h),(M.hw m h).1,by have:=M.hw m h; omega⟩
  have kdl:=(xa0 hkd).2
  have stl:(Str.ofString "steps a ").length = 8:=by decide +kernel
  have jul:(Str.ofString "judge a ").length = 8:=by decide +kernel
  have bll:=zi5
  have lg:∀ j:Nat,j ≤ 59 → ((j:Nat):Int).natAbs.log2 < 1920:=fun j hj=>log9 (by rw [Int.natAbs_natCast]; exact Nat.lt_of_le_of_lt hj (by decide +kernel))
  have tl:∀ j:Nat,j ≤ 59 → (Str.ofString (toString (j:Int))).length ≤ 51:=fun j hj=>zn5 (by rw [Int.natAbs_natCast]; exact Nat.lt_of_le_of_lt hj (by decide +kernel))
  have tlk:=tl kk (by omega)
  walk_at "s"
  refine ⟨_,rfl,by omega,by rw [PySem.Str.length_append]; omega,lg kk (by omega),by rw [PySem.Str.length_append,PySem.Str.length_append]; omega,zw5 hkd M (by omega) fun hx row hL=>?_⟩
  have low:∀ {j:Nat} {x:Rat} {r:List Rat},FwL j x r → r.length = res.length → (tabE kd (fun f l=>cF kd (zf0 res f l)) j (res.length - 1)).1 ≤ meas kd res r:=fun {j x r} hF hr=>by
    have:=xr3 hkd hw1 hx j hF (i:=res.length - 1) (by omega) (by omega)
    rw [show res.length - 1 + 1 = res.length by omega,List.take_length] at this
    exact this
  obtain ⟨r1,⟨x1,r2⟩,r3,r4⟩:=laid hL
  have rne:row ≠ []:=fun e=>by rw [e] at r1; simp at r1; omega
  obtain ⟨mq,hmq⟩:∃ mq,meas kd res row = mq:=⟨_,rfl⟩
  have dq:Dg 77 mq:=by rw [← hmq]; exact M.dg r4 kd
  have oq:Ok mq:=dgOk dq (by decide)
  rw [hmq] at r3 ⊢
  walk_at "d"
  refine ⟨[[mq],row],rfl,by simp,by simp,fun r hr=>?_,?_⟩
  · simp only [List.mem_cons,List.not_mem_nil,or_false] at hr
    rcases hr with rfl | rfl
    · exact ⟨by simp,by simp,fun q hq=>by rw [List.mem_singleton.mp hq]; exact dq.mono (by decide)⟩
    · exact ⟨rne,by omega,fun q hq=>Ro.dg9 (r4 q hq)⟩
  have eD:lsD [[mq],row] = [PyData.list [fr mq],PyData.list (row.map fr)]:=rfl
  rw [eD]
  walk_at "d"
  walk_at "s"
  refine ite2 (fun c=>absurd rfl c) (fun _=>⟨_,rfl,?_⟩)
  dsimp only
  refine ite2 (fun c=>absurd rfl c) (fun _=>⟨_,rfl,?_⟩)
  dsimp only
  refine ite2 (fun c=>absurd (show ((row.map fr).length:Int) = (res.length:Int) by rw [List.length_map,r1]) c) (fun _=>⟨_,rfl,_,rfl,_,_,rfl,rfl,rfl,zm6 _,?_,?_⟩)
  · rw [List.length_map]; simp; omega
  refine xn8 (qs:=mq :: row) ?_
  have r4d:∀ q ∈ row,Dg 36 q:=fun q hq=>Ro.dg (r4 q hq)
  have wr:∀ {q:Rat} {Q:Sl → Prop} {X:DX},Ro q → Q (.dat (.str (shQ q))) → xk7 [fr q] Q X:=fun {q Q X} hq hQ=>by
    have d:=Ro.dg hq
    exact ⟨q.num,(q.den:Int),rfl,Nat.lt_of_le_of_lt d.n (by decide +kernel),by rw [Int.natAbs_natCast]; exact Nat.lt_of_le_of_lt d.d (by decide +kernel),hQ⟩
  walk_at "s"
  refine ⟨_,rfl,row,rfl,by omega,by omega,?_⟩
  walk_at "d"
  refine ite2 (fun c=>absurd c (by have:=(wo1 r2).1; omega)) (fun _=>?_)
  refine ⟨_,rfl,_,rfl,kd,res,row,20,36,1,rfl,hkd,r1,by omega,hmis,r4d,by omega,?_⟩
  walk_at "d"
  refine ⟨List Rat,ym8 eRat (by decide),[mq],[meas kd res row],rfl,rfl,fun b hb=>?_⟩
  rw [hb.mpr (by rw [hmq])]
  walk_at "s"
  refine ⟨by omega,by rw [PySem.Str.length_append]; omega,?_⟩
  obtain ⟨jt,hjt⟩:∃ jt,Str.ofString "judge a " ++ kd ++ Str.ofString " " = jt:=⟨_,rfl⟩
  have jtl:jt.length ≤ 20:=by rw [← hjt,PySem.Str.length_append,PySem.Str.length_append]; omega
  have judged:∀ {r:List Rat} {Q:Sl → Prop} {X:DX},r.length = res.length → (∀ q ∈ r,Ro q) → (Q (.dat (.str (shP [[meas kd res r]])))) → wSay [(Str.ofString "a",.list (res.map mk3))] [.str (jt ++ Txt.join (Str.ofString " ") (r.map shQ))] Q X:=fun {r Q X} hr hq hQ=>by
    rw [← hjt]
    exact yw7 hkd M hr hq (by rw [← xs3]; exact hQ)
  have fit:∀ {r:List Rat},r.length = res.length → (∀ q ∈ r,Ro q) → ((r.map shQ).map (·.length)).sum + (r.map shQ).length * (Str.ofString " ").length ≤ 100000 ∧ jt.length + (Txt.join (Str.ofString " ") (r.map shQ)).length ≤ 100000:=fun {r} hr hq=>by
    refine ⟨fitJ (n:=183) (fun w hw=>?_) (by rw [List.length_map,zi5]; omega),?_⟩
    · obtain ⟨q,hq2,rfl⟩:=List.mem_map.mp hw
      exact zw3 (Ro.dg9 (hq q hq2))
    · have:=yc4 (qs:=r) fun q h=>Ro.dg9 (hq q h)
      unfold shL at this
      omega
  rw [hjt]
  clear hjt
  walk_at "s"
  refine ⟨_,rfl,?_⟩
  refine zh3 fr PyData.str (fun q=>[shQ q]) row (by omega) (fun Q h=>by
      walk_at "d"
      exact ⟨_,rfl,h⟩) (fun q hq N acc hN=>?_) ?_
  · walk_at "d"
    refine wr (r4 q hq) ?_
    walk_at "d"
    exact hN
  rw [zd4]
  obtain ⟨f1,f2⟩:=fit r1 r4
  refine ⟨row.map shQ,rfl,f1,f2,judged r1 r4 ?_⟩
  rw [hmq]
  walk_at "d"
  refine ⟨[[mq]],rfl,by simp,by simp,fun r hr=>?_,?_⟩
  · rw [List.mem_singleton.mp hr]
    exact ⟨by simp,by simp,fun q hq=>by rw [List.mem_singleton.mp hq]; exact dq.mono (by decide)⟩
  walk_at "d"
  refine ⟨_,rfl,List (List Rat),ym8 (ym8 eRat (by decide)) (by decide),[[mq]],[[mq]],rfl,rfl,fun b hb=>?_⟩
  rw [hb.mpr rfl]
  walk_at "d"
  obtain ⟨hi,hhi,h17,h35⟩:∃ hi:Int,(if (if 35 < (ns.length:Int) then 35 else (ns.length:Int)) > 17 then (if 35 < (ns.length:Int) then 35 else (ns.length:Int)) else 17) = hi ∧ 17 ≤ hi ∧ hi ≤ 35:=⟨_,rfl,by (repeat' split) <;> omega,by (repeat' split) <;> omega⟩
  refine zj6 (ye3 (lo:=15) (st:=1) (n:=(hi - 15).toNat) (fun Q h=>by
      walk_at "d"
      rw [hhi]
      exact ⟨by omega,h⟩)
    (fun i δ=>∃ t1 t2 t3:Option PyData,δ = [some (.dat (.list (ns.map .int))),some (.dat (.str kd)),some (.dat (.int (kk:Int))),some (.dat (.list (res.map mk3))),some (.dat (.int (at_:Int))),some (.mon (dskP A.c_Desk (Str.ofString "kept") [(Str.ofString "a",.list (res.map mk3))])),some (.dat (.list [PyData.list [fr mq],PyData.list (row.map fr)])),some (.dat (.str jt)),t1.map Sl.dat,t2.map Sl.dat,t3.map Sl.dat,none])
    ⟨none,none,none,rfl⟩ ?_ ?_)
  · rintro i δ hi2 ⟨t1,t2,t3,rfl⟩
    obtain ⟨jj,hjj,jj0,jj1⟩:∃ jj:Int,15 + (i:Int) * 1 = jj ∧ 0 ≤ jj ∧ jj ≤ 100:=⟨_,rfl,by omega,by omega⟩
    rw [hjj]
    clear hjj
    walk_at "s"
    refine ⟨ns,jj,rfl,by omega,by omega,?_⟩
    walk_at "d"
    refine ⟨_,res,kk,rfl,ys2 hbits (by omega) (by omega),mne,by omega,M.hc,by omega,fun r x rl hF hq=>?_⟩
    walk_at "d"
    refine ⟨zm6 _,?_⟩
    obtain ⟨mo,hmo⟩:∃ mo,meas kd res r = mo:=⟨_,rfl⟩
    have dmo:Dg 77 mo:=by rw [← hmo]; exact M.dg hq kd
    walk_at "s"
    refine ⟨_,rfl,?_⟩
    refine zh3 fr PyData.str (fun q=>[shQ q]) r (by omega) (fun Q h=>by
        walk_at "d"
        exact h) (fun q hq2 N acc hN=>?_) ?_
    · walk_at "d"
      refine wr (hq q hq2) ?_
      walk_at "d"
      exact hN
    rw [zd4]
    obtain ⟨f1,f2⟩:=fit rl hq
    refine ⟨r.map shQ,rfl,f1,f2,judged rl hq ?_⟩
    rw [hmo]
    walk_at "d"
    refine ⟨[[mo]],rfl,by simp,by simp,fun r hr=>?_,?_⟩
    · rw [List.mem_singleton.mp hr]
      exact ⟨by simp,by simp,fun q hq=>by rw [List.mem_singleton.mp hq]; exact dmo.mono (by decide)⟩
    have eM:lsD [[mo]] = [PyData.list [fr mo]]:=rfl
    rw [eM]
    walk_at "d"
    refine ⟨kd,res,r,20,36,1,rfl,hkd,rl,by omega,hmis,fun q h=>Ro.dg (hq q h),by omega,?_⟩
    walk_at "d"
    refine ⟨List (List Rat),ym8 (ym8 eRat (by decide)) (by decide),[[mo]],[[meas kd res r]],rfl,rfl,fun b hb=>?_⟩
    rw [hb.mpr (by rw [hmo])]
    walk_at "d"
    refine ⟨_,rfl,_,rfl,_,rfl,_,rfl,mo,mq,rfl,dgOk dmo (by decide),oq,?_⟩
    have hle:=low hF rl
    rw [← r3,hmo] at hle
    walk_at "d"
    refine ite2 (fun c=>absurd c (Rat.not_lt.mpr hle)) (fun _=>?_)
    exact ⟨some _,some _,some _,rfl⟩
  · rintro δ ⟨t1,t2,t3,rfl⟩
    have tlk2:=tl (kk + 1) (by omega)
    have ek2:(kk:Int) + 1 = ((kk + 1:Nat):Int):=by omega
    walk_at "s"
    rw [ek2]
    refine ⟨_,rfl,by omega,by rw [PySem.Str.length_append]; omega,lg (kk + 1) (by omega),by rw [PySem.Str.length_append,PySem.Str.length_append]; omega,zw5 hkd M (by omega) fun _ row2 hL2=>?_⟩
    obtain ⟨u1,⟨x2,u2⟩,u3,u4⟩:=laid hL2
    have une:row2 ≠ []:=fun e=>by rw [e] at u1; simp at u1; omega
    obtain ⟨m2,hm2⟩:∃ m2,meas kd res row2 = m2:=⟨_,rfl⟩
    have d2:Dg 77 m2:=by rw [← hm2]; exact M.dg u4 kd
    rw [hm2] at u3 ⊢
    walk_at "d"
    refine ⟨[[m2],row2],rfl,by simp,by simp,fun r hr=>?_,?_⟩
    · simp only [List.mem_cons,List.not_mem_nil,or_false] at hr
      rcases hr with rfl | rfl
      · exact ⟨by simp,by simp,fun q hq=>by rw [List.mem_singleton.mp hq]; exact d2.mono (by decide)⟩
      · exact ⟨une,by omega,fun q hq=>Ro.dg9 (u4 q hq)⟩
    have eD2:lsD [[m2],row2] = [PyData.list [fr m2],PyData.list (row2.map fr)]:=rfl
    rw [eD2]
    walk_at "d"
    refine ⟨_,rfl,?_⟩
    walk_at "s"
    refine ite2 (fun c=>absurd rfl c) (fun _=>?_)
    refine xn8 (qs:=[m2]) ?_
    walk_at "d"
    refine ⟨_,rfl,_,rfl,_,rfl,mq,m2,rfl,oq,dgOk d2 (by decide),?_⟩
    have hle:=low (r2.up 1) r1
    rw [hmq,← u3] at hle
    walk_at "d"
    refine ite2 (fun c=>absurd c (Rat.not_lt.mpr hle)) (fun _=>?_)
    have tlk3:=tl res.length (by omega)
    walk_at "d"
    refine ⟨_,rfl,by omega,by rw [PySem.Str.length_append]; omega,lg res.length (by omega),by rw [PySem.Str.length_append,PySem.Str.length_append]; omega,zw5 hkd M (by omega) fun _ row3 hL3=>?_⟩
    obtain ⟨v1,⟨x3,v2⟩,v3,v4⟩:=laid hL3
    have vne:row3 ≠ []:=fun e=>by rw [e] at v1; simp at v1; omega
    have z0:meas kd res row3 = 0:=by
      obtain ⟨y,hy⟩:=wo2 (res.map fun m=>m.2.1) (res.length - 1) (by rw [List.length_map]; omega)
      have h0:=hy.up 1
      rw [show res.length - 1 + 1 = res.length by omega] at h0
      have h1:=low h0 (by rw [List.length_map])
      rw [← v3,xh4] at h1
      have h2:=yz2 kd hw1 res.length v1 (Nat.le_refl _)
      rw [List.take_length,show row3.take res.length = row3 from List.take_of_length_le (by omega)] at h2
      exact Rat.le_antisymm h1 h2
    rw [z0]
    walk_at "d"
    refine ⟨[[0],row3],rfl,by simp,by simp,fun r hr=>?_,?_⟩
    · simp only [List.mem_cons,List.not_mem_nil,or_false] at hr
      rcases hr with rfl | rfl
      · exact ⟨by simp,by simp,fun q hq=>by rw [List.mem_singleton.mp hq]; exact dg0 _⟩
      · exact ⟨vne,by omega,fun q hq=>Ro.dg9 (v4 q hq)⟩
    have eD3:lsD [[0],row3] = [PyData.list [fr 0],PyData.list (row3.map fr)]:=rfl
    rw [eD3]
    walk_at "d"
    refine ⟨_,rfl,?_⟩
    walk_at "d"
    refine ⟨List Rat,ym8 eRat (by decide),[0],[0],rfl,rfl,fun b hb=>?_⟩
    rw [hb.mpr rfl]
    exact k
end
@[elab_as_elim] theorem el1 {P:List Value → Prop}:∀ us:List Value,us.length = 1 → (∀ a0:Value,P [a0]) → P us
  | [],h,_=>by cases h
  | [a0],_,h=>h a0
  | _ :: _ :: _,h,_=>by simp at h
@[elab_as_elim] theorem el2 {P:List Value → Prop}:∀ us:List Value,us.length = 2 → (∀ a0 a1:Value,P [a0,a1]) → P us
  | [],h,_=>by cases h
  | [_],h,_=>by cases h
  | [a0,a1],_,h=>h a0 a1
  | _ :: _ :: _ :: _,h,_=>by simp at h
@[elab_as_elim] theorem el3 {P:List Value → Prop}:∀ us:List Value,us.length = 3 → (∀ a0 a1 a2:Value,P [a0,a1,a2]) → P us
  | [],h,_=>by cases h
  | [_],h,_=>by cases h
  | [_,_],h,_=>by cases h
  | [a0,a1,a2],_,h=>h a0 a1 a2
  | _ :: _ :: _ :: _ :: _,h,_=>by simp at h
@[elab_as_elim] theorem el4 {P:List Value → Prop}:∀ us:List Value,us.length = 4 → (∀ a0 a1 a2 a3:Value,P [a0,a1,a2,a3]) → P us
  | [],h,_=>by cases h
  | [_],h,_=>by cases h
  | [_,_],h,_=>by cases h
  | [_,_,_],h,_=>by cases h
  | [a0,a1,a2,a3],_,h=>h a0 a1 a2 a3
  | _ :: _ :: _ :: _ :: _ :: _,h,_=>by simp at h
theorem all_mk {l:PySem.W.OpenLaw} {w:World} {K:PySem.W.Frag} {h:Heap} {mg:Str → Option Value} {fa f_qa f_qb f_qc f_qd f_qe f_qf f_qg f_qh f_qi f_qj f_qk f_ql f_qm f_qn f_qo f_qp f_qq f_qr f_qs f_qt f_qu f_qv f_qw f_qx f_qy f_qz f_qa1 f_qb1 f_qc1 f_qd1 f_qe1 f_qf1 f_qg1 f_qh1 f_qi1 f_qj1 f_qk1 f_ql1 f_qm1 f_qn1 f_qo1 f_qp1 f_qq1 f_qr1 f_qs1 f_qt1 f_qu1 f_qv1 f_qw1 f_qx1 f_qy1 f_qz1 f_qa2 f_qb2 f_qc2 f_qd2 f_qe2 f_qf2 f_qg2 f_qh2 f_qi2 x_MissError x_NoNumber x_NoMarks x_NoKind x_NoBend x_NoAnswer x_NoText x_NoName x_NoRow g_KINDS g_NOUGHT c_Desk g_COUNTS g_COUNTS_0 g_COUNTS_1 g_COUNTS_2 g_COUNTS_3 g_COUNTS_4 g_COUNTS_5 g_COUNTS_6 g_COUNTS_7:Addr} (X:K.In h) (G:h.Ns mainGlobals mg) (hfa:mg "law" = some (.ref fa))
    {d0 d1 d2 d3 d4 d5 d6 d7 d8 d9 d10 d11 d12 d13 d14 d15 d16 d17 d18 d19 d20 d21 d22 d23 d24 d25 d26 d27 d28 d29 d30 d31 d32 d33 d34 d35 d36 d37 d38 d39 d40 d41 d42 d43 d44 d45 d46 d47 d48 d49 d50 d51 d52 d53 d54 d55 d56 d57 d58 d59 d60:FuncData}
    (oa_Desk:PySem.W.nsIn K mainGlobals "Desk" = some (some (.ref c_Desk))) (pg_Desk:PySem.W.plainGet K c_Desk Str.empty = true) (hd_Desk:PySem.W.hasDictIn K c_Desk = true) (po_Desk:PySem.W.plainOver K c_Desk = true) (sa_Desk:PySem.W.findIn K (.ref c_Desk) "__setattr__" = some (some (.builtin "object.__setattr__"))) (mk_Desk:PySem.W.makesIn K c_Desk = true) (kc_Desk:PySem.W.keepIn K (.ref c_Desk) = true) (na_Desk:PySem.W.findIn K (.ref c_Desk) "kept" = some none)
    (a0:PySem.W.nsIn K mainGlobals "common_divisor" = some (some (.ref f_qa))) (F0:Fun K "common_divisor" "common_divisor" s_qa f_qa d0)
    (a1:PySem.W.nsIn K mainGlobals "fraction" = some (some (.ref f_qb))) (F1:Fun K "fraction" "fraction" s_qb f_qb d1)
    (a2:PySem.W.nsIn K mainGlobals "plus" = some (some (.ref f_qc))) (F2:Fun K "plus" "plus" s_qc f_qc d2)
    (a3:PySem.W.nsIn K mainGlobals "minus" = some (some (.ref f_qd))) (F3:Fun K "minus" "minus" s_qd f_qd d3)
    (a4:PySem.W.nsIn K mainGlobals "product" = some (some (.ref f_qe))) (F4:Fun K "product" "product" s_qe f_qe d4)
    (a5:PySem.W.nsIn K mainGlobals "quotient" = some (some (.ref f_qf))) (F5:Fun K "quotient" "quotient" s_qf f_qf d5)
    (a6:PySem.W.nsIn K mainGlobals "is_less" = some (some (.ref f_qg))) (F6:Fun K "is_less" "is_less" s_qg f_qg d6)
    (a7:PySem.W.nsIn K mainGlobals "size_of" = some (some (.ref f_qh))) (F7:Fun K "size_of" "size_of" s_qh f_qh d7)
    (a8:PySem.W.nsIn K mainGlobals "total_of" = some (some (.ref f_qi))) (F8:Fun K "total_of" "total_of" s_qi f_qi d8)
    (a9:PySem.W.nsIn K mainGlobals "greatest_of" = some (some (.ref f_qj))) (F9:Fun K "greatest_of" "greatest_of" s_qj f_qj d9)
    (a10:PySem.W.nsIn K mainGlobals "least_of" = some (some (.ref f_qk))) (F10:Fun K "least_of" "least_of" s_qk f_qk d10)
    (a11:PySem.W.nsIn K mainGlobals "count_ahead" = some (some (.ref f_ql))) (F11:Fun K "count_ahead" "count_ahead" s_ql f_ql d11)
    (a12:PySem.W.nsIn K mainGlobals "marks_of" = some (some (.ref f_qm))) (F12:Fun K "marks_of" "marks_of" s_qm f_qm d12)
    (a13:PySem.W.nsIn K mainGlobals "misses_of" = some (some (.ref f_qn))) (F13:Fun K "misses_of" "misses_of" s_qn f_qn d13)
    (a14:PySem.W.nsIn K mainGlobals "check_kind" = some (some (.ref f_qo))) (F14:Fun K "check_kind" "check_kind" s_qo f_qo d14)
    (a15:PySem.W.nsIn K mainGlobals "weighed_misses" = some (some (.ref f_qp))) (F15:Fun K "weighed_misses" "weighed_misses" s_qp f_qp d15)
    (a16:PySem.W.nsIn K mainGlobals "measured" = some (some (.ref f_qq))) (F16:Fun K "measured" "measured" s_qq f_qq d16)
    (a17:PySem.W.nsIn K mainGlobals "least_level" = some (some (.ref f_qr))) (F17:Fun K "least_level" "least_level" s_qr f_qr d17)
    (a18:PySem.W.nsIn K mainGlobals "middle_of" = some (some (.ref f_qs))) (F18:Fun K "middle_of" "middle_of" s_qs f_qs d18)
    (a19:PySem.W.nsIn K mainGlobals "in_order" = some (some (.ref f_qt))) (F19:Fun K "in_order" "in_order" s_qt f_qt d19)
    (a20:PySem.W.nsIn K mainGlobals "stretch_cost" = some (some (.ref f_qu))) (F20:Fun K "stretch_cost" "stretch_cost" s_qu f_qu d20)
    (a21:PySem.W.nsIn K mainGlobals "joined" = some (some (.ref f_qv))) (F21:Fun K "joined" "joined" s_qv f_qv d21)
    (a22:PySem.W.nsIn K mainGlobals "costs_to" = some (some (.ref f_qw))) (F22:Fun K "costs_to" "costs_to" s_qw f_qw d22)
    (a23:PySem.W.nsIn K mainGlobals "all_costs" = some (some (.ref f_qx))) (F23:Fun K "all_costs" "all_costs" s_qx f_qx d23)
    (a24:PySem.W.nsIn K mainGlobals "is_above" = some (some (.ref f_qy))) (F24:Fun K "is_above" "is_above" s_qy f_qy d24)
    (a25:PySem.W.nsIn K mainGlobals "step_least" = some (some (.ref f_qz))) (F25:Fun K "step_least" "step_least" s_qz f_qz d25)
    (a26:PySem.W.nsIn K mainGlobals "best_entry" = some (some (.ref f_qa1))) (F26:Fun K "best_entry" "best_entry" xw1 f_qa1 d26)
    (a27:PySem.W.nsIn K mainGlobals "laid_row" = some (some (.ref f_qb1))) (F27:Fun K "laid_row" "laid_row" xv9 f_qb1 d27)
    (a28:PySem.W.nsIn K mainGlobals "check_text" = some (some (.ref f_qc1))) (F28:Fun K "check_text" "check_text" xv7 f_qc1 d28)
    (a29:PySem.W.nsIn K mainGlobals "is_figures" = some (some (.ref f_qd1))) (F29:Fun K "is_figures" "is_figures" xv5 f_qd1 d29)
    (a30:PySem.W.nsIn K mainGlobals "read_whole" = some (some (.ref f_qe1))) (F30:Fun K "read_whole" "read_whole" xv3 f_qe1 d30)
    (a31:PySem.W.nsIn K mainGlobals "read_fraction" = some (some (.ref f_qf1))) (F31:Fun K "read_fraction" "read_fraction" xv1 f_qf1 d31)
    (a32:PySem.W.nsIn K mainGlobals "read_mark" = some (some (.ref f_qg1))) (F32:Fun K "read_mark" "read_mark" xu9 f_qg1 d32)
    (a33:PySem.W.nsIn K mainGlobals "show_fraction" = some (some (.ref f_qh1))) (F33:Fun K "show_fraction" "show_fraction" xu7 f_qh1 d33)
    (a34:PySem.W.nsIn K mainGlobals "show_fractions" = some (some (.ref f_qi1))) (F34:Fun K "show_fractions" "show_fractions" xu5 f_qi1 d34)
    (a35:PySem.W.nsIn K mainGlobals "words_of" = some (some (.ref f_qj1))) (F35:Fun K "words_of" "words_of" xu3 f_qj1 d35)
    (a36:PySem.W.nsIn K mainGlobals "check_name" = some (some (.ref f_qk1))) (F36:Fun K "check_name" "check_name" xu2 f_qk1 d36)
    (a37:PySem.W.nsIn K mainGlobals "parted" = some (some (.ref f_ql1))) (F37:Fun K "parted" "parted" xu1 f_ql1 d37)
    (a38:PySem.W.nsIn K mainGlobals "steps_answer" = some (some (.ref f_qm1))) (F38:Fun K "steps_answer" "steps_answer" xu0 f_qm1 d38)
    (a39:PySem.W.nsIn K mainGlobals "judge_answer" = some (some (.ref f_qn1))) (F39:Fun K "judge_answer" "judge_answer" xt9 f_qn1 d39)
    (a40:PySem.W.nsIn K mainGlobals "asked" = some (some (.ref f_qo1))) (F40:Fun K "asked" "asked" xt8 f_qo1 d40)
    (a41:PySem.W.nsIn K mainGlobals "_law_cell" = some (some (.ref f_qp1))) (F41:Fun K "_law_cell" "_law_cell" xt7 f_qp1 d41)
    (a42:PySem.W.nsIn K mainGlobals "_law_lowest" = some (some (.ref f_qq1))) (F42:Fun K "_law_lowest" "_law_lowest" xt6 f_qq1 d42)
    (a43:PySem.W.nsIn K mainGlobals "_law_less" = some (some (.ref f_qr1))) (F43:Fun K "_law_less" "_law_less" xt5 f_qr1 d43)
    (a44:PySem.W.nsIn K mainGlobals "_law_joined" = some (some (.ref f_qs1))) (F44:Fun K "_law_joined" "_law_joined" xt4 f_qs1 d44)
    (a45:PySem.W.nsIn K mainGlobals "_law_missed" = some (some (.ref f_qt1))) (F45:Fun K "_law_missed" "_law_missed" xt3 f_qt1 d45)
    (a46:PySem.W.nsIn K mainGlobals "_law_number" = some (some (.ref f_qu1))) (F46:Fun K "_law_number" "_law_number" xt2 f_qu1 d46)
    (a47:PySem.W.nsIn K mainGlobals "_law_read" = some (some (.ref f_qv1))) (F47:Fun K "_law_read" "_law_read" xt1 f_qv1 d47)
    (a48:PySem.W.nsIn K mainGlobals "_law_lists" = some (some (.ref f_qw1))) (F48:Fun K "_law_lists" "_law_lists" xt0 f_qw1 d48)
    (a49:PySem.W.nsIn K mainGlobals "_law_written" = some (some (.ref f_qx1))) (F49:Fun K "_law_written" "_law_written" xs9 f_qx1 d49)
    (a50:PySem.W.nsIn K mainGlobals "_law_word" = some (some (.ref f_qy1))) (F50:Fun K "_law_word" "_law_word" xs8 f_qy1 d50)
    (a51:PySem.W.nsIn K mainGlobals "_law_some" = some (some (.ref f_qz1))) (F51:Fun K "_law_some" "_law_some" xs7 f_qz1 d51)
    (a52:PySem.W.nsIn K mainGlobals "_law_steps" = some (some (.ref f_qa2))) (F52:Fun K "_law_steps" "_law_steps" xw0 f_qa2 d52)
    (a53:PySem.W.nsIn K mainGlobals "_law_half" = some (some (.ref f_qb2))) (F53:Fun K "_law_half" "_law_half" xv8 f_qb2 d53)
    (a54:PySem.W.nsIn K mainGlobals "_law_height" = some (some (.ref f_qc2))) (F54:Fun K "_law_height" "_law_height" xv6 f_qc2 d54)
    (a55:PySem.W.nsIn K mainGlobals "_law_other" = some (some (.ref f_qd2))) (F55:Fun K "_law_other" "_law_other" xv4 f_qd2 d55)
    (a56:PySem.W.findIn K (.ref c_Desk) "__init__" = some (some (.ref f_qe2))) (i56:PySem.W.isFn K (.ref f_qe2) = true)
    (F56:Fun K "__init__" "Desk.__init__" xv2 f_qe2 d56)
    (a57:PySem.W.findIn K (.ref c_Desk) "say" = some (some (.ref f_qf2))) (i57:PySem.W.isFn K (.ref f_qf2) = true)
    (F57:Fun K "say" "Desk.say" xv0 f_qf2 d57)
    (a58:PySem.W.findIn K (.ref c_Desk) "lay" = some (some (.ref f_qg2))) (i58:PySem.W.isFn K (.ref f_qg2) = true)
    (F58:Fun K "lay" "Desk.lay" xu8 f_qg2 d58)
    (a59:PySem.W.findIn K (.ref c_Desk) "marks_by" = some (some (.ref f_qh2))) (i59:PySem.W.isFn K (.ref f_qh2) = true)
    (F59:Fun K "marks_by" "Desk.marks_by" xu6 f_qh2 d59)
    (a60:PySem.W.nsIn K mainGlobals "law" = some (some (.ref f_qi2))) (F60:Fun K "law" "law" xu4 f_qi2 d60)
    (ax_MissError:PySem.W.nsIn K mainGlobals "MissError" = some (some (.ref x_MissError))) (xx_MissError:PySem.W.excIn K x_MissError [.type "ValueError",.type "Exception",.type "BaseException",.type "object"] "ValueError.__new__" = true)
    (ax_NoNumber:PySem.W.nsIn K mainGlobals "NoNumber" = some (some (.ref x_NoNumber))) (xx_NoNumber:PySem.W.excIn K x_NoNumber [.type "ValueError",.type "Exception",.type "BaseException",.type "object"] "ValueError.__new__" = true)
    (ax_NoMarks:PySem.W.nsIn K mainGlobals "NoMarks" = some (some (.ref x_NoMarks))) (xx_NoMarks:PySem.W.excIn K x_NoMarks [.type "ValueError",.type "Exception",.type "BaseException",.type "object"] "ValueError.__new__" = true)
    (ax_NoKind:PySem.W.nsIn K mainGlobals "NoKind" = some (some (.ref x_NoKind))) (xx_NoKind:PySem.W.excIn K x_NoKind [.type "ValueError",.type "Exception",.type "BaseException",.type "object"] "ValueError.__new__" = true)
    (ax_NoBend:PySem.W.nsIn K mainGlobals "NoBend" = some (some (.ref x_NoBend))) (xx_NoBend:PySem.W.excIn K x_NoBend [.type "ValueError",.type "Exception",.type "BaseException",.type "object"] "ValueError.__new__" = true)
    (ax_NoAnswer:PySem.W.nsIn K mainGlobals "NoAnswer" = some (some (.ref x_NoAnswer))) (xx_NoAnswer:PySem.W.excIn K x_NoAnswer [.type "ValueError",.type "Exception",.type "BaseException",.type "object"] "ValueError.__new__" = true)
    (ax_NoText:PySem.W.nsIn K mainGlobals "NoText" = some (some (.ref x_NoText))) (xx_NoText:PySem.W.excIn K x_NoText [.type "ValueError",.type "Exception",.type "BaseException",.type "object"] "ValueError.__new__" = true)
    (ax_NoName:PySem.W.nsIn K mainGlobals "NoName" = some (some (.ref x_NoName))) (xx_NoName:PySem.W.excIn K x_NoName [.type "ValueError",.type "Exception",.type "BaseException",.type "object"] "ValueError.__new__" = true)
    (ax_NoRow:PySem.W.nsIn K mainGlobals "NoRow" = some (some (.ref x_NoRow))) (xx_NoRow:PySem.W.excIn K x_NoRow [.type "ValueError",.type "Exception",.type "BaseException",.type "object"] "ValueError.__new__" = true)
    (z_abs:PySem.W.nsIn K mainGlobals "abs" = some none)
    (z_all:PySem.W.nsIn K mainGlobals "all" = some none)
    (z_enumerate:PySem.W.nsIn K mainGlobals "enumerate" = some none)
    (z_int:PySem.W.nsIn K mainGlobals "int" = some none)
    (z_isinstance:PySem.W.nsIn K mainGlobals "isinstance" = some none)
    (z_len:PySem.W.nsIn K mainGlobals "len" = some none)
    (z_max:PySem.W.nsIn K mainGlobals "max" = some none)
    (z_min:PySem.W.nsIn K mainGlobals "min" = some none)
    (z_range:PySem.W.nsIn K mainGlobals "range" = some none)
    (z_sorted:PySem.W.nsIn K mainGlobals "sorted" = some none)
    (z_str:PySem.W.nsIn K mainGlobals "str" = some none)
    (z_zip:PySem.W.nsIn K mainGlobals "zip" = some none)
    {tk0_COUNTS tk1_COUNTS tk2_COUNTS tk3_COUNTS tk4_COUNTS tk5_COUNTS tk6_COUNTS tk7_COUNTS:Tok} {h0_COUNTS h1_COUNTS h2_COUNTS h3_COUNTS h4_COUNTS h5_COUNTS h6_COUNTS h7_COUNTS:Int} {n_COUNTS:Nat} (zc_COUNTS:PySem.W.nsIn K mainGlobals "COUNTS" = some (some (.ref g_COUNTS))) (lk_COUNTS:K.lookup g_COUNTS = some ⟨.type "dict",none,.dict #[⟨h0_COUNTS,.str "marks" tk0_COUNTS,.ref g_COUNTS_0⟩,⟨h1_COUNTS,.str "drop" tk1_COUNTS,.ref g_COUNTS_1⟩,⟨h2_COUNTS,.str "names" tk2_COUNTS,.ref g_COUNTS_2⟩,⟨h3_COUNTS,.str "show" tk3_COUNTS,.ref g_COUNTS_3⟩,⟨h4_COUNTS,.str "bend" tk4_COUNTS,.ref g_COUNTS_4⟩,⟨h5_COUNTS,.str "rise" tk5_COUNTS,.ref g_COUNTS_5⟩,⟨h6_COUNTS,.str "steps" tk6_COUNTS,.ref g_COUNTS_6⟩,⟨h7_COUNTS,.str "judge" tk7_COUNTS,.ref g_COUNTS_7⟩] n_COUNTS,#[]⟩)
    {tq0_0_COUNTS tq0_1_COUNTS:Tok} {od0_COUNTS:Option Addr} {nn0_COUNTS:Nat} {sl0_COUNTS:Array (Option Value)} (lt0_COUNTS:K.lookup g_COUNTS_0 = some ⟨.type "tuple",od0_COUNTS,.seq #[(.int 3 tq0_0_COUNTS),(.int 62 tq0_1_COUNTS)] nn0_COUNTS,sl0_COUNTS⟩)
    {tq1_0_COUNTS tq1_1_COUNTS:Tok} {od1_COUNTS:Option Addr} {nn1_COUNTS:Nat} {sl1_COUNTS:Array (Option Value)} (lt1_COUNTS:K.lookup g_COUNTS_1 = some ⟨.type "tuple",od1_COUNTS,.seq #[(.int 2 tq1_0_COUNTS),(.int 2 tq1_1_COUNTS)] nn1_COUNTS,sl1_COUNTS⟩)
    {tq2_0_COUNTS tq2_1_COUNTS:Tok} {od2_COUNTS:Option Addr} {nn2_COUNTS:Nat} {sl2_COUNTS:Array (Option Value)} (lt2_COUNTS:K.lookup g_COUNTS_2 = some ⟨.type "tuple",od2_COUNTS,.seq #[(.int 1 tq2_0_COUNTS),(.int 1 tq2_1_COUNTS)] nn2_COUNTS,sl2_COUNTS⟩)
    {tq3_0_COUNTS tq3_1_COUNTS:Tok} {od3_COUNTS:Option Addr} {nn3_COUNTS:Nat} {sl3_COUNTS:Array (Option Value)} (lt3_COUNTS:K.lookup g_COUNTS_3 = some ⟨.type "tuple",od3_COUNTS,.seq #[(.int 2 tq3_0_COUNTS),(.int 2 tq3_1_COUNTS)] nn3_COUNTS,sl3_COUNTS⟩)
    {tq4_0_COUNTS tq4_1_COUNTS:Tok} {od4_COUNTS:Option Addr} {nn4_COUNTS:Nat} {sl4_COUNTS:Array (Option Value)} (lt4_COUNTS:K.lookup g_COUNTS_4 = some ⟨.type "tuple",od4_COUNTS,.seq #[(.int 4 tq4_0_COUNTS),(.int 4 tq4_1_COUNTS)] nn4_COUNTS,sl4_COUNTS⟩)
    {tq5_0_COUNTS tq5_1_COUNTS:Tok} {od5_COUNTS:Option Addr} {nn5_COUNTS:Nat} {sl5_COUNTS:Array (Option Value)} (lt5_COUNTS:K.lookup g_COUNTS_5 = some ⟨.type "tuple",od5_COUNTS,.seq #[(.int 3 tq5_0_COUNTS),(.int 3 tq5_1_COUNTS)] nn5_COUNTS,sl5_COUNTS⟩)
    {tq6_0_COUNTS tq6_1_COUNTS:Tok} {od6_COUNTS:Option Addr} {nn6_COUNTS:Nat} {sl6_COUNTS:Array (Option Value)} (lt6_COUNTS:K.lookup g_COUNTS_6 = some ⟨.type "tuple",od6_COUNTS,.seq #[(.int 4 tq6_0_COUNTS),(.int 4 tq6_1_COUNTS)] nn6_COUNTS,sl6_COUNTS⟩)
    {tq7_0_COUNTS tq7_1_COUNTS:Tok} {od7_COUNTS:Option Addr} {nn7_COUNTS:Nat} {sl7_COUNTS:Array (Option Value)} (lt7_COUNTS:K.lookup g_COUNTS_7 = some ⟨.type "tuple",od7_COUNTS,.seq #[(.int 4 tq7_0_COUNTS),(.int 63 tq7_1_COUNTS)] nn7_COUNTS,sl7_COUNTS⟩)
    (kl_COUNTS:PySem.W.KeysLit w.params [⟨h0_COUNTS,.str "marks" tk0_COUNTS,.ref g_COUNTS_0⟩,⟨h1_COUNTS,.str "drop" tk1_COUNTS,.ref g_COUNTS_1⟩,⟨h2_COUNTS,.str "names" tk2_COUNTS,.ref g_COUNTS_2⟩,⟨h3_COUNTS,.str "show" tk3_COUNTS,.ref g_COUNTS_3⟩,⟨h4_COUNTS,.str "bend" tk4_COUNTS,.ref g_COUNTS_4⟩,⟨h5_COUNTS,.str "rise" tk5_COUNTS,.ref g_COUNTS_5⟩,⟨h6_COUNTS,.str "steps" tk6_COUNTS,.ref g_COUNTS_6⟩,⟨h7_COUNTS,.str "judge" tk7_COUNTS,.ref g_COUNTS_7⟩]) (nz_COUNTS:(g_COUNTS == sysModules) = false)
    {tk_FIGURES:Tok} (zc_FIGURES:PySem.W.nsIn K mainGlobals "FIGURES" = some (some (.str "0123456789" tk_FIGURES)))
    {tk0_KINDS tk1_KINDS tk2_KINDS:Tok} {od_KINDS:Option Addr} {n_KINDS:Nat} {sl_KINDS:Array (Option Value)} (zc_KINDS:PySem.W.nsIn K mainGlobals "KINDS" = some (some (.ref g_KINDS)))
    (lk_KINDS:K.lookup g_KINDS = some ⟨.type "tuple",od_KINDS,.seq #[(.str "far" tk0_KINDS),(.str "sum" tk1_KINDS),(.str "square" tk2_KINDS)] n_KINDS,sl_KINDS⟩)
    {tk_LETTERS:Tok} (zc_LETTERS:PySem.W.nsIn K mainGlobals "LETTERS" = some (some (.str "abcdefghijklmnopqrstuvwxyz" tk_LETTERS)))
    {tk_MOST_BEND:Tok} (zc_MOST_BEND:PySem.W.nsIn K mainGlobals "MOST_BEND" = some (some (.int 3 tk_MOST_BEND)))
    {tk_MOST_FIGURES:Tok} (zc_MOST_FIGURES:PySem.W.nsIn K mainGlobals "MOST_FIGURES" = some (some (.int 40 tk_MOST_FIGURES)))
    {tk_MOST_LETTERS:Tok} (zc_MOST_LETTERS:PySem.W.nsIn K mainGlobals "MOST_LETTERS" = some (some (.int 8 tk_MOST_LETTERS)))
    {tk_MOST_MARKS:Tok} (zc_MOST_MARKS:PySem.W.nsIn K mainGlobals "MOST_MARKS" = some (some (.int 60 tk_MOST_MARKS)))
    {tk_MOST_NUMBERS:Tok} (zc_MOST_NUMBERS:PySem.W.nsIn K mainGlobals "MOST_NUMBERS" = some (some (.int 4 tk_MOST_NUMBERS)))
    {tk_MOST_STEPS:Tok} (zc_MOST_STEPS:PySem.W.nsIn K mainGlobals "MOST_STEPS" = some (some (.int 59 tk_MOST_STEPS)))
    {tk0_NOUGHT tk1_NOUGHT:Tok} {od_NOUGHT:Option Addr} {n_NOUGHT:Nat} {sl_NOUGHT:Array (Option Value)} (zc_NOUGHT:PySem.W.nsIn K mainGlobals "NOUGHT" = some (some (.ref g_NOUGHT)))
    (lk_NOUGHT:K.lookup g_NOUGHT = some ⟨.type "tuple",od_NOUGHT,.seq #[(.int 0 tk0_NOUGHT),(.int 1 tk1_NOUGHT)] n_NOUGHT,sl_NOUGHT⟩)
    : ∃ fd:FuncData,(∀ (s:Shared) (v:Value),BindsTo s fd ⟨[v],[]⟩ [("script",v)]) ∧ ∀ base:Heap,K.In base → base.Ns mainGlobals mg → FnOk l.prog w K mg base (CXE l.prog w) 14 fa fd ["script"] (xg4 K):=by
  have e:=hfa.symm.trans (PySem.W.mg_of X G a60)
  cases e
  obtain ⟨_,_,_,_,_,_,_,_,_,rfl,_,_⟩:=F60.ex
  have T:Txt K mg ⟨f_qa,_,f_qb,_,f_qc,_,f_qd,_,f_qe,_,f_qf,_,f_qg,_,f_qh,_,f_qi,_,f_qj,_,f_qk,_,f_ql,_,f_qm,_,f_qn,_,f_qo,_,f_qp,_,f_qq,_,f_qr,_,f_qs,_,f_qt,_,f_qu,_,f_qv,_,f_qw,_,f_qx,_,f_qy,_,f_qz,_,f_qa1,_,f_qb1,_,f_qc1,_,f_qd1,_,f_qe1,_,f_qf1,_,f_qg1,_,f_qh1,_,f_qi1,_,f_qj1,_,f_qk1,_,f_ql1,_,f_qm1,_,f_qn1,_,f_qo1,_,f_qp1,_,f_qq1,_,f_qr1,_,f_qs1,_,f_qt1,_,f_qu1,_,f_qv1,_,f_qw1,_,f_qx1,_,f_qy1,_,f_qz1,_,f_qa2,_,f_qb2,_,f_qc2,_,f_qd2,_,f_qe2,_,f_qf2,_,f_qg2,_,f_qh2,_,fa,_,x_MissError,x_NoNumber,x_NoMarks,x_NoKind,x_NoBend,x_NoAnswer,x_NoText,x_NoName,x_NoRow,g_KINDS,g_NOUGHT,c_Desk,g_COUNTS,g_COUNTS_0,g_COUNTS_1,g_COUNTS_2,g_COUNTS_3,g_COUNTS_4,g_COUNTS_5,g_COUNTS_6,g_COUNTS_7⟩:=⟨F0,PySem.W.mg_of X G a0,F0.binds fun _ _ _ _ _ _ us hl=>el2 us hl fun _ _=>rfl,F1,PySem.W.mg_of X G a1,F1.binds fun _ _ _ _ _ _ us hl=>el2 us hl fun _ _=>rfl,F2,PySem.W.mg_of X G a2,F2.binds fun _ _ _ _ _ _ us hl=>el2 us hl fun _ _=>rfl,F3,PySem.W.mg_of X G a3,F3.binds fun _ _ _ _ _ _ us hl=>el2 us hl fun _ _=>rfl,F4,PySem.W.mg_of X G a4,F4.binds fun _ _ _ _ _ _ us hl=>el2 us hl fun _ _=>rfl,F5,PySem.W.mg_of X G a5,F5.binds fun _ _ _ _ _ _ us hl=>el2 us hl fun _ _=>rfl,F6,PySem.W.mg_of X G a6,F6.binds fun _ _ _ _ _ _ us hl=>el2 us hl fun _ _=>rfl,F7,PySem.W.mg_of X G a7,F7.binds fun _ _ _ _ _ _ us hl=>el1 us hl fun _=>rfl,F8,PySem.W.mg_of X G a8,F8.binds fun _ _ _ _ _ _ us hl=>el1 us hl fun _=>rfl,F9,PySem.W.mg_of X G a9,F9.binds fun _ _ _ _ _ _ us hl=>el1 us hl fun _=>rfl,F10,PySem.W.mg_of X G a10,F10.binds fun _ _ _ _ _ _ us hl=>el1 us hl fun _=>rfl,F11,PySem.W.mg_of X G a11,F11.binds fun _ _ _ _ _ _ us hl=>el2 us hl fun _ _=>rfl,F12,PySem.W.mg_of X G a12,F12.binds fun _ _ _ _ _ _ us hl=>el1 us hl fun _=>rfl,F13,PySem.W.mg_of X G a13,F13.binds fun _ _ _ _ _ _ us hl=>el2 us hl fun _ _=>rfl,F14,PySem.W.mg_of X G a14,F14.binds fun _ _ _ _ _ _ us hl=>el1 us hl fun _=>rfl,F15,PySem.W.mg_of X G a15,F15.binds fun _ _ _ _ _ _ us hl=>el2 us hl fun _ _=>rfl,F16,PySem.W.mg_of X G a16,F16.binds fun _ _ _ _ _ _ us hl=>el3 us hl fun _ _ _=>rfl,F17,PySem.W.mg_of X G a17,F17.binds fun _ _ _ _ _ _ us hl=>el2 us hl fun _ _=>rfl,F18,PySem.W.mg_of X G a18,F18.binds fun _ _ _ _ _ _ us hl=>el2 us hl fun _ _=>rfl,F19,PySem.W.mg_of X G a19,F19.binds fun _ _ _ _ _ _ us hl=>el2 us hl fun _ _=>rfl,F20,PySem.W.mg_of X G a20,F20.binds fun _ _ _ _ _ _ us hl=>el4 us hl fun _ _ _ _=>rfl,F21,PySem.W.mg_of X G a21,F21.binds fun _ _ _ _ _ _ us hl=>el3 us hl fun _ _ _=>rfl,F22,PySem.W.mg_of X G a22,F22.binds fun _ _ _ _ _ _ us hl=>el3 us hl fun _ _ _=>rfl,F23,PySem.W.mg_of X G a23,F23.binds fun _ _ _ _ _ _ us hl=>el2 us hl fun _ _=>rfl,F24,PySem.W.mg_of X G a24,F24.binds fun _ _ _ _ _ _ us hl=>el4 us hl fun _ _ _ _=>rfl,F25,PySem.W.mg_of X G a25,F25.binds fun _ _ _ _ _ _ us hl=>el3 us hl fun _ _ _=>rfl,F26,PySem.W.mg_of X G a26,F26.binds fun _ _ _ _ _ _ us hl=>el3 us hl fun _ _ _=>rfl,F27,PySem.W.mg_of X G a27,F27.binds fun _ _ _ _ _ _ us hl=>el3 us hl fun _ _ _=>rfl,F28,PySem.W.mg_of X G a28,F28.binds fun _ _ _ _ _ _ us hl=>el1 us hl fun _=>rfl,F29,PySem.W.mg_of X G a29,F29.binds fun _ _ _ _ _ _ us hl=>el1 us hl fun _=>rfl,F30,PySem.W.mg_of X G a30,F30.binds fun _ _ _ _ _ _ us hl=>el1 us hl fun _=>rfl,F31,PySem.W.mg_of X G a31,F31.binds fun _ _ _ _ _ _ us hl=>el1 us hl fun _=>rfl,F32,PySem.W.mg_of X G a32,F32.binds fun _ _ _ _ _ _ us hl=>el1 us hl fun _=>rfl,F33,PySem.W.mg_of X G a33,F33.binds fun _ _ _ _ _ _ us hl=>el1 us hl fun _=>rfl,F34,PySem.W.mg_of X G a34,F34.binds fun _ _ _ _ _ _ us hl=>el1 us hl fun _=>rfl,F35,PySem.W.mg_of X G a35,F35.binds fun _ _ _ _ _ _ us hl=>el1 us hl fun _=>rfl,F36,PySem.W.mg_of X G a36,F36.binds fun _ _ _ _ _ _ us hl=>el1 us hl fun _=>rfl,F37,PySem.W.mg_of X G a37,F37.binds fun _ _ _ _ _ _ us hl=>el1 us hl fun _=>rfl,F38,PySem.W.mg_of X G a38,F38.binds fun _ _ _ _ _ _ us hl=>el3 us hl fun _ _ _=>rfl,F39,PySem.W.mg_of X G a39,F39.binds fun _ _ _ _ _ _ us hl=>el3 us hl fun _ _ _=>rfl,F40,PySem.W.mg_of X G a40,F40.binds fun _ _ _ _ _ _ us hl=>el2 us hl fun _ _=>rfl,F41,PySem.W.mg_of X G a41,F41.binds fun _ _ _ _ _ _ us hl=>el2 us hl fun _ _=>rfl,F42,PySem.W.mg_of X G a42,F42.binds fun _ _ _ _ _ _ us hl=>el2 us hl fun _ _=>rfl,F43,PySem.W.mg_of X G a43,F43.binds fun _ _ _ _ _ _ us hl=>el2 us hl fun _ _=>rfl,F44,PySem.W.mg_of X G a44,F44.binds fun _ _ _ _ _ _ us hl=>el3 us hl fun _ _ _=>rfl,F45,PySem.W.mg_of X G a45,F45.binds fun _ _ _ _ _ _ us hl=>el3 us hl fun _ _ _=>rfl,F46,PySem.W.mg_of X G a46,F46.binds fun _ _ _ _ _ _ us hl=>el1 us hl fun _=>rfl,F47,PySem.W.mg_of X G a47,F47.binds fun _ _ _ _ _ _ us hl=>el1 us hl fun _=>rfl,F48,PySem.W.mg_of X G a48,F48.binds fun _ _ _ _ _ _ us hl=>el1 us hl fun _=>rfl,F49,PySem.W.mg_of X G a49,F49.binds fun _ _ _ _ _ _ us hl=>el1 us hl fun _=>rfl,F50,PySem.W.mg_of X G a50,F50.binds fun _ _ _ _ _ _ us hl=>el1 us hl fun _=>rfl,F51,PySem.W.mg_of X G a51,F51.binds fun _ _ _ _ _ _ us hl=>el3 us hl fun _ _ _=>rfl,F52,PySem.W.mg_of X G a52,F52.binds fun _ _ _ _ _ _ us hl=>el1 us hl fun _=>rfl,F53,PySem.W.mg_of X G a53,F53.binds fun _ _ _ _ _ _ us hl=>el2 us hl fun _ _=>rfl,F54,PySem.W.mg_of X G a54,F54.binds fun _ _ _ _ _ _ us hl=>el2 us hl fun _ _=>rfl,F55,PySem.W.mg_of X G a55,F55.binds fun _ _ _ _ _ _ us hl=>el3 us hl fun _ _ _=>rfl,F56,⟨a56,i56,F56.kp⟩,F56.binds fun _ _ _ _ _ _ us hl=>el1 us hl fun _=>rfl,F57,⟨a57,i57,F57.kp⟩,F57.binds fun _ _ _ _ _ _ us hl=>el2 us hl fun _ _=>rfl,F58,⟨a58,i58,F58.kp⟩,F58.binds fun _ _ _ _ _ _ us hl=>el3 us hl fun _ _ _=>rfl,F59,⟨a59,i59,F59.kp⟩,F59.binds fun _ _ _ _ _ _ us hl=>el2 us hl fun _ _=>rfl,F60,PySem.W.mg_of X G a60,F60.binds fun _ _ _ _ _ _ us hl=>el1 us hl fun _=>rfl,⟨xx_MissError,PySem.W.mg_of X G ax_MissError⟩,⟨xx_NoNumber,PySem.W.mg_of X G ax_NoNumber⟩,⟨xx_NoMarks,PySem.W.mg_of X G ax_NoMarks⟩,⟨xx_NoKind,PySem.W.mg_of X G ax_NoKind⟩,⟨xx_NoBend,PySem.W.mg_of X G ax_NoBend⟩,⟨xx_NoAnswer,PySem.W.mg_of X G ax_NoAnswer⟩,⟨xx_NoText,PySem.W.mg_of X G ax_NoText⟩,⟨xx_NoName,PySem.W.mg_of X G ax_NoName⟩,⟨xx_NoRow,PySem.W.mg_of X G ax_NoRow⟩,PySem.W.mg_none_of X G z_abs,PySem.W.mg_none_of X G z_all,PySem.W.mg_none_of X G z_enumerate,PySem.W.mg_none_of X G z_int,PySem.W.mg_none_of X G z_isinstance,PySem.W.mg_none_of X G z_len,PySem.W.mg_none_of X G z_max,PySem.W.mg_none_of X G z_min,PySem.W.mg_none_of X G z_range,PySem.W.mg_none_of X G z_sorted,PySem.W.mg_none_of X G z_str,PySem.W.mg_none_of X G z_zip,PySem.W.mg_of X G oa_Desk,⟨pg_Desk,hd_Desk,po_Desk,sa_Desk⟩,⟨mk_Desk,a56,i56,kc_Desk⟩,na_Desk,PySem.W.mg_of X G zc_COUNTS,⟨_,PySem.W.mg_of X G zc_FIGURES⟩,PySem.W.mg_of X G zc_KINDS,ktup (xs:=[(.str "far"),(.str "sum"),(.str "square")]) lk_KINDS (Nat.le_of_lt (ze3 (show 3 ≤ 1000 by decide))) (.cons ⟨_,rfl⟩ (.cons ⟨_,rfl⟩ (.cons ⟨_,rfl⟩ .nil))) fun _=>.cons (.str "far") (.cons (.str "sum") (.cons (.str "square") .nil)),⟨_,PySem.W.mg_of X G zc_LETTERS⟩,⟨_,PySem.W.mg_of X G zc_MOST_BEND⟩,⟨_,PySem.W.mg_of X G zc_MOST_FIGURES⟩,⟨_,PySem.W.mg_of X G zc_MOST_LETTERS⟩,⟨_,PySem.W.mg_of X G zc_MOST_MARKS⟩,⟨_,PySem.W.mg_of X G zc_MOST_NUMBERS⟩,⟨_,PySem.W.mg_of X G zc_MOST_STEPS⟩,PySem.W.mg_of X G zc_NOUGHT,ktup (xs:=[(.int 0),(.int 1)]) lk_NOUGHT (Nat.le_of_lt (ze3 (show 2 ≤ 1000 by decide))) (.cons ⟨_,rfl⟩ (.cons ⟨_,rfl⟩ .nil)) fun _=>.cons (.int 0) (.cons (.int 1) .nil)⟩
  exact ⟨_,fun s v=>.of_eq rfl,fun base _ _=>wk2 T ⟨nz_COUNTS,_,_,lk_COUNTS,kl_COUNTS,.cons ⟨⟨_,rfl⟩,rfl⟩ (.cons ⟨⟨_,rfl⟩,rfl⟩ (.cons ⟨⟨_,rfl⟩,rfl⟩ (.cons ⟨⟨_,rfl⟩,rfl⟩ (.cons ⟨⟨_,rfl⟩,rfl⟩ (.cons ⟨⟨_,rfl⟩,rfl⟩ (.cons ⟨⟨_,rfl⟩,rfl⟩ (.cons ⟨⟨_,rfl⟩,rfl⟩ (.nil)))))))),(List.forall_mem_cons.2 ⟨ktup (xs:=[(.int 3),(.int 62)]) lt0_COUNTS (Nat.le_of_lt (ze3 (show 2 ≤ 1000 by decide))) (.cons ⟨_,rfl⟩ (.cons ⟨_,rfl⟩ (.nil))) fun _=>.cons (.int 3) (.cons (.int 62) (.nil)),(List.forall_mem_cons.2 ⟨ktup (xs:=[(.int 2),(.int 2)]) lt1_COUNTS (Nat.le_of_lt (ze3 (show 2 ≤ 1000 by decide))) (.cons ⟨_,rfl⟩ (.cons ⟨_,rfl⟩ (.nil))) fun _=>.cons (.int 2) (.cons (.int 2) (.nil)),(List.forall_mem_cons.2 ⟨ktup (xs:=[(.int 1),(.int 1)]) lt2_COUNTS (Nat.le_of_lt (ze3 (show 2 ≤ 1000 by decide))) (.cons ⟨_,rfl⟩ (.cons ⟨_,rfl⟩ (.nil))) fun _=>.cons (.int 1) (.cons (.int 1) (.nil)),(List.forall_mem_cons.2 ⟨ktup (xs:=[(.int 2),(.int 2)]) lt3_COUNTS (Nat.le_of_lt (ze3 (show 2 ≤ 1000 by decide))) (.cons ⟨_,rfl⟩ (.cons ⟨_,rfl⟩ (.nil))) fun _=>.cons (.int 2) (.cons (.int 2) (.nil)),(List.forall_mem_cons.2 ⟨ktup (xs:=[(.int 4),(.int 4)]) lt4_COUNTS (Nat.le_of_lt (ze3 (show 2 ≤ 1000 by decide))) (.cons ⟨_,rfl⟩ (.cons ⟨_,rfl⟩ (.nil))) fun _=>.cons (.int 4) (.cons (.int 4) (.nil)),(List.forall_mem_cons.2 ⟨ktup (xs:=[(.int 3),(.int 3)]) lt5_COUNTS (Nat.le_of_lt (ze3 (show 2 ≤ 1000 by decide))) (.cons ⟨_,rfl⟩ (.cons ⟨_,rfl⟩ (.nil))) fun _=>.cons (.int 3) (.cons (.int 3) (.nil)),(List.forall_mem_cons.2 ⟨ktup (xs:=[(.int 4),(.int 4)]) lt6_COUNTS (Nat.le_of_lt (ze3 (show 2 ≤ 1000 by decide))) (.cons ⟨_,rfl⟩ (.cons ⟨_,rfl⟩ (.nil))) fun _=>.cons (.int 4) (.cons (.int 4) (.nil)),(List.forall_mem_cons.2 ⟨ktup (xs:=[(.int 4),(.int 63)]) lt7_COUNTS (Nat.le_of_lt (ze3 (show 2 ≤ 1000 by decide))) (.cons ⟨_,rfl⟩ (.cons ⟨_,rfl⟩ (.nil))) fun _=>.cons (.int 4) (.cons (.int 63) (.nil)),(fun _ h=>nomatch h)⟩)⟩)⟩)⟩)⟩)⟩)⟩)⟩)⟩⟩
end My
def PySem.W.Fast.tw8339691473457907104:Unit:=()
def PySem.W.Fast.tw9382431017802501490:Unit:=()
def PySem.W.Fast.tw17814688280524740846:Unit:=()
def PySem.W.Fast.tw7501134616216051059:Unit:=()
def PySem.W.Fast.tw8385231974820829886:Unit:=()
def PySem.W.Fast.tw12826096357281622711:Unit:=()
def PySem.W.Fast.tw15986593003245554372:Unit:=()
def PySem.W.Fast.tw5881400429618209468:Unit:=()
def PySem.W.Fast.tw17650646811607431051:Unit:=()
def PySem.W.Fast.tw3735388449096659212:Unit:=()
def PySem.W.Fast.tw16320330785914955030:Unit:=()
def PySem.W.Fast.tw14145102925358602559:Unit:=()
def PySem.W.Fast.tw2936657396611599194:Unit:=()
def PySem.W.Fast.tw11593146462362965327:Unit:=()
def PySem.W.Fast.tw8805837516740005938:Unit:=()
def PySem.W.Fast.tw1153293429662152672:Unit:=()
def PySem.W.Fast.tw2085099544277555584:Unit:=()
def PySem.W.Fast.tw9112819195345598763:Unit:=()
def PySem.W.Fast.tw8650628295714111138:Unit:=()
def PySem.W.Fast.tw11180347241038787143:Unit:=()
def PySem.W.Fast.tw5990272368934214058:Unit:=()
def PySem.W.Fast.tw16438214810409957496:Unit:=()
def PySem.W.Fast.tw3516888871790147440:Unit:=()
def PySem.W.Fast.tw5912664850664241439:Unit:=()
def PySem.W.Fast.tw13900786273005921600:Unit:=()
def PySem.W.Fast.tw12949533402383965918:Unit:=()
def PySem.W.Fast.tw5520346985815542820:Unit:=()
def PySem.W.Fast.tw18028113605664907871:Unit:=()
def PySem.W.Fast.tw16936695933307924509:Unit:=()
def PySem.W.Fast.tw8597524810017445245:Unit:=()
def PySem.W.Fast.tw9173267403713089847:Unit:=()
def PySem.W.Fast.tw16590997810138276508:Unit:=()
def PySem.W.Fast.tw3455946125132850711:Unit:=()
def PySem.W.Fast.tw8434099446020058568:Unit:=()
def PySem.W.Fast.tw11514900226768702780:Unit:=()
def PySem.W.Fast.tw1492750502953171385:Unit:=()
def PySem.W.Fast.tw2438557583642011949:Unit:=()
def PySem.W.Fast.tw1006931795001571808:Unit:=()
def PySem.W.Fast.tw949767867100296666:Unit:=()
def PySem.W.Fast.tw8751257180396951948:Unit:=()
def PySem.W.Fast.tw9909613413678640325:Unit:=()
def PySem.W.Fast.tw18119395102655504718:Unit:=()
def PySem.W.Fast.tw13901169099719552663:Unit:=()
def PySem.W.Fast.tw13564506933668834945:Unit:=()
def PySem.W.Fast.tw12800658809039499822:Unit:=()
def PySem.W.Fast.tw15103922391985567743:Unit:=()
def PySem.W.Fast.tw8341334001658278627:Unit:=()
def PySem.W.Fast.tw15278301205986495657:Unit:=()
def PySem.W.Fast.tw3122338648953695923:Unit:=()
def PySem.W.Fast.tw10763456687130632851:Unit:=()
def PySem.W.Fast.tw14744556589800040375:Unit:=()
def PySem.W.Fast.tw13483803567139199053:Unit:=()
def PySem.W.Fast.tw9738917467151277889:Unit:=()
def PySem.W.Fast.tw17399081249716927914:Unit:=()
def PySem.W.Fast.tw3153292224452044341:Unit:=()
def PySem.W.Fast.tw968137026611226841:Unit:=()
def PySem.W.Fast.tw17260358128310032484:Unit:=()
def PySem.W.Fast.tw3973498484646036694:Unit:=()
def PySem.W.Fast.tw1206257853213978928:Unit:=()
def PySem.W.Fast.tw18086374487157504980:Unit:=()
def PySem.W.Fast.tw10991990276475108891:Unit:=()
def PySem.W.Fast.tw7043207892561562266:Unit:=()
def PySem.W.Fast.tw16508935227224721119:Unit:=()
def PySem.W.Fast.tw9707112730758707072:Unit:=()
def PySem.W.Fast.tw10669645488411611869:Unit:=()
def PySem.W.Fast.tw9839614702117684019:Unit:=()
def PySem.W.Fast.tw12021465692070647986:Unit:=()
def PySem.W.Fast.tw16449756574474694087:Unit:=()
def PySem.W.Fast.tw17948588492594146980:Unit:=()
def PySem.W.Fast.tw4778559821570389943:Unit:=()
def PySem.W.Fast.tw17694217424667671570:Unit:=()
def PySem.W.Fast.tw14499130364290462884:Unit:=()
def PySem.W.Fast.tw9035647041822039301:Unit:=()
def PySem.W.Fast.tw12928748035406873662:Unit:=()
def PySem.W.Fast.tw13610852786659830850:Unit:=()
def PySem.W.Fast.tw11175447519984388837:Unit:=()
def PySem.W.Fast.tw9527942111533421750:Unit:=()
def PySem.W.Fast.tw1256676343885441049:Unit:=()
def PySem.W.Fast.tw18288353034754399570:Unit:=()
def PySem.W.Fast.tw3252529527627719529:Unit:=()
def PySem.W.Fast.tw15589877663989506286:Unit:=()
def PySem.W.Fast.tw13051984121962026919:Unit:=()
def PySem.W.Fast.tw8805430994726141937:Unit:=()
def PySem.W.Fast.tw8903808598027598946:Unit:=()
def PySem.W.Fast.tw1073288959499789313:Unit:=()
def PySem.W.Fast.tw18183714001194010161:Unit:=()
def PySem.W.Fast.tw25694569974631424:Unit:=()
def PySem.W.Fast.tw8988503078865772385:Unit:=()
def PySem.W.Fast.tw7003592761743635480:Unit:=()
def PySem.W.Fast.tw4920301800138714339:Unit:=()
def PySem.W.Fast.tw9957777064683355405:Unit:=()
def PySem.W.Fast.tw18185856726702133029:Unit:=()
def PySem.W.Fast.tw5356679367679975961:Unit:=()
def PySem.W.Fast.tw5962656200952722825:Unit:=()
def PySem.W.Fast.tw7871355154576620203:Unit:=()
def PySem.W.Fast.tw13796873403625384032:Unit:=()
def PySem.W.Fast.tw17374051124086833634:Unit:=()
def PySem.W.Fast.tw5284558447051333618:Unit:=()
def PySem.W.Fast.tw14301763859190169834:Unit:=()
def PySem.W.Fast.tw8702228004143076678:Unit:=()
def PySem.W.Fast.tw244934001001673158:Unit:=()
def PySem.W.Fast.tw4792804005235702836:Unit:=()
def PySem.W.Fast.tw17741064051457336327:Unit:=()
def PySem.W.Fast.tw10582377360844644733:Unit:=()
def PySem.W.Fast.tw15487737059229992874:Unit:=()
def PySem.W.Fast.tw12957660002091889186:Unit:=()
def PySem.W.Fast.tw13962370529014202840:Unit:=()
def PySem.W.Fast.tw4562653406350793854:Unit:=()
def PySem.W.Fast.tw5138392896609498411:Unit:=()
def PySem.W.Fast.tw5711406003871657028:Unit:=()
def PySem.W.Fast.tw6158960871530571844:Unit:=()
def PySem.W.Fast.tw15263848232211461710:Unit:=()
def PySem.W.Fast.tw11796550217289266112:Unit:=()
def PySem.W.Fast.tw16664699945116033237:Unit:=()
def PySem.W.Fast.tw699147289440916963:Unit:=()
def PySem.W.Fast.tw9189258397107585468:Unit:=()
def PySem.W.Fast.tw12946262362360942884:Unit:=()
def PySem.W.Fast.tw9172082220710850665:Unit:=()
def PySem.W.Fast.tw8468077343004454880:Unit:=()
def PySem.W.Fast.tw11951176724183579986:Unit:=()
def PySem.W.Fast.tw5081255012961480764:Unit:=()
def PySem.W.Fast.tw18170028024087172225:Unit:=()
def PySem.W.Fast.tw14780049782739723140:Unit:=()
def PySem.W.Fast.tw14062765980676012812:Unit:=()
def PySem.W.Fast.tw9675895883731303835:Unit:=()
def PySem.W.Fast.tw6363776083644382827:Unit:=()
def PySem.W.Fast.tw3547777355337313267:Unit:=()
def PySem.W.Fast.tw8855356869943876544:Unit:=()
def PySem.W.Fast.tw4750890077188628544:Unit:=()
def PySem.W.Fast.tw5017388515729103038:Unit:=()
def PySem.W.Fast.tw4058217299214440657:Unit:=()
def PySem.W.Fast.tw15907900371827548976:Unit:=()
def PySem.W.Fast.tw17783989320815056538:Unit:=()
def PySem.W.Fast.tw15344116082877831990:Unit:=()
def PySem.W.Fast.tw5777367259013604993:Unit:=()
def PySem.W.Fast.tw5235284115361558070:Unit:=()
def PySem.W.Fast.tw735398293181545794:Unit:=()
def PySem.W.Fast.tw13844440257888605565:Unit:=()
def PySem.W.Fast.tw6149840606446188322:Unit:=()
def PySem.W.Fast.tw17152641443284277423:Unit:=()
def PySem.W.Fast.tw6433917424425449295:Unit:=()
def PySem.W.Fast.tw12937709561212334721:Unit:=()
def PySem.W.Fast.tw7504359814498228233:Unit:=()
def PySem.W.Fast.tw15905498910392544947:Unit:=()
def PySem.W.Fast.tw11233737817966316249:Unit:=()
def PySem.W.Fast.tw1856854988444638928:Unit:=()
def PySem.W.Fast.tw6620178726150015428:Unit:=()
def PySem.W.Fast.tw15030246364310877055:Unit:=()
def PySem.W.Fast.tw5890102286197653719:Unit:=()
def PySem.W.Fast.tw8240671967891096994:Unit:=()
def PySem.W.Fast.tw7115933215816760709:Unit:=()
def PySem.W.Fast.tw2590970912131721112:Unit:=()
def PySem.W.Fast.tw15614884360924480677:Unit:=()
def PySem.W.Fast.tw16900217387684382438:Unit:=()
def PySem.W.Fast.tw12941573815369157567:Unit:=()
def PySem.W.Fast.tw3984525330985655955:Unit:=()
def PySem.W.Fast.tw8471578891764928468:Unit:=()
def PySem.W.Fast.tw15676349303047108300:Unit:=()
def PySem.W.Fast.tw350837134283041947:Unit:=()
def PySem.W.Fast.tw8183403361484197403:Unit:=()
def PySem.W.Fast.tw11657811086490555365:Unit:=()
def PySem.W.Fast.tw12853447095543087003:Unit:=()
def PySem.W.Fast.tw13529928665810320033:Unit:=()
def PySem.W.Fast.tw1071670734683458090:Unit:=()
def PySem.W.Fast.tw1788462350837093672:Unit:=()
def PySem.W.Fast.tw1311677944720024543:Unit:=()
def PySem.W.Fast.tw2668473942637232658:Unit:=()
def PySem.W.Fast.tw6081922272846972632:Unit:=()
def PySem.W.Fast.tw6581730697799147921:Unit:=()
def PySem.W.Fast.tw8613261439983965447:Unit:=()
def PySem.W.Fast.tw71524353357142147:Unit:=()
def PySem.W.Fast.tw5664460116522431390:Unit:=()
def PySem.W.Fast.tw3893491954223436006:Unit:=()
def PySem.W.Fast.tw8383734456947887103:Unit:=()
def PySem.W.Fast.tw14883430341254771308:Unit:=()
def PySem.W.Fast.tw6545041511885098190:Unit:=()
def PySem.W.Fast.tw3232968819081098945:Unit:=()
def PySem.W.Fast.tw18142287936389073031:Unit:=()
def PySem.W.Fast.tw13054883436127187270:Unit:=()
def PySem.W.Fast.tw9793848601701171079:Unit:=()
def PySem.W.Fast.tw1803812068172290756:Unit:=()
def PySem.W.Fast.tw18446420305815849698:Unit:=()
def PySem.W.Fast.tw6984669428654305222:Unit:=()
def PySem.W.Fast.tw18311572351256255685:Unit:=()
def PySem.W.Fast.tw5911086973583782395:Unit:=()
def PySem.W.Fast.tw15428912047502888369:Unit:=()
def PySem.W.Fast.tw10089161106675160032:Unit:=()
def PySem.W.Fast.tw10795836701038154794:Unit:=()
def PySem.W.Fast.tw8348119344788260583:Unit:=()
def PySem.W.Fast.tw1061468495392143091:Unit:=()
def PySem.W.Fast.tw2384737780613858423:Unit:=()
def PySem.W.Fast.tw6798235866424632897:Unit:=()
def PySem.W.Fast.tw1183737230532951346:Unit:=()
def PySem.W.Fast.tw3669359036054774957:Unit:=()
def PySem.W.Fast.tw14343252732942992370:Unit:=()
def PySem.W.Fast.tw7609363969709424175:Unit:=()
def PySem.W.Fast.tw3493745490272245345:Unit:=()
def PySem.W.Fast.tw16689766461743227116:Unit:=()
def PySem.W.Fast.tw12667729246507280902:Unit:=()
def PySem.W.Fast.tw16256103864433770828:Unit:=()
def PySem.W.Fast.tw17435622986797764126:Unit:=()
def PySem.W.Fast.tw13661686892518170973:Unit:=()
def PySem.W.Fast.tw631106349325008534:Unit:=()
def PySem.W.Fast.tw15066274398978413456:Unit:=()
def PySem.W.Fast.tw16167215855659441529:Unit:=()
def PySem.W.Fast.tw7287441566856472475:Unit:=()
def PySem.W.Fast.tw4130523413275992519:Unit:=()
def PySem.W.Fast.tw6450366269186816263:Unit:=()
def PySem.W.Fast.tw1954167229177961353:Unit:=()
def PySem.W.Fast.tw9506856202715665863:Unit:=()
def PySem.W.Fast.tw9147814015551265445:Unit:=()
def PySem.W.Fast.tw5083655161724180401:Unit:=()
def PySem.W.Fast.tw1140460749752745130:Unit:=()
def PySem.W.Fast.tw11274951290871406776:Unit:=()
def PySem.W.Fast.tw6354734532797559395:Unit:=()
def PySem.W.Fast.tw12672227879444938687:Unit:=()
def PySem.W.Fast.tw11608887108740811954:Unit:=()
def PySem.W.Fast.tw5845530552010596638:Unit:=()
def PySem.W.Fast.tw17776206191442111858:Unit:=()
def PySem.W.Fast.tw14057975114539562634:Unit:=()
def PySem.W.Fast.tw7131021722758840839:Unit:=()
def PySem.W.Fast.tw6141252097794534653:Unit:=()
def PySem.W.Fast.tw329559977902470106:Unit:=()
def PySem.W.Fast.tw4919134876485519774:Unit:=()
def PySem.W.Fast.tw14494556179884300375:Unit:=()
def PySem.W.Fast.tw17650054088333900597:Unit:=()
def PySem.W.Fast.tw16912127900214090557:Unit:=()
def PySem.W.Fast.tw4322353492864016559:Unit:=()
def PySem.W.Fast.tw1666917216943400156:Unit:=()
def PySem.W.Fast.tw2593760181695138956:Unit:=()
def PySem.W.Fast.tw10234683927291407376:Unit:=()
def PySem.W.Fast.tw14178426212035709546:Unit:=()
def PySem.W.Fast.tw9871864829792240544:Unit:=()
def PySem.W.Fast.tw6520801593453089213:Unit:=()
def PySem.W.Fast.tw5833319078215071875:Unit:=()
def PySem.W.Fast.tw12240520380358512659:Unit:=()
def PySem.W.Fast.tw14344650427604306586:Unit:=()
def PySem.W.Fast.tw4341648224167181324:Unit:=()
def PySem.W.Fast.tw14924088077164155805:Unit:=()
def PySem.W.Fast.tw15756547709159430989:Unit:=()
def PySem.W.Fast.tw14094728601066070792:Unit:=()
open PySem PySem.W PyProof.Rows
set_option maxRecDepth 100000 in
set_option maxHeartbeats 0 in
theorem PySem.Challenge.cw_leastmiss_k83_whole_few_steps_by_text_holds : PySem.Challenge.rw_leastmiss_k83_whole_few_steps_by_text.Holds := by
  w_on; o_law; k_head; (case hw => w_witness2)
  k_fill
  refine Lx.walkB (l := PySem.Challenge.rw_leastmiss_k83_whole_few_steps_by_text) (k := 14) rfl rfl ⟨rfl, by decide, by decide⟩ (fun w h Y => PySem.W.kIn_of Y) ?F
  case F =>
    intro w mg fa h KX G hmg
    refine' My.all_mk KX G hmg ?oa_Desk ?pg_Desk ?hd_Desk ?po_Desk ?sa_Desk ?mk_Desk ?kc_Desk ?na_Desk ?a0 ?F0 ?a1 ?F1 ?a2 ?F2 ?a3 ?F3 ?a4 ?F4 ?a5 ?F5 ?a6 ?F6 ?a7 ?F7 ?a8 ?F8 ?a9 ?F9 ?a10 ?F10 ?a11 ?F11 ?a12 ?F12 ?a13 ?F13 ?a14 ?F14 ?a15 ?F15 ?a16 ?F16 ?a17 ?F17 ?a18 ?F18 ?a19 ?F19 ?a20 ?F20 ?a21 ?F21 ?a22 ?F22 ?a23 ?F23 ?a24 ?F24 ?a25 ?F25 ?a26 ?F26 ?a27 ?F27 ?a28 ?F28 ?a29 ?F29 ?a30 ?F30 ?a31 ?F31 ?a32 ?F32 ?a33 ?F33 ?a34 ?F34 ?a35 ?F35 ?a36 ?F36 ?a37 ?F37 ?a38 ?F38 ?a39 ?F39 ?a40 ?F40 ?a41 ?F41 ?a42 ?F42 ?a43 ?F43 ?a44 ?F44 ?a45 ?F45 ?a46 ?F46 ?a47 ?F47 ?a48 ?F48 ?a49 ?F49 ?a50 ?F50 ?a51 ?F51 ?a52 ?F52 ?a53 ?F53 ?a54 ?F54 ?a55 ?F55 ?a56 ?i56 ?F56 ?a57 ?i57 ?F57 ?a58 ?i58 ?F58 ?a59 ?i59 ?F59 ?a60 ?F60 ?ax_MissError ?xx_MissError ?ax_NoNumber ?xx_NoNumber ?ax_NoMarks ?xx_NoMarks ?ax_NoKind ?xx_NoKind ?ax_NoBend ?xx_NoBend ?ax_NoAnswer ?xx_NoAnswer ?ax_NoText ?xx_NoText ?ax_NoName ?xx_NoName ?ax_NoRow ?xx_NoRow ?z_abs ?z_all ?z_enumerate ?z_int ?z_isinstance ?z_len ?z_max ?z_min ?z_range ?z_sorted ?z_str ?z_zip ?zc_COUNTS ?lk_COUNTS ?lt0_COUNTS ?lt1_COUNTS ?lt2_COUNTS ?lt3_COUNTS ?lt4_COUNTS ?lt5_COUNTS ?lt6_COUNTS ?lt7_COUNTS ?kl_COUNTS ?nz_COUNTS ?zc_FIGURES ?zc_KINDS ?lk_KINDS ?zc_LETTERS ?zc_MOST_BEND ?zc_MOST_FIGURES ?zc_MOST_LETTERS ?zc_MOST_MARKS ?zc_MOST_NUMBERS ?zc_MOST_STEPS ?zc_NOUGHT ?lk_NOUGHT
    (case oa_Desk => k_is)
    (case pg_Desk => k_is)
    (case hd_Desk => k_is)
    (case po_Desk => k_is)
    (case sa_Desk => k_is)
    (case mk_Desk => k_is)
    (case kc_Desk => k_is)
    (case na_Desk => k_is)
    (case a0 => k_is)
    (case F0 => refine' L2.fun_mk ?l ?c ?k; (case l => k_is); (case c => k_is); (case k => k_is))
    (case a1 => k_is)
    (case F1 => refine' L2.fun_mk ?l ?c ?k; (case l => k_is); (case c => k_is); (case k => k_is))
    (case a2 => k_is)
    (case F2 => refine' L2.fun_mk ?l ?c ?k; (case l => k_is); (case c => k_is); (case k => k_is))
    (case a3 => k_is)
    (case F3 => refine' L2.fun_mk ?l ?c ?k; (case l => k_is); (case c => k_is); (case k => k_is))
    (case a4 => k_is)
    (case F4 => refine' L2.fun_mk ?l ?c ?k; (case l => k_is); (case c => k_is); (case k => k_is))
    (case a5 => k_is)
    (case F5 => refine' L2.fun_mk ?l ?c ?k; (case l => k_is); (case c => k_is); (case k => k_is))
    (case a6 => k_is)
    (case F6 => refine' L2.fun_mk ?l ?c ?k; (case l => k_is); (case c => k_is); (case k => k_is))
    (case a7 => k_is)
    (case F7 => refine' L2.fun_mk ?l ?c ?k; (case l => k_is); (case c => k_is); (case k => k_is))
    (case a8 => k_is)
    (case F8 => refine' L2.fun_mk ?l ?c ?k; (case l => k_is); (case c => k_is); (case k => k_is))
    (case a9 => k_is)
    (case F9 => refine' L2.fun_mk ?l ?c ?k; (case l => k_is); (case c => k_is); (case k => k_is))
    (case a10 => k_is)
    (case F10 => refine' L2.fun_mk ?l ?c ?k; (case l => k_is); (case c => k_is); (case k => k_is))
    (case a11 => k_is)
    (case F11 => refine' L2.fun_mk ?l ?c ?k; (case l => k_is); (case c => k_is); (case k => k_is))
    (case a12 => k_is)
    (case F12 => refine' L2.fun_mk ?l ?c ?k; (case l => k_is); (case c => k_is); (case k => k_is))
    (case a13 => k_is)
    (case F13 => refine' L2.fun_mk ?l ?c ?k; (case l => k_is); (case c => k_is); (case k => k_is))
    (case a14 => k_is)
    (case F14 => refine' L2.fun_mk ?l ?c ?k; (case l => k_is); (case c => k_is); (case k => k_is))
    (case a15 => k_is)
    (case F15 => refine' L2.fun_mk ?l ?c ?k; (case l => k_is); (case c => k_is); (case k => k_is))
    (case a16 => k_is)
    (case F16 => refine' L2.fun_mk ?l ?c ?k; (case l => k_is); (case c => k_is); (case k => k_is))
    (case a17 => k_is)
    (case F17 => refine' L2.fun_mk ?l ?c ?k; (case l => k_is); (case c => k_is); (case k => k_is))
    (case a18 => k_is)
    (case F18 => refine' L2.fun_mk ?l ?c ?k; (case l => k_is); (case c => k_is); (case k => k_is))
    (case a19 => k_is)
    (case F19 => refine' L2.fun_mk ?l ?c ?k; (case l => k_is); (case c => k_is); (case k => k_is))
    (case a20 => k_is)
    (case F20 => refine' L2.fun_mk ?l ?c ?k; (case l => k_is); (case c => k_is); (case k => k_is))
    (case a21 => k_is)
    (case F21 => refine' L2.fun_mk ?l ?c ?k; (case l => k_is); (case c => k_is); (case k => k_is))
    (case a22 => k_is)
    (case F22 => refine' L2.fun_mk ?l ?c ?k; (case l => k_is); (case c => k_is); (case k => k_is))
    (case a23 => k_is)
    (case F23 => refine' L2.fun_mk ?l ?c ?k; (case l => k_is); (case c => k_is); (case k => k_is))
    (case a24 => k_is)
    (case F24 => refine' L2.fun_mk ?l ?c ?k; (case l => k_is); (case c => k_is); (case k => k_is))
    (case a25 => k_is)
    (case F25 => refine' L2.fun_mk ?l ?c ?k; (case l => k_is); (case c => k_is); (case k => k_is))
    (case a26 => k_is)
    (case F26 => refine' L2.fun_mk ?l ?c ?k; (case l => k_is); (case c => k_is); (case k => k_is))
    (case a27 => k_is)
    (case F27 => refine' L2.fun_mk ?l ?c ?k; (case l => k_is); (case c => k_is); (case k => k_is))
    (case a28 => k_is)
    (case F28 => refine' L2.fun_mk ?l ?c ?k; (case l => k_is); (case c => k_is); (case k => k_is))
    (case a29 => k_is)
    (case F29 => refine' L2.fun_mk ?l ?c ?k; (case l => k_is); (case c => k_is); (case k => k_is))
    (case a30 => k_is)
    (case F30 => refine' L2.fun_mk ?l ?c ?k; (case l => k_is); (case c => k_is); (case k => k_is))
    (case a31 => k_is)
    (case F31 => refine' L2.fun_mk ?l ?c ?k; (case l => k_is); (case c => k_is); (case k => k_is))
    (case a32 => k_is)
    (case F32 => refine' L2.fun_mk ?l ?c ?k; (case l => k_is); (case c => k_is); (case k => k_is))
    (case a33 => k_is)
    (case F33 => refine' L2.fun_mk ?l ?c ?k; (case l => k_is); (case c => k_is); (case k => k_is))
    (case a34 => k_is)
    (case F34 => refine' L2.fun_mk ?l ?c ?k; (case l => k_is); (case c => k_is); (case k => k_is))
    (case a35 => k_is)
    (case F35 => refine' L2.fun_mk ?l ?c ?k; (case l => k_is); (case c => k_is); (case k => k_is))
    (case a36 => k_is)
    (case F36 => refine' L2.fun_mk ?l ?c ?k; (case l => k_is); (case c => k_is); (case k => k_is))
    (case a37 => k_is)
    (case F37 => refine' L2.fun_mk ?l ?c ?k; (case l => k_is); (case c => k_is); (case k => k_is))
    (case a38 => k_is)
    (case F38 => refine' L2.fun_mk ?l ?c ?k; (case l => k_is); (case c => k_is); (case k => k_is))
    (case a39 => k_is)
    (case F39 => refine' L2.fun_mk ?l ?c ?k; (case l => k_is); (case c => k_is); (case k => k_is))
    (case a40 => k_is)
    (case F40 => refine' L2.fun_mk ?l ?c ?k; (case l => k_is); (case c => k_is); (case k => k_is))
    (case a41 => k_is)
    (case F41 => refine' L2.fun_mk ?l ?c ?k; (case l => k_is); (case c => k_is); (case k => k_is))
    (case a42 => k_is)
    (case F42 => refine' L2.fun_mk ?l ?c ?k; (case l => k_is); (case c => k_is); (case k => k_is))
    (case a43 => k_is)
    (case F43 => refine' L2.fun_mk ?l ?c ?k; (case l => k_is); (case c => k_is); (case k => k_is))
    (case a44 => k_is)
    (case F44 => refine' L2.fun_mk ?l ?c ?k; (case l => k_is); (case c => k_is); (case k => k_is))
    (case a45 => k_is)
    (case F45 => refine' L2.fun_mk ?l ?c ?k; (case l => k_is); (case c => k_is); (case k => k_is))
    (case a46 => k_is)
    (case F46 => refine' L2.fun_mk ?l ?c ?k; (case l => k_is); (case c => k_is); (case k => k_is))
    (case a47 => k_is)
    (case F47 => refine' L2.fun_mk ?l ?c ?k; (case l => k_is); (case c => k_is); (case k => k_is))
    (case a48 => k_is)
    (case F48 => refine' L2.fun_mk ?l ?c ?k; (case l => k_is); (case c => k_is); (case k => k_is))
    (case a49 => k_is)
    (case F49 => refine' L2.fun_mk ?l ?c ?k; (case l => k_is); (case c => k_is); (case k => k_is))
    (case a50 => k_is)
    (case F50 => refine' L2.fun_mk ?l ?c ?k; (case l => k_is); (case c => k_is); (case k => k_is))
    (case a51 => k_is)
    (case F51 => refine' L2.fun_mk ?l ?c ?k; (case l => k_is); (case c => k_is); (case k => k_is))
    (case a52 => k_is)
    (case F52 => refine' L2.fun_mk ?l ?c ?k; (case l => k_is); (case c => k_is); (case k => k_is))
    (case a53 => k_is)
    (case F53 => refine' L2.fun_mk ?l ?c ?k; (case l => k_is); (case c => k_is); (case k => k_is))
    (case a54 => k_is)
    (case F54 => refine' L2.fun_mk ?l ?c ?k; (case l => k_is); (case c => k_is); (case k => k_is))
    (case a55 => k_is)
    (case F55 => refine' L2.fun_mk ?l ?c ?k; (case l => k_is); (case c => k_is); (case k => k_is))
    (case a56 => k_is)
    (case i56 => k_is)
    (case F56 => refine' L2.fun_mk ?l ?c ?k; (case l => k_is); (case c => k_is); (case k => k_is))
    (case a57 => k_is)
    (case i57 => k_is)
    (case F57 => refine' L2.fun_mk ?l ?c ?k; (case l => k_is); (case c => k_is); (case k => k_is))
    (case a58 => k_is)
    (case i58 => k_is)
    (case F58 => refine' L2.fun_mk ?l ?c ?k; (case l => k_is); (case c => k_is); (case k => k_is))
    (case a59 => k_is)
    (case i59 => k_is)
    (case F59 => refine' L2.fun_mk ?l ?c ?k; (case l => k_is); (case c => k_is); (case k => k_is))
    (case a60 => k_is)
    (case F60 => refine' L2.fun_mk ?l ?c ?k; (case l => k_is); (case c => k_is); (case k => k_is))
    (case ax_MissError => k_is)
    (case xx_MissError => k_exc)
    (case ax_NoNumber => k_is)
    (case xx_NoNumber => k_exc)
    (case ax_NoMarks => k_is)
    (case xx_NoMarks => k_exc)
    (case ax_NoKind => k_is)
    (case xx_NoKind => k_exc)
    (case ax_NoBend => k_is)
    (case xx_NoBend => k_exc)
    (case ax_NoAnswer => k_is)
    (case xx_NoAnswer => k_exc)
    (case ax_NoText => k_is)
    (case xx_NoText => k_exc)
    (case ax_NoName => k_is)
    (case xx_NoName => k_exc)
    (case ax_NoRow => k_is)
    (case xx_NoRow => k_exc)
    (case z_abs => k_is)
    (case z_all => k_is)
    (case z_enumerate => k_is)
    (case z_int => k_is)
    (case z_isinstance => k_is)
    (case z_len => k_is)
    (case z_max => k_is)
    (case z_min => k_is)
    (case z_range => k_is)
    (case z_sorted => k_is)
    (case z_str => k_is)
    (case z_zip => k_is)
    (case zc_COUNTS => k_is)
    (case lk_COUNTS => k_is)
    (case lt0_COUNTS => k_is)
    (case lt1_COUNTS => k_is)
    (case lt2_COUNTS => k_is)
    (case lt3_COUNTS => k_is)
    (case lt4_COUNTS => k_is)
    (case lt5_COUNTS => k_is)
    (case lt6_COUNTS => k_is)
    (case lt7_COUNTS => k_is)
    (case kl_COUNTS => exact ⟨⟨_, _, rfl, rfl⟩, ⟨⟨_, _, rfl, rfl⟩, ⟨⟨_, _, rfl, rfl⟩, ⟨⟨_, _, rfl, rfl⟩, ⟨⟨_, _, rfl, rfl⟩, ⟨⟨_, _, rfl, rfl⟩, ⟨⟨_, _, rfl, rfl⟩, ⟨⟨_, _, rfl, rfl⟩, trivial⟩⟩⟩⟩⟩⟩⟩⟩)
    (case nz_COUNTS => rfl)
    (case zc_FIGURES => k_is)
    (case zc_KINDS => k_is)
    (case lk_KINDS => k_is)
    (case zc_LETTERS => k_is)
    (case zc_MOST_BEND => k_is)
    (case zc_MOST_FIGURES => k_is)
    (case zc_MOST_LETTERS => k_is)
    (case zc_MOST_MARKS => k_is)
    (case zc_MOST_NUMBERS => k_is)
    (case zc_MOST_STEPS => k_is)
    (case zc_NOUGHT => k_is)
    (case lk_NOUGHT => k_is)
