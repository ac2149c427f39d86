import PyProof.Rows.All
import Wide.All
import OpenK.AllK
import Wide.FinOn
import Lean
import PyProof.EqAt
import PyProof.EqKinds
import PyProof.TupleCall
import PySem.Challenge.RW_leastmiss_k44_whole_changed_marks
set_option Elab.async false
set_option linter.all false
set_option maxRecDepth 100000
set_option compiler.extract_closed false
set_option maxHeartbeats 0
noncomputable section
theorem qq{p:Prop}(h:¬¬p):p:=Classical.byContradiction h
namespace L2
open PySem PySem.Spec PyProof.Rows
noncomputable abbrev rK:=Sum Int Str
noncomputable def zU:rK->Value->Bool
 | .inl k,v=>Value.isInt k v
 | .inr x,v=>Value.isStrOf x v
noncomputable def Pb(w:World):rK->Int
 | .inl k=>hashInt k
 | .inr x=>hashStr w x
theorem cU:∀{k:rK}{v:Value},zU k v=true->(∃i t,k=Sum.inl i/\v=Value.int i t)\/(∃x t,k=Sum.inr x/\v=Value.str x t)
 | .inl i,v,h=>by
  obtain⟨t,e⟩:=Value.isInt_shape (k:=i) (v:=v) h;exact .inl ⟨i,t,rfl,e⟩
 | .inr x,v,h=>by
  obtain⟨t,e⟩:=Value.isStrOf_shape (x:=x) (v:=v) h;exact .inr ⟨x,t,rfl,e⟩
theorem Hz(a b:Int):decide ((Sum.inl a:rK)=Sum.inl b)=(a==b):=by
 by_cases e:a=b
 ·subst e;simp
 ·have h:¬(Sum.inl a:rK)=Sum.inl b:=λq=>e (Sum.inl.inj q);rw[decide_eq_false h];exact(beq_eq_false_iff_ne.mpr e).symm
theorem Hw(a b:Str):decide ((Sum.inr a:rK)=Sum.inr b)=decide (a=b):=by
 by_cases e:a=b
 ·subst e;simp
 ·have h:¬(Sum.inr a:rK)=Sum.inr b:=λq=>e (Sum.inr.inj q);rw[decide_eq_false h,decide_eq_false e]
theorem Hy(a:Int)(b:Str):decide ((Sum.inl a:rK)=Sum.inr b)=false:=decide_eq_false (λq=>nomatch q)
theorem Hx(a:Str)(b:Int):decide ((Sum.inr a:rK)=Sum.inl b)=false:=decide_eq_false (λq=>nomatch q)
noncomputable def vR(prog:Program)(w:World):PySem.KeyKind prog w rK where
 is:=zU
 hash:=Pb w
 inj:=λv a b g f=>by
  rcases cU g with⟨i,t,rfl,rfl⟩|⟨x,t,rfl,rfl⟩
  ·rcases cU f with⟨j,u,rfl,e⟩|⟨y,u,rfl,e⟩
   ·injection e with c _;rw[c]
   ·exact nomatch e
  ·rcases cU f with⟨j,u,rfl,e⟩|⟨y,u,rfl,e⟩
   ·exact nomatch e
   ·injection e with c _;rw[c]
 byValue:=λk v h=>by
  rcases cU h with⟨i,t,rfl,rfl⟩|⟨x,t,rfl,rfl⟩ <;>rfl
 pyHash:=λd h=>by
  rcases cU d with⟨i,t,rfl,rfl⟩|⟨x,t,rfl,rfl⟩
  ·exact wpAny_pyHash_int h
  ·exact wpAny_pyHash_str h
 eqBool:=λl d h=>by
  rcases cU l with⟨i,t,rfl,rfl⟩|⟨x,t,rfl,rfl⟩
  ·rcases cU d with⟨j,u,rfl,rfl⟩|⟨y,u,rfl,rfl⟩
   ·rw[Hz]at h;exact wpAny_eqBool_int h
   ·rw[Hy]at h;exact SeqAt.EqAt.int_str i t y u _ _ _ _ h
  ·rcases cU d with⟨j,u,rfl,rfl⟩|⟨y,u,rfl,rfl⟩
   ·rw[Hx]at h;exact SeqAt.EqAt.str_int x t j u _ _ _ _ h
   ·rw[Hw]at h;exact wpAny_eqBool_str h
 «strs»:=λk x t v h=>by
  rcases cU h with⟨i,u,rfl,e⟩|⟨y,u,rfl,e⟩
  ·exact nomatch e
  ·injection e with c _
   subst c;cases v <;>rfl
end L2
namespace L2
open PySem PySem.Spec PyProof.Rows
inductive V where
 |non|bl (b:Bool)|int (i:Int)|str (x:Str)|byt (b:Array UInt8)|flt (b:UInt64)|ref (a:Addr)|ty (n:String)
 deriving DecidableEq
noncomputable def RelV:V->Value->Prop
 | .non,u=>u=Value.none
 | .bl b,u=>u=Value.bool b
 | .int i,u=>∃t,u=Value.int i t
 | .str x,u=>∃t,u=Value.str x t
 | .byt b,u=>∃t,u=Value.bytes b t
 | .flt b,u=>∃t,u=Value.float b t
 | .ref a,u=>u=Value.ref a
 | .ty n,u=>u=Value.type n
noncomputable abbrev Vals:List V->List Value->Prop:=Paired RelV
theorem Vals.length{a:List V}{b:List Value}(r:Vals a b):a.length=b.length:=Paired.length r
theorem Vals.get:∀{a:List V}{b:List Value}{i:Nat}{x:V},Vals a b->a[i]? =some x->∃u,b[i]? =some u/\RelV x u
 |_,_,_,_,.nil,e=>by simp at e
 |_,_,0,_,.cons r _,e=>by simp at e;subst e;exact⟨_,rfl,r⟩
 |_,_,i+1,x,.cons _ t,e=>by
  obtain⟨u,c,d⟩:=Vals.get (i:=i) (x:=x) t (by simpa using e);exact⟨u,by simpa using c,d⟩
theorem Vals.set{x:V}{u:Value}(r:RelV x u):∀{a:List V}{b:List Value}(i:Nat),Vals a b->Vals (a.set i x) (b.set i u)
 |_,_,_,.nil=>.nil
 |_,_,0,.cons _ t=>.cons r t
 |_,_,i+1,.cons q t=>.cons q (Vals.set r i t)
theorem Vals.append:∀{a b:List V}{c d:List Value},Vals a c->Vals b d->Vals (a++b) (c++d)
 |_,_,_,_,.nil,s=>s
 |_,_,_,_,.cons r t,s=>.cons r (Vals.append t s)
theorem Vals.take:∀{a:List V}{b:List Value}(n:Nat),Vals a b->Vals (a.take n) (b.take n)
 |_,_,0,_=>.nil
 |_,_,_+1,.nil=>.nil
 |_,_,n+1,.cons r t=>.cons r (Vals.take n t)
theorem Vals.drop:∀{a:List V}{b:List Value}(n:Nat),Vals a b->Vals (a.drop n) (b.drop n)
 |_,_,0,r=>r
 |_,_,_+1,.nil=>.nil
 |_,_,n+1,.cons _ t=>Vals.drop n t
noncomputable def Jn:Option V->Option Value->Prop
 |some v,some u=>RelV v u
 |none,none=>True
 |_,_=>False
noncomputable def KV{a:Type}:List (a×V)->List (a×Value)->Prop:=Paired λ(p:a×V)(q:a×Value)=>p.1=q.1/\RelV p.2 q.2
noncomputable def kV:rK->V
 | .inl i=>.int i
 | .inr x=>.str x
inductive HO where
  |lst (xs:List V)
  |tup (xs:List V)
  |dK (kvs:List (rK×V))|dT (kvs:List (List rK×V))
  |set (S:Int->Bool) (n:Nat)
  |ins (C dx:Addr) (fs:List (Str×V))
  |own (x:Addr)
  |xd (fs:List (Str×V))
  |met (f x:Addr)
  |rng (lo hi:Int)
  |frz (o:Obj) (u:HO)
  |tbl (ps:Array Value)
  |ext (φ:Heap->Prop)
noncomputable abbrev Hp:=Addr->Option HO
noncomputable def eO(H:Hp)(a:Addr)(o:HO):Hp:=λb=>if b=a then some o else H b
theorem bN{H:Hp}{a:Addr}{o:HO}:eO H a o a=some o:=by unfold eO;rw[if_pos rfl]
theorem bE{H:Hp}{a b:Addr}{o:HO}(h:b≠a):eO H a o b=H b:=by unfold eO;rw[if_neg h]
theorem bT{H:Hp}{a b:Addr}{o:HO}(h:H a=some o)(c:H b=none):a≠b:=by
 intro e;subst e;rw[h]at c;cases c
section
variable(P:Program)(w:World)
noncomputable def ObjOk(H:Hp)(h:Heap)(a:Addr):HO->Prop
 | .lst d=>d.length<=sizeLine/\∃(b:List Value)(n:Nat),Vals d b/\h.get? a=some {cls:=.type "list",data:=.seq b.toArray n}
 | .tup d=>d.length<=sizeLine/\∃b:List Value,Vals d b/\IsTup h a b.toArray
 | .dK c=>c.length<=sizeLine/\(a==sysModules)=false/\∃k,KV c k/\h.DictOf (vR P w) a k
 | .dT c=>c.length<=sizeLine/\(a == sysModules) = false/\∃ d:List (List rK × Addr × Value),
   Paired (λ(p:List rK×V)(q:List rK×Addr×Value)=>p.1=q.1/\H q.2.1=some (.tup (p.1.map kV))/\RelV p.2 q.2.2) c d/\
   ∃o l s,h.get? a=some o/\o.ExactDict/\o.data= .dict l s/\l.toList=d.map (entryOfKey (tupleKind (vR P w)))/\(d.map (·.1)).Nodup
 | .set S n=>h.SetOf (intKind P w) a S n
 | .ins C i g=>H i = some (.own a)/\g.length<=1000/\i ≠ a/\h.get? a = some (PySem.W.instObj C i) /\
   ∃e,h.Ns1 i e/\(∀f,Jn (g.lookup f) (e f))/\PySem.Within e (g.map (·.1))
 | .own _=>∃o,h.get? a=some o
 | .xd g=>∃e,h.Ns1 a e/\∀f,Jn (g.lookup f) (e f)
 | .rng y z=>∃t u v,h.get? a=some {cls:=.type "range",data:=.fields #[.int y t,.int z u,.int 1 v]}
 | .frz o u=>h.get? a=some o/\ObjOk H h a u
 | .tbl A=>h.get? a=some {cls:=.none,data:=.fields A}
 | .met f x=>h.get? a=some (PySem.W.methodObj (.ref f) (.ref x))
 | .ext j=>j h/\(∃o,h.get? a=some o)/\∀m r:Heap,j m->(∀o,m.get? a=some o->r.get? a=some o)->j r
noncomputable def HOk(H:Hp)(h:Heap):Prop:=∀a o,H a=some o->ObjOk P w H h a o
end
section
variable{P:Program}{w:World}{H H':Hp}{h h':Heap}{a:Addr}{o:HO}
theorem ObjOk.lt(x:ObjOk P w H h a o):a<h.objs.size:=by
 cases o with
 |lst c=>obtain⟨_,_,_,_,e⟩:=x;exact Heap.lt_size e
 |tup c=>obtain⟨_,_,_,p⟩:=x;exact p.lt
 |dK b=>obtain⟨_,_,_,_,o,_,_,e,_⟩:=x;exact Heap.lt_size e
 |dT b=>obtain⟨_,_,_,_,o,_,_,e,_⟩:=x;exact Heap.lt_size e
 |set S n=>obtain⟨o,_,_,_,e,_⟩:=x;exact Heap.lt_size e
 |ins C g d=>obtain⟨_,_,_,e,_⟩:=x;exact Heap.lt_size e
 |own y=>obtain⟨_,e⟩:=x;exact Heap.lt_size e
 |xd d=>obtain⟨_,⟨_,_,_,e,_⟩,_⟩:=x;exact Heap.lt_size e
 |rng i j=>obtain⟨_,_,_,e⟩:=x;exact Heap.lt_size e
 |frz k u=>obtain⟨e,_⟩:=x;exact Heap.lt_size e
 |tbl l=>exact Heap.lt_size (show h.get? a=some _ from x)
 |met f y=>exact Heap.lt_size (show h.get? a=some _ from x)
 |ext m=>obtain⟨_,⟨_,e⟩,_⟩:=x;exact Heap.lt_size e
theorem Paired.mapP{e g:Type}{F G:e->g->Prop}:∀{c:List e}{d:List g},Paired F c d->(∀a b,F a b->G a b)->Paired G c d
 |_,_,.nil,_=>.nil
 |_,_,.cons r t,f=>.cons (f _ _ r) (Paired.mapP t f)
theorem ObjOk.stay(x:ObjOk P w H h a o)(k:∀b u,(b=a\/H b=some (.own a))->h.get? b=some u->h'.get? b=some u)
  (F:∀b,H b=some (.own a)->H' b=some (.own a)) (G:∀b m,H b=some (.tup m)->H' b=some (.tup m)):ObjOk P w H' h' a o:=by
 induction o with
 |lst m=>obtain⟨z,l,n,r,e⟩:=x;exact⟨z,l,n,r,k _ _ (.inl rfl) e⟩
 |tup m=>obtain⟨z,l,r,g,e,c⟩:=x;exact⟨z,l,r,g,k _ _ (.inl rfl) e,c⟩
 |dK s=>refine qq λqz=>?_;obtain⟨z,y,I,r,g,i,j,e,c⟩:=x;apply qz;clear qz;exact⟨z,y,I,r,g,i,j,k _ _ (.inl rfl) e,c⟩
 |dT s=>
  refine qq λqz=>?_;obtain⟨z,y,m,r,g,i,j,e,c⟩:=x;apply qz;clear qz;exact⟨z,y,m,Paired.mapP r λp q z=>⟨z.1,G _ _ z.2.1,z.2.2⟩,g,i,j,k _ _ (.inl rfl) e,c⟩
 |set S n=>refine qq λqz=>?_;obtain⟨g,i,j,t,e,c⟩:=x;apply qz;clear qz;exact⟨g,i,j,t,k _ _ (.inl rfl) e,c⟩
 |ins C N J=>
  refine qq λqz=>?_;obtain⟨d,z,K,e,A,⟨B,i,j,L,c⟩,r⟩:=x;apply qz;clear qz;exact⟨F _ d,z,K,k _ _ (.inl rfl) e,A,⟨B,i,j,k _ _ (.inr d) L,c⟩,r⟩
 |own y=>obtain⟨g,e⟩:=x;exact⟨g,k _ _ (.inl rfl) e⟩
 |xd J=>refine qq λqz=>?_;obtain⟨A,⟨B,i,j,e,c⟩,r⟩:=x;apply qz;clear qz;exact⟨A,⟨B,i,j,k _ _ (.inl rfl) e,c⟩,r⟩
 |rng O Q=>obtain⟨t,u,v,e⟩:=x;exact⟨t,u,v,k _ _ (.inl rfl) e⟩
 |frz g u M=>obtain⟨e,q⟩:=x;exact⟨k _ _ (.inl rfl) e,M q⟩
 |tbl D=>
  have e:h.get? a=some {cls:=.none,data:=.fields D}:=x;show h'.get? a=some {cls:=.none,data:=.fields D};exact k a _ (.inl rfl) e
 |met f y=>
  have e:h.get? a=some (PySem.W.methodObj (.ref f) (.ref y)):=x;show h'.get? a=some (PySem.W.methodObj (.ref f) (.ref y));exact k a _ (.inl rfl) e
 |ext R=>obtain⟨p,⟨o,e⟩,E⟩:=x;exact⟨E _ _ p λo q=>k _ _ (.inl rfl) q,⟨o,k _ _ (.inl rfl) e⟩,E⟩
theorem HOk.lt(x:HOk P w H h)(e:H a=some o):a<h.objs.size:=(x a o e).lt
theorem HOk.fresh(x:HOk P w H h)(e:h.objs.size<=a):H a=none:=by
 cases q:H a with
 |none=>rfl
 |some u=>exact absurd (Nat.lt_of_lt_of_le (x.lt q) e) (Nat.lt_irrefl _)
theorem HOk.kept(x:HOk P w H h)(k:∀b u,h.get? b=some u->h'.get? b=some u):HOk P w H h':=λa o e=>
 (x a o e).stay (λb u _ q=>k b u q) (λ_ q=>q) λ_ _ q=>q
theorem HOk.laid(x:HOk P w H h)(k:∀b u,h.get? b=some u->h'.get? b=some u)(i:h.objs.size<=a)(d:ObjOk P w (eO H a o) h' a o):HOk P w (eO H a o) h':=λb u e=>by
 have f:=x.fresh i;by_cases g:b=a
 ·subst g;rw[bN]at e;cases e;exact d
 ·rw[bE g]at e;exact(x b u e).stay (λc v _ q=>k c v q) (λc q=>by rw[bE (bT q f)];exact q) λc j q=>by rw[bE (bT q f)];exact q
end
noncomputable def Rd(H:Hp)(a:Addr)(u:HO):Prop:=H a=some u\/∃o,H a=some (.frz o u)
theorem Rd.of{H:Hp}{a:Addr}{u:HO}(h:H a=some u):Rd H a u:=.inl h
theorem Rd.ok{P:Program}{w:World}{H:Hp}{h:Heap}{a:Addr}{u:HO}(r:Rd H a u)(x:HOk P w H h):ObjOk P w H h a u:=by
 rcases r with r|⟨o,r⟩
 ·exact x a u r
 ·obtain⟨_,q⟩:=x a _ r;exact q
noncomputable def Od:Option HO->Prop
 |some (.lst _)=>True
 |some (.dK _)=>True
 |some (.dT _)=>True
 |some (.set _ _)=>True
 |some (.ins _ _ _)=>True
 |some (.ext _)=>True
 |_=>False
section
variable{P:Program}{w:World}{H:Hp}{h h':Heap}{x e:Addr}{o':HO}
theorem HOk.write(ok:HOk P w H h)(g:Od (H x))(o:e=x\/H e=some (.own x))(k:∀b u,b≠e->h.get? b=some u->h'.get? b=some u)(m:∃u,h'.get? e=some u)
  (n:ObjOk P w (eO H x o') h' x o'):HOk P w (eO H x o') h':=λb u q=>by
 have d:∀c y,H c=some (.own y)->c≠x:=λc y r z=>by subst z;rw[r]at g;exact g
 have f:∀c i,H c=some (.tup i)->c≠x:=λc i r z=>by subst z;rw[r]at g;exact g
 by_cases j:b=x
 ·subst j;rw[bN]at q;cases q;exact n
 ·rw[bE j]at q;by_cases a:b=e
  ·have p:H b=some (.own x):=by
    rcases o with z|z
    ·exact absurd (a.trans z) j
    ·rw[a];exact z
   rw[q]at p;cases p;obtain⟨v,s⟩:=m;exact⟨v,by rw[a];exact s⟩
  ·refine(ok b u q).stay (λc v l r=>k c v ?_ r) (λc r=>by rw[bE (d c b r)];exact r) λc i r=>by rw[bE (f c i r)];exact r
   rcases l with rfl|l
   ·exact a
   ·rintro rfl;rcases o with z|z
    ·exact d c b l z
    ·rw[l]at z;cases z;exact j rfl
end
structure Un(fs ex:List Addr)(H H':Hp)(h h':Heap):Prop where
 keep:∀b o,h.get? b=some o->H b=none->b∉fs->b∉ex->h'.get? b=some o
 slot:∀b o,h.get? b=some o->H b=none->b∈fs->b∉ex->∃sl,h'.get? b=some {o with slots:=sl}
 free:∀b o,h.get? b=some o->H b=none->b∉ex->H' b=none
 there:∀b o,h.get? b=some o->b∉ex->∃o',h'.get? b=some o'
 tups:∀b xs,H b=some (.tup xs)->H' b=some (.tup xs)
 frzs:∀b o u,H b=some (.frz o u)->H' b=some (.frz o u)
 tbls:∀b ps,H b=some (.tbl ps)->∃more,H' b=some (.tbl (ps++more))
section
variable{fs fs' ex ex':List Addr}{H H1 H2:Hp}{h h1 h2 h':Heap}{a x e:Addr}{o:HO}
theorem Un.any(u:Un fs ex H H1 h h1){b:Addr}{c:Obj}(q:h.get? b=some c)(n:H b=none)(d:b∉ex):∃g,h1.get? b=some {c with slots:=g}:=by
 by_cases f:b∈fs
 ·exact u.slot b c q n f d
 ·exact⟨c.slots,u.keep b c q n f d⟩
theorem Un.trans(a:Un fs ex H H1 h h1)(b:Un fs ex H1 H2 h1 h2):Un fs ex H H2 h h2 where
 keep:=λc d q n i f=>b.keep c d (a.keep c d q n i f) (a.free c d q n f) i f
 slot:=λc d q n i f=>by
  obtain⟨t,g⟩:=a.slot c d q n i f;obtain⟨k,l⟩:=b.slot c _ g (a.free c d q n f) i f;exact⟨k,l⟩
 free:=λc d q n f=>by
  obtain⟨m,g⟩:=a.there c d q f;exact b.free c m g (a.free c d q n f) f
 there:=λc d q f=>by
  obtain⟨m,g⟩:=a.there c d q f;exact b.there c m g f
 tups:=λc j q=>b.tups c j (a.tups c j q)
 frzs:=λc d j q=>b.frzs c d j (a.frzs c d j q)
 tbls:=λc p q=>by
  obtain⟨r,g⟩:=a.tbls c p q;obtain⟨s,l⟩:=b.tbls c _ g;exact⟨r++s,by rw[l,Array.append_assoc]⟩
theorem Un.kept(k:∀b u,h.get? b=some u->h'.get? b=some u):Un fs ex H H h h':=
 ⟨λb c q _ _ _=>k b c q,λb c q _ _ _=>⟨c.slots,k b c q⟩,λ_ _ _ n _=>n,λb c q _=>⟨c,k b c q⟩,λ_ _ q=>q,λ_ _ _ q=>q,λ_ d q=>⟨#[],by rw[q];simp⟩⟩
theorem Un.refl:Un fs ex H H h h:=Un.kept λ_ _ q=>q
theorem Un.laid(k:∀b u,h.get? b=some u->h'.get? b=some u)(d:h.objs.size<=a)(c:H a=none):Un fs ex H (eO H a o) h h' where
 keep:=λb u q _ _ _=>k b u q
 slot:=λb u q _ _ _=>⟨u.slots,k b u q⟩
 free:=λb u q n _=>by rw[bE (Nat.ne_of_lt (Nat.lt_of_lt_of_le (Heap.lt_size q) d))];exact n
 there:=λb u q _=>⟨u,k b u q⟩
 tups:=λb f q=>by rw[bE (bT q c)];exact q
 frzs:=λb u f q=>by rw[bE (bT q c)];exact q
 tbls:=λb g q=>⟨#[],by rw[bE (bT q c),q];simp⟩
theorem Un.write(d:Od (H x))(l:e=x\/H e=some (.own x))(k:∀b u,b≠e->h.get? b=some u->h'.get? b=some u)(f:∃u,h'.get? e=some u):Un fs ex H (eO H x o) h h':=by
 have i:∀b,H b=none->b≠x:=λb n z=>by subst z;rw[n]at d;exact d
 have j:∀b,H b=none->b≠e:=λb n z=>by
  subst z;rcases l with r|r
  ·exact i b n r
  ·rw[n]at r;cases r
 have g:∀b u,H b=some u->¬Od (some u)->b≠x:=λb u q m z=>by subst z;rw[q]at d;exact m d
 refine⟨λb u q n _ _=>k b u (j b n) q,λb u q n _ _=>⟨u.slots,k b u (j b n) q⟩,λb u q n _=>by rw[bE (i b n)];exact n,λb u q _=>?_,
  λb p q=>by rw[bE (g b _ q λz=>z)];exact q,λb u p q=>by rw[bE (g b _ q λz=>z)];exact q,λb s q=>⟨#[],by rw[bE (g b _ q λz=>z),q];simp⟩⟩
 by_cases c:b=e
 ·subst c;exact f
 ·exact⟨u,k b u c q⟩
end
noncomputable def Nx(h:Heap)(H:Hp):List Addr:=(List.range h.objs.size).filter λa=>(H a).isSome
noncomputable def qW(h:Heap)(H:Hp):Heap:=PySem.W.hideAll h (Nx h H)
theorem xU(h:Heap)(H:Hp):(qW h H).objs.size=h.objs.size:=PySem.W.hideAll_size _ _
theorem zX{h:Heap}{H:Hp}{b:Addr}{o:Obj}(e:h.get? b=some o)(n:H b=none):(qW h H).get? b=some o:=
 PySem.W.hideAll_get _ e λa=>by
  have q:(H b).isSome=true:=(List.mem_filter.mp a).2;rw[n]at q;simp at q
theorem Cg{h:Heap}{H:Hp}{b:Addr}{o:Obj}(e:(qW h H).get? b=some o):h.get? b=some o/\H b=none:=by
 have a:h.get? b=some o:=PySem.W.of_hideAll (Nx h H) e;refine⟨a,?_⟩;cases q:H b with
 |none=>rfl
 |some x=>
  have c:b∈Nx h H:=List.mem_filter.mpr ⟨List.mem_range.mpr (Heap.lt_size a),by simp[q]⟩;have z:(qW h H).get? b=none:=PySem.W.hideAll_none (Nx h H) c;rw[z]at e;cases e
noncomputable def Dr(g h:Heap)(L:Addr):List (Addr×Obj):=(List.range h.objs.size).filterMap λa=>if a=L\/(g.get? a).isSome=true then none else(h.get? a).map λo=>(a,o)
noncomputable def rest(g h:Heap)(L d:Addr):List (Addr×Obj):=(Dr g h L).filter λp=>decide (p.1≠d)
end L2
namespace L2
open PySem PySem.Spec PyProof.Rows
structure Mod(K:PySem.W.Frag)(mg:Str->Option Value)(base:Heap):Prop where
 kin:K.In base
 glob:base.Ns mainGlobals mg
 blt:∃mb,base.Ns builtinsNs mb/\∀x:Str,x≠"__name__"->mb x=bootBuiltins x
 nolimit:base.NoLimit
structure Cx where
 prog:Program
 w:World
 K:PySem.W.Frag
 mg:Str->Option Value
 base:Heap
 A:Around
 N:List Str
 s₀:Shared
 H₀:Hp
 env:Env
 outer:List Env
 stack:List Env
 ex:List Addr
 fn:Str->Bool
 calm:Bool
 pn:List (Addr×Obj)
 xe:Value->Shared->Prop
noncomputable def kX(l:List Env):List Addr:=l.filterMap (·.frame)
noncomputable abbrev Cx.fs(X:Cx):List Addr:=kX X.outer
noncomputable def Ph(a:Scope)(x:Str):Prop:=a.names.lookup x=some .local\/a.names.lookup x=some .cell\/a.names.lookup x=some .free
noncomputable def Oe(a:Scope)(x:Str):Prop:=a.names.lookup x=some .local\/a.names.lookup x=some .cell
noncomputable def Pl(a:Env)(h:Heap)(m:Str->Option Value)(x:Str)(u:Value):Prop:=
 (a.kindOf x=some .local/\m x=some u)\/((a.kindOf x=some .cell\/a.kindOf x=some .free)/\∃c,a.cells.lookup x=some c/\h.IsCell c (some u))
structure Cx.Ok(X:Cx):Prop where
 mod:Mod X.K X.mg X.base
 kind:X.env.scope.kind= .function
 glob:X.env.globals=mainGlobals
 blt:X.env.builtins=builtinsNs
 above:X.s₀.heap.objs.size<=X.env.locals
 inj:∀x y c,X.env.cells.lookup x=some c->X.env.cells.lookup y=some c->x=y
 has:∀x,(X.env.kindOf x=some .cell\/X.env.kindOf x=some .free)->∃c,X.env.cells.lookup x=some c
 cab:∀x c,X.fn x=true->X.env.cells.lookup x=some c->X.s₀.heap.objs.size<=c
 hd:X.calm=true->X.A.handled=none
 frames:X.A.frames=some X.stack
 stk:X.stack=X.outer\/(X.stack=X.env::X.outer/\X.env.frame=some X.env.locals)
 exf:∀b∈X.ex,b≠X.env.locals/\∀x c,X.env.cells.lookup x=some c->c≠b
 bs:∀b o,X.base.get? b=some o->X.s₀.heap.get? b=some o/\X.H₀ b=none
 bsz:X.base.objs.size<=X.s₀.heap.objs.size
 noex:∀b o,X.base.get? b=some o->b∉X.ex
 exfs:∀b∈X.ex,b∉X.fs
 funs:X.s₀.heap.FunFrames X.base X.outer
 frf:∀b∈X.fs,X.H₀ b=none
structure Inv(X:Cx)(pins:List (Addr×Obj))(σ:List (Option V))(H:Hp)(s:Shared):Prop where
 ok:X.Ok
 os:s.os=X.s₀.os
 bare:AllBare s.gens
 base:Un X.fs X.ex X.H₀ H X.s₀.heap s.heap
 loc:∃m,s.heap.Ns X.env.locals m/\∀(i:Nat)(x:Str)(v:V),X.N[i]? =some x->σ[i]? =some (some v)->Ph X.env.scope x->∃u,RelV v u/\Pl X.env s.heap m x u
 cell:∀x c,X.env.cells.lookup x=some c->∃v,s.heap.IsCell c v
 free:H X.env.locals=none
 freeC:∀x c,X.env.cells.lookup x=some c->H c=none
 pin:∀p∈X.pn++pins,s.heap.get? p.1=some p.2/\H p.1=none/\p.1≠X.env.locals/\p.1∉X.fs/\∀v,p.2.data≠ .cell v
 hok:HOk X.prog X.w H s.heap
 len:σ.length=X.N.length
section
variable{X:Cx}{pins:List (Addr×Obj)}{σ:List (Option V)}{H H':Hp}{s:Shared}{h':Heap}
theorem Cx.Ok.nofr(ok:X.Ok){b:Addr}{o:Obj}(e:X.base.get? b=some o):b∉X.fs:=λa=>by
 have:=(ok.funs.mem a).1;rw[e]at this;cases this
theorem Inv.bs(I:Inv X pins σ H s):∀b o,X.base.get? b=some o->s.heap.get? b=some o/\H b=none:=λb o e=>
 ⟨I.base.keep b o (I.ok.bs b o e).1 (I.ok.bs b o e).2 (I.ok.nofr e) (I.ok.noex b o e),I.base.free b o (I.ok.bs b o e).1 (I.ok.bs b o e).2 (I.ok.noex b o e)⟩
theorem Inv.bk(I:Inv X pins σ H s):∀b o,X.base.get? b=some o->s.heap.get? b=some o:=λb o e=>(I.bs b o e).1
theorem Inv.mod(I:Inv X pins σ H s):Mod X.K X.mg X.base:=I.ok.mod
theorem Inv.kIn(I:Inv X pins σ H s):X.K.In s.heap:=I.ok.mod.kin.keeps I.bk
theorem Inv.nolimit(I:Inv X pins σ H s):s.heap.NoLimit:=I.ok.mod.nolimit.keeps I.bk
theorem Inv.fr(I:Inv X pins σ H s):∃m,Fr X.base X.env.locals s.heap m:=
 let⟨m,a,_⟩:=I.loc
 ⟨m,a,I.bk,Nat.le_trans I.ok.bsz I.ok.above⟩
theorem Inv.lt(I:Inv X pins σ H s):X.env.locals<s.heap.objs.size:=let⟨_,a,_⟩:=I.loc;a.lt
theorem Inv.sz(I:Inv X pins σ H s):X.s₀.heap.objs.size<=s.heap.objs.size:=Nat.le_trans I.ok.above (Nat.le_of_lt I.lt)
theorem Inv.nofs(I:Inv X pins σ H s){a:Addr}(h:s.heap.objs.size<=a):a∉X.fs:=λb=>by
 obtain⟨_,o,c,_⟩:=I.ok.funs.mem b;exact absurd (Nat.lt_of_lt_of_le (Heap.lt_size c) (Nat.le_trans I.sz h)) (Nat.lt_irrefl _)
theorem Inv.cne(I:Inv X pins σ H s):∀x c,X.env.cells.lookup x=some c->c≠X.env.locals:=λx c e z=>by
 obtain⟨v,o,d,f⟩:=I.cell x c e;obtain⟨m,⟨g,h,i,a,b,_⟩,_⟩:=I.loc;rw[z,a]at d;cases d;rw[b]at f;cases f
theorem Inv.funs(I:Inv X pins σ H s):s.heap.FunFrames X.base X.outer:=by
 have a:∀(l:List Env),(∀b∈kX l,b∈X.fs)->X.s₀.heap.FunFrames X.base l->s.heap.FunFrames X.base l:=by
  intro l
  induction l with
  |nil=>intro _ _;trivial
  |cons h r i=>
   intro g j;refine qq λqz=>?_;obtain⟨k,⟨L,o,c,m,n,p⟩,q⟩:=j;apply qz;clear qz;have d:L∈X.fs:=g L (by unfold kX;rw[List.filterMap_cons,c];exact List.mem_cons_self);obtain⟨t,e⟩:=I.base.slot L o n (I.ok.frf L d) d λz=>I.ok.exfs L z d;exact⟨k,⟨L,_,c,m,e,p⟩,i (λb f=>g b (by unfold kX;rw[List.filterMap_cons,c];exact List.mem_cons_of_mem _ f)) q⟩
 exact a X.outer (λ_ f=>f) I.ok.funs
theorem Inv.stack(I:Inv X pins σ H s):s.heap.FunFrames X.base X.stack:=by
 rcases I.ok.stk with e|⟨e,a⟩
 ·rw[e];exact I.funs
 ·rw[e];obtain⟨m,b,_⟩:=I.loc;refine .cons (by rw[I.ok.kind];decide) a b ?_ I.funs;exact Heap.get?_none_of_le (Nat.le_trans I.ok.bsz I.ok.above)
theorem Inv.stkSub(I:Inv X pins σ H s):∀b∈kX X.stack,b∈X.env.locals::X.fs:=λb a=>by
 rcases I.ok.stk with e|⟨e,c⟩
 ·rw[e]at a;exact List.mem_cons_of_mem _ a
 ·rw[e]at a;unfold kX at a;rw[List.filterMap_cons,c]at a;exact a
theorem Inv.stkFree(I:Inv X pins σ H s):∀b∈kX X.stack,H b=none:=λb a=>by
 rcases List.mem_cons.mp (I.stkSub b a)with e|a
 ·rw[e];exact I.free
 ·obtain⟨_,o,c,_⟩:=I.ok.funs.mem a;exact I.base.free b o c (I.ok.frf b a) λz=>I.ok.exfs b z a
theorem Inv.step{g':Array GenState}{R:Nat}{d':Drawn}{ch:List Addr}(I:Inv X pins σ H s)
  (f:∀b∈ch,(b∈X.ex\/X.s₀.heap.objs.size<=b)/\b≠X.env.locals/\(∀x c,X.env.cells.lookup x=some c->c≠b)/\∀p∈X.pn++pins,p.1≠b)
  (keep:∀b o,b≠X.env.locals->b∉X.fs->b∉ch->s.heap.get? b=some o->H b=none->h'.get? b=some o)
  (slot:∀b o,b≠X.env.locals->b∈X.fs->b∉ch->s.heap.get? b=some o->H b=none->∃J,h'.get? b=some {o with slots:=J}) (free:∀b o,b∉ch->s.heap.get? b=some o->H b=none->H' b=none)
  (there:∀b o,b∉ch->s.heap.get? b=some o->∃A,h'.get? b=some A)
  (B:∀b t,H b=some (.tup t)->H' b=some (.tup t)) (C:∀b o u,H b=some (.frz o u)->H' b=some (.frz o u)) (D:∀b G,H b=some (.tbl G)->∃more,H' b=some (.tbl (G++more)))
  (S:∀m,s.heap.Ns X.env.locals m->h'.Ns X.env.locals m) (K:HOk X.prog X.w H' h') (T:AllBare g'):
  Inv X pins σ H' {s with heap:=h',gens:=g',drawn:=d',toks:=R}:=by
 have E:∀b o,X.s₀.heap.get? b=some o->b≠X.env.locals:=λb o e=>Nat.ne_of_lt (Nat.lt_of_lt_of_le (Heap.lt_size e) I.ok.above);have h:∀b o,X.s₀.heap.get? b=some o->b∉X.ex->b∉ch:=λb o e a w=>by
  rcases(f b w).1 with z|z
  ·exact a z
  ·exact absurd (Nat.lt_of_lt_of_le (Heap.lt_size e) z) (Nat.lt_irrefl _)
 have cellK:∀x c,X.env.cells.lookup x=some c->∀v,s.heap.IsCell c v->h'.IsCell c v:=λx c e v ⟨o,y,L⟩=>by
  have g:c∉ch:=λz=>(f c z).2.2.1 x c e rfl;by_cases N:c∈X.fs
  ·obtain⟨J,q⟩:=slot c o (I.cne x c e) N g y (I.freeC x c e);exact⟨_,q,L⟩
  ·exact⟨o,keep c o (I.cne x c e) N g y (I.freeC x c e),L⟩
 refine⟨I.ok,I.os,T,⟨λb o e n w a=>?_,λb o e n w a=>?_,λb o e n a=>?_,λb o e a=>?_,λb t e=>B b t (I.base.tups b t e),λb o t e=>C b o t (I.base.frzs b o t e),λb G e=>?_⟩,?_,λx c e=>?_,?_,λx c e=>?_,λp O=>?_,K,I.len⟩
 ·exact keep b o (E b o e) w (h b o e a) (I.base.keep b o e n w a) (I.base.free b o e n a)
 ·obtain⟨J,j⟩:=I.base.slot b o e n w a;obtain⟨M,F⟩:=slot b _ (E b o e) w (h b o e a) j (I.base.free b o e n a);exact⟨M,F⟩
 ·obtain⟨A,j⟩:=I.base.there b o e a;exact free b A (h b o e a) j (I.base.free b o e n a)
 ·obtain⟨A,j⟩:=I.base.there b o e a;exact there b A (h b o e a) j
 ·obtain⟨U,j⟩:=I.base.tbls b G e;obtain⟨W,F⟩:=D b _ j;exact⟨U++W,by rw[F,Array.append_assoc]⟩
 ·refine qq λqz=>?_;obtain⟨m,Y,Z⟩:=I.loc;apply qz;refine⟨m,S m Y,λi x v j F e3=>?_⟩;obtain⟨u,r,l⟩:=Z i x v j F e3;refine⟨u,r,?_⟩;rcases l with l|⟨k,c,e,z⟩
  ·exact .inl l
  ·exact .inr ⟨k,c,e,cellK x c e _ z⟩
 ·obtain⟨v,z⟩:=I.cell x c e;exact⟨v,cellK x c e v z⟩
 ·obtain⟨m,⟨o,_,_,y,_⟩,_⟩:=I.loc;exact free _ o (λz=>(f _ z).2.1 rfl) y I.free
 ·obtain⟨v,o,y,L⟩:=I.cell x c e;exact free c o (λz=>(f c z).2.2.1 x c e rfl) y (I.freeC x c e)
 ·refine qq λqz=>?_;obtain⟨e,n,P,Q,d⟩:=I.pin p O;apply qz;have g:p.1∉ch:=λz=>(f p.1 z).2.2.2 p O rfl;exact⟨keep p.1 p.2 P Q g e n,free p.1 p.2 g e n,P,Q,d⟩
theorem Inv.un{t':Nat}(I:Inv X pins σ H s)(u:Un X.fs [] H H' s.heap h')(c:HOk X.prog X.w H' h'):Inv X pins σ H' {s with heap:=h',toks:=t'}:=by
 refine qq λqz=>?_;obtain⟨m,⟨o,l,p,h,r⟩,_⟩:=id I.loc;obtain⟨q,i⟩:=u.any h I.free (by simp);apply qz
 exact I.step (g':=s.gens) (d':=s.drawn) (ch:=[]) (λ_ z=>nomatch z) (λb o _ d _ e n=>u.keep b o e n d (by simp)) (λb o _ d _ e n=>u.slot b o e n d (by simp)) (λb o _ e n=>u.free b o e n (by simp)) (λb o _ e=>u.there b o e (by simp)) u.tups u.frzs u.tbls (λt j=>by
  obtain⟨v,f,g,a,k⟩:=j
  rw[h]at a;cases a
  exact⟨_,f,g,i,k⟩) c I.bare
theorem Inv.call{g':Array GenState}{t':Nat}{d':Drawn}{ch:List Addr}(I:Inv X pins σ H s)(u:Un (kX X.stack) ch H H' s.heap h')(g:HOk X.prog X.w H' h')(l:AllBare g')
  (d:∀b∈ch,(b∈X.ex\/X.s₀.heap.objs.size<=b)/\b≠X.env.locals/\(∀x c,X.env.cells.lookup x=some c->c≠b)/\∀p∈X.pn++pins,p.1≠b):
  Inv X pins σ H' {s with heap:=h',gens:=g',drawn:=d',toks:=t'}:=by
 refine qq λqz=>?_;obtain⟨m,⟨o,w,y,k,r⟩,_⟩:=id I.loc;apply qz;obtain⟨A,h⟩:=u.any k I.free λz=>(d _ z).2.1 rfl
 exact I.step (ch:=ch) d (λb o h q a e n=>u.keep b o e n (λz=>(List.mem_cons.mp (I.stkSub b z)).elim h q) a) (λb o _ _ a e n=>u.any e n a) (λb o a e n=>u.free b o e n a) (λb o a e=>u.there b o e a) u.tups u.frzs u.tbls (λB t=>by
  obtain⟨C,i,j,f,v⟩:=t
  rw[k]at f;cases f
  exact⟨_,i,j,h,v⟩) g l
theorem Inv.turned{t':Nat}{it:Addr}(I:Inv X pins σ H s)(k:∀b o,b≠it->s.heap.get? b=some o->h'.get? b=some o)(g:H it=none)(f:it≠X.env.locals)
  (h:it∈X.ex\/X.s₀.heap.objs.size<=it) (i:∀x c,X.env.cells.lookup x=some c->c≠it) (j:∀p∈X.pn++pins,p.1≠it):Inv X pins σ H {s with heap:=h',toks:=t'}:=by
 have d:∀b u,H b=some u->b≠it:=λb u e z=>by rw[z,g]at e;cases e
 refine I.step (g':=s.gens) (d':=s.drawn) (ch:=[it]) (λb l=>?_) (λb o _ _ a e _=>k b o (λz=>a (by simp[z])) e) (λb o _ _ a e _=>⟨o.slots,k b o (λz=>a (by simp[z])) e⟩) (λ_ _ _ _ n=>n)
  (λb o a e=>⟨o,k b o (λz=>a (by simp[z])) e⟩) (λ_ _ e=>e) (λ_ _ _ e=>e) (λb B e=>⟨#[],by rw[e];simp⟩) (λm t=>?_) (λb u e=>?_) I.bare
 ·have e:b=it:=by simpa using l
  subst e;exact⟨h,f,i,j⟩
 ·obtain⟨o,w,y,A,r⟩:=t;exact⟨o,w,y,k _ o (Ne.symm f) A,r⟩
 ·refine(I.hok b u e).stay (λc v a q=>k c v ?_ q) (λ_ q=>q) λ_ _ q=>q;rcases a with z|z
  ·rw[z];exact d b u e
  ·exact d c _ z
theorem Inv.tok(I:Inv X pins σ H s)(t:Nat):Inv X pins σ H {s with toks:=t}:=I.un (h':=s.heap) (t':=t) Un.refl I.hok
theorem Inv.kept{t':Nat}(I:Inv X pins σ H s)(k:∀b u,s.heap.get? b=some u->h'.get? b=some u):Inv X pins σ H {s with heap:=h',toks:=t'}:=I.un (Un.kept k) (I.hok.kept k)
theorem Inv.laid{a:Addr}{o:HO}{t':Nat}(I:Inv X pins σ H s)(k:∀b u,s.heap.get? b=some u->h'.get? b=some u)(c:s.heap.objs.size<=a)(d:ObjOk X.prog X.w (eO H a o) h' a o):
  Inv X pins σ (eO H a o) {s with heap:=h',toks:=t'}:=I.un (Un.laid k c (I.hok.fresh c)) (I.hok.laid k c d)
theorem Inv.write{x e:Addr}{o:HO}{g:Nat}(I:Inv X pins σ H s)(d:Od (H x))(f:e=x\/H e=some (.own x))(k:∀b u,b≠e->s.heap.get? b=some u->h'.get? b=some u)(a:∃u,h'.get? e=some u)
  (c:ObjOk X.prog X.w (eO H x o) h' x o):Inv X pins σ (eO H x o) {s with heap:=h',toks:=g}:=I.un (Un.write d f k a) (I.hok.write d f k a c)
theorem Inv.pins_of{a:List (Addr×Obj)}(I:Inv X pins σ H s)(h:∀p∈a,s.heap.get? p.1=some p.2/\H p.1=none/\p.1≠X.env.locals/\p.1∉X.fs/\∀v,p.2.data≠ .cell v):Inv X a σ H s:=
 ⟨I.ok,I.os,I.bare,I.base,I.loc,I.cell,I.free,I.freeC,λp b=>(List.mem_append.mp b).elim (λz=>I.pin p (List.mem_append_left _ z)) (h p),I.hok,I.len⟩
theorem sE{N:List Str}(c:N.Nodup){i j:Nat}{x:Str}(a:N[i]? =some x)(b:N[j]? =some x):i=j:=by
 obtain⟨f,d⟩:=List.getElem?_eq_some_iff.mp a;obtain⟨g,e⟩:=List.getElem?_eq_some_iff.mp b;exact(List.getElem_inj c).mp (d.trans e.symm)
theorem nU{M:Model}{A:Around}{E:Value->Shared->Prop}{i:Nat}{x:Str}{v:V}{u:Value}{Q:Unit->Shared->Prop}(I:Inv X pins σ H s)(hN:X.N.Nodup)(K:X.N[i]? =some x)(t:Oe X.env.scope x)(r:RelV v u)
  (h:∀W,Inv X pins (σ.set i (some v)) H W->(∃a,Heap.SameBut a s.heap W.heap/\(a=X.env.locals\/X.env.cells.lookup x=some a))->Q () W) (hf:X.fn x=true\/X.env.scope.names.lookup x=some .local:=by first|exact .inl rfl|exact .inr rfl|assumption):wpAny M A (storeName X.env x u) Q E s:=by
 obtain⟨m,Y,hl⟩:=id I.loc;have L:(X.env.scope.kind== .class||(X.env.scope.kind== .module && X.env.locals !=X.env.globals))=false:=by rw[I.ok.kind];rfl
 have B:i<σ.length:=by rw[I.len];exact(List.getElem?_eq_some_iff.mp K).1
 have D:=I.cne;have tracked:∀{a:Addr}{h':Heap},(∃o,s.heap.get? a=some o/\H a=none)->Heap.SameBut a s.heap h'->HOk X.prog X.w H h':=λ{a h'} ha f b ob e=>by
  obtain⟨_,_,hfree⟩:=ha;refine(I.hok b ob e).stay (λc S l q=>(f.2 c ?_).trans q) (λ_ q=>q) λ_ _ q=>q;rintro rfl;rcases l with rfl|l
  ·rw[hfree]at e;cases e
  ·rw[hfree]at l;cases l
 rcases t with C|C
 ·refine wpAny_storeName_local C Y (λh' Z f=>?_) L;refine qq λqz=>?_;obtain⟨oL,_,_,a0,_⟩:=id Y;apply qz;refine h _ ⟨I.ok,I.os,I.bare,⟨λb o e n F t=>?_,λb o e n F t=>?_,I.base.free,λb o e t=>?_,I.base.tups,I.base.frzs,I.base.tbls⟩,⟨_,Z,λj y v' g w e3=>?_⟩,λy c e=>?_,I.free,I.freeC,λp hp=>?_,tracked ⟨oL,a0,I.free⟩ f,by simpa using I.len⟩ ⟨_,f,.inl rfl⟩
  ·exact(f.2 b (Nat.ne_of_lt (Nat.lt_of_lt_of_le (Heap.lt_size e) I.ok.above))).trans (I.base.keep b o e n F t)
  ·obtain⟨sl,g⟩:=I.base.slot b o e n F t;exact⟨sl,(f.2 b (Nat.ne_of_lt (Nat.lt_of_lt_of_le (Heap.lt_size e) I.ok.above))).trans g⟩
  ·obtain⟨o',g⟩:=I.base.there b o e t;exact⟨o',(f.2 b (Nat.ne_of_lt (Nat.lt_of_lt_of_le (Heap.lt_size e) I.ok.above))).trans g⟩
  ·by_cases G:j=i
   ·subst G;rw[K]at g;cases g;rw[List.getElem?_set_self B]at w;cases w;exact⟨u,r,.inl ⟨C,by simp⟩⟩
   ·rw[List.getElem?_set_ne (Ne.symm G)]at w;refine qq λqz=>?_;obtain⟨u',r',q⟩:=hl j y v' g w e3;apply qz;refine⟨u',r',?_⟩;rcases q with⟨k,e⟩|⟨k,c,e,z⟩
    ·refine .inl ⟨k,?_⟩;have:y≠x:=λe=>G (sE hN g (e▸K));simp[this,e]
    ·exact .inr ⟨k,c,e,z.sameBut f (D y c e)⟩
  ·obtain⟨S,z⟩:=I.cell y c e;exact⟨S,z.sameBut f (D y c e)⟩
  ·refine qq λqz=>?_;obtain⟨e,n,T,nf,d⟩:=I.pin p hp;apply qz;exact⟨(f.2 p.1 T).trans e,n,T,nf,d⟩
 ·have J:X.fn x=true:=by
   rcases hf with z|z
   ·exact z
   ·rw[z]at C;cases C
  obtain⟨c,l⟩:=I.ok.has x (.inl C);obtain⟨S,z⟩:=I.cell x c l;refine wpAny_storeName_cell I.ok.kind C l z (λh' N f=>?_);obtain⟨oc,O,P⟩:=id z;refine h {s with heap:=h'} ⟨I.ok,I.os,I.bare,⟨λb o e n F t=>?_,λb o e n F t=>?_,I.base.free,λb o e t=>?_,I.base.tups,I.base.frzs,I.base.tbls⟩,⟨m,Y.sameBut f (Ne.symm (D x c l)),λj y v' g w e3=>?_⟩,λy U e=>?_,I.free,I.freeC,λp hp=>?_,tracked ⟨oc,O,I.freeC x c l⟩ f,by simpa using I.len⟩ ⟨c,f,.inr l⟩
  ·exact(f.2 b (Nat.ne_of_lt (Nat.lt_of_lt_of_le (Heap.lt_size e) (I.ok.cab x c J l)))).trans (I.base.keep b o e n F t)
  ·obtain⟨sl,g⟩:=I.base.slot b o e n F t;exact⟨sl,(f.2 b (Nat.ne_of_lt (Nat.lt_of_lt_of_le (Heap.lt_size e) (I.ok.cab x c J l)))).trans g⟩
  ·obtain⟨o',g⟩:=I.base.there b o e t;exact⟨o',(f.2 b (Nat.ne_of_lt (Nat.lt_of_lt_of_le (Heap.lt_size e) (I.ok.cab x c J l)))).trans g⟩
  ·by_cases G:j=i
   ·subst G;rw[K]at g;cases g;rw[List.getElem?_set_self B]at w;cases w;exact⟨u,r,.inr ⟨.inl C,c,l,N⟩⟩
   ·rw[List.getElem?_set_ne (Ne.symm G)]at w;obtain⟨u',r',q⟩:=hl j y v' g w e3;refine⟨u',r',?_⟩;rcases q with q|⟨k,U,e,z'⟩
    ·exact .inl q
    ·refine .inr ⟨k,U,e,z'.sameBut f ?_⟩;rintro rfl;exact G (sE hN g (I.ok.inj _ _ _ e l▸K))
  ·by_cases R:U=c
   ·subst R;exact⟨_,N⟩
   ·obtain⟨w2,z2⟩:=I.cell y U e;exact⟨w2,z2.sameBut f R⟩
  ·refine qq λqz=>?_;obtain⟨e,n,T,nf,d⟩:=I.pin p hp;apply qz;refine⟨(f.2 p.1 ?_).trans e,n,T,nf,d⟩;intro q;rw[q,O]at e;have q':oc=p.2:=Option.some.inj e;exact d S (by rw[<-q'];exact P)
theorem jL{M:Model}{A:Around}{E:Value->Shared->Prop}{i:Nat}{x:Str}{v:V}{u:Value}{Q:Unit->Shared->Prop}(I:Inv X pins σ H s)(b:X.N.Nodup)(c:X.N[i]? =some x)(d:Oe X.env.scope x)(r:RelV v u)
  (h:∀a,Inv X pins (σ.set i (some v)) H a->Q () a) (e:X.fn x=true\/X.env.scope.names.lookup x=some .local:=by first|exact .inl rfl|exact .inr rfl|assumption):wpAny M A (storeName X.env x u) Q E s:=
 nU I b c d r (λa f _=>h a f) e
theorem Inv.call'{s':Shared}{ch:List Addr}(I:Inv X pins σ H s)(f:s'.os=s.os)(u:Un (kX X.stack) ch H H' s.heap s'.heap)(a:HOk X.prog X.w H' s'.heap)(g:AllBare s'.gens)
  (d:∀b∈ch,(b∈X.ex\/X.s₀.heap.objs.size<=b)/\b≠X.env.locals/\(∀x c,X.env.cells.lookup x=some c->c≠b)/\∀p∈X.pn++pins,p.1≠b):Inv X pins σ H' s':=by
 obtain⟨h',g',d',t',h⟩:=s';have e:h=s.os:=f;subst e;exact I.call (g':=g') (t':=t') (d':=d') u a g d
end
noncomputable abbrev XK:=Value->Option Addr->Hp->Prop
noncomputable abbrev St:=List (Option V)
noncomputable abbrev VK:=V->Hp->Prop
noncomputable abbrev TE:=St->Hp->VK->Prop
noncomputable abbrev TT:=St->Hp->(Bool->Hp->Prop)->Prop
noncomputable abbrev TA:=St->Hp->(List V->Hp->Prop)->Prop
structure Ends where
 nx:St->Hp->Prop
 rt:VK
 bk:St->Hp->Prop:=λ_ _=>False
 ct:St->Hp->Prop:=λ_ _=>False
noncomputable abbrev TS:=Ends->St->Hp->Prop
noncomputable def EP(X:Cx)(pins:List (Addr×Obj))(b:St)(Q:VK)(u:Value)(c:Shared):Prop:=∃v a,Inv X pins b a c/\RelV v u/\Q v a
noncomputable def TP(X:Cx)(pins:List (Addr×Obj))(c:St)(Q:Bool->Hp->Prop)(b:Bool)(d:Shared):Prop:=∃a,Inv X pins c a d/\Q b a
noncomputable def AP(X:Cx)(pins:List (Addr×Obj))(c:St)(Q:List V->Hp->Prop)(d:List Value)(e:Shared):Prop:=∃a b,Inv X pins c b e/\Vals a d/\Q a b
noncomputable def SP(X:Cx)(pins:List (Addr×Obj))(D:Ends)(f:Flow)(c:Shared):Prop:=
 match f with
 | .next=>∃a b,Inv X pins a b c/\D.nx a b
 | .brk=>∃a b,Inv X pins a b c/\D.bk a b
 | .cont=>∃a b,Inv X pins a b c/\D.ct a b
 | .ret u=>∃v a b,Inv X pins a b c/\RelV v u/\D.rt v b
noncomputable def PE(X:Cx)(e:Expr)(t:TE):Prop:=
 ∀(pins:List (Addr×Obj))(s:Shared)(a:St)(H:Hp)(Q:VK),Inv X pins a H s->t a H Q->wpAny (model X.prog X.w) X.A (eval e X.env) (EP X pins a Q) X.xe s
noncomputable def PT(X:Cx)(e:Expr)(t:TT):Prop:=
 ∀(pins:List (Addr×Obj))(s:Shared)(a:St)(H:Hp)(Q:Bool->Hp->Prop),Inv X pins a H s->t a H Q->wpAny (model X.prog X.w) X.A (isTrue e X.env (eval e X.env)) (TP X pins a Q) X.xe s
noncomputable def PW(X:Cx)(e:Expr)(t:TT):Prop:=
 ∀(whole:Sem Value)(pins:List (Addr×Obj))(s:Shared)(a:St)(H:Hp)(Q:Bool->Hp->Prop),Inv X pins a H s->t a H Q->wpAny (model X.prog X.w) X.A (isTrue e X.env whole) (TP X pins a Q) X.xe s
theorem PW.pt{X:Cx}{e:Expr}{t:TT}(h:PW X e t):PT X e t:=h _
noncomputable def PA(X:Cx)(c:List Expr)(t:TA):Prop:=
 ∀(a:Pos)(pins:List (Addr×Obj))(s:Shared)(b:St)(H:Hp)(Q:List V->Hp->Prop),Inv X pins b H s->t b H Q->wpAny (model X.prog X.w) X.A (spliced (backTo a (starEach c X.env))) (AP X pins b Q) X.xe s
noncomputable def PS(X:Cx)(b:Stmt)(t:TS):Prop:=
 ∀(pins:List (Addr×Obj))(s:Shared)(a:St)(H:Hp)(D:Ends),Inv X pins a H s->t D a H->wpAny (model X.prog X.w) X.A (exec b X.env) (SP X pins D) X.xe s
noncomputable def PSs(X:Cx)(b:List Stmt)(t:TS):Prop:=
 ∀(pins:List (Addr×Obj))(s:Shared)(a:St)(H:Hp)(D:Ends),Inv X pins a H s->t D a H->wpAny (model X.prog X.w) X.A (execs b X.env) (SP X pins D) X.xe s
theorem eP{b:Type}{t:Sem b}{Q Q':b->Shared->Prop}{M:Model}{A:Around}{E:Value->Shared->Prop}{s:Shared}(h:wpAny M A t Q E s)(c:∀a s,Q a s->Q' a s):wpAny M A t Q' E s:=wpAny_mono h c λ_ _ x=>x
end L2
namespace L2
open PySem PySem.Spec PyProof.Rows
section
variable{X:Cx}
noncomputable def nH(i:Nat):TE:=λa H Q=>∃v,a[i]? =some (some v)/\Q v H
noncomputable def tC(v:V):TE:=λ_ H Q=>Q v H
theorem Gy{i:Nat}{x:Str}{d:Pos}(k:X.N[i]? =some x)(n:Ph X.env.scope x)(f:(x==("__debug__":Str))=false:=by decide)(g:(x==("__classdict__":Str))=false:=by decide):PE X (.Name x d) (nH i):=by
 intro pins s o H Q I h;refine qq λqz=>?_;obtain⟨v,e,h⟩:=h;obtain⟨m,p,q⟩:=I.loc;obtain⟨u,r,l⟩:=q i x v k e n;apply qz;have a:EP X pins o Q u s:=⟨v,H,I,r,h⟩;rcases l with⟨b,t⟩|⟨b,c,j,hcell⟩
 ·exact wpAny_Name (wpAny_loadName_local I.ok.kind b p t a) f
 ·rcases b with b|b
  ·exact wpAny_Name (wpAny_loadName_cell I.ok.kind b j hcell a) f
  ·exact wpAny_Name (wpAny_loadName_free I.ok.kind b j hcell a g) f
theorem aD{i j a}:PE X (.Constant (.int i) j a) (tC (.int i)):=λ_ _ _ H _ I h=>wpAny_Constant_int ⟨.int i,H,I.tok _,⟨_,rfl⟩,h⟩
theorem rY{b j a}:PE X (.Constant (.bool b) j a) (tC (.bl b)):=λ_ _ _ H _ I h=>Constant_bool ⟨.bl b,H,I,rfl,h⟩
theorem fB{x j a}:PE X (.Constant (.str x) j a) (tC (.str x)):=λ_ _ _ H _ I h=>Calls.Constant_str ⟨.str x,H,I.tok _,⟨_,rfl⟩,h⟩
noncomputable def Gl(X:Cx)(x:Str):Prop:=X.env.kindOf x=some .globalImplicit
theorem qV{E:Value->Shared->Prop}{pins:List (Addr×Obj)}{s:Shared}{b:St}{H:Hp}{x:Str}{u:Value}{a:Pos}{Q:Value->Shared->Prop}(I:Inv X pins b H s)(c:Gl X x)(d:X.mg x=some u)(h:Q u s)
  (e:(x==("__debug__":Str))=false:=by decide):wpAny (model X.prog X.w) X.A (eval (.Name x a) X.env) Q E s:=
 Calls.Name_function_global I.ok.kind c (Calls.loadGlobal_global (by rw[I.ok.glob];exact I.mod.glob.keeps I.bk) d h) e
theorem gN{E:Value->Shared->Prop}{pins:List (Addr×Obj)}{s:Shared}{b:St}{H:Hp}{x:Str}{u:Value}{a:Pos}{Q:Value->Shared->Prop}(I:Inv X pins b H s)(c:Gl X x)(d:X.mg x=none)(e:bootBuiltins x=some u)(h:Q u s)
  (f:x≠"__name__":=by decide) (g:(x==("__debug__":Str))=false:=by decide):wpAny (model X.prog X.w) X.A (eval (.Name x a) X.env) Q E s:=by
 obtain⟨k,i,j⟩:=I.mod.blt;exact Calls.Name_function_global I.ok.kind c (Calls.loadGlobal_builtin (by rw[I.ok.glob];exact I.mod.glob.keeps I.bk) d (by rw[I.ok.blt];exact i.keeps I.bk) ((j x f).trans e) h) g
theorem kD{x:Str}{v:V}{u:Value}{a:Pos}(b:Gl X x)(c:X.mg x=some u)(r:RelV v u)(d:(x==("__debug__":Str))=false:=by decide):PE X (.Name x a) (tC v):=
 λ_ _ _ H _ I h=>qV I b c ⟨v,H,I,r,h⟩ d
theorem Cd{x:Str}{v:V}{u:Value}{a:Pos}(b:Gl X x)(c:X.mg x=none)(d:bootBuiltins x=some u)(r:RelV v u)(e:x≠"__name__":=by decide)(f:(x==("__debug__":Str))=false:=by decide):PE X (.Name x a) (tC v):=
 λ_ _ _ H _ I h=>gN I b c d ⟨v,H,I,r,h⟩ e f
variable{a b:Expr}{ta tb:TE}{pos:Pos}
noncomputable def tB(t:TE):TT:=λd H Q=>t d H λx e=>∃c,x= .bl c/\Q c e
theorem jD{e:Expr}{t:TE}(h:PE X e t)(c:∀whole,isTrue e X.env whole=(do let v <-whole;standAt e.pos;holding [v] (truthy v)):=by intro _;rfl):PT X e (tB t):=by
 intro pins s f H Q I hw;refine isTrue_plain (eP (h pins s f H _ I hw) λv l yq=>?_) (c _);refine qq λW_=>?_;obtain⟨x,g,i,j,k⟩:=yq;apply W_;refine qq λqz=>?_;obtain⟨d,rfl,q⟩:=k;apply qz;cases j;exact wpAny_truthy_bool ⟨g,i,q⟩
variable{tA tB':TT}{rest:List Expr}
noncomputable def Pq(t u:TT):TT:=λd H Q=>t d H λc e=>if c=true then Q true e else u d e Q
noncomputable def Kg(t:TT):TT:=λd H Q=>t d H λc e=>Q (!c) e
theorem yY(d:PT X a tA):PW X (.BoolOp .Or [a] pos) tA:=by
 intro g pins s f H Q I h;refine isTrue_or (eP (d pins s f H Q I h) λc i e=>?_);cases c with
 |false=>exact isTrue_or_nil e
 |true=>exact e
theorem Eg(i:PT X a tA)(j:PW X (.BoolOp .Or (b::rest) pos) tB'):PW X (.BoolOp .Or (a::b::rest) pos) (Pq tA tB'):=by
 intro k pins s d H Q I h;refine isTrue_or (eP (i pins s d H _ I h) λc l yq=>?_);obtain⟨e,f,g⟩:=yq;cases c with
 |true=>exact⟨e,f,g⟩
 |false=>exact j k pins l d e Q f g
theorem zB(d:PT X a tA):PT X (.UnaryOp .Not a pos) (Kg tA):=by
 intro pins s e H Q I h;exact isTrue_not (d pins s e H (λc f=>Q (!c) f) I h)
noncomputable def Pt(t:TT)(ta tb:TE):TE:=λd H Q=>t d H λc e=>if c=true then ta d e Q else tb d e Q
theorem rX{c:Expr}(k:PT X c tA)(l:PE X a ta)(m:PE X b tb):PE X (.IfExp c a b pos) (Pt tA ta tb):=by
 intro pins s e H Q I h;refine wpAny_IfExp (eP (k pins s e H _ I h) λd f yq=>?_);obtain⟨g,i,j⟩:=yq;cases d with
 |true=>exact l pins f e g Q i j
 |false=>exact m pins f e g Q i j
end
end L2
namespace L2
open PySem PySem.Spec PyProof.Rows
noncomputable def SqL(K:PySem.W.Frag)(H:Hp)(a:Addr)(c:List V):Prop:=
 Rd H a (.lst c) \/
  ∃(o:Obj)(b:Array Value)(n:Nat),K.lookup a=some o/\o.cls= .type "list"/\o.dict=none/\o.data= .seq b n/\b.size<=sizeLine/\Vals c b.toList
noncomputable def SqT(K:PySem.W.Frag)(H:Hp)(a:Addr)(c:List V):Prop:=
 Rd H a (.tup c) \/
  ∃(o:Obj)(b:Array Value)(n:Nat),K.lookup a=some o/\o.cls= .type "tuple"/\o.data= .seq b n/\b.size<=sizeLine/\Vals c b.toList
noncomputable def Pg:Value->Option V
 | .none=>some .non
 | .bool b=>some (.bl b)
 | .int i _=>some (.int i)
 | .str x _=>some (.str x)
 | .bytes b _=>some (.byt b)
 | .float b _=>some (.flt b)
 | .ref a=>some (.ref a)
 | .type n=>some (.ty n)
 |_=>none
theorem RelV.abs{x:V}{u:Value}(r:RelV x u):Pg u=some x:=by
 cases x with
 |non=>cases r;rfl
 |bl _=>cases r;rfl
 |int _=>obtain⟨t,rfl⟩:=r;rfl
 |str _=>obtain⟨t,rfl⟩:=r;rfl
 |byt _=>obtain⟨t,rfl⟩:=r;rfl
 |flt _=>obtain⟨t,rfl⟩:=r;rfl
 |ref _=>cases r;rfl
 |ty _=>cases r;rfl
theorem RelV.inj{x y:V}{u:Value}(r:RelV x u)(q:RelV y u):x=y:=Option.some.inj (r.abs.symm.trans q.abs)
theorem Vals.inj:∀{a b:List V}{c:List Value},Vals a c->Vals b c->a=b
 |_,_,_,.nil,.nil=>rfl
 |_,_,_,.cons r t,.cons d e=>by rw[r.inj d,Vals.inj t e]
section
variable{X:Cx}{pins:List (Addr×Obj)}{σ:St}{H:Hp}{s:Shared}{a:Addr}{xs ys:List V}
theorem SqL.of{K:PySem.W.Frag}(h:H a=some (.lst xs)):SqL K H a xs:=.inl (.inl h)
theorem SqT.of{K:PySem.W.Frag}(h:H a=some (.tup xs)):SqT K H a xs:=.inl (.inl h)
theorem Inv.list(I:Inv X pins σ H s)(h:SqL X.K H a xs):∃b:List Value,Vals xs b/\PlainL s.heap a b.toArray/\xs.length<=sizeLine:=by
 rcases h with h|⟨o,b,n,c,d,f,g,i,r⟩
 ·refine qq λqz=>?_;obtain⟨z,b,n,r,e⟩:=h.ok I.hok;apply qz;exact⟨b,r,⟨_,n,e,rfl,rfl,rfl⟩,z⟩
 ·refine⟨b.toList,r,⟨o,n,I.kIn a o c,d,f,by simpa using g⟩,?_⟩;have e:=r.length;simp only[Array.length_toList]at e
  lia
theorem Inv.tuple(I:Inv X pins σ H s)(h:SqT X.K H a xs):∃b:List Value,Vals xs b/\IsTup s.heap a b.toArray/\xs.length<=sizeLine:=by
 rcases h with h|⟨o,b,n,c,d,f,g,r⟩
 ·refine qq λqz=>?_;obtain⟨z,b,r,p⟩:=h.ok I.hok;apply qz;exact⟨b,r,p,z⟩
 ·refine⟨b.toList,r,⟨o,I.kIn a o c,d,n,by simpa using f⟩,?_⟩;have e:=r.length;simp only[Array.length_toList]at e
  lia
theorem Inv.list_inj(I:Inv X pins σ H s)(h:SqL X.K H a xs)(i:SqL X.K H a ys):xs=ys:=by
 refine qq λqz=>?_;obtain⟨c,r,⟨o,n,e,_,_,d⟩,_⟩:=I.list h;obtain⟨b,j,⟨l,m,f,_,_,g⟩,_⟩:=I.list i;apply qz;rw[e]at f;cases f;rw[d]at g;injection g with k _
 have:c=b:=by simpa using congrArg Array.toList k
 subst this;exact r.inj j
end
noncomputable abbrev Cx.wish(X:Cx)(E:Value->Shared->Prop):Cx:={X with xe:=E}
noncomputable abbrev Cx.nox(X:Cx):Cx:=X.wish λ_ _=>False
theorem Cx.Ok.wish{X:Cx}(ok:X.Ok)(E:Value->Shared->Prop):(X.wish E).Ok:=
 ⟨ok.mod,ok.kind,ok.glob,ok.blt,ok.above,ok.inj,ok.has,ok.cab,ok.hd,ok.frames,ok.stk,ok.exf,ok.bs,ok.bsz,ok.noex,ok.exfs,ok.funs,ok.frf⟩
theorem Cx.Ok.unwish{X:Cx}{E:Value->Shared->Prop}(ok:(X.wish E).Ok):X.Ok:=
 ⟨ok.mod,ok.kind,ok.glob,ok.blt,ok.above,ok.inj,ok.has,ok.cab,ok.hd,ok.frames,ok.stk,ok.exf,ok.bs,ok.bsz,ok.noex,ok.exfs,ok.funs,ok.frf⟩
section
variable{X:Cx}{pins:List (Addr×Obj)}{σ:St}{H:Hp}{s:Shared}{E:Value->Shared->Prop}
theorem Inv.wish(I:Inv X pins σ H s)(E:Value->Shared->Prop):Inv (X.wish E) pins σ H s:=⟨I.ok.wish E,I.os,I.bare,I.base,I.loc,I.cell,I.free,I.freeC,I.pin,I.hok,I.len⟩
theorem Inv.unwish(I:Inv (X.wish E) pins σ H s):Inv X pins σ H s:=⟨I.ok.unwish,I.os,I.bare,I.base,I.loc,I.cell,I.free,I.freeC,I.pin,I.hok,I.len⟩
theorem SP.unwish{D:Ends}{f:Flow}{c:Shared}(h:SP (X.wish E) pins D f c):SP X pins D f c:=by
 cases f with
 |next=>obtain⟨a,b,I,q⟩:=h;exact⟨a,b,I.unwish,q⟩
 |brk=>obtain⟨a,b,I,q⟩:=h;exact⟨a,b,I.unwish,q⟩
 |cont=>obtain⟨a,b,I,q⟩:=h;exact⟨a,b,I.unwish,q⟩
 |ret u=>obtain⟨v,a,b,I,r,q⟩:=h;exact⟨v,a,b,I.unwish,r,q⟩
theorem PE.nox{e:Expr}{t:TE}(h:PE X.nox e t):PE X e t:=λpins s σ H Q I hw=>
 wpAny_mono (h pins s σ H Q (I.wish _) hw) (λ_ _ ⟨v,a,b,r,q⟩=>⟨v,a,b.unwish,r,q⟩) λ_ _ z=>False.elim z
theorem PT.nox{e:Expr}{t:TT}(h:PT X.nox e t):PT X e t:=λpins s σ H Q I hw=>
 wpAny_mono (h pins s σ H Q (I.wish _) hw) (λ_ _ ⟨a,b,q⟩=>⟨a,b.unwish,q⟩) λ_ _ z=>False.elim z
theorem PSs.nox{a:List Stmt}{t:TS}(h:PSs X.nox a t):PSs X a t:=λpins s σ H D I hw=>
 wpAny_mono (h pins s σ H D (I.wish _) hw) (λ_ _ q=>q.unwish) λ_ _ z=>False.elim z
end
section
variable{X:Cx}{st:Stmt}{rest:List Stmt}{t u:TS}{e:Expr}{te:TE}{pos:Pos}
noncomputable def Eb:TS:=λD a H=>D.nx a H
noncomputable def Gc(t u:TS):TS:=λD a H=>t {D with nx:=u D} a H
theorem bV:PSs X [] Eb:=λ_ _ a H _ I h=>wpAny_execs_nil ⟨a,H,I,h⟩
theorem aH(b:PS X st t)(c:PSs X rest u):PSs X (st::rest) (Gc t u):=by
 intro pins s d H D I h;refine wpAny_execs_cons (eP (b pins s d H {D with nx:=u D} I h) λf g q=>?_);cases f with
 |next =>
  refine qq λqz=>?_;obtain⟨a,i,j,q⟩:=q;apply qz;exact c pins g a i D j q
 |ret v=>exact q
 |brk=>exact q
 |cont=>exact q
theorem aT(a:PS X st t):PSs X [st] t:=by
 intro pins s b H D I h;refine wpAny_execs_cons (eP (a pins s b H D I h) λf c q=>?_);cases f with
 |next=>exact wpAny_execs_nil q
 |ret v=>exact q
 |brk=>exact q
 |cont=>exact q
theorem Inv.quiet{pins:List (Addr×Obj)}{a:St}{H:Hp}{s:Shared}(I:Inv X pins a H s):interactive X.env=false:=by simp[interactive,I.ok.kind]
noncomputable def vD(te:TE):TS:=λD a H=>te a H λ_ b=>D.nx a b
theorem kC(b:PE X e te)(c:swapsWith e none pos.line X.env=pure false:=by rfl):PS X (.Expr e pos) (vD te):=by
 intro pins s a H D I h;exact wpAny_Expr_any (eP (b pins s a H _ I h) λv i ⟨x,d,f,j,g⟩=>⟨a,d,f,g⟩) I.quiet c
noncomputable def yP(te:TE):TS:=λD a H=>te a H D.rt
theorem bI(b:PE X e te):PS X (.Return (some e) pos) (yP te):=by
 intro pins s a H D I h;exact wpAny_Return_some (eP (b pins s a H _ I h) λv i ⟨x,c,d,f,g⟩=>⟨x,a,c,d,f,g⟩)
noncomputable def Kj(c:TT)(t u:TS):TS:=λD a H=>c a H λb d=>if b=true then t D a d else u D a d
theorem cZ{c:Expr}{a b:List Stmt}{g:TT}(m:PT X c g)(n:PSs X a t)(o:PSs X b u):PS X (.If c a b pos) (Kj g t u):=by
 intro pins s f H D I h;refine wpAny_If (eP (m pins s f H _ I h) λd i yq=>?_);obtain⟨j,k,l⟩:=yq;cases d with
 |true=>exact n pins i f j D k l
 |false=>exact o pins i f j D k l
end
noncomputable abbrev TG:=V->St->Hp->(St->Hp->Prop)->Prop
noncomputable abbrev yC:=List V->St->Hp->(St->Hp->Prop)->Prop
noncomputable def PG(X:Cx)(target:Expr)(t:TG):Prop:=
 ∀(pins:List (Addr×Obj))(s:Shared)(b:St)(H:Hp)(v:V)(u:Value)(Q:St->Hp->Prop),Inv X pins b H s->RelV v u->t v b H Q ->
  wpAny (model X.prog X.w) X.A (assign target X.env u) (λ_ d=>∃a c,Inv X pins a c d/\Q a c) X.xe s
noncomputable def Jp(X:Cx)(f:List Expr)(t:yC):Prop:=
 ∀(pins:List (Addr×Obj))(s:Shared)(b:St)(H:Hp)(c:List V)(d:List Value)(Q:St->Hp->Prop),Inv X pins b H s->Vals c d->t c b H Q ->
  wpAny (model X.prog X.w) X.A (assignInOrder ((assignEach f X.env).map (·.2)) d) (λ_ g=>∃a e,Inv X pins a e g/\Q a e) X.xe s
section
variable{X:Cx}{pos:Pos}
noncomputable def oK(i:Nat):TG:=λv a H Q=>Q (a.set i (some v)) H
theorem aZ{i:Nat}{x:Str}(a:X.N.Nodup)(b:X.N[i]? =some x)(c:Oe X.env.scope x)(d:X.fn x=true\/X.env.scope.names.lookup x=some .local:=by first|exact .inl rfl|exact .inr rfl|assumption):PG X (.Name x pos) (oK i):=by
 intro pins s f H v u Q I r h;exact wpAny_assign_Name (jL I a b c r (λg e=>⟨_,H,e,h⟩) d)
noncomputable def Mj:yC:=λa b H Q=>a=[]/\Q b H
noncomputable def Ey(t:TG)(u:yC):yC:=λb c H Q=>∃v r,b=v::r/\t v c H λa d=>u r a d Q
theorem cW:Jp X [] Mj:=by
 intro pins s a H b c Q I r h;obtain⟨e,h⟩:=h;subst e;cases r;exact assignInOrder_nil ⟨a,H,I,h⟩
theorem bD{e:Expr}{a:List Expr}{t:TG}{u:yC}(c:PG X e t)(d:Jp X a u)
  (f:(assignEach (e::a) X.env).map (·.2)=assign e X.env::(assignEach a X.env).map (·.2):=by rfl):Jp X (e::a) (Ey t u):=by
 intro pins s g H n o Q I r h;refine qq λqz=>?_;obtain⟨v,p,i,h⟩:=h;apply qz;subst i;cases r with
 |cons r rr=>
  rw[f];refine assignInOrder_cons (eP (c pins s g H _ _ _ I r h) λ_ j yq=>?_);obtain⟨b,k,l,m⟩:=yq;exact d pins j b k _ _ Q l rr m
noncomputable def Il(K:PySem.W.Frag)(n:Nat)(t:yC):TG:=λv c H Q=>∃a b,v= .ref a/\SqT K H a b/\b.length=n/\t b c H Q
theorem Gx{c:List Expr}{k:Nat}{t:yC}{n:Nat}(i:X.calm=true)(h:Jp X c t)
  (j:(assignEach c X.env).length=n:=by rfl) (d:(assignEach c X.env).findIdx? (·.1)=none:=by rfl):PG X (.Tuple c k pos) (Il X.K n t):=by
 intro pins s f H v u Q I r hw;refine qq λqz=>?_;obtain⟨a,l,m,p,q,hw⟩:=hw;apply qz;subst m;cases r;refine qq λqz=>?_;obtain⟨w,g,x,B⟩:=I.tuple p;apply qz;refine assign_Tuple_tuple (I.ok.hd i) x (by simp[j,<-q,g.length]) d λy z=>?_;have A:Inv X pins f H {s with heap:=y}:=I.kept (t':=s.toks) λb o e=>z b o (Nat.ne_of_lt (Heap.lt_size e)) e;exact h pins _ f H l _ Q A (by simpa using g) hw
noncomputable def rP(b:TE)(g:TG):TS:=λD a H=>b a H λx c=>g x a c D.nx
theorem qK{a e:Expr}{b:TE}{g:TG}(d:PE X e b)(f:PG X a g)(i:swapsWithSole [a] e pos.line X.env=pure false:=by rfl)(hw:swappedStores [a] e X.env=pure none:=by rfl)
  (j:(assignEach [a] X.env).map (·.2)=[assign a X.env]:=by rfl):PS X (.Assign [a] e pos) (rP b g):=by
 intro pins s c H D I h;refine wpAny_Assign_stores (eP (d pins s c H _ I h) λv k yq=>?_) i hw;refine qq λW_=>?_;obtain⟨x,l,m,n,o⟩:=yq;apply W_;rw[j];exact eP (f pins k c l x v _ m n o) λ_ p q=>q
theorem aY{i:Nat}{x:Str}{e:Expr}{a:TE}{pos':Pos}(b:X.N.Nodup)(c:X.N[i]? =some x)(d:Oe X.env.scope x)(f:PE X e a)(g:swapsWith e (some (.Name x pos')) pos.line X.env=pure false:=by rfl)(j:X.fn x=true\/X.env.scope.names.lookup x=some .local:=by first|exact .inl rfl|exact .inr rfl|assumption):
  PS X (.Assign [.Name x pos'] e pos) (rP a (oK i)):=by
 intro pins s k H D I h;refine wpAny_Assign_Name (eP (f pins s k H _ I h) λv q yq=>?_) g;refine qq λW_=>?_;obtain⟨y,l,m,n,o⟩:=yq;apply W_;exact jL m b c d n (λr p=>⟨_,l,p,o⟩) j
noncomputable def Kf(i j:Nat)(b:TA):TS:=λD a H=>b a H λc d=>∃v w,c=[v,w]/\D.nx ((a.set i (some v)).set j (some w)) d
theorem Gw{i j:Nat}{x y:Str}{a b:Expr}{A:TA}{k l m:Pos}{n k2 c}(K:X.calm=true)(B:X.N.Nodup)(L:X.N[i]? =some x)(M:X.N[j]? =some y)(r:i≠j)
  (C:X.env.scope.names.lookup x=some .local) (E:X.env.scope.names.lookup y=some .local) (N:PA X [a,b] A)
  (hw:swappedStores [.Tuple [.Name x k,.Name y l] n m] (.Tuple [a,b] k2 c) X.env=pure (some [x,y]))
  (O:swapsWithSole [.Tuple [.Name x k,.Name y l] n m] (.Tuple [a,b] k2 c) pos.line X.env=pure false:=by rfl):
  PS X (.Assign [.Tuple [.Name x k,.Name y l] n m] (.Tuple [a,b] k2 c) pos) (Kf i j A):=by
 intro pins s F H D I h;rw[exec_Assign_arm];refine wpAny_bind (wpAny_standAt ?_);rw[O];refine wpAny_bind (wpAny_pure ?_);rw[if_neg (by decide)];refine wpAny_bind (Tuple_ (eP (N _ pins s F H _ I h) λP d yq=>?_));refine qq λW_=>?_;obtain⟨vs,G,Q,R,t⟩:=yq;apply W_;refine qq λqz=>?_;obtain⟨v,w,S,t⟩:=t;apply qz;subst S;obtain⟨f,g,rfl,T,u⟩:∃f g,P=[f,g]/\RelV v f/\RelV w g:=by
  cases R with
  |cons p q=>
   cases q with
   |cons U W=>
    cases W;exact⟨_,_,rfl,p,U⟩
 refine wpAny_newObj_type ?_ (by show 2<=sizeLine;decide);have Y:Inv X pins F G {d with heap:=d.heap.push {cls:=.type "tuple",data:=.seq [f,g].toArray}}:=Q.kept (t':=d.toks) λb o e=>Heap.get?_push_of_some _ e;rw[hw];refine wpAny_bind (wpAny_pure ?_);show wpAny (model X.prog X.w) X.A (do rule "assign.swapped-stores";let items <-unpackItems (.ref d.heap.objs.size) 2 none;assignInOrder [λv=>bindName X.env y v,λv=>bindName X.env x v] items.reverse;pure Flow.next) _ _ _;refine wpAny_bind (wpAny_rule (wpAny_bind (unpackItems_tuple (items:=#[f,g]) (I.ok.hd K) (IsTup.new d.heap _) λh' z=>?_)));have Z:=Y.kept (h':=h') (t':=d.toks) λb o e=>z b o (Nat.ne_of_lt (Heap.lt_size e)) e;show wpAny _ _ (assignInOrder [λv=>bindName X.env y v,λv=>bindName X.env x v] [g,f]>>=λ_=>pure Flow.next) _ _ _;refine wpAny_bind (assignInOrder_cons (wpAny_bindName (jL Z B M (.inl E) u (λs2 I4=>?_) (.inr E))));refine assignInOrder_cons (wpAny_bindName (jL I4 B L (.inl C) T (λs3 J=>assignInOrder_nil (wpAny_pure ?_)) (.inr C)));rw[List.set_comm _ _ (Ne.symm r)]at J;exact⟨_,G,J,t⟩
end
section
variable{X:Cx}{pos:Pos}
noncomputable def yO(c:TT)(h:TS):TS:=λD a H=>∃W:Nat->St->Hp->Prop,(∃m,W m a H)/\∀m a H,W m a H ->
 c a H λb e=>if b=true then ∃N:St->Hp->Prop,(∀d f,N d f->∃g,g<m/\W g d f)/\h {D with nx:=N,ct:=N,bk:=D.nx} a e else D.nx a e
theorem mE{c:Expr}{body:List Stmt}{q:TT}{r:TS}(t:PassesOwn (model X.prog X.w) X.A X.env X.xe)(A:PT X c q)(B:PSs X body r):PS X (.While c body [] pos) (yO q r):=by
 intro pins s C H D I h;refine qq λqz=>?_;obtain⟨W,⟨E,F⟩,turn⟩:=h;apply qz;refine wpAny_While (codeAny_whileLoop (λn G=>∃e u,Inv X pins e u G/\W n e u) ?_ E ⟨C,H,I,F⟩);intro n J qQ0;refine qq λqz=>?_;obtain⟨d,w,K,L⟩:=qQ0;apply qz;refine wpAny_passesOwn t (eP (A pins J d w _ K (turn n d w L)) λb M yq=>?_);obtain⟨x,y,i⟩:=yq;cases b with
 |true=>
  refine qq λqz=>?_;obtain⟨N,z,i⟩:=i;apply qz;rw[if_pos rfl];refine wpAny_passesOwn t (eP (B pins M d x _ y i) λf O j=>?_);cases f with
  |next =>
   refine qq λqz=>?_;obtain⟨a,g,k,l⟩:=j;obtain⟨m,o,p⟩:=z a g l;apply qz;exact⟨m,o,a,g,k,p⟩
  |cont=>
   refine qq λqz=>?_;obtain⟨a,g,k,l⟩:=j;obtain⟨m,o,p⟩:=z a g l;apply qz;exact⟨m,o,a,g,k,p⟩
  |brk=>exact j
  |ret v=>exact j
 |false=>
  rw[if_neg Bool.false_ne_true];exact wpAny_execs_nil ⟨d,x,y,i⟩
end
structure It where
 go:Nat->Hp->Prop
 yld:Nat->Hp->V->Hp->Prop
 stop:Nat->Hp->Prop
noncomputable def gT(X:Cx)(pins:List (Addr×Obj))(H:Hp)(b:Addr):Prop:=
 H b=none/\b≠X.env.locals/\b∉X.fs/\(b∈X.ex\/X.s₀.heap.objs.size<=b)/\(∀x c,X.env.cells.lookup x=some c->c≠b)/\∀p∈X.pn++pins,p.1≠b
theorem Inv.fpOk{X:Cx}{pins:List (Addr×Obj)}{f:St}{H d:Hp}{s:Shared}{b:Addr}(I:Inv X pins f H s)(a:s.heap.objs.size<=b)(g:d b=none):gT X pins d b:=by
 refine⟨g,Nat.ne_of_gt (Nat.lt_of_lt_of_le I.lt a),I.nofs a,.inr (Nat.le_trans I.sz a),λx c e z=>?_,λp h z=>?_⟩
 ·obtain⟨v,q⟩:=I.cell x c e;exact absurd (Nat.lt_of_lt_of_le q.lt (by rw[z];exact a)) (Nat.lt_irrefl _)
 ·exact absurd (Nat.lt_of_lt_of_le (Heap.lt_size (I.pin p h).1) (by rw[z];exact a)) (Nat.lt_irrefl _)
structure Turn(P:Program)(w:World)(K:PySem.W.Frag)(tg:Expr)(J:It)(fp:List Addr)(it:Addr)(tn:Nat->Heap->Prop):Prop where
 mem:it∈fp
 obj:∀i h,tn i h->∀b∈fp,∃o,h.get? b=some o/\∀v,o.data≠ .cell v
 keep:∀i h h',tn i h->(∀b∈fp,∀o,h.get? b=some o->h'.get? b=some o)->tn i h'
 item:∀(X:Cx),X.prog=P->X.w=w->X.K=K->X.calm=true->∀(i:Nat)(pins:List (Addr×Obj))(s:Shared)(σ:St)(H:Hp)(E:Value->Shared->Prop),Inv X pins σ H s->(∀b∈fp,gT X pins H b)->tn i s.heap->J.go i H ->
  wpAny (model P w) X.A (pyNext (.ref it)) (λr s1=>∃u,r=some u/\
   wpAny (model P w) X.A (letOwnedTupleGo tg (.ref it) u) (λ_ s2=>∃x H',Inv X pins σ H' s2/\RelV x u/\J.yld i H x H'/\tn (i+1) s2.heap/\∀b∈fp,H' b=none) E s1) E s
 done:∀(X:Cx),X.prog=P->X.w=w->X.K=K->X.calm=true->∀(i:Nat)(pins:List (Addr×Obj))(s:Shared)(σ:St)(H:Hp)(E:Value->Shared->Prop),Inv X pins σ H s->(∀b∈fp,gT X pins H b)->tn i s.heap->J.stop i H ->
  wpAny (model P w) X.A (pyNext (.ref it)) (λr s1=>r=none/\Inv X pins σ H s1) E s
 self:∀(A:Around)(i:Nat)(s:Shared)(Q:Value->Shared->Prop)(E:Value->Shared->Prop),tn i s.heap->Q (.ref it) s->wpAny (model P w) A (pyIter (.ref it)) Q E s
noncomputable abbrev TI:=St->Hp->(It->Hp->Prop)->Prop
noncomputable def Qb(X:Cx)(pins:List (Addr×Obj))(h:St)(i:Expr)(R:It->Hp->Prop)(a:Value)(d:Shared):Prop:=
 ∃(e:Addr)(f:List Addr)(g:Nat->Heap->Prop)(J:It)(c:Hp),a= .ref e/\Inv X pins h c d/\Turn X.prog X.w X.K i J f e g/\g 0 d.heap/\(∀b∈f,gT X pins c b)/\R J c
noncomputable def PI(X:Cx)(b iter:Expr)(c:TI):Prop:=
 ∀(pins:List (Addr×Obj))(s:Shared)(a:St)(H:Hp)(R:It->Hp->Prop),Inv X pins a H s->c a H R ->
  wpAny (model X.prog X.w) X.A (eval iter X.env) (λv d=>wpAny (model X.prog X.w) X.A (pyIter v) (Qb X pins a b R) X.xe d) X.xe s
theorem Ac{M:Model}{A:Around}{E:Value->Shared->Prop}{s:Shared}{b:Expr}{c:Addr}{u:Value}{o:Obj}{n:String}{d:Array Value}{Q:Unit->Shared->Prop}(e:s.heap.get? c=some o)(f:o.cls= .type n)(g:o.data= .fields d)
  (i:["enumerate","zip","dict_itemiterator","dict_reverseitemiterator","odict_iterator","itertools.zip_longest","itertools.pairwise"].contains n=false) (a:Q () s):wpAny M A (letOwnedTupleGo b (.ref c) u) Q E s:=by
 unfold letOwnedTupleGo;cases b <;>first
  |exact wpAny_pure a
  | (cases u <;> first
    |exact wpAny_pure a
    | (refine wpAny_bind (wpAny_load e ?_)
       rw[f,g]
       show wpAny M A (if (["enumerate","zip","dict_itemiterator","dict_reverseitemiterator","odict_iterator","itertools.zip_longest","itertools.pairwise"].contains n && d[0]? ==some (rawInt _))=true then _ else _) Q E s
       rw[if_neg (by intro h;rw[i,Bool.false_and]at h;cases h)]
       exact wpAny_pure a))
noncomputable def Qg(K:PySem.W.Frag)(a:Addr):It:=
 ⟨λi H=>∃b x,SqL K H a b/\b[i]? =some x,λi H x c=>c=H/\∀b,SqL K H a b->b[i]? =some x,λi H=>∃b,SqL K H a b/\b.length<=i⟩
noncomputable def Og(a:Int)(n:Nat):It:=⟨λi _=>i<n,λi H x b=>b=H/\x= .int (a+i),λi _=>n<=i⟩
theorem xH{P:Program}{w:World}{K:PySem.W.Frag}{O:Expr}(a g:Addr):Turn P w K O (Qg K a) [g] g (λi h=>h.IsListIter g a i) where
 mem:=by simp
 obj:=λi h f b j=>by
  have e:b=g:=by simpa using j
  subst e;refine qq λqz=>?_;obtain⟨o,e,c,d⟩:=f;apply qz;exact⟨o,e,λv z=>by rw[d]at z;cases z⟩
 keep:=λi h m f k=>f.at λo e=>k g (by simp) o e
 item:=by
  intro X r hw t M i pins s N H E I n f y;subst r hw t;refine qq λqz=>?_;obtain⟨Q,x,q,A⟩:=y;obtain⟨B,C,p,R⟩:=I.list q;obtain⟨u,S,T⟩:=C.get A;obtain⟨D,F,U,G,J,L⟩:=n g (by simp);apply qz;refine wpAny_pyNext_list_item f p.isList (x:=u) (by simpa using S) λm l W=>?_;have Y:Inv X pins N H {s with heap:=m}:=I.turned (t':=s.toks) (λb o j e=>(W.2 b j).trans e) D F G J L;refine qq λqz=>?_;obtain⟨o,e,c,d⟩:=id l;apply qz;exact⟨u,rfl,Ac (s:={s with heap:=m}) e c d (by decide) ⟨x,H,Y,T,⟨rfl,λys Z=>by rw[I.list_inj Z q];exact A⟩,l,λb j=>(n b j).1⟩⟩
 done:=by
  intro X r hw t M i pins s N H E I n f y;subst r hw t;refine qq λqz=>?_;obtain⟨Q,q,A⟩:=y;obtain⟨B,C,p,R⟩:=I.list q;obtain⟨D,F,U,G,J,L⟩:=n g (by simp);apply qz;have hl:=C.length;exact wpAny_pyNext_list_end (I.ok.hd M) f p.isList (by simp;lia) λm eb=>⟨rfl,I.turned (t':=s.toks) (λb o j e=>eb b o j e) D F G J L⟩
 self:=λ_ _ _ _ _ f h=>wpAny_pyIter_listiter f h
theorem tU{P:Program}{w:World}{K:PySem.W.Frag}{F:Expr}(c:Addr)(g:Int)(n:Nat):Turn P w K F (Og g n) [c] c (λi h=>IsRangeIter h c (g+(i:Nat)*1) ((n:Int)-(i:Nat)) 1) where
 mem:=by simp
 obj:=λi h a b d=>by
  have e:b=c:=by simpa using d
  subst e
  exact⟨_,a,λv z=>by
   have G:Data.fields _=Data.cell v:=z
   cases G⟩
 keep:=λi h j a k=>k c (by simp) _ a
 item:=by
  intro X m hw p q i pins s C H E I l a r;subst m hw p;refine qq λqz=>?_;obtain⟨u,x,J,y,A,B⟩:=l c (by simp);apply qz;have W:=Walks.range (prog:=X.prog) (w:=X.w) (I.ok.hd q) c g 1 n;refine W.item i s _ _ r a λv j D L f M=>?_;refine qq λqz=>?_;obtain⟨t,rfl⟩:=L;apply qz;have N:Inv X pins C H {s with heap:=j,toks:=D}:=I.turned (λb o d e=>M b o (by simpa using d) e) u x y A B;refine⟨_,rfl,Ac (s:={s with heap:=j,toks:=D}) (n:="range_iterator") f rfl rfl (by decide) ⟨.int (g+i),H,N,⟨t,?_⟩,⟨rfl,rfl⟩,f,λb d=>(l b d).1⟩⟩;rw[Int.mul_one]
 done:=by
  intro X m hw p q i pins s C H E I l a r;subst m hw p;refine qq λqz=>?_;obtain⟨u,x,J,y,A,B⟩:=l c (by simp);apply qz;exact wpAny_pyNext_range_end (I.ok.hd q) a (by have:n<=i:=r;lia) λj O=>⟨rfl,I.turned (t':=s.toks) (λb o d e=>O b o d e) u x y A B⟩
 self:=λ_ _ _ _ _ a h=>wpAny_pyIter_rangeiter a h
end L2
namespace L2
open PySem PySem.Spec PyProof.Rows
section
variable{X:Cx}{tg:Expr}
noncomputable def wC(K:PySem.W.Frag)(c:TE):TI:=λd H R=>c d H λx b=>∃a,x= .ref a/\(∃e,SqL K b a e)/\R (Qg K a) b
theorem Cc{l:Expr}{f:TE}(g:PE X l f):PI X tg l (wC X.K f):=by
 intro pins s i H R I h;refine eP (g pins s i H _ I h) λv c yq=>?_;refine qq λW_=>?_;obtain⟨x,j,d,k,m⟩:=yq;apply W_;refine qq λqz=>?_;obtain⟨a,e,⟨u,n⟩,q⟩:=m;apply qz;subst e;cases k;refine qq λqz=>?_;obtain⟨r,w,p,y⟩:=d.list n;apply qz;refine wpAny_pyIter_list p.isList ?_;refine⟨c.heap.objs.size,[c.heap.objs.size],_,_,j,rfl,d.kept (t':=c.toks) λb o e=>Heap.get?_push_of_some _ e,xH a _,⟨_,Heap.get?_push_size _ rfl,rfl,rfl⟩,λb t=>?_,q⟩;have e:b=c.heap.objs.size:=by simpa using t
 subst e;exact d.fpOk (Nat.le_refl _) (d.hok.fresh (Nat.le_refl _))
theorem yV{pins:List (Addr×Obj)}{d:St}{H:Hp}{s:Shared}{R:It->Hp->Prop}{E:Value->Shared->Prop}{a c:Int}{t u v:Tok}{f:Nat}(I:Inv X pins d H s)(h:-(2^62)<=a)(i:a<2^62)(j:-(2^62)<=c)(k:c<2^62)
  (q:R (Og a (c-a).toNat) H):wpAny (model X.prog X.w) X.A (pyIter (.ref s.heap.objs.size)) (Qb X pins d tg R) E {s with heap:=s.heap.push {cls:=.type "range",data:=.fields #[.int a t,.int c u,.int 1 v]},toks:=f}:=by
 refine wpAny_pyIter_range (IsRange.new ..) (small_one h i j k) ?_;have g:Inv X pins d H {s with heap:=s.heap.push {cls:=.type "range",data:=.fields #[.int a t,.int c u,.int 1 v]},toks:=f}:=I.kept λb o e=>Heap.get?_push_of_some _ e
 refine⟨(s.heap.push {cls:=.type "range",data:=.fields #[.int a t,.int c u,.int 1 v]}).objs.size,[(s.heap.push {cls:=.type "range",data:=.fields #[.int a t,.int c u,.int 1 v]}).objs.size],_,_,H,rfl,
  g.kept (t':=f) λb o e=>Heap.get?_push_of_some _ e,tU _ a (c-a).toNat,?_,λb l=>?_,q⟩
 ·have m:a+((0:Nat):Int)*1=a:=by simp
  have n:(((c-a).toNat:Nat):Int)-((0:Nat):Int)=Builtin.Range.rangeSize a c 1:=by rw[rangeSize_one];split <;>lia
  show IsRangeIter _ _ (a+((0:Nat):Int)*1) ((((c-a).toNat:Nat):Int)-((0:Nat):Int)) 1;rw[m,n];exact Heap.get?_push_size _ rfl
 ·have e:b=(s.heap.push {cls:=.type "range",data:=.fields #[.int a t,.int c u,.int 1 v]}).objs.size:=by simpa using l
  subst e;exact g.fpOk (Nat.le_refl _) (g.hok.fresh (Nat.le_refl _))
noncomputable def Ew(a:TA):TI:=λb H R=>a b H λc d=>∃j:Int,c=[.int j]/\-(2^62)<=j/\j<2^62/\R (Og 0 j.toNat) d
theorem nZ{a:Expr}{d:TA}{p b:Pos}(f:Gl X "range")(g:X.mg "range"=none)(i:PA X [a] d)(k:starEach [a] X.env=[(false,eval a X.env)]:=by rfl):PI X tg (.Call (.Name "range" p) [a] [] b) (Ew d):=by
 intro pins s l H R I h;refine Call_ (gN I f g boot_range (PyProof.Rows.callWith_type1 (eP (i b pins s l H _ I h) λu v yq=>?_) k rfl));refine qq λW_=>?_;obtain⟨w,x,m,n,c⟩:=yq;apply W_;refine qq λqz=>?_;obtain⟨j,e,c,o,q⟩:=c;apply qz;subst e;cases n with
 |cons r rr=>
  cases rr;refine qq λqz=>?_;obtain⟨t,rfl⟩:=r;apply qz;exact call_range_1 (yV m (by lia) (by lia) c o (by simpa using q))
noncomputable def Kk(f:TI)(g:TG)(h:TS):TS:=λD a H=>f a H λJ j=>∃W:Nat->Nat->St->Hp->Prop,(∃m,W 0 m a j)/\∀i m a H,W i m a H ->
 (J.stop i H/\D.nx a H)\/(J.go i H/\∃N:St->Hp->Prop,(∀b c,N b c->∃e,e<m/\W (i+1) e b c)/\∀x c,J.yld i H x c->g x a c λd k=>h {D with nx:=N,ct:=N,bk:=D.nx} d k)
noncomputable def mG(a:List Addr)(h:Heap):List (Addr×Obj):=a.filterMap λb=>(h.get? b).map λo=>(b,o)
theorem gM{a:List Addr}{h:Heap}{b:Addr}{o:Obj}(c:b∈a)(e:h.get? b=some o):(b,o)∈mG a h:=List.mem_filterMap.mpr ⟨b,c,by rw[e];rfl⟩
theorem xN{a:List Addr}{h:Heap}{p:Addr×Obj}(c:p∈mG a h):p.1∈a/\h.get? p.1=some p.2:=by
 obtain⟨b,d,e⟩:=List.mem_filterMap.mp c;cases q:h.get? b with
 |none=>rw[q]at e;cases e
 |some o=>
  rw[q]at e;have f:(b,o)=p:=Option.some.inj e;subst f;exact⟨d,q⟩
theorem Inv.pinned{pins:List (Addr×Obj)}{c:St}{H:Hp}{s:Shared}{a:List Addr}(I:Inv X pins c H s)(h:∀b∈a,gT X pins H b)(i:∀b∈a,∃o,s.heap.get? b=some o/\∀v,o.data≠ .cell v):Inv X (pins++mG a s.heap) c H s:=
 I.pins_of λp j=>(List.mem_append.mp j).elim (λz=>I.pin p (List.mem_append_right _ z)) λz=>by
  refine qq λqz=>?_;obtain⟨f,e⟩:=xN z;obtain⟨k,l,m,_⟩:=h p.1 f;obtain⟨o,g,d⟩:=i p.1 f;apply qz;rw[e]at g;cases g;exact⟨e,k,l,m,d⟩
theorem Inv.unpinned{pins b:List (Addr×Obj)}{a:St}{H:Hp}{s:Shared}(I:Inv X (pins++b) a H s):Inv X pins a H s:=I.pins_of λp c=>I.pin p (List.mem_append_right _ (List.mem_append_left _ c))
theorem fN{iter:Expr}{body:List Stmt}{R:TI}{g:TG}{S:TS}{G:Pos}(z:PassesOwn (model X.prog X.w) X.A X.env X.xe)(U:X.calm=true)(hi:PI X tg iter R)(hg:PG X tg g)(c:PSs X body S)
  (hs:∀x,foldedSetIterable iter X.env x=pure x:=by intro _;rfl):PS X (.For tg iter body [] G) (Kk R g S):=by
 intro pins s Y H D I h;refine wpAny_For (eP (hi pins s Y H _ I h) λv s1 h1=>eP h1 λa0 s2 h2=>?_) hs;refine qq λqz=>?_;obtain⟨it,A,Z,J,H2,e,I2,T,K,f2,W,⟨m0,w0⟩,turn⟩:=h2;apply qz;subst e;have j:∀{t:Hp},(∀b∈A,t b=none)->∀b∈A,gT X pins t b:=λhn b c=>⟨hn b c,(f2 b c).2⟩;refine codeAny_forLoop_any (λn s'=>∃i k t,Inv X pins k t s'/\Z i s'.heap/\(∀b∈A,t b=none)/\W i n k t) ?_ m0 ⟨0,Y,H2,I2,K,λb c=>(f2 b c).1,w0⟩;intro n s3 qQ0;refine qq λqz=>?_;obtain⟨i,l,F,I3,B,C,w3⟩:=qQ0;apply qz;rcases turn i n l F w3 with⟨stop,qn⟩|⟨go,N,hN,step⟩
 ·refine wpAny_passesOwn z (eP (T.done X rfl rfl rfl U i pins s3 l F X.xe I3 (j C) B stop) λr s4 yq=>?_);obtain⟨L,I4⟩:=yq;subst L;exact wpAny_execs_nil ⟨l,F,I4,qn⟩
 ·refine wpAny_passesOwn z (eP (T.item X rfl rfl rfl U i pins s3 l F X.xe I3 (j C) B go) λr s4 yq=>?_);obtain⟨u,L,h4⟩:=yq;subst L;refine wpAny_passesOwn z (eP h4 λ_ s5 yq=>?_);refine qq λW_=>?_;obtain⟨x,H5,I5,r5,y5,y,M⟩:=yq;apply W_;have O:=I5.pinned (j M) (T.obj _ _ y);refine wpAny_passesOwn z (eP (hg _ s5 l H5 x u _ O r5 (step x H5 y5)) λ_ s6 yq=>?_);obtain⟨P,H6,I6,q6⟩:=yq;refine wpAny_passesOwn z (eP (c _ s6 P H6 _ I6 q6) λf Q w=>?_);have again:∀{a:St}{p:Hp},Inv X (pins++mG A s5.heap) a p Q->N a p->∃m,m<n/\∃i k t,Inv X pins k t Q/\Z i Q.heap/\(∀b∈A,t b=none)/\W i m k t:=λ{a p} q E=>by
   refine qq λqz=>?_;obtain⟨m',hm,w7⟩:=hN a p E;apply qz;refine⟨m',hm,i+1,a,p,q.unpinned,T.keep _ _ _ y λb c o e=>(q.pin (b,o) (List.mem_append_right _ (List.mem_append_right _ (gM c e)))).1,λb c=>?_,w7⟩;obtain⟨o,e,d⟩:=T.obj _ _ y b c;exact(q.pin (b,o) (List.mem_append_right _ (List.mem_append_right _ (gM c e)))).2.1
  cases f with
  |next=>refine qq λqz=>?_;obtain⟨a,p,q,E⟩:=w;apply qz;exact again q E
  |cont=>refine qq λqz=>?_;obtain⟨a,p,q,E⟩:=w;apply qz;exact again q E
  |brk=>refine qq λqz=>?_;obtain⟨a,p,q,w⟩:=w;apply qz;exact⟨a,p,q.unpinned,w⟩
  |ret v=>refine qq λqz=>?_;obtain⟨x7,a,p,q,r7,w⟩:=w;apply qz;exact⟨x7,a,p,q.unpinned,r7,w⟩
end
end L2
namespace L2
open PySem PySem.Spec PyProof.Rows
noncomputable abbrev R2:=V->V->Hp->VK->Prop
noncomputable def OpR(X:Cx)(f:Value->Value->Sem Value)(r:R2):Prop:=
 ∀(pins:List (Addr×Obj))(s:Shared)(a:St)(H:Hp)(x y:V)(v u:Value)(Q:VK),Inv X pins a H s->RelV x v->RelV y u->r x y H Q ->
  wpAny (model X.prog X.w) X.A (f v u) (EP X pins a Q) X.xe s
noncomputable def Pi(X:Cx)(f:Value->Sem Value)(r:V->Hp->VK->Prop):Prop:=
 ∀(pins:List (Addr×Obj))(s:Shared)(a:St)(H:Hp)(x:V)(v:Value)(Q:VK),Inv X pins a H s->RelV x v->r x H Q ->
  wpAny (model X.prog X.w) X.A (f v) (EP X pins a Q) X.xe s
noncomputable def CallR(X:Cx)(f:Value)(r:List V->Hp->VK->Prop):Prop:=
 ∀(pins:List (Addr×Obj))(s:Shared)(a:St)(H:Hp)(b:List V)(c:List Value)(Q:VK),Inv X pins a H s->Vals b c->r b H Q ->
  wpAny (model X.prog X.w) X.A (call f c) (EP X pins a Q) X.xe s
noncomputable def xI(r:R2)(b c:TE):TE:=λa H Q=>b a H λx d=>c a d λy e=>r x y e Q
noncomputable def Po(r:V->Hp->VK->Prop)(a:TE):TE:=λb H Q=>a b H λx c=>r x c Q
noncomputable def rI(C:Int->Int->Prop)(g:Int->Int->V):R2:=λx y H Q=>∃i j,x= .int i/\y= .int j/\C i j/\Q (g i j) H
noncomputable def Bx(g:Int->Int->V):R2:=λx y H Q=>∃i j,x= .int i/\y= .int j/\Q (g i j) H
noncomputable def rU(g:Int->V):V->Hp->VK->Prop:=λx H Q=>∃i,x= .int i/\Q (g i) H
section
variable{X:Cx}{a b c:Expr}{ta tb tc:TE}{pos:Pos}
theorem Ji(l:PE X a ta)(m:PE X b tb){pins:List (Addr×Obj)}{s:Shared}{d:St}{H:Hp}{R:V->V->Hp->Prop}(I:Inv X pins d H s)
  (h:ta d H λx k=>tb d k λy e=>R x y e) {Q:Value->Shared->Prop} {f:Value->Value->Sem Value}
  (n:∀v u j x y e,Inv X pins d e j->RelV x v->RelV y u->R x y e->wpAny (model X.prog X.w) X.A (f v u) Q X.xe j):
  wpAny (model X.prog X.w) X.A (eval a X.env) (λv g=>wpAny (model X.prog X.w) X.A (eval b X.env) (λu i=>wpAny (model X.prog X.w) X.A (f v u) Q X.xe i) X.xe g) X.xe s:=by
 refine eP (l pins s d H _ I h) λv o yq=>?_;refine qq λW_=>?_;obtain⟨x,k,p,q,r⟩:=yq;apply W_;refine eP (m pins o d k _ p r) λu j yq=>?_;refine qq λW_=>?_;obtain⟨y,e,t,w,z⟩:=yq;apply W_;exact n v u j x y e t q w z
theorem aV{d:Operator}{r:R2}(e:OpR X (binaryOp d) r)(f:PE X a ta)(g:PE X b tb):PE X (.BinOp a d b pos) (xI r ta tb):=by
 intro pins s i H Q I h;exact wpAny_BinOp (Ji f g I h λv u j x y k l m n q=>e pins j i k x y v u Q l m n q)
theorem iV{d:UnaryOp}{r:V->Hp->VK->Prop}(f:Pi X (unaryOp d) r)(g:PE X a ta):PE X (.UnaryOp d a pos) (Po r ta):=by
 intro pins s e H Q I h;exact UnaryOp_ (eP (g pins s e H _ I h) λv i ⟨x,j,k,l,m⟩=>f pins i e j x v Q k l m)
theorem Lj{f:Value->Value->Sem Value}{C:Int->Int->Prop}{g:Int->Int->Int}
  (rule:∀(i j:Int)(t u:Tok)(s:Shared)(Q:Value->Shared->Prop)(E:Value->Shared->Prop),C i j->Q (.int (g i j) s.toks) {s with toks:=s.toks+1}->wpAny (model X.prog X.w) X.A (f (.int i t) (.int j u)) Q E s):
  OpR X f (rI C λi j=>.int (g i j)):=by
 intro pins s m H x y v u Q I d e h;refine qq λqz=>?_;obtain⟨i,j,rfl,rfl,k,q⟩:=h;obtain⟨t,rfl⟩:=d;obtain⟨l,rfl⟩:=e;apply qz;exact rule i j t l s _ _ k ⟨.int (g i j),H,I.tok _,⟨_,rfl⟩,q⟩
theorem Li{f:Value->Value->Sem Value}{g:Int->Int->Int}
  (rule:∀(i j:Int)(t u:Tok)(s:Shared)(Q:Value->Shared->Prop)(E:Value->Shared->Prop),Q (.int (g i j) s.toks) {s with toks:=s.toks+1}->wpAny (model X.prog X.w) X.A (f (.int i t) (.int j u)) Q E s):
  OpR X f (Bx λi j=>.int (g i j)):=by
 intro pins s l H x y v u Q I d e h;refine qq λqz=>?_;obtain⟨i,j,rfl,rfl,q⟩:=h;obtain⟨t,rfl⟩:=d;obtain⟨k,rfl⟩:=e;apply qz;exact rule i j t k s _ _ ⟨.int (g i j),H,I.tok _,⟨_,rfl⟩,q⟩
theorem Hg{f:Value->Value->Sem Value}{g:Int->Int->Bool}
  (rule:∀(i j:Int)(t u:Tok)(s:Shared)(Q:Value->Shared->Prop)(E:Value->Shared->Prop),Q (.bool (g i j)) s->wpAny (model X.prog X.w) X.A (f (.int i t) (.int j u)) Q E s):
  OpR X f (Bx λi j=>.bl (g i j)):=by
 intro pins s l H x y v u Q I d e h;refine qq λqz=>?_;obtain⟨i,j,rfl,rfl,q⟩:=h;obtain⟨t,rfl⟩:=d;obtain⟨k,rfl⟩:=e;apply qz;exact rule i j t k s _ _ ⟨.bl (g i j),H,I,rfl,q⟩
noncomputable def Nq(i j:Int):Prop:=0<=j/\j<=1000000/\i.natAbs<2^64
noncomputable def CMul(i j:Int):Prop:=(-(2^64)<i/\i<2^64)\/(-(2^64)<j/\j<2^64)
theorem CMul.ok{i j:Int}(h:CMul i j):IntMulOk i j:=by
 rcases h with⟨d,e⟩|⟨d,e⟩
 ·exact .of_left (intBits_le_64 d e)
 ·exact .of_right (intBits_le_64 d e)
theorem cR:OpR X (binaryOp .Add) (Bx λi j=>.int (i+j)):=Li λ_ _ _ _ _ _ _ q=>add_int q
theorem fV:OpR X (binaryOp .Sub) (Bx λi j=>.int (i-j)):=Li λ_ _ _ _ _ _ _ q=>sub_int q
theorem cO:OpR X (binaryOp .Mod) (rI (λ_ j=>0<j) λi j=>.int (i%j)):=Lj λi j _ _ _ _ _ d q=>by
 have e:(0:Int)<j:=d;exact mod_int' (by lia) (by rw[Int.fmod_eq_emod_of_nonneg i (by lia)];exact q)
theorem gL:OpR X (binaryOp .Pow) (rI Nq λi j=>.int (i^j.toNat)):=Lj λ_ _ _ _ _ _ _ d q=>pow_int_small d.1 d.2.1 d.2.2 q
theorem Qm{f:Value->Sem Value}{g:Int->Int}
  (rule:∀(i:Int)(t:Tok)(s:Shared)(Q:Value->Shared->Prop)(E:Value->Shared->Prop),Q (.int (g i) s.toks) {s with toks:=s.toks+1}->wpAny (model X.prog X.w) X.A (f (.int i t)) Q E s):
  Pi X f (rU λi=>.int (g i)):=by
 intro pins s e H x v Q I d h;refine qq λqz=>?_;obtain⟨i,rfl,q⟩:=h;obtain⟨t,rfl⟩:=d;apply qz;exact rule i t s _ _ ⟨.int (g i),H,I.tok _,⟨_,rfl⟩,q⟩
theorem fU:Pi X (unaryOp .USub) (rU λi=>.int (-i)):=Qm λ_ _ _ _ _ q=>neg_int q
end
noncomputable def Kn:V->V->Bool
 | .non,.non=>true| .non,.int _=>true| .int _,.non=>true| .non,.bl _=>true| .bl _,.non=>true| .non,.str _=>true| .str _,.non=>true
 | .int _,.int _=>true| .bl _,.bl _=>true| .str _,.str _=>true| .byt _,.byt _=>true
 | .int _,.str _=>true| .str _,.int _=>true| .bl _,.str _=>true| .str _,.bl _=>true
 |_,_=>false
noncomputable def Pv:R2:=λx y H Q=>Kn x y=true/\Q (.bl (decide (x=y))) H
noncomputable def Pu:R2:=λx y H Q=>Kn x y=true/\Q (.bl (!decide (x=y))) H
theorem wM{i j:Int}:decide (V.int i=V.int j)=(i==j):=by
 rw[Bool.eq_iff_iff];simp
theorem Aj{i j:Bool}:decide (V.bl i=V.bl j)=(i==j):=by
 rw[Bool.eq_iff_iff];simp
theorem wL{i j:Str}:decide (V.str i=V.str j)=(i==j):=by
 rw[Bool.eq_iff_iff];simp
theorem wN{i j:Array UInt8}:decide (V.byt i=V.byt j)=(i.toList==j.toList):=by
 rw[Bool.eq_iff_iff];cases i;cases j;simp
section
variable{X:Cx}{a b c:Expr}{ta tb tc:TE}{pos:Pos}
theorem cJ{pins:List (Addr×Obj)}{d:St}{H:Hp}{s:Shared}{Q:VK}{k f:Bool}(I:Inv X pins d H s)(q:Q (.bl k) H)(e:k=f):EP X pins d Q (.bool f) s:=by
 subst e;exact⟨.bl k,H,I,rfl,q⟩
theorem fF:OpR X (compareOp .Eq) Pv:=by
 intro pins s k H x y v u Q I g d h;obtain⟨f,q⟩:=h;cases x with
 |non=>
  cases g;cases y with
  |non=>cases d;exact PySem.EqNone.eq_none_none (cJ I q (by simp))
  |bl j=>cases d;exact PySem.EqNone.eq_none_bool (cJ I q (by simp))
  |int j=>obtain⟨e,rfl⟩:=d;exact PySem.EqNone.eq_none_int (cJ I q (by simp))
  |str j=>obtain⟨e,rfl⟩:=d;exact PySem.EqNone.eq_none_str (cJ I q (by simp))
  |_=>exact absurd (show false=true from f) Bool.false_ne_true
 |bl i=>
  cases g;cases y with
  |non=>cases d;exact PySem.EqNone.eq_bool_none (cJ I q (by simp))
  |bl j=>cases d;exact eq_bool (cJ I q Aj)
  |str j=>obtain⟨e,rfl⟩:=d;exact PySem.EqMixed.eq_bool_str (cJ I q (by simp))
  |_=>exact absurd (show false=true from f) Bool.false_ne_true
 |int i=>
  obtain⟨t,rfl⟩:=g;cases y with
  |non=>cases d;exact PySem.EqNone.eq_int_none (cJ I q (by simp))
  |int j=>obtain⟨e,rfl⟩:=d;exact eq_int (cJ I q wM)
  |str j=>obtain⟨e,rfl⟩:=d;exact PySem.EqMixed.eq_int_str (cJ I q (by simp))
  |_=>exact absurd (show false=true from f) Bool.false_ne_true
 |str i=>
  obtain⟨t,rfl⟩:=g;cases y with
  |non=>cases d;exact PySem.EqNone.eq_str_none (cJ I q (by simp))
  |bl j=>cases d;exact PySem.EqMixed.eq_str_bool (cJ I q (by simp))
  |int j=>obtain⟨e,rfl⟩:=d;exact PySem.EqMixed.eq_str_int (cJ I q (by simp))
  |str j=>obtain⟨e,rfl⟩:=d;exact eq_str (cJ I q wL)
  |_=>exact absurd (show false=true from f) Bool.false_ne_true
 |byt i=>
  obtain⟨t,rfl⟩:=g;cases y with
  |byt j=>obtain⟨e,rfl⟩:=d;exact PySem.W.eq_bytes (cJ I q wN)
  |_=>exact absurd (show false=true from f) Bool.false_ne_true
 |_=>cases y <;>exact absurd (show false=true from f) Bool.false_ne_true
theorem Eh:OpR X (compareOp .NotEq) Pu:=by
 intro pins s k H x y v u Q I g d h;obtain⟨f,q⟩:=h;cases x with
 |non=>
  cases g;cases y with
  |non=>cases d;exact PySem.EqNone.ne_none_none (cJ I q (by simp))
  |bl j=>cases d;exact PySem.EqNone.ne_none_bool (cJ I q (by simp))
  |int j=>obtain⟨e,rfl⟩:=d;exact PySem.EqNone.ne_none_int (cJ I q (by simp))
  |str j=>obtain⟨e,rfl⟩:=d;exact PySem.EqNone.ne_none_str (cJ I q (by simp))
  |_=>exact absurd (show false=true from f) Bool.false_ne_true
 |bl i=>
  cases g;cases y with
  |non=>cases d;exact PySem.EqNone.ne_bool_none (cJ I q (by simp))
  |bl j=>cases d;exact ne_bool (cJ I q (congrArg not Aj))
  |str j=>obtain⟨e,rfl⟩:=d;exact PySem.EqMixed.ne_bool_str (cJ I q (by simp))
  |_=>exact absurd (show false=true from f) Bool.false_ne_true
 |int i=>
  obtain⟨t,rfl⟩:=g;cases y with
  |non=>cases d;exact PySem.EqNone.ne_int_none (cJ I q (by simp))
  |int j=>obtain⟨e,rfl⟩:=d;exact ne_int (cJ I q (congrArg not wM))
  |str j=>obtain⟨e,rfl⟩:=d;exact PySem.EqMixed.ne_int_str (cJ I q (by simp))
  |_=>exact absurd (show false=true from f) Bool.false_ne_true
 |str i=>
  obtain⟨t,rfl⟩:=g;cases y with
  |non=>cases d;exact PySem.EqNone.ne_str_none (cJ I q (by simp))
  |bl j=>cases d;exact PySem.EqMixed.ne_str_bool (cJ I q (by simp))
  |int j=>obtain⟨e,rfl⟩:=d;exact PySem.EqMixed.ne_str_int (cJ I q (by simp))
  |str j=>obtain⟨e,rfl⟩:=d;exact ne_str (cJ I q (congrArg not wL))
  |_=>exact absurd (show false=true from f) Bool.false_ne_true
 |byt i=>
  obtain⟨t,rfl⟩:=g;cases y with
  |byt j=>obtain⟨e,rfl⟩:=d;exact PySem.W.ne_bytes (cJ I q (congrArg not wN))
  |_=>exact absurd (show false=true from f) Bool.false_ne_true
 |_=>cases y <;>exact absurd (show false=true from f) Bool.false_ne_true
theorem oC:OpR X (compareOp .Lt) (Bx λi j=>.bl (decide (i<j))):=Hg λ_ _ _ _ _ _ _ q=>lt_int q
theorem Lh:OpR X (compareOp .LtE) (Bx λi j=>.bl (decide (i<=j))):=Hg λ_ _ _ _ _ _ _ q=>le_int q
theorem Ei:OpR X (compareOp .Gt) (Bx λi j=>.bl (decide (j<i))):=Hg λ_ _ _ _ _ _ _ q=>gt_int q
theorem OpR.or{f:Value->Value->Sem Value}{r d:R2}(h:OpR X f r)(j:OpR X f d):OpR X f (λx y H Q=>r x y H Q\/d x y H Q):=by
 intro pins s e H x y v u Q I g i q;rcases q with q|q
 ·exact h pins s e H x y v u Q I g i q
 ·exact j pins s e H x y v u Q I g i q
theorem bY(b:Expr){d:CmpOp}(h:d≠ .In:=by decide)(e:d≠ .NotIn:=by decide):behindInMarks d b=false:=by
 have f:(d==CmpOp.In)=false:=by cases d <;>first|rfl|exact absurd rfl h
 have g:(d==CmpOp.NotIn)=false:=by cases d <;>first|rfl|exact absurd rfl e
 cases b <;>simp[behindInMarks,f,g]
theorem kE{d:CmpOp}{r:R2}(e:OpR X (compareOp d) r)(f:PE X a ta)(g:PE X b tb)(i:behindInMarks d b=false):PE X (.Compare a [d] [b] pos) (xI r ta tb):=by
 intro pins s j H Q I h;exact wpAny_Compare1 (Ji f g I h λv u k x y l m n o q=>e pins k j l x y v u Q m n o q) i
noncomputable def Dz(t:TE):TT:=λd H Q=>t d H λx e=>∃k,x= .bl k/\Q k e
theorem bR{d:CmpOp}{r:R2}(g:OpR X (compareOp d) r)(i:PE X a ta)(j:PE X b tb)(l:behindInMarks d b=false):PT X (.Compare a [d] [b] pos) (Dz (xI r ta tb)):=by
 intro pins s f H Q I h
 refine wpAny_isTrue_Compare1 (eP (i pins s f H _ I h) λv m ⟨x,n,o,p,q⟩=>eP (j pins m f n _ o q) λu t ⟨y,w,A,B,C⟩=>
  eP (g pins t f w x y v u _ A p B C) λc J ⟨z,D,E,F,k,e,G⟩=>?_) l
 subst e;cases F;exact wpAny_truthy_bool ⟨D,E,G⟩
theorem qU:(sizeLine:Nat)<2^63:=by rw[sizeLine_eq];decide
theorem nQ{x:V}{d:List Value}(r:Vals [x] d):∃u,d=[u]/\RelV x u:=by
 cases r with
 |cons e f=>cases f;exact⟨_,rfl,e⟩
theorem rM{x y:V}{d:List Value}(r:Vals [x,y] d):∃u e,d=[u,e]/\RelV x u/\RelV y e:=by
 cases r with
 |cons f g=>
  cases g with
  |cons h i=>cases i;exact⟨_,_,rfl,f,h⟩
theorem eZ:CallR X (.builtin "abs") (λd H Q=>∃i,d=[.int i]/\Q (.int (if i<0 then -i else i)) H):=by
 intro pins s e H d f Q I r h;refine qq λqz=>?_;obtain⟨i,rfl,q⟩:=h;obtain⟨u,rfl,t,rfl⟩:=nQ r;apply qz;exact call_abs_int λu g=>⟨.int (if i<0 then -i else i),H,I.tok _,⟨_,rfl⟩,q⟩
theorem yA(f:X.calm=true):CallR X (.builtin "min") (λe H Q=>∃i j,e=[.int i,.int j]/\Q (.int (if j<i then j else i)) H):=by
 intro pins s g H e l Q I r h;refine qq λqz=>?_;obtain⟨i,j,rfl,q⟩:=h;obtain⟨u,m,rfl,⟨t,rfl⟩,⟨n,rfl⟩⟩:=rM r;apply qz;refine min_two_ints (I.ok.hd f) λo p k=>⟨_,H,I.kept k,?_,q⟩;by_cases d:j<i
 ·rw[if_pos d,if_pos d];exact⟨_,rfl⟩
 ·rw[if_neg d,if_neg d];exact⟨_,rfl⟩
end
end L2
namespace L2
open PySem PySem.Spec PyProof.Rows
structure ObjM(h:Heap)(x dx C:Addr)(mA:Str->Option Value):Prop where
 obj:h.get? x=some (PySem.W.instObj C dx)
 ns:h.Ns1 dx mA
 ne:dx≠x
theorem xR{h:Heap}{c:Addr}{d:Str->Option Value}(n:h.Ns1 c d):∃f,h.get? c=some f/\∀name,PySem.W.lookIn name f=some (d name):=by
 refine qq λqz=>?_;obtain⟨o,g,r,i,j,k,_,l⟩:=n;apply qz;refine⟨o,i,λname=>?_⟩;have e:=l name;unfold nsFind findBy at e;rw[<-Array.find?_toList]at e;unfold PySem.W.lookIn;rw[j];dsimp only;split
 ·rename_i y q
  rw[q]at e;exact congrArg some e
 ·rename_i q
  rw[q]at e;have a:g.toList.any (·.refKey)=false:=by
   rw[List.any_eq_false];intro y m;obtain⟨z,t,b⟩:=k y (Array.mem_toList_iff.mp m);simp[DictEntry.refKey,b]
  have p:¬g.toList.any (·.refKey)=true:=by rw[a];exact Bool.false_ne_true
  rw[if_neg p];exact congrArg some e
theorem ObjM.look{h:Heap}{x b C:Addr}{c:Str->Option Value}(I:ObjM h x b C c):∃a,PySem.W.InstAt h x (PySem.W.instObj C b) C (some a)/\∀name,PySem.W.lookIn name a=some (c name):=
 let⟨a,d,e⟩:=xR I.ns
 ⟨a,⟨I.obj,rfl,rfl,d⟩,e⟩
section
variable{prog:Program}{w:World}{A:Around}{E:Value->Shared->Prop}{s:Shared}{K:PySem.W.Frag}{x dx C f:Addr}{mA:Str->Option Value}{name:Str}{v:Value}
end
section
variable{P:Program}{w:World}{H H':Hp}{h h':Heap}{a C dx:Addr}{fs fs':List (Str×V)}
theorem Cw(c:HOk P w H h)(e:H a=some (.ins C dx fs)):∃b,ObjM h a dx C b/\(∀f,Jn (fs.lookup f) (b f))/\PySem.Within b (fs.map (·.1))/\fs.length<=1000/\H dx=some (.own a):=by
 refine qq λqz=>?_;obtain⟨d,z,g,i,b,n,r,q⟩:=(show ObjOk P w H h a (.ins C dx fs)from c a _ e);apply qz;exact⟨b,⟨i,n,g⟩,r,q,z,d⟩
end
structure Cls(K:PySem.W.Frag)(C:Addr):Prop where
 pg:PySem.W.plainGet K C Str.empty=true
 hd:PySem.W.hasDictIn K C=true
 po:PySem.W.plainOver K C=true
 sa:PySem.W.findIn K (.ref C) "__setattr__"=some (some (.builtin "object.__setattr__"))
theorem Cls.get{K:PySem.W.Frag}{C:Addr}(c:Cls K C)(f:Str):PySem.W.plainGet K C f=true:=c.pg
structure Con(K:PySem.W.Frag)(C:Addr)(f:Str)(v:V)(u:Value):Prop where
 at_:PySem.W.findIn K (.ref C) f=some (some u)
 rel:RelV v u
 get:PySem.W.specialIn K u "__get__"=some none
 cp:PySem.W.copiedNames.contains f=false
structure Meth(K:PySem.W.Frag)(C:Addr)(m:Str)(f:Addr):Prop where
 at_:PySem.W.findIn K (.ref C) m=some (some (.ref f))
 fn:PySem.W.isFn K (.ref f)=true
 kp:PySem.W.keepIn K (.ref f)=true
section
variable{X:Cx}{pins:List (Addr×Obj)}{σ:St}{H:Hp}{s:Shared}{a C dx:Addr}{fs:List (Str×V)}{f:Str}{v:V}{A:Around}{E:Value->Shared->Prop}
theorem Inv.made(I:Inv X pins σ H s):Inv X pins σ (eO (eO H s.heap.objs.size (.own (s.heap.objs.size+1))) (s.heap.objs.size+1) (.ins C s.heap.objs.size []))
  {s with heap:=(s.heap.push PySem.W.emptyDict).push (PySem.W.instObj C s.heap.objs.size)}:=by
 have c:(s.heap.push PySem.W.emptyDict).get? s.heap.objs.size=some PySem.W.emptyDict:=Heap.get?_push_size s.heap rfl;have g:((s.heap.push PySem.W.emptyDict).push (PySem.W.instObj C s.heap.objs.size)).get? (s.heap.objs.size+1)=some (PySem.W.instObj C s.heap.objs.size):=by
  have:=Heap.get?_push_size (s.heap.push PySem.W.emptyDict) (o:=PySem.W.instObj C s.heap.objs.size) rfl
  rwa [Heap.size_push]at this
 have h:(s.heap.push PySem.W.emptyDict).Ns s.heap.objs.size (λ_=>none):=⟨PySem.W.emptyDict,#[],_,c,rfl,(λe i=>absurd i (by simp)),λ_=>rfl⟩;have j:=I.laid (a:=s.heap.objs.size) (o:=.own (s.heap.objs.size+1)) (h':=s.heap.push PySem.W.emptyDict) (t':=s.toks) (λb u q=>Heap.get?_push_of_some _ q) (Nat.le_refl _) ⟨_,c⟩;refine j.laid (a:=s.heap.objs.size+1) (o:=.ins C s.heap.objs.size []) (t':=s.toks) (λb u q=>Heap.get?_push_of_some _ q) (Nat.le_of_eq (Heap.size_push _ _)) ?_;have d:s.heap.objs.size≠s.heap.objs.size+1:=Nat.ne_of_lt (Nat.lt_succ_self _);refine⟨by rw[bE d,bN],Nat.zero_le _,d,g,λ_=>none,(Heap.Ns1.of_empty h).at λo q=>Heap.get?_push_of_some _ q,λ_=>True.intro,λy k=>absurd rfl k⟩
end
section
variable{X:Cx}{o e value:Expr}{f:Str}{pos pos' tpos:Pos}{ta tv:TE}
end
section
variable{X:Cx}{pins:List (Addr×Obj)}{σ:St}{H:Hp}{s:Shared}{A:Around}{E:Value->Shared->Prop}{Q:Value->Shared->Prop}{c:Value}{b:Bool}
inductive TyOf(K:PySem.W.Frag)(H:Hp):V->Value->Prop where
 |non:TyOf K H .non (.type "NoneType")
 |bl (x:Bool):TyOf K H (.bl x) (.type "bool")
 |int (i:Int):TyOf K H (.int i) (.type "int")
 |str (x:Str):TyOf K H (.str x) (.type "str")
 |flt (x:UInt64):TyOf K H (.flt x) (.type "float")
 |lst {a:Addr} {xs:List V} (e:H a=some (.lst xs)):TyOf K H (.ref a) (.type "list")
 |frz {a:Addr} {o:Obj} {xs:List V} (e:H a=some (.frz o (.lst xs))):TyOf K H (.ref a) (.type "list")
 |tup {a:Addr} {xs:List V} (e:H a=some (.tup xs)):TyOf K H (.ref a) (.type "tuple")
 |dK {a:Addr} {kvs:List (rK×V)} (e:H a=some (.dK kvs)):TyOf K H (.ref a) (.type "dict")
 |dT {a:Addr} {kvs:List (List rK×V)} (e:H a=some (.dT kvs)):TyOf K H (.ref a) (.type "dict")
 | ins {a C dx:Addr} {fs:List (Str × V)} (e:H a = some (.ins C dx fs)) (cl:Cls K C) (ha:PySem.W.findIn K (.ref C) "__class__" = some (some (.builtin "object.__class__")))
   (hn:PySem.W.specialIn K (.builtin "object.__class__") "__get__"=some (some (.builtin "getset_descriptor.__get__"))) (htk:PySem.W.takesIn K (.builtin "object.__class__")=some true)
   (hm:PySem.W.mroIn K C (.type "object")=some true):TyOf K H (.ref a) (.ref C)
theorem gE{x:V}{u t:Value}(I:Inv X pins σ H s)(d:RelV x u)(ty:TyOf X.K H x t)(e:PySem.W.kitOne X.K t c=some b)(h:∀v,Q (.bool b) {s with toks:=v}):
  wpAny (model X.prog X.w) A (call (.builtin "isinstance") [u,c]) Q E s:=by
 cases ty with
 |non=>cases (show u=Value.none from d);exact PySem.W.kia_one PySem.W.kitx_none I.kIn True.intro e (λz=>nomatch z) h
 |bl y=>cases (show u=Value.bool y from d);exact PySem.W.kia_one PySem.W.kitx_bool I.kIn True.intro e (λz=>nomatch z) h
 |int i=>obtain⟨t,q⟩:=(show ∃t,u=Value.int i t from d);cases q;exact PySem.W.kia_one PySem.W.kitx_int I.kIn True.intro e (λz=>nomatch z) h
 |str y=>obtain⟨t,q⟩:=(show ∃t,u=Value.str y t from d);cases q;exact PySem.W.kia_one PySem.W.kitx_str I.kIn True.intro e (λz=>nomatch z) h
 |flt y=>obtain⟨t,q⟩:=(show ∃t,u=Value.float y t from d);cases q;exact PySem.W.kia_one PySem.W.kitx_float I.kIn True.intro e (λz=>nomatch z) h
 |@lst a k f=>
  cases (show u=Value.ref a from d);refine qq λqz=>?_;obtain⟨_,_,n,_,g⟩:=(show ObjOk X.prog X.w H s.heap a (.lst k)from I.hok a _ f);apply qz;exact PySem.W.kia_one PySem.W.kitx_list I.kIn ⟨_,g,rfl⟩ e (λz=>nomatch z) h
 |@frz a w k f=>
  cases (show u=Value.ref a from d);refine qq λqz=>?_;obtain⟨_,_,_,n,_,g⟩:=(show ObjOk X.prog X.w H s.heap a (.frz w (.lst k))from I.hok a _ f);apply qz;exact PySem.W.kia_one PySem.W.kitx_list I.kIn ⟨_,g,rfl⟩ e (λz=>nomatch z) h
 |@tup a k f=>
  cases (show u=Value.ref a from d);refine qq λqz=>?_;obtain⟨_,_,_,p⟩:=(show ObjOk X.prog X.w H s.heap a (.tup k)from I.hok a _ f);obtain⟨o,g,l,_⟩:=p;apply qz;exact PySem.W.kia_one PySem.W.kitx_tuple I.kIn ⟨o,g,l⟩ e (λz=>nomatch z) h
 |@dK a j f=>
  cases (show u=Value.ref a from d);refine qq λqz=>?_;obtain⟨_,_,L,_,p⟩:=(show ObjOk X.prog X.w H s.heap a (.dK j)from I.hok a _ f);obtain⟨o,B,D,g,l,_⟩:=p;apply qz;exact PySem.W.kia_one PySem.W.kitx_dict I.kIn ⟨o,g,l.1⟩ e (λz=>nomatch z) h
 |@dT a j f=>
  cases (show u=Value.ref a from d);refine qq λqz=>?_;obtain⟨_,_,k,_,o,B,D,g,l,_⟩:=(show ObjOk X.prog X.w H s.heap a (.dT j)from I.hok a _ f);apply qz;exact PySem.W.kia_one PySem.W.kitx_dict I.kIn ⟨o,g,l.1⟩ e (λz=>nomatch z) h
 |@ins a C M N f r F G m K=>
  cases (show u=Value.ref a from d);refine qq λqz=>?_;obtain⟨P,O,_⟩:=Cw I.hok f;obtain⟨R,J,_⟩:=O.look;apply qz;exact PySem.W.kia_one (PySem.W.kitx_own (r.get _) r.hd F G m K) I.kIn J e (λz=>nomatch z) h
end
end L2
namespace L2
open PySem PySem.Spec PyProof.Rows
structure Room(k:Nat)(A:Around):Prop where
 hd:A.handled=none
 dp:A.depth+3*k+5<recursionLimit
 un:A.units+16*k+200<cLine
theorem Room.mono{j k:Nat}{A:Around}(r:Room k A)(h:j<=k):Room j A:=⟨r.hd,by have:=r.dp;lia,by have:=r.un;lia⟩
theorem Room.deeper{k:Nat}{A:Around}(r:Room (k+1) A)(a:Env):Room k (A.deeper a):=
 ⟨r.hd,by have:=r.dp;show A.depth+1+3*k+5<_;lia,by have:=r.un;show A.units+3+16*k+200<_;lia⟩
theorem Room.depth{k:Nat}{A:Around}(r:Room k A):A.depth<recursionLimit:=by have:=r.dp;lia
theorem Room.units{k:Nat}{A:Around}(r:Room k A):A.units+64<cLine:=by have:=r.un;lia
noncomputable def kR:TA:=λ_ H Q=>Q [] H
noncomputable def eG(b:TE)(c:TA):TA:=λa H Q=>b a H λx d=>c a d λe f=>Q (x::e) f
section
variable{X:Cx}{e:Expr}{es:List Expr}{te:TE}{t:TA}{pos:Pos}
theorem aF:PA X [] kR:=λ_ _ _ _ H Q I h=>Calls.spliced_nil ⟨[],H,I,.nil,h⟩
theorem aA(b:PE X e te)(c:PA X es t)(d:starEach (e::es) X.env=(false,eval e X.env)::starEach es X.env:=by rfl):PA X (e::es) (eG te t):=by
 intro pos pins s a H Q I h;rw[d];show wpAny _ _ (spliced ((false,eval e X.env)::backTo pos (starEach es X.env))) _ _ s;refine Calls.spliced_cons (eP (b pins s a H _ I h) λu f yq=>?_);refine qq λW_=>?_;obtain⟨x,g,i,j,k⟩:=yq;apply W_;exact eP (c pos pins f a g _ i k) λq r ⟨l,m,n,o,p⟩=>⟨x::l,m,n,.cons j o,p⟩
noncomputable def Gb(t:TA):TE:=λc H Q=>t c H λa b=>a.length<=sizeLine/\∀p,b p=none->Q (.ref p) (eO b p (.tup a))
noncomputable def Ki(t:TA):TE:=λc H Q=>t c H λa b=>a.length<=sizeLine/\∀p,b p=none->Q (.ref p) (eO b p (.lst a))
theorem cD{f}(h:PA X es t):PE X (.Tuple es f pos) (Gb t):=by
 intro pins s g H Q I i;refine wpAny_Tuple_spliced (eP (h pos pins s g H _ I i) λj a ⟨k,c,d,r,z,q⟩=>⟨by rw[<-r.length];exact z,?_⟩);have l:c a.heap.objs.size=none:=d.hok.fresh (Nat.le_refl _);refine⟨.ref a.heap.objs.size,eO c a.heap.objs.size (.tup k),d.laid (t':=a.toks) (λb u e=>Heap.get?_push_of_some _ e) (Nat.le_refl _) ?_,rfl,q _ l⟩;exact⟨z,j,r,⟨_,Heap.get?_push_size _ rfl,rfl,_,rfl⟩⟩
theorem dP(h:PA X es t):PE X (.List es pos) (Ki t):=by
 intro pins s f H Q I g;refine wpAny_List_spliced (eP (h pos pins s f H _ I g) λi a ⟨j,c,d,r,z,q⟩=>⟨by rw[<-r.length];exact z,?_⟩);have k:c a.heap.objs.size=none:=d.hok.fresh (Nat.le_refl _);refine⟨.ref a.heap.objs.size,eO c a.heap.objs.size (.lst j),d.laid (t':=a.toks) (λb u e=>Heap.get?_push_of_some _ e) (Nat.le_refl _) ?_,rfl,q _ k⟩;exact⟨z,i,0,r,Heap.get?_push_size _ rfl⟩
end
noncomputable abbrev Sp:=List V->Hp->VK->XK->Prop
noncomputable abbrev xB:=List Env->Hp->Shared->XK->Value->Shared->Prop
structure Env0(P:Program)(w:World)(K:PySem.W.Frag)(mg:Str->Option Value)(base:Heap)(A:Around)(outer:List Env)(s:Shared)(H:Hp):Prop where
 frames:A.frames=some outer
 mod:Mod K mg base
 bs:∀b o,base.get? b=some o->s.heap.get? b=some o/\H b=none
 bsz:base.objs.size<=s.heap.objs.size
 funs:s.heap.FunFrames base outer
 frf:∀b∈kX outer,H b=none
 hok:HOk P w H s.heap
 bare:AllBare s.gens
noncomputable def CE(outer:List Env)(P:Program)(w:World)(H:Hp)(s:Shared)(Q:VK)(u:Value)(a:Shared):Prop:=
 ∃v b,a.os=s.os/\AllBare a.gens/\Un (kX outer) [] H b s.heap a.heap/\HOk P w b a.heap/\RelV v u/\Q v b
noncomputable def CR(b:xB)(outer:List Env)(P:Program)(w:World)(H:Hp)(s:Shared)(Q:VK)(E:XK)(r:Result)(a:Shared):Prop:=
 match r with
 | .ok (.ret u)=>CE outer P w H s Q u a
 | .ok _=>False
 | .error e=>b outer H s E e a
structure FnOk(P:Program)(w:World)(K:PySem.W.Frag)(mg:Str->Option Value)(base:Heap)(CX:xB)(k:Nat)(f:Addr)(fd:FuncData)(ps:List Str)(sp:Sp):Prop where
 len:∀vs H Q E,sp vs H Q E->vs.length=ps.length
 run:∀(A:Around)(outer:List Env)(s:Shared)(H:Hp)(args:Args)(us:List Value)(vs:List V)(Q:VK)(E:XK),Room k A->Env0 P w K mg base A outer s H->BindsTo s fd args (ps.zip us)->Vals vs us->sp vs H Q E ->
  codeAny (model P w) A (.call (.ref f) args) (CR CX outer P w H s Q E) s
theorem FnOk.imp{P:Program}{w:World}{K:PySem.W.Frag}{c:Str->Option Value}{base:Heap}{d:xB}{k:Nat}{f:Addr}{e:FuncData}{g:List Str}{i b:Sp}(F:FnOk P w K c base d k f e g i)
  (h:∀a H Q E,b a H Q E->i a H Q E):FnOk P w K c base d k f e g b:=
 ⟨λa H Q E q=>F.len a H Q E (h _ _ _ _ q),λA outer s H args j a Q E l m n o p=>F.run A outer s H args j a Q E l m n o (h _ _ _ _ p)⟩
section
variable{X:Cx}{pins:List (Addr×Obj)}{σ:St}{H:Hp}{s s':Shared}
theorem Inv.env0(I:Inv X pins σ H s):Env0 X.prog X.w X.K X.mg X.base X.A X.stack s H:=
 ⟨I.ok.frames,I.ok.mod,I.bs,Nat.le_trans I.ok.bsz I.sz,I.stack,I.stkFree,I.hok,I.bare⟩
theorem Inv.after{Q:VK}{u:Value}(I:Inv X pins σ H s)(h:CE X.stack X.prog X.w H s Q u s'):EP X pins σ Q u s':=by
 refine qq λqz=>?_;obtain⟨v,e,f,bare,un,a,r,q⟩:=h;obtain⟨i,g,d,t,c⟩:=s';obtain rfl:c=s.os:=f;apply qz;exact⟨v,e,I.call (h':=i) (g':=g) (d':=d) (t':=t) (ch:=[]) un a bare (λb z=>absurd z (by simp)),r,q⟩
end
noncomputable def lD(b:Sp)(a:List V)(E:XK)(t:TA):TE:=λc H Q=>t c H λd e=>b (d++a) e Q E
noncomputable def Binds(K:PySem.W.Frag)(d:FuncData)(b:List Str)(c:List Value):Prop:=
 ∀(s:Shared)(a:List Value),K.In s.heap->(a++c).length=b.length->BindsTo s d ⟨a,[]⟩ (b.zip (a++c))
theorem Binds.all{K:PySem.W.Frag}{c:FuncData}{b:List Str}(h:∀a:List Value,a.length=b.length->bindArgs c ⟨a,[]⟩=pure (b.zip a)):Binds K c b []:=λs a _ d=>by
 rw[List.append_nil]at d⊢;exact .of_eq (h a d)
noncomputable def nB(b:xB)(X:Cx)(E:XK):Prop:=∀(pins:List (Addr×Obj))(c:St)(H:Hp)(s:Shared)(e:Value)(a:Shared),Inv X pins c H s->b X.stack H s E e a->X.xe e a
section
variable{X:Cx}{CX:xB}{k:Nat}{f C:Addr}{fd:FuncData}{ps:List Str}{sp:Sp}{dvs:List V}{ds:List Value}{E:XK}{x m:Str}{p pos apos:Pos}{e o:Expr}{es:List Expr}{ta:TE}{t:TA}
theorem Gm{pins:List (Addr×Obj)}{d:St}{H:Hp}{s:Shared}{Q:VK}{a:List Value}{c:List V}(F:FnOk X.prog X.w X.K X.mg X.base CX k f fd ps sp)(i:Room k X.A)(j:Binds X.K fd ps ds)(l:Vals dvs ds)(n:nB CX X E)
  (I:Inv X pins d H s) (r:Vals c a) (h:sp (c++dvs) H Q E):wpAny (model X.prog X.w) X.A (call (.ref f) a) (EP X pins d Q) X.xe s:=by
 have g:Vals (c++dvs) (a++ds):=r.append l;have q:(a++ds).length=ps.length:=by rw[<-g.length];exact F.len _ _ _ _ h
 refine wpAny_call (codeAny_mono (F.run X.A X.stack s H ⟨a,[]⟩ (a++ds) (c++dvs) Q E i I.env0 (j s a I.kIn q) g h) λr v b=>?_);cases r with
 |error e=>exact n pins d H s e v I b
 |ok w=>
  cases w with
  |ret u=>exact I.after b
  |next=>exact False.elim b
  |brk=>exact False.elim b
  |cont=>exact False.elim b
theorem aK(F:FnOk X.prog X.w X.K X.mg X.base CX k f fd ps sp)(d:Room k X.A)(g:Gl X x)(i:X.mg x=some (.ref f))(j:PySem.W.keepIn X.K (.ref f)=true)(l:Binds X.K fd ps ds)(n:Vals dvs ds)(u:nB CX X E)
  (v:PA X (e::es) t) (a:(x==("__debug__":Str))=false:=by decide) (w:starEach (e::es) X.env=(false,eval e X.env)::starEach es X.env:=by rfl) (b:(backTo pos (starEach es X.env)).any (·.1)=false:=by rfl):
  PE X (.Call (.Name x p) (e::es) [] pos) (lD sp dvs E t):=by
 intro pins s y H Q I h;refine wpAny_Call_Name_kw (qV I g i ?_ a);refine PySem.W.callWith_K (h₀:=X.base) I.ok.mod.kin j (eP (v pos pins s y H _ I h) λz A ⟨B,D,c,r,q⟩=>⟨c.kIn,?_⟩) w b;exact Gm F d l n u c r q
structure Mk(K:PySem.W.Frag)(C f:Addr):Prop where
 makes:PySem.W.makesIn K C=true
 init:PySem.W.findIn K (.ref C) "__init__"=some (some (.ref f))
 fn:PySem.W.isFn K (.ref f)=true
 kp:PySem.W.keepIn K (.ref C)=true
end
section
variable{X:Cx}{CX:xB}{k:Nat}{f C:Addr}{fd:FuncData}{ps ks:List Str}{sp:Sp}{E:XK}{x m:Str}{p pos apos kpos:Pos}{e o:Expr}{es:List Expr}{kws:List Keyword}{te ta:TE}{t tk:TA}{nm:Option Str}
structure KBinds(K:PySem.W.Frag)(fd:FuncData)(ps ks:List Str)(g:List Value->List Value->List Value)(gV:List V->List V->List V):Prop where
 to:∀(s:Shared)(us ws:List Value),K.In s.heap->(g us ws).length=ps.length->BindsTo s fd ⟨us,ks.zip ws⟩ (ps.zip (g us ws))
 rel:∀{vs:List V}{us:List Value}{zs:List V}{ws:List Value},Vals vs us->Vals zs ws->Vals (gV vs zs) (g us ws)
variable{g:List Value->List Value->List Value}{gV:List V->List V->List V}
end
structure FnScope(N P:List Str)(sc:Scope):Prop where
 kind:sc.kind= .function
 co:sc.isCoroutine=false
 gen:sc.isGenerator=false
 nd:N.Nodup
 pre:N.take P.length=P
 par:∀x∈P,sc.names.lookup x=some .local\/sc.names.lookup x=some .cell
 nofree:∀y∈sc.names,y.2≠ .free
theorem oS{kindOf:Str->Option NameKind}{x:Str}:∀{binds:List (Str×Value)}{m:Str->Option Value},(∀v,(x,v)∉binds)->bindL kindOf binds m x=m x
 |[],_,_=>rfl
 |(n,v)::r,m,h=>by
  unfold bindL;rw[oS λw hw=>h w (List.mem_cons_of_mem _ hw)];split
  ·have:x≠n:=by rintro rfl;exact h v List.mem_cons_self
   simp[this]
  ·rfl
theorem oV{kindOf:Str->Option NameKind}{x:Str}:∀{binds:List (Str×Value)}{m:Str->Option Value},(∀v,(x,v)∉binds)->bindC kindOf binds m x=m x
 |[],_,_=>rfl
 |(n,v)::r,m,h=>by
  unfold bindC;rw[oV λw hw=>h w (List.mem_cons_of_mem _ hw)];split
  ·rfl
  ·have:x≠n:=by rintro rfl;exact h v List.mem_cons_self
   simp[this]
theorem oU{kindOf:Str->Option NameKind}{x:Str}{v:Value}:∀{P:List Str}{a:List Value}{i:Nat}{m:Str->Option Value},P.Nodup->P[i]? =some x->a[i]? =some v->kindOf x=some .local ->
  bindL kindOf (P.zip a) m x=some v
 |[],_,_,_,_,h,_,_=>by simp at h
 |_::_,[],_,_,_,_,h,_=>by simp at h
 |p::P,w::a,0,m,d,b,c,e=>by
  simp at b c;subst b;subst c;show bindL kindOf ((p,w)::P.zip a) m p=_;unfold bindL;rw[oS λv f=>(List.nodup_cons.mp d).1 (List.of_mem_zip f).1,if_pos e];simp
 |p::P,w::a,i+1,m,d,b,c,e=>by
  show bindL kindOf ((p,w)::P.zip a) m x=_;unfold bindL;exact oU (i:=i) (List.nodup_cons.mp d).2 (by simpa using b) (by simpa using c) e
theorem oW{kindOf:Str->Option NameKind}{x:Str}{v:Value}:∀{P:List Str}{a:List Value}{i:Nat}{m:Str->Option Value},P.Nodup->P[i]? =some x->a[i]? =some v->kindOf x≠some .local ->
  bindC kindOf (P.zip a) m x=some v
 |[],_,_,_,_,h,_,_=>by simp at h
 |_::_,[],_,_,_,_,h,_=>by simp at h
 |p::P,w::a,0,m,d,b,c,e=>by
  simp at b c;subst b;subst c;show bindC kindOf ((p,w)::P.zip a) m p=_;unfold bindC;rw[oV λv f=>(List.nodup_cons.mp d).1 (List.of_mem_zip f).1,if_neg e];simp
 |p::P,w::a,i+1,m,d,b,c,e=>by
  show bindC kindOf ((p,w)::P.zip a) m x=_;unfold bindC;exact oW (i:=i) (List.nodup_cons.mp d).2 (by simpa using b) (by simpa using c) e
noncomputable def start(N:List Str)(a:List V):St:=a.map some++List.replicate (N.length-a.length) none
noncomputable def mT(c:xB)(P:Program)(w:World)(K:PySem.W.Frag)(mg:Str->Option Value)(base:Heap)(N:List Str)(qual:Str)(scope:Scope)(f:Addr)(b:Value)(A:Around)(outer:List Env)(s:Shared)(H:Hp)(E:XK):Cx where
 prog:=P
 w:=w
 K:=K
 mg:=mg
 base:=base
 A:=A.deeper (envOfC qual scope s.heap.objs.size f b)
 N:=N
 s₀:=s
 H₀:=H
 env:=envOfC qual scope s.heap.objs.size f b
 outer:=outer
 stack:=envOfC qual scope s.heap.objs.size f b::outer
 ex:=[]
 calm:=true
 fn:=λ_=>true
 pn:=[]
 xe:=λe d=>wpAny (model P w) (A.deeper (envOfC qual scope s.heap.objs.size f b)) (leaving (envOfC qual scope s.heap.objs.size f b) e) (λ_ a=>c outer H s E e a) (λg a=>c outer H s E g a) d
theorem tH{a:Scope}{n:Nat}{x:Str}(h:a.names.lookup x=some .cell):∃c,(cellsFrom n a.names []).lookup x=some c:=by
 have q:=PySem.W.cellsFrom_some a.names n [] (.inl h);exact Option.isSome_iff_exists.mp q
theorem xT{J:xB}{P:Program}{w:World}{K:PySem.W.Frag}{G:Str->Option Value}{base:Heap}{N j:List Str}{qual:Str}{scope:Scope}{f:Addr}{C:Value}{A:Around}{outer:List Env}{s L:Shared}{H:Hp}{E:XK}{I:List Value}{l:List V}
  (S:FnScope N j scope) (Q:A.handled=none) (g:Env0 P w K G base A outer s H) (W:l.length=j.length) (r:Vals l I)
  (x:InCallC s s.heap.objs.size (bindL (envOfC qual scope s.heap.objs.size f C).kindOf (j.zip I) λ_=>none) (cellsFrom (s.heap.objs.size+1) scope.names []) (bindC (envOfC qual scope s.heap.objs.size f C).kindOf (j.zip I) λ_=>none) L):
  Inv (mT J P w K G base N qual scope f C A outer s H E) [] (start N l) H L:=by
 have R:j.length<=N.length:=by have:=congrArg List.length S.pre;rw[List.length_take]at this;lia
 refine qq λqz=>?_;obtain⟨D,X,rfl,M⟩:=x.done;apply qz;have m:∀b:Addr,b∉(mT J P w K G base N qual scope f C A outer s H E).ex:=λb z=>absurd (show b∈([]:List Addr)from z) (by simp)
 refine⟨⟨g.mod,S.kind,rfl,rfl,Nat.le_refl _,λy z c D d=>?_,λy o=>?_,λy c _ h=>?_,λ_=>Q,Around.frames_deeper g.frames,.inr ⟨rfl,rfl⟩,λb z=>absurd z (m b),g.bs,g.bsz,λb _ _=>m b,λb z=>absurd z (m b),g.funs,g.frf⟩,
  rfl,g.bare,Un.kept M,⟨_,x.toInCall.ns,λi y v D d Y=>?_⟩,λy c h=>⟨_,x.cell y c h⟩,g.hok.fresh (Nat.le_refl _),λy c h=>?_,λp t=>absurd (show p∈([]:List (Addr×Obj))from t) (by simp),g.hok.kept M,?_⟩
 ·exact name_of_addr x.apart (PySem.mem_of_lookup D) (PySem.mem_of_lookup d)
 ·have o:scope.names.lookup y=some .cell\/scope.names.lookup y=some .free:=o;rcases o with o|o
  ·exact tH o
  ·exact absurd rfl (S.nofree _ (PySem.mem_of_lookup o))
 ·exact Nat.le_of_lt (x.above y c (PySem.mem_of_lookup h))
 ·have F:i<l.length:=by
   unfold start at d;by_cases F:i<l.length
   ·exact F
   ·rw[List.getElem?_append_right (by simpa using F)]at d;rw[List.getElem?_replicate]at d;split at d <;>cases d
  have T:l[i]? =some v:=by
   unfold start at d;rw[List.getElem?_append_left (by simpa using F),List.getElem?_map]at d;cases e:l[i]? with
   |none=>rw[e]at d;cases d
   |some a=>rw[e]at d;cases d;rfl
  refine qq λqz=>?_;obtain⟨u,O,U⟩:=r.get T;apply qz;have t:j[i]? =some y:=by
   rw[<-S.pre,List.getElem?_take_of_lt (by lia)];exact D
  have B:j.Nodup:=by rw[<-S.pre];exact S.nd.sublist (List.take_sublist _ _)
  refine⟨u,U,?_⟩;rcases S.par y (List.mem_of_getElem? t)with k|k
  ·exact .inl ⟨k,oU B t O k⟩
  ·obtain⟨c,e⟩:=tH (n:=s.heap.objs.size+1) k;refine .inr ⟨.inl k,c,e,?_⟩;have q:=x.cell y c e;rw[oW B t O (by show scope.names.lookup y≠_;rw[k];decide)]at q;exact q
 ·exact g.hok.fresh (Nat.le_of_lt (x.above y c (PySem.mem_of_lookup h)))
 ·unfold start;show _=N.length;rw[List.length_append,List.length_map,List.length_replicate]
  lia
theorem Ez{C:xB}{P:Program}{w:World}{K:PySem.W.Frag}{D:Str->Option Value}{base:Heap}{k:Nat}{f:Addr}{name qual:Str}{params:Arguments}{body:List Stmt}{scope:Scope}{W kV l X a Y oc:Value}{Z od:Option Addr}
  {G:Array (Option Value)} {N F:List Str} {L:Sp} (lk:K.lookup f=some ⟨oc,od,.func (PySem.W.fnOf name qual params body scope W kV l X Z a Y),G⟩) (M:PySem.W.codeIn K a qual=true) (S:FnScope N F scope)
  (m:∀c H Q E,L c H Q E->c.length=F.length)
  (h:∀(A:Around)(outer:List Env)(s:Shared)(H:Hp)(c:List V)(Q:VK)(E:XK),Room k (A.deeper (envOfC qual scope s.heap.objs.size f a))->L c H Q E ->
   ∃t,PSs (mT C P w K D base N qual scope f a A outer s H E) body t/\t {nx:=λ_ g=>Q .non g,rt:=Q} (start N c) H):
  FnOk P w K D base C (k+1) f (PySem.W.fnOf name qual params body scope W kV l X Z a Y) F L:=by
 refine⟨m,λA outer s H args us c Q E O p hb r z=>?_⟩;have hl:=m _ _ _ _ z;have KX:K.In s.heap:=p.mod.kin.keeps λb o e=>(p.bs b o e).1;have R:s.heap.NoLimit:=p.mod.nolimit.keeps λb o e=>(p.bs b o e).1;have i:∀y∈F.zip us,scope.names.lookup y.1=some .local\/(scope.names.lookup y.1=some .cell/\((cellsFrom (s.heap.objs.size+1) scope.names []).lookup y.1).isSome=true):=λ⟨n,v⟩ hy=>by
  rcases S.par n (List.of_mem_zip hy).1 with q|q
  ·exact .inl q
  ·exact .inr ⟨q,PySem.W.cellsFrom_some _ _ _ (.inl q)⟩
 refine codeAny_call_function O.depth (KX _ _ lk) rfl S.co S.gen rfl (PySem.W.codeRec_of KX M) (hb _ _ _ _ ?_);refine wpAny_newFunctionEnv_cells S.kind i λa0 he s1 x=>?_;subst he;refine⟨R.keeps x.toInCall.keep,codeAny_func ?_⟩;refine qq λqz=>?_;obtain⟨t,ht,hq⟩:=h A outer s H c Q E (O.deeper _) z;apply qz;have I:Inv (mT C P w K D base N qual scope f a A outer s H E) [] (start N c) H s1:=xT S O.hd p hl r x;refine wpAny_mono (ht [] s1 (start N c) H _ I hq) (λfl T j=>?_) λe T j=>j;have B:∀{d:St}{g:Hp}{v:V}{u:Value},Inv (mT C P w K D base N qual scope f a A outer s H E) [] d g T->RelV v u->Q v g->CE outer P w H s Q u T:=
  λ{d g v u} J U q=>⟨v,g,J.os,J.bare,J.base,J.hok,U,q⟩
 cases fl with
 |ret u=>
  refine qq λqz=>?_;obtain⟨v,d,g,J,U,q⟩:=j;apply qz;exact B J U q
 |next =>
  obtain⟨d,g,J,q⟩:=j;exact B (v:=V.non) (u:=Value.none) J rfl q
 |brk=>
  obtain⟨_,_,_,q⟩:=j;exact False.elim q
 |cont=>
  obtain⟨_,_,_,q⟩:=j;exact False.elim q
end L2
namespace L2
open PySem PySem.Spec PyProof.Rows
section
variable{X:Cx}{x:Str}{p pos:Pos}{e:Expr}{es:List Expr}{t:TA}{id T:String}{r:List V->Hp->VK->Prop}
noncomputable def Kl(r:List V->Hp->VK->Prop)(t:TA):TE:=λa H Q=>t a H λb c=>r b c Q
theorem cL(d:CallR X (.builtin id) r)(f:Gl X x)(g:X.mg x=none)(i:bootBuiltins x=some (.builtin id))(j:PA X (e::es) t)(k:x≠"__name__":=by decide)(a:(x==("__debug__":Str))=false:=by decide)
  (l:starEach (e::es) X.env=(false,eval e X.env)::starEach es X.env:=by rfl) (b:(backTo pos (starEach es X.env)).any (·.1)=false:=by rfl):PE X (.Call (.Name x p) (e::es) [] pos) (Kl r t):=by
 intro pins s c H Q I h;refine wpAny_Call_Name_kw (gN I f g i ?_ k a);exact PyProof.Rows.callWith_builtin1 (eP (j pos pins s c H _ I h) λm n ⟨o,q,u,v,w⟩=>d pins n c q o m Q u v w) l b
theorem iK(d:CallR X (.type T) r)(f:Gl X x)(g:X.mg x=none)(i:bootBuiltins x=some (.type T))(j:PA X (e::es) t)(k:x≠"__name__":=by decide)(a:(x==("__debug__":Str))=false:=by decide)
  (l:starEach (e::es) X.env=(false,eval e X.env)::starEach es X.env:=by rfl) (b:(backTo pos (starEach es X.env)).any (·.1)=false:=by rfl):PE X (.Call (.Name x p) (e::es) [] pos) (Kl r t):=by
 intro pins s c H Q I h;refine wpAny_Call_Name_kw (gN I f g i ?_ k a);exact PyProof.Rows.callWith_type1 (eP (j pos pins s c H _ I h) λm n ⟨o,q,u,v,w⟩=>d pins n c q o m Q u v w) l b
end
end L2
namespace HT
open PySem PyProof.Rows
section
open PySem.SeqAt
open PySem.AutoSeq1 (wpAny_loadPart')
open PySem.MeetsSeq PySem.MeetsSeq2 PySem.MeetsSeq3
end
section
variable{prog:Program}{w:World}{A:Around}{E:Value->Shared->Prop}{s:Shared}
noncomputable def sIx(n d:Nat):Option Int->Nat
 |none=>d
 |some v=>if v<0 then(v+(n:Int)).toNat else min v.toNat n
theorem sIx_none(n d:Nat):sIx n d none=d:=rfl
theorem sIx_nat(n d k:Nat):sIx n d (some (k:Int))=min k n:=by
 show(if (k:Int)<0 then((k:Int)+(n:Int)).toNat else min (k:Int).toNat n)=min k n;rw[if_neg (by lia),Int.toNat_natCast]
end
end HT
namespace L2
open PySem PySem.Spec PyProof.Rows
noncomputable abbrev TO:=St->Hp->(Option Int->Hp->Prop)->Prop
noncomputable def PO(X:Cx)(e:Option Expr)(t:TO):Prop:=
 ∀(pins:List (Addr×Obj))(s:Shared)(a:St)(H:Hp)(Q:Option Int->Hp->Prop),Inv X pins a H s->t a H Q ->
  wpAny (model X.prog X.w) X.A (evalPart e X.env) (λu c=>∃o b,Inv X pins a b c/\IsPart u o/\Q o b) X.xe s
noncomputable def vC:TO:=λ_ H Q=>Q none H
noncomputable def Ea(t:TE):TO:=λa H Q=>t a H λx b=>∃i,x= .int i/\Q (some i) b
section
variable{X:Cx}{e:Expr}{te:TE}{lo hi:Option Expr}{tl th:TO}{pos p2:Pos}
theorem Ca:PO X none vC:=by
 intro pins s a H Q I h;rw[evalPart_none];exact wpAny_pure ⟨none,H,I,.none,h⟩
theorem lM(h:PE X e te):PO X (some e) (Ea te):=by
 intro pins s a H Q I hw;rw[evalPart_some];refine eP (h pins s a H _ I hw) λu g yq=>?_;refine qq λW_=>?_;obtain⟨x,b,c,d,f⟩:=yq;apply W_;refine qq λqz=>?_;obtain⟨i,rfl,q⟩:=f;obtain⟨t,rfl⟩:=d;apply qz;exact⟨some i,b,c,.int i t,q⟩
noncomputable def SlR(X:Cx)(r:V->Option Int->Option Int->Hp->VK->Prop):Prop:=
 ∀(pins:List (Addr×Obj))(s:Shared)(a:St)(H:Hp)(x:V)(v b c:Value)(lo hi:Option Int)(d:Addr)(Q:VK),Inv X pins a H s->RelV x v->s.heap.IsSliceOf d b c .none->IsPart b lo->IsPart c hi->r x lo hi H Q ->
  ∃T id,typeLookup (.type T) "__getitem__"=pure (some (.builtin id))/\s.TypeIs v T/\wpAny (model X.prog X.w) X.A (getItem v (.ref d)) (EP X pins a Q) X.xe s
theorem SlR.or{r a:V->Option Int->Option Int->Hp->VK->Prop}(h:SlR X r)(l:SlR X a):SlR X (λx lo hi H Q=>r x lo hi H Q\/a x lo hi H Q):=by
 intro pins s b H x v c d lo hi f Q I g i j k q;rcases q with q|q
 ·exact h pins s b H x v c d lo hi f Q I g i j k q
 ·exact l pins s b H x v c d lo hi f Q I g i j k q
noncomputable def Pp(r:V->Option Int->Option Int->Hp->VK->Prop)(te:TE)(tl th:TO):TE:=λa H Q=>te a H λx b=>tl a b λl c=>th a c λu d=>r x l u d Q
theorem zD{r:V->Option Int->Option Int->Hp->VK->Prop}(i:SlR X r)(j:PE X e te)(k:PO X lo tl)(m:PO X hi th):PE X (.Subscript e (.Slice lo hi none p2) pos) (Pp r te tl th):=by
 intro pins s c H Q I h;refine Subscript_ (eP (j pins s c H _ I h) λv n yq=>?_);refine qq λW_=>?_;obtain⟨x,o,p,t,w⟩:=yq;apply W_;refine wpAny_Slice (eP (k pins n c o _ p w) λd y ⟨l,z,A,B,C⟩=>eP (m pins y c z _ A C) λf a yq=>?_);refine qq λW_=>?_;obtain⟨u,g,D,E,F⟩:=yq;apply W_;rw[evalPart_none];refine wpAny_pure ?_;have G:Inv X pins c g {a with heap:=a.heap.push {cls:=.type "slice",data:=.fields #[d,f,.none]}}:=D.kept (t':=a.toks) λb M q=>Heap.get?_push_of_some _ q;refine qq λqz=>?_;obtain⟨T,id,J,K,L⟩:=i pins {a with heap:=a.heap.push {cls:=.type "slice",data:=.fields #[d,f,.none]}} c g x v d f l u a.heap.objs.size Q G t (Heap.IsSliceOf.new ..) B E F;apply qz;show wpAny (model X.prog X.w) X.A (subscriptTail e (.Slice lo hi none p2) v (.ref a.heap.objs.size)) (EP X pins c Q) X.xe {a with heap:=a.heap.push {cls:=.type "slice",data:=.fields #[d,f,.none]}};exact tail_any (ops:=[.ref a.heap.objs.size,v]) K J L (by with_unfolding_all rfl)
noncomputable def uM(a:List V)(lo hi:Option Int):List V:=(a.drop (HT.sIx a.length 0 lo)).take (HT.sIx a.length a.length hi-HT.sIx a.length 0 lo)
theorem tF(a:List V)(lo hi:Option Int):(uM a lo hi).length<=a.length:=by
 unfold uM;rw[List.length_take,List.length_drop]
 lia
end
end L2
namespace L2
open PySem PySem.Spec PyProof.Rows
noncomputable def Et(n:Nat)(i:Int):Option Nat:=if 0<=i then(if i<n then some i.toNat else none)else if -(n:Int)<=i then some (i+n).toNat else none
noncomputable def nF{a:Type}(b:List a)(i:Int):Option a:=(Et b.length i).bind λj=>b[j]?
theorem Cs{n:Nat}{i:Int}{j:Nat}(h:Et n i=some j):seqIndex? i n=some j/\j<n/\-(n:Int)<=i/\i<n:=by
 unfold Et at h;by_cases b:0<=i
 ·rw[if_pos b]at h;by_cases a:i<n
  ·rw[if_pos a]at h;have e:i.toNat=j:=Option.some.inj h;exact⟨by rw[seqIndex_of b a,e],by lia,by lia,a⟩
  ·rw[if_neg a]at h;cases h
 ·rw[if_neg b]at h;by_cases a:-(n:Int)<=i
  ·rw[if_pos a]at h;have e:(i+n).toNat=j:=Option.some.inj h;exact⟨by rw[seqIndex_neg (by lia) a,e],by lia,a,by lia⟩
  ·rw[if_neg a]at h;cases h
theorem wZ{b:Type}{a:List b}{i:Int}{v:b}(h:nF a i=some v):∃j,seqIndex? i a.length=some j/\a[j]? =some v/\j<a.length/\-(a.length:Int)<=i/\i<a.length:=by
 unfold nF at h;cases e:Et a.length i with
 |none=>rw[e]at h;cases h
 |some j=>
  rw[e]at h;refine qq λqz=>?_;obtain⟨c,d,f,g⟩:=Cs e;apply qz;exact⟨j,c,h,d,f,g⟩
theorem fS{b:Type}{a:List b}{j:Nat}{v:b}(h:a[j]? =some v):nF a (j:Int)=some v:=by
 have c:j<a.length:=(List.getElem?_eq_some_iff.mp h).1;have e:Et a.length (j:Int)=some j:=by
  unfold Et;rw[if_pos (by lia),if_pos (by lia)];simp
 unfold nF;rw[e];exact h
noncomputable def Ds(b:Expr):Prop:=∀o i,subscripted b false o i=operate [o,i] (getItem o i)
noncomputable def IxR(X:Cx)(r:R2):Prop:=
 ∀(value slice:Expr)(pins:List (Addr×Obj))(s:Shared)(a:St)(H:Hp)(x y:V)(v u:Value)(Q:VK),Inv X pins a H s->RelV x v->RelV y u->r x y H Q ->
  subscripted slice false v u=operate [v,u] (getItem v u)->wpAny (model X.prog X.w) X.A (subscriptTail value slice v u) (EP X pins a Q) X.xe s
noncomputable def MtR(X:Cx)(id:String)(r:V->List V->Hp->VK->Prop):Prop:=
 ∀(pins:List (Addr×Obj))(s:Shared)(a:St)(H:Hp)(x:V)(b:List V)(v:Value)(c:List Value)(Q:VK),Inv X pins a H s->RelV x v->Vals b c->r x b H Q ->
  wpAny (model X.prog X.w) X.A (call (.builtin id) (v::c)) (EP X pins a Q) X.xe s
section
variable{X:Cx}{a b:Expr}{ta tb:TE}{pos:Pos}
theorem IxR.or{r c:R2}(h:IxR X r)(i:IxR X c):IxR X (λx y H Q=>r x y H Q\/c x y H Q):=by
 intro value slice pins s d H x y v u Q I e f q g;rcases q with q|q
 ·exact h value slice pins s d H x y v u Q I e f q g
 ·exact i value slice pins s d H x y v u Q I e f q g
theorem MtR.or{id:String}{r d:V->List V->Hp->VK->Prop}(h:MtR X id r)(j:MtR X id d):MtR X id (λx c H Q=>r x c H Q\/d x c H Q):=by
 intro pins s e H x c v f Q I g i q;rcases q with q|q
 ·exact h pins s e H x c v f Q I g i q
 ·exact j pins s e H x c v f Q I g i q
theorem aX{r:R2}(c:IxR X r)(d:PE X a ta)(e:PE X b tb)(f:Ds b):PE X (.Subscript a b pos) (xI r ta tb):=by
 intro pins s g H Q I h;exact Subscript_ (Ji d e I h λv u i x y j k l m q=>c a b pins i g j x y v u Q k l m q (f _ _))
noncomputable def Gu(K:PySem.W.Frag):R2:=λx y H Q=>∃p c i v,x= .ref p/\y= .int i/\SqL K H p c/\nF c i=some v/\Q v H
noncomputable def yW(K:PySem.W.Frag):R2:=λx y H Q=>∃p c i v,x= .ref p/\y= .int i/\SqT K H p c/\nF c i=some v/\Q v H
theorem Cr:IxR X (Gu X.K):=by
 intro value slice pins s l H x y v u Q I A B h m;refine qq λqz=>?_;obtain⟨p,L,i,z,rfl,rfl,C,D,q⟩:=h;apply qz;cases A;refine qq λqz=>?_;obtain⟨t,rfl⟩:=B;obtain⟨e,r,f,M⟩:=I.list C;obtain⟨j,d,E,N,F,G⟩:=wZ D;obtain⟨w,n,g⟩:=r.get E;apply qz;have J:=r.length;have O:=qU;have c:EP X pins l Q w s:=⟨z,H,I,g,q⟩;by_cases o:0<=i
 ·have k:i.toNat=j:=by
   rw[seqIndex_of o G]at d;exact Option.some.inj d
  exact item_listR f.isList o (by lia) (by rw[k];simpa using n) c m
 ·have k:(i+(e.toArray.size:Int)).toNat=j:=by
   rw[seqIndex_neg (by lia) F]at d;rw[List.size_toArray,<-J];exact Option.some.inj d
  exact subscriptTail_builtinR (x:=w) f.isList.typeIs slot_list_getitem.lookup
   (wpAny_getItem_list_neg (Q:=λr K=>r=w/\EP X pins l Q r K) f.isList (by lia) (by rw[List.size_toArray] <;>lia) (by lia) (by rw[k];simpa using n) ⟨rfl,c⟩) m
theorem Ie:IxR X (yW X.K):=by
 intro value slice pins s e H x y v u Q I g k h l;refine qq λqz=>?_;obtain⟨p,F,i,z,rfl,rfl,m,n,q⟩:=h;apply qz;cases g;refine qq λqz=>?_;obtain⟨t,rfl⟩:=k;obtain⟨o,r,f,G⟩:=I.tuple m;obtain⟨j,A,B,J,K,L⟩:=wZ n;obtain⟨w,C,c⟩:=r.get B;apply qz;have D:=r.length;have M:=qU;have d:EP X pins e Q w s:=⟨z,H,I,c,q⟩;exact subscriptTail_builtinR (x:=w) f.typeIs slot_tuple_getitem.lookup
  (getItem_tuple (j:=j) (Q:=λr E=>r=w/\EP X pins e Q r E) f (by lia) (by lia) (by rw[List.size_toArray,<-D];exact A) (by simpa using C) ⟨rfl,d⟩) l
theorem Inv.lst{pins:List (Addr×Obj)}{f:St}{H:Hp}{s:Shared}{p:Addr}{d:List V}(I:Inv X pins f H s)(h:H p=some (.lst d)):
  ∃(c:List Value)(n:Nat),Vals d c/\s.heap.get? p=some {cls:=.type "list",data:=.seq c.toArray n}/\d.length<=sizeLine:=by
 refine qq λqz=>?_;obtain⟨z,c,n,r,e⟩:=I.hok p _ h;apply qz;exact⟨c,n,r,e,z⟩
theorem pD(c d:Option Int)(n:Nat):(sliceBounds c d none n).1=((HT.sIx n 0 c:Nat):Int)/\(sliceBounds c d none n).2.1=((HT.sIx n n d:Nat):Int)/\(sliceBounds c d none n).2.2=1:=by
 refine⟨?_,?_,rfl⟩
 ·cases c with
  |none=>simp[sliceBounds,HT.sIx]
  |some i=>
   simp only[sliceBounds,HT.sIx,Option.getD_none,show(1:Int)>0 by decide,if_true];by_cases h:i<0
   ·simp only[h,if_true] <;>lia
   ·simp only[h,if_false] <;>lia
 ·cases d with
  |none=>simp[sliceBounds,HT.sIx]
  |some i=>
   simp only[sliceBounds,HT.sIx,Option.getD_none,show(1:Int)>0 by decide,if_true];by_cases h:i<0
   ·simp only[h,if_true] <;>lia
   ·simp only[h,if_false] <;>lia
theorem nI(c:List Value)(d e:Option Int):slicePick c.toArray d e none=((c.drop (HT.sIx c.length 0 d)).take (HT.sIx c.length c.length e-HT.sIx c.length 0 d)).toArray:=by
 obtain⟨f,g,h⟩:=pD d e c.toArray.size;unfold slicePick;rw[f,g,h];simp only[sliceRange_one,pick_run,List.size_toArray] <;>rfl
noncomputable def Gs(K:PySem.W.Frag):V->Option Int->Option Int->Hp->VK->Prop:=λx d e H Q=>∃a c,x= .ref a/\SqL K H a c/\∀p,H p=none->Q (.ref p) (eO H p (.lst (uM c d e)))
theorem Bu:SlR X (Gs X.K):=by
 intro pins s p H x v t u d e w Q I g i j k h;refine qq λqz=>?_;obtain⟨a,c,rfl,l,q⟩:=h;apply qz;cases g;refine qq λqz=>?_;obtain⟨m,r,f,n⟩:=I.list l;apply qz;have hlen:=r.length;refine⟨"list",_,slot_list_getitem.lookup,f.isList.typeIs,?_⟩;refine wpAny_getItem_list_slice f.isList i j k .none (by simp) ?_ (by rw[List.size_toArray] <;>lia);rw[nI,<-hlen];refine⟨.ref s.heap.objs.size,_,I.laid (t':=s.toks) (o:=.lst (uM c d e)) (λb y q=>Heap.get?_push_of_some _ q) (Nat.le_refl _) ?_,rfl,q _ (I.hok.fresh (Nat.le_refl _))⟩;exact⟨Nat.le_trans (tF c d e) n,_,0,(r.drop (HT.sIx c.length 0 d)).take (HT.sIx c.length c.length e-HT.sIx c.length 0 d),Heap.get?_push_size _ rfl⟩
theorem rF:CallR X (.builtin "len") (λi H Q=>∃p c,i=[.ref p]/\(SqL X.K H p c\/SqT X.K H p c)/\Q (.int c.length) H):=by
 intro pins s l H i m Q I r h;refine qq λqz=>?_;obtain⟨p,c,rfl,d,q⟩:=h;obtain⟨u,rfl,j⟩:=nQ r;apply qz;cases j;have n:=qU;rcases d with d|d
 ·refine qq λqz=>?_;obtain⟨e,f,g,k⟩:=I.list d;apply qz;have hlen:=f.length;exact Calls.call_len_list g.isList (by simp only[List.size_toArray] <;>lia) ⟨.int c.length,H,I.tok _,⟨s.toks+1,by rw[List.size_toArray,hlen]⟩,q⟩
 ·refine qq λqz=>?_;obtain⟨e,f,g,k⟩:=I.tuple d;apply qz;have hlen:=f.length;exact len_tuple g (by simp only[List.size_toArray] <;>lia) ⟨.int c.length,H,I.tok _,⟨s.toks+1,by rw[List.size_toArray,hlen]⟩,q⟩
theorem CallR.or{f:Value}{r d:List V->Hp->VK->Prop}(h:CallR X f r)(j:CallR X f d):CallR X f (λc H Q=>r c H Q\/d c H Q):=by
 intro pins s e H c g Q I i q;rcases q with q|q
 ·exact h pins s e H c g Q I i q
 ·exact j pins s e H c g Q I i q
theorem rE:CallR X (.type "list") (λz H Q=>∃p f,z=[.ref p]/\(SqL X.K H p f\/SqT X.K H p f)/\∀l,H l=none->Q (.ref l) (eO H l (.lst f))):=by
 intro pins s B H z D Q I r h;refine qq λqz=>?_;obtain⟨p,f,rfl,j,q⟩:=h;obtain⟨u,rfl,C⟩:=nQ r;apply qz;cases C;have k:∀(c:List Value),Vals f c->f.length<=sizeLine->∀(d:Heap)(g:Nat),(∀b A,s.heap.get? b=some A->d.get? b=some A) ->
   d.get? s.heap.objs.size=some {cls:=.type "list",dict:=none,data:=.seq c.toArray g,slots:=#[]}->EP X pins B Q (.ref s.heap.objs.size) {s with heap:=d}:=λc i m d g t e=>
  ⟨.ref s.heap.objs.size,_,I.laid (t':=s.toks) t (Nat.le_refl _) (show ObjOk X.prog X.w _ d _ (.lst f)from⟨m,c,g,i,e⟩),rfl,q _ (I.hok.fresh (Nat.le_refl _))⟩
 rcases j with j|j
 ·refine qq λqz=>?_;obtain⟨c,i,v,m⟩:=I.list j;have hlen:=i.length;obtain⟨o,w,x,n,y⟩:=v.isList;apply qz;exact call_list_seq p (.inl rfl) w x y (λd g t e=>k c i m d g t e) (by simp only[List.size_toArray] <;>lia)
 ·refine qq λqz=>?_;obtain⟨c,i,v,m⟩:=I.tuple j;have hlen:=i.length;obtain⟨o,w,x,n,y⟩:=v;apply qz;exact call_list_seq p (.inr rfl) w x y (λd g t e=>k c i m d g t e) (by simp only[List.size_toArray] <;>lia)
noncomputable def Pn(K:PySem.W.Frag)(T:String)(x:V)(H:Hp):Prop:=match x with
 | .str _=>T="str"
 | .int _=>T="int"
 | .ref p=>(T = "list"/\∃ d,SqL K H p d)\/(T = "tuple"/\∃ o,K.lookup p = some o/\o.cls = .type "tuple"/\o.dict = none) \/
   (T="dict"/\((∃c,H p=some (.dK c))\/∃c,H p=some (.dT c)))\/(T="set"/\∃S n,H p=some (.set S n))
 |_=>False
theorem Ga{pins:List (Addr×Obj)}{m:St}{H:Hp}{s:Shared}{T:String}{x:V}{v:Value}(I:Inv X pins m H s)(r:RelV x v)(ty:Pn X.K T x H):
  s.TypeIs v T/\∀a,v= .ref a->∃k,s.heap.get? a=some k/\k.dict=none:=by
 cases x with
 |str z=>
  obtain⟨t,rfl⟩:=r;cases (show T="str" from ty);exact⟨typeIs_str s z t,λ_ e=>nomatch e⟩
 |int i=>
  obtain⟨t,rfl⟩:=r;cases (show T="int" from ty);exact⟨typeIs_int s i t,λ_ e=>nomatch e⟩
 |ref p=>
  cases r;rcases ty with⟨rfl,y,q⟩|⟨rfl,o,d,u,g⟩|⟨rfl,d⟩|⟨rfl,S,n,d⟩
  ·refine qq λqz=>?_;obtain⟨w,_,l,_⟩:=I.list q;apply qz;refine⟨l.isList.typeIs,λa e=>?_⟩;cases e;refine qq λqz=>?_;obtain⟨o,n,e,c,g,_⟩:=l;apply qz;exact⟨o,e,g⟩
  ·refine⟨⟨o,I.kIn p o d,u⟩,λa e=>?_⟩;cases e;exact⟨o,I.kIn _ o d,g⟩
  ·have z:∃o,s.heap.get? p=some o/\o.ExactDict:=by
    rcases d with⟨h,d⟩|⟨h,d⟩
    ·refine qq λqz=>?_;obtain⟨_,_,_,_,o,_,_,e,f,_⟩:=I.hok p _ d;apply qz;exact⟨o,e,f⟩
    ·refine qq λqz=>?_;obtain⟨_,_,_,_,o,_,_,e,f,_⟩:=I.hok p _ d;apply qz;exact⟨o,e,f⟩
   obtain⟨o,e,f⟩:=z;refine⟨⟨o,e,f.1⟩,λa j=>?_⟩;cases j;exact⟨o,e,f.2.1⟩
  ·refine qq λqz=>?_;obtain⟨o,_,_,_,e,f,_⟩:=I.hok p _ d;apply qz;refine⟨⟨o,e,f.1⟩,λa j=>?_⟩;cases j;exact⟨o,e,f.2.1⟩
 |_=>exact False.elim ty
noncomputable def Os(K:PySem.W.Frag)(T:String)(r:V->List V->Hp->VK->Prop)(e:TE)(t:TA):TE:=λc H Q=>e c H λx d=>Pn K T x d/\t c d λf g=>r x f g Q
variable{o e:Expr}{es:List Expr}{to:TE}{t:TA}{name:Str}{apos cpos:Pos}{T id:String}{r:V->List V->Hp->VK->Prop}
theorem vM(n:PlainAttrs T)(slot:Slot T name id)(i:typeOf (.builtin id)=pure (.type "method_descriptor"))(p:MtR X id r)(q:PE X o to)(u:PA X (e::es) t)
  (d:attributeBase o name X.env (eval o X.env)=eval o X.env:=by rfl)
  (g:((backTo cpos (starEach (e::es) X.env)).all (λx=>!x.1) && (backToKw cpos (keywordEach [] X.env)).all (λx=>x.1.isSome)
   && decide ((e::es).length+([]:List Keyword).length+(if ([]:List Keyword).isEmpty then 0 else 1)<30))=true:=by rfl)
  (f:(apos.endLine==cpos.line)=true:=by rfl) (w:starEach (e::es) X.env=(false,eval e X.env)::starEach es X.env:=by rfl) (c:(backTo cpos (starEach es X.env)).any (·.1)=false:=by rfl):
  PE X (.Call (.Attribute o name apos) (e::es) [] cpos) (Os X.K T r to t):=by
 intro pins s j H Q I h;refine wpAny_Call_method_late d g f rfl (eP (q pins s j H _ I h) λv y yq=>?_);refine qq λW_=>?_;obtain⟨x,z,k,l,ty,A⟩:=yq;apply W_;obtain⟨B,C⟩:=Ga k l ty;refine⟨T,id,n,slot,i,B,C,?_⟩;have m:=u cpos pins y j z _ k A;rw[w]at m⊢;refine Calls.callWith_builtin (by show(false||(backTo cpos (starEach es X.env)).any (·.1))=false;rw[c] <;>rfl) (Calls.evalArgs_plain ?_);exact eP m λD E ⟨F,G,J,K,L⟩=>p pins E j G x F v D Q J l K L
end
end L2
namespace L2
open PySem PySem.Spec PyProof.Rows
noncomputable def Qf(X:Cx)(id:String)(r:V->List V->Hp->VK->Prop):Prop:=
 ∀(pins:List (Addr×Obj))(s:Shared)(a:St)(H:Hp)(x:V)(b:List V)(v:Value)(c:List Value)(Q:VK),Inv X pins a H s->RelV x v->Vals b c->r x b H Q ->
  wpAny (model X.prog X.w) X.A (call (.builtin id) (v::c)) (EP X pins a Q) X.xe s
theorem Vals.one:∀{x:V}{a:List Value},Vals [x] a->∃u,a=[u]/\RelV x u:=by
 intro x a h;cases h with |cons r t=>cases t;exact⟨_,rfl,r⟩
theorem Vals.two:∀{x y:V}{a:List Value},Vals [x,y] a->∃u v,a=[u,v]/\RelV x u/\RelV y v:=by
 intro x y a h;cases h with |cons r t=>cases t with |cons q t=>cases t;exact⟨_,_,rfl,r,q⟩
theorem Vals.reverse{a:List V}{b:List Value}(h:Vals a b):Vals a.reverse b.reverse:=by
 induction h with
 |nil=>exact .nil
 |cons r t c=>rw[List.reverse_cons,List.reverse_cons];exact Vals.append c (.cons r .nil)
theorem Vals.rep{a:List V}{b:List Value}(h:Vals a b):∀k:Nat,Vals (List.replicate k a).flatten (List.replicate k b).flatten
 |0=>.nil
 |k+1=>by
  rw[List.replicate_succ,List.replicate_succ,List.flatten_cons,List.flatten_cons];exact Vals.append h (Vals.rep h k)
theorem oO(a:List Value):∀(k:Nat)(b:List Value),
  List.foldl (λc d=>c++d) b.toArray (List.replicate k a.toArray)=(b++(List.replicate k a).flatten).toArray
 |0,b=>by simp
 |k+1,b=>by
  have e:b.toArray++a.toArray=(b++a).toArray:=by simp
  have f:(b++a)++(List.replicate k a).flatten=b++(List.replicate (k+1) a).flatten:=by
   rw[List.replicate_succ,List.flatten_cons,List.append_assoc]
  rw[<-f,<-oO a k (b++a),<-e,List.replicate_succ,List.foldl_cons]
section
variable{X:Cx}{pins:List (Addr×Obj)}{σ:St}{H:Hp}{s:Shared}{l b:Addr}{xs ys zs:List V}
theorem Inv.lset{a its':List Value}{n:Nat}{f:Array Value->Array Value}{c:Nat}(I:Inv X pins σ H s)(d:H l=some (.lst xs))
  (e:s.heap.get? l=some {cls:=.type "list",data:=.seq a.toArray n}) (g:f a.toArray=its'.toArray) (h:Vals ys its') (i:ys.length<=sizeLine):
  Inv X pins σ (eO H l (.lst ys)) {s with heap:=s.heap.update l (Obj.mapSeq f),toks:=c}:=by
 have q:=PySem.IsL.update e f;rw[g]at q;refine I.write (x:=l) (e:=l) (by rw[d];exact trivial) (.inl rfl) (λm u j k=>(Heap.get?_update_other s.heap (Obj.mapSeq f) (Ne.symm j)).trans k) ⟨_,q⟩ ?_;exact⟨i,its',_,h,q⟩
theorem Inv.lnew{a:List Value}{t':Nat}(I:Inv X pins σ H s)(c:Vals ys a)(d:ys.length<=sizeLine):
  Inv X pins σ (eO H s.heap.objs.size (.lst ys)) {s with heap:=s.heap.push {cls:=.type "list",data:=.seq a.toArray},toks:=t'}:=
 I.laid (λ_ _ q=>Heap.get?_push_of_some _ q) (Nat.le_refl _) ⟨d,a,0,c,Heap.get?_push_size _ rfl⟩
theorem Inv.fresh(I:Inv X pins σ H s):H s.heap.objs.size=none:=I.hok.fresh (Nat.le_refl _)
theorem Inv.lstM(I:Inv X pins σ H s)(c:H l=some (.lst xs)):xs.length<=sizeLine/\∃(a:List Value)(n:Nat),Vals xs a/\xs.length=a.length/\s.heap.get? l=some {cls:=.type "list",data:=.seq a.toArray n}:=by
 refine qq λqz=>?_;obtain⟨z,a,n,r,e⟩:=I.hok l _ c;apply qz;exact⟨z,a,n,r,r.length,e⟩
theorem zL{n:Nat}(h:n<=sizeLine):Builtin.List.listTooLong n=false:=by
 unfold Builtin.List.listTooLong;exact decide_eq_false (by lia)
end
section
variable{X:Cx}
noncomputable def vJ:V->List V->Hp->VK->Prop:=λx b H Q=>∃l a y,x= .ref l/\b=[y]/\H l=some (.lst a)/\a.length<sizeLine/\Q .non (eO H l (.lst (a++[y])))
theorem iL:Qf X "list.append" vJ:=by
 intro pins s g H x i v j Q I c d h;refine qq λqz=>?_;obtain⟨l,k,y,rfl,rfl,b,m,q⟩:=h;apply qz;cases c;refine qq λqz=>?_;obtain⟨u,rfl,f⟩:=d.one;obtain⟨z,a,n,r,o,e⟩:=I.lstM b;apply qz;refine call_meets F.slot_list_append ⟨_,e,rfl⟩ F.entry_list_append (F.args_list_append_2 _ _) (PySem.list_append l a.toArray n u (by rw[List.size_toArray];lia)) ⟨e,?_⟩;refine⟨.non,_,I.lset (its':=a++[u]) b e (by simp) (r.append (.cons f .nil)) ?_,rfl,q⟩;rw[List.length_append,List.length_singleton]
 lia
noncomputable def Kz:R2:=λx y H Q=>∃l k a,x= .ref l/\y= .int k/\H l=some (.lst a)/\-(2^63)<=k/\k<2^63/\a.length*k.toNat<=sizeLine/\
 ∀p,H p=none->Q (.ref p) (eO H p (.lst (List.replicate k.toNat a).flatten))
theorem Cn{b:Type}(a:List b)(k:Nat):(List.replicate k a).flatten.length=k*a.length:=by
 induction k with
 |zero=>simp
 |succ k c=>rw[List.replicate_succ,List.flatten_cons,List.length_append,c,Nat.succ_mul,Nat.add_comm]
theorem zF:OpR X (binaryOp .Mult) Kz:=by
 intro pins s J H x y v u Q I p w h;refine qq λqz=>?_;obtain⟨l,k,K,rfl,rfl,A,B,C,o,q⟩:=h;apply qz;cases p;refine qq λqz=>?_;obtain⟨t,rfl⟩:=w;obtain⟨z,b,n,r,D,e⟩:=I.lstM A;apply qz;have hlen:b.toArray.size*k.toNat<=sizeLine:=by rw[List.size_toArray,<-D];exact o
 have d:¬b.toArray.size*k.toNat>(2^63-1)/8:=by
  have:(sizeLine:Nat)<=(2^63-1)/8:=by decide
  lia
 have f:¬(!Builtin.List.listFitsIndex k)=true:=by
  rw[fitsIndex_both B C];exact Bool.false_ne_true
 have c:¬Builtin.List.listTooLong (b.toArray.size*k.toNat)=true:=by
  rw[zL hlen];exact Bool.false_ne_true
 have g:List.foldl (λi j=>i++j) #[] (List.replicate (if b.toArray.isEmpty=true then 0 else k.toNat) b.toArray)=(List.replicate k.toNat b).flatten.toArray:=by
  have E:∀m:Nat,List.foldl (λi j=>i++j) #[] (List.replicate m b.toArray)=(List.replicate m b).flatten.toArray:=λm=>by
   have:=oO b m [];rw[List.nil_append]at this;exact this
  rw[E];cases b with
  |nil=>simp
  |cons a L=>rw[if_neg (by simp)]
 refine wpAny_binaryOp_repeat_ref (T:="list") (U:="int") (by decide) ⟨_,e,rfl⟩ (λG=>typeIs_int G k t) noFill_list_mul F.fills_int_mul F.slot_int_rmul repeat_list F.slot_int_index.lookup
  (call_meets F.slot_int_rmul (typeIs_int s k t) F.entry_int_rmul (F.args_int_rmul_2 _ _) (int___rmul___int_list k t l b.toArray n)
   ⟨e,rfl,⟨_,e,rfl⟩,call_meets F.slot_list_mul ⟨_,e,rfl⟩ F.entry_list_mul (F.args_list_mul_2 _ _) (AutoListH.list___mul___list_int_3 l b.toArray n k t f d c) ⟨e,?_⟩⟩)
 rw[g];exact⟨.ref _,_,I.lnew (t':=s.toks) (r.rep k.toNat) (by rw[Cn,Nat.mul_comm];exact o),rfl,q _ I.fresh⟩
end
section
variable{prog:Program}{w:World}{A:Around}{E:Value->Shared->Prop}{s:Shared}
set_option maxRecDepth 100000 in
end
section
variable{X:Cx}
end
end L2
namespace Att
open PySem PySem.W PySem.Calls PyProof.Rows
theorem lI{P:Params}{h:Heap}:∀(c:List Int)(d:List Value),WellAll P h d (c.map WData.int)->IntsAre d c:=by
 intro c
 induction c with
 |nil=>
  intro d w;rw[List.map_nil]at w;cases w;exact .nil
 |cons n c e=>
  intro d w;rw[List.map_cons]at w;cases w with
  |cons a b=>
   cases a;exact .cons _ _ (e _ b)
theorem nX{l:OpenLaw}{n:Nat}(m:l.most=some n){P:Params}{h:Heap}{args:List WData}{vals:List Value}
  (c:l.row.toRowW.claim.pre args=true) (g:WellAll P h vals args):
  ∃a j b,vals=[Value.ref a]/\args=[WData.list (b.map WData.int)]/\h.get? a=some {cls:=.type "list",data:=.seq j.toArray}/\IntsAre j b/\b.length<=n:=by
 have i:WShape.hasAll [] args [.list .int]=true:=(pre_splitW c).1;have k:l.pre.holds [] {args:=args}=true:=(pre_splitW c).2;refine qq λqz=>?_;obtain⟨d,r,rfl,o,p⟩:=hasAllW_cons i;obtain rfl:=hasAllW_nil p;obtain⟨x,rfl,s⟩:=hasW_list o;obtain⟨b,rfl⟩:=items_int s;apply qz;have hlen:b.length<=n:=by
  unfold OpenLaw.pre at k;have e:(WTm.not (.lt (.lit (.int (n:Int))) (.len (.arg 0)))).holds [] {args:=[.list (b.map .int)]}=true:=by
   have e:=(holds_andW k).1;rw[m]at e;exact e
  have f:=condW_of e (w_not (w_lt w_lit (w_len_list (w_arg rfl))));rw[List.length_map]at f;refine Nat.le_of_not_lt λq=>?_;have t:(n:Int)<((b.length:Nat):Int):=by lia
  first
   |(rw[decide_eq_true t]at f;exact absurd f (by decide))
   |(simp at f;lia)
 cases g with
 |cons u v=>
  cases v;cases u with
  |list w hall=>exact⟨_,_,b,rfl,rfl,w,lI b _ hall,hlen⟩
theorem nY(l:OpenLaw)(args:List WData):l.row.toRowW.claim.post args (.bool true) args=true:=
 postW_of (r:=l.row.toRowW) (X:=(true==true))
  (show WShape.has [] (.bool true) .bool=true by first|rfl|decide |simp[WShape.has,WShape.arms,WShape.armsAll])
  (show(WTm.eq .res (.lit (.bool true))).value [] {args:=args,res:=some (.bool true),after:=args}=some (.bool (true==true))from w_eq_bool (w_res rfl) w_lit) rfl
theorem attach_call{l:OpenLaw}{n:Nat}{q:Program}{loose:List Str}{z:(Str->Option Value)->Heap->Prop}{A:World->Heap->Prop}{d:DefRec}
  (D:l.most=some n) (s:d.params.defaults=[])
  (call:∀(w:World)(c b:Shared)(j t:Str->Option Value)(h:Addr)(o:Obj)(u k e:Value)(a:Addr)(g:List Value)(m:List Int),
   Ground q loose [] z w c j t b.heap->A w b.heap ->
   b.heap.get? h=some o->o.data= .func (docDef d.name d.params d.body d.scope u k e)->b.heap.CodeRec k d.name->j d.name=some (.ref h) ->
   b.heap.get? a=some {cls:=.type "list",data:=.seq g.toArray}->IntsAre g m->m.length<=n->b.gens=#[] ->
   codeAny (model l.prog w) callerA (.call (.ref h) ⟨[.ref a],[]⟩) (λr p=>r= .ok (.ret (.bool true))/\OldK b.heap p.heap/\p.os=b.os/\AllBare p.gens) b):
  WalkO q loose z A l.row.toRowW d [] (λf g=>PySem.call f g):=by
 intro w c b j t G Y h o u k e E kV F H v B x I args vals Q i C J y K;refine qq λqz=>?_;obtain rfl:E= .none:=Dflts.none B s;obtain rfl:kV= .none:=Dflts.noKw B;obtain⟨a,g,m,rfl,rfl,hobj,hints,hlen⟩:=nX D i y;apply qz;refine enter_call (codeAny_mono (call w c b j t h o u k e a g m G Y F (fd_plain H) v x hobj hints hlen I) λr p L=>?_);refine qq λqz=>?_;obtain⟨rfl,M,N,O⟩:=L;apply qz;exact⟨.inl ⟨.bool true,.bool true,[],rfl,λ_=>rfl,.bool true,nY l _,λ_=>⟨List.Pairwise.nil,λ_ P=>(nomatch P)⟩⟩,M,N,O⟩
section
variable{prog:Program}{w:World}{A:Around}{E:Value->Shared->Prop}{s:Shared}{K:Frag}
noncomputable def ledger(h:Heap)(L d:Addr):List (Addr×Obj):=(List.range h.objs.size).filterMap λa=>if a=L\/a=d then none else(h.get? a).map λo=>(a,o)
end
end Att
namespace L2
open PySem PySem.Spec PyProof.Rows
theorem nP:∀{a:List Value}{b:List Int},IntsAre a b->Vals (b.map V.int) a
 |_,_,.nil=>.nil
 |_,_,.cons n t h=>.cons ⟨t,rfl⟩ (nP h)
noncomputable def Dt(H:Hp):Prop:=∀b,H b=none\/∃o a,H b=some (.frz o (.lst a))
theorem sM{P:Program}{w:World}{K:PySem.W.Frag}{t N:Str->Option Value}{X:xB}{k:Nat}{O a:Addr}{Y:FuncData}{x:Str}{Z:Sp}{c:Shared}{l:List Value}{y:List Int}
  (KX:K.In c.heap) (A:c.heap.Ns mainGlobals t) (g:c.heap.Ns builtinsNs N) (Q:∀x:Str,x≠"__name__"->N x=bootBuiltins x) (B:c.heap.NoLimit) (hg:c.gens=#[])
  (M:c.heap.get? a=some {cls:=.type "list",data:=.seq l.toArray}) (hi:IntsAre l y) (hl:y.length<=sizeLine) (hr:Room k callerA)
  (F:∀base:Heap,K.In base->base.Ns mainGlobals t->FnOk P w K t base X k O Y [x] Z) (p:∀(s:Shared)(u:Value),BindsTo s Y ⟨[u],[]⟩ [(x,u)])
  (R:∀H:Hp,Dt H->SqL K H a (y.map V.int)->Z [.ref a] H (λv _=>v= .bl true) λ_ _ _=>False)
  (S:∀H e i,X [] H c (λ_ _ _=>False) e i->False):
  codeAny (model P w) callerA (.call (.ref O) ⟨[.ref a],[]⟩) (λr i=>r= .ok (.ret (.bool true))/\OldK c.heap i.heap/\i.os=c.os/\AllBare i.gens) c:=by
 have rv:=nP hi;have C:=hi.length;have core:∀H:Hp,Dt H->SqL K H a (y.map V.int)->HOk P w H c.heap->(∀b,H b≠none->b=a)->(H a≠none->K.lookup a=none) ->
   codeAny (model P w) callerA (.call (.ref O) ⟨[.ref a],[]⟩) (λr i=>r= .ok (.ret (.bool true))/\OldK c.heap i.heap/\i.os=c.os/\AllBare i.gens) c:=by
  intro H hO hS D hA hK;have f:∀{b:Addr}{o:Obj},c.heap.get? b=some o->H b=none->(qW c.heap H).get? b=some o:=λe n=>zX e n;have T:∀{b:Addr}{o:Obj}{E:Array DictEntry}{G:Nat},c.heap.get? b=some o->o.data= .dict E G->H b=none:=λ{b o E G} e d=>by
   cases q:H b with
   |none=>rfl
   |some u=>
    have U:b=a:=hA b (by rw[q];simp);subst U;rw[M]at e;cases e;have d':Data.seq l.toArray _=Data.dict E G:=d;cases d'
  have j:∀{b:Addr}{m:Str->Option Value},c.heap.Ns b m->(qW c.heap H).Ns b m:=λ{b m} ⟨o,E,G,e,d,r⟩=>⟨o,E,G,f e (T e d),d,r⟩
  have I:K.In (qW c.heap H):=λb o e=>f (KX b o e) (by
   cases q:H b with
   |none=>rfl
   |some u=>
    have U:b=a:=hA b (by rw[q];simp)
    subst U
    rw[hK (by rw[q];simp)]at e;cases e)
  have hM:Mod K t (qW c.heap H):=⟨I,j A,⟨N,j g,Q⟩,let⟨mc,h1,h2⟩:=B;⟨mc,j h1,h2⟩⟩;have e0:Env0 P w K t (qW c.heap H) callerA [] c H:=⟨rfl,hM,λb o e=>Cg e,Nat.le_of_eq (xU _ _),trivial,λb g=>absurd (show b∈([]:List Addr)from g) (by simp),D,.of_eq hg⟩;refine codeAny_mono ((F _ I (j A)).run callerA [] c H ⟨[.ref a],[]⟩ [.ref a] [.ref a] _ _ hr e0 (p c (.ref a)) (.cons rfl .nil) (R H hO hS)) λr i h=>?_;cases r with
  |error e=>exact(S H e i h).elim
  |ok fl=>
   cases fl with
   |next=>exact False.elim h
   |brk=>exact False.elim h
   |cont=>exact False.elim h
   |ret u=>
    refine qq λqz=>?_;obtain⟨v,H',os,bare,un,J,r',q⟩:=h;apply qz;have q':v= .bl true:=q;subst q';obtain rfl:u=Value.bool true:=r';refine⟨rfl,OldK.of_keep λb o e=>?_,os,bare⟩;cases q:H b with
    |none=>exact un.keep b o e q (by intro z;exact absurd (show b∈([]:List Addr)from z) (by simp)) (by simp)
    |some u=>
     rcases hO b with z|⟨ob,xs,z⟩
     ·rw[q]at z;cases z
     ·have z2:=un.frzs b ob _ z;obtain⟨e1,_⟩:=D b _ z;obtain⟨e2,_⟩:=J b _ z2;rw[e]at e1;cases e1;exact e2
 cases W:K.lookup a with
 |some o=>
  have e:=KX a o W;rw[M]at e;cases e;refine core (λ_=>none) (λ_=>.inl rfl) (.inr ⟨_,l.toArray,_,W,rfl,rfl,rfl,by rw[List.size_toArray,C];exact hl,by simpa using rv⟩) (λb u z=>by have L:(none:Option HO)=some u:=z;cases L) (λb z=>absurd rfl z) λz=>absurd rfl z
 |none=>
  refine core (λb=>if b=a then some (.frz {cls:=.type "list",data:=.seq l.toArray} (.lst (y.map V.int)))else none) (λb=>?_) (.inl (.inr ⟨{cls:=.type "list",data:=.seq l.toArray},if_pos rfl⟩)) (λb u z=>?_) (λb z=>?_) λ_=>W
  ·by_cases g:b=a
   ·exact .inr ⟨_,_,if_pos g⟩
   ·exact .inl (if_neg g)
  ·by_cases g:b=a
   ·have L:=(if_pos g).symm.trans z;cases L;subst g;exact⟨M,by rw[List.length_map];exact hl,l,_,rv,M⟩
   ·have L:=(if_neg g).symm.trans z;cases L
  ·by_cases g:b=a
   ·exact g
   ·exact absurd (if_neg g) z
end L2
namespace L2
open PySem PySem.Spec PyProof.Rows
noncomputable abbrev KOf{K:PySem.W.Frag}{h:Heap}(_:K.In h):PySem.W.Frag:=K
theorem walk_of{l:PySem.W.OpenLaw}{n k:Nat}{q:Program}{loose:List Str}{L:(Str->Option Value)->Heap->Prop}{B:World->Heap->Prop}{d:DefRec}{K:Params->PySem.W.Frag}{C:World->xB}{D:World->Sp}{x:Str}
  (M:l.most=some n) (m:n<=sizeLine) (p:d.params.defaults=[]) (N:Room k callerA)
  (O:∀(w:World)(h:Heap),B w h->(K w.params).In h)
  (F:∀(w:World)(b:Str->Option Value)(i:Addr)(h:Heap),(K w.params).In h->h.Ns mainGlobals b->b d.name=some (.ref i) ->
   ∃r:FuncData,(∀(s:Shared)(u:Value),BindsTo s r ⟨[u],[]⟩ [(x,u)])/\
    ∀base:Heap,(K w.params).In base->base.Ns mainGlobals b->FnOk l.prog w (K w.params) b base (C w) k i r [x] (D w))
  (t:∀(w:World)(H:Hp)(a:Addr)(j:List Int),j.length<=n->Dt H->SqL (K w.params) H a (j.map V.int)->D w [.ref a] H (λv _=>v= .bl true) λ_ _ _=>False)
  (y:∀(w:World)(H:Hp)(s:Shared)(e:Value)(z:Shared),C w [] H s (λ_ _ _=>False) e z->False):
  PySem.W.WalkO q loose L B l.row.toRowW d [] (λf E=>PySem.call f E):=by
 refine Att.attach_call M p λw I c b X i o Z cd P a E j G Y ho hd Q A g hints hlen R=>?_;have J:=O w _ Y;refine qq λqz=>?_;obtain⟨r,S,T⟩:=F w b i _ J G.T.g A;apply qz;exact sM J G.T.g G.T.b G.T.builtins G.T.nolimit R g hints (Nat.le_trans hlen m) N T S (λH U W=>t w H a j hlen U W) λH e z=>y w H c e z
end L2
namespace L2
open PySem PySem.Spec PyProof.Rows
noncomputable def aS(s:Stmt):Arguments:=match s with
 | .FunctionDef _ a _ _ _ _ _ _ _ _=>a
 |_=>{posonlyargs:=[],args:=[],vararg:=none,kwonlyargs:=[],kw_defaults:=[],kwarg:=none,defaults:=[]}
noncomputable def aR(s:Stmt):List Stmt:=match s with
 | .FunctionDef _ _ b _ _ _ _ _ _ _=>b
 |_=>[]
noncomputable def aG(s:Stmt):Scope:=match s with
 | .FunctionDef _ _ _ _ _ _ a _ _ _=>a
 |_=>{kind:=.function,names:=[],isGenerator:=false,isCoroutine:=false}
noncomputable abbrev Ql:xB:=λ_ _ _ _ _ _=>False
noncomputable abbrev E0:XK:=λ_ _ _=>False
structure Fun(K:PySem.W.Frag)(x qual:Str)(st:Stmt)(f:Addr)(fd:FuncData):Prop where
 ex:∃(oc:Value)(od:Option Addr)(kV doc pm:Value)(an:Option Addr)(cdv ct:Value)(osl:Array (Option Value)),
  fd=PySem.W.fnOf x qual (aS st) (aR st) (aG st) .none kV doc pm an cdv ct/\K.lookup f=some ⟨oc,od,.func fd,osl⟩/\PySem.W.codeIn K cdv qual=true
 kp:PySem.W.keepIn K (.ref f)=true
section
variable{P:Program}{w:World}{K:PySem.W.Frag}{mg:Str->Option Value}{base:Heap}
theorem Fun.ok{x qual:Str}{d:Stmt}{f:Addr}{m:FuncData}{N e:List Str}{k:Nat}{g:Sp}(F:Fun K x qual d f m)(S:FnScope N e (aG d))(i:∀b H Q E,g b H Q E->b.length=e.length)
  (c:∀(a:Value)(A:Around)(outer:List Env)(s:Shared)(H:Hp)(b:List V)(Q:VK)(E:XK),Room k (A.deeper (envOfC qual (aG d) s.heap.objs.size f a))->g b H Q E ->
   ∃t,PSs (mT Ql P w K mg base N qual (aG d) f a A outer s H E).nox (aR d) t/\t {nx:=λ_ n=>Q .non n,rt:=Q} (start N b) H):FnOk P w K mg base Ql (k+1) f m e g:=by
 refine qq λqz=>?_;obtain⟨v,y,kV,o,z,B,a,C,p,rfl,r,j⟩:=F.ex;apply qz;refine Ez r j S i λA outer s H b Q E u l=>?_;refine qq λqz=>?_;obtain⟨t,h,q⟩:=c a A outer s H b Q E u l;apply qz;exact⟨t,h.nox,q⟩
theorem Fun.binds{x qual:Str}{c:Stmt}{f:Addr}{j:FuncData}{ps:List Str}(F:Fun K x qual c f j)
  (h:∀(kV a d:Value)(e:Option Addr)(b g:Value)(i:List Value),i.length=ps.length->bindArgs (PySem.W.fnOf x qual (aS c) (aR c) (aG c) .none kV a d e b g) ⟨i,[]⟩=pure (ps.zip i)):Binds K j ps []:=by
 refine qq λqz=>?_;obtain⟨m,n,kV,a,d,e,b,g,k,rfl,o,l⟩:=F.ex;apply qz;exact .all (h kV a d e b g)
theorem bS{x qual:Str}{st:Stmt}{f:Addr}{i:Value}{j e:Option Addr}{d:Array (Option Value)}{kV b g a h:Value}(l:K.lookup f=some ⟨i,j,.func (PySem.W.fnOf x qual (aS st) (aR st) (aG st) .none kV b g e a h),d⟩)
  (c:PySem.W.codeIn K a qual=true) (k:PySem.W.keepIn K (.ref f)=true):Fun K x qual st f (PySem.W.fnOf x qual (aS st) (aR st) (aG st) .none kV b g e a h):=⟨⟨i,j,kV,b,g,e,a,h,d,rfl,l,c⟩,k⟩
end
theorem cV{n:Nat}(h:n<=1000):n<sizeLine:=Nat.lt_of_le_of_lt h (by decide)
section
variable{X:Cx}
theorem pv(i:Nat){x:Str}{a:Pos}(c:X.N[i]? =some x:=by rfl)(d:Ph X.env.scope x:=by first|exact Or.inl rfl|exact Or.inr (Or.inl rfl)|exact Or.inr (Or.inr rfl))(e:(x==("__debug__":Str))=false:=by decide)
  (b:(x==("__classdict__":Str))=false:=by decide):PE X (.Name x a) (nH i):=Gy c d e b
end
theorem fG{c A B:Prop}[Decidable c](a:c->A)(b:¬c->B):if c then A else B:=by
 by_cases h:c
 ·rw[if_pos h];exact a h
 ·rw[if_neg h];exact b h
noncomputable def Same(H a:Hp):Prop:=∀b o,H b=some o->a b=some o
theorem Same.refl(H:Hp):Same H H:=λ_ _ h=>h
theorem Same.trans{H d e:Hp}(a:Same H d)(b:Same d e):Same H e:=λc o h=>b c o (a c o h)
theorem Same.free{H a:Hp}(e:Same H a){l:Addr}(h:a l=Option.none):H l=Option.none:=by
 cases q:H l with
 |none=>rfl
 |some o=>
  rw[e l o q]at h;cases h
theorem Same.seq{K:PySem.W.Frag}{H b:Hp}{a:Addr}{c:List V}(e:Same H b)(h:SqL K H a c):SqL K b a c:=by
 rcases h with(h|⟨o,h⟩)|h
 ·exact .inl (.inl (e _ _ h))
 ·exact .inl (.inr ⟨o,e _ _ h⟩)
 ·exact .inr h
end L2
set_option maxHeartbeats 4000000
namespace Lx
open PySem PySem.Spec PyProof.Rows L2
noncomputable def ExcAt(a h:Heap)(H:Hp)(x:Addr)(C:Value):Prop:=
 ∃b c,h.get? x=some b/\b.cls=C/\b.data= .fields c/\H x=none/\a.get? x=none/\
  (c[1]? =some Value.none\/∃T d e,c[1]? =some (Value.ref T)/\T≠x/\h.get? T=some d/\d.data= .fields e/\e[3]? =some Value.none/\H T=none/\a.get? T=none)
theorem ExcAt.older{a c h:Heap}{H:Hp}{x:Addr}{C:Value}(e:ExcAt c h H x C)(k:∀b,c.get? b=none->a.get? b=none):ExcAt a h H x C:=by
 refine qq λqz=>?_;obtain⟨f,g,i,j,l,m,n,d⟩:=e;apply qz;refine⟨f,g,i,j,l,m,k _ n,?_⟩;rcases d with d|⟨T,o,p,q,r,s,t,u,v,w⟩
 ·exact .inl d
 ·exact .inr ⟨T,o,p,q,r,s,t,u,v,k _ w⟩
theorem vQ{P:Program}{w:World}{H:Hp}{h:Heap}{a:Addr}{o:HO}(x:ObjOk P w H h a o):∃u,h.get? a=some u:=by
 cases o with
 |lst c=>obtain⟨_,_,_,_,e⟩:=x;exact⟨_,e⟩
 |tup c=>refine qq λqz=>?_;obtain⟨_,_,_,p⟩:=x;obtain⟨o,d,_⟩:=p;apply qz;exact⟨o,d⟩
 |dK b=>refine qq λqz=>?_;obtain⟨_,_,_,_,o,_,_,e,_⟩:=x;apply qz;exact⟨_,e⟩
 |dT b=>refine qq λqz=>?_;obtain⟨_,_,_,_,o,_,_,e,_⟩:=x;apply qz;exact⟨_,e⟩
 |set S n=>refine qq λqz=>?_;obtain⟨o,_,_,_,e,_⟩:=x;apply qz;exact⟨_,e⟩
 |ins C i g=>obtain⟨_,_,_,e,_⟩:=x;exact⟨_,e⟩
 |own y=>exact x
 |xd g=>refine qq λqz=>?_;obtain⟨_,⟨_,_,_,e,_⟩,_⟩:=x;apply qz;exact⟨_,e⟩
 |rng j k=>obtain⟨_,_,_,e⟩:=x;exact⟨_,e⟩
 |frz l u=>obtain⟨e,_⟩:=x;exact⟨_,e⟩
 |tbl m=>exact⟨_,(show h.get? a=some _ from x)⟩
 |met f y=>exact⟨_,(show h.get? a=some _ from x)⟩
 |ext q=>obtain⟨_,e,_⟩:=x;exact e
theorem vU{b:Env}{l:List Env}{a:Addr}(h:b∈l)(c:b.frame=some a):a∈kX l:=List.mem_filterMap.mpr ⟨b,h,c⟩
theorem xO{M:Model}{A:Around}{E:Value->Shared->Prop}{s:Shared}{base d:Heap}{c:Env}{outer:List Env}{L x:Addr}{C:Value}{H:Hp}{Q:Unit->Shared->Prop}
  (w:A.frames=some (c::outer)) (hl:s.heap.FunFrames base (c::outer)) (I:c.frame=some L) (hx:ExcAt d s.heap H x C)
  (h0:∀b o,d.get? b=some o->∃u,s.heap.get? b=some u) (hH:∀b o,H b=some o->∃u,s.heap.get? b=some u)
  (h:∀g,(∀b o,s.heap.get? b=some o->(d.get? b≠none\/H b≠none)->b∉kX (c::outer)->g.get? b=some o) ->
   (∀b o,s.heap.get? b=some o->b∈kX (c::outer)->∃sl,g.get? b=some {o with slots:=sl}) ->
   ExcAt d g H x C->Q () {s with heap:=g}):
  wpAny M A (noteFrame (.ref x) c) (λ_ s2=>wpAny M A (setFlight (.ref x) none) Q E s2) E s:=by
 refine qq λqz=>?_;obtain⟨oe,vs,J,hc,K,n,p,i⟩:=hx;apply qz;have go:∀(f:List Addr)(P:x∈f)(i:∀b∈f,H b=none/\d.get? b=none)(g:Heap),Heap.Left (PySem.W.hideAll s.heap (f++kX (c::outer))) (c::outer) x C s.heap g->Q () {s with heap:=g}:=by
  intro f P i g m;obtain⟨k1,k2,k3,k4⟩:=m;have kept:∀b o,s.heap.get? b=some o->(d.get? b≠none\/H b≠none)->b∉kX (c::outer)->g.get? b=some o:=λb o e k hn=>by
   refine k1 b o (PySem.W.hideAll_get _ e λN=>?_);rcases List.mem_append.mp N with z|z
   ·obtain⟨z1,z2⟩:=i b z;rcases k with q|q
    ·exact q z2
    ·exact q z1
   ·exact hn z
  refine h g kept (λb o e k=>?_) ?_
  ·refine qq λqz=>?_;obtain⟨_,o',y,j⟩:=hl.mem k;apply qz;rw[e]at y;cases y;exact k4 b o e j
  ·refine qq λqz=>?_;obtain⟨R,S,T,oT,ts,U,W,X,Y,B,Z,hT,D,O⟩:=k3;apply qz;have F:H T=none/\d.get? T=none:=by
    by_cases N:T∈f++kX (c::outer)
    ·rcases List.mem_append.mp N with z|z
     ·exact i T z
     ·obtain⟨_,o',y,j⟩:=k2.mem z;rw[hT]at y;cases y;exact absurd D (j ts)
    ·have no:s.heap.get? T=none:=by
      cases q:s.heap.get? T with
      |none=>rfl
      |some o=>
       rw[PySem.W.hideAll_get _ q N]at B;cases B
     refine⟨?_,?_⟩
     ·cases q:H T with
      |none=>rfl
      |some o=>
       obtain⟨u,G⟩:=hH T o q;rw[no]at G;cases G
     ·cases q:d.get? T with
      |none=>rfl
      |some o=>
       obtain⟨u,G⟩:=h0 T o q;rw[no]at G;cases G
   exact⟨R,S,U,W,X,n,p,.inr ⟨T,oT,ts,Y,Z,hT,D,O,F.1,F.2⟩⟩
 have ff:∀f:List Addr,s.heap.FunFrames (PySem.W.hideAll s.heap (f++kX (c::outer))) (c::outer):=λf=>PySem.W.funFrames_hide hl λa3 r a h2=>List.mem_append_right _ (vU r h2);have stays:∀f:List Addr,(PySem.W.hideAll s.heap (f++kX (c::outer))).StaysIn s.heap:=λf b o q=>PySem.W.of_hideAll _ q;have t:∀(f:List Addr)(b:Addr),b∈f->(PySem.W.hideAll s.heap (f++kX (c::outer))).get? b=none:=λf b k=>PySem.W.hideAll_none _ (List.mem_append_left _ k);rcases i with r|⟨Tr,a4,tv,r,a0,v,hdTr,O,a1,a2⟩
 ·unfold noteFrame;simp only[I];refine wpAny_bind (wpAny_field (s:=s) J K r ?_);rw[if_neg (by decide:¬((Value.none !=Value.none)=true))];refine wpAny_newEntry w (ff [x]) I J (stays [x]) (t [x] x (by simp)) K (Array.getElem?_eq_some_iff.mp r).1 λg m=>go [x] (by simp) (λb k=>?_) g (by rw[<-hc];exact m);have e:b=x:=by simpa using k
  subst e;exact⟨n,p⟩
 ·unfold noteFrame;simp only[I];refine wpAny_bind (wpAny_field (s:=s) J K r ?_);rw[if_pos (by simp:(Value.ref Tr !=Value.none)=true)];refine wpAny_bind (wpAny_field (s:=s) v hdTr O ?_);rw[if_neg (by simp[rawInt]:¬((Value.none==rawInt L)=true))];refine wpAny_bind (wpAny_setField (s:=s) v hdTr (Array.getElem?_eq_some_iff.mp O).1 ?_);have l:∀b,b≠Tr->(s.heap.update Tr (Obj.mapFields (·.setIfInBounds 3 Value.none))).get? b=s.heap.get? b:=λb nb=>Heap.get?_update_other _ _ (Ne.symm nb);have nT:∀b u,s.heap.get? b=some u->(∀vs,u.data≠ .fields vs)->b≠Tr:=λb u q j z=>by
   rw[z,v]at q;cases q;exact j tv hdTr
  refine wpAny_newEntry w ((ff [x,Tr]).of_keeps λb u q j=>⟨u,(l b (nT b u q j)).trans q,rfl⟩) I ((l x (Ne.symm a0)).trans J) (λb u q=>(l b λz=>?_).trans (stays [x,Tr] b u q)) (t [x,Tr] x (by simp)) K (Array.getElem?_eq_some_iff.mp r).1
   λg m=>go [x,Tr] (by simp) (λb k=>?_) g ⟨m.1,m.2.1,by rw[<-hc];exact m.2.2.1,λb u q j=>m.2.2.2 b u ((l b (nT b u q j)).trans q) j⟩
  ·rw[z,t [x,Tr] Tr (by simp)]at q;cases q
  ·have e:b=x\/b=Tr:=by simpa using k
   rcases e with e|e
   ·subst e;exact⟨n,p⟩
   ·subst e;exact⟨a1,a2⟩
theorem sJ{M:Model}{A:Around}{E:Value->Shared->Prop}{s:Shared}{base h₀:Heap}{a:Env}{outer:List Env}{L x:Addr}{C:Value}{H:Hp}{Q:Unit->Shared->Prop}
  (d:A.frames=some (a::outer)) (e:s.heap.FunFrames base (a::outer)) (f:a.frame=some L) (g:ExcAt h₀ s.heap H x C)
  (i:∀b o,h₀.get? b=some o->∃u,s.heap.get? b=some u) (j:∀b o,H b=some o->∃u,s.heap.get? b=some u)
  (h:∀c,(∀b o,s.heap.get? b=some o->(h₀.get? b≠none\/H b≠none)->b∉kX (a::outer)->c.get? b=some o) ->
   (∀b o,s.heap.get? b=some o->b∈kX (a::outer)->∃k,c.get? b=some {o with slots:=k}) ->
   ExcAt h₀ c H x C->Q () {s with heap:=c}):
  wpAny M A (leaving a (.ref x)) Q E s:=wpAny_bind (xO d e f g i j h)
noncomputable def eV(P:Program)(w:World):xB:=λouter H s E e a=>
 ∃(x:Addr)(C:Value)(b:Hp),e= .ref x/\a.os=s.os/\AllBare a.gens/\Un (kX outer) [] H b s.heap a.heap/\HOk P w b a.heap/\ExcAt s.heap a.heap b x C/\E C none b
theorem aP{P:Program}{w:World}{X:Cx}:nB (eV P w) X E0:=λ_ _ _ _ _ _ _ ⟨_,_,_,_,_,_,_,_,_,h⟩=>h.elim
section
variable{P:Program}{w:World}{K:PySem.W.Frag}{mg:Str->Option Value}{base:Heap}
theorem Co{X:Cx}{pins:List (Addr×Obj)}{i:L2.St}{d:Hp}{f:Shared}{g c:Heap}(h:Inv X pins i d f)
  (k:∀b o,f.heap.get? b=some o->(c.get? b≠none\/d b≠none)->b∉kX X.stack->g.get? b=some o):HOk X.prog X.w d g:=λa o e=>
 (h.hok a o e).stay (λb u j q=>by
  have t:d b≠none:=by
   rcases j with z|z
   ·rw[z,e];simp
   ·rw[z];simp
  exact k b u q (.inr t) λl=>t (h.stkFree b l)) (λ_ q=>q) λ_ _ q=>q
theorem gA{N:List Str}{qual:Str}{scope:Scope}{f:Addr}{g:Value}{A:Around}{outer:List Env}{a:Shared}{h:Hp}{E:XK}:
  nB (eV P w) (mT (eV P w) P w K mg base N qual scope f g A outer a h E) E:=by
 intro pins J H s e F I L;refine qq λqz=>?_;obtain⟨x,C,t,rfl,M,O,u,k,Q,R⟩:=L;apply qz;have c:Inv (mT (eV P w) P w K mg base N qual scope f g A outer a h E) pins J t F:=I.call' M u k O (λb z=>absurd z (by simp));have there:∀b o,a.heap.get? b=some o->∃m,s.heap.get? b=some m:=λb o e=>I.base.there b o e (by intro z;exact absurd (show b∈([]:List Addr)from z) (by simp));show wpAny (model P w) _ (leaving _ (.ref x)) _ _ F;refine sJ (h₀:=s.heap) (H:=t) (C:=C) (base:=base) c.ok.frames c.stack rfl Q (λb o e=>u.there b o e (by simp)) (λb o e=>vQ (k b o e)) λZ v G y=>?_;have d:∀b:Addr,b∉(mT (eV P w) P w K mg base N qual scope f g A outer a h E).ex:=λb z=>absurd (show b∈([]:List Addr)from z) (by simp);have B:∀b o,a.heap.get? b=some o->b∉kX outer->b∉kX (envOfC qual scope a.heap.objs.size f g::outer):=λb o e i p=>by
  rcases List.mem_cons.mp (c.stkSub b p)with z|z
  ·exact absurd (z▸Heap.lt_size e) (Nat.not_lt.mpr c.ok.above)
  ·exact i z
 refine⟨x,C,t,rfl,c.os,c.bare,⟨λb o e n i _=>?_,λb o e n i _=>?_,λb o e n _=>c.base.free b o e n (d b),λb o e _=>?_,c.base.tups,c.base.frzs,c.base.tbls⟩,Co c v,y.older (λb q=>?_),R⟩
 ·obtain⟨m,j⟩:=there b o e;exact v b o (c.base.keep b o e n i (d b)) (.inl (by rw[j];simp)) (B b o e i)
 ·obtain⟨S,r⟩:=c.base.slot b o e n i (d b)
  obtain⟨l,D⟩:=G b _ r (by
   obtain⟨T,U,W⟩:=List.mem_filterMap.mp i
   exact vU (List.mem_cons_of_mem _ U) W)
  exact⟨l,D⟩
 ·obtain⟨X,r⟩:=c.base.there b o e (d b);by_cases p:b∈kX (envOfC qual scope a.heap.objs.size f g::outer)
  ·obtain⟨l,D⟩:=G b _ r p;exact⟨_,D⟩
  ·obtain⟨m,j⟩:=there b o e;exact⟨_,v b X r (.inl (by rw[j];simp)) p⟩
 ·cases Y:a.heap.get? b with
  |none=>rfl
  |some o=>
   obtain⟨m,j⟩:=there b o Y;rw[q]at j;cases j
theorem Qp{x qual:Str}{d:Stmt}{f:Addr}{l:FuncData}{N e:List Str}{k:Nat}{g:Sp}(F:Fun K x qual d f l)(S:FnScope N e (aG d))(h:∀b H Q E,g b H Q E->b.length=e.length)
  (c:∀(a:Value)(A:Around)(outer:List Env)(s:Shared)(H:Hp)(b:List V)(Q:VK)(E:XK),Room k (A.deeper (envOfC qual (aG d) s.heap.objs.size f a))->g b H Q E ->
   ∃t,PSs (mT (eV P w) P w K mg base N qual (aG d) f a A outer s H E) (aR d) t/\t {nx:=λ_ m=>Q .non m,rt:=Q} (start N b) H):FnOk P w K mg base (eV P w) (k+1) f l e g:=by
 refine qq λqz=>?_;obtain⟨r,u,kV,n,v,y,a,z,o,rfl,p,i⟩:=F.ex;apply qz;exact Ez p i S h λA outer s H b Q E q j=>c a A outer s H b Q E q j
end
end Lx
namespace Lx
open PySem PySem.Spec PyProof.Rows L2
noncomputable abbrev Oo:List Value:=[.type "ValueError",.type "Exception",.type "BaseException",.type "object"]
theorem Ce{K:PySem.W.Frag}{h:Heap}{C:Addr}{b:List Value}{newId:String}(i:K.In h)(q:PySem.W.excIn K C b newId=true):
  ∃o N t u v c w j x k y k0 k1 k2 k3 k5 p,h.get? C=some (excClassObj t u C N v o c w j x k y k0 k1 k2 k3 k5 newId)/\h.Ns N p/\p "__init__"=none/\OwnTail h b o:=by
 unfold PySem.W.excIn at q;split at q
 ·rename_i dct d e a
  split at q
  ·rename_i Cx l z A B D T E f g
   simp only[Bool.and_eq_true,beq_iff_eq,Bool.not_eq_true']at q;refine qq λqz=>?_;obtain⟨⟨⟨⟨⟨F,G⟩,r⟩,H⟩,m⟩,s⟩:=q;apply qz;subst F;subst G;refine qq λqz=>?_;obtain⟨I,J,U,L,M,O,P,Q,R,n,S⟩:=d;apply qz;dsimp only at f r m s;subst f;subst r;obtain⟨W⟩:=e;dsimp only at g;subst g;exact⟨l,L,I,M,J,O,P,Q,R,n,dct,z,A,B,D,E,_,i _ _ a,.of_isNs (PySem.W.isNs_of_in i m),PySem.W.nsMap_none_of_in i m s,PySem.W.tail_of_in i H⟩
  ·cases q
 ·cases q
structure ExcCl(K:PySem.W.Frag)(mg:Str->Option Value)(x:Str)(C:Addr):Prop where
 ex:PySem.W.excIn K C Oo "ValueError.__new__"=true
 mgx:mg x=some (.ref C)
noncomputable def yQ(E:XK)(C:Addr)(t:TA):TS:=λ_ a H=>t a H λb c=>b.length<=sizeLine/\E (.ref C) none c
section
variable{X:Cx}{P:Program}{w:World}{E:XK}{x:Str}{C:Addr}{np cpos pos:Pos}{e:Expr}{es:List Expr}{t:TA}
theorem hU(O:ExcCl X.K X.mg x C)(v:X.A.handled=none)(A:nB (eV X.prog X.w) X E)(B:Gl X x)(F:PA X (e::es) t)(G:(x==("__debug__":Str))=false:=by decide)
  (m:starEach (e::es) X.env=(false,eval e X.env)::starEach es X.env:=by rfl) (i:(backTo cpos (starEach es X.env)).any (·.1)=false:=by rfl):
  PS X (.Raise (some (.Call (.Name x np) (e::es) [] cpos)) none pos) (yQ E C t):=by
 intro pins s n H D I h;refine qq λqz=>?_;obtain⟨bm,N,nm,J,bs,hdct,sn,sub,ab,col,dd,k0,k1,k2,k3,k5,mN,K,L,j,T⟩:=Ce I.ok.mod.kin O.ex;apply qz;refine wpAny_Raise_call_subU (C:=C) (nm:=nm) (q:=J) (N:=N) (bs:=bs) (bm:=bm) (hdct:=hdct) (sn:=sn) (sub:=sub) (ab:=ab) (col:=col) (dd:=dd) (k0:=k0) (k1:=k1) (k2:=k2) (k3:=k3) (k5:=k5)
  PySem.F.excBase_ValueError (by decide +kernel) PySem.F.excBase_ValueError (mN:=mN) (T.hasType PySem.F.excBase_ValueError.hasBase) v (by rw[m];show(false||(backTo cpos (starEach es X.env)).any (·.1))=false;rw[i];rfl) j (qV I B O.mgx ⟨rfl,?_⟩ G)
 have d:=eP (F cpos pins s n H _ I h) (Q':=λg c=>g.length<=sizeLine/\(∀b o,X.base.get? b=some o->c.heap.get? b=some o)/\∀k e,Heap.MadeExcOf c.heap k e (.ref C) g->X.xe (.ref e) {c with heap:=k}) (λS Q ⟨g,l,f,r,z,q⟩=>⟨by rw[<-r.length];exact z,f.bk,λk e M=>?_⟩)
 ·rw[m]at d⊢;exact Calls.evalArgs_plain (wpAny_mono d (λg c a=>⟨rfl,a.1,a.2.1 _ _ K,L.keeps a.2.1,T.keeps a.2.1,a.2.2⟩) λ_ _ y=>y)
 ·refine A pins n l Q (.ref e) _ f ⟨e,.ref C,l,rfl,rfl,f.bare,Un.kept M.keeps,f.hok.kept M.keeps,?_,q⟩;refine qq λqz=>?_;obtain⟨U,R,W,Y⟩:=M.there;apply qz;refine⟨_,_,R,rfl,rfl,?_,M.new,.inl rfl⟩;cases z:l e with
  |none=>rfl
  |some o=>
   obtain⟨u,p⟩:=vQ (f.hok e o z);rw[M.new]at p;cases p
end
noncomputable abbrev XS:=L2.St->XK
noncomputable abbrev Pj:=Ends->XS->L2.St->Hp->Prop
section
variable{X:Cx}{st:Stmt}{rest:List Stmt}{t u:Pj}{pos:Pos}
variable{k:Nat}{f:Addr}{fd:FuncData}{ps:List Str}{sp:Sp}{x:Str}{p:Pos}{e:Expr}{es:List Expr}{ta:TA}
end
end Lx
namespace Lx
open PySem PySem.Spec PyProof.Rows L2
section
variable{X:Cx}{pins:List (Addr×Obj)}{σ:L2.St}{H:Hp}{s:Shared}{x:Addr}
structure Old(X:Cx)(pins:List (Addr×Obj))(h₁:Heap):Prop where
 s0:∀b o,X.s₀.heap.get? b=some o->b∉X.ex->∃u,h₁.get? b=some u
 lo:∃u,h₁.get? X.env.locals=some u
 pn:∀p∈X.pn++pins,∃u,h₁.get? p.1=some u
 ce:∀x c,X.env.cells.lookup x=some c->∃u,h₁.get? c=some u
end
section
variable{X:Cx}
end
end Lx
namespace Lx
open PySem PySem.Spec PyProof.Rows L2
theorem wY{i:Int}{n:Nat}(h:i.natAbs<2^n):Builtin.Int.intBits i<=n:=by
 unfold Builtin.Int.intBits;split
 ·exact Nat.zero_le _
 ·rcases Nat.eq_zero_or_pos i.natAbs with b|c
  ·rename_i a
   exact absurd (Int.natAbs_eq_zero.mp b) (by simpa using a)
  ·have:=(Nat.log2_lt (Nat.ne_of_gt c)).mpr h
   lia
noncomputable def Wee(i:Int):Prop:=i.natAbs<2^8000
theorem Wee.bits{i:Int}(h:Wee i):Builtin.Int.intBits i<=8000:=wY h
theorem cF{i j:Int}(a:Wee i)(b:Wee j):IntMulOk i j:=IntMulOk.of_le a.bits b.bits (by decide)
theorem sG{i j:Int}(a:Builtin.Int.intBits i<=10000000)(b:Wee j):IntMulOk i j:=IntMulOk.of_le a b.bits (by decide)
theorem uW{i:Int}(h:Wee i):i.natAbs.log2<9000:=by
 rcases Nat.eq_zero_or_pos i.natAbs with a|b
 ·rw[a];decide
 ·have:=(Nat.log2_lt (Nat.ne_of_gt b)).mpr h
  lia
noncomputable def Nr(i j:Int):Prop:=IntMulOk i j
noncomputable def xC(i j:Int):Prop:=0<j/\Wee j
noncomputable def Nt(i j:Int):Prop:=j≠0/\Wee j
section
variable{X:Cx}
theorem bG:OpR X (binaryOp .Mult) (rI Nr λi j=>.int (i*j)):=Lj λ_ _ _ _ _ _ _ a q=>mul_int q a
theorem sC:OpR X (binaryOp .FloorDiv) (rI Nt λi j=>.int (i.fdiv j)):=Lj λ_ _ _ _ _ _ _ a q=>floordiv_int a.1 q (.inl (PyProof.noPylong_of_log2 (uW a.2)))
theorem cS:OpR X (binaryOp .FloorDiv) (rI xC λi j=>.int (i/j)):=Lj λi j _ _ _ _ _ a q=>by
 have b:(0:Int)<j:=a.1;refine floordiv_int (Int.ne_of_gt b) ?_ (.inl (PyProof.noPylong_of_log2 (uW a.2)));rw[Int.fdiv_eq_ediv_of_nonneg _ (Int.le_of_lt b)];exact q
end
theorem bits_of_lay{a:List Int}(h:PySem.W.WData.layableAll [PySem.W.WData.list (a.map PySem.W.WData.int)]=true):∀v∈a,Builtin.Int.intBits v<=1048576:=λv c=>by
 have d:=PySem.W.layableW_arg h _ (List.mem_singleton.mpr rfl);have f:=PySem.W.layableW_item d (PySem.W.WData.int v) (List.mem_map.mpr ⟨v,c,rfl⟩);obtain⟨_,_,b⟩:=PySem.W.layableW_iff.mp f;have e:(2:Nat)^20=1048576:=by decide
 rw[e]at b;simpa only[PySem.W.WData.weight,Builtin.Int.intBits]using b
end Lx
namespace Att
open PySem PySem.W PySem.Calls PyProof.Rows
theorem attachB{l:OpenLaw}{n:Nat}{q:Program}{loose:List Str}{B:(Str->Option Value)->Heap->Prop}{C:World->Heap->Prop}{d:DefRec}
  (E:l.most=some n) (t:d.params.defaults=[])
  (call:∀(w:World)(c b:Shared)(m u:Str->Option Value)(h:Addr)(o:Obj)(x p e:Value)(a:Addr)(g:List Value)(i:List Int),
   Ground q loose [] B w c m u b.heap->C w b.heap ->
   b.heap.get? h=some o->o.data= .func (docDef d.name d.params d.body d.scope x p e)->b.heap.CodeRec p d.name->m d.name=some (.ref h) ->
   b.heap.get? a=some {cls:=.type "list",data:=.seq g.toArray}->IntsAre g i->i.length<=n->(∀v∈i,Builtin.Int.intBits v<=1048576)->b.gens=#[] ->
   codeAny (model l.prog w) callerA (.call (.ref h) ⟨[.ref a],[]⟩) (λr s=>r= .ok (.ret (.bool true))/\OldK b.heap s.heap/\s.os=b.os/\AllBare s.gens) b):
  WalkO q loose B C l.row.toRowW d [] (λf g=>PySem.call f g):=by
 intro w c b m u G Y h o x p e F kV H I y D z J args vals R j k K A L;refine qq λqz=>?_;obtain rfl:F= .none:=Dflts.none D t;obtain rfl:kV= .none:=Dflts.noKw D;obtain⟨a,g,i,rfl,rfl,hobj,hints,hlen⟩:=nX E j A;apply qz;refine enter_call (codeAny_mono (call w c b m u h o x p e a g i G Y H (fd_plain I) y z hobj hints hlen (Lx.bits_of_lay k) J) λr s M=>?_);refine qq λqz=>?_;obtain⟨rfl,N,O,P⟩:=M;apply qz;exact⟨.inl ⟨.bool true,.bool true,[],rfl,λ_=>rfl,.bool true,nY l _,λ_=>⟨List.Pairwise.nil,λ_ Q=>(nomatch Q)⟩⟩,N,O,P⟩
end Att
namespace Lx
open PySem PySem.Spec PyProof.Rows L2
noncomputable def vF(K:PySem.W.Frag):Sp:=λc H Q _=>∃(a:Addr)(b:List Int),c=[.ref a]/\SqL K H a (b.map V.int)/\b.length<=63/\(∀v∈b,Builtin.Int.intBits v<=1048576)/\Dt H/\∀d,Q (.bl true) d
theorem walkB{l:PySem.W.OpenLaw}{k:Nat}{q:Program}{loose:List Str}{y:(Str->Option Value)->Heap->Prop}{p:World->Heap->Prop}{d:DefRec}{K:Params->PySem.W.Frag}
  (z:l.most=some 63) (j:d.params.defaults=[]) (A:Room k callerA)
  (B:∀(w:World)(h:Heap),p w h->(K w.params).In h)
  (F:∀(w:World)(c:Str->Option Value)(i:Addr)(h:Heap),(K w.params).In h->h.Ns mainGlobals c->c d.name=some (.ref i) ->
   ∃m:FuncData,(∀(s:Shared)(u:Value),BindsTo s m ⟨[u],[]⟩ [("script",u)])/\
    ∀base:Heap,(K w.params).In base->base.Ns mainGlobals c->FnOk l.prog w (K w.params) c base (eV l.prog w) k i m ["script"] (vF (K w.params))):
  PySem.W.WalkO q loose y p l.row.toRowW d [] (λf r=>PySem.call f r):=by
 refine Att.attachB z j λw t v c O i o P Q C a r D G Y R S E n g hints hlen b I=>?_;have x:=B w _ Y;refine qq λqz=>?_;obtain⟨m,J,L⟩:=F w c i _ x G.T.g n;apply qz;exact sM x G.T.g G.T.b G.T.builtins G.T.nolimit I g hints (Nat.le_trans hlen (by decide)) A L J (λH M N=>⟨a,D,rfl,N,hlen,b,M,λ_=>rfl⟩) λH e T ⟨_,_,_,_,_,_,_,_,_,h⟩=>h
end Lx
namespace Lx
open PySem PySem.Spec PyProof.Rows L2
section
variable{X:Cx}{tg:Expr}
end
end Lx
namespace Lx
open PySem PySem.Spec PyProof.Rows L2
section
variable{prog:Program}{w:World}{A:Around}{R:Result->Shared->Prop}{s:Shared}
theorem Cp{b target iter:Expr}{d:List Expr}{scope:Scope}{g:Pos}{i e:Value}{a:Env}(J:Nat->Shared->Prop)
  (turn:∀n s,J n s->∀f:Value->Shared->Prop,wpAny (model prog w) A (pyNext i) (λr j=>match r with
   |none=>R (.ok .next) j
   | some v=>wpAny (model prog w) A (letOwnedTupleGo target i v) (fun _ o=>wpAny (model prog w) A (assign target a v) (fun _ p =>
     wpAny (model prog w) A (forIn d true λc r=>if r=true then do let ok <-isTrue c a (eval c a);pure (ForInStep.yield ok)else pure (ForInStep.yield r)) (λok l=>
      if ok=true then wpAny (model prog w) A (eval b a) (λx q=>
       wpAny (model prog w) A (call (.builtin "list.append") [e,x]) (λ_ t=>∃m,m<n/\J m t) f q) f l
      else ∃m,m<n/\J m l) f p) f o) f j) f s)
  (n:Nat) (h:J n s):codeAny (model prog w) A (.compLoop (.ListComp b [⟨target,iter,d,0⟩] scope g) 0 i e a) R s:=by
 refine codeAny_loop rfl J (λk u D=>?_) n h;show wpAny _ A ((compTurn (.ListComp b [⟨target,iter,d,0⟩] scope g) 0 i e a).onRaise (λy=>do noteFrame y a;theTreesLotGoes y)) _ _ u;refine wpAny_noted ?_;rw[compTurn_list];refine wpAny_bind (wpAny_standAt (wpAny_bind (wpAny_mono (turn k u D _) (λr j B=>?_) λ_ _ z=>z)));cases r with
 |none=>exact wpAny_pure B
 |some v=>
  refine wpAny_bind (wpAny_mono B (λ_ o E=>wpAny_bind (wpAny_mono E (λ_ p F=>wpAny_bind (wpAny_mono F (λok l C=>?_) λ_ _ z=>z)) λ_ _ z=>z)) λ_ _ z=>z);cases ok with
  |false=>exact wpAny_pure ⟨rfl,C⟩
  |true=>exact wpAny_bind (wpAny_bind (wpAny_mono C (λx q G=>wpAny_bind (wpAny_mono G (λ_ t H=>wpAny_pure (wpAny_pure ⟨rfl,H⟩)) λ_ _ z=>z)) λ_ _ z=>z))
end
noncomputable def nK(X:Cx)(scope:Scope)(a:List (Str×Addr))(b:List Str)(C:Addr)(s₀:Shared)(H₀:Hp)(c:List Addr):Cx where
 prog:=X.prog
 w:=X.w
 K:=X.K
 mg:=X.mg
 base:=X.base
 A:=X.A
 N:=b
 s₀:=s₀
 H₀:=H₀
 env:=compEnvC scope a C X.env
 outer:=X.stack
 stack:=X.stack
 ex:=c
 fn:=λ_=>false
 calm:=X.calm
 pn:=[]
 xe:=λ_ _=>False
noncomputable def CapsOk(X:Cx)(scope:Scope)(a:List (Str×Addr)):List (Option Nat)->List Str->Prop
 |[],[]=>True
 |none::b,_::d=>CapsOk X scope a b d
 |some i::b,y::d=>(∃c,X.N[i]? =some y/\X.env.scope.names.lookup y=some .cell/\a.lookup y=some c/\X.env.cells.lookup y=some c/\(relabel scope X.env).names.lookup y=some .cell)/\CapsOk X scope a b d
 |_,_=>False
theorem CapsOk.at{X:Cx}{scope:Scope}{b:List (Str×Addr)}:∀{cs:List (Option Nat)}{ns:List Str}{j i:Nat}{y:Str},CapsOk X scope b cs ns->cs[j]? =some (some i)->ns[j]? =some y ->
  ∃c,X.N[i]? =some y/\X.env.scope.names.lookup y=some .cell/\b.lookup y=some c/\X.env.cells.lookup y=some c/\(relabel scope X.env).names.lookup y=some .cell
 |[],_,j,i,y,_,e,_=>by simp at e
 |none::cs,[],_,_,_,h,_,_=>False.elim h
 |some _::cs,[],_,_,_,h,_,_=>False.elim h
 |none::cs,_::ns,0,i,y,h,e,_=>by simp at e
 |none::cs,_::ns,j+1,i,y,h,e,a=>CapsOk.at (cs:=cs) (ns:=ns) (j:=j) h (by simpa using e) (by simpa using a)
 |some k::cs,z::ns,0,i,y,h,e,a=>by
  have d:k=i:=by simpa using e
  have f:z=y:=by simpa using a
  subst d;subst f;exact h.1
 |some k::cs,z::ns,j+1,i,y,h,e,a=>CapsOk.at (cs:=cs) (ns:=ns) (j:=j) h.2 (by simpa using e) (by simpa using a)
theorem CapsOk.len{X:Cx}{scope:Scope}{a:List (Str×Addr)}:∀{cs:List (Option Nat)}{ns:List Str},CapsOk X scope a cs ns->cs.length=ns.length
 |[],[],_=>rfl
 |[],_::_,h=>False.elim h
 |none::cs,[],h=>False.elim h
 |some _::cs,[],h=>False.elim h
 |none::cs,_::ns,h=>congrArg (·+1) (CapsOk.len (cs:=cs) (ns:=ns) h)
 |some _::cs,_::ns,h=>congrArg (·+1) (CapsOk.len (cs:=cs) (ns:=ns) h.2)
noncomputable def capσ(a:List (Option Nat))(b:L2.St):L2.St:=a.map λo=>o.bind λi=>(b[i]?).bind id
noncomputable def Nk(X:Cx)(a:List Expr)(t:TT):Prop:=
 ∀(pins:List (Addr×Obj))(s:Shared)(b:L2.St)(H:Hp)(Q:Bool->Hp->Prop),Inv X pins b H s->t b H Q ->
  wpAny (model X.prog X.w) X.A (forIn a true λc r=>if r=true then do let ok <-isTrue c X.env (eval c X.env);pure (ForInStep.yield ok)else pure (ForInStep.yield r)) (TP X pins b Q) X.xe s
noncomputable def Ke:TT:=λ_ H Q=>Q true H
theorem dB{X:Cx}:Nk X [] Ke:=λ_ _ _ H _ I h=>wpAny_tests_nil ⟨H,I,h⟩
theorem vK{X:Cx}{c:Expr}{t:TT}(h:PT X c t):Nk X [c] t:=λpins s a H Q I q=>wpAny_tests_one (h pins s a H Q I q)
noncomputable def Oq(q:TI)(h:List (Option Nat))(g:TG)(r:TT)(s:TE):TE:=λk H Q=>q k H λJ l=>∀D,l D=none ->
 ∃W:Nat->Nat->L2.St->Hp->Prop,(∃m,W 0 m (capσ h k) (eO l D (.lst [])))/\∀i m c d,W i m c d ->
  (J.stop i d/\Q (.ref D) d)\/(J.go i d/\∃N:L2.St->Hp->Prop,(∀e f,N e f->∃n,n<m/\W (i+1) n e f)/\∀x f,J.yld i d x f->g x c f λa t=>r a t λb o=>
   if b=true then s a o λy p=>∃j,p D=some (.lst j)/\j.length<sizeLine/\N a (eO p D (.lst (j++[y])))else N a o)
structure LcOk(X:Cx)(scope:Scope)(cl:List (Str×Addr))(cap:List (Option Nat))(NC:List Str):Prop where
 clos:closureFor scope X.env=pure cl
 kind:scope.kind= .function
 nocell:∀x∈scope.names,x.2≠ .cell
 names:∀x∈scope.names,x.2= .local->scope.names.lookup x.1=some .local
 caps:CapsOk X scope cl cap NC
 cells:∀p∈cl,X.env.cells.lookup p.1=some p.2
 has:((relabel scope X.env).names.all λp=>(p.2 != .cell && p.2 != .free)||(cl.lookup p.1).isSome)=true
section
variable{X:Cx}{elt target iter:Expr}{ifs:List Expr}{scope:Scope}{pos:Pos}{wi:TI}{cap:List (Option Nat)}{NC:List Str}{cl:List (Str×Addr)}{g:TG}{tt:TT}{te:TE}
theorem gC(L:LcOk X scope cl cap NC){x:Str}{c:Addr}(h:cl.lookup x=some c):X.env.cells.lookup x=some c:=L.cells (x,c) (PySem.mem_of_lookup h)
theorem sL{pins:List (Addr×Obj)}{S:L2.St}{a:Shared}{Q:Hp}{it:Addr}{H:List Addr}{tn:Nat->Heap->Prop}{J:It}{Z:Value->Addr->Result->Shared->Prop}{G:V->Hp->Prop}
  (hc:X.calm=true) (L:LcOk X scope cl cap NC) (hg:∀C I K H,PG (nK X scope cl NC C I K H) target g) (ht:∀C I K H,Nk (nK X scope cl NC C I K H) ifs tt) (he:∀C I K H,PE (nK X scope cl NC C I K H) elt te)
  (I2:Inv X pins S Q a) (T:Turn X.prog X.w X.K target J H it tn) (a3:tn 0 a.heap) (f2:∀b∈H,gT X pins Q b)
  (hW:∀D,Q D=none->∃W:Nat->Nat->L2.St->Hp->Prop,(∃m,W 0 m (capσ cap S) (eO Q D (.lst [])))/\∀i m s t,W i m s t ->
   (J.stop i t/\G (.ref D) t)\/(J.go i t/\∃N:L2.St->Hp->Prop,(∀U H',N U H'->∃m',m'<m/\W (i+1) m' U H')/\∀x H',J.yld i t x H'->g x s H' λa4 Q=>tt a4 Q λb H3=>
    if b=true then te a4 H3 λy H4=>∃ys,H4 D=some (.lst ys)/\ys.length<sizeLine/\N a4 (eO H4 D (.lst (ys++[y])))else N a4 H3))
  (hZ:∀(D C:Addr)(t:Hp)(s':Shared)(m:Str->Option Value),s'.heap.Ns C m->(∀h',Heap.SameBut C s'.heap h'->∀t',Inv X pins S t {s' with heap:=h',toks:=t'})->gT X pins t C->G (.ref D) t->Z (.ref D) C (.ok .next) s') {E:Value->Shared->Prop}:
  wpAny (model X.prog X.w) X.A (newList []) (λa9 M=>wpAny (model X.prog X.w) X.A (newFunctionEnv scope X.env.globals cl [] X.env.qual none .none (some X.env)) (λa6 b0=>
   codeAny (model X.prog X.w) X.A (.compStart (.ListComp elt [⟨target,iter,ifs,0⟩] scope pos) 0 (.ref it) a9 {a6 with scope:=relabel scope X.env}) (Z a9 a6.locals) b0) E M) E a:=by
 refine wpAny_newObj_type (wpAny_newFunctionEnv L.nocell (by intro y hy;simp at hy) (λa0 B F=>?_) L.kind);dsimp only at B F⊢;have nD:Q a.heap.objs.size=none:=I2.hok.fresh (Nat.le_refl _);have A:Inv X pins S (eO Q a.heap.objs.size (.lst [])) {a with heap:=a.heap.push {cls:=.type "list",dict:=none,data:=.seq ([]:List Value).toArray}}:=by
  refine I2.laid (t':=a.toks) (λb u e=>Heap.get?_push_of_some _ e) (Nat.le_refl _) ?_;exact⟨Nat.zero_le _,[],0,.nil,Heap.get?_push_size _ rfl⟩
 refine qq λqz=>?_;obtain⟨W,⟨m0,w0⟩,turn⟩:=hW a.heap.objs.size nD;apply qz;generalize hD:a.heap.objs.size=D at nD A turn w0⊢;generalize hH:a.heap.push {cls:=.type "list",dict:=none,data:=.seq ([]:List Value).toArray}=w at B F A⊢;have P:∀b o,a.heap.get? b=some o->w.get? b=some o:=λb o e=>by rw[<-hH];exact Heap.get?_push_of_some _ e
 generalize hC:w.objs.size=C at B F⊢;have h:∀b o,w.get? b=some o->b≠C:=λb o e z=>by
  have:=Heap.lt_size e;rw[hC,<-z]at this;exact Nat.lt_irrefl _ this
 have O:∀b o,w.get? b=some o->a0.get? b=some o:=λb o e=>F.extBut b o (h b o e) (Heap.get?_push_of_some _ e);have f3:∀b∈H,gT X pins (eO Q D (.lst [])) b:=λb f=>by
  obtain⟨x1,x2⟩:=f2 b f;obtain⟨o,e,_⟩:=T.obj 0 _ a3 b f;refine⟨?_,x2⟩;rw[bE (λz=>by have:=Heap.lt_size e;rw[z,<-hD]at this;exact Nat.lt_irrefl _ this)];exact x1
 have b1:∀b∈H,b≠C:=λb f=>by
  obtain⟨o,e,_⟩:=T.obj 0 _ a3 b f;exact h b o (P b o e)
 have c2:∀x c,cl.lookup x=some c->c≠C:=λx c e=>by
  obtain⟨v,o,ho,_⟩:=A.cell x c (gC L e);exact h c o ho
 let Y:Cx:=nK X scope cl NC C {a with heap:=w} (eO Q D (.lst [])) H
 have b4:(eO Q D (.lst [])) C=none:=A.hok.fresh (by show w.objs.size<=C;rw[hC];exact Nat.le_refl _);have a7:Y.Ok:=by
  refine⟨A.ok.mod,by show(relabel scope X.env).kind=_;exact L.kind,A.ok.glob,A.ok.blt,by show w.objs.size<=C;rw[hC];exact Nat.le_refl _,λx y c e1 e2=>A.ok.inj x y c (gC L e1) (gC L e2),λx hx=>?_,λx c z=>(by cases z),A.ok.hd,A.ok.frames,.inl rfl,λb f=>⟨b1 b f,λx c e=>(f3 b f).2.2.2.2.1 x c (gC L e)⟩,A.bs,Nat.le_trans A.ok.bsz A.sz,λb o e f=>?_,λb f hm=>?_,A.stack,A.stkFree⟩
  ·have b5:∃k,(x,k)∈(relabel scope X.env).names/\(k= .cell\/k= .free):=by
    rcases hx with z|z
    ·exact⟨_,PySem.mem_of_lookup z,.inl rfl⟩
    ·exact⟨_,PySem.mem_of_lookup z,.inr rfl⟩
   obtain⟨k,hk,b6⟩:=b5;have q:=List.all_eq_true.mp L.has (x,k) hk;have q2:(cl.lookup x).isSome=true:=by
    rcases b6 with z|z
    ·subst z;simpa using q
    ·subst z;simpa using q
   exact Option.isSome_iff_exists.mp q2
  ·rcases(f3 b f).2.2.2.1 with z|z
   ·exact A.ok.noex b o e z
   ·exact absurd (Nat.lt_of_lt_of_le (Heap.lt_size e) (Nat.le_trans A.ok.bsz z)) (Nat.lt_irrefl _)
  ·rcases List.mem_cons.mp (A.stkSub b hm)with z|z
   ·exact(f3 b f).2.1 z
   ·exact(f3 b f).2.2.1 z
 have a1:∀{t:Hp},(∀b∈H,t b=none)->∀b∈H,gT Y [] t b:=λhn b f=>
  ⟨hn b f,b1 b f,a7.exfs b f,.inl f,λx c e=>(a7.exf b f).2 x c e,λp hp=>absurd (show p∈([]++[]:List (Addr×Obj))from hp) (by simp)⟩
 have back:∀{s:L2.St}{t:Hp}{s':Shared}{pn:List (Addr×Obj)},Inv Y pn s t s'->∀h',Heap.SameBut C s'.heap h'->∀t',Inv X pins S t {s' with heap:=h',toks:=t'}:=λ{s t s' pn} I' h' sb t'=>by
  have u:=I'.base;have nC:t C=none:=I'.free;refine A.call' (s':={s' with heap:=h',toks:=t'}) (ch:=H) I'.os ⟨λb o e n f hx=>?_,λb o e n f hx=>?_,u.free,λb o e hx=>?_,u.tups,u.frzs,u.tbls⟩ (λb o e=>?_) I'.bare (λb f=>⟨(f3 b f).2.2.2.1,(f3 b f).2.1,(f3 b f).2.2.2.2.1,(f3 b f).2.2.2.2.2⟩)
  ·exact(sb.2 b (h b o e)).trans (u.keep b o e n f hx)
  ·obtain⟨sl,q⟩:=u.slot b o e n f hx;exact⟨sl,(sb.2 b (h b o e)).trans q⟩
  ·obtain⟨o',q⟩:=u.there b o e hx;exact⟨o',(sb.2 b (h b o e)).trans q⟩
  ·refine(I'.hok b o e).stay (λc v b7 q=>(sb.2 c ?_).trans q) (λ_ q=>q) λ_ _ q=>q;rintro rfl;rcases b7 with z|z
   ·subst z;rw[nC]at e;cases e
   ·rw[nC]at z;cases z
 have b8:∀t',Inv Y [] (capσ cap S) (eO Q D (.lst [])) {a with heap:=a0,toks:=t'}:=λt'=>by
  refine⟨a7,rfl,A.bare,⟨λb o e _ _ _=>O b o e,λb o e _ _ _=>⟨o.slots,O b o e⟩,λ_ _ _ n _=>n,λb o e _=>⟨o,O b o e⟩,λ_ _ e=>e,λ_ _ _ e=>e,λb ps e=>⟨#[],by rw[show(eO Q D (.lst [])) b=_ from e];simp⟩⟩,⟨_,B,λj y v e1 e2 e3=>?_⟩,λy c e=>?_,b4,λy c e=>A.freeC y c (gC L e),λp hp=>absurd (show p∈([]++[]:List (Addr×Obj))from hp) (by simp),A.hok.kept O,by
   show(cap.map _).length=NC.length
   rw[List.length_map];exact L.caps.len⟩
  ·have R:(cap.map λo=>o.bind λi=>(S[i]?).bind id)[j]? =some (some v):=e2;rw[List.getElem?_map]at R;cases hq:cap[j]? with
   |none=>rw[hq]at R;cases R
   |some o=>
    rw[hq]at R;cases o with
    |none=>cases R
    |some i=>
     have e4:(S[i]?).bind id=some v:=by simpa using R
     have e5:S[i]? =some (some v):=by
      cases hs:S[i]? with
      |none=>rw[hs]at e4;cases e4
      |some z=>rw[hs]at e4;simpa using e4
     refine qq λqz=>?_;obtain⟨c,x1,x2,x3,x4,x5⟩:=L.caps.at hq e1;obtain⟨m,hn,hl⟩:=A.loc;obtain⟨u,r,l⟩:=hl i y v x1 e5 (.inr (.inl x2));apply qz;refine⟨u,r,.inr ⟨.inl x5,c,x3,?_⟩⟩;rcases l with⟨k,_⟩|⟨_,c',x6,z⟩
     ·have k':X.env.scope.names.lookup y=some .local:=k;rw[x2]at k';cases k'
     ·rw[x4]at x6;cases x6;obtain⟨o,ho,hd⟩:=z;exact⟨o,O _ _ ho,hd⟩
  ·refine qq λqz=>?_;obtain⟨v,o,ho,hd⟩:=A.cell y c (gC L e);apply qz;exact⟨v,o,O _ _ ho,hd⟩
 have loop:∀M:Shared,M={a with heap:=a0,toks:=a.toks+([]:List (Str×Value)).length} ->
   codeAny (model X.prog X.w) X.A (.compLoop (.ListComp elt [⟨target,iter,ifs,0⟩] scope pos) 0 (.ref it) (.ref D) (compEnvC scope cl C X.env)) (Z (.ref D) C) M:=by
  rintro M rfl;refine Cp (λn s'=>∃i s t,Inv Y [] s t s'/\tn i s'.heap/\(∀b∈H,t b=none)/\W i n s t) ?_ m0 ⟨0,capσ cap S,_,b8 _,T.keep _ _ _ a3 (λb f o e=>O b o (P b o e)),λb f=>(f3 b f).1,w0⟩;intro n s5 qQ0 E';refine qq λqz=>?_;obtain⟨i,s,t,I5,b2,b3,w5⟩:=qQ0;apply qz;rcases turn i n s t w5 with⟨stop,qn⟩|⟨go,N,hN,step⟩
  ·refine wpAny_mono (T.done Y rfl rfl rfl hc i [] s5 s t E' I5 (a1 b3) b2 stop) (λr s6 yq=>?_) λ_ _ z=>z;obtain⟨hr,I6⟩:=yq;subst hr;refine qq λqz=>?_;obtain⟨m,hn,_⟩:=id I6.loc;apply qz;exact hZ D C t s6 m hn (back I6) (A.fpOk (by show w.objs.size<=C;rw[hC];exact Nat.le_refl _) I6.free) qn
  ·refine wpAny_mono (T.item Y rfl rfl rfl hc i [] s5 s t E' I5 (a1 b3) b2 go) (λr s6 yq=>?_) λ_ _ z=>z;obtain⟨u,hr,h6⟩:=yq;subst hr;refine wpAny_mono h6 (λ_ s7 yq=>?_) λ_ _ z=>z;refine qq λW_=>?_;obtain⟨x,H7,I7,r7,y7,a8,b9⟩:=yq;apply W_;have c0:=I7.pinned (a1 b9) (T.obj _ _ a8);refine wpAny_mono (hg C _ _ H _ s7 s H7 x u _ c0 r7 (step x H7 y7)) (λ_ s8 yq=>?_) λ_ _ z=>False.elim z;obtain⟨a5,H8,I8,q8⟩:=yq;have again:∀{a2:L2.St}{H9:Hp}{s9:Shared},Inv Y ([]++mG H s7.heap) a2 H9 s9->N a2 H9->∃m,m<n/\∃i U H',Inv Y [] U H' s9/\tn i s9.heap/\(∀b∈H,H' b=none)/\W i m U H':=λ{a2 H9 s9} I9 n9=>by
    refine qq λqz=>?_;obtain⟨m',hm,w9⟩:=hN a2 H9 n9;apply qz;refine⟨m',hm,i+1,a2,H9,I9.unpinned,T.keep _ _ _ a8 λb f o e=>(I9.pin (b,o) (List.mem_append_right _ (List.mem_append_right _ (gM f e)))).1,λb f=>?_,w9⟩;obtain⟨o,e,d⟩:=T.obj _ _ a8 b f;exact(I9.pin (b,o) (List.mem_append_right _ (List.mem_append_right _ (gM f e)))).2.1
   refine wpAny_mono (ht C _ _ H _ s8 a5 H8 _ I8 q8) (λok s9 yq=>?_) λ_ _ z=>False.elim z;obtain⟨H9,I9,q9⟩:=yq;cases ok with
   |false=>
    rw[if_neg Bool.false_ne_true]at q9⊢;exact again I9 q9
   |true=>
    rw[if_pos rfl]at q9⊢;refine wpAny_mono (he C _ _ H _ s9 a5 H9 _ I9 q9) (λv sa yq=>?_) λ_ _ z=>False.elim z;refine qq λW_=>?_;obtain⟨y,Ha,Ia,ra,ys,hy,hl,na⟩:=yq;apply W_;have c1:=iL (X:=Y) _ sa a5 Ha (.ref D) [y] (.ref D) [v] (λ_ Hb=>N a5 Hb) Ia rfl (.cons ra .nil) ⟨D,ys,y,rfl,rfl,hy,hl,na⟩;exact wpAny_mono c1 (λ_ sb ⟨_,Hb,Ib,_,nb⟩=>again Ib nb) λ_ _ z=>False.elim z
 exact codeAny_compStart_list (loop _ rfl) (T.self _ 0 _ _ _ (T.keep _ _ _ a3 λb f o e=>O b o (P b o e)) (loop _ rfl))
theorem hV(k:X.calm=true)(L:LcOk X scope cl cap NC)(l:PI X target iter wi)(n:∀C a b c,PG (nK X scope cl NC C a b c) target g)(o:∀C a b c,Nk (nK X scope cl NC C a b c) ifs tt)(p:∀C a b c,PE (nK X scope cl NC C a b c) elt te)
  (r:∀x,foldedSetIterable iter X.env x=pure x:=by intro _;rfl):PE X (.ListComp elt [⟨target,iter,ifs,0⟩] scope pos) (Oq wi cap g tt te):=by
 intro pins s t H Q I h;rw[eval_ListComp];refine wpAny_comprehension_free (use:=none) rfl r L.clos L.kind L.names (eP (l pins s t H _ I h) λE i d=>eP d λu j e=>?_);refine qq λqz=>?_;obtain⟨F,c,K,J,M,rfl,I2,T,f,v,w⟩:=e;apply qz;refine sL (G:=Q) k L n o p I2 T f v w λD C y N m z back _ q=>?_;exact⟨m,z,λA B=>⟨.ref D,y,back A B _,rfl,q⟩⟩
end
end Lx
namespace Lx
open PySem PySem.Spec PyProof.Rows L2
mutual
inductive DV(K:PySem.W.Frag)(H:Hp):V->PyData->Prop
 |non:DV K H .non .none
 |bl (b:Bool):DV K H (.bl b) (.bool b)
 |int (i:Int):DV K H (.int i) (.int i)
 |str (x:Str):DV K H (.str x) (.str x)
 |tup {a:Addr} {xs:List V} {ds:List PyData}:SqT K H a xs->DVs K H xs ds->DV K H (.ref a) (.tuple ds)
 |lst {a:Addr} {xs:List V} {ds:List PyData}:SqL K H a xs->DVs K H xs ds->DV K H (.ref a) (.list ds)
  |dct {a:Addr} {x y:Str}:H a=some (.dK [(.inr x,.str y)])->DV K H (.ref a) (.dict [(.str x,.str y)])
inductive DVs(K:PySem.W.Frag)(H:Hp):List V->List PyData->Prop
 |nil:DVs K H [] []
 |cons {x:V} {xs:List V} {d:PyData} {ds:List PyData}:DV K H x d->DVs K H xs ds->DVs K H (x::xs) (d::ds)
end
section
variable{X:Cx}{pins:List (Addr×Obj)}{σ:L2.St}{H:Hp}{s:Shared}
mutual
theorem eL(I:Inv X pins σ H s):∀{x:V}{d:PyData}{u:Value},DV X.K H x d->RelV x u->∃as,Reads s.heap u d as
 |_,_,u,.non,r=>by
  cases (show u=Value.none from r);exact⟨_,.none⟩
 |_,_,u,.bl b,r=>by
  cases (show u=Value.bool b from r);exact⟨_,.bool b⟩
 |_,_,u,.int i,r=>by
  obtain⟨t,rfl⟩:=r;exact⟨_,.int i t⟩
 |_,_,u,.str x,r=>by
  obtain⟨t,rfl⟩:=r;exact⟨_,.str x t⟩
 |_,_,u,@DV.tup _ _ a O P h A,r=>by
  cases (show u=Value.ref a from r);refine qq λqz=>?_;obtain⟨B,C,⟨o,f,g,n,j⟩,_⟩:=I.tuple h;obtain⟨as,q⟩:=kZ I A C;apply qz;exact⟨_,.tuple f g j (by simpa using q)⟩
 |_,_,u,@DV.lst _ _ a O P h A,r=>by
  cases (show u=Value.ref a from r);refine qq λqz=>?_;obtain⟨B,C,⟨o,n,f,g,_,j⟩,_⟩:=I.list h;obtain⟨as,q⟩:=kZ I A C;apply qz;exact⟨_,.list f g j (by simpa using q)⟩
 |_,_,u,@DV.dct _ _ a x y h,r=>by
  cases (show u=Value.ref a from r);refine qq λqz=>?_;obtain⟨_,_,Z,m,o,Q,ep,f,g,j,hk,N,_⟩:=(show ObjOk X.prog X.w H s.heap a (.dK [(.inr x,.str y)])from I.hok a _ h);apply qz;unfold KV at m;cases m with
  |@cons p q ps qs R t=>
   cases t;refine qq λqz=>?_;obtain⟨k,v⟩:=q;obtain⟨S,D,T⟩:=R;apply qz;have E:Sum.inr x=k:=S;subst E;have F:v=Value.str y D:=T;subst F;generalize w:Q.toList=l at N;cases N with
   |@cons e kv U kvs' G J K=>
    cases K;have L:zU (.inr x) e.key=true:=G;have M:∃c,e.key=Value.str x c:=by
     rcases cU L with⟨i,c,z,_⟩|⟨x2,c,z,W⟩
     ·exact nomatch z
     ·cases z;exact⟨c,W⟩
    obtain⟨c,M⟩:=M;have Y:e.val=Value.str y D:=J;exact⟨_,.dict (as:=[]++[]) (bs:=[]++[]) f g.1 j (by rw[w];show ReadsAll _ [e.key] [PyData.str x] _;rw[M];exact .cons (.str x c) .nil) (by rw[w];show ReadsAll _ [e.val] [PyData.str y] _;rw[Y];exact .cons (.str y D) .nil)⟩
theorem kZ(I:Inv X pins σ H s):∀{a:List V}{b:List PyData}{c:List Value},DVs X.K H a b->Vals a c->∃d,ReadsAll s.heap c b d
 |_,_,_,.nil,.nil=>⟨_,.nil⟩
 |_,_,_,.cons h e,.cons r f=>by
  obtain⟨d,q⟩:=eL I h r;obtain⟨i,g⟩:=kZ I e f;exact⟨_,.cons q g⟩
end
end
structure Enc(α:Type) where
 d:α->PyData
 dep:Nat
 small:dep<=60
 lay:∀x,(d x).canLay0=true
 depth:∀x,(d x).depth<=dep
 eqv:∀x y,PyData.eqv (d x) (d y)=true↔x=y
theorem Enc.shaped{a:Type}(e:Enc a)(x:a):SeqAt.shaped (e.d x)=true:=by
 unfold SeqAt.shaped;rw[e.lay,Bool.true_and];exact decide_eq_true (Nat.le_trans (e.depth x) (Nat.le_trans e.small (by decide)))
noncomputable def Ml:Enc Bool:=⟨.bool,0,by decide,λ_=>rfl,λ_=>by simp[PyData.depth],λx y=>by simp[PyData.eqv]⟩
theorem rA{b:Type}(e:Enc b):∀(a:List b),PyData.canLayAll0 (a.map e.d)=true/\PyData.depthAll (a.map e.d)<=e.dep
 |[]=>⟨rfl,by simp[PyData.depthAll]⟩
 |x::a=>by
  obtain⟨c,f⟩:=rA e a;have d:=e.lay x;have g:=e.depth x;constructor
  ·show((e.d x).canLay0 && PyData.canLayAll0 (a.map e.d))=true;rw[d,c];rfl
  ·show PyData.depthAll (e.d x::a.map e.d)<=e.dep;simp only[PyData.depthAll]
   lia
noncomputable def sU:Enc Rat where
 d:=λq=>.tuple [.int q.num,.int (q.den:Int)]
 dep:=1
 small:=by decide
 lay:=λq=>by simp[PyData.canLay0,PyData.canLayAll0]
 depth:=λq=>by simp[PyData.depth,PyData.depthAll]
 eqv:=λp q=>by
  simp only[PyData.eqv,PyData.eqvAll,Bool.and_eq_true,beq_iff_eq,and_true];constructor
  ·rintro⟨a,b⟩;exact Rat.ext a (by lia)
  ·rintro rfl;exact⟨rfl,rfl⟩
noncomputable def xM(K:PySem.W.Frag)(c:Bool):R2:=λx y H Q=>∃(d:Type)(e:Enc d)(a b:d),DV K H x (e.d a)/\DV K H y (e.d b)/\∀k:Bool,(k=true↔a=b)->Q (.bl (if c then !k else k)) H
noncomputable def Gv(K:PySem.W.Frag)(b:Bool):R2:=λx y H Q=>∃(c:Type)(e:Enc c)(a:c)(d:List c),DV K H x (e.d a)/\DV K H y (.list (d.map e.d))/\∀k:Bool,(k=true↔a∈d)->Q (.bl (if b then !k else k)) H
section
variable{X:Cx}
theorem Hf(c:X.A.units+64<cLine):OpR X (compareOp .Eq) (xM X.K false):=by
 intro pins s l H x y v u Q I d f h;refine qq λqz=>?_;obtain⟨m,e,a,b,g,i,q⟩:=h;obtain⟨n,j⟩:=eL I g d;obtain⟨o,k⟩:=eL I i f;apply qz;exact eq_dataH j k (e.shaped a) (e.shaped b) c ⟨.bl _,H,I,rfl,q _ (e.eqv a b)⟩
theorem Hd(c:X.A.units+64<cLine):OpR X (compareOp .NotEq) (xM X.K true):=by
 intro pins s l H x y v u Q I d f h;refine qq λqz=>?_;obtain⟨m,e,a,b,g,i,q⟩:=h;obtain⟨n,j⟩:=eL I g d;obtain⟨o,k⟩:=eL I i f;apply qz;exact ne_dataH j k (e.shaped a) (e.shaped b) c ⟨.bl _,H,I,rfl,q _ (e.eqv a b)⟩
theorem rG{d:Type}(e:Enc d)(a:d):∀c:List d,((c.map e.d).any λy=>PyData.eqv y (e.d a))=true↔a∈c
 |[]=>by simp
 |b::c=>by
  have h:=rG e a c;have f:=e.eqv b a;simp only[List.map_cons,List.any_cons,Bool.or_eq_true,h,f,List.mem_cons];constructor
  ·rintro(z|z)
   ·exact .inl z.symm
   ·exact .inr z
  ·rintro(z|z)
   ·exact .inl z.symm
   ·exact .inr z
theorem He(k:X.A.units+64<cLine):OpR X (compareOp .In) (Gv X.K false):=by
 intro pins s l H x y v u Q I c d h;refine qq λqz=>?_;obtain⟨m,e,a,b,f,g,q⟩:=h;obtain⟨n,i⟩:=eL I f c;obtain⟨o,j⟩:=eL I g d;apply qz;have p:=e.depth a;have r:=e.small;exact PySem.SeqAt.in_list_reads j i (rA e b).1 (e.lay a) (by lia) ⟨.bl _,H,I,rfl,q _ (rG e a b)⟩
end
end Lx
namespace Lx
open PySem PySem.Spec PyProof.Rows L2
structure ExcK(K:PySem.W.Frag)(C:Addr):Prop where
 fg:PySem.W.findIn K (.ref C) "__getattribute__"=some (some (.builtin "BaseException.__getattribute__"))
 fa:PySem.W.findIn K (.ref C) "__getattr__"=some none
 fc:PySem.W.findIn K (.ref C) "__class__"=some (some (.builtin "object.__class__"))
 so:PySem.W.subIn K (.ref C) (.type "object")=some true
 sb:PySem.W.subIn K (.ref C) (.type "BaseException")=some true
section
variable{prog:Program}{w:World}{A:Around}{E:Value->Shared->Prop}{h:Heap}{g:Array GenState}{d:Drawn}{t:Nat}{os:OsState}{a C:Addr}{o:Obj}{K:PySem.W.Frag}
end
noncomputable def Np(x C:Addr)(h:Heap):Prop:=∃o a,h.get? x=some o/\o.cls= .ref C/\o.data= .fields a
section
variable{X:Cx}
variable{pins:List (Addr×Obj)}{σ:L2.St}{H:Hp}{s:Shared}{x C:Addr}
end
end Lx
namespace Lx
open PySem PySem.Spec PyProof.Rows L2
section
variable{X:Cx}{K:PySem.W.Frag}
theorem iB(h:X.K=K):IxR X (Gu K):=by subst h;exact Cr
theorem bK(h:X.K=K):IxR X (yW K):=by subst h;exact Ie
theorem uH(h:X.K=K):CallR X (.builtin "len") (λb H Q=>∃p a,b=[.ref p]/\(SqL K H p a\/SqT K H p a)/\Q (.int a.length) H):=by subst h;exact rF
theorem vZ(h:X.K=K):CallR X (.type "list") (λb H Q=>∃p a,b=[.ref p]/\(SqL K H p a\/SqT K H p a)/\∀l,H l=none->Q (.ref l) (eO H l (.lst a))):=by subst h;exact rE
theorem Ou(h:X.K=K):SlR X (Gs K):=by subst h;exact Bu
theorem Nz(h:X.K=K)(a:X.A.units+64<cLine):OpR X (compareOp .Eq) (xM K false):=by subst h;exact Hf a
theorem Ny(h:X.K=K)(a:X.A.units+64<cLine):OpR X (compareOp .NotEq) (xM K true):=by subst h;exact Hd a
theorem Qq(h:X.K=K)(a:X.A.units+64<cLine):OpR X (compareOp .In) (Gv K false):=by subst h;exact He a
theorem jE{b l:Expr}{a:TE}(h:X.K=K)(c:PE X l a):PI X b l (wC K a):=by subst h;exact Cc c
theorem iS{a:List Expr}{k:Nat}{b:Pos}{t:yC}{n:Nat}(h:X.K=K)(d:X.calm=true)(e:Jp X a t)
  (f:(assignEach a X.env).length=n:=by rfl) (c:(assignEach a X.env).findIdx? (·.1)=none:=by rfl):PG X (.Tuple a k b) (Il K n t):=by subst h;exact Gx d e f c
end
end Lx
namespace Lx
open PySem PySem.Spec PyProof.Rows L2
section
variable{X:Cx}{elt target iter:Expr}{ifs:List Expr}{scope:Scope}{pos spos pos':Pos}{wi:TI}{cap:List (Option Nat)}{NC:List Str}{cl:List (Str×Addr)}{g:TG}{tt:TT}{te:TE}
theorem eW{i:Nat}{x:Str}(R:X.N.Nodup)(S:X.N[i]? =some x)(F:X.env.scope.names.lookup x=some .local)(U:X.calm=true)(L:LcOk X scope cl cap NC)(n:PI X target iter wi)
  (W:∀C c d f,PG (nK X scope cl NC C c d f) target g) (Y:∀C c d f,Nk (nK X scope cl NC C c d f) ifs tt) (Z:∀C c d f,PE (nK X scope cl NC C c d f) elt te)
  (p:swapsWith (.ListComp elt [⟨target,iter,ifs,0⟩] scope pos) (some (.Name x pos')) spos.line X.env=pure true:=by rfl)
  (hs:∀x,foldedSetIterable iter X.env x=pure x:=by intro _;rfl):PS X (.Assign [.Name x pos'] (.ListComp elt [⟨target,iter,ifs,0⟩] scope pos) spos) (rP (Oq wi cap g tt te) (oK i)):=by
 intro pins s r H D I h;rw[exec_Assign_Name_used _ _ _ _ p];refine wpAny_bind (wpAny_standAt (wpAny_bind ?_));show wpAny _ X.A (do let _ <-comprehension (.ListComp elt [⟨target,iter,ifs,0⟩] scope pos) scope X.env _ (newList []) false (eval iter X.env) (some (assign (.Name x pos') X.env))) _ _ s
 refine wpAny_bind (wpAny_mono (wpAny_comprehension_free (use:=some (assign (.Name x pos') X.env)) (Q:=λ_ j=>SP X pins D .next j) rfl hs L.clos L.kind L.names
  (eP (n pins s r H _ I h) λxv K k=>eP k λa0 M l=>?_)) (λ_ j t=>wpAny_pure (wpAny_pure t)) λ_ _ e=>e)
 refine qq λqz=>?_;obtain⟨it,f,tn,J,H2,rfl,u,T,w,f2,t⟩:=l;apply qz;refine sL (G:=λv H'=>D.nx (r.set i (some v)) H') U L W Y Z u T w f2 t λy C N j m hn back A q=>?_;refine qq λqz=>?_;obtain⟨z1,O,z3,z4,P,z6⟩:=A;apply qz;have Ib:Inv X pins r N j:=back j.heap (.refl _ _) j.toks;show wpAny _ X.A (assign (.Name x pos') X.env (.ref y)) _ _ _;refine wpAny_assign_Name (nU Ib R S (.inl F) (show RelV (.ref y) (.ref y)from rfl) (λs2 u yq=>?_) (.inr F));obtain⟨a,sb,ha⟩:=yq;have B:C≠a:=by
  rcases ha with z|z
  ·rw[z];exact O
  ·exact λe=>P x a z e.symm
 refine⟨m,hn.sameBut sb B,λh' E=>⟨_,N,?_,q⟩⟩;exact u.turned (t':=s2.toks) (it:=C) (λb o hb e=>(E.2 b hb).trans e) z1 O z4 P z6
end
theorem oH:∀{b:List Int}{c:List Value},Vals (b.map V.int) c->∃a:List (Int×Tok),c=a.map (λp=>Value.int p.1 p.2)/\a.map (·.1)=b
 |[],_,.nil=>⟨[],rfl,rfl⟩
 |n::b,_,.cons r d=>by
  refine qq λqz=>?_;obtain⟨t,rfl⟩:=r;obtain⟨a,rfl,e⟩:=oH d;apply qz;exact⟨(n,t)::a,rfl,by simp[e]⟩
section
variable{X:Cx}{K:PySem.W.Frag}
theorem Az(c:X.calm=true):CallR X (.builtin "sum") (λb H Q=>∃(p:Addr)(a:List Int),b=[.ref p]/\SqL X.K H p (a.map V.int)/\Q (.int a.sum) H):=by
 intro pins s o H b t Q I r h;refine qq λqz=>?_;obtain⟨p,a,rfl,d,q⟩:=h;obtain⟨u,rfl,f⟩:=nQ r;apply qz;cases f;refine qq λqz=>?_;obtain⟨g,i,j,v⟩:=I.list d;obtain⟨k,rfl,e⟩:=oH i;apply qz;have l:s.heap.IsList p (intItems k.toArray):=by
  have:=j.isList;simpa[intItems]using this
 refine sum_intListG (I.ok.hd c) l λw m t' n=>?_;refine⟨.int a.sum,H,I.kept (t':=m) n,⟨t',?_⟩,q⟩;rw[preSum_eq,List.take_of_length_le (by simp)];simp[e]
theorem Ot(h:X.K=K)(b:X.calm=true):CallR X (.builtin "sum") (λc H Q=>∃(p:Addr)(a:List Int),c=[.ref p]/\SqL K H p (a.map V.int)/\Q (.int a.sum) H):=by subst h;exact Az b
end
end Lx
namespace Fm
theorem abs_if(i:Int):(if i<0 then -i else i)=((i.natAbs:Nat):Int):=by lia
theorem gcd_step(a b:Int)(h:0<b):Int.gcd b (a%b)=Int.gcd a b:=by
 rw[Int.gcd_comm b (a%b),Int.emod_def];exact Int.gcd_sub_mul_left_left _ _ _
theorem gcd_zero{a:Int}(h:0<=a):((Int.gcd a 0:Nat):Int)=a:=by
 rw[Int.gcd_zero_right];lia
theorem gcd_le_right{a b:Int}(c:b≠0):Int.gcd a b<=b.natAbs:=Nat.le_of_dvd (by lia) (Int.gcd_dvd_natAbs_right a b)
theorem gcd_pos_right{a b:Int}(c:b≠0):0<Int.gcd a b:=Int.gcd_pos_of_ne_zero_right a c
theorem fr_num{t b:Int}(e:b≠0):t.fdiv (if b<0 then -((Int.gcd t b:Nat):Int)else((Int.gcd t b:Nat):Int))=(Rat.divInt t b).num:=by
 rw[Rat.num_divInt,Int.gcd_comm b t];have f:(0:Int)<((Int.gcd t b:Nat):Int):=by have:=gcd_pos_right (a:=t) e;lia
 have h:((Int.gcd t b:Nat):Int)∣t:=Int.gcd_dvd_left t b;split
 ·rename_i c
  rw[Int.sign_eq_neg_one_of_neg c];obtain⟨k,d⟩:=h;generalize ((Int.gcd t b:Nat):Int)=g at f d;subst d;rw[show -1*(g*k)=g*(-k) by grind,Int.mul_ediv_cancel_left _ (by lia)];rw[show g*k=(-g)*(-k) by grind];exact Int.mul_fdiv_cancel_left _ (by lia)
 ·rename_i c
  rw[Int.sign_eq_one_of_pos (by lia),Int.one_mul,Int.fdiv_eq_ediv_of_nonneg _ (by lia)]
theorem fr_den{t b:Int}(c:b≠0):b.fdiv (if b<0 then -((Int.gcd t b:Nat):Int)else((Int.gcd t b:Nat):Int))=(((Rat.divInt t b).den:Nat):Int):=by
 rw[Rat.den_divInt,if_neg c,Int.gcd_comm b t];have e:(0:Int)<((Int.gcd t b:Nat):Int):=by have:=gcd_pos_right (a:=t) c;lia
 have f:((Int.gcd t b:Nat):Int)∣b:=Int.gcd_dvd_right t b;rw[Int.natCast_ediv];split
 ·rename_i h
  rw[show((b.natAbs:Nat):Int)=-b by lia];obtain⟨k,d⟩:=f;generalize ((Int.gcd t b:Nat):Int)=g at e d;subst d;rw[show -(g*k)=g*(-k) by grind,Int.mul_ediv_cancel_left _ (by lia)];rw[show g*k=(-g)*(-k) by grind];exact Int.mul_fdiv_cancel_left _ (by lia)
 ·rename_i h
  rw[show((b.natAbs:Nat):Int)=b by lia,Int.fdiv_eq_ediv_of_nonneg _ (by lia)]
theorem add_parts(a b:Rat)(s:Nat)(h:s=a.den.gcd b.den)(f:Int)(i:f=a.num*((b.den/s:Nat):Int)+b.num*((a.den/s:Nat):Int))(g:Nat)(c:g=s.gcd f.natAbs):
  (a+b).num=f/(g:Int)/\(a+b).den=a.den/s*(b.den/g):=by
 have j:0<s:=by rw[h];exact Nat.gcd_pos_of_pos_left _ (Nat.pos_of_ne_zero a.den_nz)
 have o:0<g:=by rw[c];exact Nat.gcd_pos_of_pos_left _ j
 have k:g∣s:=by rw[c];exact Nat.gcd_dvd_left _ _
 have l:s∣b.den:=by rw[h];exact Nat.gcd_dvd_right _ _
 have m:g∣b.den:=Nat.dvd_trans k l;have e:a.den/s*(b.den/g)=a.den/s*b.den/g:=(Nat.mul_div_assoc _ m).symm;rw[e];show(Rat.add a b).num=_/\(Rat.add a b).den=_;unfold Rat.add;simp only[<-h];split
 ·rename_i n
  have:g=1:=by rw[c,n];exact Nat.gcd_one_left _
  subst this;dsimp only;rw[i,n];simp
 ·rename_i n
  simp only[Rat.maybeNormalize_eq];have d:(a.num*((b.den/s:Nat):Int)+b.num*((a.den/s:Nat):Int)).natAbs.gcd s=g:=by rw[c,<-i,Nat.gcd_comm]
  have p:(g:Int)∣f:=by
   rw[c];exact Int.ofNat_dvd_left.mpr (Nat.gcd_dvd_right _ _)
  constructor
  ·rw[Int.divExact_eq_tdiv,d,<-i,Int.tdiv_eq_ediv_of_dvd p]
  ·rw[d]
theorem mul_parts(a b:Rat):(a*b).num=(Rat.divInt a.num (b.den:Int)).num*(Rat.divInt b.num (a.den:Int)).num/\(a*b).den=(Rat.divInt a.num (b.den:Int)).den*(Rat.divInt b.num (a.den:Int)).den:=by
 show(Rat.mul a b).num=_/\(Rat.mul a b).den=_;have c:(a.den:Int)≠0:=by have:=a.den_nz;lia
 have d:(b.den:Int)≠0:=by have:=b.den_nz;lia
 rw[Rat.num_divInt,Rat.num_divInt,Rat.den_divInt,Rat.den_divInt,if_neg c,if_neg d];have e:((b.den:Nat):Int).sign=1:=Int.sign_eq_one_of_pos (by have:=b.den_nz;lia);have f:((a.den:Nat):Int).sign=1:=Int.sign_eq_one_of_pos (by have:=a.den_nz;lia);rw[e,f,Int.one_mul,Int.one_mul];unfold Rat.mul;dsimp only;have g:Int.gcd ((b.den:Nat):Int) a.num=a.num.natAbs.gcd b.den:=by rw[Int.gcd_comm];rfl
 have h:Int.gcd ((a.den:Nat):Int) b.num=b.num.natAbs.gcd a.den:=by rw[Int.gcd_comm];rfl
 rw[g,h];constructor
 ·rw[Int.divExact_eq_tdiv,Int.divExact_eq_tdiv,Int.tdiv_eq_ediv_of_dvd (Int.ofNat_dvd_left.mpr (Nat.gcd_dvd_left _ _)),Int.tdiv_eq_ediv_of_dvd (Int.ofNat_dvd_left.mpr (Nat.gcd_dvd_left _ _))]
 ·rw[Nat.mul_comm];rfl
theorem mk_div(n:Int)(d:Int)(a:d≠0):Rat.divInt n d=(n:Rat)/(d:Rat):=Rat.divInt_eq_div n d
theorem div_inv(b:Rat):Rat.divInt (b.den:Int) b.num=b⁻¹:=(Rat.inv_def b).symm
theorem less_iff(a b:Rat):(a.num*(b.den:Int)<b.num*(a.den:Int))↔a<b:=(Rat.lt_iff a b).symm
theorem lowest(q:Rat):Int.gcd q.num (q.den:Int)=1:=q.reduced
theorem den_pos(q:Rat):(1:Int)<=(q.den:Int):=by have:=q.den_nz;lia
theorem Ax(t b:Int)(a:b≠0):(Rat.divInt t b).num*b=t*((Rat.divInt t b).den:Int):=by
 have h:=Rat.num_divInt_den (Rat.divInt t b);exact(Rat.divInt_eq_divInt_iff (by have:=(Rat.divInt t b).den_nz;lia) a).mp h
theorem num_le(t:Int){b:Int}(c:b≠0):(Rat.divInt t b).num.natAbs<=t.natAbs:=by
 have h:=Ax t b c;have i:=Fm.den_pos (Rat.divInt t b);rw[<-fr_num c];have e:(0:Int)<((Int.gcd t b:Nat):Int):=by have:=gcd_pos_right (a:=t) c;lia
 obtain⟨k,d⟩:((Int.gcd t b:Nat):Int)∣t:=Int.gcd_dvd_left t b;generalize ((Int.gcd t b:Nat):Int)=g at e d;subst d;have f:k.natAbs<=(g*k).natAbs:=by
  rw[Int.natAbs_mul];exact Nat.le_mul_of_pos_left _ (by lia)
 split
 ·rw[show g*k=(-g)*(-k) by grind,Int.mul_fdiv_cancel_left _ (by lia)];rw[show(-g)*(-k)=g*k by grind]
  lia
 ·rw[Int.mul_fdiv_cancel_left _ (by lia)];exact f
theorem den_le(t:Int){b:Int}(a:b≠0):(Rat.divInt t b).den<=b.natAbs:=by
 rw[Rat.den_divInt,if_neg a];exact Nat.div_le_self _ _
theorem num_eq(q:Rat):(q.num:Rat)=q*(q.den:Rat):=by
 have h:=Rat.num_divInt_den q;rw[Rat.divInt_eq_div]at h;have b:((q.den:Int):Rat)≠0:=by
  have:=q.den_nz;intro z;rw[Rat.intCast_natCast]at z;exact this (by simpa using z)
 rw[Rat.intCast_natCast]at h b;have c:=Rat.div_mul_cancel (a:=(q.num:Rat)) b;rw[h]at c;exact c.symm
theorem fr_pos{t b:Int}(d:0<b):t/((Int.gcd t b:Nat):Int)=(Rat.divInt t b).num/\b/((Int.gcd t b:Nat):Int)=((Rat.divInt t b).den:Int):=by
 have a:=fr_num (t:=t) (b:=b) (by lia);have c:=fr_den (t:=t) (b:=b) (by lia);rw[if_neg (by lia),Int.fdiv_eq_ediv_of_nonneg _ (by lia)]at a c;exact⟨a,c⟩
theorem eq_divInt{q:Rat}{n m:Int}(a:m≠0)(h:q*(m:Rat)=(n:Rat)):q=Rat.divInt n m:=by
 rw[Rat.divInt_eq_div,<-h];have:(m:Rat)≠0:=by simpa using a
 exact(Rat.mul_div_cancel this).symm
theorem size_of{q:Rat}{n m:Int}(a:m≠0)(h:q*(m:Rat)=(n:Rat)):q.num.natAbs<=n.natAbs/\q.den<=m.natAbs:=by
 rw[eq_divInt a h];exact⟨num_le n a,den_le n a⟩
structure Sz(N:Nat)(q:Rat):Prop where
 n:q.num.natAbs<=N
 d:q.den<=N
theorem Sz.mono{M N:Nat}{q:Rat}(h:Sz M q)(l:M<=N):Sz N q:=⟨Nat.le_trans h.n l,Nat.le_trans h.d l⟩
theorem Sz.neg{N:Nat}{q:Rat}(h:Sz N q):Sz N (-q):=⟨by show(-q.num).natAbs<=N;rw[Int.natAbs_neg];exact h.n,h.d⟩
theorem rQ(a b:Rat)(f:Rat)(n:Int)(h:f*((a.den:Int)*(b.den:Int):Int)=(n:Rat)){M N:Nat}(c:Sz M a)(d:Sz N b)(e:n.natAbs<=2*(M*N)):Sz (2*(M*N)) f:=by
 have g:(a.den:Int)*(b.den:Int)≠0:=Int.mul_ne_zero (by have:=a.den_nz;lia) (by have:=b.den_nz;lia);obtain⟨i,j⟩:=size_of g h;refine⟨Nat.le_trans i e,Nat.le_trans j ?_⟩;rw[Int.natAbs_mul];have:=Nat.mul_le_mul c.d d.d;simp only[Int.natAbs_natCast]
 lia
theorem Sz.add{a b:Rat}{M N:Nat}(c:Sz M a)(d:Sz N b):Sz (2*(M*N)) (a+b):=by
 refine rQ a b _ (a.num*(b.den:Int)+b.num*(a.den:Int)) ?_ c d ?_
 ·rw[Rat.intCast_mul,Rat.intCast_add,Rat.intCast_mul,Rat.intCast_mul,Rat.intCast_natCast,Rat.intCast_natCast,num_eq a,num_eq b];grind
 ·have g:=Nat.mul_le_mul c.n d.d;have e:=Nat.mul_le_mul d.n c.d;have f:=Int.natAbs_add_le (a.num*(b.den:Int)) (b.num*(a.den:Int));rw[Int.natAbs_mul,Int.natAbs_mul,Int.natAbs_natCast,Int.natAbs_natCast]at f;rw[Nat.mul_comm N M]at e
  lia
theorem Sz.sub{a b:Rat}{M N:Nat}(c:Sz M a)(d:Sz N b):Sz (2*(M*N)) (a-b):=by
 rw[Rat.sub_eq_add_neg];exact c.add d.neg
theorem Sz.mul{a b:Rat}{M N:Nat}(c:Sz M a)(d:Sz N b):Sz (2*(M*N)) (a*b):=by
 refine rQ a b _ (a.num*b.num) ?_ c d ?_
 ·rw[Rat.intCast_mul,Rat.intCast_mul,Rat.intCast_natCast,Rat.intCast_natCast,num_eq a,num_eq b];grind
 ·have e:=Nat.mul_le_mul c.n d.n;rw[Int.natAbs_mul]
  lia
theorem Sz.inv{b:Rat}{N:Nat}(a:Sz N b)(c:b≠0):Sz N b⁻¹:=by
 have d:b.num≠0:=λz=>c (Rat.num_eq_zero.mp z);have e:b⁻¹*((b.num:Int):Rat)=((b.den:Int):Rat):=by
  rw[num_eq b,Rat.intCast_natCast];grind
 obtain⟨f,g⟩:=size_of d e;exact⟨by have:=a.d;rw[Int.natAbs_natCast]at f;lia,Nat.le_trans g a.n⟩
theorem Sz.div{a b:Rat}{M N:Nat}(c:Sz M a)(d:Sz N b)(e:b≠0):Sz (2*(M*N)) (a/b):=by
 rw[Rat.div_def];exact c.mul (d.inv e)
end Fm
namespace Fm
theorem wK(t:Int){b:Int}(a:b≠0):(Rat.divInt t b).den∣b.natAbs:=by
 have h:=congrArg Int.natAbs (Ax t b a);rw[Int.natAbs_mul,Int.natAbs_mul]at h;have c:(Rat.divInt t b).den∣(Rat.divInt t b).num.natAbs*b.natAbs:=⟨t.natAbs,by rw[h,Nat.mul_comm];simp⟩;have d:Nat.Coprime (Rat.divInt t b).den (Rat.divInt t b).num.natAbs:=Nat.Coprime.symm (Rat.divInt t b).reduced;exact d.dvd_of_dvd_mul_left c
theorem Ai{q:Rat}{n:Int}{L:Nat}(a:L≠0)(h:q*(L:Rat)=(n:Rat)):q.den∣L:=by
 have e:q=Rat.divInt n (L:Int):=eq_divInt (by lia) (by rw[Rat.intCast_natCast];exact h);rw[e];have:=wK n (b:=(L:Int)) (by lia);simpa using this
theorem pC{q:Rat}{L:Nat}(h:q.den∣L):q*(L:Rat)=((q.num*((L/q.den:Nat):Int):Int):Rat):=by
 obtain⟨c,rfl⟩:=h;have a:0<q.den:=Nat.pos_of_ne_zero q.den_nz;rw[Nat.mul_div_cancel_left _ a,Rat.intCast_mul,num_eq q,Rat.natCast_mul,Rat.intCast_natCast];grind
structure Cm(L B:Nat)(q:Rat):Prop where
 d:q.den∣L
 lo:-(B:Rat)<=q
 hi:q<=(B:Rat)
theorem wW{a b:Nat}(h:a<=b):(a:Rat)<=(b:Rat):=by
 rw[<-Rat.intCast_natCast,<-Rat.intCast_natCast];exact Rat.intCast_le_intCast.mpr (by lia)
theorem wV(a:Nat):(0:Rat)<=(a:Rat):=wW (Nat.zero_le a)
theorem Cm.mono{L B a b:Nat}{q:Rat}(h:Cm L B q)(c:L∣a)(d:B<=b):Cm a b q:=by
 have:=wW d;exact⟨Nat.dvd_trans h.d c,by have:=h.lo;grind,by have:=h.hi;grind⟩
theorem Cm.neg{L B:Nat}{q:Rat}(h:Cm L B q):Cm L B (-q):=⟨h.d,by have:=h.hi;grind,by have:=h.lo;grind⟩
theorem Cm.add{L B C:Nat}{p q:Rat}(a:Cm L B p)(b:Cm L C q):Cm L (B+C) (p+q):=by
 refine⟨?_,?_,?_⟩
 ·by_cases c:L=0
  ·rw[c];exact Nat.dvd_zero _
  ·refine Ai c (n:=p.num*((L/p.den:Nat):Int)+q.num*((L/q.den:Nat):Int)) ?_;rw[Rat.intCast_add,<-pC a.d,<-pC b.d];grind
 ·rw[Rat.natCast_add];have:=a.lo;have:=b.lo;grind
 ·rw[Rat.natCast_add];have:=a.hi;have:=b.hi;grind
theorem Cm.sub{L B C:Nat}{p q:Rat}(a:Cm L B p)(b:Cm L C q):Cm L (B+C) (p-q):=by
 rw[Rat.sub_eq_add_neg];exact a.add b.neg
theorem zN{a b B C:Rat}(c:-B<=a)(d:a<=B)(e:-C<=b)(f:b<=C):a*b<=B*C/\-(B*C)<=a*b:=by
 have k1:0<=(B-a)*(C+b):=Rat.mul_nonneg (by grind) (by grind);have k2:0<=(B+a)*(C-b):=Rat.mul_nonneg (by grind) (by grind);have k3:0<=(B-a)*(C-b):=Rat.mul_nonneg (by grind) (by grind);have k4:0<=(B+a)*(C+b):=Rat.mul_nonneg (by grind) (by grind);constructor <;>grind
theorem Cm.mul{L B M C:Nat}{p q:Rat}(a:Cm L B p)(b:Cm M C q):Cm (L*M) (B*C) (p*q):=by
 refine⟨?_,?_,?_⟩
 ·by_cases c:L*M=0
  ·rw[c];exact Nat.dvd_zero _
  ·refine Ai c (n:=(p.num*((L/p.den:Nat):Int))*(q.num*((M/q.den:Nat):Int))) ?_;rw[Rat.intCast_mul,<-pC a.d,<-pC b.d,Rat.natCast_mul];grind
 ·rw[Rat.natCast_mul];exact(zN a.lo a.hi b.lo b.hi).2
 ·rw[Rat.natCast_mul];exact(zN a.lo a.hi b.lo b.hi).1
theorem Cm.int{i:Int}{B:Nat}(h:i.natAbs<=B):Cm 1 B (i:Rat):=by
 refine⟨by simp,?_,?_⟩
 ·rw[<-Rat.intCast_natCast,<-Rat.intCast_neg];exact Rat.intCast_le_intCast.mpr (by lia)
 ·rw[<-Rat.intCast_natCast];exact Rat.intCast_le_intCast.mpr (by lia)
theorem Cm.zero{L B:Nat}:Cm L B 0:=by
 have:=wV B;exact⟨by simp,by grind,this⟩
theorem Cm.num{L B:Nat}{q:Rat}(h:Cm L B q):q.num.natAbs<=B*q.den:=by
 have b:(0:Rat)<=(q.den:Rat):=wV _;have e:=num_eq q;have c:(q.num:Rat)<=((B*q.den:Nat):Rat):=by
  rw[e,Rat.natCast_mul];exact Rat.mul_le_mul_of_nonneg_right h.hi b
 have a:-((B*q.den:Nat):Rat)<=(q.num:Rat):=by
  rw[e,Rat.natCast_mul,<-Rat.neg_mul];exact Rat.mul_le_mul_of_nonneg_right h.lo b
 rw[<-Rat.intCast_natCast]at c a;rw[<-Rat.intCast_neg]at a;have d:=Rat.intCast_le_intCast.mp c;have f:=Rat.intCast_le_intCast.mp a
 lia
theorem Cm.den{L B:Nat}{q:Rat}(h:Cm L B q)(a:0<L):q.den<=L:=Nat.le_of_dvd a h.d
theorem Cm.sz{L B:Nat}{q:Rat}(h:Cm L B q)(a:0<L):Sz ((B+1)*L) q:=by
 have c:=h.num;have b:=h.den a;have d:B*q.den<=B*L:=Nat.mul_le_mul_left _ b;have e:(B+1)*L=B*L+L:=by rw[Nat.add_mul,Nat.one_mul]
 exact⟨by lia,by lia⟩
theorem Cm.of{q:Rat}{L B:Nat}(b:q.den∣L)(g:q.num.natAbs<=B*q.den):Cm L B q:=by
 have a:(0:Rat)<(q.den:Rat):=by
  rw[<-Rat.intCast_natCast];exact Rat.intCast_pos.mpr (by have:=q.den_nz;lia)
 have e:=num_eq q;have d:(q.num:Rat)<=(B:Rat)*(q.den:Rat):=by
  rw[<-Rat.natCast_mul,<-Rat.intCast_natCast];exact Rat.intCast_le_intCast.mpr (by lia)
 have f:-((B:Rat)*(q.den:Rat))<=(q.num:Rat):=by
  rw[<-Rat.natCast_mul,<-Rat.intCast_natCast,<-Rat.intCast_neg];exact Rat.intCast_le_intCast.mpr (by lia)
 rw[e]at d f;refine⟨b,?_,?_⟩
 ·refine Rat.not_lt.mp λc=>?_;have:=Rat.mul_lt_mul_of_pos_right c a;rw[Rat.neg_mul]at this;grind
 ·refine Rat.not_lt.mp λc=>?_;have:=Rat.mul_lt_mul_of_pos_right c a;grind
theorem Cm.div{t:Int}{b L B:Nat}(a:0<b)(c:b∣L)(d:t.natAbs<=B*b):Cm L B (Rat.divInt t (b:Int)):=by
 have e:=wK t (b:=(b:Int)) (by lia);have f:=Ax t (b:Int) (by lia);refine Cm.of (Nat.dvd_trans (by simpa using e) c) ?_;have g:(Rat.divInt t (b:Int)).num.natAbs*b=t.natAbs*(Rat.divInt t (b:Int)).den:=by
  have:=congrArg Int.natAbs f;rw[Int.natAbs_mul,Int.natAbs_mul]at this;simpa using this
 refine Nat.le_of_mul_le_mul_right ?_ a;rw[g]
 calc t.natAbs*(Rat.divInt t (b:Int)).den<=(B*b)*(Rat.divInt t (b:Int)).den:=Nat.mul_le_mul_right _ d
  _=B*(Rat.divInt t (b:Int)).den*b:=by rw[Nat.mul_assoc,Nat.mul_comm b,Nat.mul_assoc]
noncomputable def Dg(n:Nat)(q:Rat):Prop:=Sz (10^n) q
theorem eQ{a b:Nat}(h:a<=b):10^a<=10^b:=Nat.pow_le_pow_right (by decide) h
theorem jK(a b:Nat):2*(10^a*10^b)<=10^(a+b+1):=by
 rw[Nat.pow_succ,Nat.pow_add]
 lia
theorem Dg.mono{a b:Nat}{q:Rat}(h:Dg a q)(l:a<=b):Dg b q:=Sz.mono h (eQ l)
theorem Dg.add{a b:Nat}{p q:Rat}(c:Dg a p)(d:Dg b q):Dg (a+b+1) (p+q):=(Sz.add c d).mono (jK a b)
theorem Dg.sub{a b:Nat}{p q:Rat}(c:Dg a p)(d:Dg b q):Dg (a+b+1) (p-q):=(Sz.sub c d).mono (jK a b)
theorem Dg.mul{a b:Nat}{p q:Rat}(c:Dg a p)(d:Dg b q):Dg (a+b+1) (p*q):=(Sz.mul c d).mono (jK a b)
theorem Dg.div{a b:Nat}{p q:Rat}(c:Dg a p)(d:Dg b q)(e:q≠0):Dg (a+b+1) (p/q):=(Sz.div c d e).mono (jK a b)
theorem Dg.of{n:Nat}{t b:Int}(a:b≠0)(c:t.natAbs<=10^n)(d:b.natAbs<=10^n):Dg n (Rat.divInt t b):=⟨Nat.le_trans (num_le t a) c,Nat.le_trans (den_le t a) d⟩
theorem Dg.zero{n:Nat}:Dg n 0:=⟨Nat.zero_le _,Nat.pow_pos (n:=n) (by decide)⟩
theorem Dg.one{n:Nat}:Dg n 1:=⟨Nat.pow_pos (n:=n) (by decide),Nat.pow_pos (n:=n) (by decide)⟩
theorem Dg.int{n:Nat}{i:Int}(h:i.natAbs<=10^n):Dg n (i:Rat):=⟨h,Nat.pow_pos (n:=n) (by decide)⟩
noncomputable def bM(q:Rat):Rat:=⟨(q.num.natAbs:Int),q.den,q.den_nz,by simpa using q.reduced⟩
theorem fA(q:Rat):(bM q).num=((q.num.natAbs:Nat):Int):=rfl
theorem Be(q:Rat):(bM q).den=q.den:=rfl
theorem cQ{q:Rat}(h:0<=q):bM q=q:=by
 have:=Rat.num_nonneg.mpr h;exact Rat.ext (by rw[fA];lia) rfl
theorem dN{q:Rat}(h:q<=0):bM q=-q:=by
 have a:0<=-q:=by grind
 have:=Rat.num_nonneg.mpr a;exact Rat.ext (by rw[fA];show _=-q.num;have e:(-q).num=-q.num:=rfl;lia) rfl
theorem iQ(q:Rat):0<=bM q:=Rat.num_nonneg.mp (by rw[fA];lia)
theorem dX(q:Rat):(0<=q/\bM q=q)\/(q<=0/\bM q=-q):=by
 rcases Rat.le_total (a:=0) (b:=q)with h|h
 ·exact .inl ⟨h,cQ h⟩
 ·exact .inr ⟨h,dN h⟩
theorem Cm.abs{L B:Nat}{q:Rat}(h:Cm L B q):Cm L B (bM q):=by
 rcases dX q with⟨_,e⟩|⟨_,e⟩
 ·rw[e];exact h
 ·rw[e];exact h.neg
theorem Dg.abs{n:Nat}{q:Rat}(h:Dg n q):Dg n (bM q):=⟨by rw[fA];exact h.n,h.d⟩
theorem Cm.dg{L B l b:Nat}{q:Rat}(h:Cm L B q)(a:0<L)(c:L<=10^l)(d:B<=10^b):Dg (b+l+1) q:=by
 refine(h.sz a).mono ?_;have e:(B+1)*L<=(10^b+10^b)*10^l:=Nat.mul_le_mul (by have:=Nat.pow_pos (n:=b) (show 0<10 by decide);lia) c;have:=jK b l;rw[Nat.add_mul (10^b)]at e
 lia
end Fm
namespace Dl
open PySem PySem.Spec PyProof.Rows L2 Lx
inductive Sl where
 |dat (d:PyData)
 |own (ds:List PyData)
  |exc (C:Addr)
  |two (xs ys:List PyData)
  |fz (as:List Addr) (d:PyData)
noncomputable abbrev cI:=List (Option Sl)
noncomputable def slot:cI->Nat->Option Sl
 |[],_=>none
 |x::_,0=>x
 |_::a,n+1=>slot a n
noncomputable def iU(s:Option Sl):Nat->cI->cI
 |_,[]=>[]
 |0,_::a=>s::a
 |n+1,x::a=>x::iU s n a
theorem fM(s:Option Sl):∀(i j:Nat)(b:cI),slot (iU s i b) j=if j=i/\i<b.length then s else slot b j
 |i,j,[]=>by cases i <;>simp[iU,slot]
 |0,0,x::a=>by simp[iU,slot]
 |0,j+1,x::a=>by simp[iU,slot]
 |i+1,0,x::a=>by simp[iU,slot]
 |i+1,j+1,x::a=>by
  have:=fM s i j a;simp only[iU,slot,this,List.length_cons];simp
theorem gK(s:Option Sl):∀(i:Nat)(a:cI),(iU s i a).length=a.length
 |i,[]=>by cases i <;>rfl
 |0,x::b=>rfl
 |i+1,x::b=>by simp[iU,gK s i b]
theorem jM{K:PySem.W.Frag}{H b:Hp}{a:Addr}{c:List V}(e:Same H b)(h:SqT K H a c):SqT K b a c:=by
 rcases h with(h|⟨o,h⟩)|h
 ·exact .inl (.inl (e _ _ h))
 ·exact .inl (.inr ⟨o,e _ _ h⟩)
 ·exact .inr h
mutual
theorem cX{K:PySem.W.Frag}{H c:Hp}(s:Same H c):∀{x:V}{d:PyData},DV K H x d->DV K c x d
 |_,_,.non=>.non
 |_,_,.bl b=>.bl b
 |_,_,.int i=>.int i
 |_,_,.str x=>.str x
 |_,_,.tup h a=>.tup (jM s h) (bA s a)
 |_,_,.lst h a=>.lst (s.seq h) (bA s a)
 |_,_,.dct h=>.dct (s _ _ h)
theorem bA{K:PySem.W.Frag}{H a:Hp}(s:Same H a):∀{b:List V}{c:List PyData},DVs K H b c->DVs K a b c
 |_,_,.nil=>.nil
 |_,_,.cons h t=>.cons (cX s h) (bA s t)
end
mutual
def mM:PyData->Bool
 | .none=>true
 | .bool _=>true
 | .int _=>true
 | .str _=>true
 | .list _=>false
 | .tuple a=>eS a
 | .dict _=>true
def eS:List PyData->Bool
 |[]=>true
 |d::a=>mM d && eS a
end
noncomputable def Sub(G H:Hp):Prop:=∀b,G b=H b\/(G b=none/\∃a,H b=some (.lst a))
theorem Sub.same{G H:Hp}(s:Sub G H):Same G H:=λb o e=>by
 rcases s b with h|⟨h,_⟩
 ·rw[<-h];exact e
 ·rw[h]at e;cases e
theorem Sub.refl(H:Hp):Sub H H:=λ_=>.inl rfl
theorem Sub.other{G H:Hp}(s:Sub G H){b:Addr}{o:HO}(h:H b=some o)(n:∀a,o≠ .lst a):G b=some o:=by
 rcases s b with e|⟨_,a,e⟩
 ·rw[e];exact h
 ·rw[h]at e;cases e;exact absurd rfl (n a)
mutual
theorem wJ{K:PySem.W.Frag}{G H:Hp}(s:∀b o,H b=some o->(∀a,o≠ .lst a)->G b=some o):∀{x:V}{d:PyData},DV K H x d->mM d=true->DV K G x d
 |_,_,.non,_=>.non
 |_,_,.bl b,_=>.bl b
 |_,_,.int i,_=>.int i
 |_,_,.str x,_=>.str x
 | _,_,.tup h c,f=>.tup (by
   rcases h with(h|⟨o,h⟩)|h
   ·exact .inl (.inl (s _ _ h (by intro a z;cases z)))
   ·exact .inl (.inr ⟨o,s _ _ h (by intro a z;cases z)⟩)
   ·exact .inr h) (kK s c f)
 |_,_,.lst _ _,f=>by cases f
 |_,_,.dct h,_=>.dct (s _ _ h (by intro a z;cases z))
theorem kK{K:PySem.W.Frag}{G H:Hp}(s:∀b o,H b=some o->(∀a,o≠ .lst a)->G b=some o):∀{a:List V}{c:List PyData},DVs K H a c->eS c=true->DVs K G a c
 |_,_,.nil,_=>.nil
 |_,_,.cons h t,f=>by
  simp only[eS,Bool.and_eq_true]at f;exact .cons (wJ s h f.1) (kK s t f.2)
end
end Dl
namespace Lx
open PySem PySem.Spec PyProof.Rows L2
theorem DVs.len{K:PySem.W.Frag}{H:Hp}:∀{a:List V}{b:List PyData},DVs K H a b->a.length=b.length
 |_,_,.nil=>rfl
 |_,_,.cons _ t=>congrArg (·+1) (DVs.len t)
theorem DVs.at{K:PySem.W.Frag}{H:Hp}:∀{a:List V}{b:List PyData}{i:Nat}{d:PyData},DVs K H a b->b[i]? =some d->∃x,a[i]? =some x/\DV K H x d
 |_,_,_,_,.nil,e=>by simp at e
 |_,_,0,_,.cons h _,e=>by
  simp at e;subst e;exact⟨_,rfl,h⟩
 |_,_,i+1,_,.cons _ t,e=>by
  obtain⟨x,c,f⟩:=DVs.at (i:=i) t (by simpa using e);exact⟨x,by simpa using c,f⟩
theorem DVs.append{K:PySem.W.Frag}{H:Hp}:∀{a b:List V}{c d:List PyData},DVs K H a c->DVs K H b d->DVs K H (a++b) (c++d)
 |_,_,_,_,.nil,h=>h
 |_,_,_,_,.cons r t,h=>.cons r (DVs.append t h)
theorem DVs.take{K:PySem.W.Frag}{H:Hp}:∀{a:List V}{b:List PyData}(n:Nat),DVs K H a b->DVs K H (a.take n) (b.take n)
 |_,_,0,_=>by simp only[List.take_zero];exact .nil
 |_,_,_+1,.nil=>.nil
 |_,_,n+1,.cons r t=>.cons r (DVs.take n t)
theorem DVs.drop{K:PySem.W.Frag}{H:Hp}:∀{a:List V}{b:List PyData}(n:Nat),DVs K H a b->DVs K H (a.drop n) (b.drop n)
 |_,_,0,h=>by simp only[List.drop_zero];exact h
 |_,_,_+1,.nil=>.nil
 |_,_,n+1,.cons _ t=>DVs.drop n t
theorem DVs.set{K:PySem.W.Frag}{H:Hp}{x:V}{d:PyData}(r:DV K H x d):∀{a:List V}{b:List PyData}(i:Nat),DVs K H a b->DVs K H (a.set i x) (b.set i d)
 |_,_,_,.nil=>.nil
 |_,_,0,.cons _ t=>.cons r t
 |_,_,i+1,.cons q t=>.cons q (DVs.set r i t)
theorem DVs.rev{K:PySem.W.Frag}{H:Hp}:∀{a:List V}{b:List PyData},DVs K H a b->DVs K H a.reverse b.reverse
 |_,_,.nil=>.nil
 |_,_,.cons r t=>by
  rw[List.reverse_cons,List.reverse_cons];exact DVs.append (DVs.rev t) (.cons r .nil)
end Lx
namespace Dl
open PySem PySem.Spec PyProof.Rows L2 Lx
inductive FzIs(K:PySem.W.Frag)(G:Hp):V->List Addr->PyData->Prop
 |pair {t a b:Addr} {vs ws:List V} {xs ys:List PyData}:SqT K G t [.ref a,.ref b]->a≠b->G a=some (.lst vs)->G b=some (.lst ws)->DVs K G vs xs->DVs K G ws ys->FzIs K G (.ref t) [a,b] (.tuple [.list xs,.list ys])
 |one {a:Addr} {vs:List V} {ds:List PyData}:G a=some (.lst vs)->DVs K G vs ds->FzIs K G (.ref a) [a] (.list ds)
theorem FzIs.same{K:PySem.W.Frag}{G c:Hp}{v:V}{e:List Addr}{d:PyData}(s:Same G c)(h:FzIs K G v e d):FzIs K c v e d:=by
 cases h with
 |pair a b f g i j=>exact .pair (jM s a) b (s _ _ f) (s _ _ g) (bA s i) (bA s j)
 |one a b=>exact .one (s _ _ a) (bA s b)
theorem FzIs.dv{K:PySem.W.Frag}{G:Hp}{v:V}{c:List Addr}{d:PyData}(h:FzIs K G v c d):DV K G v d:=by
 cases h with
 |pair a b e f g i=>exact .tup a (.cons (.lst (SqL.of e) g) (.cons (.lst (SqL.of f) i) .nil))
 |one a b=>exact .lst (SqL.of a) b
noncomputable def SlIs(K:PySem.W.Frag)(G H:Hp)(v:V):Sl->Prop
 | .dat d=>DV K G v d
 | .own c=>∃a b,v= .ref a/\G a=none/\H a=some (.lst b)/\DVs K G b c
 | .exc C=>∃x,v= .ref x/\G x=some (.ext (Np x C))
 | .two _ _=>False
 | .fz e d=>FzIs K G v e d
structure Sees(K:PySem.W.Frag)(H₀ G:Hp)(δ:cI)(σ:L2.St)(H:Hp):Prop where
 old:Same H₀ G
 sub:Sub G H
 len:δ.length<=σ.length
 has:∀i s,slot δ i=some s->∃v,σ[i]? =some (some v)/\SlIs K G H v s
 sep:∀i j xs ys a,slot δ i=some (.own xs)->slot δ j=some (.own ys)->σ[i]? =some (some (.ref a))->σ[j]? =some (some (.ref a))->i=j
structure Ext(G H G' H':Hp):Prop where
 g:Same G G'
 h:Same H H'
 s:Sub G' H'
 n:∀b o,G' b=some o->G b=some o\/H b=none
theorem Ext.refl{G H:Hp}(s:Sub G H):Ext G H G H:=⟨Same.refl _,Same.refl _,s,λ_ _ h=>.inl h⟩
theorem Ext.trans{G H d e f g:Hp}(a:Ext G H d e)(b:Ext d e f g):Ext G H f g:=
 ⟨a.g.trans b.g,a.h.trans b.h,b.s,λc o h=>by
  rcases b.n c o h with z|z
  ·exact a.n c o z
  ·exact .inr (a.h.free z)⟩
theorem Ext.keep{G H b c:Hp}(e:Ext G H b c){a:Addr}(d:G a=none){o:HO}(f:H a=some o):b a=none:=by
 cases q:b a with
 |none=>rfl
 |some u=>
  rcases e.n a u q with z|z
  ·rw[d]at z;cases z
  ·rw[f]at z;cases z
section
variable{K:PySem.W.Frag}{H₀ G H G' H':Hp}{δ:cI}{σ:L2.St}
theorem SlIs.ext{v:V}{s:Sl}(e:Ext G H G' H')(h:SlIs K G H v s):SlIs K G' H' v s:=by
 cases s with
 |dat d=>exact cX e.g h
 |own j=>
  refine qq λqz=>?_;obtain⟨a,c,rfl,f,b,g⟩:=h;apply qz;exact⟨a,c,rfl,e.keep f b,e.h _ _ b,bA e.g g⟩
 |two k l=>exact h.elim
 |fz m d=>exact FzIs.same e.g h
 |exc C=>
  obtain⟨x,rfl,i⟩:=h;exact⟨x,rfl,e.g _ _ i⟩
theorem Sees.ext(S:Sees K H₀ G δ σ H)(e:Ext G H G' H'):Sees K H₀ G' δ σ H':=
 ⟨S.old.trans e.g,e.s,S.len,λi s h=>by
  obtain⟨v,a,b⟩:=S.has i s h
  exact⟨v,a,b.ext e⟩,S.sep⟩
theorem Sees.refl(S:Sees K H₀ G δ σ H):Ext G H G H:=.refl S.sub
theorem Sees.oldH(S:Sees K H₀ G δ σ H):Same H₀ H:=S.old.trans S.sub.same
theorem jN:∀{δ:cI}{i:Nat}{s:Sl},slot δ i=some s->i<δ.length
 |[],_,_,h=>by cases h
 |_::_,0,_,_=>Nat.zero_lt_succ _
 |_::a,i+1,s,h=>Nat.succ_lt_succ (jN (δ:=a) (i:=i) (s:=s) h)
theorem Sees.setS{v:V}{s:Sl}(S:Sees K H₀ G δ σ H)(i:Nat)(h:SlIs K G H v s)(q:∀t j w a,s= .own t->slot δ j=some (.own w)->σ[j]? =some (some (.ref a))->v≠ .ref a):Sees K H₀ G (iU (some s) i δ) (σ.set i (some v)) H:=by
 have look:∀j u,slot (iU (some s) i δ) j=some u->(j=i/\u=s/\(σ.set i (some v))[j]? =some (some v))\/(j≠i/\slot δ j=some u/\(σ.set i (some v))[j]? =σ[j]?):=λj u b=>by
  rw[fM]at b;split at b
  ·rename_i n
   refine qq λqz=>?_;obtain⟨rfl,x⟩:=n;apply qz;cases b;exact .inl ⟨rfl,rfl,by rw[List.getElem?_set_self (Nat.lt_of_lt_of_le x S.len)]⟩
  ·rename_i n
   have f:j≠i:=λz=>n ⟨z,by rw[<-z];exact jN b⟩;exact .inr ⟨f,b,by rw[List.getElem?_set_ne (Ne.symm f)]⟩
 refine⟨S.old,S.sub,by rw[gK,List.length_set];exact S.len,λj u b=>?_,λj k o p a b y c d=>?_⟩
 ·rcases look j u b with⟨rfl,rfl,e⟩|⟨_,g,e⟩
  ·exact⟨v,e,h⟩
  ·rw[e];exact S.has j u g
 ·rcases look j _ b with⟨rfl,A,l⟩|⟨C,g,l⟩ <;>rcases look k _ y with⟨rfl,B,m⟩|⟨D,r,m⟩
  ·rfl
  ·rw[l]at c;rw[m]at d;cases c;exact absurd rfl (q o k p a A.symm r d)
  ·rw[l]at c;rw[m]at d;cases d;exact absurd rfl (q p j o a B.symm g c)
  ·rw[l]at c;rw[m]at d;exact S.sep j k o p a g r c d
theorem Sees.setD{v:V}{d:PyData}(S:Sees K H₀ G δ σ H)(i:Nat)(h:DV K G v d):Sees K H₀ G (iU (some (.dat d)) i δ) (σ.set i (some v)) H:=
 S.setS i (s:=.dat d) h λ_ _ _ _ z=>nomatch z
theorem Sees.ownAt(S:Sees K H₀ G δ σ H){i:Nat}{c:List PyData}(h:slot δ i=some (.own c)):∃a b,σ[i]? =some (some (.ref a))/\G a=none/\H a=some (.lst b)/\DVs K G b c:=by
 refine qq λqz=>?_;obtain⟨v,d,a,b,rfl,e,f,g⟩:=S.has i _ h;apply qz;exact⟨a,b,d,e,f,g⟩
theorem Sees.setO{a:Addr}{d:List V}{f:List PyData}(S:Sees K H₀ G δ σ H)(e:Ext G H G' H')(i:Nat)(k:H a=none)(l:G' a=none)(m:H' a=some (.lst d))(n:DVs K G' d f):
  Sees K H₀ G' (iU (some (.own f)) i δ) (σ.set i (some (.ref a))) H':=
 (S.ext e).setS i (s:=.own f) ⟨a,d,rfl,l,m,n⟩ λ_ j q b _ o p z=>by
  cases z;obtain⟨c,r,g,t,h,u⟩:=S.ownAt o;rw[p]at g;cases g;rw[k]at h;cases h
theorem Sees.updO{i:Nat}{a:Addr}{n o:List PyData}{p:List V}(S:Sees K H₀ G δ σ H)(h:slot δ i=some (.own n))(q:σ[i]? =some (some (.ref a)))(D:DVs K G p o):
  Sees K H₀ G (iU (some (.own o)) i δ) σ (eO H a (.lst p)):=by
 refine qq λqz=>?_;obtain⟨b,x,y,A,L,M⟩:=S.ownAt h;apply qz;rw[q]at y;cases y;have look:∀j u,slot (iU (some (.own o)) i δ) j=some u->(j=i/\u= .own o)\/(j≠i/\slot δ j=some u):=λj u e=>by
  rw[fM]at e;split at e
  ·rename_i r
   cases e;exact .inl ⟨r.1,rfl⟩
  ·rename_i r
   exact .inr ⟨λz=>r ⟨z,by rw[<-z];exact jN e⟩,e⟩
 refine⟨S.old,λc=>?_,by rw[gK];exact S.len,λj u e=>?_,λj k f s c e E t w=>?_⟩
 ·by_cases z:c=a
  ·subst z;exact .inr ⟨A,p,bN⟩
  ·rw[bE z];exact S.sub c
 ·rcases look j u e with⟨rfl,rfl⟩|⟨B,g⟩
  ·exact⟨_,q,a,p,rfl,A,bN,D⟩
  ·obtain⟨v,l,m⟩:=S.has j u g;refine⟨v,l,?_⟩;cases u with
   |dat d=>exact m
   |two f s=>exact m.elim
   |fz N d=>exact m
   |exc C=>exact m
   |own f=>
    refine qq λqz=>?_;obtain⟨c,x,rfl,F,I,J⟩:=m;apply qz;refine⟨c,x,rfl,F,?_,J⟩;rw[bE (λz=>?_)]
    ·exact I
    ·subst z;exact B (S.sep j i f n c g h l q)
 ·rcases look j _ e with⟨rfl,_⟩|⟨B,g⟩ <;>rcases look k _ E with⟨rfl,_⟩|⟨O,l⟩
  ·rfl
  ·exact S.sep j k n s c h l t w
  ·exact S.sep j k f n c g h t w
  ·exact S.sep j k f s c g l t w
theorem Sees.frz{i:Nat}{m:List PyData}(S:Sees K H₀ G δ σ H)(h:slot δ i=some (.own m)):∃G',Same G G'/\Sees K H₀ G' (iU (some (.dat (.list m))) i δ) σ H:=by
 refine qq λqz=>?_;obtain⟨a,r,s,y,A,B⟩:=S.ownAt h;apply qz;have g:Same G (eO G a (.lst r)):=λb o e=>by rw[bE (bT e y)];exact e
 refine⟨eO G a (.lst r),g,S.old.trans g,λb=>?_,by rw[gK];exact S.len,λj u f=>?_,λj k n t c f D E F=>?_⟩
 ·by_cases z:b=a
  ·subst z;exact .inl (by rw[bN,A])
  ·rw[bE z];exact S.sub b
 ·rw[fM]at f;split at f
  ·rename_i p
   cases f;exact⟨_,by rw[p.1];exact s,.lst (SqL.of bN) (bA g B)⟩
  ·rename_i p
   have q:j≠i:=λz=>p ⟨z,by rw[<-z];exact jN f⟩;obtain⟨v,w,l⟩:=S.has j u f;refine⟨v,w,?_⟩;cases u with
   |dat d=>exact cX g l
   |two n t=>exact l.elim
   |fz O d=>exact FzIs.same g l
   |exc C=>
    obtain⟨x,rfl,I⟩:=l;exact⟨x,rfl,g _ _ I⟩
   |own n=>
    refine qq λqz=>?_;obtain⟨c,J,rfl,L,M,N⟩:=l;apply qz;refine⟨c,J,rfl,?_,M,bA g N⟩;rw[bE (λz=>?_)]
    ·exact L
    ·subst z;exact q (S.sep j i n m c f h w s)
 ·have look:∀j u,slot (iU (some (.dat (.list m))) i δ) j=some (.own u)->slot δ j=some (.own u):=λj u f=>by
   rw[fM]at f;split at f
   ·cases f
   ·exact f
  exact S.sep j k n t c (look _ _ f) (look _ _ D) E F
end
noncomputable abbrev DX:=Addr->Prop
noncomputable abbrev DE:=DX->cI->(PyData->Prop)->Prop
noncomputable abbrev DL:=DX->cI->(List PyData->Prop)->Prop
noncomputable abbrev DT:=DX->cI->(Bool->Prop)->Prop
noncomputable def iI(a:Hp)(E:XK)(c:DX):Prop:=∀C b,Same a b->c C->E (.ref C) none b
section
variable(K:PySem.W.Frag)(H₀:Hp)(E:XK)
noncomputable def gI(h:TE)(i:DE):Prop:=∀a b c G H e Q,iI H₀ E a->Sees K H₀ G b c H->i a b e->(∀v d f g,Ext G H f g->DV K f v d->e d->Q v g)->h c H Q
noncomputable def oX(g:TE)(h:DE):Prop:=∀b c e G H f Q,iI H₀ E b->Sees K H₀ G c e H->h b c f->(∀v d i a,Ext G H i a->DV K a v d->f d->Q v a)->g e H Q
noncomputable def Bl(j:TE)(k:DL):Prop:=∀c d e G H f Q,iI H₀ E c->Sees K H₀ G d e H->k c d f->(∀a g h i b,Ext G H i b->SqL K b a g->DVs K i g h->f h->Q (.ref a) b)->j e H Q
noncomputable def uR(j:TE)(k:DL):Prop:=∀d e f G H g Q,iI H₀ E d->Sees K H₀ G e f H->k d e g->(∀a h i b c,Ext G H b c->H a=none->b a=none->c a=some (.lst h)->DVs K b h i->g i->Q (.ref a) c)->j f H Q
noncomputable def yD(g:TT)(h:DT):Prop:=∀a c d G H e Q,iI H₀ E a->Sees K H₀ G c d H->h a c e->(∀b i f,Ext G H i f->e b->Q b f)->g d H Q
noncomputable def yE(h:TA)(i:DL):Prop:=∀b c d G H e Q,iI H₀ E b->Sees K H₀ G c d H->i b c e->(∀f g j a,Ext G H j a->DVs K a f g->e g->Q f a)->h d H Q
noncomputable def Jo(i:TA)(n:Nat)(j:DL):Prop:=∀b c d G H e Q,iI H₀ E b->Sees K H₀ G c d H->j b c e->(∀f a g h,Ext G H g h->DVs K g f a->a.length=n->e a->Q f h)->i d H Q
end
noncomputable def Ak(i:Nat)(a:DX)(b:cI)(Q:PyData->Prop):Prop:=match slot b i with
 |some (.dat d)=>Q d
 |_=>False
noncomputable def mS(i:Nat)(a:DX)(b:cI)(Q:PyData->Prop):Prop:=match slot b i with
 |some (.dat d)=>Q d
 |some (.own c)=>Q (.list c)
 |_=>False
noncomputable def Ap(i:Nat)(b:DX)(c:cI)(Q:List PyData->Prop):Prop:=match slot c i with
 |some (.dat (.list a))=>Q a
 |some (.own a)=>Q a
 |_=>False
noncomputable def dC(d:PyData)(a:DX)(b:cI)(Q:PyData->Prop):Prop:=Q d
noncomputable def Qa(a:DL)(b:DX)(c:cI)(Q:PyData->Prop):Prop:=a b c λd=>Q (.list d)
noncomputable def tE(a:DE)(b:DX)(c:cI)(Q:List PyData->Prop):Prop:=a b c λd=>match d with
 | .list e=>Q e
 |_=>False
noncomputable def Ao(a:DX)(b:cI)(Q:List PyData->Prop):Prop:=Q []
noncomputable def tD(c:DE)(e:DL)(a:DX)(b:cI)(Q:List PyData->Prop):Prop:=c a b λd=>e a b λf=>Q (d::f)
section
variable{K:PySem.W.Frag}{H₀:Hp}{E:XK}{te:TE}{de:DE}{dl:DL}{ta:TA}
theorem aB(h:gI K H₀ E te de):oX K H₀ E te de:=λa b c G H f Q g S q k=>
 h a b c G H f Q g S q λv d i j e l=>k v d i j e (cX e.s.same l)
theorem dJ(h:uR K H₀ E te dl):gI K H₀ E te (Qa dl):=λg i j G H v Q l S q k=>
 h g i j G H _ Q l S q λa d m c n e p r s t u=>by
  have f:Same c (eO c a (.lst d)):=λb o z=>by rw[bE (bT z r)];exact z
  refine k (.ref a) (.list m) (eO c a (.lst d)) n ⟨e.g.trans f,e.h,λb=>?_,λb o z=>?_⟩ (.lst (SqL.of bN) (bA f t)) u
  ·by_cases w:b=a
   ·subst w;exact .inl (by rw[bN,s])
   ·rw[bE w];exact e.s b
  ·by_cases w:b=a
   ·subst w;exact .inr p
   ·rw[bE w]at z;exact e.n b o z
theorem oG(h:uR K H₀ E te dl):Bl K H₀ E te dl:=λb c d G H p Q f S q k=>
 h b c d G H _ Q f S q λa g i j l e r s m n o=>k a g i j l e (SqL.of m) n o
theorem dY{G:Hp}{v:V}{b:List PyData}(h:DV K G v (.list b)):∃a c,v= .ref a/\SqL K G a c/\DVs K G c b:=by
 cases h with
 |lst d e=>exact⟨_,_,rfl,d,e⟩
theorem iF{G:Hp}{v:V}{b:List PyData}(h:DV K G v (.tuple b)):∃a c,v= .ref a/\SqT K G a c/\DVs K G c b:=by
 cases h with
 |tup d e=>exact⟨_,_,rfl,d,e⟩
theorem cT{G:Hp}{v:V}{i:Int}(h:DV K G v (.int i)):v= .int i:=by cases h;rfl
theorem mP{G:Hp}{v:V}{i:Bool}(h:DV K G v (.bool i)):v= .bl i:=by cases h;rfl
theorem rB{G:Hp}{v:V}{i:Str}(h:DV K G v (.str i)):v= .str i:=by cases h;rfl
theorem aN(i:Nat):gI K H₀ E (nH i) (Ak i):=λe f g G H h Q j S q k=>by
 unfold Ak at q;split at q
 ·rename_i d a
  obtain⟨v,b,c⟩:=S.has i _ a;exact⟨v,b,k v d G H S.refl c q⟩
 ·exact q.elim
theorem aE(i:Nat):oX K H₀ E (nH i) (mS i):=λh j l G H m Q n S q k=>by
 unfold mS at q;split at q
 ·rename_i d b
  obtain⟨v,c,e⟩:=S.has i _ b;exact⟨v,c,k v d G H S.refl (cX S.sub.same e) q⟩
 ·rename_i o b
  obtain⟨a,p,c,e,f,g⟩:=S.ownAt b;exact⟨_,c,k _ _ G H S.refl (.lst (SqL.of f) (bA S.sub.same g)) q⟩
 ·exact q.elim
theorem bL(i:Nat):Bl K H₀ E (nH i) (Ap i):=λj l m G H n Q o S q k=>by
 unfold Ap at q;split at q
 ·rename_i b c
  obtain⟨v,d,h⟩:=S.has i _ c;obtain⟨a,e,rfl,f,g⟩:=dY h;exact⟨_,d,k a e b G H S.refl (S.sub.same.seq f) g q⟩
 ·rename_i b c
  obtain⟨a,e,d,h,f,g⟩:=S.ownAt c;exact⟨_,d,k a e b G H S.refl (SqL.of f) g q⟩
 ·exact q.elim
theorem sR{v:V}{d:PyData}(h:∀G:Hp,DV K G v d):gI K H₀ E (tC v) (dC d):=λa b c G H e Q f S q k=>k v d G H S.refl (h G) q
theorem aI{i:Int}:gI K H₀ E (tC (.int i)) (dC (.int i)):=sR λ_=>.int i
theorem sS{i:Bool}:gI K H₀ E (tC (.bl i)) (dC (.bool i)):=sR λ_=>.bl i
theorem fC{i:Str}:gI K H₀ E (tC (.str i)) (dC (.str i)):=sR λ_=>.str i
theorem aM:yE K H₀ E kR Ao:=λa b c G H d Q e S q k=>k [] [] G H S.refl .nil q
theorem aC(h:oX K H₀ E te de)(t:yE K H₀ E ta dl):yE K H₀ E (eG te ta) (tD de dl):=λb c e G H w Q f S q k=>
 h b c e G H _ _ f S q λv d j l g m n=>t b c e j l _ _ f (S.ext g) n λo p r s i a u=>
  k (v::o) (d::p) r s (g.trans i) (.cons (cX i.h m) a) u
theorem bH:Jo K H₀ E kR 0 Ao:=λa b c G H d Q e S q k=>k [] [] G H S.refl .nil rfl q
theorem aO{n:Nat}(h:gI K H₀ E te de)(t:Jo K H₀ E ta n dl):Jo K H₀ E (eG te ta) (n+1) (tD de dl):=λb c e G H y Q f S q k=>
 h b c e G H _ _ f S q λv d j l g m o=>t b c e j l _ _ f (S.ext g) o λp r s u i a w x=>
  k (v::p) (d::r) s u (g.trans i) (.cons (cX i.g m) a) (by rw[List.length_cons,w]) x
theorem qX{G H:Hp}{p:Addr}{xs:List V}(s:Sub G H)(a:H p=none):Ext G H (eO G p (.tup xs)) (eO H p (.tup xs)):=by
 have c:G p=none:=s.same.free a;refine⟨λb o z=>by rw[bE (bT z c)];exact z,λb o z=>by rw[bE (bT z a)];exact z,λb=>?_,λb o z=>?_⟩
 ·by_cases w:b=p
  ·subst w;exact .inl (by rw[bN,bN])
  ·rw[bE w,bE w];exact s b
 ·by_cases w:b=p
  ·subst w;exact .inr a
  ·rw[bE w]at z;exact .inl z
theorem eX{G H:Hp}{p:Addr}{xs:List V}(s:Sub G H)(a:H p=none):Ext G H G (eO H p (.lst xs))/\G p=none:=by
 have c:G p=none:=s.same.free a;refine⟨⟨Same.refl _,λb o z=>by rw[bE (bT z a)];exact z,λb=>?_,λb o z=>.inl z⟩,c⟩;by_cases w:b=p
 ·subst w;exact .inr ⟨c,xs,bN⟩
 ·rw[bE w];exact s b
noncomputable def Mr(dl:DL)(a:DX)(b:cI)(Q:PyData->Prop):Prop:=dl a b λc=>Q (.tuple c)
noncomputable def Nb(dl:DL)(a:DX)(b:cI)(Q:List PyData->Prop):Prop:=dl a b Q
theorem cH{n:Nat}(h:Jo K H₀ E ta n dl)(d:n<=1000):gI K H₀ E (Gb ta) (Mr dl):=λe f g G H s Q i S q k=>
 h e f g G H _ _ i S q λj l t u a b m o=>⟨Nat.le_of_lt (cV (by rw[b.len,m];exact d)),λp r=>by
  have c:=qX (xs:=j) a.s r
  exact k (.ref p) (.tuple l) _ _ (a.trans c) (.tup (SqT.of bN) (bA c.g b)) o⟩
theorem dQ{n:Nat}(h:Jo K H₀ E ta n dl)(e:n<=1000):uR K H₀ E (Ki ta) (Nb dl):=λf g i G H t Q j S q k=>
 h f g i G H _ _ j S q λb l u v a c m o=>⟨Nat.le_of_lt (cV (by rw[c.len,m];exact e)),λp d=>by
  obtain⟨r,s⟩:=eX (xs:=b) a.s d
  exact k p b l _ _ (a.trans r) (a.h.free d) s bN c o⟩
end
section
variable{K:PySem.W.Frag}{H₀:Hp}{E:XK}{te ta tb:TE}{da db de:DE}{dl dk:DL}{t:TA}{tt tu:TT}{dt du:DT}
noncomputable abbrev Oc:=PyData->PyData->(PyData->Prop)->Prop
noncomputable def Bk(K:PySem.W.Frag)(r:R2)(e:Oc):Prop:=∀(G H:Hp)(x y:V)(a b:PyData)(c:PyData->Prop)(Q:VK),DV K H x a->DV K H y b->e a b c->(∀v d,DV K G v d->c d->Q v H)->r x y H Q
noncomputable def Pe(c:Oc)(da db:DE)(a:DX)(b:cI)(Q:PyData->Prop):Prop:=da a b λx=>db a b λy=>c x y Q
theorem aU{r:R2}{a:Oc}(l:Bk K r a)(m:oX K H₀ E ta da)(n:oX K H₀ E tb db):gI K H₀ E (xI r ta tb) (Pe a da db):=λb c e G H o Q f S q k=>
 m b c e G H _ _ f S q λx p s u g w z=>n b c e s u _ _ f (S.ext g) z λy A h i j B C=>
  l h i x y p A o Q (cX j.h w) B C λv d D F=>k v d h i (g.trans j) D F
noncomputable def oI(C:Int->Int->Prop)(f:Int->Int->Int)(x y:PyData)(Q:PyData->Prop):Prop:=match x,y with
 | .int i,.int j=>C i j/\Q (.int (f i j))
 |_,_=>False
noncomputable def Mb(f:Int->Int->Int)(x y:PyData)(Q:PyData->Prop):Prop:=match x,y with
 | .int i,.int j=>Q (.int (f i j))
 |_,_=>False
noncomputable def Pa(f:Int->Int->Bool)(x y:PyData)(Q:PyData->Prop):Prop:=match x,y with
 | .int i,.int j=>Q (.bool (f i j))
 |_,_=>False
theorem bZ{C:Int->Int->Prop}{f:Int->Int->Int}:Bk K (rI C λi j=>.int (f i j)) (oI C f):=by
 intro G H x y c d e Q a b q k;unfold oI at q;split at q
 ·cases cT a;cases cT b;exact⟨_,_,rfl,rfl,q.1,k _ _ (.int _) q.2⟩
 ·exact q.elim
theorem cN{f:Int->Int->Int}:Bk K (Bx λi j=>.int (f i j)) (Mb f):=by
 intro G H x y c d e Q a b q k;unfold Mb at q;split at q
 ·cases cT a;cases cT b;exact⟨_,_,rfl,rfl,k _ _ (.int _) q⟩
 ·exact q.elim
theorem kB{f:Int->Int->Bool}:Bk K (Bx λi j=>.bl (f i j)) (Pa f):=by
 intro G H x y c d e Q a b q k;unfold Pa at q;split at q
 ·cases cT a;cases cT b;exact⟨_,_,rfl,rfl,k _ _ (.bl _) q⟩
 ·exact q.elim
noncomputable def Oz(x y:PyData)(Q:PyData->Prop):Prop:=match x,y with
 | .int i,.int j=>Q (.bool (decide (i=j)))
 | .str i,.str j=>Q (.bool (decide (i=j)))
 | .bool i,.bool j=>Q (.bool (decide (i=j)))
 |_,_=>False
noncomputable def Ow(x y:PyData)(Q:PyData->Prop):Prop:=match x,y with
 | .int i,.int j=>Q (.bool (!decide (i=j)))
 | .str i,.str j=>Q (.bool (!decide (i=j)))
 | .bool i,.bool j=>Q (.bool (!decide (i=j)))
 |_,_=>False
theorem fE:Bk K Pv Oz:=by
 intro G H x y c d e Q a b q k;unfold Oz at q;split at q
 ·cases cT a;cases cT b;refine⟨rfl,k _ _ (.bl _) ?_⟩;simpa using q
 ·cases rB a;cases rB b;refine⟨rfl,k _ _ (.bl _) ?_⟩;simpa using q
 ·cases mP a;cases mP b;refine⟨rfl,k _ _ (.bl _) ?_⟩;simpa using q
 ·exact q.elim
theorem Ef:Bk K Pu Ow:=by
 intro G H x y c d e Q a b q k;unfold Ow at q;split at q
 ·cases cT a;cases cT b;refine⟨rfl,k _ _ (.bl _) ?_⟩;simpa using q
 ·cases rB a;cases rB b;refine⟨rfl,k _ _ (.bl _) ?_⟩;simpa using q
 ·cases mP a;cases mP b;refine⟨rfl,k _ _ (.bl _) ?_⟩;simpa using q
 ·exact q.elim
noncomputable def Oy(x y:PyData)(Q:PyData->Prop):Prop:=∃(c:Type)(e:Enc c)(a b:c),x=e.d a/\y=e.d b/\∀k:Bool,(k=true↔a=b)->Q (.bool k)
noncomputable def Ov(x y:PyData)(Q:PyData->Prop):Prop:=∃(c:Type)(e:Enc c)(a b:c),x=e.d a/\y=e.d b/\∀k:Bool,(k=true↔a=b)->Q (.bool !k)
theorem qH:Bk K (xM K false) Oy:=by
 rintro G H x y i j l Q d f ⟨g,e,a,b,rfl,rfl,q⟩ k;exact⟨g,e,a,b,d,f,λc h=>k _ _ (.bl _) (q c h)⟩
theorem qG:Bk K (xM K true) Ov:=by
 rintro G H x y i j l Q d f ⟨g,e,a,b,rfl,rfl,q⟩ k;exact⟨g,e,a,b,d,f,λc h=>k _ _ (.bl _) (q c h)⟩
noncomputable def Ox(x y:PyData)(Q:PyData->Prop):Prop:=∃(b:Type)(e:Enc b)(a:b)(c:List b),x=e.d a/\y= .list (c.map e.d)/\∀k:Bool,(k=true↔a∈c)->Q (.bool k)
theorem Gp:Bk K (Gv K false) Ox:=by
 rintro G H x y i j l Q b d ⟨f,e,a,g,rfl,rfl,q⟩ k;exact⟨f,e,a,g,b,d,λc h=>k _ _ (.bl _) (q c h)⟩
noncomputable def Na(da:DE)(a:DX)(b:cI)(Q:PyData->Prop):Prop:=da a b λx=>match x with
 | .int i=>Q (.int (-i))
 |_=>False
theorem fW(b:oX K H₀ E ta da):gI K H₀ E (Po (rU λi=>.int (-i)) ta) (Na da):=λc d e G H n Q f S q k=>
 b c d e G H _ _ f S q λx g h j l m a=>by
  cases g with
  |int i=>
   cases cT m;exact⟨_,rfl,k _ _ h j l (.int _) a⟩
  |_=>exact a.elim
theorem kY{v:Int}(h:gI K H₀ E te de)(d:∀a b Q,Q (.int v)->de a b Q):gI K H₀ E te (dC (.int v)):=λa b e G H c Q f S q k=>h a b e G H c Q f S (d a b c q) k
noncomputable def Iv(f:Int->Int)(da:DE)(a:DX)(b:cI)(Q:PyData->Prop):Prop:=da a b λx=>match x with
 | .int i=>Q (.int (f i))
 |_=>False
theorem fX{k:Int}(h:xC 0 k)(l:oX K H₀ E ta da)(m:gI K H₀ E tb (dC (.int k))):gI K H₀ E (xI (rI xC λi j=>.int (i/j)) ta tb) (Iv (λi=>i/k) da):=λa b c G H B Q e S q n=>
 l a b c G H _ _ e S q λx o p r f s g=>m a b c p r (λd=>d= .int k) _ e (S.ext f) rfl λy C u v w z A=>by
  subst A;cases cT z;cases o with
  |int i=>cases cT s;exact⟨_,_,rfl,rfl,h,n _ _ u v (f.trans w) (.int _) g⟩
  |_=>exact g.elim
theorem dH{k:Int}(h:0<k)(l:oX K H₀ E ta da)(m:gI K H₀ E tb (dC (.int k))):gI K H₀ E (xI (rI (λ_ j=>0<j) λi j=>.int (i%j)) ta tb) (Iv (λi=>i%k) da):=λa b c G H B Q e S q n=>
 l a b c G H _ _ e S q λx o p r f s g=>m a b c p r (λd=>d= .int k) _ e (S.ext f) rfl λy C u v w z A=>by
  subst A;cases cT z;cases o with
  |int i=>cases cT s;exact⟨_,_,rfl,rfl,h,n _ _ u v (f.trans w) (.int _) g⟩
  |_=>exact g.elim
noncomputable def Nc(dl:DL)(db:DE)(a:DX)(b:cI)(Q:PyData->Prop):Prop:=dl a b λc=>db a b λy=>match y with
 | .int i=>∃d,nF c i=some d/\Q d
 |_=>False
theorem lQ{G:Hp}{b:List V}{a:List PyData}{i:Int}{d:PyData}(h:DVs K G b a)(e:nF a i=some d):∃v,nF b i=some v/\DV K G v d:=by
 unfold nF at e⊢;rw[h.len];cases q:Et a.length i with
 |none=>rw[q]at e;cases e
 |some j=>
  rw[q]at e;exact h.at e
theorem dW(l:Bl K H₀ E ta dl)(m:oX K H₀ E tb db):gI K H₀ E (xI (Gu K) ta tb) (Nc dl db):=λe f g G H F Q h S q k=>
 l e f g G H _ _ h S q λa n I o p j r s u=>m e f g o p _ _ h (S.ext j) u λy w x A c B b=>by
  cases w with
  |int i=>
   obtain⟨d,z,b⟩:=b;cases cT B;obtain⟨v,C,D⟩:=lQ s z;exact⟨a,n,i,v,rfl,rfl,c.h.seq r,C,k v d x A (j.trans c) (cX c.g D) b⟩
  |_=>exact b.elim
noncomputable def Er:List PyData->Nat->Option PyData
 |[],_=>none
 |d::_,0=>some d
 |_::a,n+1=>Er a n
theorem qP:∀{ds:List PyData}{k:Nat}{d:PyData},Er ds k=some d->ds[k]? =some d
 |[],_,_,h=>by cases h
 |d::_,0,_,h=>by simpa[Er]using h
 |_::ds,k+1,d,h=>by simpa using qP (ds:=ds) (k:=k) (d:=d) h
noncomputable def Aq(k:Nat)(da:DE)(a:DX)(b:cI)(Q:PyData->Prop):Prop:=da a b λx=>match x with
 | .tuple c=>(match Er c k with
  |some d=>Q d
  |none=>False)
 |_=>False
theorem aW(m:Nat)(e:gI K H₀ E ta da):gI K H₀ E (xI (yW K) ta (tC (.int (m:Int)))) (Aq m da):=λf g h G H y Q i S q k=>
 e f g h G H _ _ i S q λx j l n c o b=>by
  cases j with
  |tuple A=>
   dsimp only at b;split at b
   ·rename_i d z
    refine qq λqz=>?_;obtain⟨a,p,rfl,r,s⟩:=iF o;obtain⟨v,u,w⟩:=lQ s (fS (qP z));apply qz;exact⟨a,p,_,v,rfl,rfl,jM c.s.same r,u,k v _ l n c w b⟩
   ·exact b.elim
  |_=>exact b.elim
noncomputable abbrev Pk:=List PyData->(PyData->Prop)->Prop
noncomputable def Nj(K:PySem.W.Frag)(r:List V->Hp->VK->Prop)(e:Pk):Prop:=∀(G H:Hp)(a:List V)(b:List PyData)(c:PyData->Prop)(Q:VK),DVs K H a b->e b c->(∀v d,DV K G v d->c d->Q v H)->r a H Q
noncomputable def Ob(a:Pk)(dl:DL)(b:DX)(c:cI)(Q:PyData->Prop):Prop:=dl b c λd=>a d Q
theorem eY{r:List V->Hp->VK->Prop}{a:Pk}(e:Nj K r a)(f:yE K H₀ E t dl):gI K H₀ E (Kl r t) (Ob a dl):=λg h i G H j Q l S q k=>
 f g h i G H _ _ l S q λm n b c o p s=>e b c m n j Q p s λv d u w=>k v d b c o u w
noncomputable def Dp(a:List PyData)(Q:PyData->Prop):Prop:=match a with
 |[.int i]=>Q (.int (if i<0 then -i else i))
 |_=>False
noncomputable def Jk(a:List PyData)(Q:PyData->Prop):Prop:=match a with
 |[.int i,.int j]=>Q (.int (if j<i then j else i))
 |_=>False
noncomputable def Jl(b:List PyData)(Q:PyData->Prop):Prop:=match b with
 |[.list a]=>Q (.int a.length)
 |[.tuple a]=>Q (.int a.length)
 |_=>False
noncomputable def Jj(b:List PyData)(Q:PyData->Prop):Prop:=match b with
 |[.list c]=>∃a:List Int,c=a.map PyData.int/\Q (.int a.sum)
 |_=>False
theorem Ag{H:Hp}{a:List V}{d:PyData}(h:DVs K H a [d]):∃x,a=[x]/\DV K H x d:=by
 cases h with
 |cons h t=>cases t;exact⟨_,rfl,h⟩
theorem Mm{H:Hp}{a:List V}{d e:PyData}(h:DVs K H a [d,e]):∃x y,a=[x,y]/\DV K H x d/\DV K H y e:=by
 cases h with
 |cons h t=>cases t with
  |cons b t=>cases t;exact⟨_,_,rfl,h,b⟩
theorem gZ:Nj K (λa H Q=>∃i,a=[.int i]/\Q (.int (if i<0 then -i else i)) H) Dp:=by
 intro G H a c d Q h q k;unfold Dp at q;split at q
 ·refine qq λqz=>?_;obtain⟨x,rfl,b⟩:=Ag h;apply qz;cases cT b;exact⟨_,rfl,k _ _ (.int _) q⟩
 ·exact q.elim
theorem Gr:Nj K (λa H Q=>∃i j,a=[.int i,.int j]/\Q (.int (if j<i then j else i)) H) Jk:=by
 intro G H a d e Q h q k;unfold Jk at q;split at q
 ·refine qq λqz=>?_;obtain⟨x,y,rfl,b,c⟩:=Mm h;apply qz;cases cT b;cases cT c;exact⟨_,_,rfl,k _ _ (.int _) q⟩
 ·exact q.elim
theorem jC:Nj K (λg H Q=>∃p b,g=[.ref p]/\(SqL K H p b\/SqT K H p b)/\Q (.int b.length) H) Jl:=by
 intro G H g i j Q h q k;unfold Jl at q;split at q
 ·refine qq λqz=>?_;obtain⟨x,rfl,c⟩:=Ag h;obtain⟨a,d,rfl,e,f⟩:=dY c;apply qz;exact⟨a,d,rfl,.inl e,k _ _ (.int _) (by rw[f.len];exact q)⟩
 ·refine qq λqz=>?_;obtain⟨x,rfl,c⟩:=Ag h;obtain⟨a,d,rfl,e,f⟩:=iF c;apply qz;exact⟨a,d,rfl,.inr e,k _ _ (.int _) (by rw[f.len];exact q)⟩
 ·exact q.elim
theorem sV{H:Hp}:∀{a:List Int}{b:List V},DVs K H b (a.map PyData.int)->b=a.map V.int
 |[],_,.nil=>rfl
 |n::a,_,.cons h t=>by
  cases cT h;rw[sV t];rfl
theorem Gq:Nj K (λc H Q=>∃(p:Addr)(b:List Int),c=[.ref p]/\SqL K H p (b.map V.int)/\Q (.int b.sum) H) Jj:=by
 intro G H c g i Q h q k;unfold Jj at q;split at q
 ·refine qq λqz=>?_;obtain⟨x,rfl,d⟩:=Ag h;obtain⟨b,rfl,q⟩:=q;obtain⟨a,j,rfl,e,f⟩:=dY d;apply qz;cases sV f;exact⟨a,b,rfl,e,k _ _ (.int _) q⟩
 ·exact q.elim
noncomputable def wO(dl:DL)(a:DX)(b:cI)(Q:List PyData->Prop):Prop:=dl a b Q
theorem lN{te:TE}(f:Bl K H₀ E te dl):uR K H₀ E (Kl (λxs H Q=>∃p b,xs=[.ref p]/\(SqL K H p b\/SqT K H p b)/\∀l,H l=none->Q (.ref l) (eO H l (.lst b))) (eG te kR)) (wO dl):=λg h i G H v Q j S q k=>
 f g h i G H _ _ j S q λa c m w x d n o r=>⟨a,c,rfl,.inl n,λp e=>by
  obtain⟨s,u⟩:=eX (xs:=c) d.s e
  exact k p c m _ _ (d.trans s) (d.h.free e) u bN o r⟩
noncomputable def uZ:PyData->String
 | .none=>"NoneType"
 | .bool _=>"bool"
 | .int _=>"int"
 | .str _=>"str"
 | .list _=>"list"
 | .tuple _=>"tuple"
 | .dict _=>"dict"
noncomputable def Mh(n:String)(d:PyData):Bool:=uZ d==n||(n=="int" && uZ d=="bool")
noncomputable abbrev DO:=DX->cI->(Option Int->Prop)->Prop
noncomputable def Nl(K:PySem.W.Frag)(H₀:Hp)(E:XK)(g:TO)(d:DO):Prop:=∀a b c G H e Q,iI H₀ E a->Sees K H₀ G b c H->d a b e->(∀o h f,Ext G H h f->e o->Q o f)->g c H Q
noncomputable def Mz(a:DX)(b:cI)(Q:Option Int->Prop):Prop:=Q none
noncomputable def Fh(de:DE)(a:DX)(b:cI)(Q:Option Int->Prop):Prop:=de a b λx=>match x with
 | .int i=>Q (some i)
 |_=>False
theorem Lg:Nl K H₀ E vC Mz:=λa b c G H d Q e S q k=>k none G H S.refl q
theorem lO(h:oX K H₀ E te de):Nl K H₀ E (Ea te) (Fh de):=λb c d G H n Q e S q k=>
 h b c d G H _ _ e S q λx f g j l m a=>by
  cases f with
  |int i=>
   cases cT m;exact⟨_,rfl,k _ g j l a⟩
  |_=>exact a.elim
noncomputable def xX{b:Type}(a:List b)(c d:Option Int):List b:=(a.drop (HT.sIx a.length 0 c)).take (HT.sIx a.length a.length d-HT.sIx a.length 0 c)
theorem Dj{b:Type}(a:List b)(k:Nat):xX a (some (k:Int)) none=a.drop k:=by
 unfold xX;rw[HT.sIx_none,HT.sIx_nat];by_cases h:k<=a.length
 ·rw[Nat.min_eq_left h,List.take_of_length_le (by rw[List.length_drop];lia)]
 ·have e:min k a.length=a.length:=by lia
  rw[e,List.drop_length,List.take_nil,List.drop_eq_nil_of_le (by lia)]
noncomputable def Px(dl:DL)(c d2:DO)(a:DX)(b:cI)(Q:List PyData->Prop):Prop:=dl a b λd=>c a b λe=>d2 a b λf=>Q (xX d e f)
theorem Df{G:Hp}{a:List V}{b:List PyData}{c d:Option Int}(h:DVs K G a b):DVs K G (uM a c d) (xX b c d):=by
 unfold uM xX;rw[h.len];exact(h.drop _).take _
theorem Le{j l:TO}{m d2:DO}(s:Bl K H₀ E te dl)(u:Nl K H₀ E j m)(v:Nl K H₀ E l d2):uR K H₀ E (Pp (Gs K) te j l) (Px dl m d2):=λd e f G H N Q h S q k=>
 s d e f G H _ _ h S q λa n O w x i y z A=>u d e f w x _ _ h (S.ext i) A λB C D b F=>v d e f C D _ _ h (S.ext (i.trans b)) F λI P R c J=>
  ⟨a,n,rfl,(b.trans c).h.seq y,λp o=>by
   obtain⟨L,M⟩:=eX (xs:=uM n B I) c.s o
   have r:=i.trans (b.trans c)
   exact k p _ _ _ _ (r.trans L) (r.h.free o) M bN (bA (b.trans c).g (Df z)) J⟩
noncomputable def Jb(de:DE)(a:DX)(c:cI)(Q:Bool->Prop):Prop:=de a c λx=>match x with
 | .bool b=>Q b
 |_=>False
theorem tT(h:oX K H₀ E te de):yD K H₀ E (tB te) (Jb de):=λb c d G H n Q e S q k=>
 h b c d G H _ _ e S q λx f g j l m a=>by
  cases f with
  |bool i=>
   cases mP m;exact⟨_,rfl,k _ g j l a⟩
  |_=>exact a.elim
theorem bQ(h:oX K H₀ E te de):yD K H₀ E (Dz te) (Jb de):=λb c d G H n Q e S q k=>
 h b c d G H _ _ e S q λx f g j l m a=>by
  cases f with
  |bool i=>
   cases mP m;exact⟨_,rfl,k _ g j l a⟩
  |_=>exact a.elim
noncomputable def Py(dt du:DT)(a:DX)(c:cI)(Q:Bool->Prop):Prop:=dt a c λb=>if b=true then Q true else du a c Q
noncomputable def Mw(dt:DT)(a:DX)(c:cI)(Q:Bool->Prop):Prop:=dt a c λb=>Q (!b)
theorem Dy(l:yD K H₀ E tt dt)(m:yD K H₀ E tu du):yD K H₀ E (Pq tt tu) (Py dt du):=λd e f G H s Q g S q k=>
 l d e f G H _ _ g S q λb h i a j=>by
  cases b with
  |false=>exact m d e f h i _ _ g (S.ext a) j λc n o p r=>k c n o (a.trans p) r
  |true=>exact k true h i a j
theorem yL(a:yD K H₀ E tt dt):yD K H₀ E (Kg tt) (Mw dt):=λc d e G H l Q f S q k=>
 a c d e G H _ _ f S q λb g h i j=>k _ g h i j
noncomputable def Ng(dt:DT)(da db:DE)(a:DX)(c:cI)(Q:PyData->Prop):Prop:=dt a c λb=>if b=true then da a c Q else db a c Q
theorem Fb(r:yD K H₀ E tt dt)(s:gI K H₀ E ta da)(u:gI K H₀ E tb db):gI K H₀ E (Pt tt ta tb) (Ng dt da db):=λc e f G H w Q g S q k=>
 r c e f G H _ _ g S q λb n o a p=>by
  cases b with
  |true=>exact s c e f n o _ _ g (S.ext a) p λv d h i j l m=>k v d h i (a.trans j) l m
  |false=>exact u c e f n o _ _ g (S.ext a) p λv d h i j l m=>k v d h i (a.trans j) l m
noncomputable abbrev DW:=List PyData->(Sl->Prop)->DX->Prop
noncomputable def rm(H:Hp)(a:Addr):Hp:=λb=>if b=a then none else H b
noncomputable def nA(K:PySem.W.Frag)(H c:Hp)(v:V):Sl->Prop
 | .dat d=>DV K c v d
 | .own g=>∃a e,v= .ref a/\H a=none/\c a=some (.lst e)/\DVs K (rm c a) e g
 | .exc _=>False
 | .fz _ _=>False
 | .two h i=>∃t a b e f,v= .ref t/\SqT K c t [.ref a,.ref b]/\a≠b/\H a=none/\H b=none/\c a=some (.lst e)/\c b=some (.lst f)/\DVs K (rm (rm c a) b) e h/\DVs K (rm (rm c a) b) f i
noncomputable def fD(K:PySem.W.Frag)(w:DW):Sp:=λe H Q E=>∃b c d,DVs K H e b/\w b c d/\(∀v s a,Same H a->nA K H a v s->c s->Q v a)/\(∀C a,Same H a->d C->E (.ref C) none a)
noncomputable def sP(G H a:Hp):Hp:=λb=>match H b with
 |none=>a b
 |some _=>G b
theorem kI{G H a:Hp}(s:Sub G H)(h:Same H a):Ext G H (sP G H a) a:=by
 refine⟨λb o z=>?_,h,λb=>?_,λb o z=>?_⟩
 ·unfold sP;rw[s.same b o z];exact z
 ·unfold sP;cases q:H b with
  |none=>exact .inl rfl
  |some o=>
   dsimp only;rw[h b o q];have:=s b;rw[q]at this;exact this
 ·unfold sP at z;cases q:H b with
  |none=>exact .inr rfl
  |some u=>rw[q]at z;exact .inl z
theorem kW{G H a:Hp}(s:Sub G H)(h:Same H a):∀b o,a b=some o->(∀c,o≠ .lst c)->sP G H a b=some o:=λb o e n=>by
 unfold sP;cases q:H b with
 |none=>exact e
 |some u=>
  dsimp only;have:=h b u q;rw[e]at this;cases this;exact s.other q n
noncomputable def wG:(PyData->Prop)->Sl->Prop
 |Q,.dat d=>mM d=true/\Q d
 |Q,.own a=>eS a=true/\Q (.list a)
 |_,.exc _=>False
 |_,.fz _ _=>False
 |_,.two _ _=>False
noncomputable def Gz:(List PyData->Prop)->Sl->Prop
 |_,.dat _=>False
 |Q,.own a=>eS a=true/\Q a
 |_,.exc _=>False
 |_,.fz _ _=>False
 |_,.two _ _=>False
noncomputable def Bd:(PyData->Prop)->Sl->Prop
 |Q,.dat d=>Q d
 |Q,.own a=>Q (.list a)
 |_,.exc _=>False
 |_,.fz _ _=>False
 |Q,.two b c=>Q (.tuple [.list b,.list c])
noncomputable def Fl(w:DW)(dl:DL)(a:DX)(b:cI)(Q:PyData->Prop):Prop:=dl a b λc=>w c (wG Q) a
noncomputable def Au(w:DW)(dl:DL)(a:DX)(b:cI)(Q:PyData->Prop):Prop:=dl a b λc=>w c (wG Q) λ_=>False
noncomputable def wQ(w:DW)(dl:DL)(a:DX)(b:cI)(Q:List PyData->Prop):Prop:=dl a b λc=>w c (Gz Q) λ_=>False
noncomputable def wR(w:DW)(dl:DL)(a:DX)(b:cI)(Q:PyData->Prop):Prop:=dl a b λc=>w c (Bd Q) λ_=>False
theorem sQ{H₀:Hp}{E:XK}:iI H₀ E λ_=>False:=λ_ _ _ z=>z.elim
theorem rT{G H c:Hp}{v:V}{s:Sl}{Q:PyData->Prop}(e:Sub G H)(h:Same H c)(r:nA K H c v s)(q:wG Q s):∃d g,Ext G H g c/\DV K g v d/\Q d:=by
 cases s with
 |exc C=>exact r.elim
 |fz _ _=>exact r.elim
 |two n p=>exact q.elim
 |dat d=>exact⟨d,_,kI e h,wJ (kW e h) r q.1,q.2⟩
 |own i=>
  refine qq λqz=>?_;obtain⟨a,j,rfl,k,l,m⟩:=r;apply qz
  have f:DVs K c j i:=bA (λb o z=>by
   unfold rm at z
   split at z
   ·cases z
   ·exact z) m
  refine⟨.list i,_,kI e h,.lst (SqL.of ?_) (kK (kW e h) f q.1),q.2⟩;unfold sP;rw[k];exact l
theorem Bw{G H c:Hp}{v:V}{s:Sl}{Q:List PyData->Prop}(i:Sub G H)(h:Same H c)(r:nA K H c v s)(q:Gz Q s):
  ∃a f g j,v= .ref a/\Ext G H j c/\H a=none/\j a=none/\c a=some (.lst f)/\DVs K j f g/\Q g:=by
 cases s with
 |exc C=>exact r.elim
 |fz _ _=>exact r.elim
 |two w x=>exact q.elim
 |dat d=>exact q.elim
 |own g=>
  refine qq λqz=>?_;obtain⟨a,f,rfl,k,l,m⟩:=r;apply qz;have e:=kI i h;have p:G a=none:=i.same.free k;refine⟨a,f,g,rm (sP G H c) a,rfl,⟨λb o z=>?_,h,λb=>?_,λb o z=>?_⟩,k,by unfold rm;rw[if_pos rfl],l,kK (λb o z n=>?_) m q.1,q.2⟩
  ·unfold rm;rw[if_neg (bT z p)];exact e.g b o z
  ·unfold rm;split
   ·rename_i z;subst z
    exact .inr ⟨rfl,f,l⟩
   ·exact e.s b
  ·unfold rm at z;split at z
   ·cases z
   ·exact e.n b o z
  ·unfold rm at z⊢;split at z
   ·cases z
   ·rename_i u
    rw[if_neg u];exact kW i h b o z n
theorem yU{H:Hp}{a b:Addr}:Same (rm (rm H a) b) H:=λc o z=>by
 unfold rm at z;split at z
 ·cases z
 ·split at z
  ·cases z
  ·exact z
theorem qI{H c:Hp}{v:V}{s:Sl}{Q:PyData->Prop}(r:nA K H c v s)(q:Bd Q s):∃d,DV K c v d/\Q d:=by
 cases s with
 |exc C=>exact r.elim
 |fz _ _=>exact r.elim
 |two h i=>
  refine qq λqz=>?_;obtain⟨t,a,b,j,u,rfl,k,l,w,x,e,m,f,n⟩:=r;apply qz;have g:Same (rm (rm c a) b) c:=yU;exact⟨.tuple [.list h,.list i],.tup k (.cons (.lst (SqL.of e) (bA g f)) (.cons (.lst (SqL.of m) (bA g n)) .nil)),q⟩
 |dat d=>exact⟨d,r,q⟩
 |own p=>
  refine qq λqz=>?_;obtain⟨a,j,rfl,y,e,f⟩:=r;apply qz
  exact⟨.list p,.lst (SqL.of e) (bA (λb o z=>by
   unfold rm at z
   split at z
   ·cases z
   ·exact z) f),q⟩
section
variable{w:DW}
theorem kL{e:XK}{d:DX}{f:cI}{g:L2.St}{G H:Hp}{Q:VK}{h:Sl->Prop}(n:yE K H₀ E t dl)(o:iI H₀ E d)(p:∀a,a=d\/a=(λ_=>False)->iI H₀ e a\/True)(S:Sees K H₀ G f g H)(a:DX)(u:iI H₀ e a)
  (q:dl d f λi=>w i h a) (k:∀v s j c b,Ext G H j c->Same c b->nA K c b v s->h s->Q v b):lD (fD K w) [] e t g H Q:=
 n d f g G H _ _ o S q λB i j c m x y=>by
  refine⟨i,h,a,by rw[List.append_nil];exact x,y,λv s b l r z=>k v s j c b m l r z,λC b l A=>u C b ((S.ext m).oldH.trans l) A⟩
theorem De(c:yE K H₀ E t dl):gI K H₀ E (lD (fD K w) [] E t) (Fl w dl):=λe n o G H p Q a S q k=>
 kL c a (λ_ _=>.inr trivial) S e a q λv s u x f b g r h=>by
  obtain⟨d,i,j,l,m⟩:=rT b.s g r h;exact k v d i f (b.trans j) l m
theorem aL(b:yE K H₀ E t dl):gI K H₀ E (lD (fD K w) [] E0 t) (Au w dl):=λm n o G H p Q c S q k=>
 kL b c (λ_ _=>.inr trivial) S (λ_=>False) sQ q λv s u x e a f r g=>by
  obtain⟨d,h,i,j,l⟩:=rT a.s f r g;exact k v d h e (a.trans i) j l
theorem cK(c:yE K H₀ E t dl):uR K H₀ E (lD (fD K w) [] E0 t) (wQ w dl):=λx y z G H A Q d S q k=>
 kL c d (λ_ _=>.inr trivial) S (λ_=>False) sQ q λv s B C e b f r g=>by
  obtain⟨a,h,i,j,rfl,l,m,n,o,p,u⟩:=Bw b.s f r g;exact k a h i j e (b.trans l) (b.h.free m) n o p u
theorem Ba(b:yE K H₀ E t dl):oX K H₀ E (lD (fD K w) [] E0 t) (wR w dl):=λj l m G H n Q c S q k=>
 kL b c (λ_ _=>.inr trivial) S (λ_=>False) sQ q λv s o p e a f r g=>by
  obtain⟨d,h,i⟩:=qI r g;exact k v d _ e (a.trans (kI a.s f)) h i
end
end
structure DEnds where
 nx:cI->Prop
 rt:Sl->Prop
 ex:DX
 bk:cI->Prop:=λ_=>False
 ct:cI->Prop:=λ_=>False
noncomputable abbrev DS:=DEnds->cI->Prop
structure Lk(K:PySem.W.Frag)(H₀ G:Hp)(e:DEnds)(D:Ends):Prop where
 nx:∀δ σ G' H,Same G G'->Sees K H₀ G' δ σ H->e.nx δ->D.nx σ H
 rt:∀v s H,Same H₀ H->nA K H₀ H v s->e.rt s->D.rt v H
 bk:∀δ σ G' H,Same G G'->Sees K H₀ G' δ σ H->e.bk δ->D.bk σ H
 ct:∀δ σ G' H,Same G G'->Sees K H₀ G' δ σ H->e.ct δ->D.ct σ H
theorem Lk.mono{K:PySem.W.Frag}{a G f:Hp}{e:DEnds}{D:Ends}(L:Lk K a G e D)(s:Same G f):Lk K a f e D:=
 ⟨λb c d H t=>L.nx b c d H (s.trans t),L.rt,λb c d H t=>L.bk b c d H (s.trans t),λb c d H t=>L.ct b c d H (s.trans t)⟩
noncomputable def iX(K:PySem.W.Frag)(a:Hp)(E:XK)(d:TS)(f:DS):Prop:=∀b c G H e D,iI a E e.ex->Sees K a G b c H->f e b->Lk K a G e D->d D c H
noncomputable abbrev DG:=PyData->cI->(cI->Prop)->Prop
noncomputable abbrev Jq:=List PyData->cI->(cI->Prop)->Prop
noncomputable def Kp(c:List Nat)(b a:L2.St):Prop:=a.length=b.length/\∀j,j∉c->a[j]? =b[j]?
noncomputable def Du(K:PySem.W.Frag)(a:Hp)(g:TG)(i:List Nat)(j:DG):Prop:=∀v d f e G H h Q,Sees K a G f e H->DV K G v d->j d f h->(∀c b,Sees K a G c b H->Kp i e b->h c->Q b H)->g v e H Q
noncomputable def Bh(K:PySem.W.Frag)(a:Hp)(g:yC)(j:List Nat)(k:Jq):Prop:=∀e f h d G H i Q,Sees K a G h d H->DVs K G e f->k f h i->(∀c b,Sees K a G c b H->Kp j d b->i c->Q b H)->g e d H Q
section
variable{K:PySem.W.Frag}{H₀:Hp}{E:XK}{te ta tb:TE}{da db de:DE}{dl dk:DL}{t:TA}{tt tu:TT}{dt du:DT}{ts tz:TS}{ds dz:DS}{g:TG}{dg:DG}{gs:yC}{dgs:Jq}{ns ms:List Nat}
noncomputable def Fi(e:DEnds)(a:cI):Prop:=e.nx a
noncomputable def Ms(a d2:DS)(e:DEnds)(b:cI):Prop:=a {e with nx:=d2 e} b
noncomputable def Nh(b d2:DS)(e:DEnds)(c:cI):Prop:=∃I:cI->Prop,b {e with nx:=I} c/\∀a,I a->d2 e a
theorem bU:iX K H₀ E Eb Fi:=λa b G H e D c S q L=>L.nx a b G H (Same.refl _) S q
theorem aQ(d:iX K H₀ E ts ds)(f:iX K H₀ E tz dz):iX K H₀ E (Gc ts tz) (Ms ds dz):=λh i G H e D c S q L=>
 d h i G H {e with nx:=dz e} {D with nx:=tz D} c S q ⟨λa b j k s l m=>f a b j k e D c l m (L.mono s),L.rt,L.bk,L.ct⟩
theorem gY(d:iX K H₀ E ts ds)(f:iX K H₀ E tz dz):iX K H₀ E (Gc ts tz) (Nh ds dz):=λh i G H e D c S ⟨I,q,j⟩ L=>
 d h i G H {e with nx:=I} {D with nx:=tz D} c S q ⟨λa b k l s m n=>f a b k l e D c m (j a n) (L.mono s),L.rt,L.bk,L.ct⟩
noncomputable def Mt(de:DE)(e:DEnds)(a:cI):Prop:=de e.ex a λd=>e.rt (.dat d)
noncomputable def Ff(dl:DL)(e:DEnds)(a:cI):Prop:=dl e.ex a λds=>e.rt (.own ds)
noncomputable def Al(i:Nat)(e:DEnds)(a:cI):Prop:=match slot a i with
 |some (.dat d)=>e.rt (.dat d)
 |some (.own ds)=>e.rt (.own ds)
 |_=>False
theorem mC{G H:Hp}{a:Addr}{c:List V}{ds:List PyData}(d:H₀ a=none)(e:G a=none)(s:Sub G H)(f:H a=some (.lst c))(h:DVs K G c ds):nA K H₀ H (.ref a) (.own ds):=
 ⟨a,c,rfl,d,f,bA (λb o z=>by
  unfold rm
  rw[if_neg (bT z e)]
  exact s.same b o z) h⟩
theorem cC(h:oX K H₀ E te de):iX K H₀ E (yP te) (Mt de):=λa b G H e D c S q L=>
 h e.ex a b G H _ _ c S q λv d k f x i j=>L.rt v (.dat d) f (S.ext x).oldH i j
theorem gJ(h:uR K H₀ E te dl):iX K H₀ E (yP te) (Ff dl):=λb c G H e D d S q L=>
 h e.ex b c G H _ _ d S q λa n ds o f x i j k l m=>L.rt (.ref a) (.own ds) f (S.ext x).oldH (mC (S.oldH.free i) j x.s k l) m
theorem eA(i:Nat):iX K H₀ E (yP (nH i)) (Al i):=λl m G H e D n S q L=>by
 unfold Al at q;split at q
 ·rename_i d b
  obtain⟨v,c,f⟩:=S.has i _ b;exact⟨v,c,L.rt v (.dat d) H S.oldH (cX S.sub.same f) q⟩
 ·rename_i ds b
  refine qq λqz=>?_;obtain⟨v,c,f⟩:=S.has i _ b;obtain⟨a,o,rfl,h,j,k⟩:=f;apply qz;exact⟨_,c,L.rt _ (.own ds) H S.oldH (mC (S.old.free h) h S.sub j k) q⟩
 ·exact q.elim
noncomputable def Fj(de:DE)(e:DEnds)(a:cI):Prop:=de e.ex a λ_=>e.nx a
theorem Bs(h:oX K H₀ E te de):iX K H₀ E (vD te) (Fj de):=λa b G H e D c S q L=>
 h e.ex a b G H _ _ c S q λv d f i x k j=>L.nx a b f i x.g (S.ext x) j
noncomputable def Nf(dt:DT)(c d2:DS)(e:DEnds)(a:cI):Prop:=dt e.ex a λb=>if b=true then c e a else d2 e a
theorem cY(h:yD K H₀ E tt dt)(k:iX K H₀ E ts ds)(l:iX K H₀ E tz dz):iX K H₀ E (Kj tt ts tz) (Nf dt ds dz):=λa c G H e D d S q L=>
 h e.ex a c G H _ _ d S q λb f i x j=>by
  cases b with
  |true=>exact k a c f i e D d (S.ext x) j (L.mono x.g)
  |false=>exact l a c f i e D d (S.ext x) j (L.mono x.g)
noncomputable def uI(i:Nat)(d:PyData)(a:cI)(Q:cI->Prop):Prop:=Q (iU (some (.dat d)) i a)
noncomputable def Aa(ds:List PyData)(a:cI)(Q:cI->Prop):Prop:=match ds with
 |[]=>Q a
 |_=>False
noncomputable def uJ(dg:DG)(dgs:Jq)(ds:List PyData)(b:cI)(Q:cI->Prop):Prop:=match ds with
 |d::r=>dg d b λa=>dgs r a Q
 |[]=>False
noncomputable def zZ(n:Nat)(dgs:Jq)(d:PyData)(a:cI)(Q:cI->Prop):Prop:=match d with
 | .tuple ds=>ds.length=n/\dgs ds a Q
 |_=>False
theorem aJ(i:Nat):Du K H₀ (oK i) [i] (uI i):=λv d c e G H f Q S a q k=>
 k _ _ (S.setD i a) ⟨List.length_set,λj b=>by rw[List.getElem?_set_ne (λz=>b (by simp[z]))]⟩ q
theorem dR:Bh K H₀ Mj [] Aa:=λd ds a b G H e Q S c q k=>by
 unfold Aa at q;split at q
 ·cases c;exact⟨rfl,k a b S ⟨rfl,λ_ _=>rfl⟩ q⟩
 ·exact q.elim
theorem bJ(h:Du K H₀ g ns dg)(i:Bh K H₀ gs ms dgs):Bh K H₀ (Ey g gs) (ns++ms) (uJ dg dgs):=λu ds l m G H v Q S a q k=>by
 unfold uJ at q;split at q
 ·cases a with
  |cons a n=>
   refine⟨_,_,rfl,h _ _ l m G H _ _ S a q λb c o k1 p=>i _ _ b c G H _ _ o n p λd e r k2 s=>k d e r ⟨k2.1.trans k1.1,λj f=>?_⟩ s⟩;rw[k2.2 j (λz=>f (List.mem_append_right _ z)),k1.2 j (λz=>f (List.mem_append_left _ z))]
 ·exact q.elim
theorem dZ{n:Nat}(h:Bh K H₀ gs ns dgs):Du K H₀ (Il K n gs) ns (zZ n dgs):=λv d c e G H l Q S f q k=>by
 unfold zZ at q;split at q
 ·obtain⟨a,i,rfl,j,b⟩:=iF f;exact⟨a,i,rfl,jM S.sub.same j,by rw[b.len];exact q.1,h _ _ c e G H _ _ S b q.2 k⟩
 ·exact q.elim
noncomputable def Ja(de:DE)(dg:DG)(e:DEnds)(a:cI):Prop:=de e.ex a λd=>dg d a e.nx
theorem bC(h:gI K H₀ E te de)(k:Du K H₀ g ns dg):iX K H₀ E (rP te g) (Ja de dg):=λc f G H e D l S q L=>
 h e.ex c f G H _ _ l S q λv d i j x m n=>k v d c f i j _ _ (S.ext x) m n λa b o _ p=>L.nx a b i j x.g o p
noncomputable def Fd(dl:DL)(i:Nat)(e:DEnds)(a:cI):Prop:=dl e.ex a λds=>e.nx (iU (some (.own ds)) i a)
theorem cE(i:Nat)(h:uR K H₀ E te dl):iX K H₀ E (rP te (oK i)) (Fd dl i):=λb c G H e D d S q L=>
 h e.ex b c G H _ _ d S q λa p ds f j x k l m n o=>L.nx _ _ f j x.g (S.setO x i k l m n) o
noncomputable def oF:cI->Bool
 |[]=>true
 |some (.own _)::_=>false
 |_::r=>oF r
theorem eB:∀{δ:cI}{i:Nat}{ds:List PyData},oF δ=true->slot δ i≠some (.own ds)
 |[],_,_,_,h=>by cases h
 |some (.own _)::_,_,_,h,_=>by cases h
 |some (.dat _)::_,0,_,_,h=>by cases h
 |some (.exc _)::_,0,_,_,h=>by cases h
 |some (.fz _ _)::_,0,_,_,h=>by cases h
 |some (.fz _ _)::r,i+1,ds,h,e=>eB (δ:=r) (i:=i) (ds:=ds) h e
 |some (.two _ _)::_,0,_,_,h=>by cases h
 |some (.two _ _)::r,i+1,ds,h,e=>eB (δ:=r) (i:=i) (ds:=ds) h e
 |none::_,0,_,_,h=>by cases h
 |some (.exc _)::r,i+1,ds,h,e=>eB (δ:=r) (i:=i) (ds:=ds) h e
 |some (.dat _)::r,i+1,ds,h,e=>eB (δ:=r) (i:=i) (ds:=ds) h e
 |none::r,i+1,ds,h,e=>eB (δ:=r) (i:=i) (ds:=ds) h e
theorem Sees.all2{G H f:Hp}{k:cI}{m:L2.St}(S:Sees K H₀ G k m H)(h:oF k=true)(b:Same H f):Sees K H₀ f k m f:=
 ⟨S.oldH.trans b,.refl _,S.len,λi s e=>by
  obtain⟨v,l,c⟩:=S.has i s e
  cases s with
  |dat d=>exact⟨v,l,cX (S.sub.same.trans b) c⟩
  |two n o=>exact c.elim
  |fz q d=>exact⟨v,l,FzIs.same (S.sub.same.trans b) c⟩
  |exc C=>
   refine qq λqz=>?_;obtain⟨x,rfl,p⟩:=c;apply qz
   exact⟨_,l,x,rfl,b _ _ (S.sub.same _ _ p)⟩
  |own ds=>exact absurd e (eB h),λi j n o a e=>absurd e (eB h)⟩
noncomputable def Av(w:DW)(dl:DL)(dg:DG)(e:DEnds)(a:cI):Prop:=dl e.ex a λds=>oF a=true/\w ds (Bd λd=>dg d a e.nx) λ_=>False
theorem rR{w:DW}(k:yE K H₀ E t dl)(l:Du K H₀ g ns dg):iX K H₀ E (rP (lD (fD K w) [] E0 t) g) (Av w dl dg):=λi j G H e D m S q L=>
 k e.ex i j G H _ _ m S q λI ds J M b n ⟨o,p⟩=>by
  refine⟨ds,_,λ_=>False,by rw[List.append_nil];exact n,p,λv s a c r u=>?_,λC a c x=>x.elim⟩;obtain⟨d,y,A⟩:=qI r u;exact l v d i j a a _ _ ((S.ext b).all2 o c) y A λf h B _ F=>L.nx f h a a ((S.ext b).sub.same.trans c|>λz=>b.g.trans z) B F
noncomputable def Af(i:Nat)(a:cI):cI:=match slot a i with
 |some (.own ds)=>iU (some (.dat (.list ds))) i a
 |_=>a
noncomputable def Iy(i:Nat)(d:DS)(e:DEnds)(a:cI):Prop:=d e (Af i a)
theorem lY(i:Nat)(h:iX K H₀ E ts ds):iX K H₀ E ts (Iy i ds):=λc a G H e D b S q L=>by
 unfold Iy Af at q;split at q
 ·rename_i k d
  obtain⟨f,s,j⟩:=S.frz d;exact h _ a f H e D b j q (L.mono s)
 ·exact h c a G H e D b S q L
noncomputable def Mv(i j:Nat)(dl:DL)(e:DEnds)(a:cI):Prop:=dl e.ex a λds=>match ds with
 |[b,d2]=>e.nx (iU (some (.dat d2)) j (iU (some (.dat b)) i a))
 |_=>False
theorem Gd{n:Nat}(i j:Nat)(h:Jo K H₀ E t n dl):iX K H₀ E (Kf i j t) (Mv i j dl):=λb c G H e D d S q L=>
 h e.ex b c G H _ _ d S q λp ds f k x l _ a=>by
  split at a
  ·refine qq λqz=>?_;obtain⟨v,w,rfl,m,o⟩:=Mm l;apply qz;exact⟨v,w,rfl,L.nx _ _ f k x.g (((S.ext x).setD i m).setD j o) a⟩
  ·exact a.elim
noncomputable def An(C:Addr)(dl:DL)(e:DEnds)(a:cI):Prop:=dl e.ex a λ_=>e.ex C
theorem gX{C:Addr}{n:Nat}(h:Jo K H₀ E t n dl)(b:n<=1000):iX K H₀ E (yQ E C t) (An C dl):=λc d G H e D a S q L=>
 h e.ex c d G H _ _ a S q λl ds m f x i j k=>⟨Nat.le_of_lt (cV (by rw[i.len,j];exact b)),a C f (S.ext x).oldH k⟩
noncomputable def Jc(i:Nat)(de:DE)(e:DEnds)(a:cI):Prop:=match slot a i with
 |some (.own ds)=>de e.ex a λd=>ds.length<1000/\e.nx (iU (some (.own (ds++[d]))) i a)
 |_=>False
theorem tX(i:Nat)(h:gI K H₀ E te de):iX K H₀ E (vD (Os K "list" vJ (nH i) (eG te kR))) (Jc i de):=λk l G H e D m S q L=>by
 unfold Jc at q;split at q
 ·rename_i ds b
  refine qq λqz=>?_;obtain⟨a,n,c,w,f,j⟩:=S.ownAt b;apply qz;refine⟨_,c,.inl ⟨rfl,_,SqL.of f⟩,h e.ex k l G H _ _ m S q λv d o y x p r=>?_⟩;obtain⟨z,s⟩:=r;have u:=S.ext x;exact⟨a,n,v,rfl,rfl,x.h _ _ f,cV (by rw[j.len];lia),L.nx _ _ o _ x.g (u.updO b c ((bA x.g j).append (.cons p .nil))) s⟩
 ·exact q.elim
noncomputable def ItS(K:PySem.W.Frag)(J:It)(G:Hp)(ds:List PyData):Prop:=∀b a,Same G b->Sub b a->∀i,
 (∀d,ds[i]? =some d->J.go i a/\∀x c,J.yld i a x c->∃e,Ext b a e c/\DV K e x d)/\(ds.length<=i->J.stop i a)
noncomputable def Qh(K:PySem.W.Frag)(J:It)(G H:Hp)(ds:List PyData):Prop:=∀b a,Ext G H b a->∀i,
 (∀d,ds[i]? =some d->J.go i a/\∀x c,J.yld i a x c->∃e,Ext b a e c/\DV K e x d)/\(ds.length<=i->J.stop i a)
theorem ItS.e{J:It}{G H:Hp}{ds:List PyData}(h:ItS K J G ds):Qh K J G H ds:=λa b e=>h a b e.g e.s
noncomputable def IvS(K:PySem.W.Frag)(H₀:Hp)(E:XK)(h:TI)(dl:DL):Prop:=∀a b c G H d R,iI H₀ E a->Sees K H₀ G b c H->dl a b d->(∀J ds e f,Ext G H e f->ItS K J e ds->d ds->R J f)->h c H R
noncomputable def Of(K:PySem.W.Frag)(H₀:Hp)(E:XK)(h:TI)(dl:DL):Prop:=∀b c d G H e R,iI H₀ E b->Sees K H₀ G c d H->dl b c e->(∀J ds f a,Ext G H f a->Qh K J f a ds->e ds->R J a)->h d H R
theorem IvS.e{a:TI}(h:IvS K H₀ E a dl):Of K H₀ E a dl:=λb c d G H f R i S q k=>h b c d G H f R i S q λJ ds j l e m n=>k J ds j l e m.e n
theorem iN(h:gI K H₀ E te de):IvS K H₀ E (wC K te) (tE de):=λp r s G H I R u S q k=>
 h p r s G H _ _ u S q λv d A B e C m=>by
  cases d with
  |list ds=>
   refine qq λqz=>?_;obtain⟨a,b,rfl,c,n⟩:=dY C;apply qz;refine⟨a,rfl,⟨b,e.s.same.seq c⟩,k _ ds A B e (λD J f j i=>⟨λd l=>?_,λl=>⟨b,j.same.seq (f.seq c),by rw[n.len];exact l⟩⟩) m⟩;refine qq λqz=>?_;obtain⟨x,o,F⟩:=n.at l;apply qz;refine⟨⟨b,x,j.same.seq (f.seq c),o⟩,λy L yq=>?_⟩;obtain⟨z,w⟩:=yq;subst z;have:=w b (j.same.seq (f.seq c));rw[o]at this;cases this;exact⟨D,.refl j,cX f F⟩
  |_=>exact m.elim
theorem fH(h:Bl K H₀ E te dl):Of K H₀ E (wC K te) dl:=λn o p G H C R r S q k=>
 h n o p G H _ _ r S q λa c ds s u e f l v=>by
  refine⟨a,rfl,⟨c,f⟩,k _ ds s u e (λA D b i=>⟨λd j=>?_,λj=>⟨c,b.h.seq f,by rw[l.len];exact j⟩⟩) v⟩;refine qq λqz=>?_;obtain⟨x,m,B⟩:=l.at j;apply qz;refine⟨⟨c,x,b.h.seq f,m⟩,λy F yq=>?_⟩;obtain⟨z,w⟩:=yq;subst z;have:=w c (b.h.seq f);rw[m]at this;cases this;exact⟨A,.refl b.s,cX b.g B⟩
noncomputable def uA(a:Int)(n:Nat)(b:Int):List PyData:=(List.range n).map λ(k:Nat)=>PyData.int (a+(k:Int)*b)
theorem vG{a b:Int}{n i:Nat}{d:PyData}(h:(uA a n b)[i]? =some d):i<n/\d= .int (a+(i:Int)*b):=by
 unfold uA at h;rw[List.getElem?_map]at h;cases q:(List.range n)[i]? with
 |none=>rw[q]at h;cases h
 |some k=>
  rw[q]at h;obtain⟨c,e⟩:=List.getElem?_eq_some_iff.mp q;simp only[List.getElem_range]at e;subst e;simp only[List.length_range]at c;simp only[Option.map_some,Option.some.injEq]at h;exact⟨c,h.symm⟩
theorem rS{a b:Int}{n:Nat}:(uA a n b).length=n:=by simp[uA]
noncomputable def Fe(dl:DL)(a:DX)(b:cI)(Q:List PyData->Prop):Prop:=dl a b λds=>match ds with
 |[.int j]=>(-(2^62)<=j/\j<2^62)/\Q (uA 0 j.toNat 1)
 |_=>False
theorem Mf{b:Int}{n:Nat}{G:Hp}:ItS K (Og b n) G (uA b n 1):=λc k l e i=>⟨λd a=>by
  refine qq λqz=>?_;obtain⟨f,rfl⟩:=vG a;apply qz
  refine⟨f,λx m yq=>?_⟩;obtain⟨h,j⟩:=yq
  subst h j
  rw[Int.mul_one]
  exact⟨c,.refl e,.int _⟩,λa=>by rw[rS]at a;exact a⟩
theorem wA(h:yE K H₀ E t dl):IvS K H₀ E (Ew t) (Fe dl):=λb c d G H n R f S q k=>
 h b c d G H _ _ f S q λo ds i j e l a=>by
  split at a
  ·refine qq λqz=>?_;obtain⟨x,rfl,m⟩:=Ag l;apply qz;cases cT m;exact⟨_,rfl,a.1.1,a.1.2,k _ _ i j e Mf a.2⟩
  ·exact a.elim
noncomputable def Iz(dl:DL)(dg:DG)(db:DS)(e:DEnds)(c:cI):Prop:=dl e.ex c λds=>∃I:Nat->cI->Prop,I 0 c/\
 (∀i d a,ds[i]? =some d->I i a->dg d a λb=>db {e with nx:=I (i+1),ct:=I (i+1),bk:=e.nx} b)/\∀a,I ds.length a->e.nx a
theorem fL{N:TI}(U:IvS K H₀ E N dl)(W:Du K H₀ g ns dg)(X:iX K H₀ E ts ds):iX K H₀ E (Kk N g ts) (Iz dl dg ds):=λO h G H e D P S q L=>
 U e.ex O h G H _ _ P S q λJ p r H1 u Y ⟨I,Z,step,v⟩=>by
  refine⟨λi m h H=>m=p.length-i/\i<=p.length/\∃a c,Same r c/\Sees K H₀ c a h H/\I i a,⟨_,rfl,Nat.zero_le _,O,r,Same.refl _,S.ext u,Z⟩,?_⟩;intro i m j Q qQ0;refine qq λqz=>?_;obtain⟨rfl,a0,a,c,w,S',R⟩:=qQ0;obtain⟨t1,t2⟩:=Y c Q w S'.sub i;apply qz;by_cases d:i<p.length
  ·obtain⟨g1,g2⟩:=t1 _ (List.getElem?_eq_getElem d);refine .inr ⟨g1,λh H=>∃a c,Same r c/\Sees K H₀ c a h H/\I (i+1) a,λa1 s z=>⟨_,by lia,rfl,d,z⟩,λx s y=>?_⟩;refine qq λqz=>?_;obtain⟨A,T,hd⟩:=g2 x s y;apply qz;have S2:=S'.ext T;refine W x _ a j A s _ _ S2 hd (step i _ a (List.getElem?_eq_getElem d) R) λB C S3 _ q3=>?_;have F:Same r A:=w.trans T.g;exact X B C A s {e with nx:=I (i+1),ct:=I (i+1),bk:=e.nx} _ P S3 q3 ⟨λb f k M l n o=>⟨b,k,F.trans l,n,o⟩,L.rt,λb f k M l n o=>L.nx b f k M (u.g.trans (F.trans l)) n o,λb f k M l n o=>⟨b,k,F.trans l,n,o⟩⟩
  ·have:i=p.length:=by lia
   subst this;exact .inl ⟨t2 (Nat.le_refl _),L.nx a j c Q (u.g.trans w) S' (v a R)⟩
noncomputable def Ir(dt:DT)(db:DS)(e:DEnds)(d:cI):Prop:=∃I:Nat->cI->Prop,(∃m,I m d)/\∀m a,I m a ->
 dt e.ex a λb=>if b=true then db {e with nx:=λc=>∃k,k<m/\I k c,ct:=λc=>∃k,k<m/\I k c,bk:=e.nx} a else e.nx a
theorem lX(h:yD K H₀ E tt dt)(F:iX K H₀ E ts ds):iX K H₀ E (yO tt ts) (Ir dt ds):=λJ u G H e D v S ⟨I,⟨M,N⟩,step⟩ L=>by
 refine⟨λm u H=>∃a f,Same G f/\Sees K H₀ f a u H/\I m a,⟨M,J,G,Same.refl _,S,N⟩,?_⟩;intro m i O qQ0;refine qq λqz=>?_;obtain⟨a,f,P,w,Q⟩:=qQ0;apply qz;refine h e.ex a i f O _ _ v w (step m a Q) λb o x y A=>?_;have B:=w.ext y;have p:Same G o:=P.trans y.g;cases b with
 |true=>
  have C:∀d c n j,Same o n->Sees K H₀ n d c j->(∃k,k<m/\I k d)->∃k,k<m/\∃a f,Same G f/\Sees K H₀ f a c j/\I k a:=λd c n j q r ⟨k,R,s⟩=>⟨k,R,d,n,p.trans q,r,s⟩;exact⟨λc j=>∃k,k<m/\∃a f,Same G f/\Sees K H₀ f a c j/\I k a,λ_ _ z=>z,F a i o x {e with nx:=λl=>∃k,k<m/\I k l,ct:=λl=>∃k,k<m/\I k l,bk:=e.nx} _ v B A ⟨C,L.rt,λd c n j q r s=>L.nx d c n j (p.trans q) r s,C⟩⟩
 |false=>exact L.nx a i o x p B A
noncomputable def mW(a:List (Option Nat))(b:cI):cI:=match a with
 |[]=>[]
 |none::r=>none::mW r b
 |some i::r=>slot b i::mW r b
theorem mV:∀(a:List (Option Nat))(b:cI),(mW a b).length=a.length
 |[],_=>rfl
 |none::r,b=>by simp[mW,mV r b]
 |some i::r,b=>by simp[mW,mV r b]
theorem gG:∀{cap:List (Option Nat)}{δ:cI}{j:Nat}{s:Sl},slot (mW cap δ) j=some s->∃i,cap[j]? =some (some i)/\slot δ i=some s
 |[],_,_,_,h=>by cases h
 |none::r,δ,0,s,h=>by cases h
 |some i::r,δ,0,s,h=>⟨i,rfl,h⟩
 |none::r,δ,j+1,s,h=>by
  obtain⟨i,a,b⟩:=gG (cap:=r) (δ:=δ) (j:=j) h;exact⟨i,by simpa using a,b⟩
 |some _::r,δ,j+1,s,h=>by
  obtain⟨i,a,b⟩:=gG (cap:=r) (δ:=δ) (j:=j) h;exact⟨i,by simpa using a,b⟩
theorem wX{a:List (Option Nat)}{j i:Nat}(h:a[j]? =some (some i)):i∈a.filterMap id:=List.mem_filterMap.mpr ⟨some i,List.mem_of_getElem? h,rfl⟩
theorem rD:∀{cap:List (Option Nat)}{j k i:Nat},(cap.filterMap id).Nodup->cap[j]? =some (some i)->cap[k]? =some (some i)->j=k
 |[],_,_,_,_,h,_=>by simp at h
 |none::r,0,_,_,_,h,_=>by simp at h
 |none::r,_+1,0,_,_,_,h=>by simp at h
 |none::r,j+1,k+1,i,n,b,c=>congrArg (·+1) (rD (cap:=r) (by simpa using n) (by simpa using b) (by simpa using c))
 |some a::r,0,0,_,_,_,_=>rfl
 |some a::r,0,k+1,i,n,b,c=>by
  have e:a=i:=by simpa using b
  subst e;have:a∈r.filterMap id:=wX (by simpa using c);simp only[List.filterMap_cons,id,List.nodup_cons]at n;exact absurd this n.1
 |some a::r,j+1,0,i,n,b,c=>by
  have e:a=i:=by simpa using c
  subst e;have:a∈r.filterMap id:=wX (by simpa using b);simp only[List.filterMap_cons,id,List.nodup_cons]at n;exact absurd this n.1
 | some a :: r,j + 1,k + 1,i,n,b,c=>congrArg (· + 1) (rD (cap:=r) (by
   simp only[List.filterMap_cons,id,List.nodup_cons]at n
   exact n.2) (by simpa using b) (by simpa using c))
noncomputable def tO(a:List (Option Nat))(c b:L2.St):Prop:=b.length=a.length/\∀(j i:Nat),a[j]? =some (some i)->b[j]? =some ((c[i]?).bind id)
theorem Jd{a:List (Option Nat)}{b:L2.St}:tO a b (capσ a b):=⟨by simp[capσ],λj i h=>by
 unfold capσ
 rw[List.getElem?_map,h]
 rfl⟩
theorem Dk{d:List (Option Nat)}{G H o p:Hp}{q:cI}{r l:L2.St}(S:Sees K H₀ G q r H)(e:Ext G H o p)(F:(d.filterMap id).Nodup)(c:tO d r l):Sees K H₀ o (mW d q) l p:=by
 have f:=S.ext e;refine⟨f.old,f.sub,by rw[mV,c.1];exact Nat.le_refl _,λj s h=>?_,λj k I J a m n u w=>?_⟩
 ·refine qq λqz=>?_;obtain⟨i,m,n⟩:=gG h;obtain⟨v,L,M⟩:=f.has i s n;apply qz;refine⟨v,?_,M⟩;rw[c.2 j i m,L];rfl
 ·obtain⟨i,x,y⟩:=gG m;obtain⟨z,A,B⟩:=gG n;obtain⟨b,_,C,_⟩:=f.ownAt y;obtain⟨N,_,D,_⟩:=f.ownAt B;rw[c.2 j i x,C]at u;rw[c.2 k z A,D]at w;have O:b=a:=by cases u;rfl
  have P:N=a:=by cases w;rfl
  subst O;subst P;have:=f.sep i z I J _ y B C D;subst this;exact rD F x A
noncomputable def Mq(a:DX)(b:cI)(Q:Bool->Prop):Prop:=Q true
theorem dU:yD K H₀ E Ke Mq:=λa b c G H d Q e S q k=>k true G H S.refl q
noncomputable def Pz(dl:DL)(e:List (Option Nat))(dg:DG)(dt:DT)(de:DE)(h:DX)(f:cI)(Q:List PyData->Prop):Prop:=dl h f λds=>ds.length<=1000/\∃I:Nat->List PyData->Prop,I 0 []/\
 (∀i d a,ds[i]? =some d->I i a->dg d (mW e f) λc=>dt (λ_=>False) c λb=>if b=true then de (λ_=>False) c λy=>I (i+1) (a++[y])else I (i+1) a)/\∀a,I ds.length a->Q a
theorem eI{wi:TI}{c:List (Option Nat)}(hi:Of K H₀ E wi dl)(hg:Du K H₀ g ns dg)(ht:yD K H₀ E tt dt)(he:gI K H₀ E te de)(hn:(c.filterMap id).Nodup)(U:ns.all (λj=>(c[j]?.bind id).isNone)=true):uR K H₀ E (Oq wi c g tt te) (Pz dl c dg dt de):=λex δ N G H Qd Q hx S q k=>
 hi ex δ N G H _ _ hx S q λJ xs O W P it ⟨hlen,I,i0,step,X⟩=>by
  intro D Y;obtain⟨eD,gD⟩:=eX (xs:=[]) P.s Y
  refine⟨λi m f r=>m=xs.length-i/\i<=xs.length/\tO c N f/\∃d a e,Ext O W d r/\d D=none/\r D=some (.lst e)/\DVs K d e a/\a.length<=i/\I i a,
   ⟨_,rfl,Nat.zero_le _,Jd,O,[],[],eD,gD,bN,.nil,Nat.le_refl _,i0⟩,?_⟩
  intro i m f r qQ0;refine qq λqz=>?_;obtain⟨rfl,a2,Z,d,a,e,v,gd,A,R,B,hI⟩:=qQ0;obtain⟨t1,t2⟩:=it d r v i;apply qz;by_cases s:i<xs.length
  ·obtain⟨g1,g2⟩:=t1 _ (List.getElem?_eq_getElem s);refine .inr ⟨g1,λC p=>tO c N C/\∃d a e,Ext O W d p/\d D=none/\p D=some (.lst e)/\DVs K d e a/\a.length<=i+1/\I (i+1) a,λC p z=>⟨_,by lia,rfl,s,z⟩,λx p y=>?_⟩;refine qq λqz=>?_;obtain⟨G2,e2,a0⟩:=g2 x p y;apply qz;have S2:Sees K H₀ G2 (mW c δ) f p:=Dk S (P.trans (v.trans e2)) hn Z;refine hg x _ _ f G2 p _ _ S2 a0 (step i _ a (List.getElem?_eq_getElem s) hI) λF u S3 kp q3=>?_
   have L:tO c N u:=⟨kp.1.trans Z.1,λj z hj=>by
    rw[kp.2 j (λhm=>by
     have:=List.all_eq_true.mp U j hm
     rw[hj]at this
     cases this)]
    exact Z.2 j z hj⟩
   refine ht (λ_=>False) F u G2 p _ _ sQ S3 q3 λb G4 H4 e4 q4=>?_;cases b with
   |true=>
    refine he (λ_=>False) F u G4 H4 _ _ sQ (S3.ext e4) q4 λy dy T H5 e5 hy q5=>?_;have h:Ext d r T H5:=e2.trans (e4.trans e5);have M:T D=none:=h.keep gd A;have a1:H5 D=some (.lst e):=h.h _ _ A;have l:Ext O W T H5:=v.trans h;refine⟨e,a1,cV (by rw[R.len];lia),L,T,a++[dy],e++[y],⟨l.g,λb o z=>?_,λb=>?_,l.n⟩,M,bN,(bA h.g R).append (.cons hy .nil),by rw[List.length_append];simp;exact B,q5⟩
    ·rw[bE (bT z Y)];exact l.h b o z
    ·by_cases w:b=D
     ·subst w;exact .inr ⟨M,_,bN⟩
     ·rw[bE w];exact l.s b
   |false=>
    have n:Ext d r G4 H4:=e2.trans e4;exact⟨L,G4,a,e,v.trans n,n.keep gd A,n.h _ _ A,bA n.g R,Nat.le_succ_of_le B,q4⟩
  ·have:i=xs.length:=by lia
   subst this;exact .inl ⟨t2 (Nat.le_refl _),k D e a d r (P.trans v) (P.h.free Y) gd A R (X a hI)⟩
end
noncomputable def jA:List Str->List PyData->cI
 |[],_=>[]
 |_::N,[]=>none::jA N []
 |_::N,d::a=>some (.dat d)::jA N a
theorem iZ:∀(N:List Str)(a:List PyData),(jA N a).length=N.length
 |[],_=>rfl
 |_::N,[]=>congrArg (·+1) (iZ N [])
 |_::N,_::a=>congrArg (·+1) (iZ N a)
theorem fQ:∀{N:List Str}{ds:List PyData}{i:Nat}{s:Sl},slot (jA N ds) i=some s->∃d,ds[i]? =some d/\s= .dat d
 |[],_,_,_,h=>by cases h
 |_::N,[],0,_,h=>by cases h
 |_::N,[],i+1,s,h=>by
  obtain⟨d,a,_⟩:=fQ (N:=N) (ds:=[]) (i:=i) h;simp at a
 |_::N,d::ds,0,s,h=>by cases h;exact⟨d,rfl,rfl⟩
 |_::N,_::ds,i+1,s,h=>by
  obtain⟨d,a,b⟩:=fQ (N:=N) (ds:=ds) (i:=i) h;exact⟨d,by simpa using a,b⟩
theorem tY{K:PySem.W.Frag}{H:Hp}{N:List Str}{b:List V}{c:List PyData}(h:DVs K H b c):Sees K H H (jA N c) (L2.start N b) H:=by
 refine⟨Same.refl _,.refl _,?_,λi s e=>?_,λi j l m a e=>?_⟩
 ·rw[iZ];simp only[L2.start,List.length_append,List.length_map,List.length_replicate]
  lia
 ·refine qq λqz=>?_;obtain⟨d,g,rfl⟩:=fQ e;obtain⟨v,f,k⟩:=h.at g;apply qz;refine⟨v,?_,k⟩;unfold L2.start;rw[List.getElem?_append_left (by rw[List.length_map];exact(List.getElem?_eq_some_iff.mp f).1),List.getElem?_map,f];rfl
 ·refine qq λqz=>?_;obtain⟨d,_,z⟩:=fQ e;apply qz;cases z
section
variable{P:Program}{w:World}{K:PySem.W.Frag}{mg:Str->Option Value}{base:Heap}
theorem gH{x qual:Str}{e:Stmt}{f:Addr}{p:FuncData}{N i:List Str}{k:Nat}{W:DW}(F:Fun K x qual e f p)(S:FnScope N i (aG e))(j:∀b Q E,W b Q E->b.length=i.length)
  (c:∀(a:Value)(A:Around)(outer:List Env)(s:Shared)(H:Hp)(E:XK),Room k (A.deeper (envOfC qual (aG e) s.heap.objs.size f a)) ->
   ∃t,PSs (mT (eV P w) P w K mg base N qual (aG e) f a A outer s H E) (aR e) t/\∃d,iX K H E t d/\∀b Q X,W b Q X->d {nx:=λ_=>Q (.dat .none),rt:=Q,ex:=X} (jA N b)):FnOk P w K mg base (eV P w) (k+1) f p i (fD K W):=by
 refine Qp F S (λy H Q E h=>?_) (λa A outer s H y Q E B h=>?_)
 ·obtain⟨b,g,l,m,n,_⟩:=h;rw[m.len];exact j _ _ _ n
 ·refine qq λqz=>?_;obtain⟨b,g,l,m,n,u,C⟩:=h;obtain⟨t,D,d,I,J⟩:=c a A outer s H E B;apply qz;refine⟨t,D,I _ _ H H {nx:=λ_=>g (.dat .none),rt:=g,ex:=l} _ C (tY m) (J b g l n) ⟨λM O G o _ S q=>?_,λv s o L r q=>u v s o L r q,λ_ _ _ _ _ _ z=>z.elim,λ_ _ _ _ _ _ z=>z.elim⟩⟩;exact u .non (.dat .none) o S.oldH .non q
end
noncomputable def kinds:List String:=["int","bool","str","list","tuple"]
theorem Hv{K:PySem.W.Frag}(d:PyData)(n:String)(a:kinds.contains n=true):PySem.W.kitOne K (.type (uZ d)) (.type n)=some (Mh n d):=by
 have c:n="int"\/n="bool"\/n="str"\/n="list"\/n="tuple":=by
  simpa[kinds]using a
 have b:uZ d="NoneType"\/uZ d="bool"\/uZ d="int"\/uZ d="str"\/uZ d="list"\/uZ d="tuple"\/uZ d="dict":=by
  cases d <;>simp[uZ]
 unfold Mh;generalize uZ d=t at b;clear a;rcases b with rfl|rfl|rfl|rfl|rfl|rfl|rfl <;>rcases c with rfl|rfl|rfl|rfl|rfl <;>rfl
section
variable{X:Cx}{pins:List (Addr×Obj)}{σ:L2.St}{H:Hp}{s:Shared}
theorem Ih{A:Around}{Q:Value->Shared->Prop}{p:Value->Shared->Prop}{x:V}{d:PyData}{u c:Value}{b:Bool}(I:Inv X pins σ H s)(f:RelV x u)(h:DV X.K H x d)(e:PySem.W.kitOne X.K (.type (uZ d)) c=some b)(g:∀q,Q (.bool b) {s with toks:=q}):
  wpAny (model X.prog X.w) A (call (.builtin "isinstance") [u,c]) Q p s:=by
 cases h with
 |non=>exact gE I f .non e g
 |bl y=>exact gE I f (.bl y) e g
 |int y=>exact gE I f (.int y) e g
 |str y=>exact gE I f (.str y) e g
 |@lst a t v i j=>
  cases (show u=Value.ref a from f);refine qq λqz=>?_;obtain⟨k,r,⟨o,n,l,m,_,_⟩,_⟩:=I.list i;apply qz;exact PySem.W.kia_one PySem.W.kitx_list I.kIn ⟨o,l,m⟩ e (λz=>nomatch z) g
 |@tup a t v i j=>
  cases (show u=Value.ref a from f);refine qq λqz=>?_;obtain⟨k,r,⟨o,l,m,n,_⟩,_⟩:=I.tuple i;apply qz;exact PySem.W.kia_one PySem.W.kitx_tuple I.kIn ⟨o,l,m⟩ e (λz=>nomatch z) g
 |dct j=>exact gE I f (.dK j) e g
noncomputable def La(K:PySem.W.Frag):List V->Hp->VK->Prop:=λa H Q=>∃x d n,a=[x,.ty n]/\kinds.contains n=true/\DV K H x d/\Q (.bl (Mh n d)) H
theorem Mg{K:PySem.W.Frag}(a:X.K=K):CallR X (.builtin "isinstance") (La K):=by
 subst a;intro pins s σ H i j Q I r h;refine qq λqz=>?_;obtain⟨x,d,n,rfl,b,c,q⟩:=h;obtain⟨u,v,rfl,e,f⟩:=rM r;apply qz;cases (show v=Value.type n from f);exact Ih I e c (Hv d n b) λg=>⟨.bl _,H,I.tok g,rfl,q⟩
end
section
variable{K:PySem.W.Frag}{H₀:Hp}{E:XK}{te ta tb:TE}{da db de:DE}{dl dk:DL}{t:TA}
noncomputable def Nd(n:String)(de:DE)(a:DX)(b:cI)(Q:PyData->Prop):Prop:=de a b λd=>Q (.bool (Mh n d))
theorem Im{n:String}(a:kinds.contains n=true)(h:oX K H₀ E te de):gI K H₀ E (Kl (La K) (eG te (eG (tC (.ty n)) kR))) (Nd n de):=λb c e G H o Q f S q k=>
 h b c e G H _ _ f S q λx d g i j l m=>⟨x,d,n,rfl,a,l,k _ _ g i j (.bl _) m⟩
noncomputable def Qe(K:PySem.W.Frag)(H₀:Hp)(E:XK)(te:TE)(dl:DL):Prop:=∀c d e G H f Q,iI H₀ E c->Sees K H₀ G d e H->dl c d f->(∀a g h i b,Ext G H i b->b a=some (.lst g)->DVs K i g h->f h->Q (.ref a) b)->te e H Q
theorem Es(h:uR K H₀ E te dl):Qe K H₀ E te dl:=λb c d G H p Q f S q k=>
 h b c d G H _ Q f S q λa g i j l e r s m n o=>k a g i j l e m n o
end
section
variable{dl:DL}{dg:DG}{db d1 d2:DS}{e:DEnds}{δ:cI}
theorem dO(h:d1 {e with nx:=d2 e} δ):Ms d1 d2 e δ:=h
theorem iG(I:cI->Prop)(h:d1 {e with nx:=I} δ)(k:∀a,I a->d2 e a):Nh d1 d2 e δ:=⟨I,h,k⟩
theorem eU{j:Type}(f:j->PyData)(c:List j)(k:∀Q,Q (c.map f)->dl e.ex δ Q)(I:Nat->cI->Prop)(l:I 0 δ)
  (m:∀i x a,c[i]? =some x->I i a->dg (f x) a λh=>db {e with nx:=I (i+1),ct:=I (i+1),bk:=e.nx} h) (n:∀a,I c.length a->e.nx a):Iz dl dg db e δ:=
 k _ ⟨I,l,λi d a b g=>by
  rw[List.getElem?_map]at b
  cases q:c[i]? with
  |none=>rw[q]at b;cases b
  |some x=>
   rw[q]at b
   cases b
   exact m i x a q g,λa g=>n a (by rw[List.length_map]at g;exact g)⟩
theorem Dc{lo st:Int}{n:Nat}(f:∀Q,Q (uA lo n st)->dl e.ex δ Q)(I:Nat->cI->Prop)(g:I 0 δ)
  (h:∀i a,i<n->I i a->dg (.int (lo+(i:Int)*st)) a λc=>db {e with nx:=I (i+1),ct:=I (i+1),bk:=e.nx} c) (j:∀a,I n a->e.nx a):Iz dl dg db e δ:=
 f _ ⟨I,g,λi d a k b=>by
  obtain⟨l,rfl⟩:=vG k
  exact h i a l b,λa b=>j a (by rw[rS]at b;exact b)⟩
variable{dt:DT}{de:DE}{cap:List (Option Nat)}{ex:DX}{Q:List PyData->Prop}
theorem dM{k m:Type}(f:k->PyData)(g:m->PyData)(F:k->List m)(c:List k)(hlen:c.length<=1000)(n:∀Q,Q (c.map f)->dl ex δ Q)
  (o:∀x∈c,∀N:List PyData->Prop,∀a,N (a++(F x).map g)->dg (f x) (mW cap δ) λh=>dt (λ_=>False) h λb=>if b=true then de (λ_=>False) h λy=>N (a++[y])else N a)
  (p:Q ((c.flatMap F).map g)):Pz dl cap dg dt de ex δ Q:=
 n _ ⟨by rw[List.length_map];exact hlen,λi a=>a=((c.take i).flatMap F).map g,by simp,λi d a j l=>by
  rw[List.getElem?_map]at j
  cases q:c[i]? with
  |none=>rw[q]at j;cases j
  |some x=>
   rw[q]at j
   cases j
   subst l
   refine o x (List.mem_of_getElem? q) (λa=>a=((c.take (i+1)).flatMap F).map g) _ ?_
   have e:c.take (i+1)=c.take i++[x]:=by
    rw[List.take_add_one,q];rfl
   rw[e]
   simp,λa l=>by
  subst l
  rw[List.length_map,List.take_of_length_le (Nat.le_refl _)]
  exact p⟩
end
noncomputable abbrev Qj:=cI->Addr->Prop
noncomputable abbrev Qk:=DEnds->Qj->cI->Prop
structure LkX(K:PySem.W.Frag)(H₀ G:Hp)(xd:Qj)(XE:XS):Prop where
 ex:∀δ σ C G' H,Same G G'->Sees K H₀ G' δ σ H->xd δ C->XE σ (.ref C) none H
noncomputable abbrev nox(e:DEnds):DEnds:={e with ex:=λ_=>False}
theorem Lk.nox{K:PySem.W.Frag}{a G:Hp}{e:DEnds}{D:Ends}(L:Lk K a G e D):Lk K a G (nox e) D:=⟨L.nx,L.rt,L.bk,L.ct⟩
section
variable{K:PySem.W.Frag}{H₀:Hp}{E:XK}{t:TA}{dl:DL}{ts:TS}{ds:DS}{tb tc:Pj}{db dc:Qk}{tt:TT}{dt:DT}
end
section
variable{K:PySem.W.Frag}{H₀:Hp}{E:XK}{t:TA}{dl:DL}{ts:TS}{ds:DS}{tb tc:Pj}{db dc:Qk}
end
noncomputable def Oi:DW:=λb Q _=>∃a:List Int,b=[.list (a.map .int)]/\a.length<=63/\(∀v∈a,Builtin.Int.intBits v<=1048576)/\Q (.dat (.bool true))
theorem lG{K:PySem.W.Frag}{H:Hp}:∀a:List Int,DVs K H (a.map V.int) (a.map PyData.int)
 |[]=>.nil
 |n::a=>.cons (.int n) (lG a)
theorem Hu{P:Program}{w:World}{K:PySem.W.Frag}{c:Str->Option Value}{base:Heap}{k:Nat}{f:Addr}{d:FuncData}{g:List Str}(F:FnOk P w K c base (eV P w) k f d g (fD K Oi)):FnOk P w K c base (eV P w) k f d g (vF K):=
 F.imp λn H Q E ⟨a,b,e,h,i,j,_,q⟩=>by
  subst e;refine⟨[.list (b.map .int)],λs=>s= .dat (.bool true),λ_=>False,.cons (.lst h (lG b)) .nil,⟨b,rfl,i,j,rfl⟩,λv s l _ r m=>?_,λ_ _ _ z=>z.elim⟩;subst m;cases mP r;exact q l
section
variable{X:Cx}{pins:List (Addr×Obj)}{σ:L2.St}{H:Hp}{s:Shared}{h':Heap}
theorem dF{t':Nat}{ws:List Addr}(I:Inv X pins σ H s)(k:∀b o,b∉ws->s.heap.get? b=some o->h'.get? b=some o)(f:∀b∈ws,gT X pins H b):Inv X pins σ H {s with heap:=h',toks:=t'}:=by
 have d:∀b u,H b=some u->b∉ws:=λb u e z=>by rw[(f b z).1]at e;cases e
 refine I.step (g':=s.gens) (d':=s.drawn) (ch:=ws) (λb g=>⟨(f b g).2.2.2.1,(f b g).2.1,(f b g).2.2.2.2.1,(f b g).2.2.2.2.2⟩) (λb o _ _ a e _=>k b o a e) (λb o _ _ a e _=>⟨o.slots,k b o a e⟩) (λ_ _ _ _ n=>n)
  (λb o a e=>⟨o,k b o a e⟩) (λ_ _ e=>e) (λ_ _ _ e=>e) (λb p e=>⟨#[],by rw[e];simp⟩) (λm h=>?_) (λb u e=>?_) I.bare
 ·obtain⟨o,i,j,l,r⟩:=h;exact⟨o,i,j,k _ o (λz=>(f _ z).2.1 rfl) l,r⟩
 ·refine(I.hok b u e).stay (λc v a q=>k c v ?_ q) (λ_ q=>q) λ_ _ q=>q;rcases a with z|z
  ·rw[z];exact d b u e
  ·exact d c _ z
theorem wB{T:Addr}{xs:List V}{its:List Value}(I:Inv X pins σ H s)(f:gT X pins H T)(h:X.s₀.heap.objs.size<=T)(i:s.heap.IsTuple T its.toArray)(r:Vals xs its)(j:xs.length<=sizeLine):Inv X pins σ (eO H T (.tup xs)) s:=by
 refine qq λqz=>?_;obtain⟨k,l,A,B,t,w⟩:=f;apply qz;have a:∀b o,H b=some o->b≠T:=λb o e z=>by rw[z,k]at e;cases e
 refine⟨I.ok,I.os,I.bare,⟨I.base.keep,I.base.slot,λb o e n d=>?_,I.base.there,λb xs e=>?_,λb o u e=>?_,λb x e=>?_⟩,I.loc,I.cell,?_,λy c e=>?_,λp g=>?_,λb o e=>?_,I.len⟩
 ·rw[bE (Nat.ne_of_lt (Nat.lt_of_lt_of_le (Heap.lt_size e) h))];exact I.base.free b o e n d
 ·have q:=I.base.tups b xs e;rw[bE (a b _ q)];exact q
 ·have q:=I.base.frzs b o u e;rw[bE (a b _ q)];exact q
 ·obtain⟨m,q⟩:=I.base.tbls b x e;exact⟨m,by rw[bE (a b _ q)];exact q⟩
 ·rw[bE (Ne.symm l)];exact I.free
 ·rw[bE (t y c e)];exact I.freeC y c e
 ·refine qq λqz=>?_;obtain⟨e,n,r⟩:=I.pin p g;apply qz;exact⟨e,by rw[bE (w p g)];exact n,r⟩
 ·by_cases d:b=T
  ·subst d;rw[bN]at e;cases e;exact⟨j,its,r,i⟩
  ·rw[bE d]at e;exact(I.hok b o e).stay (λc v _ q=>q) (λc q=>by rw[bE (a c _ q)];exact q) λc xs q=>by rw[bE (a c _ q)];exact q
end
noncomputable def Nm(K:PySem.W.Frag)(a b:Addr):It:=
 ⟨λi H=>∃c d,SqL K H a c/\SqL K H b d/\i<c.length/\i<d.length,
  λi H x e=>∃T u v,x= .ref T/\H T=none/\e=eO H T (.tup [u,v])/\(∀c,SqL K H a c->c[i]? =some u)/\∀d,SqL K H b d->d[i]? =some v,
  λi H=>∃c d,SqL K H a c/\SqL K H b d/\(c.length<=i\/d.length<=i)⟩
theorem Pm{p:Prop}(h:¬¬p):p:=Classical.byContradiction h
theorem vT{d:Type}{a c b:d}{l:List d}(h:b∈a::l):b∈a::c::l:=(List.mem_cons.1 h).elim (λe=>List.mem_cons.2 (.inl e)) λh=>List.mem_cons_of_mem _ (List.mem_cons_of_mem _ h)
theorem uS{h:Heap}{z TI TO c d l1 l2:Addr}{i j:Nat}(g:IsZip h z TI TO .none/\IsPair h TI (.ref c) (.ref d)/\(∃a b,IsPair h TO a b)/\h.IsListIter c l1 i/\h.IsListIter d l2 j):∀b∈[z,TI,TO,c,d],∃o,h.get? b=some o/\∀v,o.data≠ .cell v:=by
 obtain⟨k,e,⟨x,y,f⟩,⟨l,m,_,n⟩,⟨p,r,_,d2⟩⟩:=g;exact List.forall_mem_cons.2 ⟨⟨_,k,λv q=>nomatch q⟩,List.forall_mem_cons.2 ⟨⟨_,e,λv q=>nomatch q⟩,List.forall_mem_cons.2 ⟨⟨_,f,λv q=>nomatch q⟩,List.forall_mem_cons.2 ⟨⟨l,m,λv q=>nomatch n.symm.trans q⟩,List.forall_mem_cons.2 ⟨⟨p,r,λv q=>nomatch d2.symm.trans q⟩,λ_ h=>nomatch h⟩⟩⟩⟩⟩
theorem yM{P:Program}{w:World}{K:PySem.W.Frag}{elts:List Expr}{k:Nat}{J:Pos}{z TI TO B C l1 l2:Addr}(D:ZipApart z TI TO B C l1 l2):
  Turn P w K (.Tuple elts k J) (Nm K l1 l2) [z,TI,TO,B,C] z (λi h=>IsZip h z TI TO .none/\IsPair h TI (.ref B) (.ref C)/\(∃a b,IsPair h TO a b)/\h.IsListIter B l1 i/\h.IsListIter C l2 i) where
 mem:=by simp
 obj:=λ_ _ n=>uS n
 keep:=λi h G n L=>by
  obtain⟨M,c,⟨x,y,d⟩,N,O⟩:=n;exact⟨L z (by simp) _ M,L TI (by simp) _ c,⟨x,y,L TO (by simp) _ d⟩,N.at λo e=>L B (by simp) o e,O.at λo e=>L C (by simp) o e⟩
 item:=by
  intro X Z hw hK hc i pins s σ H E I R n hg;subst Z hw hK;refine Pm λkq=>?_;obtain⟨xs,ys,S,U,g1,g2⟩:=hg;obtain⟨f,p,p1,z1⟩:=I.list S;obtain⟨j,q,p2,z2⟩:=I.list U;have ho:=uS n;obtain⟨M,c,⟨x0,y0,d⟩,N,O⟩:=n;have W:=WalksT.zip2 (prog:=X.prog) (w:=X.w) (A:=X.A) (I.ok.hd hc) z TI TO B C l1 l2 D f.toArray j.toArray;have L1:=p.length;have L2:=q.length;obtain⟨u,e1⟩:∃u,xs[i]? =some u:=⟨xs[i],List.getElem?_eq_getElem g1⟩;obtain⟨v,e2⟩:∃v,ys[i]? =some v:=⟨ys[i],List.getElem?_eq_getElem g2⟩;obtain⟨x',e3,r1⟩:=p.get e1;obtain⟨y',e4,r2⟩:=q.get e2;apply kq;refine W.item i s _ _ (by simp only[List.size_toArray];lia) ⟨M,c,⟨_,_,d⟩,N,O,p1.isList,p2.isList⟩ λT vals G Y hv t hT F kk=>?_;obtain⟨x,y,hx,hy,rfl⟩:=hv;refine⟨_,rfl,W.go elts k J i T {s with heap:=G,toks:=Y} _ _ F λh3 l Q=>?_⟩;have ex:x'=x:=by
   have:f[i]? =some x:=by simpa using hx
   rw[e3]at this;exact Option.some.inj this
  have ey:y'=y:=by
   have:j[i]? =some y:=by simpa using hy
   rw[e4]at this;exact Option.some.inj this
  subst ex;subst ey;have fw:∀b∈[z,TO,B,C],gT X pins H b:=λb m=>R b (vT m);have I1:Inv X pins σ H {s with heap:=G,toks:=Y}:=dF I kk fw;have I2:Inv X pins σ H {s with heap:=h3,toks:=Y}:=dF (s:={s with heap:=G,toks:=Y}) I1 Q fw;have nT:=W.apart i T G F;have a0:h3.IsTuple T #[x',y']:=by
   obtain⟨o,ho,r⟩:=hT;exact⟨o,Q T o nT ho,r⟩
  have fT:gT X pins H T:=I.fpOk t (I.hok.fresh t);have I3:=wB (xs:=[u,v]) (its:=[x',y']) I2 fT (Nat.le_trans I.sz t) a0 (.cons r1 (.cons r2 .nil)) (Nat.le_of_lt (cV (by show 2<=1000;decide)));refine⟨.ref T,eO H T (.tup [u,v]),I3,rfl,⟨T,u,v,rfl,fT.1,rfl,λa1 h=>by rw[I.list_inj h S];exact e1,λa2 h=>by rw[I.list_inj h U];exact e2⟩,⟨l.1,l.2.1,l.2.2.1,l.2.2.2.1,l.2.2.2.2.1⟩,λb m=>?_⟩;rw[bE]
  ·exact(R b m).1
  ·intro e;obtain⟨o,g,_⟩:=ho b m;exact absurd (Heap.lt_size g) (Nat.not_lt.mpr (e▸t))
 done:=by
  intro X Z hw hK hc i pins s σ H E I R n hg;subst Z hw hK;refine Pm λkq=>?_;obtain⟨xs,ys,S,U,g⟩:=hg;obtain⟨f,p,p1,z1⟩:=I.list S;obtain⟨j,q,p2,z2⟩:=I.list U;obtain⟨M,c,⟨x0,y0,d⟩,N,O⟩:=n;have L1:=p.length;have L2:=q.length;apply kq;refine wpAny_pyNext_zip_end (I.ok.hd hc) D M c d N O p1.isList p2.isList ?_ λG hk=>⟨rfl,?_⟩
  ·rcases g with g|g
   ·exact .inl (by simp;lia)
   ·exact .inr (by simp;lia)
  ·exact dF (t':=s.toks) (ws:=[z,TO,B,C]) I (λb o m e=>hk b o (λx=>m (by simp[x])) (λx=>m (by simp[x])) (λx=>m (by simp[x])) (λx=>m (by simp[x])) e) λb m=>R b (vT m)
 self:=λ_ _ _ _ _ n h=>wpAny_pyIter_zip n.1 h
theorem tJ:bootBuiltins "zip"=some (.type "zip"):=by decide +kernel
theorem iW:bootBuiltins "reversed"=some (.type "reversed"):=by decide +kernel
section
variable{X:Cx}{K:PySem.W.Frag}
noncomputable def Ij(K:PySem.W.Frag)(t:TA):TI:=λd H R=>t d H λe c=>∃a b,e=[.ref a,.ref b]/\(∃f,SqL K c a f)/\(∃g,SqL K c b g)/\R (Nm K a b) c
theorem fO{elts:List Expr}{k:Nat}{d:Pos}{a b:Expr}{r:TA}{p f:Pos}(B:X.K=K)(C:Gl X "zip")(D:X.mg "zip"=none)(E:PA X [a,b] r)(F:starEach [a,b] X.env=[(false,eval a X.env),(false,eval b X.env)]:=by rfl)(g:starEach [b] X.env=[(false,eval b X.env)]:=by rfl):
  PI X (.Tuple elts k d) (.Call (.Name "zip" p) [a,b] [] f) (Ij K r):=by
 subst B;intro pins s G H R I h;refine Call_ (gN I C D tJ (PyProof.Rows.callWith_type1 (eP (E f pins s G H _ I h) λZ c yq=>?_) (by rw[F,g]) (by rw[g];rfl)));refine qq λW_=>?_;obtain⟨vs,J,i,L,M⟩:=yq;apply W_;refine qq λqz=>?_;obtain⟨N,O,e,⟨xs,P⟩,⟨ys,Q⟩,q⟩:=M;apply qz;subst e;refine qq λqz=>?_;obtain⟨u,v,rfl,S,T⟩:=rM L;apply qz;cases S;cases T;refine qq λqz=>?_;obtain⟨t,U,w,z1⟩:=i.list P;obtain⟨x,W,y,z2⟩:=i.list Q;apply qz;have a1:N<c.heap.objs.size:=by obtain⟨_,e,_⟩:=w.isList;exact Heap.lt_size e
 have a2:O<c.heap.objs.size:=by obtain⟨_,e,_⟩:=y.isList;exact Heap.lt_size e
 refine call_zip_2 w.isList y.isList λh' z l m n o _ Y=>wpAny_pyIter_zip z ?_;refine⟨c.heap.objs.size+4,[c.heap.objs.size+4,c.heap.objs.size+2,c.heap.objs.size+3,c.heap.objs.size,c.heap.objs.size+1],_,_,J,rfl,i.kept (t':=c.toks) Y,yM (zipApart_new a1 a2),⟨z,l,⟨_,_,m⟩,n,o⟩,λb A=>?_,q⟩;have j:c.heap.objs.size<=b:=by
  simp only[List.mem_cons,List.not_mem_nil,or_false]at A;rcases A with rfl|rfl|rfl|rfl|rfl <;>lia
 exact i.fpOk j (i.hok.fresh j)
end
noncomputable def Nn(K:PySem.W.Frag)(a:Addr)(n:Nat):It:=
 ⟨λi H=>∃b,SqL K H a b/\b.length=n/\i<n,λi H x c=>c=H/\∀b,SqL K H a b->b[n-1-i]? =some x,λi _=>n<=i⟩
theorem yN{P:Program}{w:World}{K:PySem.W.Frag}{Q:Expr}{g l:Addr}{n:Nat}:Turn P w K Q (Nn K l n) [g] g (λi h=>i<=n/\h.IsRevIter g l ((n:Int)-1-(i:Int))) where
 mem:=by simp
 obj:=λi h a b j=>by
  have e:b=g:=by simpa using j
  subst e;refine qq λqz=>?_;obtain⟨_,o,e,c,d⟩:=a;apply qz;exact⟨o,e,λv z=>by rw[d]at z;cases z⟩
 keep:=λi h q a k=>⟨a.1,a.2.at λo e=>k g (by simp) o e⟩
 item:=by
  intro X t hw y L i pins s M H E I r a A;subst t hw y;refine qq λqz=>?_;obtain⟨R,N,hn,hi⟩:=A;obtain⟨S,T,p,hz⟩:=I.list N;obtain⟨x,O⟩:∃x,R[n-1-i]? =some x:=⟨_,List.getElem?_eq_getElem (by lia)⟩;obtain⟨u,U,W⟩:=T.get O;obtain⟨B,C,Y,D,F,G⟩:=r g (by simp);apply qz;have J:(n:Int)-1-(i:Int)=((n-1-i:Nat):Int):=by lia
  have f:=a.2;rw[J]at f;refine wpAny_pyNext_rev_item f p.isList (x:=u) (by simpa using U) λq m Z=>?_;have I1:Inv X pins M H {s with heap:=q}:=I.turned (t':=s.toks) (λb o j e=>(Z.2 b j).trans e) B C D F G;refine qq λqz=>?_;obtain⟨o,e,c,d⟩:=id m;apply qz;refine⟨u,rfl,Ac (s:={s with heap:=q}) e c d (by decide) ⟨x,H,I1,W,⟨rfl,λys hy=>by rw[I.list_inj hy N];exact O⟩,⟨by lia,?_⟩,λb j=>(r b j).1⟩⟩;have e2:(n:Int)-1-((i+1:Nat):Int)=((n-1-i:Nat):Int)-1:=by lia
  rw[e2];exact m
 done:=by
  intro X t hw y L i pins s M H E I r a A;subst t hw y;have a0:n<=i:=A;refine qq λqz=>?_;obtain⟨B,C,Y,D,F,G⟩:=r g (by simp);apply qz;have J:(n:Int)-1-(i:Int)=-1:=by have:=a.1;lia
  have f:=a.2;rw[J]at f;exact wpAny_pyNext_rev_end (I.ok.hd L) f λq eb=>⟨rfl,I.turned (t':=s.toks) (λb o j e=>eb b o j e) B C D F G⟩
 self:=λ_ _ _ _ _ a h=>wpAny_pyIter_revIter a.2 h
section
variable{X:Cx}{K:PySem.W.Frag}
noncomputable def Mi(K:PySem.W.Frag)(t:TA):TI:=λd H R=>t d H λe b=>∃a c,e=[.ref a]/\SqL K b a c/\R (Nn K a c.length) b
theorem rW{m:Expr}{a:Expr}{k:TA}{p d:Pos}(n:X.K=K)(r:Gl X "reversed")(t:X.mg "reversed"=none)(v:PA X [a] k)(w:starEach [a] X.env=[(false,eval a X.env)]:=by rfl):
  PI X m (.Call (.Name "reversed" p) [a] [] d) (Mi K k):=by
 subst n;intro pins s x H R I h;refine Call_ (gN I r t iW (PyProof.Rows.callWith_type1 (eP (v d pins s x H _ I h) λJ c yq=>?_) (by rw[w];rfl) (by rfl)));refine qq λW_=>?_;obtain⟨L,y,i,z,A⟩:=yq;apply W_;refine qq λqz=>?_;obtain⟨l,B,e,C,q⟩:=A;apply qz;subst e;refine qq λqz=>?_;obtain⟨u,rfl,D⟩:=nQ z;apply qz;cases D;refine qq λqz=>?_;obtain⟨f,j,E,M⟩:=i.list C;apply qz;have F:=j.length;refine call_reversed_list E.isList ?_;have g:(c.heap.push (revObj l ((f.toArray.size:Int)-1))).IsRevIter c.heap.objs.size l ((B.length:Int)-1-((0:Nat):Int)):=by
  refine⟨_,Heap.get?_push_size _ rfl,rfl,?_⟩;simp only[revObj,List.size_toArray];rw[F];simp
 refine wpAny_pyIter_revIter g ?_;refine⟨c.heap.objs.size,[c.heap.objs.size],_,_,y,rfl,i.kept (t':=c.toks) λb o e=>Heap.get?_push_of_some _ e,yN,⟨Nat.zero_le _,g⟩,λb G=>?_,q⟩;have e:b=c.heap.objs.size:=by simpa using G
 subst e;exact i.fpOk (Nat.le_refl _) (i.hok.fresh (Nat.le_refl _))
end
section
variable{K:PySem.W.Frag}{H₀:Hp}{E:XK}{te ta tb:TE}{da db de:DE}{dl dk:DL}{t:TA}
noncomputable def pairD:List PyData->List PyData->List PyData
 |x::a,y::b=>.tuple [x,y]::pairD a b
 |_,_=>[]
theorem oB:∀a b:List PyData,(pairD a b).length=min a.length b.length
 |[],_=>by simp[pairD]
 |_::_,[]=>by simp[pairD]
 |x::a,y::b=>by simp[pairD,oB a b]
theorem rZ:∀{xs ys:List PyData}{i:Nat}{d:PyData},(pairD xs ys)[i]? =some d->∃x y,xs[i]? =some x/\ys[i]? =some y/\d= .tuple [x,y]
 |[],_,_,_,h=>by simp[pairD]at h
 |_::_,[],_,_,h=>by simp[pairD]at h
 |x::xs,y::ys,0,d,h=>⟨x,y,rfl,rfl,by simpa[pairD]using h.symm⟩
 |x::xs,y::ys,i+1,d,h=>by
  refine qq λqz=>?_;obtain⟨u,v,a,b,c⟩:=rZ (xs:=xs) (ys:=ys) (i:=i) (d:=d) (by simpa[pairD]using h);apply qz;exact⟨u,v,by simpa using a,by simpa using b,c⟩
noncomputable def Iq(dl dk:DL)(a:DX)(b:cI)(Q:List PyData->Prop):Prop:=dl a b λc=>dk a b λd=>Q (pairD c d)
theorem zV{a b:Addr}{c f:List V}{xs g:List PyData}{G H:Hp}(s:Sub G H)(h:SqL K H a c)(j:SqL K H b f)(m:DVs K G c xs)(d2:DVs K G f g)(i:Nat):
  (∀d,(pairD xs g)[i]? =some d->(Nm K a b).go i H/\∀x k,(Nm K a b).yld i H x k->∃n,Ext G H n k/\DV K n x d)/\((pairD xs g).length<=i->(Nm K a b).stop i H):=by
 refine⟨λd l=>?_,λl=>⟨c,f,h,j,?_⟩⟩
 ·refine qq λqz=>?_;obtain⟨x,y,w,A,rfl⟩:=rZ l;obtain⟨u,o,B⟩:=m.at w;obtain⟨v,p,C⟩:=d2.at A;apply qz;refine⟨⟨c,f,h,j,(List.getElem?_eq_some_iff.mp o).1,(List.getElem?_eq_some_iff.mp p).1⟩,λz k ⟨T,J,L,D,F,I,k1,k2⟩=>?_⟩;subst D I;have q:=k1 c h;have r:=k2 f j;rw[o]at q;rw[p]at r;cases q;cases r;have e:=qX (xs:=[u,v]) s F;exact⟨_,e,.tup (SqT.of bN) (.cons (cX e.g B) (.cons (cX e.g C) .nil))⟩
 ·rw[oB]at l;have:=m.len;have:=d2.len
  lia
theorem zW(s:gI K H₀ E ta da)(u:gI K H₀ E tb db):IvS K H₀ E (Ij K (eG ta (eG tb kR))) (Iq (tE da) (tE db)):=λj l m G H F R n S q k=>
 s j l m G H _ _ n S q λv d w x f y o=>by
  cases d with
  |list I=>
   refine u j l m w x _ _ n (S.ext f) o λJ d2 z A c g p=>?_;cases d2 with
   |list L=>
    refine qq λqz=>?_;obtain⟨a,B,rfl,a1,a2⟩:=dY y;obtain⟨b,C,rfl,r,D⟩:=dY g;apply qz;refine⟨a,b,rfl,⟨B,c.h.seq (f.s.same.seq a1)⟩,⟨C,c.s.same.seq r⟩,k _ _ z A (f.trans c) (λM N e h i=>?_) p⟩;exact zV h (h.same.seq (e.seq (c.g.seq a1))) (h.same.seq (e.seq r)) (bA e (bA c.g a2)) (bA e D) i
   |_=>exact p.elim
  |_=>exact o.elim
theorem gO(m:Bl K H₀ E ta dl)(n:Bl K H₀ E tb dk):Of K H₀ E (Ij K (eG ta (eG tb kR))) (Iq dl dk):=λd f g G H z R h S q k=>
 m d f g G H _ _ h S q λa o A p r j a1 a2 s=>n d f g p r _ _ h (S.ext j) s λb u B v w c l x y=>
  ⟨a,b,rfl,⟨o,c.h.seq a1⟩,⟨u,l⟩,k _ _ v w (j.trans c) (λC D e i=>zV e.s (e.h.seq (c.h.seq a1)) (e.h.seq l) (bA e.g (bA c.g a2)) (bA e.g x) i) y⟩
noncomputable def Iu(dl:DL)(a:DX)(b:cI)(Q:List PyData->Prop):Prop:=dl a b λc=>Q c.reverse
theorem Ig{a:Addr}{b:List V}{e:List PyData}{G H:Hp}(s:Sub G H)(h:SqL K H a b)(j:DVs K G b e)(i:Nat):
  (∀d,e.reverse[i]? =some d->(Nn K a b.length).go i H/\∀x f,(Nn K a b.length).yld i H x f->∃k,Ext G H k f/\DV K k x d)/\(e.reverse.length<=i->(Nn K a b.length).stop i H):=by
 have m:=j.len;refine⟨λd c=>?_,λc=>?_⟩
 ·have g:i<e.length:=by
   have:=(List.getElem?_eq_some_iff.mp c).1;simpa using this
  rw[List.getElem?_reverse g]at c;refine qq λqz=>?_;obtain⟨u,n,o⟩:=j.at c;apply qz;refine⟨⟨b,h,rfl,by lia⟩,λz f yq=>?_⟩;obtain⟨p,k1⟩:=yq;subst p;have l:=k1 b h;rw[m,n]at l;cases l;exact⟨G,.refl s,o⟩
 ·show b.length<=i;rw[List.length_reverse]at c
  lia
theorem Ii(g:gI K H₀ E ta da):IvS K H₀ E (Mi K (eG ta kR)) (Iu (tE da)):=λh j l G H s R m S q k=>
 g h j l G H _ _ m S q λv d n o b p c=>by
  cases d with
  |list u=>
   refine qq λqz=>?_;obtain⟨a,r,rfl,a1,a2⟩:=dY p;apply qz;exact⟨a,r,rfl,b.s.same.seq a1,k _ _ n o b (λw x e f i=>Ig f (f.same.seq (e.seq a1)) (bA e a2) i) c⟩
  |_=>exact c.elim
end
theorem uG:typeLookup (.type "list_reverseiterator") "__len__"=pure none:=by rw[typeLookup_type,builtinLookup_eq_fast];kernel_rfl
theorem zT:typeLookup (.type "list_reverseiterator") "__length_hint__"=pure (some (.builtin "list_reverseiterator.__length_hint__")):=by rw[typeLookup_type,builtinLookup_eq_fast];kernel_rfl
section
variable{prog:Program}{w:World}{A:Around}{E:Value->Shared->Prop}{s:Shared}
theorem lU{I:Addr}{Q:Bool->Shared->Prop}(d:s.TypeIs (.ref I) "list_reverseiterator")(h:Q false s):wpAny (model prog w) A (Builtin.List.listLengthHint (.ref I)) Q E s:=by
 unfold Builtin.List.listLengthHint;refine wpAny_bind (wpAny_specialOf d uG ?_);show wpAny _ A (specialOf (Value.ref I) (Str.ofString "__length_hint__")>>=_) _ _ _;refine wpAny_bind (wpAny_specialOf d zT ?_);generalize c:("list_reverseiterator.__length_hint__":String)=e
 wp_delta
 rw[show splitId e=some ("list_reverseiterator","__length_hint__")from by subst c;decide +kernel];subst c;refine wpAny_bind (wpAny_isInstance (T:="list_reverseiterator") (b:=true) d (by rw[isSubtype_type];kernel_rfl) ?_);refine wpAny_ite_split (λa=>absurd a (by decide)) (λ_=>?_);refine wpAny_ite_split (λ_=>?_) (λa=>absurd (by decide +kernel) a);refine wpAny_ite_split (λa=>absurd a (by decide)) (λ_=>?_);exact wpAny_pure h
end
section
variable{prog:Program}{w:World}{A:Around}{s:Shared}{R:Result->Shared->Prop}
variable{I:Addr}{fp wr:List Addr}{G:Array GenState->Array GenState->Prop}{n:Nat}{P:Nat->Value->Prop}{St:Nat->Shared->Prop}
theorem kP(W:WalksS prog w A.in1 I fp wr G n P St)(q:∀i s,St i s->s.TypeIs (.ref I) "list_reverseiterator")(S:Addr)(g:Value)(h:Nat)(c:St 0 s)(j:S∉fp)(r:I∈fp)
  (t:s.heap.get? S=some {cls:=.type "list",data:=.seq #[] h})
  (u:∀b a d,Moved (S::wr) G s b->b.heap.get? S=some {cls:=.type "list",dict:=none,data:=.seq a d,slots:=#[]}->ItemsOf P a n->R (.ok (.ret g)) b) (hn:n<=sizeLine):
  wpAny (model prog w) A.in1 (Builtin.List.listExtendWith (.ref S) (.ref I) g)
   (λl b=>match l with | .done f=>R (.ok f) b| .again d=>d.quiet=true/\codeAny (model prog w) A d R b) (λe b=>R (.error e) b) s:=by
 have m:S≠I:=λe=>j (e▸r);unfold Builtin.List.listExtendWith;refine wpAny_bind (wpAny_typeOf (q 0 _ c) ?_);have v:Builtin.List.listSameRef (.ref S) (.ref I)=false:=by simp[Builtin.List.listSameRef,m]
 have x:(Value.type "list_reverseiterator"==Value.type "list")=false:=by decide
 have y:(Value.type "list_reverseiterator"==Value.type "tuple")=false:=by decide
 simp only[v,x,y,Bool.or_false,Bool.false_eq_true,if_false];refine wpAny_bind (W.self 0 _ _ _ c ?_);refine wpAny_bind (wpAny_holding (lU (q 0 _ c) ?_));refine wpAny_ite_split (λo=>absurd o (by decide +kernel)) (λ_=>?_);exact wpAny_pure ⟨plainId_quiet F.plain_extend_loop _,codeAny_extend_loopS W hn _ j _ n 0 _ _ _ rfl (Nat.zero_le _) c t (ItemsOf.nil P) λb a d z p k=>u b a d z p k⟩
theorem iR(W:WalksS prog w A.in1 I fp wr G n P St)(v:∀i s,St i s->s.TypeIs (.ref I) "list_reverseiterator")(S:Addr)(p:St 0 s)(j:S∉fp)(x:I∈fp)
  (q:s.heap.get? S=some {cls:=.type "list",data:=.seq #[]})
  (y:∀c a g,Moved (S::wr) G s c->c.heap.get? S=some {cls:=.type "list",dict:=none,data:=.seq a g,slots:=#[]}->ItemsOf P a n->R (.ok (.ret .none)) c) (hn:n<=sizeLine):
  wpAny (model prog w) A.in1 (Builtin.«list.__init__» ⟨[.ref S,.ref I],[]⟩)
   (λr c=>match r with | .done f=>R (.ok f) c| .again g=>g.quiet=true/\codeAny (model prog w) A g R c) (λe c=>R (.error e) c) s:=by
 show wpAny _ A.in1 (do let t <-Builtin.List.listItems (.ref S);Builtin.List.listUpdate (.ref S) (λ_=>#[]);letGo t.toList.reverse;Builtin.List.listExtendWith (.ref S) (.ref I) .none) _ _ s;refine wpAny_bind ?_;unfold Builtin.List.listItems;refine wpAny_bind (wpAny_seqItems q rfl (wpAny_pure ?_));show wpAny _ A.in1 (updateSeq S (λ_=>#[])>>=λ_=>letGo (#[]:Array Value).toList.reverse>>=λ_=>Builtin.List.listExtendWith (.ref S) (.ref I) .none) _ _ s;refine wpAny_bind (wpAny_updateSeq q rfl ?_);have d:=Heap.get?_update_self (Obj.mapSeq (λ_=>(#[]:Array Value))) q rfl;have k:∀b o,b≠S->s.heap.get? b=some o->(s.heap.update S (Obj.mapSeq (λ_=>(#[]:Array Value)))).get? b=some o:=
  λb o l e=>(Heap.get?_update_other _ _ (Ne.symm l)).trans e
 refine wpAny_bind (wpAny_letGo ?_);refine kP (hn:=hn) W v S .none _ (W.frame 0 s _ s.toks p (Nat.le_refl _) λb l o e=>k b o (λh=>j (h▸l)) e) j x d λc a g z u m=>?_;exact y c a g (Moved.trans W.gtrans ((Moved.refl W.grefl).then_heap (Nat.le_refl _) λb o l e=>k b o (λh=>l (h▸List.mem_cons_self)) e) z) u m
end
section
variable{prog:Program}{w:World}{A:Around}{E:Value->Shared->Prop}{s:Shared}
theorem sH{Q:Value->Shared->Prop}{it l:Addr}{items:Array Value}(B:A.handled=none)(n:l≠it)(f:s.heap.IsRevIter it l ((items.size:Int)-1))(y:s.heap.IsList l items)(hn:items.size<=sizeLine)
  (C:∀h' D a p,(∀b o,b≠it->s.heap.get? b=some o->h'.get? b=some o) ->
   h'.get? s.heap.objs.size=some {cls:=.type "list",dict:=none,data:=.seq a p,slots:=#[]}->ItemsOf (λi v=>items[items.size-1-i]? =some v) a items.size->Q (.ref s.heap.objs.size) {s with heap:=h',toks:=D}):
  wpAny (model prog w) A (call (.type "list") [.ref it]) Q E s:=by
 have W:=(Walks.listRev (prog:=prog) (w:=w) (A:=A.in1.in1) B it l n items).toS;have q:it<s.heap.objs.size:=by obtain⟨o,e,_⟩:=f;exact Heap.lt_size e
 have r:l<s.heap.objs.size:=by obtain⟨o,e,_⟩:=y;exact Heap.lt_size e
 have t:s.heap.objs.size∉[it,l]:=λg=>by
  simp only[List.mem_cons,List.not_mem_nil,or_false]at g;rcases g with e|e
  ·exact absurd (e▸q) (Nat.lt_irrefl _)
  ·exact absurd (e▸r) (Nat.lt_irrefl _)
 refine callType_codes (Q₁:=λh d=>h= .ref s.heap.objs.size/\d={s with heap:=s.heap.push {cls:=.type "list",data:=.seq #[]}}) F.called_list (F.typeCall_list_1 _) F.entry_list_init
  (code_list_new _ ⟨rfl,rfl⟩) λh d j=>?_
 refine qq λqz=>?_;obtain⟨rfl,rfl⟩:=j;apply qz;have z:(s.heap.push {cls:=.type "list",data:=.seq #[]}).get? s.heap.objs.size=some {cls:=.type "list",data:=.seq #[]}:=Heap.get?_push_size _ rfl;have k:(s.heap.push {cls:=.type "list",data:=.seq #[]}).IsRevIter it l ((items.size:Int)-1-((0:Nat):Int)):=by
  have:=f.at (h':=s.heap.push {cls:=.type "list",data:=.seq #[]}) λo e=>Heap.get?_push_of_some _ e;simpa using this
 refine⟨⟨_,z,rfl⟩,F.args_list_init_2 _ _,iR (hn:=hn) W (λi u G=>G.2.1.typeIs) _ ⟨Nat.zero_le _,k,y.at λo e=>Heap.get?_push_of_some _ e⟩ t (by simp) z λu a p g x m=>?_⟩;rw[Moved.eq_with g];refine⟨rfl,C u.heap u.toks a p (λb o H e=>g.heap b o (λc=>?_) (Heap.get?_push_of_some _ e)) x m⟩;rcases List.mem_cons.mp c with I|c
 ·exact absurd (Heap.lt_size e) (by rw[I];exact Nat.lt_irrefl _)
 ·exact H (by simpa using c)
end
section
variable{X:Cx}{pins:List (Addr×Obj)}{σ:L2.St}{H:Hp}{s:Shared}
theorem Cv{T:Addr}{o:HO}(I:Inv X pins σ H s)(f:gT X pins H T)(j:X.s₀.heap.objs.size<=T)(g:ObjOk X.prog X.w (eO H T o) s.heap T o):Inv X pins σ (eO H T o) s:=by
 refine qq λqz=>?_;obtain⟨k,l,A,B,t,w⟩:=f;apply qz;have a:∀b u,H b=some u->b≠T:=λb u e z=>by rw[z,k]at e;cases e
 refine⟨I.ok,I.os,I.bare,⟨I.base.keep,I.base.slot,λb u e n d=>?_,I.base.there,λb h e=>?_,λb u v e=>?_,λb x e=>?_⟩,I.loc,I.cell,?_,λy c e=>?_,λp i=>?_,λb u e=>?_,I.len⟩
 ·rw[bE (Nat.ne_of_lt (Nat.lt_of_lt_of_le (Heap.lt_size e) j))];exact I.base.free b u e n d
 ·have q:=I.base.tups b h e;rw[bE (a b _ q)];exact q
 ·have q:=I.base.frzs b u v e;rw[bE (a b _ q)];exact q
 ·obtain⟨m,q⟩:=I.base.tbls b x e;exact⟨m,by rw[bE (a b _ q)];exact q⟩
 ·rw[bE (Ne.symm l)];exact I.free
 ·rw[bE (t y c e)];exact I.freeC y c e
 ·refine qq λqz=>?_;obtain⟨e,n,r⟩:=I.pin p i;apply qz;exact⟨e,by rw[bE (w p i)];exact n,r⟩
 ·by_cases d:b=T
  ·subst d;rw[bN]at e;cases e;exact g
  ·rw[bE d]at e;exact(I.hok b u e).stay (λc v _ q=>q) (λc q=>by rw[bE (a c _ q)];exact q) λc h q=>by rw[bE (a c _ q)];exact q
end
theorem rL:∀{a:List V}{b:List Value},Vals a b->Vals a.reverse b.reverse
 |_,_,.nil=>.nil
 |_,_,.cons r t=>by
  rw[List.reverse_cons,List.reverse_cons];exact Vals.append (rL t) (.cons r .nil)
theorem xS{items:List Value}{a:Array Value}(h:ItemsOf (λi v=>items.toArray[items.toArray.size-1-i]? =some v) a items.toArray.size):a=items.reverse.toArray:=by
 obtain⟨c,d⟩:=h;apply Array.ext';apply List.ext_getElem?;intro i;simp only[List.size_toArray]at c;by_cases e:i<items.length
 ·have b:i<a.size:=by lia
  have:=d i a[i] (Array.getElem?_eq_getElem b);simp only[List.size_toArray,List.getElem?_toArray]at this;rw[List.getElem?_reverse e,this];simp[b]
 ·rw[List.getElem?_eq_none (by simp;lia),List.getElem?_eq_none (by simp;lia)]
section
variable{X:Cx}{K:PySem.W.Frag}
noncomputable def rO(K:PySem.W.Frag)(t:TA):TE:=λd H Q=>t d H λe b=>∃a c,e=[.ref a]/\SqL K b a c/\∀l,b l=none->Q (.ref l) (eO b l (.lst c.reverse))
theorem uC{a:Expr}{B:TA}{p r i c:Pos}(E:X.K=K)(F:X.calm=true)(w:Gl X "list")(x:X.mg "list"=none)(G:Gl X "reversed")(J:X.mg "reversed"=none)(L:PA X [a] B)(M:starEach [a] X.env=[(false,eval a X.env)]:=by rfl)
  (j:starEach [(.Call (.Name "reversed" r) [a] [] c:Expr)] X.env=[(false,eval (.Call (.Name "reversed" r) [a] [] c) X.env)]:=by rfl):
  PE X (.Call (.Name "list" p) [.Call (.Name "reversed" r) [a] [] c] [] i) (rO K B):=by
 subst E;intro pins s y H Q I h;refine Call_ (gN I w x PyProof.Rows.boot_list (PyProof.Rows.callWith_type1 ?_ (by rw[j];rfl) (by rfl)));rw[j];show wpAny _ _ (spliced ((false,eval (.Call (.Name "reversed" r) [a] [] c) X.env)::backTo i [])) _ _ s;refine Calls.spliced_cons (Call_ (gN I G J iW (PyProof.Rows.callWith_type1 (eP (L c pins s y H _ I h) λus d yq=>?_) (by rw[M];rfl) (by rfl))));refine qq λW_=>?_;obtain⟨vs,t,k,N,O⟩:=yq;apply W_;refine qq λqz=>?_;obtain⟨m,P,e,R,q⟩:=O;apply qz;subst e;refine qq λqz=>?_;obtain⟨u,rfl,S⟩:=nQ N;apply qz;cases S;refine qq λqz=>?_;obtain⟨f,C,z,T⟩:=k.list R;apply qz;have L1:=C.length;have a1:m<d.heap.objs.size:=by obtain⟨_,e,_⟩:=z.isList;exact Heap.lt_size e
 refine call_reversed_list z.isList (Calls.spliced_nil ?_);have v:Inv X pins y t {d with heap:=d.heap.push (revObj m ((f.toArray.size:Int)-1))}:=k.kept (t':=d.toks) λb o e=>Heap.get?_push_of_some _ e;have g:t d.heap.objs.size=none:=k.hok.fresh (Nat.le_refl _);have U:gT X pins t d.heap.objs.size:=k.fpOk (Nat.le_refl _) g;refine sH (s:={d with heap:=d.heap.push (revObj m ((f.toArray.size:Int)-1))}) (it:=d.heap.objs.size) (l:=m) (items:=f.toArray) (k.ok.hd F) (Nat.ne_of_lt a1) ⟨_,Heap.get?_push_size _ rfl,rfl,rfl⟩ (z.isList.at λo e=>Heap.get?_push_of_some _ e) (by rw[List.size_toArray];lia) λW Y D Z kk hS hI=>?_;have e:=xS hI;subst e
 have I3:Inv X pins y t {d with heap:=W,toks:=Y}:=dF (s:={d with heap:=d.heap.push (revObj m ((f.toArray.size:Int)-1))}) (ws:=[d.heap.objs.size]) v (λb o A e=>kk b o (by simpa using A) e) (λb A=>by
  have:b=d.heap.objs.size:=by simpa using A
  subst this
  exact U)
 have n:=v.hok.fresh (Nat.le_refl _);have I4:=Cv (o:=.lst P.reverse) I3 (v.fpOk (Nat.le_refl _) n) v.sz ⟨by rw[List.length_reverse];exact T,f.reverse,Z,rL C,hS⟩;exact⟨.ref _,_,I4,rfl,q _ n⟩
end
section
variable{K:PySem.W.Frag}{H₀:Hp}{E:XK}{te:TE}{dl:DL}
theorem uD(e:Bl K H₀ E te dl):uR K H₀ E (rO K (eG te kR)) (Iu dl):=λf g h G H r Q i S q k=>
 e f g h G H _ _ i S q λa c s t u b j l m=>⟨a,c,rfl,j,λp d=>by
  obtain⟨n,o⟩:=eX (xs:=c.reverse) (p:=p) b.s d
  exact k p _ _ _ _ (b.trans n) (b.h.free d) o bN l.rev m⟩
end
end Dl
namespace Dl
open PySem PySem.Spec PyProof.Rows L2 Lx PySem.W
noncomputable def Ord(N:Nat)(p:Array Nat):Prop:=p.Perm (List.toArray (List.range N))
theorem Ord.lt{N:Nat}{p:Array Nat}(h:Ord N p)(b:0<N)(i:Nat):p.getD i 0<N:=by
 by_cases a:i<p.size
 ·have e:p.getD i 0=p[i]:=by simp[Array.getD,a]
  rw[e];have c:p[i]∈p:=Array.getElem_mem a;have:=h.mem_iff.mp c;simpa using this
 ·have e:p.getD i 0=0:=by simp[Array.getD,a]
  rw[e];exact b
section
variable{prog:Program}{w:World}{A:Around}{E:Value->Shared->Prop}{s:Shared}
end
section
variable{X:Cx}{K:PySem.W.Frag}
end
section
variable{K:PySem.W.Frag}{H₀:Hp}{E:XK}{te ta:TE}{de da:DE}{dl:DL}
noncomputable abbrev pr(q:Int×Int):PyData:=.tuple [.int q.1,.int q.2]
end
section
variable{X:Cx}
noncomputable def vI:V->List V->Hp->VK->Prop:=λx b H Q=>∃l a i y,x= .ref l/\b=[.int i,y]/\H l=some (.lst a)/\0<=i/\i<=(a.length:Int)/\a.length<sizeLine/\Q .non (eO H l (.lst (a.take i.toNat++y::a.drop i.toNat)))
theorem xP:Qf X "list.insert" vI:=by
 intro pins s m H x o v p Q I d f h;refine qq λqz=>?_;obtain⟨l,w,i,y,rfl,rfl,b,A,B,C,q⟩:=h;apply qz;cases d;refine qq λqz=>?_;obtain⟨u,c,rfl,⟨t,rfl⟩,g⟩:=rM f;obtain⟨z,a,n,r,D,e⟩:=I.lstM b;apply qz;have hlen:=r.length;have E:=qU;refine call_meets F.slot_list_insert ⟨_,e,rfl⟩ F.entry_list_insert (F.args_list_insert_3 _ _ _) (PySem.AutoListH.list_insert_list_int_val_1 l a.toArray n i t c (by simp[Builtin.List.listFitsIndex];lia) (by rw[List.size_toArray];lia)) ⟨e,?_⟩;refine⟨.non,_,I.lset (its':=a.take i.toNat++c::a.drop i.toNat) b e ?_ ((r.take _).append (.cons g (r.drop _))) ?_,rfl,q⟩
 ·have j:¬i<0:=by lia
  have k:min i.toNat a.length=i.toNat:=by lia
  simp only[j,if_false,List.size_toArray,k];apply Array.ext';simp[List.take_of_length_le]
 ·rw[List.length_append,List.length_cons,List.length_take,List.length_drop]
  lia
end
section
variable{K:PySem.W.Frag}{H₀:Hp}{E:XK}{te ta:TE}{de da:DE}{dl:DL}
noncomputable def Iw(i:Nat)(da de:DE)(e:DEnds)(a:cI):Prop:=match slot a i with
 |some (.own b)=>da e.ex a λx=>(match x with
  | .int k=>de e.ex a λd=>0<=k/\k<=(b.length:Int)/\b.length<1000/\e.nx (iU (some (.own (b.take k.toNat++d::b.drop k.toNat))) i a)
  |_=>False)
 |_=>False
theorem Ge(i:Nat)(s:oX K H₀ E ta da)(h:gI K H₀ E te de):iX K H₀ E (vD (Os K "list" vI (nH i) (eG ta (eG te kR)))) (Iw i da de):=λg j G H e D l S q L=>by
 unfold Iw at q;split at q
 ·rename_i N m
  refine qq λqz=>?_;obtain⟨a,t,n,O,o,c⟩:=S.ownAt m;apply qz;refine⟨_,n,.inl ⟨rfl,_,SqL.of o⟩,s e.ex g j G H _ _ l S q λv d u w x y p=>?_⟩;cases d with
  |int k=>
   cases cT y;refine h e.ex g j u w _ _ l (S.ext x) p λz d2 A P B f C=>?_;refine qq λqz=>?_;obtain⟨F,I,Q,J⟩:=C;apply qz;have b:=x.trans B;have M:=S.ext b;have r:=c.len;exact⟨a,t,k,z,rfl,rfl,b.h _ _ o,F,by rw[r];exact I,cV (by rw[r];lia),L.nx _ _ A _ b.g (M.updO m n (((bA b.g c).take _).append (.cons f ((bA b.g c).drop _)))) J⟩
  |_=>exact p.elim
 ·exact q.elim
end
section
variable{X:Cx}{K:PySem.W.Frag}
end
section
variable{K:PySem.W.Frag}{H₀:Hp}{E:XK}{ta tb:TE}{db:DE}{dl:DL}
noncomputable def Mu(dl:DL)(db:DE)(a:DX)(b:cI)(Q:List PyData->Prop):Prop:=dl a b λc=>db a b λy=>match y with
 | .int k=>(-(2^63)<=k/\k<2^63)/\c.length*k.toNat<=1000/\Q (List.replicate k.toNat c).flatten
 |_=>False
theorem wH{G:Hp}{a:List V}{b:List PyData}(h:DVs K G a b):∀n:Nat,DVs K G (List.replicate n a).flatten (List.replicate n b).flatten
 |0=>.nil
 |n+1=>by
  rw[List.replicate_succ,List.replicate_succ,List.flatten_cons,List.flatten_cons];exact h.append (wH h n)
theorem zE(o:Qe K H₀ E ta dl)(r:oX K H₀ E tb db):uR K H₀ E (xI Kz ta tb) (Mu dl db):=λd e f G H D Q g S q k=>
 o d e f G H _ _ g S q λa h F s t i l1 l u=>r d e f s t _ _ g (S.ext i) u λy v I J b w c=>by
  cases v with
  |int j=>
   cases cT w;obtain⟨⟨x,z⟩,c,A⟩:=c;refine⟨a,j,h,rfl,rfl,b.h _ _ l1,x,z,Nat.le_of_lt (cV (by rw[l.len];exact c)),λp m=>?_⟩;obtain⟨B,C⟩:=eX (xs:=(List.replicate j.toNat h).flatten) b.s m;have n:=i.trans b;exact k p _ _ _ _ (n.trans B) (n.h.free m) C bN (wH (bA b.g l) _) A
  |_=>exact c.elim
end
theorem Me{K:PySem.W.Frag}{a:Addr}{e:Option Addr}{n:Nat}{f:Array (Option Value)}{b:Array Value}{xs:List V}{c:List PyData}(h:K.lookup a=some ⟨.type "tuple",e,.seq b n,f⟩)(g:b.size<=sizeLine)(r:Vals xs b.toList)(d:∀H,DVs K H xs c)(H:Hp):DV K H (.ref a) (.tuple c):=
 .tup (.inr ⟨_,b,n,h,rfl,rfl,g,r⟩) (d H)
noncomputable def Pc:Enc {x:Str//PyData.strOk x=true}:=⟨λx=>.str x.1,0,by decide,λx=>x.2,λ_=>by simp[PyData.depth],λx y=>by simp[PyData.eqv,Subtype.ext_iff]⟩
noncomputable def Lb(K:PySem.W.Frag)(b:Bool):R2:=λx y H Q=>∃(c:Type)(e:Enc c)(a:c)(d:List c),DV K H x (e.d a)/\DV K H y (.tuple (d.map e.d))/\∀k:Bool,(k=true↔a∈d)->Q (.bl (if b then !k else k)) H
section
variable{X:Cx}{K:PySem.W.Frag}
theorem Ci(c:X.K=K)(l:X.A.units+64<cLine):OpR X (compareOp .NotIn) (Lb K true):=by
 subst c;intro pins s m H x y v u Q I d f h;refine qq λqz=>?_;obtain⟨n,e,a,b,g,i,q⟩:=h;obtain⟨o,j⟩:=eL I g d;obtain⟨p,k⟩:=eL I i f;apply qz;have r:=e.depth a;have t:=e.small;exact PySem.SeqAt.notIn_tuple_reads k j (rA e b).1 (e.lay a) (by lia) ⟨.bl _,H,I,rfl,q _ (rG e a b)⟩
end
noncomputable def Ma(x y:PyData)(Q:PyData->Prop):Prop:=∃(b:Type)(e:Enc b)(a:b)(c:List b),x=e.d a/\y= .tuple (c.map e.d)/\∀k:Bool,(k=true↔a∈c)->Q (.bool !k)
section
variable{K:PySem.W.Frag}
theorem xK:Bk K (Lb K true) Ma:=by
 rintro G H x y i j l Q b d ⟨f,e,a,g,rfl,rfl,q⟩ k;exact⟨f,e,a,g,b,d,λc h=>k _ _ (.bl _) (q c h)⟩
end
section
variable{X:Cx}{K:PySem.W.Frag}
end
section
variable{K:PySem.W.Frag}
end
section
variable{prog:Program}{w:World}{A:Around}{E:Value->Shared->Prop}
theorem oR{c l:Addr}{items:Array Value}(y:A.handled=none)(m:l≠c):∀(n i:Nat)(s:Shared)(Q:List Value->Shared->Prop),s.heap.IsListIter c l i->s.heap.IsList l items->i+n<=items.size ->
  (∀r C,r.IsListIter c l (i+n)->r.IsList l items->(∀b o,b≠c->s.heap.get? b=some o->r.get? b=some o)->Q ((items.toList.drop i).take n) {s with heap:=r,toks:=C})->wpAny (model prog w) A (draw (.ref c) n) Q E s
 |0,i,s,Q,d,t,_,u=>by
  show wpAny _ _ (pure []) Q E s;exact wpAny_pure (by simpa using u s.heap s.toks d t λ_ _ _ e=>e)
 |n+1,i,s,Q,d,t,D,u=>by
  have f:i<items.size:=by lia
  show wpAny _ _ (pyNext (.ref c)>>=_) Q E s;refine wpAny_bind ((Walks.list y c l m items).item i s _ _ f ⟨d,t⟩ λv z x F p g=>?_);refine wpAny_bind (wpAny_holding (oR y m n (i+1) _ _ p.1 p.2 (by lia) λq h a j k=>wpAny_pure ?_));have G:items[i]=v:=by
   have:=F;rw[Array.getElem?_eq_getElem f]at this;exact Option.some.inj this
  have H:items.toList.drop i=v::items.toList.drop (i+1):=by
   rw[<-G];simp[List.drop_eq_getElem_cons,f]
  have:=u q h (by rw[show i+(n+1)=i+1+n by lia];exact a) j λb o B e=>k b o B (g b o (by simpa using B) e);rw[H,List.take_succ_cons]at this;exact this
theorem kQ{s:Shared}{l:Addr}{items:Array Value}{Q:List Value->Shared->Prop}(n:A.handled=none)(k:s.heap.IsList l items)
  (t:∀p u,(∀b o,s.heap.get? b=some o->p.get? b=some o)->Q items.toList {s with heap:=p,toks:=u}):wpAny (model prog w) A (unpackItems (.ref l) items.size none) Q E s:=by
 have h:l≠s.heap.objs.size:=by obtain⟨o,v,_⟩:=k;exact Nat.ne_of_lt (Heap.lt_size v)
 unfold unpackItems;refine wpAny_bind ?_
 ·unfold notIterableAtAll;refine wpAny_bind (wpAny_specialOf k.typeIs slot_list_iter.lookup ?_);refine wpAny_pure ?_;simp only[Bool.false_eq_true,if_false];refine wpAny_bind (wpAny_holding (wpAny_pyIter_list k ?_));refine wpAny_bind (wpAny_holding (oR n h items.size 0 _ _ ⟨_,Heap.get?_push_size _ rfl,rfl,rfl⟩ (k.push _) (by lia) λq m a c d=>?_));have i:List.take items.size (List.drop 0 items.toList)=items.toList:=by
   rw[List.drop_zero];exact List.take_of_length_le (by simp)
  rw[i];rw[if_neg (by simp)];refine wpAny_bind (wpAny_holding ((Walks.list n _ l h items).done _ _ _ ⟨by simpa using a,c⟩ λj f g=>?_));simp only[Option.isSome_none,Bool.false_eq_true,if_false];refine wpAny_pure (t j f λb o e=>?_);have r:b≠s.heap.objs.size:=Nat.ne_of_lt (Heap.lt_size e);exact g b o (by simpa using r) (d b o r (Heap.get?_push_of_some _ e))
theorem kN{s:Shared}{a:Env}{elts:List Expr}{f}{d:Pos}{l:Addr}{items:Array Value}{Q:Unit->Shared->Prop}(g:A.handled=none)(i:s.heap.IsList l items)
  (j:(assignEach elts a).length=items.size) (c:(assignEach elts a).findIdx? (·.1)=none)
  (h:∀e k,(∀b o,s.heap.get? b=some o->e.get? b=some o)->wpAny (model prog w) A (assignInOrder ((assignEach elts a).map (·.2)) items.toList) Q E {s with heap:=e,toks:=k}):
  wpAny (model prog w) A (assign (.Tuple elts f d) a (.ref l)) Q E s:=by
 rw[assign_Tuple];refine wpAny_bind (wpAny_standAt ?_);unfold unpack;rw[j,c];exact wpAny_bind (wpAny_holding (kQ g i h))
end
noncomputable def Ex(K:PySem.W.Frag)(n:Nat)(t:yC):TG:=λv c H Q=>∃a b,v= .ref a/\SqL K H a b/\b.length=n/\t b c H Q
section
variable{X:Cx}{K:PySem.W.Frag}
theorem Ld{b:List Expr}{k:Nat}{c:Pos}{t:yC}{n:Nat}(f:X.K=K)(g:X.calm=true)(h:Jp X b t)
  (i:(assignEach b X.env).length=n:=by rfl) (d:(assignEach b X.env).findIdx? (·.1)=none:=by rfl):PG X (.Tuple b k c) (Ex K n t):=by
 subst f;intro pins s j H v u Q I r hw;refine qq λqz=>?_;obtain⟨a,l,m,o,p,hw⟩:=hw;apply qz;subst m;cases r;refine qq λqz=>?_;obtain⟨q,e,w,z⟩:=I.list o;apply qz;refine kN (I.ok.hd g) w.isList (by simp[i,<-p,e.length]) d λA x y=>?_;exact h pins _ j H l _ Q (I.kept (t':=x) y) (by simpa using e) hw
end
noncomputable def Ab(n:Nat)(a:Jq)(d:PyData)(c:cI)(Q:cI->Prop):Prop:=match d with
 | .list b=>b.length=n/\a b c Q
 |_=>False
section
variable{K:PySem.W.Frag}{H₀:Hp}
theorem yT{H b:Hp}{a:Addr}{c:List V}(e:Same H b)(h:SqL K H a c):SqL K b a c:=by
 rcases h with(h|⟨o,h⟩)|h
 ·exact .inl (.inl (e _ _ h))
 ·exact .inl (.inr ⟨o,e _ _ h⟩)
 ·exact .inr h
theorem zY{n:Nat}{c:yC}{e:List Nat}{b:Jq}(h:Bh K H₀ c e b):Du K H₀ (Ex K n c) e (Ab n b):=λv d g i G H o Q S j q k=>by
 unfold Ab at q;split at q
 ·obtain⟨a,l,rfl,m,f⟩:=dY j;exact⟨a,l,rfl,yT S.sub.same m,by rw[f.len];exact q.1,h _ _ g i G H _ _ S f q.2 k⟩
 ·exact q.elim
end
noncomputable def Kh:TS:=λ_ _ _=>False
theorem zC{X:Cx}{a:Stmt}:PS X a Kh:=λ_ _ _ _ _ _ h=>h.elim
noncomputable def Mx:DS:=λ_ _=>False
theorem yR{K:PySem.W.Frag}{a:Hp}{E:XK}:iX K a E Kh Mx:=λ_ _ _ _ _ _ _ _ q _=>q.elim
local macro_rules|`(tactic|walk_at"o")=>`(tactic|first|lia|(refine(λ(h:@Eq Nat _ _)=>?_);lia))
noncomputable abbrev dI(h:Heap)(T:Addr)(a b c:Value):Prop:=h.get? T=some {cls:=.type "tuple",data:=.seq #[a,b,c]}
theorem nG(a b c:Value):checkTypeCall "zip" ⟨[a,b,c],[]⟩=pure ():=by kernel_rfl
theorem qQ(a b c:Value):checkBuiltinCall "zip.__new__" ⟨[.type "zip",a,b,c],[]⟩=pure ():=by kernel_rfl
theorem uQ(a b c d:Value):argsOk "object.__init__" ⟨[a,b,c,d],[]⟩:=by
 unfold argsOk;rw[signature?_of (id:="object.__init__") (n:=['_','_','t','i','n','i','_','_']) (o:=['t','c','e','j','b','o']) (by kernel_rfl) F.owner_object];kernel_rfl
section
variable{prog:Program}{w:World}{A:Around}{E:Value->Shared->Prop}{s:Shared}
theorem jJ{T:Addr}{a b c x:Value}{k:Nat}{Q:Unit->Shared->Prop}(e:dI s.heap T a b c)
  (h:∀d,d.get? T=some {cls:=.type "tuple",data:=.seq ((#[a,b,c]:Array Value).setIfInBounds k x)}->Heap.SameBut T s.heap d->Q () {s with heap:=d}):
  wpAny (model prog w) A (updateSeq T (·.setIfInBounds k x)) Q E s:=by
 refine wpAny_updateSeq e rfl (h _ ?_ (Heap.SameBut.update ..));rw[Heap.get?_update_self _ e rfl];simp[Obj.mapSeq]
theorem xD{n l1 l2 l3:Nat}{k:Nat}{xs ys zs:Array Value}{x y v a b c:Value}{Q:Value->Shared->Prop}(L1:l1<n)(L2:l2<n)(L3:l3<n)
  (I:IsZip s.heap (n+5) (n+3) (n+4) .none) (R:dI s.heap (n+3) (.ref n) (.ref (n+1)) (.ref (n+2))) (S:dI s.heap (n+4) a b c)
  (h1:s.heap.IsListIter n l1 k) (h2:s.heap.IsListIter (n+1) l2 k) (h3:s.heap.IsListIter (n+2) l3 k) (g1:s.heap.IsList l1 xs) (g2:s.heap.IsList l2 ys) (g3:s.heap.IsList l3 zs)
  (hx:xs[k]? =some x) (hy:ys[k]? =some y) (hv:zs[k]? =some v)
  (hQ:∀G,IsZip G (n+5) (n+3) (n+4) (rawInt s.heap.objs.size)->dI G (n+4) x y v->G.IsListIter n l1 (k+1)->G.IsListIter (n+1) l2 (k+1)->G.IsListIter (n+2) l3 (k+1)->dI G s.heap.objs.size x y v ->
   (∀(d:Nat) o,d∉([n,n+1,n+2,n+4,n+5]:List Nat)->s.heap.get? d=some o->G.get? d=some o)->Q (.ref s.heap.objs.size) {s with heap:=G}):
  wpAny (model prog w) A (Builtin.«zip.__next__» ⟨[.ref (n+5)],[]⟩) (λT s'=>∃v,T= .done (.ret v)/\Q v s') E s:=by
 show wpAny _ _ (field (.ref (n+5)) 2>>=_) _ _ _;refine wpAny_bind (wpAny_field I rfl (x:=.bool false) rfl ?_);show wpAny _ _ (field (.ref (n+5)) 3>>=_) _ _ _;refine wpAny_bind (wpAny_field I rfl (x:=.ref (n+3)) rfl ?_);refine wpAny_bind (wpAny_seqItems R rfl ?_);show wpAny _ _ (Builtin.SmallTypes.ownedTupleIsFree (.ref (n+5))>>=_) _ _ _;refine wpAny_bind ?_;unfold Builtin.SmallTypes.ownedTupleIsFree;refine wpAny_bind (wpAny_field I rfl (x:=.none) rfl (wpAny_pure ?_));simp only[if_true];refine wpAny_bind (wpAny_rule ?_);refine wpAny_bind (wpAny_field I rfl (x:=.ref (n+4)) rfl ?_);refine wpAny_bind (wpAny_setField_rec I (by simp) λH p B=>?_)
 replace p:IsZip H (n+5) (n+3) (n+4) .ellipsis:=p
 have U:∀(d:Nat) o,d≠n+5->s.heap.get? d=some o->H.get? d=some o:=λd o F e=>B.extBut d o F e;refine wpAny_bind ?_;simp only[List.zipIdx_cons,List.zipIdx_nil,List.forIn_cons,List.forIn_nil];refine wpAny_bind (wpAny_bind (wpAny_onRaise ?_));show wpAny _ _ (Builtin.SmallTypes.nextOf (.ref n)>>=_) _ _ _;refine wpAny_bind (wpAny_nextOf_list_item (h1.at λo e=>U n o (by walk_at"o") e) (g1.at λo e=>U l1 o (by walk_at"o") e) hx λC i1 q=>wpAny_pure ?_);have q2:∀(d:Nat) o,d≠n+5->d≠n->s.heap.get? d=some o->C.get? d=some o:=λd o a1 a2 e=>q.extBut d o a2 (U d o a1 e);have z2:IsZip C (n+5) (n+3) (n+4) .ellipsis:=q.extBut _ _ (by walk_at"o") p;have t2:dI C (n+4) a b c:=q2 _ _ (by walk_at"o") (by walk_at"o") S;refine wpAny_bind (wpAny_seqItems t2 rfl ?_);refine wpAny_bind (jJ t2 λr W l=>?_)
 replace W:dI r (n+4) x b c:=W
 have X:∀(d:Nat) o,d≠n+5->d≠n->d≠n+4->s.heap.get? d=some o->r.get? d=some o:=λd o a1 a2 a3 e=>l.extBut d o a3 (q2 d o a1 a2 e);have z3:IsZip r (n+5) (n+3) (n+4) .ellipsis:=l.extBut _ _ (by walk_at"o") z2;have j3:r.IsListIter n l1 (k+1):=i1.at λo e=>l.extBut n o (by walk_at"o") e;refine wpAny_bind (wpAny_letGo (wpAny_pure ?_));refine wpAny_bind (wpAny_bind (wpAny_onRaise ?_));show wpAny _ _ (Builtin.SmallTypes.nextOf (.ref (n+1))>>=_) _ _ _;refine wpAny_bind (wpAny_nextOf_list_item (h2.at λo e=>X (n+1) o (by walk_at"o") (by walk_at"o") (by walk_at"o") e) (g2.at λo e=>X l2 o (by walk_at"o") (by walk_at"o") (by walk_at"o") e) hy λt i2 i=>wpAny_pure ?_);have q4:∀(d:Nat) o,d≠n+5->d≠n->d≠n+4->d≠n+1->s.heap.get? d=some o->t.get? d=some o:=λd o a1 a2 a3 a4 e=>i.extBut d o a4 (X d o a1 a2 a3 e);have z4:IsZip t (n+5) (n+3) (n+4) .ellipsis:=i.extBut _ _ (by walk_at"o") z3;have j4:t.IsListIter n l1 (k+1):=j3.at λo e=>i.extBut n o (by walk_at"o") e;have t4:dI t (n+4) x b c:=i.extBut _ _ (by walk_at"o") W;refine wpAny_bind (wpAny_seqItems t4 rfl ?_);refine wpAny_bind (jJ t4 λm Y j=>?_)
 replace Y:dI m (n+4) x y c:=Y
 have Z:∀(d:Nat) o,d≠n+5->d≠n->d≠n+4->d≠n+1->s.heap.get? d=some o->m.get? d=some o:=λd o a1 a2 a3 a4 e=>j.extBut d o a3 (q4 d o a1 a2 a3 a4 e);have z5:IsZip m (n+5) (n+3) (n+4) .ellipsis:=j.extBut _ _ (by walk_at"o") z4;have j5:m.IsListIter n l1 (k+1):=j4.at λo e=>j.extBut n o (by walk_at"o") e;have m5:m.IsListIter (n+1) l2 (k+1):=i2.at λo e=>j.extBut (n+1) o (by walk_at"o") e;refine wpAny_bind (wpAny_letGo (wpAny_pure ?_));refine wpAny_bind (wpAny_bind (wpAny_onRaise ?_));show wpAny _ _ (Builtin.SmallTypes.nextOf (.ref (n+2))>>=_) _ _ _;refine wpAny_bind (wpAny_nextOf_list_item (h3.at λo e=>Z (n+2) o (by walk_at"o") (by walk_at"o") (by walk_at"o") (by walk_at"o") e) (g3.at λo e=>Z l3 o (by walk_at"o") (by walk_at"o") (by walk_at"o") (by walk_at"o") e) hv λu i3 g=>wpAny_pure ?_);have z6:IsZip u (n+5) (n+3) (n+4) .ellipsis:=g.extBut _ _ (by walk_at"o") z5;have j6:u.IsListIter n l1 (k+1):=j5.at λo e=>g.extBut n o (by walk_at"o") e;have m6:u.IsListIter (n+1) l2 (k+1):=m5.at λo e=>g.extBut (n+1) o (by walk_at"o") e;have t6:dI u (n+4) x y c:=g.extBut _ _ (by walk_at"o") Y;refine wpAny_bind (wpAny_seqItems t6 rfl ?_);refine wpAny_bind (jJ t6 λf N h=>?_)
 replace N:dI f (n+4) x y v:=N
 have z7:IsZip f (n+5) (n+3) (n+4) .ellipsis:=h.extBut _ _ (by walk_at"o") z6;have j7:f.IsListIter n l1 (k+1):=j6.at λo e=>h.extBut n o (by walk_at"o") e;have m7:f.IsListIter (n+1) l2 (k+1):=m6.at λo e=>h.extBut (n+1) o (by walk_at"o") e;have p7:f.IsListIter (n+2) l3 (k+1):=i3.at λo e=>h.extBut (n+2) o (by walk_at"o") e;have q7:∀(d:Nat) o,d∉([n,n+1,n+2,n+4,n+5]:List Nat)->s.heap.get? d=some o->f.get? d=some o:=λd o F e=>by
  simp only[List.mem_cons,List.not_mem_nil,or_false,not_or]at F;obtain⟨a1,a2,a3,a4,a5⟩:=F;exact h.extBut d o a4 (g.extBut d o a3 (Z d o a5 a1 a4 a2 e))
 refine wpAny_bind (wpAny_letGo (wpAny_pure (wpAny_pure ?_)));refine wpAny_bind (wpAny_seqItems N rfl ?_);refine wpAny_bind (wpAny_newTuple ?_);have J:f.objs.size=s.heap.objs.size:=by rw[h.1,g.1,j.1,i.1,l.1,q.1,B.1]
 have lz:n+5<f.objs.size:=Heap.lt_size z7;show wpAny _ _ (Builtin.SmallTypes.ownedTupleHandOut (.ref (n+5)) (.ref f.objs.size)>>=_) _ _ _;refine wpAny_bind ?_;unfold Builtin.SmallTypes.ownedTupleHandOut;have z8:IsZip (f.push {cls:=.type "tuple",data:=.seq #[x,y,v]}) (n+5) (n+3) (n+4) .ellipsis:=Heap.get?_push_of_some _ z7;refine wpAny_bind (wpAny_setField_rec z8 (by simp) λK z9 D=>?_)
 replace z9:IsZip K (n+5) (n+3) (n+4) (rawInt f.objs.size):=z9
 refine wpAny_setField_rec z9 (by simp) λO P L=>?_
 replace P:IsZip O (n+5) (n+3) (n+4) (rawInt f.objs.size):=P
 have M:∀(d:Nat) o,d≠n+5->f.get? d=some o->O.get? d=some o:=λd o F e=>L.extBut d o F (D.extBut d o F (Heap.get?_push_of_some _ e));have tA:dI O f.objs.size x y v:=L.extBut _ _ (by walk_at"o") (D.extBut _ _ (by walk_at"o") (Heap.get?_push_size _ rfl));rw[J]at P tA;refine wpAny_pure ⟨_,rfl,?_⟩;show Q (.ref f.objs.size) _;rw[J];exact hQ O P (M _ _ (by walk_at"o") N) (j7.at λo e=>M n o (by walk_at"o") e) (m7.at λo e=>M (n+1) o (by walk_at"o") e) (p7.at λo e=>M (n+2) o (by walk_at"o") e) tA λd o F e=>M d o (λz=>F (by simp[z])) (q7 d o F e)
theorem yF{n l1 l2 l3:Nat}{k:Nat}{H I M:Array Value}{a b c:Value}{Q:Fin->Shared->Prop}(N:A.handled=none)(L1:l1<n)(L2:l2<n)(L3:l3<n)
  (B:IsZip s.heap (n+5) (n+3) (n+4) .none) (O:dI s.heap (n+3) (.ref n) (.ref (n+1)) (.ref (n+2))) (P:dI s.heap (n+4) a b c)
  (h1:s.heap.IsListIter n l1 k) (h2:s.heap.IsListIter (n+1) l2 k) (h3:s.heap.IsListIter (n+2) l3 k) (g1:s.heap.IsList l1 H) (g2:s.heap.IsList l2 I) (g3:s.heap.IsList l3 M)
  (C:H[k]? =none\/I[k]? =none\/M[k]? =none)
  (S:∀T e,(∀(d:Nat) o,d∉([n,n+1,n+2,n+4,n+5]:List Nat)->s.heap.get? d=some o->T.get? d=some o)->(∃o,T.get? e=some o/\o.cls= .type "StopIteration")->E (.ref e) {s with heap:=T}):
  wpAny (model prog w) A (Builtin.«zip.__next__» ⟨[.ref (n+5)],[]⟩) Q E s:=by
 show wpAny _ _ (field (.ref (n+5)) 2>>=_) _ _ _;refine wpAny_bind (wpAny_field B rfl (x:=.bool false) rfl ?_);show wpAny _ _ (field (.ref (n+5)) 3>>=_) _ _ _;refine wpAny_bind (wpAny_field B rfl (x:=.ref (n+3)) rfl ?_);refine wpAny_bind (wpAny_seqItems O rfl ?_);show wpAny _ _ (Builtin.SmallTypes.ownedTupleIsFree (.ref (n+5))>>=_) _ _ _;refine wpAny_bind ?_;unfold Builtin.SmallTypes.ownedTupleIsFree;refine wpAny_bind (wpAny_field B rfl (x:=.none) rfl (wpAny_pure ?_));simp only[if_true];refine wpAny_bind (wpAny_rule ?_);refine wpAny_bind (wpAny_field B rfl (x:=.ref (n+4)) rfl ?_);refine wpAny_bind (wpAny_setField_rec B (by simp) λr p z=>?_)
 replace p:IsZip r (n+5) (n+3) (n+4) .ellipsis:=p
 have J:∀(d:Nat) o,d≠n+5->s.heap.get? d=some o->r.get? d=some o:=λd o m e=>z.extBut d o m e;have stop:∀(g:Heap)(e:Addr),IsZip g (n+5) (n+3) (n+4) .ellipsis->(∀(d:Nat) o,d∉([n,n+1,n+2,n+4,n+5]:List Nat)->s.heap.get? d=some o->g.get? d=some o)->(∃o,g.get? e=some o/\o.cls= .type "StopIteration") ->
   ∀(R:Unit->Shared->Prop),(∀f:Heap,(∀(d:Nat) o,d∉([n,n+1,n+2,n+4,n+5]:List Nat)->s.heap.get? d=some o->f.get? d=some o)->(∃o,f.get? e=some o/\o.cls= .type "StopIteration")->R () {s with heap:=f})->∀E',wpAny (model prog w) A (setField (.ref (n+5)) 0 .none) R E' {s with heap:=g}:=λg e K k2 ⟨oe,U,hc⟩ R hR E'=>by
  have ne:e≠n+5:=λx=>by
   subst x;rw[K]at U;cases U;simp at hc
  refine wpAny_setField_rec K (by simp) λf _ j=>hR f (λd o m x=>j.extBut d o (λy=>m (by simp[y])) (k2 d o m x)) ⟨oe,j.extBut _ _ ne U,hc⟩
 refine wpAny_bind ?_;simp only[List.zipIdx_cons,List.zipIdx_nil,List.forIn_cons,List.forIn_nil];refine wpAny_bind (wpAny_bind (wpAny_onRaise ?_));show wpAny _ _ (Builtin.SmallTypes.nextOf (.ref n)>>=_) _ _ _;have b1:r.IsListIter n l1 k:=h1.at λo e=>J n o (by walk_at"o") e;have b2:r.IsList l1 H:=g1.at λo e=>J l1 o (by walk_at"o") e;cases W:H[k]? with
 |none=>
  refine wpAny_bind (wpAny_nextOf_list_end N b1 b2 W λg e l D=>?_);refine stop g e (l _ _ (by walk_at"o") p) (λd o m x=>?_) D _ (λf k3 e3=>S f e k3 e3) _;simp only[List.mem_cons,List.not_mem_nil,or_false,not_or]at m;exact l d o m.1 (J d o m.2.2.2.2 x)
 |some x=>
  refine wpAny_bind (wpAny_nextOf_list_item b1 b2 W λg i1 l=>wpAny_pure ?_);have q2:∀(d:Nat) o,d≠n+5->d≠n->s.heap.get? d=some o->g.get? d=some o:=λd o a1 a2 e=>l.extBut d o a2 (J d o a1 e);have K:IsZip g (n+5) (n+3) (n+4) .ellipsis:=l.extBut _ _ (by walk_at"o") p;have t2:dI g (n+4) a b c:=q2 _ _ (by walk_at"o") (by walk_at"o") P;refine wpAny_bind (wpAny_seqItems t2 rfl ?_);refine wpAny_bind (jJ t2 λf X j=>?_)
  replace X:dI f (n+4) x b c:=X
  have L:∀(d:Nat) o,d≠n+5->d≠n->d≠n+4->s.heap.get? d=some o->f.get? d=some o:=λd o a1 a2 a3 e=>j.extBut d o a3 (q2 d o a1 a2 e);have z3:IsZip f (n+5) (n+3) (n+4) .ellipsis:=j.extBut _ _ (by walk_at"o") K;refine wpAny_bind (wpAny_letGo (wpAny_pure ?_));refine wpAny_bind (wpAny_bind (wpAny_onRaise ?_));show wpAny _ _ (Builtin.SmallTypes.nextOf (.ref (n+1))>>=_) _ _ _;have c1:f.IsListIter (n+1) l2 k:=h2.at λo e=>L (n+1) o (by walk_at"o") (by walk_at"o") (by walk_at"o") e;have c2:f.IsList l2 I:=g2.at λo e=>L l2 o (by walk_at"o") (by walk_at"o") (by walk_at"o") e;cases Y:I[k]? with
  |none=>
   refine wpAny_bind (wpAny_nextOf_list_end N c1 c2 Y λq e i D=>?_);refine stop q e (i _ _ (by walk_at"o") z3) (λd o m x=>?_) D _ (λt k5 e5=>S t e k5 e5) _;simp only[List.mem_cons,List.not_mem_nil,or_false,not_or]at m;exact i d o m.2.1 (L d o m.2.2.2.2 m.1 m.2.2.2.1 x)
  |some y=>
   have hv:M[k]? =none:=by
    rcases C with h|h|h
    ·rw[W]at h;cases h
    ·rw[Y]at h;cases h
    ·exact h
   refine wpAny_bind (wpAny_nextOf_list_item c1 c2 Y λq i2 i=>wpAny_pure ?_);have q4:∀(d:Nat) o,d≠n+5->d≠n->d≠n+4->d≠n+1->s.heap.get? d=some o->q.get? d=some o:=λd o a1 a2 a3 a4 e=>i.extBut d o a4 (L d o a1 a2 a3 e);have z4:IsZip q (n+5) (n+3) (n+4) .ellipsis:=i.extBut _ _ (by walk_at"o") z3;have t4:dI q (n+4) x b c:=i.extBut _ _ (by walk_at"o") X;refine wpAny_bind (wpAny_seqItems t4 rfl ?_);refine wpAny_bind (jJ t4 λt t5 u=>?_);have Z:∀(d:Nat) o,d≠n+5->d≠n->d≠n+4->d≠n+1->s.heap.get? d=some o->t.get? d=some o:=λd o a1 a2 a3 a4 e=>u.extBut d o a3 (q4 d o a1 a2 a3 a4 e);have z5:IsZip t (n+5) (n+3) (n+4) .ellipsis:=u.extBut _ _ (by walk_at"o") z4;refine wpAny_bind (wpAny_letGo (wpAny_pure ?_));refine wpAny_bind (wpAny_bind (wpAny_onRaise ?_));show wpAny _ _ (Builtin.SmallTypes.nextOf (.ref (n+2))>>=_) _ _ _;refine wpAny_bind (wpAny_nextOf_list_end N (h3.at λo e=>Z (n+2) o (by walk_at"o") (by walk_at"o") (by walk_at"o") (by walk_at"o") e) (g3.at λo e=>Z l3 o (by walk_at"o") (by walk_at"o") (by walk_at"o") (by walk_at"o") e) hv λF e v D=>?_);refine stop F e (v _ _ (by walk_at"o") z5) (λd o m x=>?_) D _ (λG k7 e7=>S G e k7 e7) _;simp only[List.mem_cons,List.not_mem_nil,or_false,not_or]at m;exact v d o m.2.2.1 (Z d o m.2.2.2.2 m.1 m.2.2.2.1 m.2.1 x)
theorem mH{n l1 l2 l3:Nat}{k:Nat}{h i j:Array Value}{x y v a b c:Value}{Q:Option Value->Shared->Prop}(p:l1<n)(q:l2<n)(r:l3<n)
  (l:IsZip s.heap (n+5) (n+3) (n+4) .none) (f:dI s.heap (n+3) (.ref n) (.ref (n+1)) (.ref (n+2))) (g:dI s.heap (n+4) a b c)
  (t:s.heap.IsListIter n l1 k) (u:s.heap.IsListIter (n+1) l2 k) (z:s.heap.IsListIter (n+2) l3 k) (B:s.heap.IsList l1 h) (C:s.heap.IsList l2 i) (D:s.heap.IsList l3 j)
  (G:h[k]? =some x) (H:i[k]? =some y) (I:j[k]? =some v)
  (J:∀e,IsZip e (n+5) (n+3) (n+4) (rawInt s.heap.objs.size)->dI e (n+4) x y v->e.IsListIter n l1 (k+1)->e.IsListIter (n+1) l2 (k+1)->e.IsListIter (n+2) l3 (k+1)->dI e s.heap.objs.size x y v ->
   (∀(d:Nat) o,d∉([n,n+1,n+2,n+4,n+5]:List Nat)->s.heap.get? d=some o->e.get? d=some o)->Q (some (.ref s.heap.objs.size)) {s with heap:=e}):
  wpAny (model prog w) A (pyNext (.ref (n+5))) Q E s:=by
 have m:s.TypeIs (.ref (n+5)) "zip":=⟨_,l,rfl⟩;unfold pyNext
 exact wpAny_bind (wpAny_attempt (wpAny_callSpecial?_slot (name:=Str.ofString "__next__") m F.slot_zip_next
  (wpAny_call_entry F.slot_zip_next m F.entry_zip_next
   (xD p q r l f g t u z B C D G H I λe a1 a2 a3 a4 a5 a6 a7=>wpAny_pure (J e a1 a2 a3 a4 a5 a6 a7)) (F.args_zip_next_1 _))))
theorem nJ{n l1 l2 l3:Nat}{k:Nat}{j l m:Array Value}{a b c:Value}{Q:Option Value->Shared->Prop}(r:A.handled=none)(t:l1<n)(u:l2<n)(v:l3<n)
  (p:IsZip s.heap (n+5) (n+3) (n+4) .none) (g:dI s.heap (n+3) (.ref n) (.ref (n+1)) (.ref (n+2))) (h:dI s.heap (n+4) a b c)
  (x:s.heap.IsListIter n l1 k) (y:s.heap.IsListIter (n+1) l2 k) (z:s.heap.IsListIter (n+2) l3 k) (B:s.heap.IsList l1 j) (C:s.heap.IsList l2 l) (D:s.heap.IsList l3 m)
  (f:j[k]? =none\/l[k]? =none\/m[k]? =none)
  (G:∀i,(∀(d:Nat) o,d∉([n,n+1,n+2,n+4,n+5]:List Nat)->s.heap.get? d=some o->i.get? d=some o)->Q none {s with heap:=i}):wpAny (model prog w) A (pyNext (.ref (n+5))) Q E s:=by
 have q:s.TypeIs (.ref (n+5)) "zip":=⟨_,p,rfl⟩;unfold pyNext
 refine wpAny_bind (wpAny_attempt (wpAny_callSpecial?_slot (name:=Str.ofString "__next__") q F.slot_zip_next
  (wpAny_call_entry F.slot_zip_next q F.entry_zip_next (yF r t u v p g h x y z B C D f λi e H I=>?_) (F.args_zip_next_1 _))))
 refine qq λqz=>?_;obtain⟨o,J,K⟩:=I;apply qz;refine wpAny_bind (wpAny_isInstance (T:="StopIteration") (b:=true) ⟨o,J,K⟩ isSubtype_stop ?_);exact wpAny_pure (G _ H)
end
noncomputable abbrev Js(h:Heap)(l1:Addr):Heap:=h.push {cls:=.type "list_iterator",data:=.fields #[.ref l1,.int 0 0]}
noncomputable abbrev Jr(h:Heap)(l1 l2:Addr):Heap:=(Js h l1).push {cls:=.type "list_iterator",data:=.fields #[.ref l2,.int 0 0]}
noncomputable abbrev Nw(h:Heap)(l1 l2 l3:Addr):Heap:=(Jr h l1 l2).push {cls:=.type "list_iterator",data:=.fields #[.ref l3,.int 0 0]}
noncomputable abbrev Nv(h:Heap)(l1 l2 l3:Addr):Heap:=(Nw h l1 l2 l3).push {cls:=.type "tuple",data:=.seq #[.ref h.objs.size,.ref (Js h l1).objs.size,.ref (Jr h l1 l2).objs.size]}
noncomputable abbrev Nu(h:Heap)(l1 l2 l3:Addr):Heap:=(Nv h l1 l2 l3).push {cls:=.type "tuple",data:=.seq #[.none,.none,.none]}
noncomputable abbrev Ft(h:Heap)(l1 l2 l3:Addr):Heap:=(Nu h l1 l2 l3).push {cls:=.type "zip",data:=.fields #[.none,.bool false,.bool false,.ref (Nw h l1 l2 l3).objs.size,.ref (Nv h l1 l2 l3).objs.size]}
theorem uF(l1 l2 l3:Addr)(m n o:Array Value):
  Meets (Builtin.«zip.__new__» ⟨[.type "zip",.ref l1,.ref l2,.ref l3],[]⟩) (λ_ R s=>s.heap.IsList l1 m/\s.heap.IsList l2 n/\s.heap.IsList l3 o/\
   R (.ok (.ret (.ref (Nu s.heap l1 l2 l3).objs.size))) {s with heap:=Ft s.heap l1 l2 l3}):=
 .of_wp λprog w A R s h=>by
  refine qq λqz=>?_;obtain⟨a,g,d,b,c⟩:=s;obtain⟨e,f,i,h⟩:=h;apply qz;have p:=sub_zip;have j:Heap.IsList (Shared.heap ⟨a,g,d,b,c⟩) l1 m:=e;have k:Heap.IsList (Shared.heap ⟨Js a l1,g,d,b,c⟩) l2 n:=Heap.IsList.push f _;have l:Heap.IsList (Shared.heap ⟨Jr a l1 l2,g,d,b,c⟩) l3 o:=Heap.IsList.push (Heap.IsList.push i _) _
  wp_walk using wpAny_pyIter_list j,wpAny_pyIter_list k,wpAny_pyIter_list l
  exact⟨_,rfl,h⟩
section
variable{prog:Program}{w:World}{A:Around}{E:Value->Shared->Prop}{s:Shared}
theorem xZ{l1 l2 l3:Addr}{q r t:Array Value}{Q:Value->Shared->Prop}(d:s.heap.IsList l1 q)(f:s.heap.IsList l2 r)(g:s.heap.IsList l3 t)
  (h:∀(b:Heap)(n:Nat),n=s.heap.objs.size->IsZip b (n+5) (n+3) (n+4) .none->dI b (n+3) (.ref n) (.ref (n+1)) (.ref (n+2))->dI b (n+4) .none .none .none->b.IsListIter n l1 0->b.IsListIter (n+1) l2 0->b.IsListIter (n+2) l3 0 ->
   (∀c o,s.heap.get? c=some o->b.get? c=some o)->Q (.ref (n+5)) {s with heap:=b}):
  wpAny (model prog w) A (call (.type "zip") [.ref l1,.ref l2,.ref l3]) Q E s:=by
 refine callType_new F.called_zip (by decide) (nG _ _ _) (qQ _ _ _) (λi=>uQ i _ _ _) F.entry_zip_new (uF l1 l2 l3 q r t) ⟨d,f,g,?_⟩;have j:(Js s.heap l1).objs.size=s.heap.objs.size+1:=Heap.size_push ..;have k:(Jr s.heap l1 l2).objs.size=s.heap.objs.size+2:=by rw[Heap.size_push,j]
 have l:(Nw s.heap l1 l2 l3).objs.size=s.heap.objs.size+3:=by rw[Heap.size_push,k]
 have m:(Nv s.heap l1 l2 l3).objs.size=s.heap.objs.size+4:=by rw[Heap.size_push,l]
 have u:(Nu s.heap l1 l2 l3).objs.size=s.heap.objs.size+5:=by rw[Heap.size_push,m]
 have a:∀(h:Heap)(o:Obj){c:Addr}{x:Obj},h.get? c=some x->(h.push o).get? c=some x:=λh o c x e=>Heap.get?_push_of_some _ e;have p:(Ft s.heap l1 l2 l3).get? (Nu s.heap l1 l2 l3).objs.size=some _:=Heap.get?_push_size _ rfl;have v:(Ft s.heap l1 l2 l3).get? (Nv s.heap l1 l2 l3).objs.size=some _:=a _ _ (Heap.get?_push_size _ rfl);have y:(Ft s.heap l1 l2 l3).get? (Nw s.heap l1 l2 l3).objs.size=some _:=a _ _ (a _ _ (Heap.get?_push_size _ rfl));have z:(Ft s.heap l1 l2 l3).get? (Jr s.heap l1 l2).objs.size=some _:=a _ _ (a _ _ (a _ _ (Heap.get?_push_size _ rfl)));have B:(Ft s.heap l1 l2 l3).get? (Js s.heap l1).objs.size=some _:=a _ _ (a _ _ (a _ _ (a _ _ (Heap.get?_push_size _ rfl))));have C:(Ft s.heap l1 l2 l3).get? s.heap.objs.size=some _:=a _ _ (a _ _ (a _ _ (a _ _ (a _ _ (Heap.get?_push_size _ rfl)))));show _/\_;rw[u,l,m]at p;rw[l,j,k]at y;rw[m]at v;rw[k]at z;rw[j]at B;rw[u];exact⟨⟨_,p,rfl⟩,h _ _ rfl p y v ⟨_,C,rfl,rfl⟩ ⟨_,B,rfl,rfl⟩ ⟨_,z,rfl,rfl⟩ λc o x=>a _ _ (a _ _ (a _ _ (a _ _ (a _ _ (a _ _ x)))))⟩
end
noncomputable def Bf(K:PySem.W.Frag)(a b c:Addr):It:=
 ⟨λi H=>∃d e f,SqL K H a d/\SqL K H b e/\SqL K H c f/\i<d.length/\i<e.length/\i<f.length,
  λi H x g=>∃T u v t,x= .ref T/\H T=none/\g=eO H T (.tup [u,v,t])/\(∀d,SqL K H a d->d[i]? =some u)/\(∀e,SqL K H b e->e[i]? =some v)/\∀f,SqL K H c f->f[i]? =some t,
  λi H=>∃d e f,SqL K H a d/\SqL K H b e/\SqL K H c f/\(d.length<=i\/e.length<=i\/f.length<=i)⟩
theorem oZ{a:List V}{b:List Value}(d:Vals a b){i:Nat}(h:i<a.length):∃u x,a[i]? =some u/\b.toArray[i]? =some x/\RelV u x:=by
 have c:a[i]? =some a[i]:=List.getElem?_eq_getElem h;refine qq λqz=>?_;obtain⟨x,e,f⟩:=d.get c;apply qz;exact⟨_,x,c,by simpa using e,f⟩
theorem xG{P:Program}{w:World}{K:PySem.W.Frag}{elts:List Expr}{k:Nat}{U:Pos}{n l1 l2 l3:Nat}(L1:l1<n)(L2:l2<n)(L3:l3<n):
  Turn P w K (.Tuple elts k U) (Bf K l1 l2 l3) [n+5,n+3,n+4,n,n+1,n+2] (n+5) (λi h=>IsZip h (n+5) (n+3) (n+4) .none/\dI h (n+3) (.ref n) (.ref (n+1)) (.ref (n+2))/\(∃a b c,dI h (n+4) a b c)/\h.IsListIter n l1 i/\h.IsListIter (n+1) l2 i/\h.IsListIter (n+2) l3 i) where
 mem:=by simp
 obj:=λi h m b f=>by
  refine qq λqz=>?_;obtain⟨p,d,⟨x,y,t,j⟩,⟨o1,W,_,d1⟩,⟨o2,Y,_,d2⟩,⟨o3,Z,_,d3⟩⟩:=m;apply qz;simp only[List.mem_cons,List.not_mem_nil,or_false]at f;rcases f with rfl|rfl|rfl|rfl|rfl|rfl
  ·exact⟨_,p,λv q=>by cases q⟩
  ·exact⟨_,d,λv q=>by cases q⟩
  ·exact⟨_,j,λv q=>by cases q⟩
  ·exact⟨o1,W,λv q=>by rw[d1]at q;cases q⟩
  ·exact⟨o2,Y,λv q=>by rw[d2]at q;cases q⟩
  ·exact⟨o3,Z,λv q=>by rw[d3]at q;cases q⟩
 keep:=λi h Q m B=>by
  refine qq λqz=>?_;obtain⟨p,d,⟨x,y,t,j⟩,C,D,F⟩:=m;apply qz;exact⟨B _ (by simp) _ p,B _ (by simp) _ d,⟨x,y,t,B _ (by simp) _ j⟩,C.at λo e=>B _ (by simp) o e,D.at λo e=>B _ (by simp) o e,F.at λo e=>B _ (by simp) o e⟩
 item:=by
  intro X hP hw hK hc i pins s σ H E I G m hg;subst hP hw hK;refine qq λqz=>?_;obtain⟨xs,ys,zs,R,S,T,g1,g2,g3⟩:=hg;obtain⟨J,r,p1,z1⟩:=I.list R;obtain⟨L,z,p2,z2⟩:=I.list S;obtain⟨M,A,p3,z3⟩:=I.list T;obtain⟨p,d,⟨x0,y0,t0,j⟩,C,D,F⟩:=m;obtain⟨u,x,W,f1,r1⟩:=oZ r g1;obtain⟨v,y,Y,f2,r2⟩:=oZ z g2;obtain⟨t,c,Z,f3,r3⟩:=oZ A g3;apply qz;refine mH L1 L2 L3 p d j C D F p1.isList p2.isList p3.isList f1 f2 f3 λQ a0 N i1 i2 i3 hT kk=>?_;refine⟨_,rfl,wpAny_letOwnedTupleGo_zip a0 λO a1 l=>?_⟩
  have fw:∀b∈[n,n+1,n+2,n+4,n+5],gT X pins H b:=λb f=>G b (by
   simp only[List.mem_cons,List.not_mem_nil,or_false]at f⊢
   rcases f with rfl|rfl|rfl|rfl|rfl <;>simp)
  have I1:Inv X pins σ H {s with heap:=Q}:=dF (t':=s.toks) I kk fw
  have I2:Inv X pins σ H {s with heap:=O}:=dF (s:={s with heap:=Q}) (t':=s.toks) (ws:=[n+5]) I1 (λb o f e=>l.extBut b o (by simpa using f) e) λb f=>G b (by
   have:b=n+5:=by simpa using f
   simp[this])
  have a3:n+5<s.heap.objs.size:=Heap.lt_size p;have a2:O.IsTuple s.heap.objs.size #[x,y,c]:=⟨_,l.extBut _ _ (by walk_at"o") hT,rfl,_,rfl⟩;have fT:gT X pins H s.heap.objs.size:=I.fpOk (Nat.le_refl _) (I.hok.fresh (Nat.le_refl _));have I3:=wB (xs:=[u,v,t]) (its:=[x,y,c]) I2 fT I.sz a2 (.cons r1 (.cons r2 (.cons r3 .nil))) (Nat.le_of_lt (cV (by show 3<=1000;decide)));refine⟨.ref s.heap.objs.size,eO H s.heap.objs.size (.tup [u,v,t]),I3,rfl,⟨_,u,v,t,rfl,fT.1,rfl,λa4 h=>by rw[I.list_inj h R];exact W,λa5 h=>by rw[I.list_inj h S];exact Y,λa6 h=>by rw[I.list_inj h T];exact Z⟩,⟨a1,?_,⟨x,y,c,l.extBut _ _ (by walk_at"o") N⟩,i1.at λo e=>l.extBut _ o (by walk_at"o") e,i2.at λo e=>l.extBut _ o (by walk_at"o") e,i3.at λo e=>l.extBut _ o (by walk_at"o") e⟩,λb f=>?_⟩
  ·refine l.extBut _ _ (by walk_at"o") (kk _ _ ?_ d);simp only[List.mem_cons,List.not_mem_nil,or_false]
   lia
  ·rw[bE]
   ·exact(G b f).1
   ·simp only[List.mem_cons,List.not_mem_nil,or_false]at f;rcases f with rfl|rfl|rfl|rfl|rfl|rfl <;>walk_at"o"
 done:=by
  intro X hP hw hK hc i pins s σ H E I G m hg;subst hP hw hK;refine qq λqz=>?_;obtain⟨xs,ys,zs,R,S,T,g⟩:=hg;obtain⟨J,r,p1,z1⟩:=I.list R;obtain⟨L,z,p2,z2⟩:=I.list S;obtain⟨M,A,p3,z3⟩:=I.list T;obtain⟨p,d,⟨x0,y0,t0,j⟩,C,D,F⟩:=m;apply qz;have M1:=r.length;have M2:=z.length;have M3:=A.length;refine nJ (I.ok.hd hc) L1 L2 L3 p d j C D F p1.isList p2.isList p3.isList ?_ λQ hk=>⟨rfl,?_⟩
  ·rcases g with g|g|g
   ·exact .inl (by simp;lia)
   ·exact .inr (.inl (by simp;lia))
   ·exact .inr (.inr (by simp;lia))
  ·exact dF (t':=s.toks) I hk λb f=>G b (by
    simp only[List.mem_cons,List.not_mem_nil,or_false]at f⊢
    rcases f with rfl|rfl|rfl|rfl|rfl <;>simp)
 self:=λ_ _ _ _ _ m h=>wpAny_pyIter_zip m.1 h
section
variable{X:Cx}{K:PySem.W.Frag}
noncomputable def Eu(K:PySem.W.Frag)(t:TA):TI:=λe H R=>t e H λf d=>∃a b c,f=[.ref a,.ref b,.ref c]/\(∃g,SqL K d a g)/\(∃h,SqL K d b h)/\(∃i,SqL K d c i)/\R (Bf K a b c) d
theorem Kd{x y z:V}{d:List Value}(h:Vals [x,y,z] d):∃a b c,d=[a,b,c]/\RelV x a/\RelV y b/\RelV z c:=by
 cases h with
 |cons r t=>
  refine qq λqz=>?_;obtain⟨b,c,rfl,e,f⟩:=rM t;apply qz;exact⟨_,b,c,rfl,r,e,f⟩
theorem Cb{elts:List Expr}{k:Nat}{f:Pos}{a b c:Expr}{y:TA}{p g:Pos}(L:X.K=K)(M:Gl X "zip")(N:X.mg "zip"=none)(O:PA X [a,b,c] y)(P:starEach [a,b,c] X.env=[(false,eval a X.env),(false,eval b X.env),(false,eval c X.env)]:=by rfl)(i:starEach [b,c] X.env=[(false,eval b X.env),(false,eval c X.env)]:=by rfl):
  PI X (.Tuple elts k f) (.Call (.Name "zip" p) [a,b,c] [] g) (Eu K y):=by
 subst L;intro pins s Q H R I h;refine Call_ (gN I M N tJ (PyProof.Rows.callWith_type1 (eP (O g pins s Q H _ I h) λus j yq=>?_) (by rw[P,i]) (by rw[i];rfl)));refine qq λW_=>?_;obtain⟨vs,S,d,T,U⟩:=yq;apply W_;refine qq λqz=>?_;obtain⟨W,Y,Z,e,⟨xs,g1⟩,⟨ys,g2⟩,⟨zs,g3⟩,q⟩:=U;apply qz;subst e;refine qq λqz=>?_;obtain⟨u,v,t,rfl,ru,rv,rt⟩:=Kd T;apply qz;cases ru;cases rv;cases rt;refine qq λqz=>?_;obtain⟨z,a0,A,z1⟩:=d.list g1;obtain⟨B,a4,C,z2⟩:=d.list g2;obtain⟨D,a5,E,z3⟩:=d.list g3;apply qz;have a1:W<j.heap.objs.size:=by obtain⟨_,e,_⟩:=A.isList;exact Heap.lt_size e
 have a2:Y<j.heap.objs.size:=by obtain⟨_,e,_⟩:=C.isList;exact Heap.lt_size e
 have a3:Z<j.heap.objs.size:=by obtain⟨_,e,_⟩:=E.isList;exact Heap.lt_size e
 refine xZ A.isList C.isList E.isList λh' n F G m o r w x hk=>wpAny_pyIter_zip G ?_;rw[<-F]at a1 a2 a3;refine⟨n+5,[n+5,n+3,n+4,n,n+1,n+2],_,_,S,rfl,d.kept (t':=j.toks) hk,xG a1 a2 a3,⟨G,m,⟨_,_,_,o⟩,r,w,x⟩,λb J=>?_,q⟩;have l:j.heap.objs.size<=b:=by
  rw[<-F];simp only[List.mem_cons,List.not_mem_nil,or_false]at J;rcases J with rfl|rfl|rfl|rfl|rfl|rfl <;>first|exact Nat.le_add_right _ _|exact Nat.le_refl _
 exact d.fpOk l (d.hok.fresh l)
end
section
variable{K:PySem.W.Frag}{H₀:Hp}{E:XK}{ta tb tc:TE}{da db dc:DE}{dl dk dm:DL}
noncomputable def triD:List PyData->List PyData->List PyData->List PyData
 |x::a,y::b,z::c=>.tuple [x,y,z]::triD a b c
 |_,_,_=>[]
theorem nS:∀(e f g:List PyData)(i:Nat),(∀d,(triD e f g)[i]? =some d->∃x y z,e[i]? =some x/\f[i]? =some y/\g[i]? =some z/\d= .tuple [x,y,z])/\((triD e f g).length<=i->e.length<=i\/f.length<=i\/g.length<=i)
 |[],f,g,i=>⟨λd h=>by simp[triD]at h,λ_=>.inl (Nat.zero_le _)⟩
 |x::e,[],g,i=>⟨λd h=>by simp[triD]at h,λ_=>.inr (.inl (Nat.zero_le _))⟩
 |x::e,y::f,[],i=>⟨λd h=>by simp[triD]at h,λ_=>.inr (.inr (Nat.zero_le _))⟩
 |x::e,y::f,z::g,0=>⟨λd h=>⟨x,y,z,rfl,rfl,rfl,by simpa[triD]using h.symm⟩,λh=>by simp[triD]at h⟩
 |x::e,y::f,z::g,i+1=>by
  obtain⟨j,k⟩:=nS e f g i;refine⟨λd h=>?_,λh=>?_⟩
  ·refine qq λqz=>?_;obtain⟨a,b,c,l,m,n,o⟩:=j d (by simpa[triD]using h);apply qz;exact⟨a,b,c,by simpa using l,by simpa using m,by simpa using n,o⟩
  ·have:=k (by simpa[triD]using h);simp only[List.length_cons]
   lia
noncomputable def Fc(dl dk dm:DL)(a:DX)(b:cI)(Q:List PyData->Prop):Prop:=dl a b λc=>dk a b λd=>dm a b λe=>Q (triD c d e)
theorem Ct{a b c:Addr}{f g h:List V}{xs j k:List PyData}{G H:Hp}(s:Sub G H)(l:SqL K H a f)(m:SqL K H b g)(n:SqL K H c h)(q:DVs K G f xs)(d2:DVs K G g j)(r:DVs K G h k)(i:Nat):
  (∀d,(triD xs j k)[i]? =some d->(Bf K a b c).go i H/\∀x o,(Bf K a b c).yld i H x o->∃w,Ext G H w o/\DV K w x d)/\((triD xs j k).length<=i->(Bf K a b c).stop i H):=by
 obtain⟨I,J⟩:=nS xs j k i;refine⟨λd p=>?_,λp=>⟨f,g,h,l,m,n,?_⟩⟩
 ·refine qq λqz=>?_;obtain⟨x,y,z,L,M,N,rfl⟩:=I d p;obtain⟨u,A,O⟩:=q.at L;obtain⟨v,B,P⟩:=d2.at M;obtain⟨t,k1,k2⟩:=r.at N;apply qz;refine⟨⟨f,g,h,l,m,n,(List.getElem?_eq_some_iff.mp A).1,(List.getElem?_eq_some_iff.mp B).1,(List.getElem?_eq_some_iff.mp k1).1⟩,λY o ⟨T,Z,v',t',Q,R,S,U,W,X⟩=>?_⟩;subst Q S;have C:=U f l;have D:=W g m;have F:=X h n;rw[A]at C;rw[B]at D;rw[k1]at F;cases C;cases D;cases F;have e:=qX (xs:=[u,v,t]) s R;exact⟨_,e,.tup (SqT.of bN) (.cons (cX e.g O) (.cons (cX e.g P) (.cons (cX e.g k2) .nil)))⟩
 ·have:=J p;have:=q.len;have:=d2.len;have:=r.len
  lia
theorem Cu(x:gI K H₀ E ta da)(y:gI K H₀ E tb db)(z:gI K H₀ E tc dc):IvS K H₀ E (Eu K (eG ta (eG tb (eG tc kR)))) (Fc (tE da) (tE db) (tE dc)):=λl m n G H Q R o S q k=>
 x l m n G H _ _ o S q λv d A B h C s=>by
  cases d with
  |list T=>
   refine y l m n A B _ _ o (S.ext h) s λU d2 D F f p t=>?_;cases d2 with
   |list W=>
    refine z l m n D F _ _ o ((S.ext h).ext f) t λX I J L e r u=>?_;cases I with
    |list Y=>
     refine qq λqz=>?_;obtain⟨a,M,rfl,a1,a2⟩:=dY C;obtain⟨b,N,rfl,w,O⟩:=dY p;obtain⟨c,P,rfl,c1,c2⟩:=dY r;apply qz;refine⟨a,b,c,rfl,⟨M,e.h.seq (f.h.seq (h.s.same.seq a1))⟩,⟨N,e.h.seq (f.s.same.seq w)⟩,⟨P,e.s.same.seq c1⟩,k _ _ J L ((h.trans f).trans e) (λZ H' g j i=>?_) u⟩;exact Ct j (j.same.seq (g.seq (e.g.seq (f.g.seq a1)))) (j.same.seq (g.seq (e.g.seq w))) (j.same.seq (g.seq c1)) (bA g (bA e.g (bA f.g a2))) (bA g (bA e.g O)) (bA g c2) i
    |_=>exact u.elim
   |_=>exact t.elim
  |_=>exact s.elim
end
section
variable{K:PySem.W.Frag}{H₀:Hp}{E:XK}{te ta tb:TE}{da db de:DE}{ts:TS}{ds:DS}
end
section
variable{K:PySem.W.Frag}{H₀:Hp}{E:XK}{dl:DL}{tt:TT}{dt:DT}{ts:TS}{ds:DS}{g:TG}{dg:DG}{ns:List Nat}
end
noncomputable abbrev D2:=DX->cI->(List PyData->List PyData->Prop)->Prop
noncomputable def Qc(K:PySem.W.Frag)(c:Hp)(E:XK)(t:TA)(d:D2):Prop:=∀g h i G H j Q,iI c E g->Sees K c G h i H->d g h j ->
 (∀a b k l m n e f,Ext G H e f->a≠b->c a=none->c b=none->e a=none->e b=none->f a=some (.lst k)->f b=some (.lst l)->DVs K e k m->DVs K e l n->j m n->Q [.ref a,.ref b] f)->t i H Q
noncomputable def Oa(i:Nat)(a:DX)(b:cI)(Q:List PyData->Prop):Prop:=match slot b i with
 |some (.own c)=>Q c
 |_=>False
noncomputable def d2(c d:DL)(a:DX)(b:cI)(Q:List PyData->List PyData->Prop):Prop:=c a b λe=>d a b λf=>Q e f
section
variable{K:PySem.W.Frag}{H₀:Hp}{E:XK}{ta tb:TE}{dl dk:DL}{t:TA}
theorem Lf{b:cI}{i:Nat}{c:DX}{Q:List PyData->Prop}(q:Oa i c b Q):∃a,slot b i=some (.own a)/\Q a:=by
 unfold Oa at q;split at q
 ·rename_i a d
  exact⟨a,d,q⟩
 ·exact q.elim
theorem Ep(i:Nat)(g:uR K H₀ E tb dk):Qc K H₀ E (eG (nH i) (eG tb kR)) (d2 (Oa i) dk):=λh j l G H D Q m S q k=>by
 refine qq λqz=>?_;obtain⟨n,o,q⟩:=Lf q;obtain⟨a,p,r,f,d,s⟩:=S.ownAt o;apply qz;refine⟨_,r,g h j l G H _ _ m S q λb u v w x c e y A B C=>?_⟩;exact k a b p u n v w x c (λz=>by subst z;rw[d]at e;cases e) (S.old.free f) (S.oldH.free e) (c.keep f d) y (c.h _ _ d) A (bA c.g s) B C
noncomputable def Fg(d:D2)(e:DEnds)(a:cI):Prop:=d e.ex a λb c=>e.rt (.two b c)
theorem vE{d:D2}(h:Qc K H₀ E t d):iX K H₀ E (yP (Gb t)) (Fg d):=λn r G H e D s S q L=>
 h e.ex n r G H _ _ s S q λa b u v w x y A i g a0 B C F j k I J M=>by
  refine⟨Nat.le_of_lt (cV (by simp)),λp f=>?_⟩;have N:a≠p:=bT j f;have O:b≠p:=bT k f;have l:Same y (rm (rm (eO A p (.tup [.ref a,.ref b])) a) b):=λc o z=>by
   have m:=i.s.same c o z;unfold rm;rw[if_neg (bT z F),if_neg (bT z C),bE (bT m f)];exact m
  refine L.rt (.ref p) (.two w x) _ (((S.ext i).oldH).trans λc o z=>by rw[bE (bT z f)];exact z) ⟨p,a,b,u,v,rfl,SqT.of bN,g,a0,B,?_,?_,bA l I,bA l J⟩ M
  ·rw[bE N];exact j
  ·rw[bE O];exact k
end
section
variable{K:PySem.W.Frag}{H₀:Hp}{E:XK}
end
section
variable{K:PySem.W.Frag}{H₀:Hp}{E:XK}{tb:TE}{db:DE}{dl:DL}{t:TA}{g:TG}{dg:DG}{ns:List Nat}
end
end Dl
namespace Lx
open PySem PySem.Spec PyProof.Rows L2
structure LcOk1(X:Cx)(scope:Scope)(x:Str)(cl:List (Str×Addr))(cap:List (Option Nat))(NC:List Str):Prop where
 clos:closureFor scope X.env=pure cl
 kind:scope.kind= .function
 one:∀n,cellsFrom n scope.names cl=(x,n)::cl
 push:∀h,pushCells h scope.names=h.push {cls:=.type "cell",data:=.cell none}
 fresh:cl.lookup x=none
 names:∀x∈scope.names,x.2= .local->scope.names.lookup x.1=some .local
 caps:CapsOk X scope cl cap NC
 cells:∀p∈cl,X.env.cells.lookup p.1=some p.2
 has:∀c:Addr,((relabel scope X.env).names.all λp=>(p.2 != .cell && p.2 != .free)||(((x,c)::cl).lookup p.1).isSome)=true
section
variable{X:Cx}{elt target iter:Expr}{ifs:List Expr}{scope:Scope}{pos:Pos}{wi:TI}{cap:List (Option Nat)}{NC:List Str}{cl:List (Str×Addr)}{g:TG}{tt:TT}{te:TE}{x0:Str}
end
end Lx
namespace Dl
open PySem PySem.Spec PyProof.Rows L2 Lx
section
variable{K:PySem.W.Frag}{H₀:Hp}{E:XK}{te:TE}{de:DE}{dl:DL}{ta:TA}
end
section
variable{X:Cx}
end
section
variable{K:PySem.W.Frag}{H₀:Hp}{E:XK}{te:TE}{de:DE}{dl:DL}{t:TA}{tt:TT}{dt:DT}{ts tz:TS}{ds dz:DS}
end
noncomputable abbrev Qi(h:Heap)(z TI TO:Addr)(a b:Value):Prop:=h.get? z=some {cls:=.type "zip",dict:=none,data:=.fields #[a,b,.bool false,.ref TI,.ref TO],slots:=#[]}
section
variable{prog:Program}{w:World}{A:Around}{E:Value->Shared->Prop}{s:Shared}
structure ZSt(h:Heap)(z TI TO i1 i2 l1 l2 base:Addr)(i:Nat)(xs ys:Array Value):Prop where
 z:Qi h z TI TO .none (.bool false)\/∃(T:Addr)(b:Bool)(o:Obj),Qi h z TI TO (rawInt (T:Int)) (.bool b)/\base<=T/\h.get? T=some o
 ti:IsPair h TI (.ref i1) (.ref i2)
 to:∃a b,IsPair h TO a b
 i1:h.IsListIter i1 l1 i
 i2:h.IsListIter i2 l2 i
 l1:h.IsList l1 xs
 l2:h.IsList l2 ys
end
section
variable{prog:Program}{w:World}{A:Around}{R:Result->Shared->Prop}
end
section
variable{prog:Program}{w:World}{A:Around}{s:Shared}{R:Result->Shared->Prop}
variable{z TI TO i1 i2 l1 l2 S base n:Nat}{xs ys:Array Value}
end
section
variable{prog:Program}{w:World}{A:Around}{E:Value->Shared->Prop}{s:Shared}
end
section
variable{X:Cx}{K:PySem.W.Frag}
end
section
variable{K:PySem.W.Frag}{H₀:Hp}{E:XK}{ta tb:TE}{dl dk:DL}
end
section
variable{X:Cx}{K:PySem.W.Frag}
end
section
variable{X:Cx}{K:PySem.W.Frag}
noncomputable def yX(K:PySem.W.Frag):R2:=λx y H Q=>∃l b a c,x= .ref l/\y= .ref b/\SqL K H l a/\SqL K H b c/\a.length+c.length<=sizeLine/\∀p,H p=none->Q (.ref p) (eO H p (.lst (a++c)))
theorem Cf:OpR X (binaryOp .Add) (yX X.K):=by
 intro pins s F H x y v u Q I m o h;refine qq λqz=>?_;obtain⟨l,b,G,J,rfl,rfl,p,t,L,q⟩:=h;apply qz;cases m;cases o;refine qq λqz=>?_;obtain⟨c,r,⟨⟨w,M,data,A⟩,n,e,c1,c2,c3⟩,z⟩:=I.list p;obtain⟨a,f,⟨⟨g,B,data2,d⟩,C,i,j,d2,k⟩,N⟩:=I.list t;apply qz;simp only at c1 c2 c3 j d2 k;subst c1 c2 c3 j d2 k;have O:=r.length;have D:=f.length;refine concat_meets ⟨_,e,rfl⟩ ⟨_,i,rfl⟩ noFill_list_add seq_list_add PySem.F.slot_list_add PySem.F.entry_list_add (PySem.F.args_list_add_2 _ _) (list_addW l b c.toArray a.toArray n C none none A d (by simp;lia)) ⟨e,i,?_⟩;have E:c.toArray++a.toArray=(c++a).toArray:=by simp
 rw[E];exact⟨.ref _,_,I.lnew (t':=s.toks) (r.append f) (by rw[List.length_append];lia),rfl,q _ I.fresh⟩
theorem Fp(h:X.K=K):OpR X (binaryOp .Add) (yX K):=by subst h;exact Cf
end
section
variable{K:PySem.W.Frag}{H₀:Hp}{E:XK}{te ta tb:TE}{da de:DE}{dl dk:DL}
theorem Je(m:Nat)(c:oX K H₀ E ta da):oX K H₀ E (xI (yW K) ta (tC (.int (m:Int)))) (Aq m da):=λe f g G H w Q h S q k=>
 c e f g G H _ _ h S q λx i j l n o b=>by
  cases i with
  |tuple y=>
   dsimp only at b;split at b
   ·rename_i d z
    refine qq λqz=>?_;obtain⟨a,p,rfl,r,s⟩:=iF o;obtain⟨v,t,u⟩:=lQ s (fS (qP z));apply qz;exact⟨a,p,_,v,rfl,rfl,r,t,k v _ j l n u b⟩
   ·exact b.elim
  |_=>exact b.elim
end
noncomputable def Mo(w:DW):DW:=λa Q X=>w a (λs=>match s with
 | .two b c=>Q (.dat (.tuple [.list b,.list c]))
 |s=>Q s) X
theorem rm_same{H:Hp}{a:Addr}:Same (rm H a) H:=λb o z=>by
 unfold rm at z;split at z
 ·cases z
 ·exact z
theorem Mp{P:Program}{w:World}{K:PySem.W.Frag}{j:Str->Option Value}{base:Heap}{l:xB}{k:Nat}{f:Addr}{m:FuncData}{n:List Str}{W:DW}(F:FnOk P w K j base l k f m n (fD K W)):FnOk P w K j base l k f m n (fD K (Mo W)):=
 F.imp λL H Q E h=>by
  refine qq λqz=>?_;obtain⟨i,M,p,u,x,e,y⟩:=h;apply qz;refine⟨i,_,p,u,x,λv s c g r q=>?_,y⟩;cases s with
  |two z A=>
   obtain⟨t,a,b,N,O,rfl,B,D,R,S,G,I,J,d2⟩:=r;have o:Same (rm (rm c a) b) c:=rm_same.trans rm_same;exact e _ (.dat (.tuple [.list z,.list A])) c g (.tup B (.cons (.lst (SqL.of G) (bA o J)) (.cons (.lst (SqL.of I) (bA o d2)) .nil))) q
  |dat d=>exact e v (.dat d) c g r q
  |own i=>exact e v (.own i) c g r q
  |exc C=>exact e v (.exc C) c g r q
  |fz T d=>exact r.elim
section
variable{K:PySem.W.Frag}{H₀:Hp}{E:XK}{dl:DL}{t:TA}{g:TG}{dg:DG}{ns:List Nat}
noncomputable def wU(w:DW)(dl:DL)(m:Nat)(dg:DG)(e:DEnds)(a:cI):Prop:=dl e.ex a λb=>oF a=true/\w b (Bd λd=>match d with
 | .tuple c=>(match Er c m with
  |some d=>dg d a e.nx
  |none=>False)
 |_=>False) λ_=>False
theorem xJ{w:DW}(m:Nat)(n:yE K H₀ E t dl)(o:Du K H₀ g ns dg):iX K H₀ E (rP (xI (yW K) (lD (fD K w) [] E0 t) (tC (.int (m:Int)))) g) (wU w dl m dg):=λk l G H e D p S q L=>
 n e.ex k l G H _ _ p S q λX x Y Z f y ⟨A,B⟩=>by
  refine⟨x,_,λ_=>False,by rw[List.append_nil];exact y,B,λv s b h r F=>?_,λC b h I=>I.elim⟩;obtain⟨d,J,c⟩:=qI r F;have M:=(S.ext f).all2 A h;cases d with
  |tuple xs=>
   dsimp only at c;split at c
   ·rename_i N z
    refine qq λqz=>?_;obtain⟨a,O,rfl,P,Q⟩:=iF J;obtain⟨u,R,T⟩:=lQ Q (fS (qP z));apply qz;refine⟨a,O,_,u,rfl,rfl,P,R,?_⟩;exact o u N k l b b _ _ M T c λi j U _ W=>L.nx i j b b (f.g.trans ((S.ext f).sub.same.trans h)) U W
   ·exact c.elim
  |_=>exact c.elim
end
section
variable{X:Cx}{K:PySem.W.Frag}
end
section
variable{K:PySem.W.Frag}{H₀:Hp}{E:XK}{te ta tb:TE}{da db:DE}{dl:DL}
end
section
variable{prog:Program}{w:World}{A:Around}{E:Value->Shared->Prop}{s:Shared}
end
section
variable{prog:Program}{w:World}{A:Around}{E:Value->Shared->Prop}{s:Shared}
end
section
variable{X:Cx}{K:PySem.W.Frag}
end
section
variable{K:PySem.W.Frag}{H₀:Hp}{E:XK}{ta tb:TE}{da db:DE}
end
section
variable{K:PySem.W.Frag}{H₀:Hp}{E:XK}{te:TE}{de:DE}{dl:DL}{t:TA}{ts tz:TS}{ds:DS}{w:DW}
end
section
variable{K:PySem.W.Frag}{H₀:Hp}{E:XK}{ta tb:TE}{da db:DE}
noncomputable def Fk(da db:DE)(c:DX)(d:cI)(Q:List PyData->Prop):Prop:=da c d λx=>db c d λy=>∃a b,x= .list a/\y= .list b/\a.length+b.length<=1000/\Q (a++b)
theorem vN(s:gI K H₀ E ta da)(t:gI K H₀ E tb db):uR K H₀ E (xI (yX K) ta tb) (Fk da db):=λe f g G H L Q h S q k=>
 s e f g G H _ _ h S q λx M u v d w z=>t e f g u v _ _ h (S.ext d) z λy d2 N O c A B=>by
  refine qq λqz=>?_;obtain⟨xs,P,rfl,rfl,l,C⟩:=B;obtain⟨a,i,rfl,D,j⟩:=dY w;obtain⟨b,m,rfl,F,n⟩:=dY A;apply qz;refine⟨a,b,i,m,rfl,rfl,c.h.seq (d.s.same.seq D),c.s.same.seq F,Nat.le_of_lt (cV (by rw[j.len,n.len];exact l)),λp o=>?_⟩;obtain⟨I,J⟩:=eX (xs:=i++m) c.s o;have r:=d.trans c;exact k p _ _ _ _ (r.trans I) (r.h.free o) J bN (DVs.append (bA c.g j) n) C
end
section
variable{K:PySem.W.Frag}{H₀:Hp}{E:XK}{ta tb tc:TE}{da db dc:DE}{f g:Int->Int->Bool}
end
theorem uO(n:Nat):sliceRange ((n:Int)-1) (-1) (-1)=(List.range n).map λk=>n-1-k:=by
 unfold sliceRange;rw[if_neg (by decide)];by_cases h:n=0
 ·subst h;rfl
 ·have e:(((n:Int)-1- -1- -1-1)/(- -1))=(n:Int):=by
   rw[show(- -1:Int)=1 by decide,Int.ediv_one];lia
  simp only[show(n:Int)-1>-1 by lia,if_true,e,Int.toNat_natCast];refine List.map_congr_left λk a=>?_;have:=List.mem_range.mp a
  lia
theorem yB(a:List Value):slicePick a.toArray none none (some (-1))=a.reverse.toArray:=by
 have e:sliceBounds none none (some (-1)) a.toArray.size=((a.length:Int)-1,-1,-1):=by simp[sliceBounds]
 unfold slicePick;rw[e];dsimp only;rw[uO]
 congr 1
 have h:∀k,k∈List.range a.length->a.toArray[a.length-1-k]? =a.reverse[k]?:=λk d=>by
  have:=List.mem_range.mp d;rw[List.getElem?_toArray,List.getElem?_reverse (by lia)]
 rw[List.filterMap_map];have f:((List.range a.length).filterMap λk=>a.reverse[k]?)=a.reverse:=by
  have g:∀(b:List Value),(List.range b.length).filterMap (λk=>b[k]?)=b:=λb=>by
   induction b with
   |nil=>rfl
   |cons x b i=>
    rw[List.length_cons,List.range_succ_eq_map,List.filterMap_cons];simp only[List.getElem?_cons_zero,List.filterMap_map]
    congr 1
  have:=g a.reverse
  rwa [List.length_reverse]at this
 rw[<-f];have g:∀c:List Nat,(∀k∈c,a.toArray[a.length-1-k]? =a.reverse[k]?)->c.filterMap ((λx=>a.toArray[x]?)∘λk=>a.length-1-k)=c.filterMap λk=>a.reverse[k]?:=λc=>by
  induction c with
  |nil=>intro _;rfl
  |cons k c i=>
   intro d;rw[List.filterMap_cons,List.filterMap_cons,i λk h=>d k (List.mem_cons_of_mem _ h)];have:=d k List.mem_cons_self;dsimp only[Function.comp];rw[this]
 rw[f];exact(g _ h).trans f
section
variable{X:Cx}{e es:Expr}{te:TE}{ts:TO}{pos p2:Pos}
noncomputable def Lc(K:PySem.W.Frag):V->Hp->VK->Prop:=λx H Q=>∃a b,x= .ref a/\SqL K H a b/\∀p,H p=none->Q (.ref p) (eO H p (.lst b.reverse))
noncomputable def Ec(K:PySem.W.Frag)(te:TE)(ts:TO):TE:=λa H Q=>te a H λx b=>ts a b λi c=>i=some (-1)/\Lc K x c Q
theorem qL{K:PySem.W.Frag}(j:X.K=K)(k:PE X e te)(l:PO X (some es) ts):PE X (.Subscript e (.Slice none none (some es) p2) pos) (Ec K te ts):=by
 subst j;intro pins s d H Q I h;refine Subscript_ (eP (k pins s d H _ I h) λv m yq=>?_);refine qq λW_=>?_;obtain⟨x,n,p,t,u⟩:=yq;apply W_;refine wpAny_Slice ?_;rw[evalPart_none];refine wpAny_pure (wpAny_pure (eP (l pins m d n _ p u) λw c yq=>?_));refine qq λW_=>?_;obtain⟨i,y,z,A,B⟩:=yq;apply W_;refine qq λqz=>?_;obtain⟨rfl,a,C,rfl,D,q⟩:=B;apply qz;cases t;have f:Inv X pins d y {c with heap:=c.heap.push {cls:=.type "slice",data:=.fields #[.none,.none,w]}}:=z.kept (t':=c.toks) λb E q=>Heap.get?_push_of_some _ q;refine qq λqz=>?_;obtain⟨F,r,g,G⟩:=f.list D;apply qz;have hlen:=r.length;refine tail_any (ops:=[.ref a,.ref c.heap.objs.size]) g.isList.typeIs slot_list_getitem.lookup ?_ (by with_unfolding_all rfl);refine wpAny_getItem_list_slice g.isList (Heap.IsSliceOf.new ..) .none .none A (by simp) ?_ (by rw[List.size_toArray] <;>lia);rw[yB];refine⟨.ref _,_,f.laid (t':=c.toks) (o:=.lst C.reverse) (λb E q=>Heap.get?_push_of_some _ q) (Nat.le_refl _) ?_,rfl,q _ (f.hok.fresh (Nat.le_refl _))⟩;exact⟨by rw[List.length_reverse];exact G,_,0,r.reverse,Heap.get?_push_size _ rfl⟩
end
section
variable{K:PySem.W.Frag}{H₀:Hp}{E:XK}{te:TE}{dl:DL}{t1:TO}{d1:DO}
noncomputable def Fo(dl:DL)(d1:DO)(a:DX)(b:cI)(Q:List PyData->Prop):Prop:=dl a b λc=>d1 a b λi=>i=some (-1)/\Q c.reverse
theorem qM(n:Bl K H₀ E te dl)(o:Nl K H₀ E t1 d1):uR K H₀ E (Ec K te t1) (Fo dl d1):=λc d e G H y Q f S q k=>
 n c d e G H _ _ f S q λa g z r s h t u v=>o c d e r s _ _ f (S.ext h) v λi A B b j=>
  ⟨j.1,a,g,rfl,b.h.seq t,λp l=>by
   obtain⟨w,x⟩:=eX (xs:=g.reverse) b.s l
   have m:=h.trans b
   exact k p _ _ _ _ (m.trans w) (m.h.free l) x bN (bA b.g u).rev j.2⟩
end
section
variable{K:PySem.W.Frag}{H₀:Hp}{E:XK}
noncomputable def Pf(i j:Nat)(e:DEnds)(a:cI):Prop:=match slot a j with
 |some (.own b)=>e.nx (iU (some (.own b)) i (iU none j a))
 |_=>False
theorem Km(i j:Nat)(J:i≠j):iX K H₀ E (rP (nH j) (oK i)) (Pf i j):=λl T G H e D U S q L=>by
 unfold Pf at q;split at q
 ·rename_i m o
  obtain⟨v,p,M⟩:=S.has j _ o;refine⟨v,p,L.nx _ _ G H (Same.refl _) ?_ q⟩;have r:∀k s,slot (iU (some (.own m)) i (iU none j l)) k=some s->(k=i/\s= .own m/\i<l.length)\/(k≠i/\k≠j/\slot l k=some s):=λk s h=>by
   rw[fM,gK]at h;by_cases c:k=i/\i<l.length
   ·rw[if_pos c]at h;exact .inl ⟨c.1,(Option.some.inj h).symm,c.2⟩
   ·rw[if_neg c,fM]at h;by_cases d:k=j/\j<l.length
    ·rw[if_pos d]at h;cases h
    ·rw[if_neg d]at h;have b:=jN h;refine .inr ⟨λz=>c ⟨z,by rw[<-z];exact b⟩,λz=>d ⟨z,by rw[<-z];exact b⟩,h⟩
  refine⟨S.old,S.sub,by rw[gK,gK,List.length_set];exact S.len,λk s h=>?_,λk1 k2 w x a N O f g=>?_⟩
  ·rcases r k s h with⟨rfl,rfl,b⟩|⟨n,y,h⟩
   ·exact⟨v,by rw[List.getElem?_set_self (Nat.lt_of_lt_of_le b S.len)],M⟩
   ·obtain⟨u,P,Q⟩:=S.has k s h;exact⟨u,by rw[List.getElem?_set_ne (λz=>n z.symm)];exact P,Q⟩
  ·rcases r k1 _ N with⟨A,W,b⟩|⟨n,y,B⟩ <;>rcases r k2 _ O with⟨C,X,t⟩|⟨F,R,I⟩
   ·rw[A,C]
   ·rw[A,List.getElem?_set_self (Nat.lt_of_lt_of_le b S.len)]at f;rw[List.getElem?_set_ne (λz=>F z.symm)]at g;have e:v= .ref a:=Option.some.inj (Option.some.inj f);exact absurd (S.sep j k2 m x a o I (by rw[p,e]) g) (λz=>R z.symm)
   ·rw[C,List.getElem?_set_self (Nat.lt_of_lt_of_le t S.len)]at g;rw[List.getElem?_set_ne (λz=>n z.symm)]at f;have e:v= .ref a:=Option.some.inj (Option.some.inj g);exact absurd (S.sep j k1 m w a o B (by rw[p,e]) f) (λz=>y z.symm)
   ·rw[List.getElem?_set_ne (λz=>n z.symm)]at f;rw[List.getElem?_set_ne (λz=>F z.symm)]at g;exact S.sep k1 k2 w x a B I f g
 ·exact q.elim
end
section
variable{K:PySem.W.Frag}{H₀:Hp}{E:XK}{te:TE}{de:DE}{dl:DL}{t:TA}{ts tz:TS}{ds:DS}{w:DW}
end
section
variable{K:PySem.W.Frag}{H₀:Hp}{E:XK}{te ta tb:TE}{de da db:DE}{t1 t2:TO}{d1 d2:DO}
end
section
variable{K:PySem.W.Frag}{H₀:Hp}{E:XK}{tb:TE}{db:DE}{dl:DL}{t:TA}{g:TG}{dg:DG}{ns:List Nat}
end
theorem tZ{l c r b d a}:starEach (.BinOp l c r b::d) a=(false,eval (.BinOp l c r b) a)::starEach d a:=rfl
end Dl
namespace My
open PySem PySem.Spec PyProof.Rows L2 Lx Dl
noncomputable def top(i:Nat):Stmt:=PySem.Challenge.pw_leastmiss_k44_whole_changed_marks.main.body.getD i (.Pass ⟨0,0,0,0⟩)
noncomputable abbrev qF:Stmt:=top 6
theorem sc_qa:FnScope ["one","other","rest"] ["one","other"] (aG qF):=⟨rfl,rfl,rfl,by decide +kernel,rfl,by decide +kernel,by decide +kernel⟩
noncomputable abbrev qE:Stmt:=top 7
theorem sc_qb:FnScope ["top","bottom","divisor"] ["top","bottom"] (aG qE):=⟨rfl,rfl,rfl,by decide +kernel,rfl,by decide +kernel,by decide +kernel⟩
noncomputable abbrev qD:Stmt:=top 8
theorem sc_qc:FnScope ["one","other","shared","rest","top","divisor"] ["one","other"] (aG qD):=⟨rfl,rfl,rfl,by decide +kernel,rfl,by decide +kernel,by decide +kernel⟩
noncomputable abbrev qC:Stmt:=top 9
theorem Kx:FnScope ["one","other"] ["one","other"] (aG qC):=⟨rfl,rfl,rfl,by decide +kernel,rfl,by decide +kernel,by decide +kernel⟩
noncomputable abbrev qB:Stmt:=top 10
theorem sc_qe:FnScope ["one","other","left","right"] ["one","other"] (aG qB):=⟨rfl,rfl,rfl,by decide +kernel,rfl,by decide +kernel,by decide +kernel⟩
noncomputable abbrev qA:Stmt:=top 11
theorem Kw:FnScope ["one","other"] ["one","other"] (aG qA):=⟨rfl,rfl,rfl,by decide +kernel,rfl,by decide +kernel,by decide +kernel⟩
noncomputable abbrev pZ:Stmt:=top 12
theorem Kv:FnScope ["one","other"] ["one","other"] (aG pZ):=⟨rfl,rfl,rfl,by decide +kernel,rfl,by decide +kernel,by decide +kernel⟩
noncomputable abbrev pY:Stmt:=top 13
theorem Ku:FnScope ["one"] ["one"] (aG pY):=⟨rfl,rfl,rfl,by decide +kernel,rfl,by decide +kernel,by decide +kernel⟩
noncomputable abbrev pX:Stmt:=top 14
theorem sc_qi:FnScope ["some","total","one"] ["some"] (aG pX):=⟨rfl,rfl,rfl,by decide +kernel,rfl,by decide +kernel,by decide +kernel⟩
noncomputable abbrev pV:Stmt:=top 15
theorem sc_qj:FnScope ["some","greatest","one"] ["some"] (aG pV):=⟨rfl,rfl,rfl,by decide +kernel,rfl,by decide +kernel,by decide +kernel⟩
noncomputable abbrev pU:Stmt:=top 16
theorem sc_qk:FnScope ["some","least","one"] ["some"] (aG pU):=⟨rfl,rfl,rfl,by decide +kernel,rfl,by decide +kernel,by decide +kernel⟩
noncomputable abbrev pT:Stmt:=top 18
theorem sc_ql:FnScope ["numbers","x","height","number"] ["numbers","x"] (aG pT):=⟨rfl,rfl,rfl,by decide +kernel,rfl,by decide +kernel,by decide +kernel⟩
noncomputable abbrev pS:Stmt:=top 19
theorem Kt:FnScope ["numbers","marks"] ["numbers","marks"] (aG pS):=⟨rfl,rfl,rfl,by decide +kernel,rfl,by decide +kernel,by decide +kernel⟩
noncomputable abbrev pR:Stmt:=top 21
theorem Ks:FnScope ["marks","row"] ["marks","row"] (aG pR):=⟨rfl,rfl,rfl,by decide +kernel,rfl,by decide +kernel,by decide +kernel⟩
noncomputable abbrev pQ:Stmt:=top 24
theorem Kr:FnScope ["kind"] ["kind"] (aG pQ):=⟨rfl,rfl,rfl,by decide +kernel,rfl,by decide +kernel,by decide +kernel⟩
noncomputable abbrev pP:Stmt:=top 25
theorem Kq:FnScope ["marks","row"] ["marks","row"] (aG pP):=⟨rfl,rfl,rfl,by decide +kernel,rfl,by decide +kernel,by decide +kernel⟩
noncomputable abbrev pO:Stmt:=top 26
theorem sc_qq:FnScope ["kind","marks","row","misses","weighed"] ["kind","marks","row"] (aG pO):=⟨rfl,rfl,rfl,by decide +kernel,rfl,by decide +kernel,by decide +kernel⟩
noncomputable abbrev pN:Stmt:=top 28
theorem sc_qr:FnScope ["kind","marks","heights","weights","weighed"] ["kind","marks"] (aG pN):=⟨rfl,rfl,rfl,by decide +kernel,rfl,by decide +kernel,by decide +kernel⟩
noncomputable abbrev pM:Stmt:=top 29
theorem sc_qs:FnScope ["some","weights","pairs","whole","spot","reached"] ["some","weights"] (aG pM):=⟨rfl,rfl,rfl,by decide +kernel,rfl,by decide +kernel,by decide +kernel⟩
noncomputable abbrev pK:Stmt:=top 30
theorem sc_qt:FnScope ["some","weights","pairs","one","weight","spot"] ["some","weights"] (aG pK):=⟨rfl,rfl,rfl,by decide +kernel,rfl,by decide +kernel,by decide +kernel⟩
noncomputable abbrev pJ:Stmt:=top 31
theorem sc_qu:FnScope ["marks","numbers","misses"] ["marks"] (aG pJ):=⟨rfl,rfl,rfl,by decide +kernel,rfl,by decide +kernel,by decide +kernel⟩
noncomputable abbrev pI:Stmt:=top 32
theorem sc_qv:FnScope ["marks","best","least","mark","line","measure"] ["marks"] (aG pI):=⟨rfl,rfl,rfl,by decide +kernel,rfl,by decide +kernel,by decide +kernel⟩
noncomputable abbrev pH:Stmt:=top 33
theorem sc_qw:FnScope ["marks","mark","others","ways","slopes","weights","slope"] ["marks","mark"] (aG pH):=⟨rfl,rfl,rfl,by decide +kernel,rfl,by decide +kernel,by decide +kernel⟩
noncomputable abbrev pG:Stmt:=top 34
theorem sc_qx:FnScope ["marks","line","misses","early","late","least","greatest","part"] ["marks","line"] (aG pG):=⟨rfl,rfl,rfl,by decide +kernel,rfl,by decide +kernel,by decide +kernel⟩
noncomputable abbrev pF:Stmt:=top 35
theorem Ko:FnScope ["marks","pulls"] ["marks","pulls"] (aG pF):=⟨rfl,rfl,rfl,by decide +kernel,rfl,by decide +kernel,by decide +kernel⟩
noncomputable abbrev pE:Stmt:=top 36
theorem sc_qz:FnScope ["marks","misses","fixed","left","pulls","mark","miss","pull","raised"] ["marks","misses"] (aG pE):=⟨rfl,rfl,rfl,by decide +kernel,rfl,by decide +kernel,by decide +kernel⟩
noncomputable abbrev kA:Stmt:=top 38
theorem Gk:FnScope ["script","k"] ["script","k"] (aG kA):=⟨rfl,rfl,rfl,by decide +kernel,rfl,by decide +kernel,by decide +kernel⟩
noncomputable abbrev jZ:Stmt:=top 39
theorem sc_qb1:FnScope ["one","other"] ["one","other"] (aG jZ):=⟨rfl,rfl,rfl,by decide +kernel,rfl,by decide +kernel,by decide +kernel⟩
noncomputable abbrev jY:Stmt:=top 40
theorem sc_qc1:FnScope ["top","bottom","many"] ["top","bottom"] (aG jY):=⟨rfl,rfl,rfl,by decide +kernel,rfl,by decide +kernel,by decide +kernel⟩
noncomputable abbrev jX:Stmt:=top 41
theorem Gj:FnScope ["one","other"] ["one","other"] (aG jX):=⟨rfl,rfl,rfl,by decide +kernel,rfl,by decide +kernel,by decide +kernel⟩
noncomputable abbrev jW:Stmt:=top 42
theorem Gi:FnScope ["one","other"] ["one","other"] (aG jW):=⟨rfl,rfl,rfl,by decide +kernel,rfl,by decide +kernel,by decide +kernel⟩
noncomputable abbrev jV:Stmt:=top 43
theorem sc_qf1:FnScope ["cell","shape","place","lean","height"] ["cell","shape","place","lean"] (aG jV):=⟨rfl,rfl,rfl,by decide +kernel,rfl,by decide +kernel,by decide +kernel⟩
noncomputable abbrev jU:Stmt:=top 44
theorem sc_qg1:FnScope ["script","most","shape","lean","bottom","at","marks","k","place","weight"] ["script","most"] (aG jU):=⟨rfl,rfl,rfl,by decide +kernel,rfl,by decide +kernel,by decide +kernel⟩
noncomputable abbrev jT:Stmt:=top 45
theorem sc_qh1:FnScope ["marks","numbers","top","bottom","a","b","place","height","weight","low","laid","miss"] ["marks","numbers"] (aG jT):=⟨rfl,rfl,rfl,by decide +kernel,rfl,by decide +kernel,by decide +kernel⟩
noncomputable abbrev jS:Stmt:=top 46
theorem Gh:FnScope ["cell"] ["cell"] (aG jS):=⟨rfl,rfl,rfl,by decide +kernel,rfl,by decide +kernel,by decide +kernel⟩
noncomputable abbrev jR:Stmt:=top 47
theorem sc_qj1:FnScope ["marks","p","q","r","line","m","found","place","height","weight","high"] ["marks","p","q","r","line","m"] (aG jR):=⟨rfl,rfl,rfl,by decide +kernel,rfl,by decide +kernel,by decide +kernel⟩
noncomputable abbrev jQ:Stmt:=top 48
theorem sc_qk1:FnScope ["mark","numbers","pull","height","side"] ["mark","numbers","pull"] (aG jQ):=⟨rfl,rfl,rfl,by decide +kernel,rfl,by decide +kernel,by decide +kernel⟩
noncomputable abbrev jP:Stmt:=top 49
theorem sc_ql1:FnScope ["pulls","places","total","pull","place"] ["pulls","places"] (aG jP):=⟨rfl,rfl,rfl,by decide +kernel,rfl,by decide +kernel,by decide +kernel⟩
noncomputable abbrev jO:Stmt:=top 50
theorem Gg:FnScope ["first","then","factor"] ["first","then","factor"] (aG jO):=⟨rfl,rfl,rfl,by decide +kernel,rfl,by decide +kernel,by decide +kernel⟩
noncomputable abbrev gP:Stmt:=top 51
theorem sc_qn1:FnScope ["script","marks","p","q","r","s","t","m","factor","moved","numbers","pulls","places","first"] ["script"] (aG gP):=⟨rfl,rfl,rfl,by decide +kernel,rfl,by decide +kernel,by decide +kernel⟩
set_option genInjectivity false in
structure Adr where
 a_qa:Addr
 d_qa:FuncData
 a_qb:Addr
 d_qb:FuncData
 a_qc:Addr
 d_qc:FuncData
 a_qd:Addr
 d_qd:FuncData
 a_qe:Addr
 d_qe:FuncData
 a_qf:Addr
 d_qf:FuncData
 a_qg:Addr
 d_qg:FuncData
 a_qh:Addr
 d_qh:FuncData
 a_qi:Addr
 d_qi:FuncData
 a_qj:Addr
 d_qj:FuncData
 a_qk:Addr
 d_qk:FuncData
 a_ql:Addr
 d_ql:FuncData
 a_qm:Addr
 d_qm:FuncData
 a_qn:Addr
 d_qn:FuncData
 a_qo:Addr
 d_qo:FuncData
 a_qp:Addr
 d_qp:FuncData
 a_qq:Addr
 d_qq:FuncData
 a_qr:Addr
 d_qr:FuncData
 a_qs:Addr
 d_qs:FuncData
 a_qt:Addr
 d_qt:FuncData
 a_qu:Addr
 d_qu:FuncData
 a_qv:Addr
 d_qv:FuncData
 a_qw:Addr
 d_qw:FuncData
 a_qx:Addr
 d_qx:FuncData
 a_qy:Addr
 d_qy:FuncData
 a_qz:Addr
 d_qz:FuncData
 a_qa1:Addr
 d_qa1:FuncData
 a_qb1:Addr
 d_qb1:FuncData
 a_qc1:Addr
 d_qc1:FuncData
 a_qd1:Addr
 d_qd1:FuncData
 a_qe1:Addr
 d_qe1:FuncData
 a_qf1:Addr
 d_qf1:FuncData
 a_qg1:Addr
 d_qg1:FuncData
 a_qh1:Addr
 d_qh1:FuncData
 a_qi1:Addr
 d_qi1:FuncData
 a_qj1:Addr
 d_qj1:FuncData
 a_qk1:Addr
 d_qk1:FuncData
 a_ql1:Addr
 d_ql1:FuncData
 a_qm1:Addr
 d_qm1:FuncData
 a_qn1:Addr
 d_qn1:FuncData
 x_NoNumber:Addr
 x_NoKind:Addr
 g_KINDS:Addr
 g_NOUGHT:Addr
set_option genInjectivity false in
structure Txt(K:PySem.W.Frag)(mg:Str->Option Value)(A:Adr):Prop where
 F_qa:Fun K "common_divisor" "common_divisor" qF A.a_qa A.d_qa
 m_qa:mg "common_divisor"=some (.ref A.a_qa)
 b_qa:Binds K A.d_qa ["one","other"] []
 F_qb:Fun K "fraction" "fraction" qE A.a_qb A.d_qb
 m_qb:mg "fraction"=some (.ref A.a_qb)
 b_qb:Binds K A.d_qb ["top","bottom"] []
 F_qc:Fun K "plus" "plus" qD A.a_qc A.d_qc
 m_qc:mg "plus"=some (.ref A.a_qc)
 b_qc:Binds K A.d_qc ["one","other"] []
 F_qd:Fun K "minus" "minus" qC A.a_qd A.d_qd
 m_qd:mg "minus"=some (.ref A.a_qd)
 b_qd:Binds K A.d_qd ["one","other"] []
 F_qe:Fun K "product" "product" qB A.a_qe A.d_qe
 m_qe:mg "product"=some (.ref A.a_qe)
 b_qe:Binds K A.d_qe ["one","other"] []
 F_qf:Fun K "quotient" "quotient" qA A.a_qf A.d_qf
 m_qf:mg "quotient"=some (.ref A.a_qf)
 b_qf:Binds K A.d_qf ["one","other"] []
 F_qg:Fun K "is_less" "is_less" pZ A.a_qg A.d_qg
 m_qg:mg "is_less"=some (.ref A.a_qg)
 b_qg:Binds K A.d_qg ["one","other"] []
 F_qh:Fun K "size_of" "size_of" pY A.a_qh A.d_qh
 m_qh:mg "size_of"=some (.ref A.a_qh)
 b_qh:Binds K A.d_qh ["one"] []
 F_qi:Fun K "total_of" "total_of" pX A.a_qi A.d_qi
 m_qi:mg "total_of"=some (.ref A.a_qi)
 b_qi:Binds K A.d_qi ["some"] []
 F_qj:Fun K "greatest_of" "greatest_of" pV A.a_qj A.d_qj
 m_qj:mg "greatest_of"=some (.ref A.a_qj)
 b_qj:Binds K A.d_qj ["some"] []
 F_qk:Fun K "least_of" "least_of" pU A.a_qk A.d_qk
 m_qk:mg "least_of"=some (.ref A.a_qk)
 b_qk:Binds K A.d_qk ["some"] []
 F_ql:Fun K "height_at" "height_at" pT A.a_ql A.d_ql
 m_ql:mg "height_at"=some (.ref A.a_ql)
 b_ql:Binds K A.d_ql ["numbers","x"] []
 F_qm:Fun K "row_of" "row_of" pS A.a_qm A.d_qm
 m_qm:mg "row_of"=some (.ref A.a_qm)
 b_qm:Binds K A.d_qm ["numbers","marks"] []
 F_qn:Fun K "misses_of" "misses_of" pR A.a_qn A.d_qn
 m_qn:mg "misses_of"=some (.ref A.a_qn)
 b_qn:Binds K A.d_qn ["marks","row"] []
 F_qo:Fun K "check_kind" "check_kind" pQ A.a_qo A.d_qo
 m_qo:mg "check_kind"=some (.ref A.a_qo)
 b_qo:Binds K A.d_qo ["kind"] []
 F_qp:Fun K "weighed_misses" "weighed_misses" pP A.a_qp A.d_qp
 m_qp:mg "weighed_misses"=some (.ref A.a_qp)
 b_qp:Binds K A.d_qp ["marks","row"] []
 F_qq:Fun K "measured" "measured" pO A.a_qq A.d_qq
 m_qq:mg "measured"=some (.ref A.a_qq)
 b_qq:Binds K A.d_qq ["kind","marks","row"] []
 F_qr:Fun K "least_level" "least_level" pN A.a_qr A.d_qr
 m_qr:mg "least_level"=some (.ref A.a_qr)
 b_qr:Binds K A.d_qr ["kind","marks"] []
 F_qs:Fun K "middle_of" "middle_of" pM A.a_qs A.d_qs
 m_qs:mg "middle_of"=some (.ref A.a_qs)
 b_qs:Binds K A.d_qs ["some","weights"] []
 F_qt:Fun K "in_order" "in_order" pK A.a_qt A.d_qt
 m_qt:mg "in_order"=some (.ref A.a_qt)
 b_qt:Binds K A.d_qt ["some","weights"] []
 F_qu:Fun K "level_sum" "level_sum" pJ A.a_qu A.d_qu
 m_qu:mg "level_sum"=some (.ref A.a_qu)
 b_qu:Binds K A.d_qu ["marks"] []
 F_qv:Fun K "line_sum" "line_sum" pI A.a_qv A.d_qv
 m_qv:mg "line_sum"=some (.ref A.a_qv)
 b_qv:Binds K A.d_qv ["marks"] []
 F_qw:Fun K "line_at" "line_at" pH A.a_qw A.d_qw
 m_qw:mg "line_at"=some (.ref A.a_qw)
 b_qw:Binds K A.d_qw ["marks","mark"] []
 F_qx:Fun K "line_pulls" "line_pulls" pG A.a_qx A.d_qx
 m_qx:mg "line_pulls"=some (.ref A.a_qx)
 b_qx:Binds K A.d_qx ["marks","line"] []
 F_qy:Fun K "turn_of" "turn_of" pF A.a_qy A.d_qy
 m_qy:mg "turn_of"=some (.ref A.a_qy)
 b_qy:Binds K A.d_qy ["marks","pulls"] []
 F_qz:Fun K "early_pulls" "early_pulls" pE A.a_qz A.d_qz
 m_qz:mg "early_pulls"=some (.ref A.a_qz)
 b_qz:Binds K A.d_qz ["marks","misses"] []
 F_qa1:Fun K "_law_cell" "_law_cell" kA A.a_qa1 A.d_qa1
 m_qa1:mg "_law_cell"=some (.ref A.a_qa1)
 b_qa1:Binds K A.d_qa1 ["script","k"] []
 F_qb1:Fun K "_law_divisor" "_law_divisor" jZ A.a_qb1 A.d_qb1
 m_qb1:mg "_law_divisor"=some (.ref A.a_qb1)
 b_qb1:Binds K A.d_qb1 ["one","other"] []
 F_qc1:Fun K "_law_low" "_law_low" jY A.a_qc1 A.d_qc1
 m_qc1:mg "_law_low"=some (.ref A.a_qc1)
 b_qc1:Binds K A.d_qc1 ["top","bottom"] []
 F_qd1:Fun K "_law_plus" "_law_plus" jX A.a_qd1 A.d_qd1
 m_qd1:mg "_law_plus"=some (.ref A.a_qd1)
 b_qd1:Binds K A.d_qd1 ["one","other"] []
 F_qe1:Fun K "_law_times" "_law_times" jW A.a_qe1 A.d_qe1
 m_qe1:mg "_law_times"=some (.ref A.a_qe1)
 b_qe1:Binds K A.d_qe1 ["one","other"] []
 F_qf1:Fun K "_law_height" "_law_height" jV A.a_qf1 A.d_qf1
 m_qf1:mg "_law_height"=some (.ref A.a_qf1)
 b_qf1:Binds K A.d_qf1 ["cell","shape","place","lean"] []
 F_qg1:Fun K "_law_marks" "_law_marks" jU A.a_qg1 A.d_qg1
 m_qg1:mg "_law_marks"=some (.ref A.a_qg1)
 b_qg1:Binds K A.d_qg1 ["script","most"] []
 F_qh1:Fun K "_law_sum" "_law_sum" jT A.a_qh1 A.d_qh1
 m_qh1:mg "_law_sum"=some (.ref A.a_qh1)
 b_qh1:Binds K A.d_qh1 ["marks","numbers"] []
 F_qi1:Fun K "_law_number" "_law_number" jS A.a_qi1 A.d_qi1
 m_qi1:mg "_law_number"=some (.ref A.a_qi1)
 b_qi1:Binds K A.d_qi1 ["cell"] []
 F_qj1:Fun K "_law_changed" "_law_changed" jR A.a_qj1 A.d_qj1
 m_qj1:mg "_law_changed"=some (.ref A.a_qj1)
 b_qj1:Binds K A.d_qj1 ["marks","p","q","r","line","m"] []
 F_qk1:Fun K "_law_fair" "_law_fair" jQ A.a_qk1 A.d_qk1
 m_qk1:mg "_law_fair"=some (.ref A.a_qk1)
 b_qk1:Binds K A.d_qk1 ["mark","numbers","pull"] []
 F_ql1:Fun K "_law_total" "_law_total" jP A.a_ql1 A.d_ql1
 m_ql1:mg "_law_total"=some (.ref A.a_ql1)
 b_ql1:Binds K A.d_ql1 ["pulls","places"] []
 F_qm1:Fun K "_law_same" "_law_same" jO A.a_qm1 A.d_qm1
 m_qm1:mg "_law_same"=some (.ref A.a_qm1)
 b_qm1:Binds K A.d_qm1 ["first","then","factor"] []
 F_qn1:Fun K "law" "law" gP A.a_qn1 A.d_qn1
 m_qn1:mg "law"=some (.ref A.a_qn1)
 b_qn1:Binds K A.d_qn1 ["script"] []
 x_NoNumber:ExcCl K mg "NoNumber" A.x_NoNumber
 x_NoKind:ExcCl K mg "NoKind" A.x_NoKind
 n_abs:mg "abs"=none
 n_height:mg "height"=none
 n_isinstance:mg "isinstance"=none
 n_k:mg "k"=none
 n_len:mg "len"=none
 n_list:mg "list"=none
 n_mark:mg "mark"=none
 n_min:mg "min"=none
 n_miss:mg "miss"=none
 n_one:mg "one"=none
 n_other:mg "other"=none
 n_pair:mg "pair"=none
 n_pull:mg "pull"=none
 n_range:mg "range"=none
 n_reversed:mg "reversed"=none
 n_str:mg "str"=none
 n_sum:mg "sum"=none
 n_way:mg "way"=none
 n_weight:mg "weight"=none
 n_zip:mg "zip"=none
 c_KINDS:mg "KINDS"=some (.ref A.g_KINDS)
 k_KINDS:∀H:Hp,DV K H (.ref A.g_KINDS) (.tuple [(.str "far"),(.str "sum"),(.str "square")])
 c_NOUGHT:mg "NOUGHT"=some (.ref A.g_NOUGHT)
 k_NOUGHT:∀H:Hp,DV K H (.ref A.g_NOUGHT) (.tuple [(.int 0),(.int 1)])
noncomputable abbrev iH:=PyProof.Rows.boot_abs
noncomputable abbrev nM:=PyProof.Rows.boot_isinstance
noncomputable abbrev lR:=PyProof.Rows.boot_list
noncomputable abbrev Jh:=PyProof.Rows.boot_min
theorem Jf:bootBuiltins "sum"=some (.builtin "sum"):=by decide +kernel
local macro_rules|`(tactic|walk_at"d")=>do
 let a<-("jA slot iU Ak mS Ap dC Qa tE Ao tD Mr Nb Pe oI Mb Pa Oz Ow Na Aq Er Iv Ob Dp Jk Jj Jl wO Mz Fh Px Fo Pf Jb Py Mw Ng Fl Au wQ wR Fi Mt Ff Al Fj Nf uI Aa uJ zZ Ja Fd Av oF Af Iy Mv An Jc Fe mW Mq Nd Mh uZ Nc Iq Iu Iw Mu Ab Oa d2 Fg Mo wU Fk Fc Mx wG Gz Bd mM eS Bool.and_true Bool.true_and Bool.and_self Bool.not_true Bool.not_false true_and and_true decide_eq_true_eq Bool.not_eq_true' decide_eq_false_iff_not if_true if_false ite_true ite_false Bool.false_eq_true Bool.true_eq_false not_true_eq_false not_false_eq_true reduceCtorEq List.length_cons List.length_nil List.length_map".splitOn " ").toArray.mapM λn=>`(Lean.Parser.Tactic.simpLemma|$(Lean.mkIdent n.toName):ident)
 `(tactic|(try simp only[$a,*]))
local macro_rules|`(tactic|walk_at"s")=>`(tactic|(walk_at"d";refine dO ?_;walk_at"d"))
theorem Jg:bootBuiltins "str"=some (.type "str"):=by decide +kernel
noncomputable abbrev fr(q:Rat):PyData:=.tuple [.int q.num,.int (q.den:Int)]
theorem uV{g:Nat}{b:Int}(h:g<=b.natAbs)(a:Wee b):Wee (g:Int):=by
 unfold Wee at *
 lia
theorem uU{b:Int}(a:Wee b):Wee (-b):=by
 unfold Wee at *
 lia
theorem rC{i j:Int}(h:decide (0<=j/\j<=1000000/\i.natAbs<2^64)=true):Nq i j:=(of_decide_eq_true h:0<=j/\j<=1000000/\i.natAbs<2^64)
theorem tP{i:Int}(h:decide (i.natAbs<2^8000)=true):Wee i:=(of_decide_eq_true h:i.natAbs<2^8000)
theorem eH{i:Int}{n:Nat}(h:i.natAbs<=n)(a:decide (n<2^8000)=true):Wee i:=Nat.lt_of_le_of_lt h (of_decide_eq_true a)
theorem nL{i j:Int}(h:decide (0<j/\j.natAbs<2^8000)=true):xC i j:=(of_decide_eq_true h:0<j/\j.natAbs<2^8000)
structure Ok(q:Rat):Prop where
 n:Wee q.num
 d:Wee (q.den:Int)
theorem fJ{g b:Nat}(h:g<=b)(a:Wee (b:Int)):Wee (g:Int):=by
 unfold Wee at *
 lia
theorem Qo{q:Rat}{N:Nat}(h:Fm.Sz N q)(a:decide (N<2^8000)=true):Ok q:=⟨eH h.n a,eH (n:=N) (by have:=h.d;lia) a⟩
theorem Cz(q:Rat):mM (fr q)=true:=rfl
theorem dE:∀a:List Rat,eS (a.map fr)=true
 |[]=>rfl
 |q::a=>by
  have:=dE a;simp only[List.map_cons,eS,Cz,this,Bool.and_self]
section
variable{P:Program}{w:World}{K:PySem.W.Frag}{mg:Str->Option Value}{base:Heap}{A:Adr}
noncomputable def Oj:DW:=λc Q _=>∃a b:Int,c=[.int a,.int b]/\0<=a/\0<=b/\Q (.dat (.int ((Int.gcd a b:Nat):Int)))
theorem Eo(T:Txt K mg A):FnOk P w K mg base (eV P w) 1 A.a_qa A.d_qa ["one","other"] (fD K Oj):=by
 refine gH T.F_qa sc_qa (λj Q E h=>?_) (λl t outer s H E u=>?_)
 ·obtain⟨a,b,rfl,_⟩:=h;rfl
 refine⟨_,(aH (mE PassesOwn.leaving (bR Eh (pv 1) aD (bY _)) (aH (aY (i:=2) sc_qa.nd rfl (Or.inl rfl) (aV cO (pv 0) (pv 1)))
   (aH (aY (i:=0) sc_qa.nd rfl (Or.inl rfl) (pv 1))
   (aT (aY (i:=1) sc_qa.nd rfl (Or.inl rfl) (pv 2))))))
   (aT (bI (pv 0)))),_,(aQ (lX (bQ (aB (aU Ef (aE 1) (aB aI)))) (aQ (bC (aU bZ (aE 0) (aE 1)) (aJ 2))
   (aQ (bC (aN 1) (aJ 0))
   (bC (aN 2) (aJ 1)))))
   (eA 0)),?_⟩
 intro j Q X qQ0;refine qq λqz=>?_;obtain⟨a,b,rfl,n,o,k⟩:=qQ0;apply qz;walk_at"s";refine⟨λm f=>∃x y r,f=[some (.dat (.int x)),some (.dat (.int y)),r]/\m=y.toNat/\0<=x/\0<=y/\Int.gcd x y=Int.gcd a b,⟨_,a,b,none,rfl,rfl,n,o,rfl⟩,?_⟩;intro m f qQ0;refine qq λqz=>?_;obtain⟨x,y,r,rfl,rfl,p,q,g⟩:=qQ0;apply qz;walk_at"d";refine fG (λc=>?_) (λc=>?_)
 ·have d:y≠0:=c;have e:0<y:=by lia
  walk_at"s";refine⟨e,?_⟩;walk_at"s";walk_at"d";refine⟨_,?_,y,x%y,_,rfl,rfl,q,Int.emod_nonneg _ d,?_⟩
  ·have:=Int.emod_lt_of_pos x e;have:=Int.emod_nonneg x d
   lia
  ·rw[Fm.gcd_step x y e,g]
 ·have d:y=0:=Decidable.not_not.mp c;subst d;rw[<-g,Fm.gcd_zero p]at k;exact k
noncomputable def xF(C:Addr):DW:=λa Q X=>∃t b:Int,a=[.int t,.int b]/\Wee b/\(b=0->X C)/\(b≠0->Q (.dat (fr (Rat.divInt t b))))
theorem En(T:Txt K mg A):FnOk P w K mg base (eV P w) 2 A.a_qb A.d_qb ["top","bottom"] (fD K (xF A.x_NoNumber)):=by
 have d:=Eo (P:=P) (w:=w) (base:=base) T;refine gH T.F_qb sc_qb (λm Q E h=>?_) (λn q outer s H E g=>?_)
 ·obtain⟨a,b,rfl,_⟩:=h;rfl
 refine⟨_,(aH (cZ (bR fF (pv 1) aD (bY _)) (aT (hU T.x_NoNumber g.hd gA rfl (aA fB aF))) bV)
   (aH (aY (i:=2) sc_qb.nd rfl (Or.inl rfl) (aK d (g.mono (by decide)) rfl T.m_qa T.F_qa.kp T.b_qa .nil aP (aA (cL eZ rfl T.n_abs iH (aA (pv 0) aF)) (aA (cL eZ rfl T.n_abs iH (aA (pv 1) aF)) aF))))
   (aH (cZ (bR oC (pv 1) aD (bY _)) (aT (aY (i:=2) sc_qb.nd rfl (Or.inl rfl) (iV fU (pv 2)))) bV)
   (aT (bI (cD (aA (aV sC (pv 0) (pv 2)) (aA (aV sC (pv 1) (pv 2)) aF)))))))),_,(aQ (cY (bQ (aB (aU fE (aE 1) (aB aI)))) (gX (aO fC bH) (by decide)) bU)
   (aQ (bC (aL (aC (aB (eY gZ (aC (aE 0) aM))) (aC (aB (eY gZ (aC (aE 1) aM))) aM))) (aJ 2))
   (gY (cY (bQ (aB (aU kB (aE 1) (aB aI)))) (bC (fW (aE 2)) (aJ 2)) bU)
   (cC (aB (cH (aO (aU bZ (aE 0) (aE 2)) (aO (aU bZ (aE 1) (aE 2)) bH)) (by decide))))))),?_⟩
 intro m Q X qQ0;refine qq λqz=>?_;obtain⟨t,b,rfl,hw,k0,k1⟩:=qQ0;apply qz;walk_at"s";refine fG (λc=>?_) (λc=>?_)
 ·exact k0 c
 have e:b≠0:=c;have o:=k1 e;walk_at"s";refine⟨_,_,rfl,by rw[Fm.abs_if];lia,by rw[Fm.abs_if];lia,?_⟩;have p:Int.gcd (if t<0 then -t else t) (if b<0 then -b else b)=Int.gcd t b:=by
  rw[Fm.abs_if,Fm.abs_if];simp[Int.gcd]
 rw[p];walk_at"d";refine ?_;have r:=Fm.gcd_pos_right (a:=t) e;have j:=uV (Fm.gcd_le_right (a:=t) e) hw;refine iG (λk=>k=[some (.dat (.int t)),some (.dat (.int b)),some (.dat (.int (if b<0 then -((Int.gcd t b:Nat):Int)else((Int.gcd t b:Nat):Int))))]) ?_ ?_
 ·walk_at"d";refine fG (λc2=>?_) (λc2=>?_)
  ·rw[if_pos c2]
  ·rw[if_neg c2]
 ·rintro k rfl;walk_at"d";have l:(if b<0 then -((Int.gcd t b:Nat):Int)else((Int.gcd t b:Nat):Int))≠0:=by split <;>lia
  have f:Wee (if b<0 then -((Int.gcd t b:Nat):Int)else((Int.gcd t b:Nat):Int)):=by
   split
   ·exact uU j
   ·exact j
  refine⟨⟨l,f⟩,⟨l,f⟩,?_⟩;rw[Fm.fr_num e,Fm.fr_den e];exact o
end
noncomputable def Fu(f:Rat->Rat->Rat):DW:=λc Q _=>∃a b:Rat,c=[fr a,fr b]/\Ok a/\Ok b/\Q (.dat (fr (f a b)))
section
variable{P:Program}{w:World}{K:PySem.W.Frag}{mg:Str->Option Value}{base:Heap}{A:Adr}
theorem oD(T:Txt K mg A):FnOk P w K mg base (eV P w) 2 A.a_qc A.d_qc ["one","other"] (fD K (Fu (·+·))):=by
 have c:=Eo (P:=P) (w:=w) (base:=base) T;refine gH T.F_qc sc_qc (λq Q E h=>?_) (λr y outer s H E n=>?_)
 ·obtain⟨a,b,rfl,_⟩:=h;rfl
 refine⟨_,(aH (aY (i:=2) sc_qc.nd rfl (Or.inl rfl) (aK c (n.mono (by decide)) rfl T.m_qa T.F_qa.kp T.b_qa .nil aP (aA (aX (bK (K:=K) rfl) (pv 0) aD (λ_ _=>rfl)) (aA (aX (bK (K:=K) rfl) (pv 1) aD (λ_ _=>rfl)) aF))))
   (aH (aY (i:=3) sc_qc.nd rfl (Or.inl rfl) (aV cS (aX (bK (K:=K) rfl) (pv 0) aD (λ_ _=>rfl)) (pv 2)))
   (aH (aY (i:=4) sc_qc.nd rfl (Or.inl rfl) (aV cR (aV bG (aX (bK (K:=K) rfl) (pv 0) aD (λ_ _=>rfl)) (aV cS (aX (bK (K:=K) rfl) (pv 1) aD (λ_ _=>rfl)) (pv 2))) (aV bG (aX (bK (K:=K) rfl) (pv 1) aD (λ_ _=>rfl)) (pv 3))))
   (aH (aY (i:=5) sc_qc.nd rfl (Or.inl rfl) (aK c (n.mono (by decide)) rfl T.m_qa T.F_qa.kp T.b_qa .nil aP (aA (pv 2) (aA (cL eZ rfl T.n_abs iH (aA (pv 4) aF)) aF))))
   (aT (bI (cD (aA (aV cS (pv 4) (pv 5)) (aA (aV bG (pv 3) (aV cS (aX (bK (K:=K) rfl) (pv 1) aD (λ_ _=>rfl)) (pv 5))) aF))))))))),_,(aQ (bC (aL (aC (aB (aW 1 (aN 0))) (aC (aB (aW 1 (aN 1))) aM))) (aJ 2))
   (aQ (bC (aU bZ (aB (aW 1 (aN 0))) (aE 2)) (aJ 3))
   (aQ (bC (aU cN (aB (aU bZ (aB (aW 0 (aN 0))) (aB (aU bZ (aB (aW 1 (aN 1))) (aE 2))))) (aB (aU bZ (aB (aW 0 (aN 1))) (aE 3)))) (aJ 4))
   (aQ (bC (aL (aC (aE 2) (aC (aB (eY gZ (aC (aE 4) aM))) aM))) (aJ 5))
   (cC (aB (cH (aO (aU bZ (aE 4) (aE 5)) (aO (aU bZ (aE 3) (aB (aU bZ (aB (aW 1 (aN 1))) (aE 5)))) bH)) (by decide)))))))),?_⟩
 intro q Q X qQ0;refine qq λqz=>?_;obtain⟨a,b,rfl,d,j,k⟩:=qQ0;apply qz;have l:0<a.den.gcd b.den:=Nat.gcd_pos_of_pos_left _ (Nat.pos_of_ne_zero a.den_nz);have e:Wee ((a.den.gcd b.den:Nat):Int):=fJ (Nat.le_of_dvd (Nat.pos_of_ne_zero a.den_nz) (Nat.gcd_dvd_left _ _)) d.d;walk_at"s";refine⟨_,_,rfl,by lia,by lia,?_⟩;rw[Int.gcd_natCast_natCast];generalize t:a.den.gcd b.den=f at l e⊢;walk_at"d";refine ?_;walk_at"s";refine⟨⟨by lia,e⟩,?_⟩;rw[<-Int.natCast_ediv];walk_at"s";refine⟨⟨by lia,e⟩,?_⟩;rw[<-Int.natCast_ediv];refine⟨cF d.n (fJ (Nat.div_le_self _ _) j.d),cF j.n (fJ (Nat.div_le_self _ _) d.d),?_⟩;generalize u:a.num*((b.den/f:Nat):Int)+b.num*((a.den/f:Nat):Int)=o;walk_at"s";refine⟨_,_,rfl,by lia,by rw[Fm.abs_if];lia,?_⟩;rw[Fm.abs_if,Int.gcd_natCast_natCast];generalize m:f.gcd o.natAbs=g;have z:0<g:=by rw[<-m];exact Nat.gcd_pos_of_pos_left _ l
 have p:Wee (g:Int):=fJ (by rw[<-m];exact Nat.le_of_dvd l (Nat.gcd_dvd_left _ _)) e;walk_at"d";refine ?_;obtain⟨v,x⟩:=Fm.add_parts a b f t.symm o u.symm g m.symm;walk_at"d";refine⟨⟨by lia,p⟩,⟨by lia,p⟩,cF (fJ (Nat.div_le_self _ _) d.d) (by rw[<-Int.natCast_ediv];exact fJ (Nat.div_le_self _ _) j.d),?_⟩;rw[<-Int.natCast_ediv,<-Int.natCast_mul,<-v,<-x];exact k
theorem zI(T:Txt K mg A):FnOk P w K mg base (eV P w) 3 A.a_qd A.d_qd ["one","other"] (fD K (Fu (·-·))):=by
 have c:=oD (P:=P) (w:=w) (base:=base) T;refine gH T.F_qd Kx (λe Q E h=>?_) (λf j outer s H E g=>?_)
 ·obtain⟨a,b,rfl,_⟩:=h;rfl
 refine⟨_,(aT (bI (aK c (g.mono (by decide)) rfl T.m_qc T.F_qc.kp T.b_qc .nil aP (aA (pv 0) (aA (cD (aA (iV fU (aX (bK (K:=K) rfl) (pv 1) aD (λ_ _=>rfl))) (aA (aX (bK (K:=K) rfl) (pv 1) aD (λ_ _=>rfl)) aF))) aF))))),_,(cC (aB (aL (aC (aE 0) (aC (aB (cH (aO (fW (aB (aW 0 (aN 1)))) (aO (aW 1 (aN 1)) bH)) (by decide))) aM))))),?_⟩;intro e Q X qQ0;refine qq λqz=>?_;obtain⟨a,b,rfl,i,d,k⟩:=qQ0;apply qz;walk_at"d";refine⟨a,-b,rfl,i,⟨uU d.n,d.d⟩,rfl,?_⟩;dsimp only;rw[<-Rat.sub_eq_add_neg];exact k
theorem lE(T:Txt K mg A):FnOk P w K mg base (eV P w) 3 A.a_qe A.d_qe ["one","other"] (fD K (Fu (·*·))):=by
 have c:=En (P:=P) (w:=w) (base:=base) T;refine gH T.F_qe sc_qe (λl Q E h=>?_) (λm p outer s H E j=>?_)
 ·obtain⟨a,b,rfl,_⟩:=h;rfl
 refine⟨_,(aH (aY (i:=2) sc_qe.nd rfl (Or.inl rfl) (aK c (j.mono (by decide)) rfl T.m_qb T.F_qb.kp T.b_qb .nil aP (aA (aX (bK (K:=K) rfl) (pv 0) aD (λ_ _=>rfl)) (aA (aX (bK (K:=K) rfl) (pv 1) aD (λ_ _=>rfl)) aF))))
   (aH (aY (i:=3) sc_qe.nd rfl (Or.inl rfl) (aK c (j.mono (by decide)) rfl T.m_qb T.F_qb.kp T.b_qb .nil aP (aA (aX (bK (K:=K) rfl) (pv 1) aD (λ_ _=>rfl)) (aA (aX (bK (K:=K) rfl) (pv 0) aD (λ_ _=>rfl)) aF))))
   (aT (bI (cD (aA (aV bG (aX (bK (K:=K) rfl) (pv 2) aD (λ_ _=>rfl)) (aX (bK (K:=K) rfl) (pv 3) aD (λ_ _=>rfl))) (aA (aV bG (aX (bK (K:=K) rfl) (pv 2) aD (λ_ _=>rfl)) (aX (bK (K:=K) rfl) (pv 3) aD (λ_ _=>rfl))) aF))))))),_,(aQ (bC (aL (aC (aB (aW 0 (aN 0))) (aC (aB (aW 1 (aN 1))) aM))) (aJ 2))
   (aQ (bC (aL (aC (aB (aW 0 (aN 1))) (aC (aB (aW 1 (aN 0))) aM))) (aJ 3))
   (cC (aB (cH (aO (aU bZ (aB (aW 0 (aN 2))) (aB (aW 0 (aN 3)))) (aO (aU bZ (aB (aW 1 (aN 2))) (aB (aW 1 (aN 3)))) bH)) (by decide)))))),?_⟩
 intro l Q X qQ0;refine qq λqz=>?_;obtain⟨a,b,rfl,d,e,k⟩:=qQ0;apply qz;have f:((b.den:Nat):Int)≠0:=by have:=b.den_nz;lia
 have g:((a.den:Nat):Int)≠0:=by have:=a.den_nz;lia
 obtain⟨n,o⟩:=Fm.mul_parts a b;walk_at"s";refine⟨_,_,rfl,e.d,λz=>absurd z f,λ_=>?_⟩;walk_at"s";refine⟨_,_,rfl,d.d,λz=>absurd z g,λ_=>?_⟩;have q:=Fm.num_le a.num f;have r:=Fm.den_le a.num f;have t:=Fm.num_le b.num g;have u:=Fm.den_le b.num g;have v:=d.n;have x:=d.d;have y:=e.n;have B:=e.d
 walk_at"d";refine⟨cF (by unfold Wee at *;lia) (by unfold Wee at *;lia),cF (by unfold Wee at *;lia) (by unfold Wee at *;lia),?_⟩;rw[<-Int.natCast_mul,<-n,<-o];exact k
noncomputable def Jz:DW:=λc Q _=>∃a b:Rat,c=[fr a,fr b]/\Ok a/\Ok b/\Q (.dat (.bool (decide (a<b))))
theorem sD(T:Txt K mg A):FnOk P w K mg base (eV P w) 1 A.a_qg A.d_qg ["one","other"] (fD K Jz):=by
 refine gH T.F_qg Kv (λf Q E h=>?_) (λg i outer s H E j=>?_)
 ·obtain⟨a,b,rfl,_⟩:=h;rfl
 refine⟨_,(aT (bI (kE oC (aV bG (aX (bK (K:=K) rfl) (pv 0) aD (λ_ _=>rfl)) (aX (bK (K:=K) rfl) (pv 1) aD (λ_ _=>rfl))) (aV bG (aX (bK (K:=K) rfl) (pv 1) aD (λ_ _=>rfl)) (aX (bK (K:=K) rfl) (pv 0) aD (λ_ _=>rfl))) (bY _)))),_,(cC (aB (aU kB (aB (aU bZ (aB (aW 0 (aN 0))) (aB (aW 1 (aN 1))))) (aB (aU bZ (aB (aW 0 (aN 1))) (aB (aW 1 (aN 0)))))))),?_⟩;intro f Q X qQ0;refine qq λqz=>?_;obtain⟨a,b,rfl,c,d,k⟩:=qQ0;apply qz;walk_at"d";refine⟨cF c.n d.d,cF d.n c.d,?_⟩;have e:decide (a.num*(b.den:Int)<b.num*(a.den:Int))=decide (a<b):=by
  rw[decide_eq_decide];exact Fm.less_iff a b
 rw[e];exact k
noncomputable def Jw(C:Addr):DW:=λc Q X=>∃a b:Rat,c=[fr a,fr b]/\Ok a/\Ok b/\(b=0->X C)/\(b≠0->Q (.dat (fr (a/b))))
theorem zH(T:Txt K mg A):FnOk P w K mg base (eV P w) 4 A.a_qf A.d_qf ["one","other"] (fD K (Jw A.x_NoNumber)):=by
 have d:=En (P:=P) (w:=w) (base:=base) T;have e:=lE (P:=P) (w:=w) (base:=base) T;refine gH T.F_qf Kw (λi Q E h=>?_) (λj m outer s H E f=>?_)
 ·obtain⟨a,b,rfl,_⟩:=h;rfl
 refine⟨_,(aH (cZ (bR fF (aX (bK (K:=K) rfl) (pv 1) aD (λ_ _=>rfl)) aD (bY _)) (aT (hU T.x_NoNumber f.hd gA rfl (aA fB aF))) bV)
   (aT (bI (aK e (f.mono (by decide)) rfl T.m_qe T.F_qe.kp T.b_qe .nil aP (aA (pv 0) (aA (aK d (f.mono (by decide)) rfl T.m_qb T.F_qb.kp T.b_qb .nil aP (aA (aX (bK (K:=K) rfl) (pv 1) aD (λ_ _=>rfl)) (aA (aX (bK (K:=K) rfl) (pv 1) aD (λ_ _=>rfl)) aF))) aF)))))),_,(aQ (cY (bQ (aB (aU fE (aB (aW 0 (aN 1))) (aB aI)))) (gX (aO fC bH) (by decide)) bU)
   (cC (aB (aL (aC (aE 0) (aC (aB (aL (aC (aB (aW 1 (aN 1))) (aC (aB (aW 0 (aN 1))) aM)))) aM)))))),?_⟩
 intro i Q X qQ0;refine qq λqz=>?_;obtain⟨a,b,rfl,k,g,k0,k1⟩:=qQ0;apply qz;walk_at"s";refine fG (λc=>?_) (λc=>?_)
 ·exact k0 (Rat.num_eq_zero.mp c)
 ·have c2:b.num≠0:=c;have l:b≠0:=λz=>c2 (by rw[z];rfl);walk_at"d";refine⟨_,_,rfl,g.n,λz=>absurd z c2,λ_=>⟨rfl,a,b⁻¹,?_,k,?_,rfl,?_⟩⟩
  ·rw[Fm.div_inv]
  ·rw[<-Fm.div_inv];have n:=Fm.num_le (b.den:Int) c2;have o:=Fm.den_le (b.den:Int) c2;have p:=g.n;have q:=g.d
   exact⟨by unfold Wee at *;lia,by unfold Wee at *;lia⟩
  ·dsimp only;rw[<-Rat.div_def];exact k1 l
end
theorem Dq{b c:Type}(f:b->c)(a:List b)(i:Int):nF (a.map f) i=(nF a i).map f:=by
 unfold nF;rw[List.length_map];cases Et a.length i with
 |none=>rfl
 |some j=>exact List.getElem?_map
theorem Ni{b:Type}[Inhabited b]{a:List b}{k:Int}(d:0<=k)(f:k<(a.length:Int)):nF a k=some (a.getD k.toNat default):=by
 have e:k=((k.toNat:Nat):Int):=by lia
 have c:k.toNat<a.length:=by lia
 conv=>lhs;rw[e]
 refine fS ?_;rw[List.getElem?_eq_getElem c];simp[List.getD,c]
theorem Bc{a b:Type}[Inhabited a](f:a->b){xs:List a}{k:Int}(c:0<=k)(d:k<(xs.length:Int)):nF (xs.map f) k=some (f (xs.getD k.toNat default)):=by
 rw[Dq,Ni c d];rfl
theorem getD_mem'{b:Type}[Inhabited b]{a:List b}{j:Nat}(h:j<a.length):a.getD j default∈a:=by
 have e:a.getD j default=a[j]:=by simp[List.getD,h]
 rw[e];exact List.getElem_mem h
theorem Ad{b:Type}[Inhabited b]{a:List b}{j:Nat}{p:b->Prop}(h:∀v∈a,p v)(d:p default):p (a.getD j default):=by
 by_cases c:j<a.length
 ·exact h _ (getD_mem' c)
 ·have e:a.getD j default=default:=by simp[List.getD,c]
  rw[e];exact d
section
variable{P:Program}{w:World}{K:PySem.W.Frag}{mg:Str->Option Value}{base:Heap}{A:Adr}
noncomputable def xE(C:Addr):DW:=λb Q X=>∃a:List Rat,b=[.list (a.map fr)]/\(∀q∈a,Ok q)/\(a=[]->X C)/\∀q∈a,(∀r∈a,r<=q)->Q (.dat (fr q))
theorem El(T:Txt K mg A):FnOk P w K mg base (eV P w) 2 A.a_qj A.d_qj ["some"] (fD K (xE A.x_NoNumber)):=by
 have g:=sD (P:=P) (w:=w) (base:=base) T;refine gH T.F_qj sc_qj (λB Q E h=>?_) (λC G outer s H E v=>?_)
 ·obtain⟨a,rfl,_⟩:=h;rfl
 refine⟨_,(aH (cZ (bR fF (cL (uH (K:=K) rfl) rfl T.n_len PySem.boot_len (aA (pv 0) aF)) aD (bY _)) (aT (hU T.x_NoNumber v.hd gA rfl (aA fB aF))) bV)
   (aH (aY (i:=1) sc_qj.nd rfl (Or.inl rfl) (aX (iB (K:=K) rfl) (pv 0) aD (λ_ _=>rfl)))
   (aH (fN PassesOwn.leaving rfl (jE (K:=K) rfl (pv 0)) (aZ (i:=2) sc_qj.nd rfl (Or.inl rfl))
    (aT (cZ (jD (aK g (v.mono (by decide)) rfl T.m_qg T.F_qg.kp T.b_qg .nil aP (aA (pv 1) (aA (pv 2) aF)))) (aT (aY (i:=1) sc_qj.nd rfl (Or.inl rfl) (pv 2))) bV)))
   (aT (bI (pv 1)))))),_,(aQ (cY (bQ (aB (aU fE (aB (eY jC (aC (aE 0) aM))) (aB aI)))) (gX (aO fC bH) (by decide)) bU)
   (aQ (bC (dW (bL 0) (aB aI)) (aJ 1))
   (aQ (fL (iN (aN 0)) (aJ 2)
    (cY (tT (aB (aL (aC (aE 1) (aC (aE 2) aM))))) (bC (aN 2) (aJ 1)) bU))
   (eA 1)))),?_⟩
 intro B Q X qQ0;refine qq λqz=>?_;obtain⟨b,rfl,x,k0,k⟩:=qQ0;apply qz;walk_at"s";rcases b with _|⟨d,b⟩
 ·rw[if_pos (by simp)];exact k0 rfl
 rw[if_neg (by simp;lia)];walk_at"s";refine⟨fr d,fS (j:=0) rfl,dO (eU fr (d::b) (λQ h=>h) (λi o=>∃q r,o=[some (.dat (.list ((d::b).map fr))),some (.dat (fr q)),r]/\q∈d::b/\∀j r,j<i->(d::b)[j]? =some r->r<=q) ⟨d,none,rfl,List.mem_cons_self,λj r l=>absurd l (Nat.not_lt_zero _)⟩ ?_ ?_)⟩
 ·intro i m o p qQ0;refine qq λqz=>?_;obtain⟨q,r,rfl,n,f⟩:=qQ0;apply qz;walk_at"d";refine⟨q,m,rfl,x q n,x m (List.mem_of_getElem? p),?_⟩;walk_at"d";have y:∀z,q<=z->m<=z->∀j r,j<i+1->(d::b)[j]? =some r->r<=z:=λz D F j r l e=>by
   by_cases t:j=i
   ·subst t;rw[p]at e;cases e;exact F
   ·exact Rat.le_trans (f j r (by lia) e) D
  refine fG (λc=>?_) (λc=>?_)
  ·exact⟨m,_,rfl,List.mem_of_getElem? p,y m (by grind) Rat.le_refl⟩
  ·exact⟨q,_,rfl,n,y q Rat.le_refl (Rat.not_lt.mp c)⟩
 ·intro o qQ0;refine qq λqz=>?_;obtain⟨q,r,rfl,n,f⟩:=qQ0;apply qz;walk_at"d";refine k q n λr u=>?_;obtain⟨j,l⟩:=List.getElem?_of_mem u;exact f j r (List.getElem?_eq_some_iff.mp l).1 l
noncomputable def Fx(C:Addr):DW:=λb Q X=>∃a:List Rat,b=[.list (a.map fr)]/\(∀q∈a,Ok q)/\(a=[]->X C)/\∀q∈a,(∀r∈a,q<=r)->Q (.dat (fr q))
theorem Lz(T:Txt K mg A):FnOk P w K mg base (eV P w) 2 A.a_qk A.d_qk ["some"] (fD K (Fx A.x_NoNumber)):=by
 have g:=sD (P:=P) (w:=w) (base:=base) T;refine gH T.F_qk sc_qk (λB Q E h=>?_) (λC G outer s H E v=>?_)
 ·obtain⟨a,rfl,_⟩:=h;rfl
 refine⟨_,(aH (cZ (bR fF (cL (uH (K:=K) rfl) rfl T.n_len PySem.boot_len (aA (pv 0) aF)) aD (bY _)) (aT (hU T.x_NoNumber v.hd gA rfl (aA fB aF))) bV)
   (aH (aY (i:=1) sc_qk.nd rfl (Or.inl rfl) (aX (iB (K:=K) rfl) (pv 0) aD (λ_ _=>rfl)))
   (aH (fN PassesOwn.leaving rfl (jE (K:=K) rfl (pv 0)) (aZ (i:=2) sc_qk.nd rfl (Or.inl rfl))
    (aT (cZ (jD (aK g (v.mono (by decide)) rfl T.m_qg T.F_qg.kp T.b_qg .nil aP (aA (pv 2) (aA (pv 1) aF)))) (aT (aY (i:=1) sc_qk.nd rfl (Or.inl rfl) (pv 2))) bV)))
   (aT (bI (pv 1)))))),_,(aQ (cY (bQ (aB (aU fE (aB (eY jC (aC (aE 0) aM))) (aB aI)))) (gX (aO fC bH) (by decide)) bU)
   (aQ (bC (dW (bL 0) (aB aI)) (aJ 1))
   (aQ (fL (iN (aN 0)) (aJ 2)
    (cY (tT (aB (aL (aC (aE 2) (aC (aE 1) aM))))) (bC (aN 2) (aJ 1)) bU))
   (eA 1)))),?_⟩
 intro B Q X qQ0;refine qq λqz=>?_;obtain⟨b,rfl,x,k0,k⟩:=qQ0;apply qz;walk_at"s";rcases b with _|⟨d,b⟩
 ·rw[if_pos (by simp)];exact k0 rfl
 rw[if_neg (by simp;lia)];walk_at"s";refine⟨fr d,fS (j:=0) rfl,dO (eU fr (d::b) (λQ h=>h) (λi o=>∃q r,o=[some (.dat (.list ((d::b).map fr))),some (.dat (fr q)),r]/\q∈d::b/\∀j r,j<i->(d::b)[j]? =some r->q<=r) ⟨d,none,rfl,List.mem_cons_self,λj r l=>absurd l (Nat.not_lt_zero _)⟩ ?_ ?_)⟩
 ·intro i m o p qQ0;refine qq λqz=>?_;obtain⟨q,r,rfl,n,f⟩:=qQ0;apply qz;walk_at"d";refine⟨m,q,rfl,x m (List.mem_of_getElem? p),x q n,?_⟩;walk_at"d";have y:∀z,z<=q->z<=m->∀j r,j<i+1->(d::b)[j]? =some r->z<=r:=λz D F j r l e=>by
   by_cases t:j=i
   ·subst t;rw[p]at e;cases e;exact F
   ·exact Rat.le_trans D (f j r (by lia) e)
  refine fG (λc=>?_) (λc=>?_)
  ·exact⟨m,_,rfl,List.mem_of_getElem? p,y m (by grind) Rat.le_refl⟩
  ·exact⟨q,_,rfl,n,y q Rat.le_refl (Rat.not_lt.mp c)⟩
 ·intro o qQ0;refine qq λqz=>?_;obtain⟨q,r,rfl,n,f⟩:=qQ0;apply qz;walk_at"d";refine k q n λr u=>?_;obtain⟨j,l⟩:=List.getElem?_of_mem u;exact f j r (List.getElem?_eq_some_iff.mp l).1 l
end
noncomputable def tot:List Rat->Rat
 |[]=>0
 |q::a=>q+tot a
theorem lL:∀(a b:List Rat),tot (a++b)=tot a+tot b
 |[],b=>by simp[tot,Rat.zero_add]
 |q::a,b=>by
  show q+tot (a++b)=q+tot a+tot b;rw[lL a b,Rat.add_assoc]
theorem lV(a:List Rat)(q:Rat):tot (a++[q])=tot a+q:=by
 rw[lL];simp[tot,Rat.add_zero]
theorem eF{b:Type}{a:List b}{i:Nat}{x:b}(h:a[i]? =some x):a.take (i+1)=a.take i++[x]:=by
 rw[List.take_add_one,h];rfl
section
variable{P:Program}{w:World}{K:PySem.W.Frag}{mg:Str->Option Value}{base:Heap}{A:Adr}
noncomputable def Fv:DW:=λb Q _=>∃a:List Rat,b=[.list (a.map fr)]/\(∀q∈a,Ok q)/\(∀i,Ok (tot (a.take i)))/\Q (.dat (fr (tot a)))
theorem vP(T:Txt K mg A):FnOk P w K mg base (eV P w) 3 A.a_qi A.d_qi ["some"] (fD K Fv):=by
 have b:=oD (P:=P) (w:=w) (base:=base) T;refine gH T.F_qi sc_qi (λf Q E h=>?_) (λg n outer s H E j=>?_)
 ·obtain⟨a,rfl,_⟩:=h;rfl
 refine⟨_,(aH (aY (i:=1) sc_qi.nd rfl (Or.inl rfl) (kD rfl T.c_NOUGHT (show RelV (.ref _) (.ref _)from rfl)))
   (aH (fN PassesOwn.leaving rfl (jE (K:=K) rfl (pv 0)) (aZ (i:=2) sc_qi.nd rfl (Or.inl rfl))
    (aT (aY (i:=1) sc_qi.nd rfl (Or.inl rfl) (aK b (j.mono (by decide)) rfl T.m_qc T.F_qc.kp T.b_qc .nil aP (aA (pv 1) (aA (pv 2) aF))))))
   (aT (bI (pv 1))))),_,(aQ (bC (sR T.k_NOUGHT) (aJ 1))
   (aQ (fL (iN (aN 0)) (aJ 2)
    (bC (aL (aC (aE 1) (aC (aE 2) aM))) (aJ 1)))
   (eA 1))),?_⟩
 intro f Q X qQ0;refine qq λqz=>?_;obtain⟨c,rfl,l,m,k⟩:=qQ0;apply qz;walk_at"s";refine ?_;refine dO (eU fr c (λQ h=>h) (λi d=>∃r,d=[some (.dat (.list (c.map fr))),some (.dat (fr (tot (c.take i)))),r]) ⟨none,rfl⟩ ?_ ?_)
 ·intro i q d e qQ0;refine qq λqz=>?_;obtain⟨r,rfl⟩:=qQ0;apply qz;walk_at"d";refine⟨_,q,rfl,m i,l q (List.mem_of_getElem? e),?_⟩;walk_at"d";exact⟨_,by rw[eF e,lV]⟩
 ·intro d qQ0;refine qq λqz=>?_;obtain⟨r,rfl⟩:=qQ0;apply qz;walk_at"d";rw[List.take_of_length_le (Nat.le_refl _)];exact k
end
theorem bO{b c:Type}(f:b->c):∀a:List b,a.flatMap (λx=>[f x])=a.map f
 |[]=>rfl
 |x::a=>by simp[bO f a]
noncomputable abbrev Mk:=Rat×Rat×Int
noncomputable abbrev eJ(m:Mk):PyData:=.tuple [fr m.1,fr m.2.1,.int m.2.2]
theorem kG:∀a:List Mk,eS (a.map eJ)=true
 |[]=>rfl
 |m::a=>by
  have:=kG a;simp only[List.map_cons,eS,mM,this,Bool.and_self]
noncomputable def Bg(n:Nat)(v:Int):Prop:=v.natAbs<2^n
theorem Bg.bits{n:Nat}{v:Int}(h:Bg n v):Builtin.Int.intBits v<=n:=wY h
theorem Bg.of{n:Nat}{v:Int}(h:Builtin.Int.intBits v<=n):Bg (n+1) v:=by
 unfold Bg;by_cases a:v=0
 ·subst a;exact Nat.two_pow_pos _
 ·unfold Builtin.Int.intBits at h;rw[if_neg (by simpa using a)]at h;exact(Nat.log2_lt (by lia)).mp (by lia)
theorem Bg.add{n:Nat}{a b:Int}(c:Bg n a)(d:Bg n b):Bg (n+1) (a+b):=by
 unfold Bg at *
 rw[Nat.pow_succ];have:=Int.natAbs_add_le a b
 lia
theorem Bg.small{n:Nat}{a:Int}(h:a.natAbs<2^64)(b:64<=n):Bg n a:=Nat.lt_of_lt_of_le h (Nat.pow_le_pow_right (by decide) b)
open Fm
theorem cP{n:Nat}{q:Rat}(h:Dg n q)(l:n<=2400):Ok q:=Qo (h.mono l) (by decide +kernel)
theorem dA{n:Nat}{i:Int}(h:i.natAbs<=10^n)(l:n<=2400):Wee i:=eH (Nat.le_trans h (eQ l)) (by decide +kernel)
theorem dG{c d:Type}(f:c->PyData)(g:d->PyData):∀(a:List c)(b:List d),pairD (a.map f) (b.map g)=(a.zip b).map λp=>PyData.tuple [f p.1,g p.2]
 |[],_=>by simp[Dl.pairD]
 |x::a,[]=>by simp[Dl.pairD]
 |x::a,y::b=>by
  have:=dG f g a b;simp[Dl.pairD,this]
theorem jI{c d e:Type}(f:c->d->e):∀(a:List c)(b:List d),((a.zip b).map λp=>f p.1 p.2)=List.zipWith f a b
 |[],_=>by simp
 |x::a,[]=>by simp
 |x::a,y::b=>by simp[jI f a b]
theorem lJ{e f:Type}{p:e->Prop}{q:f->Prop}:∀{c:List e}{d:List f},(∀x∈c,p x)->(∀y∈d,q y)->∀z∈c.zip d,p z.1/\q z.2:=λ{c d} g h z i=>by
 have:=List.of_mem_zip (a:=z.1) (b:=z.2) i;exact⟨g _ this.1,h _ this.2⟩
theorem gU{a b c:Type}{f:a->b->c}{p:a->Prop}{q:b->Prop}{r:c->Prop}{d:List a}{e:List b}(i:∀x∈d,p x)(j:∀y∈e,q y)(h:∀x y,p x->q y->r (f x y)):∀z∈List.zipWith f d e,r z:=λz g=>by
 rw[<-jI]at g;obtain⟨w,hw,rfl⟩:=List.mem_map.mp g;have:=lJ i j w hw;exact h _ _ this.1 this.2
noncomputable def eK(b:List Mk)(a:List Rat):List Rat:=List.zipWith (λ(m:Mk) h=>m.2.1-h) b a
noncomputable def dS(b:List Mk)(a:List Rat):List Rat:=List.zipWith (λ(m:Mk) x=>(m.2.2:Rat)*x) b (eK b a)
noncomputable def yS(d:List Mk)(c:List Rat):List Rat:=List.zipWith (λa b=>a*b) (dS d c) (eK d c)
noncomputable def lH:List Rat->Rat
 |[]=>0
 |x::a=>if lH a<x then x else lH a
theorem vV:∀a:List Rat,0<=lH a
 |[]=>Rat.le_refl
 |x::a=>by
  have:=vV a;unfold lH;split
  ·grind
  ·exact this
theorem vW:∀{a:List Rat},∀x∈a,x<=lH a
 |y::a,x,h=>by
  have b:=@vW a;unfold lH;rcases List.mem_cons.mp h with rfl|h
  ·split
   ·exact Rat.le_refl
   ·exact Rat.not_lt.mp ‹_›
  ·have:=b x h;split
   ·grind
   ·exact this
theorem mK:∀{a:List Rat},lH a=0\/lH a∈a
 |[]=>.inl rfl
 |x::a=>by
  unfold lH;split
  ·exact .inr List.mem_cons_self
  ·rcases @mK a with h|h
   ·exact .inl h
   ·exact .inr (List.mem_cons_of_mem _ h)
theorem Ck{a:List Rat}{m:Rat}(c:0<=m)(b:m=0\/m∈a)(d:∀x∈a,x<=m):m=lH a:=by
 refine Rat.le_antisymm ?_ ?_
 ·rcases b with rfl|b
  ·exact vV a
  ·exact vW m b
 ·rcases @mK a with h|h
  ·rw[h];exact c
  ·exact d _ h
noncomputable def mJ(c:Str)(b:List Mk)(a:List Rat):Rat:=if c="far" then lH ((eK b a).map bM)else if c="sum" then tot ((dS b a).map bM)else tot (yS b a)
theorem Cm.tot{L B:Nat}:∀{qs:List Rat},(∀q∈qs,Cm L B q)->Cm L (qs.length*B) (tot qs)
 |[],_=>Cm.zero
 |q::qs,h=>by
  have a:=h q List.mem_cons_self;have b:=Cm.tot (qs:=qs) λx c=>h x (List.mem_cons_of_mem _ c);exact(a.add b).mono (Nat.dvd_refl _) (by rw[List.length_cons,Nat.add_mul];lia)
theorem eT{B b:Nat}(h:B<=10^b):B+B<=10^(b+1):=by rw[Nat.pow_succ];lia
theorem bX{B b C c:Nat}(h:B<=10^b)(a:C<=10^c):B*C<=10^(b+c):=by rw[Nat.pow_add];exact Nat.mul_le_mul h a
theorem nW{n B b:Nat}(a:n<=60)(h:B<=10^b):n*B<=10^(b+2):=by
 have:n*B<=60*10^b:=Nat.mul_le_mul a h;rw[Nat.pow_add]
 lia
structure MSz(L B W l b wd:Nat)(ms:List Mk)(row:List Rat):Prop where
 len:ms.length<=60
 pos:0<L
 pL:L<=10^l
 pB:B<=10^b
 pW:W<=10^wd
 h:∀m∈ms,Cm L B m.2.1
 r:∀q∈row,Cm L B q
 w:∀m∈ms,m.2.2.natAbs<=W
 fit:2*l+2*b+wd+6<=2400
section
variable{L B W l b wd:Nat}{ms:List Mk}{row:List Rat}
theorem MSz.miss(z:MSz L B W l b wd ms row):∀x∈eK ms row,Cm L (B+B) x:=gU z.h z.r λ_ _ a c=>a.sub c
theorem MSz.wmiss(z:MSz L B W l b wd ms row):∀x∈dS ms row,Cm L (W*(B+B)) x:=gU z.w z.miss λ_ _ a c=>((Cm.int a).mul c).mono (by rw[Nat.one_mul];exact Nat.dvd_refl _) (Nat.le_refl _)
theorem MSz.sq(z:MSz L B W l b wd ms row):∀x∈yS ms row,Cm (L*L) (W*(B+B)*(B+B)) x:=gU z.wmiss z.miss λ_ _ a c=>a.mul c
theorem MSz.missOk(z:MSz L B W l b wd ms row):∀x∈eK ms row,Ok x:=λx a=>cP ((z.miss x a).dg z.pos z.pL (eT z.pB)) (by have:=z.fit;lia)
theorem MSz.wmissOk(z:MSz L B W l b wd ms row):∀x∈dS ms row,Ok x:=λx a=>cP ((z.wmiss x a).dg z.pos z.pL (bX z.pW (eT z.pB))) (by have:=z.fit;lia)
theorem MSz.sqOk(z:MSz L B W l b wd ms row):∀x∈yS ms row,Ok x:=λx a=>cP ((z.sq x a).dg (Nat.mul_pos z.pos z.pos) (bX z.pL z.pL) (bX (bX z.pW (eT z.pB)) (eT z.pB))) (by have:=z.fit;lia)
theorem iY:(dS ms row).length<=ms.length:=by unfold dS;rw[List.length_zipWith];lia
theorem Bt:(yS ms row).length<=ms.length:=by unfold yS;rw[List.length_zipWith];have:=iY (ms:=ms) (row:=row);lia
theorem MSz.sumOk(z:MSz L B W l b wd ms row)(i:Nat):Ok (tot (((dS ms row).map bM).take i)):=by
 have h:=Cm.tot (qs:=((dS ms row).map bM).take i) (L:=L) (B:=W*(B+B)) λq a=>by
  obtain⟨x,c,rfl⟩:=List.mem_map.mp (List.mem_of_mem_take a);exact(z.wmiss x c).abs
 have d:(((dS ms row).map bM).take i).length<=60:=by
  rw[List.length_take,List.length_map];have:=iY (ms:=ms) (row:=row);have:=z.len;lia
 exact cP (h.dg z.pos z.pL (nW d (bX z.pW (eT z.pB)))) (by have:=z.fit;lia)
theorem MSz.sqsOk(z:MSz L B W l b wd ms row)(i:Nat):Ok (tot ((yS ms row).take i)):=by
 have h:=Cm.tot (qs:=(yS ms row).take i) (L:=L*L) (B:=W*(B+B)*(B+B)) λq a=>z.sq q (List.mem_of_mem_take a);have c:((yS ms row).take i).length<=60:=by
  rw[List.length_take];have:=Bt (ms:=ms) (row:=row);have:=z.len;lia
 exact cP (h.dg (Nat.mul_pos z.pos z.pos) (bX z.pL z.pL) (nW c (bX (bX z.pW (eT z.pB)) (eT z.pB)))) (by have:=z.fit;lia)
theorem MSz.measOk(z:MSz L B W l b wd ms row){a:Str}:Ok (mJ a ms row):=by
 unfold mJ;split
 ·rcases @mK ((eK ms row).map bM)with h|h
  ·rw[h];exact⟨tP (by decide +kernel),show Wee ((1:Nat):Int)from tP (by decide +kernel)⟩
  ·obtain⟨x,c,e⟩:=List.mem_map.mp h;rw[<-e];have:=z.missOk x c;exact⟨by rw[fA];have:=this.n;unfold Wee at *;lia,this.d⟩
 ·split
  ·have:=z.sumOk ((dS ms row).map bM).length
   rwa [List.take_of_length_le (Nat.le_refl _)]at this
  ·have:=z.sqsOk (yS ms row).length
   rwa [List.take_of_length_le (Nat.le_refl _)]at this
theorem MSz.hOk(z:MSz L B W l b wd ms row):∀m∈ms,Ok m.2.1:=λm a=>cP ((z.h m a).dg z.pos z.pL z.pB) (by have:=z.fit;lia)
theorem MSz.rOk(z:MSz L B W l b wd ms row):∀q∈row,Ok q:=λm a=>cP ((z.r m a).dg z.pos z.pL z.pB) (by have:=z.fit;lia)
theorem MSz.wOk(z:MSz L B W l b wd ms row){m:Mk}(a:m∈ms):Ok (m.2.2:Rat):=⟨dA (Nat.le_trans (z.w m a) z.pW) (by have:=z.fit;lia),show Wee ((1:Nat):Int)from tP (by decide +kernel)⟩
end
section
variable{P:Program}{w:World}{K:PySem.W.Frag}{mg:Str->Option Value}{base:Heap}{A:Adr}
noncomputable def Jv:DW:=λa Q _=>∃q:Rat,a=[fr q]/\Q (.dat (fr (bM q)))
theorem Em(T:Txt K mg A):FnOk P w K mg base (eV P w) 1 A.a_qh A.d_qh ["one"] (fD K Jv):=by
 refine gH T.F_qh Ku (λa Q E h=>?_) (λb c outer s H E d=>?_)
 ·obtain⟨_,rfl,_⟩:=h;rfl
 refine⟨_,(aT (bI (cD (aA (cL eZ rfl T.n_abs iH (aA (aX (bK (K:=K) rfl) (pv 0) aD (λ_ _=>rfl)) aF)) (aA (aX (bK (K:=K) rfl) (pv 0) aD (λ_ _=>rfl)) aF))))),_,(cC (aB (cH (aO (eY gZ (aC (aB (aW 0 (aN 0))) aM)) (aO (aW 1 (aN 0)) bH)) (by decide)))),?_⟩;rintro a Q X ⟨q,rfl,k⟩;walk_at"d";rw[Fm.abs_if];exact k
noncomputable def Bm:DW:=λc Q _=>∃(b:List Mk)(a:List Rat),c=[.list (b.map eJ),.list (a.map fr)]/\b.length<=1000/\(∀m∈b,Ok m.2.1)/\(∀q∈a,Ok q)/\Q (.own ((eK b a).map fr))
theorem vO(T:Txt K mg A):FnOk P w K mg base (eV P w) 4 A.a_qn A.d_qn ["marks","row"] (fD K Bm):=by
 have a:=zI (P:=P) (w:=w) (base:=base) T;refine gH T.F_qn Ks (λd Q E h=>?_) (λe r outer s H E f=>?_)
 ·obtain⟨_,_,rfl,_⟩:=h;rfl
 refine⟨_,(aT (bI (hV (cap:=[none,none]) (NC:=["mark","height"]) rfl ⟨rfl,rfl,by decide +kernel,by decide +kernel,trivial,(λ_ h=>nomatch h),rfl⟩ (fO (K:=K) rfl rfl T.n_zip (aA (pv 0) (aA (pv 1) aF))) (λ_ _ _ _=>(iS (K:=K) (n:=2) rfl rfl (bD (aZ (i:=0) (show List.Nodup (["mark","height"]:List Str) by decide) rfl (Or.inl rfl)) (bD (aZ (i:=1) (show List.Nodup (["mark","height"]:List Str) by decide) rfl (Or.inl rfl)) cW)))) (λ_ _ _ _=>dB) (λ_ _ _ _=>(aK a (f.mono (by decide)) rfl T.m_qd T.F_qd.kp T.b_qd .nil aP (aA (aX (bK (K:=K) rfl) (pv 0) aD (λ_ _=>rfl)) (aA (pv 1) aF))))))),_,(gJ (eI (gO (bL 0) (bL 1)) (dZ (bJ (aJ 0) (bJ (aJ 1) dR))) dU (aL (aC (aB (aW 1 (aN 0))) (aC (aE 1) aM))) (by decide) (by decide))),?_⟩;intro d Q X qQ0;refine qq λqz=>?_;obtain⟨g,b,rfl,t,j,c,k⟩:=qQ0;apply qz;walk_at"d"
 refine dM (λp:Mk×Rat=>PyData.tuple [eJ p.1,fr p.2]) fr (λp:Mk×Rat=>[p.1.2.1-p.2]) (g.zip b) (by rw[List.length_zip];lia) (λQ h=>by
   walk_at"d"
   rw[dG];exact h) (λp l N o q=>?_) ?_
 ·have:=lJ j c p l;walk_at"d";refine⟨p.1.2.1,p.2,rfl,this.1,this.2,?_⟩;walk_at"d";exact q
 ·rw[bO,jI (λ(m:Mk) h=>m.2.1-h)];exact k
noncomputable def yG:DW:=λd Q _=>∃(c:List Mk)(a:List Rat)(L B W l b e:Nat),d=[.list (c.map eJ),.list (a.map fr)]/\MSz L B W l b e c a/\Q (.own ((dS c a).map fr))
theorem Lv(T:Txt K mg A):FnOk P w K mg base (eV P w) 5 A.a_qp A.d_qp ["marks","row"] (fD K yG):=by
 have a:=lE (P:=P) (w:=w) (base:=base) T;have c:=vO (P:=P) (w:=w) (base:=base) T;refine gH T.F_qp Kq (λg Q E h=>?_) (λj t outer s H E f=>?_)
 ·obtain⟨_,_,_,_,_,_,_,_,rfl,_⟩:=h;rfl
 refine⟨_,(aT (bI (hV (cap:=[none,none]) (NC:=["mark","miss"]) rfl ⟨rfl,rfl,by decide +kernel,by decide +kernel,trivial,(λ_ h=>nomatch h),rfl⟩ (fO (K:=K) rfl rfl T.n_zip (aA (pv 0) (aA (aK c (f.mono (by decide)) rfl T.m_qn T.F_qn.kp T.b_qn .nil aP (aA (pv 0) (aA (pv 1) aF))) aF))) (λ_ _ _ _=>(iS (K:=K) (n:=2) rfl rfl (bD (aZ (i:=0) (show List.Nodup (["mark","miss"]:List Str) by decide) rfl (Or.inl rfl)) (bD (aZ (i:=1) (show List.Nodup (["mark","miss"]:List Str) by decide) rfl (Or.inl rfl)) cW)))) (λ_ _ _ _=>dB) (λ_ _ _ _=>(aK a (f.mono (by decide)) rfl T.m_qe T.F_qe.kp T.b_qe .nil aP (aA (cD (aA (aX (bK (K:=K) rfl) (pv 0) aD (λ_ _=>rfl)) (aA aD aF))) (aA (pv 1) aF))))))),_,(gJ (eI (gO (bL 0) (oG (cK (aC (aE 0) (aC (aE 1) aM))))) (dZ (bJ (aJ 0) (bJ (aJ 1) dR))) dU (aL (aC (aB (cH (aO (aW 2 (aN 0)) (aO aI bH)) (by decide))) (aC (aE 1) aM))) (by decide) (by decide))),?_⟩;intro g Q X qQ0;refine qq λqz=>?_;obtain⟨e,d,L,B,W,l,b,u,rfl,z,k⟩:=qQ0;apply qz;walk_at"d"
 refine dM (λp:Mk×Rat=>PyData.tuple [eJ p.1,fr p.2]) fr (λp:Mk×Rat=>[(p.1.2.2:Rat)*p.2]) (e.zip (eK e d)) (by rw[List.length_zip];have:=z.len;lia) (λQ h=>by
   walk_at"d"
   refine⟨e,d,rfl,by have:=z.len;lia,z.hOk,z.rOk,?_⟩
   walk_at"d"
   refine⟨dE _,?_⟩
   rw[dG];exact h) (λp o N q r=>?_) ?_
 ·have:=lJ (p:=λm=>m∈e) (λ_ h=>h) z.missOk p o;walk_at"d";refine⟨(p.1.2.2:Rat),p.2,rfl,z.wOk this.1,this.2,?_⟩;walk_at"d";exact r
 ·rw[bO,jI (λ(m:Mk) x=>(m.2.2:Rat)*x)];exact k
noncomputable def sN:List Str:=["far","sum","square"]
noncomputable def Ic:List {x:Str//PyData.strOk x=true}:=[⟨"far",by decide +kernel⟩,⟨"sum",by decide +kernel⟩,⟨"square",by decide +kernel⟩]
theorem Cq{a:Str}(h:PyData.strOk a=true):(⟨a,h⟩:{x:Str//PyData.strOk x=true})∈Ic↔a∈sN:=by
 simp[Ic,sN,Subtype.ext_iff]
noncomputable def Fz(C:Addr):DW:=λb Q X=>∃d:PyData,b=[d]/\(∀a:Str,d= .str a->PyData.strOk a=true)/\((∃a:Str,d= .str a/\a∈sN)->Q (.dat .none))/\((∀a:Str,d= .str a->a∉sN)->X C)
theorem Lw(T:Txt K mg A):FnOk P w K mg base (eV P w) 1 A.a_qo A.d_qo ["kind"] (fD K (Fz A.x_NoKind)):=by
 refine gH T.F_qo Kr (λg Q E h=>?_) (λi l outer s H E f=>?_)
 ·obtain⟨_,rfl,_⟩:=h;rfl
 refine⟨_,(aT (cZ (PW.pt (Eg (zB (jD (cL (Mg (K:=K) rfl) rfl T.n_isinstance nM (aA (pv 0) (aA (Cd rfl T.n_str Jg (show RelV (.ty "str") (.type "str")from rfl)) aF))))) (yY (bR (Ci (K:=K) rfl f.units) (pv 0) (kD rfl T.c_KINDS (show RelV (.ref _) (.ref _)from rfl)) rfl)))) (aT (hU T.x_NoKind f.hd gA rfl (aA fB aF))) bV)),_,(cY (Dy (yL (tT (aB (Im (by decide) (aE 0))))) (bQ (aB (aU xK (aE 0) (aB (sR T.k_KINDS)))))) (gX (aO fC bH) (by decide)) bU),?_⟩;intro g Q X qQ0;refine qq λqz=>?_;obtain⟨d,rfl,ok,k1,k2⟩:=qQ0;apply qz;have j:(∀a:Str,d≠ .str a)->X A.x_NoKind:=λh=>k2 λa e=>absurd e (h a);cases d with
 |str a=>
  walk_at"d";refine⟨_,Pc,⟨a,ok a rfl⟩,Ic,rfl,rfl,λb c=>?_⟩;rw[Cq]at c;cases b with
  |true=>
   walk_at"d";exact k1 ⟨a,rfl,c.mp rfl⟩
  |false=>
   walk_at"d";refine k2 λk e h=>?_;cases e;exact absurd (c.mpr h) (by decide)
 |_=>exact j λ_=>by simp
noncomputable def Dx(C:Addr):DW:=λf Q X=>∃(d:PyData)(e:List Mk)(a:List Rat)(L B W l b g:Nat),f=[d,.list (e.map eJ),.list (a.map fr)]/\MSz L B W l b g e a/\e≠[]/\a.length=e.length/\(∀c:Str,d= .str c->PyData.strOk c=true)/\
 (∀c:Str,d= .str c->c∈sN->Q (.dat (fr (mJ c e a))))/\((∀c:Str,d= .str c->c∉sN)->X C)
theorem Lu(T:Txt K mg A):FnOk P w K mg base (eV P w) 6 A.a_qq A.d_qq ["kind","marks","row"] (fD K (Dx A.x_NoKind)):=by
 have t:=Lw (P:=P) (w:=w) (base:=base) T;have u:=vO (P:=P) (w:=w) (base:=base) T;have v:=Lv (P:=P) (w:=w) (base:=base) T;have y:=El (P:=P) (w:=w) (base:=base) T;have g:=vP (P:=P) (w:=w) (base:=base) T;have j:=Em (P:=P) (w:=w) (base:=base) T;have C:=lE (P:=P) (w:=w) (base:=base) T;refine gH T.F_qq sc_qq (λY Q E h=>?_) (λZ Ar outer s H E f=>?_)
 ·refine qq λqz=>?_;obtain⟨_,_,_,_,_,_,_,_,_,rfl,_⟩:=h;apply qz;rfl
 refine⟨_,(aH (kC (aK t (f.mono (by decide)) rfl T.m_qo T.F_qo.kp T.b_qo .nil gA (aA (pv 0) aF)))
   (aH (aY (i:=3) sc_qq.nd rfl (Or.inl rfl) (aK u (f.mono (by decide)) rfl T.m_qn T.F_qn.kp T.b_qn .nil aP (aA (pv 1) (aA (pv 2) aF))))
   (aH (cZ (bR fF (pv 0) fB (bY _)) (aT (bI (aK y (f.mono (by decide)) rfl T.m_qj T.F_qj.kp T.b_qj .nil aP (aA (hV (cap:=[none]) (NC:=["miss"]) rfl ⟨rfl,rfl,by decide +kernel,by decide +kernel,trivial,(λ_ h=>nomatch h),rfl⟩ (jE (K:=K) rfl (pv 3)) (λ_ _ _ _=>(aZ (i:=0) (show List.Nodup (["miss"]:List Str) by decide) rfl (Or.inl rfl))) (λ_ _ _ _=>dB) (λ_ _ _ _=>(aK j (f.mono (by decide)) rfl T.m_qh T.F_qh.kp T.b_qh .nil aP (aA (pv 0) aF)))) aF)))) bV)
   (aH (aY (i:=4) sc_qq.nd rfl (Or.inl rfl) (aK v (f.mono (by decide)) rfl T.m_qp T.F_qp.kp T.b_qp .nil aP (aA (pv 1) (aA (pv 2) aF))))
   (aH (cZ (bR fF (pv 0) fB (bY _)) (aT (bI (aK g (f.mono (by decide)) rfl T.m_qi T.F_qi.kp T.b_qi .nil aP (aA (hV (cap:=[none]) (NC:=["one"]) rfl ⟨rfl,rfl,by decide +kernel,by decide +kernel,trivial,(λ_ h=>nomatch h),rfl⟩ (jE (K:=K) rfl (pv 4)) (λ_ _ _ _=>(aZ (i:=0) (show List.Nodup (["one"]:List Str) by decide) rfl (Or.inl rfl))) (λ_ _ _ _=>dB) (λ_ _ _ _=>(aK j (f.mono (by decide)) rfl T.m_qh T.F_qh.kp T.b_qh .nil aP (aA (pv 0) aF)))) aF)))) bV)
   (aT (bI (aK g (f.mono (by decide)) rfl T.m_qi T.F_qi.kp T.b_qi .nil aP (aA (hV (cap:=[none,none]) (NC:=["one","miss"]) rfl ⟨rfl,rfl,by decide +kernel,by decide +kernel,trivial,(λ_ h=>nomatch h),rfl⟩ (fO (K:=K) rfl rfl T.n_zip (aA (pv 4) (aA (pv 3) aF))) (λ_ _ _ _=>(iS (K:=K) (n:=2) rfl rfl (bD (aZ (i:=0) (show List.Nodup (["one","miss"]:List Str) by decide) rfl (Or.inl rfl)) (bD (aZ (i:=1) (show List.Nodup (["one","miss"]:List Str) by decide) rfl (Or.inl rfl)) cW)))) (λ_ _ _ _=>dB) (λ_ _ _ _=>(aK C (f.mono (by decide)) rfl T.m_qe T.F_qe.kp T.b_qe .nil aP (aA (pv 0) (aA (pv 1) aF))))) aF))))))))),_,(aQ (Bs (aB (De (aC (aE 0) aM))))
   (aQ (cE 3 (cK (aC (aE 1) (aC (aE 2) aM))))
   (aQ (cY (bQ (aB (aU fE (aE 0) (aB fC)))) (cC (aB (aL (aC (aB (dJ (eI (fH (bL 3)) (aJ 0) dU (aL (aC (aE 0) aM)) (by decide) (by decide)))) aM)))) bU)
   (aQ (cE 4 (cK (aC (aE 1) (aC (aE 2) aM))))
   (aQ (cY (bQ (aB (aU fE (aE 0) (aB fC)))) (cC (aB (aL (aC (aB (dJ (eI (fH (bL 4)) (aJ 0) dU (aL (aC (aE 0) aM)) (by decide) (by decide)))) aM)))) bU)
   (cC (aB (aL (aC (aB (dJ (eI (gO (bL 4) (bL 3)) (dZ (bJ (aJ 0) (bJ (aJ 1) dR))) dU (aL (aC (aE 0) (aC (aE 1) aM))) (by decide) (by decide)))) aM))))))))),?_⟩
 intro Y Q X qQ0;refine qq λqz=>?_;obtain⟨d,ms,row,L,B,W,l,b,wd,rfl,z,G,a0,ok,k,kx⟩:=qQ0;apply qz;have zl:=z.len;walk_at"s";refine⟨d,rfl,ok,?_,kx⟩;intro qQ0;refine qq λqz=>?_;obtain⟨o,rfl,I⟩:=qQ0;apply qz;have r:=k o rfl I;walk_at"s";refine⟨ms,row,rfl,by lia,z.hOk,z.rOk,?_⟩;walk_at"d";refine⟨dE _,?_⟩;walk_at"s";have J:(eK ms row).length=ms.length:=by unfold eK;rw[List.length_zipWith];lia
 refine fG (λc=>?_) (λc=>?_)
 ·have M:o="far":=c;subst M;have e:mJ "far" ms row=lH ((eK ms row).map bM):=by unfold mJ;rw[if_pos rfl]
  rw[e]at r;walk_at"d";refine dM fr fr (λq:Rat=>[bM q]) (eK ms row) (by lia) (λQ h=>h) (λq m N D F=>?_) ?_
  ·walk_at"d";refine⟨q,rfl,?_⟩;walk_at"d";exact F
  rw[bO];refine⟨(eK ms row).map bM,rfl,λq m=>?_,λh0=>?_,λq m O=>?_⟩
  ·obtain⟨x,R,rfl⟩:=List.mem_map.mp m;have:=z.missOk x R;exact⟨by rw[fA];have:=this.n;unfold Wee at *;lia,this.d⟩
  ·have:=congrArg List.length h0;rw[List.length_map,J]at this;exact absurd (List.length_eq_zero_iff.mp this) G
  ·have S:0<=q:=by
    obtain⟨x,_,rfl⟩:=List.mem_map.mp m;exact iQ x
   rw[Ck S (.inr m) O];walk_at"d";exact r
 have nk:o≠"far":=c;walk_at"s";refine⟨ms,row,L,B,W,l,b,wd,rfl,z,?_⟩;walk_at"d";refine⟨dE _,?_⟩;walk_at"s";have a1:=iY (ms:=ms) (row:=row);refine fG (λc=>?_) (λc=>?_)
 ·have M:o="sum":=c;subst M;have e:mJ "sum" ms row=tot ((dS ms row).map bM):=by unfold mJ;rw[if_neg (by decide),if_pos rfl]
  rw[e]at r;walk_at"d";refine dM fr fr (λq:Rat=>[bM q]) (dS ms row) (by lia) (λQ h=>h) (λq m N D F=>?_) ?_
  ·walk_at"d";refine⟨q,rfl,?_⟩;walk_at"d";exact F
  rw[bO];refine⟨(dS ms row).map bM,rfl,λq m=>?_,z.sumOk,?_⟩
  ·obtain⟨x,R,rfl⟩:=List.mem_map.mp m;have:=z.wmissOk x R;exact⟨by rw[fA];have:=this.n;unfold Wee at *;lia,this.d⟩
  ·walk_at"d";exact r
 ·have U:o≠"sum":=c;have e:mJ o ms row=tot (yS ms row):=by unfold mJ;rw[if_neg nk,if_neg U]
  rw[e]at r;walk_at"d"
  refine dM (λp:Rat×Rat=>PyData.tuple [fr p.1,fr p.2]) fr (λp:Rat×Rat=>[p.1*p.2]) ((dS ms row).zip (eK ms row)) (by rw[List.length_zip];lia) (λQ h=>by
    walk_at"d"
    rw[dG];exact h) (λp hp N D F=>?_) ?_
  ·have:=lJ z.wmissOk z.missOk p hp;walk_at"d";refine⟨p.1,p.2,rfl,this.1,this.2,?_⟩;walk_at"d";exact F
  rw[bO,jI (λa b:Rat=>a*b)];refine⟨yS ms row,rfl,z.sqOk,z.sqsOk,?_⟩;walk_at"d";exact r
end
noncomputable abbrev Pr:=Rat×Rat
noncomputable def vL(z:Pr):PyData:=.tuple [fr z.1,fr z.2]
theorem rV:∀a:List Pr,eS (a.map vL)=true
 |[]=>rfl
 |z::a=>by
  have:=rV a;simp only[List.map_cons,eS,vL,mM,fr,this,Bool.and_self]
noncomputable def Fq(c:List Pr):Prop:=c.Pairwise λa b=>a.1<=b.1
noncomputable def eM(a:List Pr)(p:Rat):Nat:=(a.flatMap λz=>if z.1<p then[z]else[]).length
theorem mU(a b:List Pr)(p:Rat):eM (a++b) p=eM a p+eM b p:=by
 unfold eM;rw[List.flatMap_append,List.length_append]
theorem Ay{a:List Pr}{p:Rat}(h:∀z∈a,z.1<p):eM a p=a.length:=by
 induction a with
 |nil=>rfl
 |cons m a b=>
  have e:eM (m::a) p=eM [m] p+eM a p:=mU [m] a p;have c:eM [m] p=1:=by unfold eM;simp[h m List.mem_cons_self]
  rw[e,c,b λx d=>h x (List.mem_cons_of_mem _ d),List.length_cons]
  lia
theorem xY{a:List Pr}{p:Rat}(h:∀z∈a,¬z.1<p):eM a p=0:=by
 induction a with
 |nil=>rfl
 |cons m a b=>
  have e:eM (m::a) p=eM [m] p+eM a p:=mU [m] a p;have c:eM [m] p=0:=by unfold eM;simp[h m List.mem_cons_self]
  rw[e,c,b λx d=>h x (List.mem_cons_of_mem _ d)]
theorem nR(p:Rat):∀{f:List Pr},Fq f->∃a b,f=a++b/\(∀z∈a,z.1<p)/\(∀z∈b,¬z.1<p)
 |[],_=>⟨[],[],rfl,(λ_ h=>nomatch h),λ_ h=>nomatch h⟩
 |m::i,h=>by
  have g:=List.pairwise_cons.mp h;by_cases c:m.1<p
  ·refine qq λqz=>?_;obtain⟨a,b,e,j,k⟩:=nR p g.2;apply qz;refine⟨m::a,b,by rw[e];rfl,λx d=>?_,k⟩;rcases List.mem_cons.mp d with rfl|d
   ·exact c
   ·exact j x d
  ·refine⟨[],m::i,rfl,(λ_ h=>nomatch h),λx d=>?_⟩;rcases List.mem_cons.mp d with rfl|d
   ·exact c
   ·have:=g.1 x d;grind
theorem uY{c:List Pr}(h:Fq c)(z:Pr):eM c z.1<=c.length/\Fq (c.take (eM c z.1)++z::c.drop (eM c z.1))/\(c.take (eM c z.1)++z::c.drop (eM c z.1)).Perm (c++[z]):=by
 refine qq λqz=>?_;obtain⟨a,b,e,g,i⟩:=nR z.1 h;apply qz;have k:eM c z.1=a.length:=by rw[e,mU,Ay g,xY i];rfl
 have l:c.take a.length=a:=by rw[e];simp
 have m:c.drop a.length=b:=by rw[e];simp
 rw[k,l,m];refine⟨by rw[e,List.length_append];lia,?_,?_⟩
 ·rw[e]at h;have f:=List.pairwise_append.mp h;refine List.pairwise_append.mpr ⟨f.1,List.pairwise_cons.mpr ⟨λy d=>Rat.not_lt.mp (i y d),f.2.1⟩,λx j y d=>?_⟩;rcases List.mem_cons.mp d with rfl|d
  ·have:=g x j;grind
  ·exact f.2.2 x j y d
 ·rw[e,List.append_assoc];exact List.Perm.append_left a (List.perm_append_comm (l₁:=[z]) (l₂:=b))
theorem fY{a b:List Rat}(h:a.Perm b):tot a=tot b:=by
 induction h with
 |nil=>rfl
 |cons x _ c=>simp only[tot,c]
 |swap x y l=>simp only[tot];grind
 |trans _ _ d e=>rw[d,e]
noncomputable def dD(p:Pr->Bool)(a:List Pr):Rat:=tot ((a.filter p).map (·.2))
theorem kH(p:Pr->Bool)(a b:List Pr):dD p (a++b)=dD p a+dD p b:=by
 unfold dD;rw[List.filter_append,List.map_append,lL]
theorem Ae{p:Pr->Bool}{a:List Pr}(h:∀z∈a,p z=true):dD p a=tot (a.map (·.2)):=by
 unfold dD;rw[List.filter_eq_self.mpr h]
theorem xV{p:Pr->Bool}{a:List Pr}(h:∀z∈a,¬p z=true):dD p a=0:=by
 unfold dD;rw[List.filter_eq_nil_iff.mpr h];rfl
theorem pA:∀{a:List Rat},(∀q∈a,0<=q)->0<=tot a
 |[],_=>Rat.le_refl
 |x::a,h=>by
  have c:=h x List.mem_cons_self;have d:=pA (a:=a) λq b=>h q (List.mem_cons_of_mem _ b);simp only[tot];grind
theorem Cy{p:Pr->Bool}{a:List Pr}(h:∀z∈a,0<=z.2):0<=dD p a:=pA λq b=>by
 obtain⟨z,c,rfl⟩:=List.mem_map.mp b;exact h z (List.mem_filter.mp c).1
theorem wF{p:Pr->Bool}:∀{a:List Pr},(∀z∈a,0<=z.2)->dD p a<=tot (a.map (·.2))
 |[],_=>Rat.le_refl
 |x::a,h=>by
  have b:=h x List.mem_cons_self;have f:=wF (p:=p) (a:=a) λq d=>h q (List.mem_cons_of_mem _ d);have e:dD p (x::a)=dD p [x]+dD p a:=kH p [x] a;have g:dD p [x]<=x.2:=by
   unfold dD;by_cases c:p x=true
   ·simp[c,tot];grind
   ·simp[c,tot];exact b
  rw[e];simp only[List.map_cons,tot];grind
theorem oM{p:Pr->Bool}{a b:List Pr}(h:a.Perm b):dD p a=dD p b:=fY ((h.filter p).map _)
structure Mid(zs:List Pr)(x:Rat):Prop where
 mem:∃z∈zs,z.1=x
 lo:dD (λz=>decide (z.1<x)) zs+dD (λz=>decide (z.1<x)) zs<tot (zs.map (·.2))
 hi:tot (zs.map (·.2))<=dD (λz=>decide (z.1<=x)) zs+dD (λz=>decide (z.1<=x)) zs
theorem zO{f b:List Pr}{s:Nat}(j:Fq b)(g:b.Perm f)(m:∀z∈f,0<=z.2)(h:s<b.length)(r:tot ((b.take s).map (·.2))+tot ((b.take s).map (·.2))<tot (f.map (·.2)))
  (t:tot (f.map (·.2))<=tot ((b.take (s+1)).map (·.2))+tot ((b.take (s+1)).map (·.2))):Mid f b[s].1:=by
 have k:∀z∈b,0<=z.2:=λz d=>m z (g.mem_iff.mp d);refine⟨⟨b[s],g.mem_iff.mp (List.getElem_mem h),rfl⟩,?_,?_⟩
 ·rw[<-oM g];have e:=kH (λz=>decide (z.1<b[s].1)) (b.take s) (b.drop s);rw[List.take_append_drop]at e;have n:dD (λz=>decide (z.1<b[s].1)) (b.drop s)=0:=xV λz d=>by
   rw[List.drop_eq_getElem_cons h]at d;have l:Fq (b.drop s):=List.Pairwise.drop j;rw[List.drop_eq_getElem_cons h]at l;rcases List.mem_cons.mp d with rfl|d
   ·simp
   ·have:=(List.pairwise_cons.mp l).1 z d;simpa using Rat.not_lt.mpr this
  have o:=wF (p:=λz=>decide (z.1<b[s].1)) (a:=b.take s) λz d=>k z (List.mem_of_mem_take d);grind
 ·rw[<-oM g];have e:=kH (λz=>decide (z.1<=b[s].1)) (b.take (s+1)) (b.drop (s+1));rw[List.take_append_drop]at e;have n:=Cy (p:=λz=>decide (z.1<=b[s].1)) (a:=b.drop (s+1)) λz d=>k z (List.mem_of_mem_drop d);have o:dD (λz=>decide (z.1<=b[s].1)) (b.take (s+1))=tot ((b.take (s+1)).map (·.2)):=Ae λz d=>by
   refine qq λqz=>?_;obtain⟨i,q,rfl⟩:=List.getElem_of_mem d;apply qz;rw[List.getElem_take];rw[List.length_take]at q;by_cases c:i=s
   ·subst c;simp
   ·have:=List.pairwise_iff_getElem.mp j i s (by lia) h (by lia);simpa using this
  grind
section
variable{P:Program}{w:World}{K:PySem.W.Frag}{mg:Str->Option Value}{base:Heap}{A:Adr}
theorem uP{a:List Pr}{k:Int}{j:Nat}(e:k=(j:Int))(h:j<a.length):nF (a.map vL) k=some (vL a[j]):=by
 rw[Bc (xs:=a) vL (by lia) (by lia),e,Int.toNat_natCast];simp[h]
noncomputable def Fw:DW:=λd Q _=>∃a b:List Rat,d=[.list (a.map fr),.list (b.map fr)]/\a.length=b.length/\a.length<=60/\(∀q∈a,Ok q)/\∀c:List Pr,Fq c->c.Perm (a.zip b)->Q (.own (c.map vL))
theorem Lr(T:Txt K mg A):FnOk P w K mg base (eV P w) 2 A.a_qt A.d_qt ["some","weights"] (fD K Fw):=by
 have j:=sD (P:=P) (w:=w) (base:=base) T;refine gH T.F_qt sc_qt (λB Q E h=>?_) (λC W outer s H E D=>?_)
 ·obtain⟨_,_,rfl,_⟩:=h;rfl
 refine⟨_,(aH (aY (i:=2) sc_qt.nd rfl (Or.inl rfl) (dP aF))
   (aH (fN PassesOwn.leaving rfl (fO (K:=K) rfl rfl T.n_zip (aA (pv 0) (aA (pv 1) aF))) (iS (K:=K) (n:=2) rfl rfl (bD (aZ (i:=3) sc_qt.nd rfl (Or.inr rfl)) (bD (aZ (i:=4) sc_qt.nd rfl (Or.inl rfl)) cW)))
    (aH (aY (i:=5) sc_qt.nd rfl (Or.inl rfl) (cL (uH (K:=K) rfl) rfl T.n_len PySem.boot_len (aA (hV (cap:=[none,some 3]) (NC:=["pair","one"]) rfl ⟨rfl,rfl,by decide +kernel,by decide +kernel,⟨⟨_,rfl,rfl,rfl,rfl,rfl⟩,trivial⟩,(List.forall_mem_cons.2 ⟨rfl,(λ_ h=>nomatch h)⟩),rfl⟩ (jE (K:=K) rfl (pv 2)) (λ_ _ _ _=>(aZ (i:=0) (show List.Nodup (["pair","one"]:List Str) by decide) rfl (Or.inl rfl))) (λ_ _ _ _=>(vK (jD (aK j (D.mono (by decide)) rfl T.m_qg T.F_qg.kp T.b_qg .nil aP (aA (aX (bK (K:=K) rfl) (pv 0) aD (λ_ _=>rfl)) (aA (pv 1) aF)))))) (λ_ _ _ _=>(pv 0))) aF)))
   (aT (kC (vM PySem.F.plainAttrs_list PySem.F.slot_list_insert PySem.F.type_list_insert xP (pv 2) (aA (pv 5) (aA (cD (aA (pv 3) (aA (pv 4) aF))) aF)))))))
   (aT (bI (pv 2))))),_,(aQ (cE 2 (dQ bH (by decide)))
   (aQ (fL (zW (aN 0) (aN 1)) (dZ (bJ (aJ 3) (bJ (aJ 4) dR)))
    (aQ (bC (eY jC (aC (aB (dJ (eI (fH (bL 2)) (aJ 0) (tT (aB (aL (aC (aB (aW 0 (aN 0))) (aC (aE 1) aM))))) (aN 0) (by decide) (by decide)))) aM)) (aJ 5))
   (Ge 2 (aE 5) (cH (aO (aN 3) (aO (aN 4) bH)) (by decide)))))
   (eA 2))),?_⟩
 intro B Q X qQ0;refine qq λqz=>?_;obtain⟨e,f,rfl,Y,F,G,k⟩:=qQ0;apply qz;have Z:(e.zip f).length<=60:=by rw[List.length_zip];lia
 have u:∀z∈e.zip f,Ok z.1:=λz h=>G _ (List.of_mem_zip (a:=z.1) (b:=z.2) h).1;walk_at"s"
 refine dO (eU (λz:Pr=>PyData.tuple [fr z.1,fr z.2]) (e.zip f) (λQ h=>by
   walk_at"d"
   rw[dG];exact h)
  (λi m=>∃(d:List Pr)(o p q:Option Sl),m=[some (.dat (.list (e.map fr))),some (.dat (.list (f.map fr))),some (.own (d.map vL)),o,p,q]/\Fq d/\d.Perm ((e.zip f).take i))
  ⟨[],_,_,_,rfl,List.Pairwise.nil,.nil⟩ ?_ ?_)
 ·intro i z m v qQ0;refine qq λqz=>?_;obtain⟨d,o,p,q,rfl,r,g⟩:=qQ0;apply qz;have pl:d.length<=60:=by have:=g.length_eq;rw[List.length_take]at this;lia
  have I:∀x∈d,Ok x.1:=λx J=>u x (List.mem_of_mem_take (g.mem_iff.mp J));have M:=u z (List.mem_of_getElem? v);refine qq λqz=>?_;obtain⟨h1,O,R⟩:=uY r z;apply qz;have t:(d.take (eM d z.1)++z::d.drop (eM d z.1)).Perm ((e.zip f).take (i+1)):=by
   rw[eF v];exact R.trans (g.append_right [z])
  walk_at"s";refine dM vL vL (λx:Pr=>if x.1<z.1 then[x]else[]) d (by lia) (λQ h=>h) (λx h N S l=>?_) ?_
  ·walk_at"d";refine⟨x.1,z.1,rfl,I x h,M,?_⟩;walk_at"d";by_cases c:x.1<z.1
   ·rw[if_pos c];rw[if_pos c]at l;exact l
   ·rw[if_neg c];rw[if_neg c]at l;simpa using l
  have y:((d.flatMap λx:Pr=>if x.1<z.1 then[x]else[]).map vL).length=eM d z.1:=by rw[List.length_map];rfl
  generalize (d.flatMap λx:Pr=>if x.1<z.1 then[x]else[])=L at *
  walk_at"d";rw[List.length_map]at y;rw[y];have U:List.take (eM d z.1) (d.map vL)++PyData.tuple [fr z.1,fr z.2]::List.drop (eM d z.1) (d.map vL)=(d.take (eM d z.1)++z::d.drop (eM d z.1)).map vL:=by
   rw[List.map_append,List.map_cons,List.map_take,List.map_drop];rfl
  rw[Int.toNat_natCast,U];exact⟨by lia,by lia,by lia,_,_,_,_,rfl,O,t⟩
 ·intro m qQ0;refine qq λqz=>?_;obtain⟨d,o,p,q,rfl,r,g⟩:=qQ0;apply qz;walk_at"d";rw[List.take_of_length_le (Nat.le_refl _)]at g;exact k d r g
theorem vA:∀{a:List Rat},a≠[]->(∀q∈a,0<q)->0<tot a
 |[],h,_=>absurd rfl h
 |x::a,_,h=>by
  have c:=h x List.mem_cons_self;have d:=pA (a:=a) λq b=>by have:=h q (List.mem_cons_of_mem _ b);grind
  simp only[tot];grind
noncomputable def Bn:DW:=λc Q _=>∃(a b:List Rat)(L:Nat),c=[.list (a.map fr),.list (b.map fr)]/\0<L/\L<=10^120/\a.length=b.length/\1<=a.length/\a.length<=60/\(∀q∈a,Ok q)/\(∀v∈b,0<v/\Cm L (10^220) v)/\∀x:Rat,Mid (a.zip b) x->Q (.dat (fr x))
theorem Ek(T:Txt K mg A):FnOk P w K mg base (eV P w) 4 A.a_qs A.d_qs ["some","weights"] (fD K Bn):=by
 have t:=sD (P:=P) (w:=w) (base:=base) T;have u:=Lr (P:=P) (w:=w) (base:=base) T;have x:=vP (P:=P) (w:=w) (base:=base) T;have n:=oD (P:=P) (w:=w) (base:=base) T;refine gH T.F_qs sc_qs (λS Q E h=>?_) (λU Ar outer s H E y=>?_)
 ·obtain⟨_,_,_,rfl,_⟩:=h;rfl
 refine⟨_,(aH (aY (i:=2) sc_qs.nd rfl (Or.inl rfl) (aK u (y.mono (by decide)) rfl T.m_qt T.F_qt.kp T.b_qt .nil aP (aA (pv 0) (aA (pv 1) aF))))
   (aH (aY (i:=3) sc_qs.nd rfl (Or.inl rfl) (aK x (y.mono (by decide)) rfl T.m_qi T.F_qi.kp T.b_qi .nil aP (aA (pv 1) aF)))
   (aH (aY (i:=4) sc_qs.nd rfl (Or.inl rfl) aD)
   (aH (aY (i:=5) sc_qs.nd rfl (Or.inl rfl) (aX (bK (K:=K) rfl) (aX (iB (K:=K) rfl) (pv 2) aD (λ_ _=>rfl)) aD (λ_ _=>rfl)))
   (aH (mE PassesOwn.leaving (jD (aK t (y.mono (by decide)) rfl T.m_qg T.F_qg.kp T.b_qg .nil aP (aA (aK n (y.mono (by decide)) rfl T.m_qc T.F_qc.kp T.b_qc .nil aP (aA (pv 5) (aA (pv 5) aF))) (aA (pv 3) aF)))) (aH (aY (i:=4) sc_qs.nd rfl (Or.inl rfl) (aV cR (pv 4) aD))
   (aT (aY (i:=5) sc_qs.nd rfl (Or.inl rfl) (aK n (y.mono (by decide)) rfl T.m_qc T.F_qc.kp T.b_qc .nil aP (aA (pv 5) (aA (aX (bK (K:=K) rfl) (aX (iB (K:=K) rfl) (pv 2) (pv 4) (λ_ _=>rfl)) aD (λ_ _=>rfl)) aF)))))))
   (aT (bI (aX (bK (K:=K) rfl) (aX (iB (K:=K) rfl) (pv 2) (pv 4) (λ_ _=>rfl)) aD (λ_ _=>rfl))))))))),_,(aQ (cE 2 (cK (aC (aE 0) (aC (aE 1) aM))))
   (aQ (bC (aL (aC (aE 1) aM)) (aJ 3))
   (aQ (bC aI (aJ 4))
   (aQ (bC (aW 1 (dW (bL 2) (aB aI))) (aJ 5))
   (aQ (lX (tT (aB (aL (aC (aB (aL (aC (aE 5) (aC (aE 5) aM)))) (aC (aE 3) aM))))) (aQ (bC (aU cN (aE 4) (aB aI)) (aJ 4))
   (bC (aL (aC (aE 5) (aC (aB (aW 1 (dW (bL 2) (aE 4)))) aM))) (aJ 5))))
   (cC (aB (aW 0 (dW (bL 2) (aE 4)))))))))),?_⟩
 intro S Q X qQ0;refine qq λqz=>?_;obtain⟨qs,f,L,rfl,L0,L1,M,n1,D,W,r,k⟩:=qQ0;apply qz;have o:∀{l:List Rat},l.length<=60->(∀v∈l,Cm L (10^220) v)->Dg 343 (tot l):=λ{l} Y Z=>by
  have h:=Cm.tot (qs:=l) (L:=L) (B:=10^220) Z;refine h.dg L0 (l:=120) L1 (b:=222) ?_;exact Nat.le_trans (Nat.mul_le_mul_right _ Y) (by decide +kernel)
 walk_at"s";refine⟨qs,f,rfl,M,D,W,λd up F=>?_⟩;have pl:d.length=qs.length:=by rw[F.length_eq,List.length_zip];lia
 have p:(qs.zip f).map (·.2)=f:=List.map_snd_zip (by lia);have N:(d.map (·.2)).Perm f:=by rw[<-p];exact F.map _
 have pv:∀v∈d.map (·.2),0<v/\Cm L (10^220) v:=λv h=>r v (N.mem_iff.mp h);have q:∀s,Dg 343 (tot ((d.take s).map (·.2))):=λs=>o (by rw[List.length_map,List.length_take];lia) λv h=>by
  rw[List.map_take]at h;exact(pv v (List.mem_of_mem_take h)).2
 have G:Dg 343 (tot f):=o (by lia) λv h=>(r v h).2;have C:0<tot f:=vA (λe=>by rw[e,List.length_nil]at M;lia) λv h=>(r v h).1;walk_at"d";refine⟨rV _,?_⟩;walk_at"s";refine⟨f,rfl,λv h=>cP ((r v h).2.dg L0 (l:=120) L1 (b:=220) (Nat.le_refl _)) (by decide),λi=>cP (o (by rw[List.length_take];lia) λv h=>(r v (List.mem_of_mem_take h)).2) (by decide),?_⟩;walk_at"s";walk_at"s";refine⟨_,uP (j:=0) rfl (by lia),?_⟩;walk_at"s";have s1:tot ((d.take 1).map (·.2))=d[0].2:=by
  rw[eF (List.getElem?_eq_getElem (show 0<d.length by lia))];simp[tot,Rat.add_zero]
 refine⟨λm O=>∃s:Nat,s<d.length/\m=d.length-s/\O=[some (.dat (.list (qs.map fr))),some (.dat (.list (f.map fr))),some (.own (d.map vL)),some (.dat (fr (tot f))),some (.dat (.int (s:Int))),some (.dat (fr (tot ((d.take (s+1)).map (·.2)))))]/\tot ((d.take s).map (·.2))+tot ((d.take s).map (·.2))<tot f,⟨_,0,by lia,rfl,by rw[s1];rfl,by simpa[tot,Rat.add_zero]using C⟩,?_⟩;intro m O qQ0;refine qq λqz=>?_;obtain⟨s,R,rfl,rfl,I⟩:=qQ0;apply qz;have J:=cP (q (s+1)) (by decide);have d2:Dg 687 (tot ((d.take (s+1)).map (·.2))+tot ((d.take (s+1)).map (·.2))):=(q (s+1)).add (q (s+1));walk_at"d";refine⟨_,_,rfl,J,J,?_⟩;walk_at"d";refine⟨_,_,rfl,cP d2 (by decide),cP G (by decide),?_⟩;walk_at"d";refine fG (λc=>?_) (λc=>?_)
 ·have g:s+1<d.length:=Decidable.not_not.mp λz=>by
   rw[List.take_of_length_le (by lia),fY N]at c;grind
  walk_at"s";refine⟨_,uP (j:=s+1) (by lia) g,?_⟩;have ov:Ok d[s+1].2:=cP ((pv _ (List.mem_map.mpr ⟨_,List.getElem_mem g,rfl⟩)).2.dg L0 (l:=120) L1 (b:=220) (Nat.le_refl _)) (by decide);refine⟨_,_,rfl,J,ov,?_⟩;walk_at"d";refine⟨d.length-(s+1),by lia,s+1,g,rfl,?_,c⟩;rw[eF (List.getElem?_eq_getElem g),List.map_append,lL];simp[tot,Rat.add_zero]
 ·walk_at"d";refine⟨_,uP (j:=s) rfl R,?_⟩;refine k _ (zO up F (λz hz=>?_) R ?_ ?_)
  ·have:=(r z.2 (List.of_mem_zip (a:=z.1) (b:=z.2) hz).2).1;grind
  ·rw[p];exact I
  ·rw[p];exact Rat.not_lt.mp c
end
noncomputable def rJ(a:List Pr)(b:Rat):Rat:=tot (a.map λz=>z.2*bM (z.1-b))
theorem iO(p:Pr->Bool)(z:Pr)(a:List Pr):dD p (z::a)=(if p z=true then z.2 else 0)+dD p a:=by
 have e:dD p (z::a)=dD p [z]+dD p a:=kH p [z] a;rw[e];by_cases c:p z=true
 ·rw[if_pos c];simp[dD,c,tot,Rat.add_zero]
 ·rw[if_neg c];simp[dD,c,tot]
theorem Aw{x b:Rat}(a:x<=b):∀{zs:List Pr},(∀z∈zs,0<=z.2)->rJ zs x+(b-x)*(dD (λz=>decide (z.1<=x)) zs+dD (λz=>decide (z.1<=x)) zs-tot (zs.map (·.2)))<=rJ zs b
 |[],_=>by simp[rJ,dD,tot];grind
 |z::zs,h=>by
  have i:=Aw a (zs:=zs) λy f=>h y (List.mem_cons_of_mem _ f);have g:=h z List.mem_cons_self;have d:∀t,rJ (z::zs) t=z.2*bM (z.1-t)+rJ zs t:=λt=>rfl;rw[d,d,iO,List.map_cons,tot];generalize dD (λz=>decide (z.1<=x)) zs=F at *
  generalize tot (zs.map (·.2))=W at *
  by_cases c:z.1<=x
  ·rw[if_pos (by simpa using c),dN (show z.1-x<=0 by grind),dN (show z.1-b<=0 by grind)];grind
  ·rw[if_neg (by simpa using c),cQ (show 0<=z.1-x by grind)];have j:z.1-b<=bM (z.1-b):=by rcases dX (z.1-b)with⟨_,e⟩|⟨_,e⟩ <;>rw[e] <;>grind
   have k:=Rat.mul_nonneg g (show 0<=bM (z.1-b)-(z.1-b) by grind);grind
theorem tG{x b:Rat}(a:b<=x):∀{zs:List Pr},(∀z∈zs,0<=z.2)->rJ zs x+(x-b)*(tot (zs.map (·.2))-(dD (λz=>decide (z.1<x)) zs+dD (λz=>decide (z.1<x)) zs))<=rJ zs b
 |[],_=>by simp[rJ,dD,tot];grind
 |z::zs,h=>by
  have i:=tG a (zs:=zs) λy f=>h y (List.mem_cons_of_mem _ f);have g:=h z List.mem_cons_self;have d:∀t,rJ (z::zs) t=z.2*bM (z.1-t)+rJ zs t:=λt=>rfl;rw[d,d,iO,List.map_cons,tot];generalize dD (λz=>decide (z.1<x)) zs=F at *
  generalize tot (zs.map (·.2))=W at *
  by_cases c:z.1<x
  ·rw[if_pos (by simpa using c),dN (show z.1-x<=0 by grind)];have j:-(z.1-b)<=bM (z.1-b):=by rcases dX (z.1-b)with⟨_,e⟩|⟨_,e⟩ <;>rw[e] <;>grind
   have k:=Rat.mul_nonneg g (show 0<=bM (z.1-b)+(z.1-b) by grind);grind
  ·rw[if_neg (by simpa using c),cQ (show 0<=z.1-x by grind),cQ (show 0<=z.1-b by grind)];grind
theorem kT{c:List Pr}{x:Rat}(d:∀z∈c,0<=z.2)(M:Mid c x)(b:Rat):rJ c x<=rJ c b:=by
 rcases Rat.le_total (a:=x) (b:=b)with h|h
 ·have e:=Aw h d;have f:=Rat.mul_nonneg (show 0<=b-x by grind) (show 0<=dD (λz=>decide (z.1<=x)) c+dD (λz=>decide (z.1<=x)) c-tot (c.map (·.2)) by have:=M.hi;grind);grind
 ·have e:=tG h d;have f:=Rat.mul_nonneg (show 0<=x-b by grind) (show 0<=tot (c.map (·.2))-(dD (λz=>decide (z.1<x)) c+dD (λz=>decide (z.1<x)) c) by have:=M.lo;grind);grind
theorem kO(a b:Rat):bM (a*b)=bM a*bM b:=by
 rcases dX a with⟨c,e⟩|⟨c,e⟩ <;>rcases dX b with⟨d,f⟩|⟨d,f⟩ <;>rw[e,f]
 ·exact cQ (Rat.mul_nonneg c d)
 ·rw[dN (by have:=Rat.mul_nonneg c (show 0<=-b by grind);grind)];grind
 ·rw[dN (by have:=Rat.mul_nonneg (show 0<=-a by grind) d;grind)];grind
 ·rw[cQ (by have:=Rat.mul_nonneg (show 0<=-a by grind) (show 0<=-b by grind);grind)];grind
theorem nV:∀a:List Pr,∃b:List Pr,Fq b/\b.Perm a
 |[]=>⟨[],List.Pairwise.nil,.nil⟩
 |z::a=>by
  refine qq λqz=>?_;obtain⟨b,c,d⟩:=nV a;obtain⟨_,e,f⟩:=uY c z;apply qz;exact⟨_,e,f.trans ((d.append_right [z]).trans (List.perm_append_comm (l₁:=a) (l₂:=[z])))⟩
theorem oJ{f:Nat->Rat}{t:Rat}:∀{n:Nat},f 0<t->t<=f n->∃s,s<n/\f s<t/\t<=f (s+1)
 |0,a,h=>by grind
 |n+1,a,h=>by
  by_cases c:t<=f n
  ·refine qq λqz=>?_;obtain⟨s,e,b,d⟩:=oJ a c;apply qz;exact⟨s,by lia,b,d⟩
  ·exact⟨n,by lia,Rat.not_le.mp c,h⟩
theorem zQ{a:List Pr}(c:a≠[])(d:∀z∈a,0<z.2):∃x,Mid a x:=by
 obtain⟨b,g,e⟩:=nV a;have i:∀z∈a,0<=z.2:=λz h=>by have:=d z h;grind
 have r:0<tot (a.map (·.2)):=vA (by simpa using c) λq j=>by
  obtain⟨z,k,rfl⟩:=List.mem_map.mp j;exact d z k
 have l:tot (b.map (·.2))=tot (a.map (·.2)):=fY (e.map _);obtain⟨s,m,o,p⟩:=oJ (f:=λs=>tot ((b.take s).map (·.2))+tot ((b.take s).map (·.2))) (t:=tot (a.map (·.2))) (n:=b.length) (by simp[tot];grind) (by rw[List.take_length,l];grind);exact⟨_,zO g e i m o p⟩
theorem oN{p q:Pr->Bool}(h:∀z,p z=true->q z=true):∀{zs:List Pr},(∀z∈zs,0<=z.2)->dD p zs<=dD q zs
 |[],_=>Rat.le_refl
 |z::zs,a=>by
  have d:=oN h (zs:=zs) λy b=>a y (List.mem_cons_of_mem _ b);have e:=a z List.mem_cons_self;rw[iO,iO];by_cases c:p z=true
  ·rw[if_pos c,if_pos (h z c)];grind
  ·rw[if_neg c];split <;>grind
theorem zP{d:List Pr}{x y:Rat}(e:∀z∈d,0<=z.2)(a:Mid d x)(b:Mid d y):¬x<y:=λc=>by
 have g:=a.hi;have h:=b.lo
 have i:=oN (p:=λz:Pr=>decide (z.1<=x)) (q:=λz=>decide (z.1<y)) (λz f=>by
  have:=of_decide_eq_true f
  exact decide_eq_true (by grind)) e
 grind
theorem zR{c:List Pr}{x y:Rat}(d:∀z∈c,0<=z.2)(a:Mid c x)(b:Mid c y):x=y:=by
 have e:=zP d a b;have f:=zP d b a;grind
noncomputable def qR(a:List Pr):Rat:=Classical.epsilon (Mid a)
theorem gB{a:List Pr}(b:a≠[])(c:∀z∈a,0<z.2):Mid a (qR a):=Classical.epsilon_spec (zQ b c)
theorem vS{a:List Pr}{x:Rat}(b:∀z∈a,0<=z.2)(h:Mid a x):qR a=x:=zR b (Classical.epsilon_spec ⟨x,h⟩) h
noncomputable abbrev Ln:=Rat×Rat
noncomputable def rr(l:Ln)(m:Mk):Rat:=m.2.1-(l.1+l.2*m.1)
noncomputable def FS(a:List Mk)(l:Ln):Rat:=tot (a.map λm=>(m.2.2:Rat)*bM (rr l m))
theorem rH(m:Mk)(a:List Mk)(l:Ln):FS (m::a) l=(m.2.2:Rat)*bM (rr l m)+FS a l:=rfl
theorem zS{c:List Mk}(f:c≠[])(hw:∀m∈c,1<=m.2.2)(a b:Rat):∃m∈c,FS c (m.2.1-b*m.1,b)<=FS c (a,b):=by
 have e:∀t,rJ (c.map λm=>(m.2.1-b*m.1,(m.2.2:Rat))) t=FS c (t,b):=λt=>by
  unfold rJ FS rr;rw[List.map_map]
  congr 1
  refine List.map_congr_left λm _=>?_;show(m.2.2:Rat)*bM (m.2.1-b*m.1-t)=_
  congr 2
  grind
 have i:∀z∈c.map λm=>(m.2.1-b*m.1,(m.2.2:Rat)),0<z.2:=λz d=>by
  obtain⟨m,g,rfl⟩:=List.mem_map.mp d;exact Rat.intCast_pos.mpr (by have:=hw m g;lia)
 refine qq λqz=>?_;obtain⟨x,j⟩:=zQ (by simpa using f) i;obtain⟨z,d,k⟩:=j.mem;obtain⟨m,g,rfl⟩:=List.mem_map.mp d;apply qz;refine⟨m,g,?_⟩;have h:m.2.1-b*m.1=x:=k;rw[<-e,<-e,h];exact kT (λz d=>by have:=i z d;grind) j a
noncomputable def jF(a:List Mk)(m:Mk):List Mk:=a.filter λo=>decide (o.1≠m.1)
noncomputable def slp(m o:Mk):Pr:=((o.2.1-m.2.1)/(o.1-m.1),(o.2.2:Rat)*bM (o.1-m.1))
theorem fZ(m:Mk)(s:Rat):∀a:List Mk,(∀o∈a,o.1=m.1->o=m)->FS a (m.2.1-s*m.1,s)=rJ ((jF a m).map (slp m)) s
 |[],_=>rfl
 |o::a,h=>by
  have b:=fZ m s a λx d=>h x (List.mem_cons_of_mem _ d);rw[rH,b];unfold jF rr;by_cases c:o.1=m.1
  ·rw[List.filter_cons_of_neg (by simpa using c)];have:=h o List.mem_cons_self c;subst this;have e:o.2.1-(o.2.1-s*o.1+s*o.1)=0:=by grind
   rw[e,cQ Rat.le_refl];grind
  ·rw[List.filter_cons_of_pos (by simpa using c),List.map_cons];show _=(slp m o).2*bM ((slp m o).1-s)+rJ _ s
   congr 1
   unfold slp;dsimp only;have f:o.1-m.1≠0:=λz=>c (by grind);have g:(o.2.1-m.2.1)/(o.1-m.1)*(o.1-m.1)=o.2.1-m.2.1:=Rat.div_mul_cancel f;rw[Rat.mul_assoc,<-kO]
   congr 2
   generalize (o.2.1-m.2.1)/(o.1-m.1)=t at g⊢;grind
noncomputable def bP(a:List Mk)(m:Mk):Ln:=if jF a m=[]then(m.2.1,0)else(m.2.1-qR ((jF a m).map (slp m))*m.1,qR ((jF a m).map (slp m)))
theorem iJ{a:List Mk}{m:Mk}(hw:∀o∈a,1<=o.2.2):∀z∈(jF a m).map (slp m),0<z.2:=λz b=>by
 obtain⟨o,c,rfl⟩:=List.mem_map.mp b;obtain⟨d,f⟩:=List.mem_filter.mp c;have i:o.1≠m.1:=of_decide_eq_true f;have g:(0:Rat)<(o.2.2:Rat):=Rat.intCast_pos.mpr (by have:=hw o d;lia);have a0:0<bM (o.1-m.1):=by
  rcases dX (o.1-m.1)with⟨h,e⟩|⟨h,e⟩ <;>rw[e] <;>grind
 exact Rat.mul_pos g a0
theorem sI{a:List Mk}{m:Mk}(hw:∀o∈a,1<=o.2.2)(h:∀o∈a,o.1=m.1->o=m)(b:Rat):FS a (bP a m)<=FS a (m.2.1-b*m.1,b):=by
 unfold bP;by_cases c:jF a m=[]
 ·rw[if_pos c,fZ m b a h,c];have e:=fZ m 0 a h;rw[c,show m.2.1-0*m.1=m.2.1 by grind]at e;rw[e];exact Rat.le_refl
 ·rw[if_neg c,fZ m _ a h,fZ m b a h];have d:=iJ (m:=m) hw;exact kT (λz f=>by have:=d z f;grind) (gB (by simpa using c) d) b
noncomputable def gQ(a:List Mk):Ln->List Mk->Ln
 |b,[]=>b
 |b,m::A=>gQ a (if FS a (bP a m)<FS a b then bP a m else b) A
theorem mZ(a:List Mk):∀(b:Ln)(A:List Mk),FS a (gQ a b A)<=FS a b/\∀m∈A,FS a (gQ a b A)<=FS a (bP a m)
 |b,[]=>⟨Rat.le_refl,λ_ h=>nomatch h⟩
 |b,m::A=>by
  rw[gQ];by_cases c:FS a (bP a m)<FS a b
  ·rw[if_pos c];obtain⟨e,f⟩:=mZ a (bP a m) A;refine⟨by grind,λx d=>?_⟩;rcases List.mem_cons.mp d with rfl|d
   ·exact e
   ·exact f x d
  ·rw[if_neg c];obtain⟨e,f⟩:=mZ a b A;refine⟨e,λx d=>?_⟩;rcases List.mem_cons.mp d with rfl|d
   ·grind
   ·exact f x d
theorem lA(a:List Mk):∀(b:Ln)(A:List Mk),gQ a b A=b\/∃m∈A,gQ a b A=bP a m
 |b,[]=>.inl rfl
 |b,m::A=>by
  rw[gQ];by_cases c:FS a (bP a m)<FS a b
  ·rw[if_pos c];rcases lA a (bP a m) A with h|⟨x,d,h⟩
   ·exact .inr ⟨m,List.mem_cons_self,h⟩
   ·exact .inr ⟨x,List.mem_cons_of_mem _ d,h⟩
  ·rw[if_neg c];rcases lA a b A with h|⟨x,d,h⟩
   ·exact .inl h
   ·exact .inr ⟨x,List.mem_cons_of_mem _ d,h⟩
noncomputable def bW:List Mk->Ln
 |[]=>(0,0)
 |m::A=>gQ (m::A) (bP (m::A) m) A
theorem iP{a:List Mk}(b:a≠[]):∃m∈a,bW a=bP a m:=by
 cases a with
 |nil=>exact absurd rfl b
 |cons m A=>
  rcases lA (m::A) (bP (m::A) m) A with h|⟨x,c,h⟩
  ·exact⟨m,List.mem_cons_self,h⟩
  ·exact⟨x,List.mem_cons_of_mem _ c,h⟩
theorem uE{a:List Mk}(d:(a.map (·.1)).Nodup):∀m∈a,∀o∈a,o.1=m.1->o=m:=by
 induction a with
 |nil=>intro m h;exact nomatch h
 |cons x a f=>
  rw[List.map_cons,List.nodup_cons]at d;intro m g o i e;rcases List.mem_cons.mp g with b|b <;>rcases List.mem_cons.mp i with c|c
  ·rw[b,c]
  ·exact absurd (List.mem_map.mpr ⟨o,c,by rw[<-b];exact e⟩) d.1
  ·exact absurd (List.mem_map.mpr ⟨m,b,by rw[<-c];exact e.symm⟩) d.1
  ·exact f d.2 m b o c e
theorem uN{c:List Mk}(e:c≠[])(hw:∀o∈c,1<=o.2.2)(f:(c.map (·.1)).Nodup)(a b:Rat):FS c (bW c)<=FS c (a,b):=by
 obtain⟨m,d,i⟩:=zS e hw a b;have j:=sI (m:=m) hw (uE f m d) b;have k:FS c (bW c)<=FS c (bP c m):=by
  cases c with
  |nil=>exact nomatch d
  |cons x A=>
   obtain⟨g,h⟩:=mZ (x::A) (bP (x::A) x) A;rcases List.mem_cons.mp d with rfl|d
   ·exact g
   ·exact h m d
 grind
noncomputable def dv(r g:Mk->Rat)(m:Mk):Rat:=if 0<r m then -((m.2.2:Rat)*g m)else if r m<0 then(m.2.2:Rat)*g m else(m.2.2:Rat)*bM (g m)
theorem jB(r g:Mk->Rat):∀b:List Mk,∃t:Rat,0<t/\∀m∈b,r m≠0->t*bM (g m)<=bM (r m)
 |[]=>⟨1,by decide,λ_ h=>nomatch h⟩
 |m::b=>by
  obtain⟨t,i,d⟩:=jB r g b;by_cases c:r m=0\/t*bM (g m)<=bM (r m)
  ·refine⟨t,i,λx a h=>?_⟩;rcases List.mem_cons.mp a with rfl|a
   ·rcases c with c|c
    ·exact absurd c h
    ·exact c
   ·exact d x a h
  ·have c1:r m≠0:=λz=>c (.inl z);have c2:bM (r m)<t*bM (g m):=Rat.not_le.mp λz=>c (.inr z);have n:0<bM (r m):=by rcases dX (r m)with⟨h,e⟩|⟨h,e⟩ <;>rw[e] <;>grind
   have j:bM (g m)≠0:=λz=>by rw[z,Rat.mul_zero]at c2;grind
   have f:0<bM (g m):=by have:=iQ (g m);grind
   have k:bM (r m)/bM (g m)*bM (g m)=bM (r m):=Rat.div_mul_cancel j;have l:0<bM (r m)/bM (g m):=by
    refine Rat.not_le.mp λh=>?_;have:=Rat.mul_nonneg (show 0<=-(bM (r m)/bM (g m)) by grind) (Rat.le_of_lt f);grind
   have o:bM (r m)/bM (g m)<=t:=by
    refine Rat.not_lt.mp λz=>?_;have:=Rat.mul_pos (show 0<bM (r m)/bM (g m)-t by grind) f;grind
   refine⟨bM (r m)/bM (g m),l,λx a h=>?_⟩;rcases List.mem_cons.mp a with rfl|a
   ·rw[k];exact Rat.le_refl
   ·have p:=d x a h;have q:=Rat.mul_nonneg (show 0<=t-bM (r m)/bM (g m) by grind) (iQ (g x));grind
theorem mB{r g:Mk->Rat}{t:Rat}(a:0<t):∀{ms:List Mk},(∀m∈ms,r m≠0->t*bM (g m)<=bM (r m))->tot (ms.map λm=>(m.2.2:Rat)*bM (r m-t*g m))=tot (ms.map λm=>(m.2.2:Rat)*bM (r m))+t*tot (ms.map (dv r g))
 |[],_=>by simp[tot,Rat.mul_zero,Rat.add_zero]
 |m::ms,h=>by
  have i:=mB a (ms:=ms) λx j=>h x (List.mem_cons_of_mem _ j);have f:=h m List.mem_cons_self;rw[List.map_cons,List.map_cons,List.map_cons,tot,tot,tot,i];have b:(m.2.2:Rat)*bM (r m-t*g m)=(m.2.2:Rat)*bM (r m)+t*dv r g m:=by
   unfold dv;have k:∀y:Rat,t*y<=t*bM y/\-(t*y)<=t*bM y:=λy=>by
    rcases dX y with⟨h,e⟩|⟨h,e⟩ <;>rw[e]
    ·have:=Rat.mul_nonneg (Rat.le_of_lt a) h;exact⟨Rat.le_refl,by grind⟩
    ·have:=Rat.mul_nonneg (Rat.le_of_lt a) (show 0<=-y by grind);exact⟨by grind,by grind⟩
   obtain⟨a1,a2⟩:=k (g m);by_cases c:0<r m
   ·have d:=f (by grind);rw[cQ (Rat.le_of_lt c)]at d⊢;rw[if_pos c,cQ (by grind)];grind
   ·by_cases c2:r m<0
    ·have d:=f (by grind);rw[dN (Rat.le_of_lt c2)]at d⊢;rw[if_neg c,if_pos c2,dN (by grind)];grind
    ·have z:r m=0:=by grind
     rw[if_neg c,if_neg c2,z,cQ (q:=0) Rat.le_refl];have e:(0:Rat)-t*g m=(-t)*g m:=by grind
     rw[e,kO,dN (q:=-t) (by grind)];grind
  rw[b];grind
theorem Ip{d:List Mk}{l:Ln}(h:∀a b,FS d l<=FS d (a,b))(f g:Rat):0<=tot (d.map (dv (rr l) λm=>f+g*m.1)):=by
 obtain⟨t,i,j⟩:=jB (rr l) (λm=>f+g*m.1) d;have e:=mB i j;have k:=h (l.1+t*f) (l.2+t*g);have n:FS d (l.1+t*f,l.2+t*g)=tot (d.map λm=>(m.2.2:Rat)*bM (rr l m-t*(f+g*m.1))):=by
  unfold FS rr
  congr 1
  refine List.map_congr_left λm _=>?_
  congr 2
  grind
 have o:FS d l=tot (d.map λm=>(m.2.2:Rat)*bM (rr l m)):=rfl;rw[n,e,o]at k;refine Rat.not_lt.mp λc=>?_;have:=Rat.mul_pos i (show 0< -tot (d.map (dv (rr l) λm=>f+g*m.1)) by grind);grind
noncomputable def gF(r:Mk->Rat)(m:Mk):Int:=if 0<r m then m.2.2 else -m.2.2
noncomputable def cG(r:Mk->Rat):List Mk->Int
 |[]=>0
 |m::A=>gF r m+cG r A
noncomputable def gR(r:Mk->Rat):List Mk->Int
 |[]=>0
 |m::A=>(if r m=0 then m.2.2 else 0)+gR r A
noncomputable def nE(r:Mk->Rat)(left:Int)(m:Mk):Int:=if r m=0 then(if 2*m.2.2<left then 2*m.2.2 else left)else 0
noncomputable def jG(r:Mk->Rat):Int->List Mk->List Int
 |_,[]=>[]
 |left,m::A=>(gF r m+nE r left m)::jG r (left-nE r left m) A
noncomputable def tR(a:List Int):List Rat:=a.map λn:Int=>(n:Rat)
theorem oP(r:Mk->Rat):∀A:List Mk,(A.map (gF r)).sum=cG r A
 |[]=>rfl
 |m::A=>by rw[List.map_cons,List.sum_cons,oP r A,cG]
theorem qZ(r:Mk->Rat):∀(left:Int)(A:List Mk),(jG r left A).length=A.length
 |_,[]=>rfl
 |left,m::A=>by rw[jG,List.length_cons,qZ r,List.length_cons]
theorem tS{r:Mk->Rat}{left:Int}{m:Mk}(h:0<=left)(hw:1<=m.2.2):0<=nE r left m/\nE r left m<=left:=by
 unfold nE;split
 ·split <;>lia
 ·lia
theorem uT{r:Mk->Rat}:∀{A:List Mk},(∀m∈A,1<=m.2.2)->0<=gR r A
 |[],_=>Int.le_refl _
 |m::A,h=>by
  have b:=uT (r:=r) (A:=A) λx a=>h x (List.mem_cons_of_mem _ a);have:=h m List.mem_cons_self;rw[gR];split <;>lia
theorem qY(r:Mk->Rat):∀(left:Int)(A:List Mk),0<=left->(∀m∈A,1<=m.2.2)->(jG r left A).sum=cG r A+(if 2*gR r A<left then 2*gR r A else left)
 |left,[],h,_=>by
  have d:(jG r left []).sum=0:=rfl;have e:cG r []=0:=rfl;have g:gR r []=0:=rfl;rw[d,e,g];split <;>lia
 |left,m::A,h,hw=>by
  have i:=hw m List.mem_cons_self;have b:∀x∈A,1<=x.2.2:=λx j=>hw x (List.mem_cons_of_mem _ j);obtain⟨l,n⟩:=tS (r:=r) h i;have k:=qY r (left-nE r left m) A (by lia) b;have o:=uT (r:=r) b;rw[jG,List.sum_cons,k,cG,gR];have a:nE r left m=if r m=0 then(if 2*m.2.2<left then 2*m.2.2 else left)else 0:=rfl
  generalize gF r m=f at *
  generalize cG r A=F at *
  generalize gR r A=Z at *
  generalize nE r left m=u at *
  by_cases c:r m=0
  ·rw[if_pos c]at a⊢;split at a <;>split <;>split <;>lia
  ·rw[if_neg c]at a⊢;subst a;split <;>split <;>lia
noncomputable def Bi(r:Mk->Rat)(m:Mk)(p:Rat):Prop:=(0<r m->p=(m.2.2:Rat))/\(r m<0->p=-(m.2.2:Rat))/\-(m.2.2:Rat)<=p/\p<=(m.2.2:Rat)
noncomputable def FairL(r:Mk->Rat):List Mk->List Rat->Prop
 |[],[]=>True
 |m::A,p::a=>Bi r m p/\FairL r A a
 |_,_=>False
theorem FairL.len{r:Mk->Rat}:∀{A:List Mk}{a:List Rat},FairL r A a->a.length=A.length
 |[],[],_=>rfl
 |m::A,p::a,h=>by rw[List.length_cons,List.length_cons,FairL.len h.2]
theorem FairL.app{r:Mk->Rat}{B:List Mk}{qs:List Rat}(b:FairL r B qs):∀{A:List Mk}{a:List Rat},FairL r A a->FairL r (A++B) (a++qs)
 |[],[],_=>b
 |m::A,p::a,h=>⟨h.1,FairL.app b h.2⟩
theorem FairL.rev{r:Mk->Rat}:∀{A:List Mk}{a:List Rat},FairL r A a->FairL r A.reverse a.reverse
 |[],[],_=>trivial
 |m::A,p::a,h=>by
  rw[List.reverse_cons,List.reverse_cons];exact FairL.app (B:=[m]) (qs:=[p]) ⟨h.1,trivial⟩ (FairL.rev h.2)
theorem FairL.at{r:Mk->Rat}:∀{A:List Mk}{c:List Rat},FairL r A c->∀{i:Nat}{m:Mk}{p:Rat},A[i]? =some m->c[i]? =some p->Bi r m p
 |[],[],_,i,m,p,a,_=>by simp at a
 |m::A,p::c,h,0,d,e,a,b=>by
  simp at a b;subst a;subst b;exact h.1
 |m::A,p::c,h,i+1,d,e,a,b=>by
  simp at a b;exact FairL.at h.2 a b
theorem FairL.mix{r:Mk->Rat}{t:Rat}(e:0<=t)(i:t<=1):∀{A:List Mk}{f g:List Rat},FairL r A f->FairL r A g->FairL r A (List.zipWith (λa b=>a+t*(b-a)) f g)
 |[],[],[],_,_=>trivial
 |m::A,p::f,q::g,h,d=>by
  rw[List.zipWith_cons_cons];refine⟨⟨λc=>?_,λc=>?_,?_,?_⟩,FairL.mix e i h.2 d.2⟩
  ·rw[h.1.1 c,d.1.1 c];grind
  ·rw[h.1.2.1 c,d.1.2.1 c];grind
  ·have a1:=h.1.2.2.1;have j:=d.1.2.2.1;have:=Rat.mul_nonneg (show 0<=1-t by grind) (show 0<=p+(m.2.2:Rat) by grind);have:=Rat.mul_nonneg e (show 0<=q+(m.2.2:Rat) by grind);grind
  ·have a1:=h.1.2.2.2;have j:=d.1.2.2.2;have:=Rat.mul_nonneg (show 0<=1-t by grind) (show 0<=(m.2.2:Rat)-p by grind);have:=Rat.mul_nonneg e (show 0<=(m.2.2:Rat)-q by grind);grind
theorem kJ(r:Mk->Rat):∀(left:Int)(A:List Mk),0<=left->(∀m∈A,1<=m.2.2)->FairL r A (tR (jG r left A))
 |_,[],_,_=>trivial
 |left,m::A,h,hw=>by
  have a:=hw m List.mem_cons_self;obtain⟨e,f⟩:=tS (r:=r) h a;refine⟨?_,kJ r _ A (by lia) λx d=>hw x (List.mem_cons_of_mem _ d)⟩;have g:(1:Rat)<=(m.2.2:Rat):=Rat.intCast_le_intCast.mpr a;unfold nE gF;by_cases c:0<r m
  ·have c0:r m≠0:=by grind
   rw[if_pos c,if_neg c0,Int.add_zero];exact⟨λ_=>rfl,λz=>by grind,by grind,Rat.le_refl⟩
  ·rw[if_neg c];by_cases c0:r m=0
   ·rw[if_pos c0];have b:-m.2.2<=-m.2.2+(if 2*m.2.2<left then 2*m.2.2 else left)/\-m.2.2+(if 2*m.2.2<left then 2*m.2.2 else left)<=m.2.2:=by split <;>lia
    refine⟨λz=>absurd z c,λz=>by grind,?_,?_⟩
    ·rw[<-Rat.intCast_neg];exact Rat.intCast_le_intCast.mpr b.1
    ·exact Rat.intCast_le_intCast.mpr b.2
   ·rw[if_neg c0,Int.add_zero];refine⟨λz=>absurd z c,λ_=>Rat.intCast_neg _,?_,?_⟩
    ·show -(m.2.2:Rat)<=((-m.2.2:Int):Rat);rw[Rat.intCast_neg];exact Rat.le_refl
    ·show((-m.2.2:Int):Rat)<=(m.2.2:Rat);rw[Rat.intCast_neg];grind
noncomputable def fI(f:Mk->Rat)(A:List Mk)(a:List Rat):Rat:=tot (List.zipWith (λm p=>f m*p) A a)
theorem cM(f:Mk->Rat)(m:Mk)(A:List Mk)(p:Rat)(a:List Rat):fI f (m::A) (p::a)=f m*p+fI f A a:=rfl
theorem wI{r g:Mk->Rat}{m:Mk}(c:r m≠0):dv r g m=-(g m*(gF r m:Rat)):=by
 unfold dv gF;by_cases c1:0<r m
 ·rw[if_pos c1,if_pos c1];grind
 ·rw[if_neg c1,if_neg c1,if_pos (by grind),Rat.intCast_neg];grind
theorem Ah{r g:Mk->Rat}{m:Mk}(c:r m=0):dv r g m=(m.2.2:Rat)*bM (g m):=by
 unfold dv;rw[if_neg (by grind),if_neg (by grind)]
theorem uK{r:Mk->Rat}{m:Mk}(c:r m=0):gF r m=-m.2.2:=by
 unfold gF;rw[if_neg (by grind)]
theorem oQ{r pl:Mk->Rat}{x:Rat}:∀{A:List Mk},(∀m∈A,1<=m.2.2)->(∀m∈A,x<=pl m)->fI (λm=>pl m-x) A (tR (jG r 0 A))=-tot (A.map (dv r λm=>pl m-x))
 |[],_,_=>by show(0:Rat)=-0;grind
 |m::A,hw,h=>by
  have b:=oQ (r:=r) (pl:=pl) (x:=x) (A:=A) (λy a=>hw y (List.mem_cons_of_mem _ a)) λy a=>h y (List.mem_cons_of_mem _ a);have d:=h m List.mem_cons_self;have f:=hw m List.mem_cons_self;have u:nE r 0 m=0:=by
   unfold nE;split
   ·rw[if_neg (by lia)]
   ·rfl
  have e:tR (jG r 0 (m::A))=(gF r m:Rat)::tR (jG r 0 A):=by
   rw[jG,u,Int.add_zero,Int.sub_zero];rfl
  rw[e,cM,b,List.map_cons,tot];by_cases c:r m=0
  ·rw[Ah c,uK c,cQ (show 0<=pl m-x by grind),Rat.intCast_neg];grind
  ·rw[wI c];grind
theorem mO{r pl:Mk->Rat}:∀{A:List Mk}{left:Int}{c:Rat},0<=left->(∀m∈A,1<=m.2.2)->A.Pairwise (λa b=>pl a<pl b)->(∀m∈A,c<=pl m)->∃x,c<=x/\fI (λm=>pl m-x) A (tR (jG r left A))=-tot (A.map (dv r λm=>pl m-x))
 |[],left,c,_,_,_,_=>⟨c,Rat.le_refl,by show(0:Rat)=-0;grind⟩
 |m::A,left,c,h,hw,n,k=>by
  have i:∀y∈A,1<=y.2.2:=λy g=>hw y (List.mem_cons_of_mem _ g);have p:=hw m List.mem_cons_self;have o:=k m List.mem_cons_self;have f:=List.pairwise_cons.mp n;have e:tR (jG r left (m::A))=((gF r m+nE r left m:Int):Rat)::tR (jG r (left-nE r left m) A):=rfl;rw[e];by_cases z:r m=0
  ·by_cases d:2*m.2.2<left
   ·have u:nE r left m=2*m.2.2:=by unfold nE;rw[if_pos z,if_pos d]
    rw[u];obtain⟨x,l,j⟩:=mO (r:=r) (pl:=pl) (A:=A) (left:=left-2*m.2.2) (c:=pl m) (by lia) i f.2 λy g=>Rat.le_of_lt (f.1 y g);refine⟨x,by grind,?_⟩;rw[cM,j,List.map_cons,tot,Ah z,uK z,dN (show pl m-x<=0 by grind),show -m.2.2+2*m.2.2=m.2.2 by lia];grind
   ·have u:nE r left m=left:=by unfold nE;rw[if_pos z,if_neg d]
    rw[u,Int.sub_self];refine⟨pl m,o,?_⟩;rw[cM,oQ i λy g=>Rat.le_of_lt (f.1 y g),List.map_cons,tot,Ah z,show pl m-pl m=0 by grind,cQ (q:=0) Rat.le_refl];grind
  ·have u:nE r left m=0:=by unfold nE;rw[if_neg z]
   rw[u,Int.add_zero,Int.sub_zero];obtain⟨x,l,j⟩:=mO (r:=r) (pl:=pl) (A:=A) (left:=left) (c:=c) h i f.2 λy g=>k y (List.mem_cons_of_mem _ g);refine⟨x,l,?_⟩;rw[cM,j,List.map_cons,tot,wI z];grind
theorem sW(f:Mk->Rat)(x:Rat):∀{A:List Mk}{a:List Rat},a.length=A.length->fI (λm=>f m-x) A a=fI f A a-x*tot a
 |[],[],_=>by show(0:Rat)=0-x*0;grind
 |m::A,p::a,h=>by
  rw[cM,cM,sW f x (by simpa using h),tot];grind
theorem tW:∀a:List Int,tot (tR a)=(a.sum:Rat)
 |[]=>rfl
 |n::a=>by
  have e:tR (n::a)=(n:Rat)::tR a:=rfl;rw[e,tot,tW a,List.sum_cons,Rat.intCast_add]
theorem uL(r:Mk->Rat):∀A:List Mk,tot (A.map (dv r λ_=>1))=-(cG r A:Rat)/\tot (A.map (dv r λ_=>-1))=(cG r A:Rat)+2*(gR r A:Rat)
 |[]=>⟨by show(0:Rat)=-((0:Int):Rat);grind,by show(0:Rat)=((0:Int):Rat)+2*((0:Int):Rat);grind⟩
 |m::A=>by
  obtain⟨a,b⟩:=uL r A;rw[List.map_cons,List.map_cons,tot,tot,a,b,cG,gR,Rat.intCast_add,Rat.intCast_add];by_cases c:r m=0
  ·rw[Ah c,Ah c,uK c,if_pos c,cQ (q:=1) (by decide),dN (q:=-1) (by decide),Rat.intCast_neg];exact⟨by grind,by grind⟩
  ·rw[wI c,wI c,if_neg c];exact⟨by grind,by grind⟩
theorem sT{r pl:Mk->Rat}{A:List Mk}(hw:∀m∈A,1<=m.2.2)(k:A.Pairwise λa b=>pl a<pl b)(h:∀o p,0<=tot (A.map (dv r λm=>o+p*pl m))):
  0<=-cG r A/\tot (tR (jG r (-cG r A) A))=0/\fI pl A (tR (jG r (-cG r A) A))<=0:=by
 obtain⟨l,n⟩:=uL r A;have q:(λm:Mk=>(1:Rat)+0*pl m)=λ_=>1:=by funext m;grind
 have s:(λm:Mk=>(-1:Rat)+0*pl m)=λ_=>-1:=by funext m;grind
 have g:=h 1 0;have f:=h (-1) 0;rw[q,l,<-Rat.intCast_neg]at g;rw[s,n]at f;have l0:0<=-cG r A:=Rat.intCast_nonneg.mp g;have l1:-cG r A<=2*gR r A:=by
  have e:(cG r A:Rat)+2*(gR r A:Rat)=((cG r A+2*gR r A:Int):Rat):=by rw[Rat.intCast_add,Rat.intCast_mul];rfl
  rw[e]at f;have:=Rat.intCast_nonneg.mp f
  lia
 have i:tot (tR (jG r (-cG r A) A))=0:=by
  rw[tW,qY r _ _ l0 hw];have:cG r A+(if 2*gR r A< -cG r A then 2*gR r A else -cG r A)=0:=by
   rw[if_neg (by lia)];lia
  rw[this];rfl
 refine⟨l0,i,?_⟩;obtain⟨c,t⟩:∃c:Rat,∀m∈A,c<=pl m:=by
  clear h g f l n l0 l1 i hw
  induction A with
  |nil=>exact⟨0,λ_ h=>nomatch h⟩
  |cons m A w=>
   have j:=List.pairwise_cons.mp k;refine⟨pl m,λx d=>?_⟩;rcases List.mem_cons.mp d with rfl|d
   ·exact Rat.le_refl
   ·exact Rat.le_of_lt (j.1 x d)
 obtain⟨x,_,d⟩:=mO (r:=r) l0 hw k t;have u:=h (-x) 1;have v:(λm:Mk=>-x+1*pl m)=λm=>pl m-x:=by funext m;grind
 rw[v]at u;rw[sW pl x (by unfold tR;rw[List.length_map,qZ]),i]at d;grind
noncomputable def eC(l:Ln)(a:List Mk):List Rat:=tR (jG (rr l) (-cG (rr l) a) a)
noncomputable def fP(l:Ln)(a:List Mk):List Rat:=(tR (jG (rr l) (-cG (rr l) a.reverse) a.reverse)).reverse
noncomputable def gS(a:List Mk)(b:List Rat):Rat:=fI (·.1) a b
noncomputable def qJ(l:Ln)(c:List Mk):List Rat:=if gS c (eC l c)=gS c (fP l c)then eC l c else List.zipWith (λa b=>a+(gS c (eC l c)/(gS c (eC l c)-gS c (fP l c)))*(b-a)) (eC l c) (fP l c)
theorem sZ(f:Mk->Rat){B:List Mk}{b:List Rat}:∀{A:List Mk}{a:List Rat},a.length=A.length->fI f (A++B) (a++b)=fI f A a+fI f B b
 |[],[],_=>by show _=(0:Rat)+_;rw[Rat.zero_add];rfl
 |m::A,p::a,h=>by
  rw[List.cons_append,List.cons_append,cM,cM,sZ f (by simpa using h),Rat.add_assoc]
theorem sX(f:Mk->Rat):∀{A:List Mk}{ps:List Rat},ps.length=A.length->fI f A.reverse ps.reverse=fI f A ps
 |[],[],_=>rfl
 |m::A,p::ps,h=>by
  have a:ps.length=A.length:=by simpa using h
  rw[List.reverse_cons,List.reverse_cons,sZ f (by rw[List.length_reverse,List.length_reverse];exact a),sX f a];show fI f A ps+(f m*p+0)=f m*p+fI f A ps;grind
theorem sY(f:Mk->Rat):∀(A:List Mk)(a:List Rat),fI (λm=>-f m) A a=-fI f A a
 |[],_=>by show(0:Rat)=-0;grind
 |m::A,[]=>by show(0:Rat)=-0;grind
 |m::A,p::a=>by rw[cM,cM,sY f A a];grind
theorem mQ(f:Mk->Rat)(t:Rat):∀{A:List Mk}{c d:List Rat},c.length=A.length->d.length=A.length->fI f A (List.zipWith (λa b=>a+t*(b-a)) c d)=fI f A c+t*(fI f A d-fI f A c)
 |[],[],[],_,_=>by show(0:Rat)=0+t*(0-0);grind
 |m::A,p::c,q::d,h,e=>by
  rw[List.zipWith_cons_cons,cM,cM,cM,mQ f t (by simpa using h) (by simpa using e)];grind
theorem lK:∀{A:List Mk}{a:List Rat},a.length=A.length->tot a=fI (λ_=>1) A a
 |[],[],_=>rfl
 |m::A,p::a,h=>by
  rw[cM,tot,lK (A:=A) (by simpa using h)];grind
structure LnOk(ms:List Mk)(l:Ln)(ps:List Rat):Prop where
 fair:FairL (rr l) ms ps
 tot0:tot ps=0
 trn0:gS ms ps=0
theorem yZ{d:List Mk}{l:Ln}(hw:∀m∈d,1<=m.2.2)(p:d.Pairwise λa b=>a.1<b.1)(h:∀a b,FS d l<=FS d (a,b)):
  FairL (rr l) d (eC l d)/\FairL (rr l) d (fP l d)/\LnOk d l (qJ l d)/\0<=-cG (rr l) d/\0<=-cG (rr l) d.reverse:=by
 have q:=Ip h;refine qq λqz=>?_;obtain⟨a1,a2,a3⟩:=sT (r:=rr l) (pl:=λm=>m.1) hw p q;apply qz;have f:∀m∈d.reverse,1<=m.2.2:=λm x=>hw m (List.mem_reverse.mp x)
 obtain⟨s,y,B⟩:=sT (r:=rr l) (pl:=λm=>-m.1) (A:=d.reverse) f (by
   rw[List.pairwise_reverse]
   exact p.imp λh=>by grind) (λi j=>by
   have C:=q i (-j)
   have e:(λm:Mk=>i+j*-m.1)=λm=>i+-j*m.1:=by funext m;grind
   rw[e,fY ((List.reverse_perm d).map _)]
   exact C)
 have g:FairL (rr l) d (eC l d):=kJ _ _ _ a1 hw;have k:FairL (rr l) d (fP l d):=by
  have:=(kJ (rr l) _ _ s f).rev
  rwa [List.reverse_reverse]at this
 have n:=g.len;have o:=k.len;have J:gS d (eC l d)<=0:=a3;have u:tot (eC l d)=0:=a2;have D:tot (fP l d)=0:=by
  unfold fP;rw[fY (List.reverse_perm _)];exact y
 have K:0<=gS d (fP l d):=by
  have e:=sX (λm=>-m.1) (A:=d.reverse) (ps:=tR (jG (rr l) (-cG (rr l) d.reverse) d.reverse)) (by unfold tR;rw[List.length_map,qZ]);rw[List.reverse_reverse]at e;have E:fI (λm:Mk=>-m.1) d (fP l d)<=0:=by
   unfold fP;rw[e];exact B
  rw[sY (λm=>m.1)]at E;show 0<=fI (λm=>m.1) d (fP l d);grind
 refine⟨g,k,?_,a1,s⟩;unfold qJ;by_cases c:gS d (eC l d)=gS d (fP l d)
 ·rw[if_pos c];exact⟨g,u,by grind⟩
 ·rw[if_neg c];have F:gS d (eC l d)-gS d (fP l d)≠0:=λz=>c (by grind);obtain⟨t,v⟩:∃t,gS d (eC l d)/(gS d (eC l d)-gS d (fP l d))=t:=⟨_,rfl⟩;have G:t*(gS d (eC l d)-gS d (fP l d))=gS d (eC l d):=by rw[<-v];exact Rat.div_mul_cancel F
  rw[v];have H:0<=t:=Rat.not_lt.mp λz=>by
   have:=Rat.mul_pos (show 0< -t by grind) (show 0<gS d (fP l d)-gS d (eC l d) by grind);grind
  have I:t<=1:=Rat.not_lt.mp λz=>by
   have:=Rat.mul_pos (show 0<t-1 by grind) (show 0<gS d (fP l d)-gS d (eC l d) by grind);grind
  have w:=FairL.mix H I g k;refine⟨w,?_,?_⟩
  ·rw[lK w.len,mQ _ t n o,<-lK n,<-lK o,u,D];grind
  ·unfold gS at G⊢;rw[mQ _ t n o];grind
noncomputable def sO(a:List Rat)(x:Rat):Rat:=a.reverse.foldl (λh n=>h*x+n) 0
theorem wD(x:Rat):sO [] x=0:=rfl
theorem mL(n:Rat)(a:List Rat)(x:Rat):sO (n::a) x=sO a x*x+n:=by
 unfold sO;rw[List.reverse_cons,List.foldl_append];rfl
section
variable{P:Program}{w:World}{K:PySem.W.Frag}{mg:Str->Option Value}{base:Heap}{A:Adr}
noncomputable def Br:DW:=λd Q _=>∃(c:List Rat)(x:Rat)(a b:Nat),d=[.list (c.map fr),fr x]/\c.length<=60/\(∀n∈c,Dg a n)/\Dg b x/\c.length*(a+b+2)<=2300/\Q (.dat (fr (sO c x)))
theorem Ly(T:Txt K mg A):FnOk P w K mg base (eV P w) 4 A.a_ql A.d_ql ["numbers","x"] (fD K Br):=by
 have c:=oD (P:=P) (w:=w) (base:=base) T;have d:=lE (P:=P) (w:=w) (base:=base) T;refine gH T.F_ql sc_ql (λu Q E h=>?_) (λv C outer s H E o=>?_)
 ·obtain⟨_,_,_,_,rfl,_⟩:=h;rfl
 refine⟨_,(aH (aY (i:=2) sc_ql.nd rfl (Or.inl rfl) (kD rfl T.c_NOUGHT (show RelV (.ref _) (.ref _)from rfl)))
   (aH (fN PassesOwn.leaving rfl (rW (K:=K) rfl rfl T.n_reversed (aA (pv 0) aF)) (aZ (i:=3) sc_ql.nd rfl (Or.inl rfl))
    (aT (aY (i:=2) sc_ql.nd rfl (Or.inl rfl) (aK c (o.mono (by decide)) rfl T.m_qc T.F_qc.kp T.b_qc .nil aP (aA (aK d (o.mono (by decide)) rfl T.m_qe T.F_qe.kp T.b_qe .nil aP (aA (pv 2) (aA (pv 1) aF))) (aA (pv 3) aF))))))
   (aT (bI (pv 2))))),_,(aQ (bC (sR T.k_NOUGHT) (aJ 2))
   (aQ (fL (Ii (aN 0)) (aJ 3)
    (bC (aL (aC (aB (aL (aC (aE 2) (aC (aE 1) aM)))) (aC (aE 3) aM))) (aJ 2)))
   (eA 2))),?_⟩
 intro u Q X qQ0;refine qq λqz=>?_;obtain⟨e,x,a,b,rfl,D,y,p,F,k⟩:=qQ0;apply qz;walk_at"s"
 refine dO (eU fr e.reverse (λQ h=>by
   walk_at"d"
   rw[<-List.map_reverse];exact h)
  (λi j=>∃(q:Rat)(r:Option Sl),j=[some (.dat (.list (e.map fr))),some (.dat (fr x)),some (.dat (fr q)),r]/\q=(e.reverse.take i).foldl (λh n=>h*x+n) 0/\Dg (i*(a+b+2)) q)
  ⟨0,_,rfl,rfl,Dg.zero⟩ ?_ ?_)
 ·intro i n j l qQ0;refine qq λqz=>?_;obtain⟨q,r,rfl,g,m⟩:=qQ0;apply qz;have G:i<e.length:=by have:=(List.getElem?_eq_some_iff.mp l).1;simpa using this
  have f:=y n (by have:=List.mem_of_getElem? l;simpa using this);have z:i*(a+b+2)+(a+b+2)<=2300:=by
   have:=Nat.mul_le_mul_right (a+b+2) (show i+1<=e.length by lia);rw[Nat.add_mul,Nat.one_mul]at this
   lia
  have t:=m.mul p;have B:=t.add f;walk_at"d";refine⟨q,x,rfl,cP m (by lia),cP p (by lia),?_⟩;walk_at"d";refine⟨_,n,rfl,cP t (by lia),cP f (by lia),?_⟩;walk_at"d";refine⟨_,_,rfl,?_,B.mono (by rw[Nat.add_mul];lia)⟩;rw[eF l,List.foldl_append,g];rfl
 ·intro j qQ0;refine qq λqz=>?_;obtain⟨q,r,rfl,g,m⟩:=qQ0;apply qz;walk_at"d";rw[List.take_of_length_le (Nat.le_refl _)]at g;rw[g];exact k
noncomputable def yI:DW:=λe Q _=>∃(c:List Rat)(d:List Mk)(a b:Nat),e=[.list (c.map fr),.list (d.map eJ)]/\c.length<=60/\d.length<=1000/\(∀n∈c,Dg a n)/\(∀m∈d,Dg b m.1)/\c.length*(a+b+2)<=2300/\Q (.own ((d.map λm=>sO c m.1).map fr))
theorem zG(T:Txt K mg A):FnOk P w K mg base (eV P w) 5 A.a_qm A.d_qm ["numbers","marks"] (fD K yI):=by
 have c:=Ly (P:=P) (w:=w) (base:=base) T;refine gH T.F_qm Kt (λe Q E h=>?_) (λf u outer s H E g=>?_)
 ·obtain⟨_,_,_,_,rfl,_⟩:=h;rfl
 refine⟨_,(aT (bI (hV (cap:=[none,some 0]) (NC:=["mark","numbers"]) rfl ⟨rfl,rfl,by decide +kernel,by decide +kernel,⟨⟨_,rfl,rfl,rfl,rfl,rfl⟩,trivial⟩,(List.forall_mem_cons.2 ⟨rfl,(λ_ h=>nomatch h)⟩),rfl⟩ (jE (K:=K) rfl (pv 1)) (λ_ _ _ _=>(aZ (i:=0) (show List.Nodup (["mark","numbers"]:List Str) by decide) rfl (Or.inl rfl))) (λ_ _ _ _=>dB) (λ_ _ _ _=>(aK c (g.mono (by decide)) rfl T.m_ql T.F_ql.kp T.b_ql .nil aP (aA (pv 1) (aA (aX (bK (K:=K) rfl) (pv 0) aD (λ_ _=>rfl)) aF))))))),_,(gJ (eI (fH (bL 1)) (aJ 0) dU (aL (aC (aE 1) (aC (aB (aW 0 (aN 0))) aM))) (by decide) (by decide))),?_⟩;intro e Q X qQ0;refine qq λqz=>?_;obtain⟨d,j,a,b,rfl,l,n,o,p,q,k⟩:=qQ0;apply qz;walk_at"d";refine dM eJ fr (λm:Mk=>[sO d m.1]) j n (λQ h=>h) (λm h N r t=>?_) ?_
 ·walk_at"d";refine⟨d,m.1,a,b,rfl,l,o,p m h,q,?_⟩;walk_at"d";exact t
 ·rw[bO];exact k
end
structure LSz(L:Nat)(ms:List Mk):Prop where
 n1:1<=ms.length
 n60:ms.length<=60
 L0:0<L
 L1:L<=10^100
 x:∀m∈ms,Cm L (10^100) m.1
 y:∀m∈ms,Cm L (10^100) m.2.1
 w:∀m∈ms,1<=m.2.2/\m.2.2<=10^100
 up:ms.Pairwise λa b=>a.1<b.1
section
variable{L:Nat}{ms:List Mk}
theorem LSz.ne(Z:LSz L ms):ms≠[]:=List.length_pos_iff.mp Z.n1
theorem LSz.nd(Z:LSz L ms):(ms.map (·.1)).Nodup:=by
 rw[List.nodup_iff_pairwise_ne,List.pairwise_map];exact Z.up.imp λh=>by grind
theorem LSz.w1(Z:LSz L ms):∀m∈ms,1<=m.2.2:=λm h=>(Z.w m h).1
theorem LSz.xd(Z:LSz L ms){m:Mk}(h:m∈ms):Dg 201 m.1:=(Z.x m h).dg Z.L0 Z.L1 (b:=100) (Nat.le_refl _)
theorem LSz.yd(Z:LSz L ms){m:Mk}(h:m∈ms):Dg 201 m.2.1:=(Z.y m h).dg Z.L0 Z.L1 (b:=100) (Nat.le_refl _)
theorem LSz.dx(Z:LSz L ms){m o:Mk}(h:m∈ms)(g:o∈ms):Cm L (2*10^100) (o.1-m.1):=((Z.x o g).sub (Z.x m h)).mono (Nat.dvd_refl _) (by lia)
theorem LSz.dxd(Z:LSz L ms){m o:Mk}(h:m∈ms)(g:o∈ms):Dg 202 (o.1-m.1):=(Z.dx h g).dg Z.L0 Z.L1 (b:=101) (by decide +kernel)
theorem LSz.dyd(Z:LSz L ms){m o:Mk}(h:m∈ms)(g:o∈ms):Dg 202 (o.2.1-m.2.1):=(((Z.y o g).sub (Z.y m h)).mono (Nat.dvd_refl _) (show 10^100+10^100<=2*10^100 by lia)).dg Z.L0 Z.L1 (b:=101) (by decide +kernel)
theorem LSz.slp(Z:LSz L ms){m o:Mk}(h:m∈ms)(g:o∈jF ms m):Dg 405 (slp m o).1:=by
 obtain⟨a,b⟩:=List.mem_filter.mp g;have c:o.1≠m.1:=of_decide_eq_true b;exact(Z.dyd h a).div (Z.dxd h a) (λz=>c (by grind))
theorem eR(Z:LSz L ms){m:Mk}(h:m∈ms):Dg 405 (bP ms m).2/\(bP ms m).1=m.2.1-(bP ms m).2*m.1:=by
 unfold bP;by_cases c:jF ms m=[]
 ·rw[if_pos c];exact⟨Dg.zero,by grind⟩
 ·rw[if_neg c];refine⟨?_,rfl⟩;refine qq λqz=>?_;obtain⟨z,a,e⟩:=(gB (by simpa using c) (iJ (m:=m) Z.w1)).mem;obtain⟨o,b,rfl⟩:=List.mem_map.mp a;apply qz;show Dg 405 (qR _);rw[<-e];exact Z.slp h b
structure LnSz(L:Nat)(ms:List Mk)(l:Ln):Prop where
 s:Dg 405 l.2
 a:Dg 809 l.1
 c:∃D:Nat,0<D/\D<=10^405/\∀o∈ms,Cm (D*L) (10^506) (l.1+l.2*o.1)
theorem lP(Z:LSz L ms){m:Mk}{l:Ln}(h:m∈ms)(s:Dg 405 l.2)(e:l.1=m.2.1-l.2*m.1):LnSz L ms l:=by
 have a:Cm l.2.den (10^405) l.2:=Cm.of (Nat.dvd_refl _) (Nat.le_trans s.n (Nat.le_mul_of_pos_right _ (Nat.pos_of_ne_zero l.2.den_nz)));refine⟨s,?_,l.2.den,Nat.pos_of_ne_zero l.2.den_nz,s.d,λo b=>?_⟩
 ·rw[e];exact((Z.yd h).sub (s.mul (Z.xd h))).mono (by decide)
 ·have c:l.1+l.2*o.1=m.2.1+l.2*(o.1-m.1):=by rw[e];grind
  rw[c];exact(((Z.y m h).mono (Nat.dvd_mul_left _ _) (Nat.le_refl _)).add (a.mul (Z.dx h b))).mono (Nat.dvd_refl _) (by decide +kernel)
theorem Ik(a b x:Rat):sO [a,b] x=a+b*x:=by
 rw[mL,mL,wD];grind
theorem LnSz.msz(Z:LSz L ms){l:Ln}(h:LnSz L ms l):∃M:Nat,MSz M (10^506) (10^100) 505 506 100 ms (ms.map λm=>sO [l.1,l.2] m.1):=by
 refine qq λqz=>?_;obtain⟨D,b,c,d⟩:=h.c;apply qz;refine⟨D*L,Z.n60,Nat.mul_pos b Z.L0,?_,Nat.le_refl _,Nat.le_refl _,λm a=>((Z.y m a).mono (Nat.dvd_mul_left _ _) (eQ (by decide))),λq e=>?_,λm a=>by have:=Z.w m a;lia,by decide⟩
 ·exact Nat.le_trans (Nat.mul_le_mul c Z.L1) (by decide +kernel)
 ·obtain⟨m,a,rfl⟩:=List.mem_map.mp e;rw[Ik];exact d m a
theorem nO(f:Mk->Rat):∀ms:List Mk,dS ms (ms.map f)=ms.map λm=>(m.2.2:Rat)*(m.2.1-f m)
 |[]=>rfl
 |m::ms=>by
  have a:=nO f ms;unfold dS eK at a⊢;rw[List.map_cons,List.map_cons,List.zipWith_cons_cons,List.zipWith_cons_cons,a]
theorem mI(f:Mk->Rat):∀ms:List Mk,eK ms (ms.map f)=ms.map λm=>m.2.1-f m
 |[]=>rfl
 |m::ms=>by
  have a:=mI f ms;unfold eK at a⊢;rw[List.map_cons,List.map_cons,List.zipWith_cons_cons,a]
theorem xA(hw:∀m∈ms,1<=m.2.2)(l:Ln):mJ "sum" ms (ms.map λm=>sO [l.1,l.2] m.1)=FS ms l:=by
 unfold mJ FS;rw[if_neg (by decide),if_pos rfl,nO,List.map_map]
 congr 1
 refine List.map_congr_left λm a=>?_;show bM ((m.2.2:Rat)*(m.2.1-sO [l.1,l.2] m.1))=_;rw[kO,Ik,cQ (Rat.intCast_nonneg.mpr (by have:=hw m a;lia))];rfl
theorem Dm(Z:LSz L ms):LnSz L ms (bW ms):=by
 obtain⟨m,a,e⟩:=iP Z.ne;obtain⟨b,c⟩:=eR Z a;rw[e];exact lP Z a b c
theorem mY(Z:LSz L ms)(a b:Rat):FS ms (bW ms)<=FS ms (a,b):=uN Z.ne Z.w1 Z.nd a b
theorem mX(Z:LSz L ms):FairL (rr (bW ms)) ms (eC (bW ms) ms)/\FairL (rr (bW ms)) ms (fP (bW ms) ms)/\LnOk ms (bW ms) (qJ (bW ms) ms)/\0<=-cG (rr (bW ms)) ms/\0<=-cG (rr (bW ms)) ms.reverse:=yZ Z.w1 Z.up (mY Z)
end
theorem sA(m:Mk):∀a:List Mk,(a.flatMap λo:Mk=>if o.1=m.1 then[]else[o])=jF a m
 |[]=>rfl
 |o::a=>by
  unfold jF;rw[List.flatMap_cons,sA m a];by_cases c:o.1=m.1
  ·rw[if_pos c,List.filter_cons_of_neg (by simpa using c)];rfl
  ·rw[if_neg c,List.filter_cons_of_pos (by simpa using c)];rfl
theorem nN(f:Mk->Rat):∀a:List Mk,a.zip (a.map f)=a.map λm=>(m,f m)
 |[]=>rfl
 |m::a=>by rw[List.map_cons,List.zip_cons_cons,nN f a];rfl
theorem tQ(f:Mk->Rat)(b:List Mk)(a:List Rat):(b.zip a).map (λz=>f z.1*z.2)=List.zipWith (λm p=>f m*p) b a:=by
 induction b generalizing a with
 |nil=>rfl
 |cons m b c=>cases a with
  |nil=>rfl
  |cons p a=>rw[List.zip_cons_cons,List.map_cons,List.zipWith_cons_cons,c]
section
variable{P:Program}{w:World}{K:PySem.W.Frag}{mg:Str->Option Value}{base:Heap}{A:Adr}
noncomputable def Bo:DW:=λb Q _=>∃(a:List Mk)(m:Mk)(L:Nat),b=[.list (a.map eJ),eJ m]/\LSz L a/\m∈a/\Q (.own [fr (bP a m).1,fr (bP a m).2])
theorem Lo(T:Txt K mg A):FnOk P w K mg base (eV P w) 5 A.a_qw A.d_qw ["marks","mark"] (fD K Bo):=by
 have f:=zI (P:=P) (w:=w) (base:=base) T;have t:=lE (P:=P) (w:=w) (base:=base) T;have F:=zH (P:=P) (w:=w) (base:=base) T;have G:=Em (P:=P) (w:=w) (base:=base) T;have I:=Ek (P:=P) (w:=w) (base:=base) T;refine gH T.F_qw sc_qw (λds Q E h=>?_) (λa0 Ar outer s H E p=>?_)
 ·obtain⟨_,_,_,rfl,_⟩:=h;rfl
 refine⟨_,(aH (eW (i:=2) (cap:=[none,some 1]) (NC:=["other","mark"]) sc_qw.nd rfl rfl rfl ⟨rfl,rfl,by decide +kernel,by decide +kernel,⟨⟨_,rfl,rfl,rfl,rfl,rfl⟩,trivial⟩,(List.forall_mem_cons.2 ⟨rfl,(λ_ h=>nomatch h)⟩),rfl⟩ (jE (K:=K) rfl (pv 0)) (λ_ _ _ _=>(aZ (i:=0) (show List.Nodup (["other","mark"]:List Str) by decide) rfl (Or.inl rfl))) (λ_ _ _ _=>(vK (bR (Ny (K:=K) rfl p.units) (aX (bK (K:=K) rfl) (pv 0) aD (λ_ _=>rfl)) (aX (bK (K:=K) rfl) (pv 1) aD (λ_ _=>rfl)) (bY _)))) (λ_ _ _ _=>(pv 0)))
   (aH (cZ (bR fF (cL (uH (K:=K) rfl) rfl T.n_len PySem.boot_len (aA (pv 2) aF)) aD (bY _)) (aT (bI (dP (aA (aX (bK (K:=K) rfl) (pv 1) aD (λ_ _=>rfl)) (aA (kD rfl T.c_NOUGHT (show RelV (.ref _) (.ref _)from rfl)) aF))))) bV)
   (aH (eW (i:=3) (cap:=[none,some 1]) (NC:=["other","mark"]) sc_qw.nd rfl rfl rfl ⟨rfl,rfl,by decide +kernel,by decide +kernel,⟨⟨_,rfl,rfl,rfl,rfl,rfl⟩,trivial⟩,(List.forall_mem_cons.2 ⟨rfl,(λ_ h=>nomatch h)⟩),rfl⟩ (jE (K:=K) rfl (pv 2)) (λ_ _ _ _=>(aZ (i:=0) (show List.Nodup (["other","mark"]:List Str) by decide) rfl (Or.inl rfl))) (λ_ _ _ _=>dB) (λ_ _ _ _=>(aK f (p.mono (by decide)) rfl T.m_qd T.F_qd.kp T.b_qd .nil aP (aA (aX (bK (K:=K) rfl) (pv 0) aD (λ_ _=>rfl)) (aA (aX (bK (K:=K) rfl) (pv 1) aD (λ_ _=>rfl)) aF)))))
   (aH (eW (i:=4) (cap:=[none,none,some 1]) (NC:=["other","way","mark"]) sc_qw.nd rfl rfl rfl ⟨rfl,rfl,by decide +kernel,by decide +kernel,⟨⟨_,rfl,rfl,rfl,rfl,rfl⟩,trivial⟩,(List.forall_mem_cons.2 ⟨rfl,(λ_ h=>nomatch h)⟩),rfl⟩ (fO (K:=K) rfl rfl T.n_zip (aA (pv 2) (aA (pv 3) aF))) (λ_ _ _ _=>(iS (K:=K) (n:=2) rfl rfl (bD (aZ (i:=0) (show List.Nodup (["other","way","mark"]:List Str) by decide) rfl (Or.inl rfl)) (bD (aZ (i:=1) (show List.Nodup (["other","way","mark"]:List Str) by decide) rfl (Or.inl rfl)) cW)))) (λ_ _ _ _=>dB) (λ_ _ _ _=>(aK F (p.mono (by decide)) rfl T.m_qf T.F_qf.kp T.b_qf .nil aP (aA (aK f (p.mono (by decide)) rfl T.m_qd T.F_qd.kp T.b_qd .nil aP (aA (aX (bK (K:=K) rfl) (pv 0) aD (λ_ _=>rfl)) (aA (aX (bK (K:=K) rfl) (pv 2) aD (λ_ _=>rfl)) aF))) (aA (pv 1) aF)))))
   (aH (eW (i:=5) (cap:=[none,none]) (NC:=["other","way"]) sc_qw.nd rfl rfl rfl ⟨rfl,rfl,by decide +kernel,by decide +kernel,trivial,(λ_ h=>nomatch h),rfl⟩ (fO (K:=K) rfl rfl T.n_zip (aA (pv 2) (aA (pv 3) aF))) (λ_ _ _ _=>(iS (K:=K) (n:=2) rfl rfl (bD (aZ (i:=0) (show List.Nodup (["other","way"]:List Str) by decide) rfl (Or.inl rfl)) (bD (aZ (i:=1) (show List.Nodup (["other","way"]:List Str) by decide) rfl (Or.inl rfl)) cW)))) (λ_ _ _ _=>dB) (λ_ _ _ _=>(aK t (p.mono (by decide)) rfl T.m_qe T.F_qe.kp T.b_qe .nil aP (aA (cD (aA (aX (bK (K:=K) rfl) (pv 0) aD (λ_ _=>rfl)) (aA aD aF))) (aA (aK G (p.mono (by decide)) rfl T.m_qh T.F_qh.kp T.b_qh .nil aP (aA (pv 1) aF)) aF)))))
   (aH (aY (i:=6) sc_qw.nd rfl (Or.inl rfl) (aK I (p.mono (by decide)) rfl T.m_qs T.F_qs.kp T.b_qs .nil aP (aA (pv 4) (aA (pv 5) aF))))
   (aT (bI (dP (aA (aK f (p.mono (by decide)) rfl T.m_qd T.F_qd.kp T.b_qd .nil aP (aA (aX (bK (K:=K) rfl) (pv 1) aD (λ_ _=>rfl)) (aA (aK t (p.mono (by decide)) rfl T.m_qe T.F_qe.kp T.b_qe .nil aP (aA (pv 6) (aA (aX (bK (K:=K) rfl) (pv 1) aD (λ_ _=>rfl)) aF))) aF))) (aA (pv 6) aF))))))))))),_,(aQ (cE 2 (eI (fH (bL 0)) (aJ 0) (bQ (aB (aU qG (aB (aW 0 (aN 0))) (aB (aW 0 (aN 1)))))) (aN 0) (by decide) (by decide)))
   (aQ (cY (bQ (aB (aU fE (aB (eY jC (aC (aE 2) aM))) (aB aI)))) (gJ (dQ (aO (aW 1 (aN 1)) (aO (sR T.k_NOUGHT) bH)) (by decide))) bU)
   (aQ (cE 3 (eI (fH (bL 2)) (aJ 0) dU (aL (aC (aB (aW 0 (aN 0))) (aC (aB (aW 0 (aN 1))) aM))) (by decide) (by decide)))
   (aQ (cE 4 (eI (gO (bL 2) (bL 3)) (dZ (bJ (aJ 0) (bJ (aJ 1) dR))) dU (aL (aC (aB (aL (aC (aB (aW 1 (aN 0))) (aC (aB (aW 1 (aN 2))) aM)))) (aC (aE 1) aM))) (by decide) (by decide)))
   (aQ (cE 5 (eI (gO (bL 2) (bL 3)) (dZ (bJ (aJ 0) (bJ (aJ 1) dR))) dU (aL (aC (aB (cH (aO (aW 2 (aN 0)) (aO aI bH)) (by decide))) (aC (aB (aL (aC (aE 1) aM))) aM))) (by decide) (by decide)))
   (aQ (bC (aL (aC (aE 4) (aC (aE 5) aM))) (aJ 6))
   (gJ (dQ (aO (aL (aC (aB (aW 1 (aN 1))) (aC (aB (aL (aC (aE 6) (aC (aB (aW 0 (aN 1))) aM)))) aM))) (aO (aN 6) bH)) (by decide))))))))),?_⟩
 intro ds Q X qQ0;refine qq λqz=>?_;obtain⟨R,m,L,rfl,Z,g,k⟩:=qQ0;apply qz;clear qz;have S:=Z.n60;walk_at"s";refine dM eJ eJ (λo:Mk=>if o.1=m.1 then[]else[o]) R (by lia) (λQ h=>h) (λo h N u j=>?_) ?_
 ·walk_at"d";refine⟨Rat,sU,o.1,m.1,rfl,rfl,λv M=>?_⟩;cases v with
  |true=>
   rw[if_pos (M.mp rfl)]at j;simpa using j
  |false=>
   rw[if_neg (λz=>by have:=M.mpr z;cases this)]at j;simpa using j
 rw[sA];obtain⟨a,b⟩:∃a,jF R m=a:=⟨_,rfl⟩;have Y:a.length<=60:=by
  rw[<-b];exact Nat.le_trans (List.length_filter_le _ _) S
 have D:∀o∈a,o∈R/\o.1≠m.1:=λo d=>by
  rw[<-b]at d;obtain⟨l,O⟩:=List.mem_filter.mp d;exact⟨l,of_decide_eq_true O⟩
 rw[b];walk_at"s";refine fG (λc=>?_) (λc=>?_)
 ·have e:a=[]:=List.length_eq_zero_iff.mp (by simpa using c);unfold bP at k;rw[b,if_pos e]at k;walk_at"d";exact k
 have U:a≠[]:=λz=>c (by rw[z];rfl);unfold bP at k;rw[b,if_neg U]at k;walk_at"s";refine dM eJ fr (λo:Mk=>[o.1-m.1]) a (by lia) (λQ h=>by walk_at"d";exact h) (λo h N u j=>?_) ?_
 ·walk_at"d";refine⟨_,_,rfl,cP (Z.xd (D o h).1) (by decide),cP (Z.xd g) (by decide),?_⟩;walk_at"d";exact j
 rw[bO];obtain⟨y,C⟩:∃y,(a.map λo=>o.1-m.1)=y:=⟨_,rfl⟩;have J:a.zip y=a.map λo=>(o,o.1-m.1):=by rw[<-C,nN]
 rw[C];walk_at"s";refine dM (λz:Mk×Rat=>PyData.tuple [eJ z.1,fr z.2]) fr (λz:Mk×Rat=>[(z.1.2.1-m.2.1)/z.2]) (a.zip y) (by rw[List.length_zip];lia) (λQ h=>by walk_at"d";rw[dG];exact h) (λz r N u j=>?_) ?_
 ·rw[J]at r;refine qq λqz=>?_;obtain⟨o,d,rfl⟩:=List.mem_map.mp r;obtain⟨l,O⟩:=D o d;apply qz;clear qz;walk_at"d";refine⟨_,_,rfl,cP (Z.yd l) (by decide),cP (Z.yd g) (by decide),?_⟩;walk_at"d";refine⟨_,_,rfl,cP (Z.dyd g l) (by decide),cP (Z.dxd g l) (by decide),λz=>absurd z (λz=>O (by grind)),λ_=>?_⟩;walk_at"d";exact j
 have e1:(a.zip y).map (λz:Mk×Rat=>(z.1.2.1-m.2.1)/z.2)=a.map λo=>(slp m o).1:=by rw[J,List.map_map];rfl
 rw[bO,e1];walk_at"s";refine dM (λz:Mk×Rat=>PyData.tuple [eJ z.1,fr z.2]) fr (λz:Mk×Rat=>[(z.1.2.2:Rat)*bM z.2]) (a.zip y) (by rw[List.length_zip];lia) (λQ h=>by walk_at"d";rw[dG];exact h) (λz r N u j=>?_) ?_
 ·rw[J]at r;refine qq λqz=>?_;obtain⟨o,d,rfl⟩:=List.mem_map.mp r;obtain⟨l,O⟩:=D o d;apply qz;clear qz;walk_at"d";refine⟨_,rfl,?_⟩;walk_at"d";refine⟨(o.2.2:Rat),_,rfl,cP (Dg.int (n:=100) (by have:=Z.w o l;lia)) (by decide),cP (Z.dxd g l).abs (by decide),?_⟩;walk_at"d";exact j
 have e2:(a.zip y).map (λz:Mk×Rat=>(z.1.2.2:Rat)*bM z.2)=a.map λo=>(slp m o).2:=by rw[J,List.map_map];rfl
 rw[bO,e2];walk_at"s";have ez:(a.map λo=>(slp m o).1).zip (a.map λo=>(slp m o).2)=a.map (slp m):=by
  clear b Y D c U k e1 e2 C J
  induction a with
  |nil=>rfl
  |cons o a ih=>rw[List.map_cons,List.map_cons,List.map_cons,List.zip_cons_cons,ih]
 have hp:∀z∈a.map (slp m),0<z.2:=by rw[<-b];exact iJ Z.w1
 refine⟨a.map λo=>(slp m o).1,a.map λo=>(slp m o).2,L,rfl,Z.L0,Nat.le_trans Z.L1 (eQ (by decide)),by rw[List.length_map,List.length_map],by rw[List.length_map];exact List.length_pos_iff.mpr U,by rw[List.length_map];exact Y,λq hq=>?_,λv M=>?_,λx W=>?_⟩
 ·obtain⟨o,d,rfl⟩:=List.mem_map.mp hq;exact cP (Z.slp g (by rw[b];exact d)) (by decide)
 ·obtain⟨o,d,rfl⟩:=List.mem_map.mp M;refine⟨hp _ (List.mem_map.mpr ⟨o,d,rfl⟩),?_⟩;have l:=(Cm.int (i:=o.2.2) (B:=10^100) (by have:=Z.w o (D o d).1;lia)).mul (Z.dx g (D o d).1).abs;exact l.mono (by rw[Nat.one_mul];exact Nat.dvd_refl _) (by decide +kernel)
 rw[ez]at W;have ex:=vS (λz r=>by have:=hp z r;grind) W;rw[ex]at k;have dx:Dg 405 x:=by
  obtain⟨z,r,e⟩:=W.mem;obtain⟨o,d,rfl⟩:=List.mem_map.mp r;rw[<-e];exact Z.slp g (by rw[b];exact d)
 walk_at"d";refine⟨_,_,rfl,cP dx (by decide),cP (Z.xd g) (by decide),?_⟩;walk_at"d";refine⟨_,_,rfl,cP (Z.yd g) (by decide),cP (dx.mul (Z.xd g)) (by decide),?_⟩;walk_at"d";exact k
end
theorem oA{b:Type}(f g:b->PyData):∀a:List b,pairD (a.map f) (a.map g)=a.map λx=>PyData.tuple [f x,g x]
 |[]=>by simp[Dl.pairD]
 |x::a=>by
  have:=oA f g a;simp[Dl.pairD,this]
theorem rN{b:Type}(f g h:b->PyData):∀a:List b,triD (a.map f) (a.map g) (a.map h)=a.map λx=>PyData.tuple [f x,g x,h x]
 |[]=>by simp[Dl.triD]
 |x::a=>by
  have:=rN f g h a;simp[Dl.triD,this]
theorem iA(q:Rat):0<q.num↔0<q:=by
 have a:=@Rat.num_nonneg (-q);have b:(-q).num=-q.num:=rfl;rw[b]at a;have c:(0<=-q)↔¬0<q:=by rw[Rat.not_lt];constructor <;>intro <;>grind
 rw[c]at a;constructor
 ·intro h;exact Decidable.not_not.mp λz=>by have:=a.mpr z;lia
 ·intro h;exact Int.not_le.mp λz=>absurd h (a.mp (by lia))
noncomputable def Pw(n:Int):PyData:=fr (n:Rat)
section
variable{P:Program}{w:World}{K:PySem.W.Frag}{mg:Str->Option Value}{base:Heap}{A:Adr}
noncomputable def Kb:DW:=λb Q _=>∃(a:List Mk)(r:Mk->Rat),b=[.list (a.map eJ),.list (a.map λm=>fr (r m))]/\a.length<=60/\(∀m∈a,1<=m.2.2/\m.2.2<=10^100)/\Q (.own ((tR (jG r (-cG r a) a)).map fr))
theorem Ej(T:Txt K mg A):FnOk P w K mg base (eV P w) 1 A.a_qz A.d_qz ["marks","misses"] (fD K Kb):=by
 refine gH T.F_qz sc_qz (λB Q E h=>?_) (λC J outer s H E D=>?_)
 ·obtain⟨_,_,rfl,_⟩:=h;rfl
 refine⟨_,(aH (eW (i:=2) (cap:=[none,none]) (NC:=["mark","miss"]) sc_qz.nd rfl rfl rfl ⟨rfl,rfl,by decide +kernel,by decide +kernel,trivial,(λ_ h=>nomatch h),rfl⟩ (fO (K:=K) rfl rfl T.n_zip (aA (pv 0) (aA (pv 1) aF))) (λ_ _ _ _=>(iS (K:=K) (n:=2) rfl rfl (bD (aZ (i:=0) (show List.Nodup (["mark","miss"]:List Str) by decide) rfl (Or.inl rfl)) (bD (aZ (i:=1) (show List.Nodup (["mark","miss"]:List Str) by decide) rfl (Or.inl rfl)) cW)))) (λ_ _ _ _=>dB) (λ_ _ _ _=>(rX (bR Ei (aX (bK (K:=K) rfl) (pv 1) aD (λ_ _=>rfl)) aD (bY _)) (aX (bK (K:=K) rfl) (pv 0) aD (λ_ _=>rfl)) (iV fU (aX (bK (K:=K) rfl) (pv 0) aD (λ_ _=>rfl))))))
   (aH (aY (i:=3) sc_qz.nd rfl (Or.inl rfl) (iV fU (cL (Ot (K:=K) rfl rfl) rfl T.n_sum Jf (aA (pv 2) aF))))
   (aH (aY (i:=4) sc_qz.nd rfl (Or.inl rfl) (dP aF))
   (aH (fN PassesOwn.leaving rfl (Cb (K:=K) rfl rfl T.n_zip (aA (pv 0) (aA (pv 1) (aA (pv 2) aF)))) (iS (K:=K) (n:=3) rfl rfl (bD (aZ (i:=5) sc_qz.nd rfl (Or.inl rfl)) (bD (aZ (i:=6) sc_qz.nd rfl (Or.inl rfl)) (bD (aZ (i:=7) sc_qz.nd rfl (Or.inl rfl)) cW))))
    (aH (aY (i:=8) sc_qz.nd rfl (Or.inl rfl) (rX (bR (Nz (K:=K) rfl D.units) (pv 6) (kD rfl T.c_NOUGHT (show RelV (.ref _) (.ref _)from rfl)) (bY _)) (cL (yA rfl) rfl T.n_min Jh (aA (pv 3) (aA (aV bG aD (aX (bK (K:=K) rfl) (pv 5) aD (λ_ _=>rfl))) aF))) aD))
   (aH (aY (i:=3) sc_qz.nd rfl (Or.inl rfl) (aV fV (pv 3) (pv 8)))
   (aT (kC (vM PySem.F.plainAttrs_list PySem.F.slot_list_append PySem.F.type_list_append iL (pv 4) (aA (cD (aA (aV cR (pv 7) (pv 8)) (aA aD aF))) aF)))))))
   (aT (bI (pv 4))))))),_,(aQ (cE 2 (eI (gO (bL 0) (bL 1)) (dZ (bJ (aJ 0) (bJ (aJ 1) dR))) dU (Fb (bQ (aB (aU kB (aB (aW 0 (aN 1))) (aB aI)))) (aW 2 (aN 0)) (fW (aB (aW 2 (aN 0))))) (by decide) (by decide)))
   (aQ (bC (fW (aB (eY Gq (aC (aE 2) aM)))) (aJ 3))
   (aQ (cE 4 (dQ bH (by decide)))
   (aQ (lY 2 (fL (Cu (aN 0) (aN 1) (aN 2)) (dZ (bJ (aJ 5) (bJ (aJ 6) (bJ (aJ 7) dR))))
    (gY (bC (Fb (bQ (aB (aU qH (aE 6) (aB (sR T.k_NOUGHT))))) (eY Gr (aC (aE 3) (aC (aB (aU bZ (aB aI) (aB (aW 2 (aN 5))))) aM))) aI) (aJ 8))
   (aQ (bC (aU cN (aE 3) (aE 8)) (aJ 3))
   (tX 4 (cH (aO (aU cN (aE 7) (aE 8)) (aO aI bH)) (by decide)))))))
   (eA 4))))),?_⟩
 intro B Q X qQ0;refine qq λqz=>?_;obtain⟨a,r,rfl,F,hw,k⟩:=qQ0;apply qz;walk_at"s"
 refine dM (λm:Mk=>PyData.tuple [eJ m,fr (r m)]) PyData.int (λm:Mk=>[gF r m]) a (by lia) (λQ h=>by
   walk_at"d"
   rw[oA];exact h) (λm h N G j=>?_) ?_
 ·walk_at"d";unfold gF at j;refine fG (λc=>?_) (λc=>?_)
  ·rw[if_pos ((iA _).mp c)]at j;exact j
  ·rw[if_neg (λz=>c ((iA _).mpr z))]at j;exact j
 rw[bO];walk_at"s";refine⟨a.map (gF r),rfl,?_⟩;rw[oP];walk_at"s";generalize L:-cG r a=L0 at *
 refine dO (eU (λm:Mk=>PyData.tuple [eJ m,fr (r m),.int (gF r m)]) a (λQ h=>by
   walk_at"d"
   rw[List.map_map,rN];exact h)
  (λi e=>∃(left:Int)(d:List Int)(l o p q:Option Sl),e=[some (.dat (.list (a.map eJ))),some (.dat (.list (a.map λm=>fr (r m)))),some (.dat (.list ((a.map (gF r)).map .int))),some (.dat (.int left)),some (.own (d.map Pw)),l,o,p,q]/\jG r L0 a=d++jG r left (a.drop i)/\d.length=i)
  ⟨L0,[],_,_,_,_,rfl,rfl,rfl⟩ ?_ ?_)
 ·intro i m e t qQ0;refine qq λqz=>?_;obtain⟨left,d,l,o,p,q,rfl,f,x⟩:=qQ0;apply qz;have v:=(List.getElem?_eq_some_iff.mp t).1;have M:=hw m (List.mem_of_getElem? t);have I:a.drop i=m::a.drop (i+1):=by
   rw[List.drop_eq_getElem_cons v]
   congr 1
   exact(List.getElem?_eq_some_iff.mp t).2
  rw[I,jG]at f;obtain⟨u,g⟩:∃u,nE r left m=u:=⟨_,rfl⟩;rw[g]at f;walk_at"d";refine iG (λe=>e=[some (.dat (.list (a.map eJ))),some (.dat (.list (a.map λm=>fr (r m)))),some (.dat (.list ((a.map (gF r)).map .int))),some (.dat (.int left)),some (.own (d.map Pw)),some (.dat (eJ m)),some (.dat (fr (r m))),some (.dat (.int (gF r m))),some (.dat (.int u))]) ?_ ?_
  ·walk_at"d";refine⟨Rat,sU,r m,0,rfl,rfl,λb y=>?_⟩;unfold nE at g;cases b with
   |true=>
    rw[if_pos (y.mp rfl)]at g;walk_at"d";refine⟨cF (tP (by decide +kernel)) (eH (n:=10^100) (by lia) (by decide +kernel)),?_⟩;rw[g]
   |false=>
    rw[if_neg (λz=>by have:=y.mpr z;cases this)]at g;walk_at"d";rw[g]
  rintro e rfl;walk_at"s";refine⟨by lia,left-u,d++[gF r m+u],_,_,_,_,by rw[List.map_append];rfl,by rw[f,List.append_assoc];rfl,by rw[List.length_append,x];rfl⟩
 ·intro e qQ0;refine qq λqz=>?_;obtain⟨left,d,l,o,p,q,rfl,f,x⟩:=qQ0;apply qz;rw[List.drop_length,jG,List.append_nil]at f;walk_at"d";rw[<-f];unfold tR at k;rw[List.map_map]at k;exact k
end
theorem iD{r:Mk->Rat}{A:List Mk}{left:Int}(h:0<=left)(hw:∀m∈A,1<=m.2.2/\m.2.2<=10^100):∀p∈tR (jG r left A),Cm 1 (10^100) p:=by
 have g:∀(A:List Mk)(left:Int),0<=left->(∀m∈A,1<=m.2.2/\m.2.2<=10^100)->∀n∈jG r left A,n.natAbs<=10^100:=λA=>by
  induction A with
  |nil=>intro left _ _ n h;exact nomatch h
  |cons m A b=>
   intro left h hw n a;have e:=hw m List.mem_cons_self;obtain⟨j,k⟩:=tS (r:=r) h e.1;rw[jG]at a;rcases List.mem_cons.mp a with rfl|a
   ·unfold gF nE;by_cases c:0<r m
    ·rw[if_pos c,if_neg (show r m≠0 by grind)];lia
    ·rw[if_neg c];by_cases d:r m=0
     ·rw[if_pos d];split <;>lia
     ·rw[if_neg d];lia
   ·exact b _ (by lia) (λx f=>hw x (List.mem_cons_of_mem _ f)) n a
 intro p i;obtain⟨n,a,rfl⟩:=List.mem_map.mp i;exact Cm.int (g A left h hw n a)
theorem tV{L:Nat}{d:List Mk}(Z:LSz L d){e:List Rat}(f:∀p∈e,Cm 1 (10^100) p)(i:Nat):Cm L (10^202) (tot ((List.zipWith (λ(m:Mk) p=>m.1*p) d e).take i)):=by
 have h:=Cm.tot (qs:=(List.zipWith (λ(m:Mk) p=>m.1*p) d e).take i) (L:=L) (B:=10^200) λq g=>by
  have c:=List.mem_of_mem_take g;rw[<-tQ (λm=>m.1)]at c;obtain⟨z,j,rfl⟩:=List.mem_map.mp c;obtain⟨k,n⟩:=List.of_mem_zip (a:=z.1) (b:=z.2) j;exact((Z.x _ k).mul (f _ n)).mono (by rw[Nat.mul_one];exact Nat.dvd_refl _) (by decide +kernel)
 have l:((List.zipWith (λ(m:Mk) p=>m.1*p) d e).take i).length<=60:=by
  rw[List.length_take,List.length_zipWith];have:=Z.n60;lia
 exact h.mono (Nat.dvd_refl _) (Nat.le_trans (Nat.mul_le_mul_right _ l) (by decide +kernel))
section
variable{P:Program}{w:World}{K:PySem.W.Frag}{mg:Str->Option Value}{base:Heap}{A:Adr}
noncomputable def Jt:DW:=λc Q _=>∃(a:List Mk)(b:List Rat)(L:Nat),c=[.list (a.map eJ),.list (b.map fr)]/\LSz L a/\(∀p∈b,Cm 1 (10^100) p)/\Q (.dat (fr (gS a b)))
theorem Ll(T:Txt K mg A):FnOk P w K mg base (eV P w) 4 A.a_qy A.d_qy ["marks","pulls"] (fD K Jt):=by
 have c:=lE (P:=P) (w:=w) (base:=base) T;have d:=vP (P:=P) (w:=w) (base:=base) T;refine gH T.F_qy Ko (λv Q E h=>?_) (λx F outer s H E j=>?_)
 ·obtain⟨_,_,_,rfl,_⟩:=h;rfl
 refine⟨_,(aT (bI (aK d (j.mono (by decide)) rfl T.m_qi T.F_qi.kp T.b_qi .nil aP (aA (hV (cap:=[none,none]) (NC:=["mark","pull"]) rfl ⟨rfl,rfl,by decide +kernel,by decide +kernel,trivial,(λ_ h=>nomatch h),rfl⟩ (fO (K:=K) rfl rfl T.n_zip (aA (pv 0) (aA (pv 1) aF))) (λ_ _ _ _=>(iS (K:=K) (n:=2) rfl rfl (bD (aZ (i:=0) (show List.Nodup (["mark","pull"]:List Str) by decide) rfl (Or.inl rfl)) (bD (aZ (i:=1) (show List.Nodup (["mark","pull"]:List Str) by decide) rfl (Or.inl rfl)) cW)))) (λ_ _ _ _=>dB) (λ_ _ _ _=>(aK c (j.mono (by decide)) rfl T.m_qe T.F_qe.kp T.b_qe .nil aP (aA (aX (bK (K:=K) rfl) (pv 0) aD (λ_ _=>rfl)) (aA (pv 1) aF))))) aF)))),_,(cC (aB (aL (aC (aB (dJ (eI (gO (bL 0) (bL 1)) (dZ (bJ (aJ 0) (bJ (aJ 1) dR))) dU (aL (aC (aB (aW 0 (aN 0))) (aC (aE 1) aM))) (by decide) (by decide)))) aM)))),?_⟩;intro v Q X qQ0;refine qq λqz=>?_;obtain⟨y,o,L,rfl,Z,r,k⟩:=qQ0;apply qz;have B:=Z.n60;have t:∀p∈o,Dg 101 p:=λp h=>(r p h).dg (by decide) (l:=0) (by decide) (b:=100) (Nat.le_refl _);walk_at"d";refine dM (λz:Mk×Rat=>PyData.tuple [eJ z.1,fr z.2]) fr (λz:Mk×Rat=>[z.1.1*z.2]) (y.zip o) (by rw[List.length_zip];lia) (λQ h=>by walk_at"d";rw[dG];exact h) (λz e N C D=>?_) ?_
 ·obtain⟨f,g⟩:=List.of_mem_zip (a:=z.1) (b:=z.2) e;walk_at"d";refine⟨_,_,rfl,cP (Z.xd f) (by decide),cP (t _ g) (by decide),?_⟩;walk_at"d";exact D
 rw[bO,tQ (λm=>m.1)];refine⟨_,rfl,λq u=>?_,λi=>cP ((tV Z r i).dg Z.L0 Z.L1 (b:=202) (Nat.le_refl _)) (by decide),?_⟩
 ·rw[<-tQ (λm=>m.1)]at u;obtain⟨z,e,rfl⟩:=List.mem_map.mp u;obtain⟨f,g⟩:=List.of_mem_zip (a:=z.1) (b:=z.2) e;exact cP ((Z.xd f).mul (t _ g)) (by decide)
 walk_at"d";exact k
noncomputable def Bq:DW:=λb Q _=>∃(a:List Mk)(l:Ln)(L:Nat),b=[.list (a.map eJ),.list [fr l.1,fr l.2]]/\LSz L a/\LnSz L a l/\FairL (rr l) a (eC l a)/\(0<=-cG (rr l) a)/\(0<=-cG (rr l) a.reverse)/\Q (.own ((qJ l a).map fr))
theorem Lm(T:Txt K mg A):FnOk P w K mg base (eV P w) 6 A.a_qx A.d_qx ["marks","line"] (fD K Bq):=by
 have C:=zG (P:=P) (w:=w) (base:=base) T;have D:=vO (P:=P) (w:=w) (base:=base) T;have t:=Ej (P:=P) (w:=w) (base:=base) T;have u:=Ll (P:=P) (w:=w) (base:=base) T;have F:=zH (P:=P) (w:=w) (base:=base) T;have x:=zI (P:=P) (w:=w) (base:=base) T;have G:=oD (P:=P) (w:=w) (base:=base) T;have I:=lE (P:=P) (w:=w) (base:=base) T;refine gH T.F_qx sc_qx (λds Q E h=>?_) (λa2 Ar outer s H E e=>?_)
 ·obtain⟨_,_,_,rfl,_⟩:=h;rfl
 refine⟨_,(aH (aY (i:=2) sc_qx.nd rfl (Or.inl rfl) (aK D (e.mono (by decide)) rfl T.m_qn T.F_qn.kp T.b_qn .nil aP (aA (pv 0) (aA (aK C (e.mono (by decide)) rfl T.m_qm T.F_qm.kp T.b_qm .nil aP (aA (pv 1) (aA (pv 0) aF))) aF))))
   (aH (aY (i:=3) sc_qx.nd rfl (Or.inl rfl) (aK t (e.mono (by decide)) rfl T.m_qz T.F_qz.kp T.b_qz .nil aP (aA (pv 0) (aA (pv 2) aF))))
   (aH (aY (i:=4) sc_qx.nd rfl (Or.inl rfl) (qL (K:=K) rfl (aK t (e.mono (by decide)) rfl T.m_qz T.F_qz.kp T.b_qz .nil aP (aA (qL (K:=K) rfl (pv 0) (lM (iV fU aD))) (aA (qL (K:=K) rfl (pv 2) (lM (iV fU aD))) aF))) (lM (iV fU aD))))
   (aH (aY (i:=5) sc_qx.nd rfl (Or.inl rfl) (aK u (e.mono (by decide)) rfl T.m_qy T.F_qy.kp T.b_qy .nil aP (aA (pv 0) (aA (pv 3) aF))))
   (aH (aY (i:=6) sc_qx.nd rfl (Or.inl rfl) (aK u (e.mono (by decide)) rfl T.m_qy T.F_qy.kp T.b_qy .nil aP (aA (pv 0) (aA (pv 4) aF))))
   (aH (cZ (bR (Nz (K:=K) rfl e.units) (pv 5) (pv 6) (bY _)) (aT (bI (pv 3))) bV)
   (aH (aY (i:=7) sc_qx.nd rfl (Or.inr rfl) (aK F (e.mono (by decide)) rfl T.m_qf T.F_qf.kp T.b_qf .nil aP (aA (pv 5) (aA (aK x (e.mono (by decide)) rfl T.m_qd T.F_qd.kp T.b_qd .nil aP (aA (pv 5) (aA (pv 6) aF))) aF))))
   (aT (bI (hV (cap:=[none,none,some 7]) (NC:=["one","other","part"]) rfl ⟨rfl,rfl,by decide +kernel,by decide +kernel,⟨⟨_,rfl,rfl,rfl,rfl,rfl⟩,trivial⟩,(List.forall_mem_cons.2 ⟨rfl,(λ_ h=>nomatch h)⟩),rfl⟩ (fO (K:=K) rfl rfl T.n_zip (aA (pv 3) (aA (pv 4) aF))) (λ_ _ _ _=>(iS (K:=K) (n:=2) rfl rfl (bD (aZ (i:=0) (show List.Nodup (["one","other","part"]:List Str) by decide) rfl (Or.inl rfl)) (bD (aZ (i:=1) (show List.Nodup (["one","other","part"]:List Str) by decide) rfl (Or.inl rfl)) cW)))) (λ_ _ _ _=>dB) (λ_ _ _ _=>(aK G (e.mono (by decide)) rfl T.m_qc T.F_qc.kp T.b_qc .nil aP (aA (pv 0) (aA (aK I (e.mono (by decide)) rfl T.m_qe T.F_qe.kp T.b_qe .nil aP (aA (pv 2) (aA (aK x (e.mono (by decide)) rfl T.m_qd T.F_qd.kp T.b_qd .nil aP (aA (pv 1) (aA (pv 0) aF))) aF))) aF)))))))))))))),_,(aQ (cE 2 (cK (aC (aE 0) (aC (aB (dJ (cK (aC (aE 1) (aC (aE 0) aM))))) aM))))
   (aQ (cE 3 (cK (aC (aE 0) (aC (aE 2) aM))))
   (aQ (cE 4 (qM (oG (cK (aC (aB (dJ (qM (bL 0) (lO (aB (kY (v:=(-1)) (fW (aB aI)) (λex δ Q h=>Eq.mpr (congrArg (λz=>Q (.int z)) (by decide +kernel:((-1):Int)=-1)) h))))))) (aC (aB (dJ (qM (bL 2) (lO (aB (kY (v:=(-1)) (fW (aB aI)) (λex δ Q h=>Eq.mpr (congrArg (λz=>Q (.int z)) (by decide +kernel:((-1):Int)=-1)) h))))))) aM)))) (lO (aB (kY (v:=(-1)) (fW (aB aI)) (λex δ Q h=>Eq.mpr (congrArg (λz=>Q (.int z)) (by decide +kernel:((-1):Int)=-1)) h))))))
   (aQ (bC (aL (aC (aE 0) (aC (aE 3) aM))) (aJ 5))
   (aQ (bC (aL (aC (aE 0) (aC (aE 4) aM))) (aJ 6))
   (aQ (cY (bQ (aB (aU qH (aE 5) (aE 6)))) (eA 3) bU)
   (aQ (bC (aL (aC (aE 5) (aC (aB (aL (aC (aE 5) (aC (aE 6) aM)))) aM))) (aJ 7))
   (gJ (eI (gO (bL 3) (bL 4)) (dZ (bJ (aJ 0) (bJ (aJ 1) dR))) dU (aL (aC (aE 0) (aC (aB (aL (aC (aE 2) (aC (aB (aL (aC (aE 1) (aC (aE 0) aM)))) aM)))) aM))) (by decide) (by decide)))))))))),?_⟩
 intro ds Q X qQ0;refine qq λqz=>?_;obtain⟨c,l,L,rfl,Z,lz,fe,f1,f2,k⟩:=qQ0;have J:=Z.n60;obtain⟨M,mz⟩:=lz.msz Z;apply qz;clear qz;walk_at"s";refine⟨[l.1,l.2],c,809,201,rfl,(show 2<=60 by decide),by lia,λn hn=>?_,λm h=>Z.xd h,(show 2*(809+201+2)<=2300 by decide),?_⟩
 ·simp only[List.mem_cons,List.not_mem_nil,or_false]at hn;rcases hn with rfl|rfl
  ·exact lz.a
  ·exact lz.s.mono (by decide)
 walk_at"d";refine⟨dE _,?_⟩;refine⟨c,_,rfl,by lia,mz.hOk,mz.rOk,?_⟩;walk_at"d";refine⟨dE _,?_⟩;have em:eK c (c.map λm=>sO [l.1,l.2] m.1)=c.map (rr l):=by
  rw[mI];exact List.map_congr_left λm _=>by rw[Ik];rfl
 rw[em];have a0:(c.map (rr l)).map fr=c.map λm=>fr (rr l m):=by rw[List.map_map];rfl
 rw[a0];walk_at"s";refine⟨c,rr l,rfl,J,Z.w,?_⟩;walk_at"d";refine⟨dE _,?_⟩;walk_at"s";refine⟨c.reverse,rr l,by rw[List.map_reverse,List.map_reverse],by rw[List.length_reverse];exact J,λm hm=>Z.w m (List.mem_reverse.mp hm),?_⟩;walk_at"d";refine⟨dE _,?_⟩;rw[<-List.map_reverse];refine qq λqz=>?_;obtain⟨f,q⟩:∃f,tR (jG (rr l) (-cG (rr l) c) c)=f:=⟨_,rfl⟩;obtain⟨g,r⟩:∃g,(tR (jG (rr l) (-cG (rr l) c.reverse) c.reverse)).reverse=g:=⟨_,rfl⟩;apply qz;clear qz;have y:eC l c=f:=q;have O:fP l c=g:=r;have U:∀p∈f,Cm 1 (10^100) p:=by rw[<-q];exact iD f1 Z.w
 have W:∀p∈g,Cm 1 (10^100) p:=by
  rw[<-r];intro p hp;exact iD f2 (λm hm=>Z.w m (List.mem_reverse.mp hm)) p (List.mem_reverse.mp hp)
 rw[q,r];unfold qJ at k;rw[y,O]at k;walk_at"s";refine⟨c,f,L,rfl,Z,U,?_⟩;walk_at"d";walk_at"s";refine⟨c,g,L,rfl,Z,W,?_⟩;walk_at"d";refine qq λqz=>?_;obtain⟨d,R⟩:∃d,gS c f=d:=⟨_,rfl⟩;obtain⟨j,S⟩:∃j,gS c g=j:=⟨_,rfl⟩;apply qz;clear qz;have dt:∀{Y:List Rat},(∀p∈Y,Cm 1 (10^100) p)->Dg 303 (gS c Y):=λ{Y} hp=>by
  have h:=tV Z hp (List.zipWith (λ(m:Mk) p=>m.1*p) c Y).length;rw[List.take_length]at h;exact h.dg Z.L0 Z.L1 (b:=202) (Nat.le_refl _)
 have o:=dt U;have B:=dt W;rw[R]at k o⊢;rw[S]at k B⊢;walk_at"s";refine⟨Rat,sU,d,j,rfl,rfl,λv hv=>?_⟩;cases v with
 |true=>
  rw[if_pos (hv.mp rfl)]at k;walk_at"d";exact k
 |false=>
  have ne:d≠j:=λz=>by have:=hv.mpr z;cases this
  rw[if_neg ne]at k;have dm:Dg 607 (d-j):=o.sub B;have n0:d-j≠0:=λz=>ne (by grind);have dp:Dg 911 (d/(d-j)):=o.div dm n0;walk_at"d";walk_at"s";refine⟨d,j,rfl,cP o (by decide),cP B (by decide),?_⟩;walk_at"d";refine⟨_,_,rfl,cP o (by decide),cP dm (by decide),λz=>absurd z n0,λ_=>?_⟩;walk_at"d";have a1:f.length=c.length:=by rw[<-y];exact fe.len
  refine dM (λz:Rat×Rat=>PyData.tuple [fr z.1,fr z.2]) fr (λz:Rat×Rat=>[z.1+d/(d-j)*(z.2-z.1)]) (f.zip g) (by rw[List.length_zip];lia) (λQ h=>by walk_at"d";rw[dG];exact h) (λz hz N a3 hN=>?_) ?_
  ·obtain⟨h1,h2⟩:=List.of_mem_zip (a:=z.1) (b:=z.2) hz;have d1:Dg 101 z.1:=(U _ h1).dg (by decide) (l:=0) (by decide) (b:=100) (Nat.le_refl _);have d2:Dg 101 z.2:=(W _ h2).dg (by decide) (l:=0) (by decide) (b:=100) (Nat.le_refl _);walk_at"d";refine⟨_,_,rfl,cP d2 (by decide),cP d1 (by decide),?_⟩;walk_at"d";refine⟨_,_,rfl,cP dp (by decide),cP (d2.sub d1) (by decide),?_⟩;walk_at"d";refine⟨_,_,rfl,cP d1 (by decide),cP (dp.mul (d2.sub d1)) (by decide),?_⟩;walk_at"d";exact hN
  have ez:(f.zip g).map (λz:Rat×Rat=>z.1+d/(d-j)*(z.2-z.1))=List.zipWith (λa b=>a+d/(d-j)*(b-a)) f g:=by
   clear k q r y O U W R S a1
   induction f generalizing g with
   |nil=>rfl
   |cons a f ih=>cases g with
    |nil=>rfl
    |cons b g=>rw[List.zip_cons_cons,List.map_cons,List.zipWith_cons_cons,ih]
  rw[bO,ez];exact k
noncomputable def Ka:DW:=λb Q _=>∃(a:List Mk)(L:Nat),b=[.list (a.map eJ)]/\LSz L a/\Q (.two [fr (bW a).1,fr (bW a).2] ((qJ (bW a) a).map fr))
theorem Lp(T:Txt K mg A):FnOk P w K mg base (eV P w) 7 A.a_qv A.d_qv ["marks"] (fD K Ka):=by
 have p:=Lo (P:=P) (w:=w) (base:=base) T;have q:=zG (P:=P) (w:=w) (base:=base) T;have r:=Lu (P:=P) (w:=w) (base:=base) T;have D:=sD (P:=P) (w:=w) (base:=base) T;have F:=Lm (P:=P) (w:=w) (base:=base) T;refine gH T.F_qv sc_qv (λds Q E h=>?_) (λa1 Ar outer s H E t=>?_)
 ·obtain⟨_,_,rfl,_⟩:=h;rfl
 refine⟨_,(aH (aY (i:=1) sc_qv.nd rfl (Or.inl rfl) (aK p (t.mono (by decide)) rfl T.m_qw T.F_qw.kp T.b_qw .nil aP (aA (pv 0) (aA (aX (iB (K:=K) rfl) (pv 0) aD (λ_ _=>rfl)) aF))))
   (aH (aY (i:=2) sc_qv.nd rfl (Or.inl rfl) (aK r (t.mono (by decide)) rfl T.m_qq T.F_qq.kp T.b_qq .nil aP (aA fB (aA (pv 0) (aA (aK q (t.mono (by decide)) rfl T.m_qm T.F_qm.kp T.b_qm .nil aP (aA (pv 1) (aA (pv 0) aF))) aF)))))
   (aH (fN PassesOwn.leaving rfl (jE (K:=K) rfl (zD (Ou (K:=K) rfl) (pv 0) (lM aD) Ca)) (aZ (i:=3) sc_qv.nd rfl (Or.inl rfl))
    (aH (aY (i:=4) sc_qv.nd rfl (Or.inl rfl) (aK p (t.mono (by decide)) rfl T.m_qw T.F_qw.kp T.b_qw .nil aP (aA (pv 0) (aA (pv 3) aF))))
   (aH (aY (i:=5) sc_qv.nd rfl (Or.inl rfl) (aK r (t.mono (by decide)) rfl T.m_qq T.F_qq.kp T.b_qq .nil aP (aA fB (aA (pv 0) (aA (aK q (t.mono (by decide)) rfl T.m_qm T.F_qm.kp T.b_qm .nil aP (aA (pv 4) (aA (pv 0) aF))) aF)))))
   (aT (cZ (jD (aK D (t.mono (by decide)) rfl T.m_qg T.F_qg.kp T.b_qg .nil aP (aA (pv 5) (aA (pv 2) aF)))) (aH (aY (i:=1) sc_qv.nd rfl (Or.inl rfl) (pv 4))
   (aT (aY (i:=2) sc_qv.nd rfl (Or.inl rfl) (pv 5)))) bV)))))
   (aT (bI (cD (aA (pv 1) (aA (aK F (t.mono (by decide)) rfl T.m_qx T.F_qx.kp T.b_qx .nil aP (aA (pv 0) (aA (pv 1) aF))) aF)))))))),_,(aQ (cE 1 (cK (aC (aE 0) (aC (aB (dW (bL 0) (aB aI))) aM))))
   (aQ (bC (aL (aC (aB fC) (aC (aE 0) (aC (aB (dJ (cK (aC (aE 1) (aC (aE 0) aM))))) aM)))) (aJ 2))
   (aQ (fL (iN (dJ (Le (bL 0) (lO (aB aI)) Lg))) (aJ 3)
    (aQ (cE 4 (cK (aC (aE 0) (aC (aE 3) aM))))
   (aQ (bC (aL (aC (aB fC) (aC (aE 0) (aC (aB (dJ (cK (aC (aE 4) (aC (aE 0) aM))))) aM)))) (aJ 5))
   (cY (tT (aB (aL (aC (aE 5) (aC (aE 2) aM))))) (aQ (Km 1 4 (by decide))
   (bC (aN 5) (aJ 2))) bU))))
   (vE (Ep 1 (cK (aC (aE 0) (aC (aE 1) aM)))))))),?_⟩
 intro ds Q X qQ0;refine qq λqz=>?_;obtain⟨a,L,rfl,Z,k⟩:=qQ0;apply qz;have a2:=Z.n60;have n1:=Z.n1;have u:∀{l:Ln}{m:Mk}{z:Sl->Prop}{Xs:Addr->Prop},m∈a->l=bP a m->z (.own ((a.map λm=>sO [l.1,l.2] m.1).map fr))->yI [.list [fr l.1,fr l.2],.list (a.map eJ)] z Xs:=λ{l m z Xs} b e h=>by
  obtain⟨G,I⟩:=eR Z b;have C:=lP Z b G I;rw[<-e]at C;refine⟨[l.1,l.2],a,809,201,rfl,(show 2<=60 by decide),by lia,λn hn=>?_,λm h=>Z.xd h,(show 2*(809+201+2)<=2300 by decide),h⟩;simp only[List.mem_cons,List.not_mem_nil,or_false]at hn;rcases hn with rfl|rfl
  ·exact C.a
  ·exact C.s.mono (by decide)
 have v:∀{l:Ln}{m:Mk}{z:Sl->Prop},m∈a->l=bP a m->z (.dat (fr (FS a l)))->Dx A.x_NoKind [.str "sum",.list (a.map eJ),.list ((a.map λm=>sO [l.1,l.2] m.1).map fr)] z λ_=>False:=λ{l m z} b e h=>by
  obtain⟨G,I⟩:=eR Z b;have C:=lP Z b G I;rw[<-e]at C;obtain⟨M,O⟩:=C.msz Z;refine⟨.str "sum",a,_,_,_,_,_,_,_,rfl,O,Z.ne,by rw[List.length_map],λkd R=>by cases R;decide +kernel,λkd R _=>?_,λhx=>absurd (show("sum":Str)∈sN by simp[sN]) (hx "sum" rfl)⟩;cases R;rw[xA Z.w1];exact h
 have x:∀{m:Mk},m∈a->Ok (FS a (bP a m)):=λ{m} b=>by
  obtain⟨G,I⟩:=eR Z b;obtain⟨M,O⟩:=(lP Z b G I).msz Z;rw[<-xA Z.w1];exact O.measOk
 obtain⟨y,f,J⟩:∃y f,a=y::f:=by
  cases a with
  |nil=>exact absurd rfl Z.ne
  |cons m A=>exact⟨m,A,rfl⟩
 have g:y∈a:=by rw[J];exact List.mem_cons_self
 have Am:∀m∈f,m∈a:=λm h=>by rw[J];exact List.mem_cons_of_mem _ h
 have eb:bW a=gQ a (bP a y) f:=by rw[J];rfl
 walk_at"s";refine⟨eJ y,show nF (a.map eJ) ((0:Nat):Int)=_ from fS (by rw[J];rfl),?_⟩;refine⟨a,y,L,rfl,Z,g,?_⟩;walk_at"d";obtain⟨l0,j⟩:∃l0,bP a y=l0:=⟨_,rfl⟩;rw[j]at eb⊢;walk_at"s";refine u g j.symm ?_;walk_at"d";refine⟨dE _,?_⟩;refine v g j.symm ?_;walk_at"d";walk_at"s";have ec:xX (a.map eJ) (some 1) none=f.map eJ:=by
  have:=Dj (a.map eJ) 1;rw[show((1:Nat):Int)=1 from rfl]at this;rw[this,J];rfl
 refine dO (eU eJ f (λQ h=>by
   walk_at"d"
   rw[ec];exact h)
  (λi S=>∃(l:Ln)(U W Y:Option Sl),S=[some (.dat (.list (a.map eJ))),some (.own [fr l.1,fr l.2]),some (.dat (fr (FS a l))),U,W,Y]/\(∃m∈a,l=bP a m)/\gQ a l (f.drop i)=bW a)
  ⟨l0,_,_,_,rfl,⟨y,g,j.symm⟩,eb.symm⟩ ?_ ?_)
 ·intro i m S hi qQ0;refine qq λqz=>?_;obtain⟨l,U,W,Y,rfl,⟨m1,B,el⟩,o⟩:=qQ0;apply qz;have b:=Am m (List.mem_of_getElem? hi);have a0:=(List.getElem?_eq_some_iff.mp hi).1;have ed:f.drop i=m::f.drop (i+1):=by
   rw[List.drop_eq_getElem_cons a0]
   congr 1
   exact(List.getElem?_eq_some_iff.mp hi).2
  rw[ed,gQ]at o;walk_at"s";refine⟨a,m,L,rfl,Z,b,?_⟩;walk_at"d";obtain⟨N,d⟩:∃N,bP a m=N:=⟨_,rfl⟩;rw[d]at o⊢;walk_at"s";refine u b d.symm ?_;walk_at"d";refine⟨dE _,?_⟩;refine v b d.symm ?_;walk_at"d";refine⟨FS a N,FS a l,rfl,by rw[<-d];exact x b,by rw[el];exact x B,?_⟩;walk_at"d";refine fG (λc=>?_) (λc=>?_)
  ·rw[if_pos c]at o;walk_at"s";exact⟨N,some _,none,some _,rfl,⟨m,b,d.symm⟩,o⟩
  ·rw[if_neg c]at o;exact⟨l,some _,some _,some _,rfl,⟨m1,B,el⟩,o⟩
 ·intro S qQ0;refine qq λqz=>?_;obtain⟨l,U,W,Y,rfl,⟨m1,B,el⟩,o⟩:=qQ0;apply qz;rw[List.drop_length,gQ]at o;rw[o];refine qq λqz=>?_;obtain⟨fe,_,_,f1,f2⟩:=mX Z;apply qz;walk_at"d";refine⟨a,bW a,L,rfl,Z,Dm Z,fe,f1,f2,?_⟩;walk_at"d";exact⟨dE _,k⟩
end
noncomputable def iM(a:List Mk):Rat:=qR (a.map λm=>(m.2.1,(m.2.2:Rat)))
theorem qS{a:List Mk}(hw:∀m∈a,1<=m.2.2):∀z∈a.map λm:Mk=>(m.2.1,(m.2.2:Rat)),0<z.2:=λz b=>by
 obtain⟨m,c,rfl⟩:=List.mem_map.mp b;exact Rat.intCast_pos.mpr (by have:=hw m c;lia)
theorem vX{a:List Mk}(b:a≠[])(hw:∀m∈a,1<=m.2.2):Mid (a.map λm=>(m.2.1,(m.2.2:Rat))) (iM a):=gB (by simpa using b) (qS hw)
theorem qT{a:List Mk}(b:a≠[])(hw:∀m∈a,1<=m.2.2):∃m∈a,m.2.1=iM a:=by
 refine qq λqz=>?_;obtain⟨z,c,e⟩:=(vX b hw).mem;obtain⟨m,d,rfl⟩:=List.mem_map.mp c;apply qz;exact⟨m,d,e⟩
theorem vY(a:List Mk)(t:Rat):rJ (a.map λm=>(m.2.1,(m.2.2:Rat))) t=FS a (t,0):=by
 unfold rJ FS rr;rw[List.map_map]
 congr 1
 refine List.map_congr_left λm _=>?_;show(m.2.2:Rat)*bM (m.2.1-t)=_
 congr 2
 grind
theorem kU{b:List Mk}(c:b≠[])(hw:∀m∈b,1<=m.2.2)(a:Rat):FS b (iM b,0)<=FS b (a,0):=by
 rw[<-vY,<-vY];exact kT (λz d=>by have:=qS hw z d;grind) (vX c hw) a
theorem Di{b:List Mk}{x:Rat}(h:∀a,FS b (x,0)<=FS b (a,0))(d:Rat):0<=tot (b.map (dv (rr (x,0)) λ_=>d)):=by
 obtain⟨t,f,g⟩:=jB (rr (x,0)) (λ_=>d) b;have e:=mB f g;have i:=h (x+t*d);have j:FS b (x+t*d,0)=tot (b.map λm=>(m.2.2:Rat)*bM (rr (x,0) m-t*d)):=by
  unfold FS rr
  congr 1
  refine List.map_congr_left λm _=>?_
  congr 2
  grind
 have k:FS b (x,0)=tot (b.map λm=>(m.2.2:Rat)*bM (rr (x,0) m)):=rfl;rw[j,e,k]at i;refine Rat.not_lt.mp λc=>?_;have:=Rat.mul_pos f (show 0< -tot (b.map (dv (rr (x,0)) λ_=>d)) by grind);grind
theorem xQ{a:List Mk}(b:a≠[])(hw:∀m∈a,1<=m.2.2):0<=-cG (rr (iM a,0)) a/\tot (eC (iM a,0) a)=0/\FairL (rr (iM a,0)) a (eC (iM a,0) a):=by
 have d:=Di (kU b hw);obtain⟨g,h⟩:=uL (rr (iM a,0)) a;have f:=d 1;have c:=d (-1);rw[g,<-Rat.intCast_neg]at f;rw[h]at c;have l0:0<=-cG (rr (iM a,0)) a:=Rat.intCast_nonneg.mp f;have l1:-cG (rr (iM a,0)) a<=2*gR (rr (iM a,0)) a:=by
  have e:(cG (rr (iM a,0)) a:Rat)+2*(gR (rr (iM a,0)) a:Rat)=((cG (rr (iM a,0)) a+2*gR (rr (iM a,0)) a:Int):Rat):=by rw[Rat.intCast_add,Rat.intCast_mul];rfl
  rw[e]at c;have:=Rat.intCast_nonneg.mp c
  lia
 refine⟨l0,?_,kJ _ _ _ l0 hw⟩;unfold eC;rw[tW,qY _ _ _ l0 hw,if_neg (by lia),show cG (rr (iM a,0)) a+-cG (rr (iM a,0)) a=0 by lia];rfl
section
variable{P:Program}{w:World}{K:PySem.W.Frag}{mg:Str->Option Value}{base:Heap}{A:Adr}
noncomputable def Bp:DW:=λb Q _=>∃(a:List Mk)(L:Nat),b=[.str "sum",.list (a.map eJ)]/\LSz L a/\Q (.dat (fr (iM a)))
theorem Ls(T:Txt K mg A):FnOk P w K mg base (eV P w) 5 A.a_qr A.d_qr ["kind","marks"] (fD K Bp):=by
 have b:=Ek (P:=P) (w:=w) (base:=base) T;have g:=lE (P:=P) (w:=w) (base:=base) T;have j:=oD (P:=P) (w:=w) (base:=base) T;have l:=El (P:=P) (w:=w) (base:=base) T;have n:=Lz (P:=P) (w:=w) (base:=base) T;have p:=zH (P:=P) (w:=w) (base:=base) T;have r:=vP (P:=P) (w:=w) (base:=base) T;refine gH T.F_qr sc_qr (λu Q E h=>?_) (λy O outer s H E C=>?_)
 ·obtain⟨_,_,rfl,_⟩:=h;rfl
 refine⟨_,(aH (eW (i:=2) (cap:=[none]) (NC:=["mark"]) sc_qr.nd rfl rfl rfl ⟨rfl,rfl,by decide +kernel,by decide +kernel,trivial,(λ_ h=>nomatch h),rfl⟩ (jE (K:=K) rfl (pv 1)) (λ_ _ _ _=>(aZ (i:=0) (show List.Nodup (["mark"]:List Str) by decide) rfl (Or.inl rfl))) (λ_ _ _ _=>dB) (λ_ _ _ _=>(aX (bK (K:=K) rfl) (pv 0) aD (λ_ _=>rfl))))
   (aH (cZ (bR fF (pv 0) fB (bY _)) (aT zC) bV)
   (aH (eW (i:=3) (cap:=[none]) (NC:=["mark"]) sc_qr.nd rfl rfl rfl ⟨rfl,rfl,by decide +kernel,by decide +kernel,trivial,(λ_ h=>nomatch h),rfl⟩ (jE (K:=K) rfl (pv 1)) (λ_ _ _ _=>(aZ (i:=0) (show List.Nodup (["mark"]:List Str) by decide) rfl (Or.inl rfl))) (λ_ _ _ _=>dB) (λ_ _ _ _=>(cD (aA (aX (bK (K:=K) rfl) (pv 0) aD (λ_ _=>rfl)) (aA aD aF)))))
   (aH (cZ (bR fF (pv 0) fB (bY _)) (aT (bI (aK b (C.mono (by decide)) rfl T.m_qs T.F_qs.kp T.b_qs .nil aP (aA (pv 2) (aA (pv 3) aF))))) bV)
   (aH zC
   (aT zC)))))),_,(aQ (cE 2 (eI (fH (bL 1)) (aJ 0) dU (aW 1 (aN 0)) (by decide) (by decide)))
   (aQ (cY (bQ (aB (aU fE (aE 0) (aB fC)))) yR bU)
   (aQ (cE 3 (eI (fH (bL 1)) (aJ 0) dU (cH (aO (aW 2 (aN 0)) (aO aI bH)) (by decide)) (by decide) (by decide)))
   (aQ (cY (bQ (aB (aU fE (aE 0) (aB fC)))) (cC (aB (aL (aC (aE 2) (aC (aE 3) aM))))) bU)
   (aQ yR
   yR))))),?_⟩
 intro u Q X qQ0;refine qq λqz=>?_;obtain⟨a,L,rfl,Z,k⟩:=qQ0;apply qz;clear qz;have c:=Z.n60;walk_at"s";refine dM eJ fr (λm:Mk=>[m.2.1]) a (by lia) (λQ h=>h) (λm h N d e=>?_) ?_
 ·walk_at"d";exact e
 rw[bO];walk_at"s";rw[if_neg (by decide)];walk_at"s";refine dM eJ fr (λm:Mk=>[(m.2.2:Rat)]) a (by lia) (λQ h=>h) (λm h N d e=>?_) ?_
 ·walk_at"d";exact e
 rw[bO];walk_at"s";have D:(a.map λm:Mk=>m.2.1).zip (a.map λm:Mk=>(m.2.2:Rat))=a.map λm=>(m.2.1,(m.2.2:Rat)):=by
  clear k Z c
  induction a with
  |nil=>rfl
  |cons o R F=>rw[List.map_cons,List.map_cons,List.map_cons,List.zip_cons_cons,F]
 refine⟨a.map λm=>m.2.1,a.map λm=>(m.2.2:Rat),1,rfl,by decide,Nat.one_le_pow _ _ (by decide),by rw[List.length_map,List.length_map],by rw[List.length_map];exact Z.n1,by rw[List.length_map];exact c,λq G=>?_,λv I=>?_,λx t=>?_⟩
 ·obtain⟨m,f,rfl⟩:=List.mem_map.mp G;exact cP (Z.yd f) (by decide)
 ·obtain⟨m,f,rfl⟩:=List.mem_map.mp I;have hw:=Z.w m f;exact⟨Rat.intCast_pos.mpr (by lia),(Cm.int (i:=m.2.2) (B:=10^100) (by lia)).mono (Nat.dvd_refl _) (eQ (by decide))⟩
 rw[D]at t;have J:iM a=x:=vS (λz M=>by have:=qS Z.w1 z M;grind) t;rw[J]at k;walk_at"d";exact k
noncomputable def Jy:DW:=λb Q _=>∃(a:List Mk)(L:Nat),b=[.list (a.map eJ)]/\LSz L a/\Q (.two [fr (iM a)] ((eC (iM a,0) a).map fr))
theorem Lq(T:Txt K mg A):FnOk P w K mg base (eV P w) 6 A.a_qu A.d_qu ["marks"] (fD K Jy):=by
 have b:=Ls (P:=P) (w:=w) (base:=base) T;have c:=zG (P:=P) (w:=w) (base:=base) T;have d:=vO (P:=P) (w:=w) (base:=base) T;have f:=Ej (P:=P) (w:=w) (base:=base) T;refine gH T.F_qu sc_qu (λt Q E h=>?_) (λu B outer s H E g=>?_)
 ·obtain⟨_,_,rfl,_⟩:=h;rfl
 refine⟨_,(aH (aY (i:=1) sc_qu.nd rfl (Or.inl rfl) (dP (aA (aK b (g.mono (by decide)) rfl T.m_qr T.F_qr.kp T.b_qr .nil aP (aA fB (aA (pv 0) aF))) aF)))
   (aH (aY (i:=2) sc_qu.nd rfl (Or.inl rfl) (aK d (g.mono (by decide)) rfl T.m_qn T.F_qn.kp T.b_qn .nil aP (aA (pv 0) (aA (aK c (g.mono (by decide)) rfl T.m_qm T.F_qm.kp T.b_qm .nil aP (aA (pv 1) (aA (pv 0) aF))) aF))))
   (aT (bI (cD (aA (pv 1) (aA (aK f (g.mono (by decide)) rfl T.m_qz T.F_qz.kp T.b_qz .nil aP (aA (pv 0) (aA (pv 2) aF))) aF))))))),_,(aQ (cE 1 (dQ (aO (aL (aC (aB fC) (aC (aE 0) aM))) bH) (by decide)))
   (aQ (cE 2 (cK (aC (aE 0) (aC (aB (dJ (cK (aC (aE 1) (aC (aE 0) aM))))) aM))))
   (vE (Ep 1 (cK (aC (aE 0) (aC (aE 2) aM))))))),?_⟩
 intro t Q X qQ0;refine qq λqz=>?_;obtain⟨a,L,rfl,Z,k⟩:=qQ0;have j:=Z.n60;obtain⟨x,l⟩:∃x,iM a=x:=⟨_,rfl⟩;apply qz;have o:Dg 201 x:=by
  obtain⟨m,p,e⟩:=qT Z.ne Z.w1;rw[<-l,<-e];exact Z.yd p
 walk_at"s";refine⟨a,L,rfl,Z,?_⟩;rw[l]at k⊢;walk_at"d";walk_at"s";refine⟨[x],a,201,201,rfl,(show 1<=60 by decide),by lia,λn v=>by rw[List.mem_singleton.mp v];exact o,λm h=>Z.xd h,(show 1*(201+201+2)<=2300 by decide),?_⟩;walk_at"d";refine⟨dE _,?_⟩;have r:∀m:Mk,sO [x] m.1=x:=λm=>by rw[mL,wD];grind
 refine⟨a,_,rfl,by lia,λm h=>cP (Z.yd h) (by decide),λq y=>by
  obtain⟨m,p,rfl⟩:=List.mem_map.mp y
  rw[r];exact cP o (by decide),?_⟩
 walk_at"d";refine⟨dE _,?_⟩;have z:(eK a (a.map λm=>sO [x] m.1)).map fr=a.map λm=>fr (rr (x,0) m):=by
  rw[mI,List.map_map];exact List.map_congr_left λm _=>by
   show fr (m.2.1-sO [x] m.1)=fr (rr (x,0) m);rw[r];unfold rr;congr 1;grind
 rw[z];walk_at"d";refine⟨a,rr (x,0),rfl,j,Z.w,?_⟩;walk_at"d";exact⟨dE _,k⟩
end
noncomputable def cA(a:List Int)(k:Int):Int:=if k<(a.length:Int)then a.getD k.toNat default else 11*k*k+5*k+2
theorem tI{a:List Int}(h:∀v∈a,Builtin.Int.intBits v<=1048576){k:Int}(b:0<=k)(c:k<=1000):Bg 1048577 (cA a k):=by
 unfold cA;split
 ·exact Bg.of (Ad (p:=λv=>Builtin.Int.intBits v<=1048576) h (by decide))
 ·refine Bg.small ?_ (by decide);have d:11*k*k<=11000*1000:=Int.mul_le_mul (by lia) c b (by lia);have e:0<=11*k*k:=Int.mul_nonneg (by lia) b
  lia
theorem kM{b:Type}{xs:List b}{i:Int}(c:0<=i)(d:i<(xs.length:Int)):∃x,x∈xs/\nF xs i=some x:=by
 obtain⟨n,rfl⟩:∃n:Nat,i=(n:Int):=⟨i.toNat,by lia⟩;have a:n<xs.length:=by lia
 exact⟨xs[n],List.getElem_mem a,fS (List.getElem?_eq_getElem a)⟩
section
variable{P:Program}{w:World}{K:PySem.W.Frag}{mg:Str->Option Value}{base:Heap}{A:Adr}
noncomputable def Kc:DW:=λb Q _=>∃(a:List Int)(k:Int),b=[.list (a.map .int),.int k]/\0<=k/\k<=1000/\Q (.dat (.int (cA a k)))
theorem zJ(T:Txt K mg A):FnOk P w K mg base (eV P w) 1 A.a_qa1 A.d_qa1 ["script","k"] (fD K Kc):=by
 refine gH T.F_qa1 Gk (λb Q E h=>?_) (λd f outer s H E g=>?_)
 ·obtain⟨_,_,rfl,_⟩:=h;rfl
 refine⟨_,(aH (cZ (bR oC (pv 1) (cL (uH (K:=K) rfl) rfl T.n_len PySem.boot_len (aA (pv 0) aF)) (bY _)) (aT (bI (aX (iB (K:=K) rfl) (pv 0) (pv 1) (λ_ _=>rfl)))) bV)
   (aT (bI (aV cR (aV cR (aV bG (aV bG aD (pv 1)) (pv 1)) (aV bG aD (pv 1))) aD)))),_,(aQ (cY (bQ (aB (aU kB (aE 1) (aB (eY jC (aC (aE 0) aM)))))) (cC (aB (dW (bL 0) (aE 1)))) bU)
   (cC (aB (aU cN (aB (aU cN (aB (aU bZ (aB (aU bZ (aB aI) (aE 1))) (aE 1))) (aB (aU bZ (aB aI) (aE 1))))) (aB aI))))),?_⟩
 intro b Q X qQ0;refine qq λqz=>?_;obtain⟨i,k,rfl,e,j,a⟩:=qQ0;apply qz;unfold cA at a;walk_at"s";refine fG (λc=>?_) (λc=>?_)
 ·rw[if_pos c]at a;exact⟨_,Bc PyData.int e c,a⟩
 ·rw[if_neg c]at a;walk_at"d";exact⟨cF (tP (by decide +kernel)) (eH (n:=1000) (by lia) (by decide +kernel)),cF (eH (n:=11000) (by lia) (by decide +kernel)) (eH (n:=1000) (by lia) (by decide +kernel)),cF (tP (by decide +kernel)) (eH (n:=1000) (by lia) (by decide +kernel)),a⟩
noncomputable def Ol:DW:=λc Q _=>∃a b:Int,c=[.int a,.int b]/\0<=b/\Q (.dat (.int ((Int.gcd a b:Nat):Int)))
theorem Hr(T:Txt K mg A):FnOk P w K mg base (eV P w) 1 A.a_qb1 A.d_qb1 ["one","other"] (fD K Ol):=by
 refine gH T.F_qb1 sc_qb1 (λn Q E h=>?_) (λo q outer s H E r=>?_)
 ·obtain⟨a,b,rfl,_⟩:=h;rfl
 refine⟨_,(aH (mE PassesOwn.leaving (bR Eh (pv 1) aD (bY _)) (aT (Gw (i:=0) (j:=1) rfl sc_qb1.nd rfl rfl (by decide) rfl rfl (aA (pv 1) (aA (aV cO (pv 0) (pv 1)) aF)) rfl)))
   (aT (bI (cL eZ rfl T.n_abs iH (aA (pv 0) aF))))),_,(aQ (lX (bQ (aB (aU Ef (aE 1) (aB aI)))) (Gd 0 1 (aO (aN 1) (aO (aU bZ (aE 0) (aE 1)) bH))))
   (cC (aB (eY gZ (aC (aE 0) aM))))),?_⟩
 intro n Q X qQ0;refine qq λqz=>?_;obtain⟨a,b,rfl,p,k⟩:=qQ0;apply qz;refine dO ?_;refine⟨λm g=>∃x y:Int,g=[some (.dat (.int x)),some (.dat (.int y))]/\m=y.toNat/\0<=y/\Int.gcd x y=Int.gcd a b,⟨_,a,b,rfl,rfl,p,rfl⟩,?_⟩;intro m g qQ0;refine qq λqz=>?_;obtain⟨x,y,rfl,rfl,t,l⟩:=qQ0;apply qz;walk_at"d";refine fG (λc=>?_) (λc=>?_)
 ·have d:y≠0:=c;have f:0<y:=by lia
  refine⟨f,_,?_,y,x%y,rfl,rfl,Int.emod_nonneg _ d,?_⟩
  ·have:=Int.emod_lt_of_pos x f;have:=Int.emod_nonneg x d
   lia
  ·rw[Fm.gcd_step x y f,l]
 ·have d:y=0:=Decidable.not_not.mp c;subst d;have e:(if x<0 then -x else x)=((Int.gcd a b:Nat):Int):=by
   rw[<-l,Int.gcd_zero_right];split <;>lia
  walk_at"d";rw[e];exact k
noncomputable def Oh:DW:=λa Q _=>∃t b:Int,a=[.int t,.int b]/\1<=b/\Wee b/\Q (.dat (fr (Rat.divInt t b)))
theorem kS(T:Txt K mg A):FnOk P w K mg base (eV P w) 2 A.a_qc1 A.d_qc1 ["top","bottom"] (fD K Oh):=by
 have d:=Hr (P:=P) (w:=w) (base:=base) T;refine gH T.F_qc1 sc_qc1 (λg Q E h=>?_) (λj o outer s H E l=>?_)
 ·obtain⟨_,_,rfl,_⟩:=h;rfl
 refine⟨_,(aH (aY (i:=2) sc_qc1.nd rfl (Or.inl rfl) (aK d (l.mono (by decide)) rfl T.m_qb1 T.F_qb1.kp T.b_qb1 .nil aP (aA (pv 0) (aA (pv 1) aF))))
   (aH (cZ (bR oC (pv 1) aD (bY _)) (aT (aY (i:=2) sc_qc1.nd rfl (Or.inl rfl) (iV fU (pv 2)))) bV)
   (aT (bI (cD (aA (aV cS (pv 0) (pv 2)) (aA (aV cS (pv 1) (pv 2)) aF))))))),_,(aQ (bC (aL (aC (aE 0) (aC (aE 1) aM))) (aJ 2))
   (aQ (cY (bQ (aB (aU kB (aE 1) (aB aI)))) (bC (fW (aE 2)) (aJ 2)) bU)
   (cC (aB (cH (aO (aU bZ (aE 0) (aE 2)) (aO (aU bZ (aE 1) (aE 2)) bH)) (by decide)))))),?_⟩
 intro g Q X qQ0;refine qq λqz=>?_;obtain⟨t,b,rfl,p,hw,k⟩:=qQ0;apply qz;walk_at"s";refine⟨t,b,rfl,by lia,?_⟩;have e:(0:Int)<((Int.gcd t b:Nat):Int):=by have:=Fm.gcd_pos_right (a:=t) (b:=b) (by lia);lia
 have f:Wee ((Int.gcd t b:Nat):Int):=uV (Fm.gcd_le_right (a:=t) (b:=b) (by lia)) hw;obtain⟨m,n⟩:=Fm.fr_pos (t:=t) (b:=b) (by lia);walk_at"s";refine fG (λc=>absurd c (by lia)) (λc=>?_);walk_at"d";refine⟨⟨e,f⟩,⟨e,f⟩,?_⟩;rw[m,n];exact k
end
noncomputable abbrev pr(p:Int×Int):PyData:=.tuple [.int p.1,.int p.2]
section
variable{P:Program}{w:World}{K:PySem.W.Frag}{mg:Str->Option Value}{base:Heap}{A:Adr}
noncomputable def yH:DW:=λa Q _=>∃(t b u c:Int)(n m:Nat),a=[pr (t,b),pr (u,c)]/\0<b/\0<c/\t.natAbs<=10^n/\b.natAbs<=10^n/\u.natAbs<=10^m/\c.natAbs<=10^m/\n+m<=2400/\Q (.dat (fr (Rat.divInt t b+Rat.divInt u c)))
theorem lZ{a b:Rat}{n m:Nat}{Q:Sl->Prop}{X:DX}(c:Dg n a)(d:Dg m b)(l:n+m<=2400)(k:Q (.dat (fr (a+b)))):yH [fr a,fr b] Q X:=by
 have e:=Fm.den_pos a;have f:=Fm.den_pos b;refine⟨a.num,a.den,b.num,b.den,n,m,rfl,by lia,by lia,c.n,by have:=c.d;lia,d.n,by have:=d.d;lia,l,?_⟩;rw[Rat.num_divInt_den,Rat.num_divInt_den];exact k
theorem Gf{a:Rat}{u c:Int}{n m:Nat}{Q:Sl->Prop}{X:DX}(d:Dg n a)(e:0<c)(f:u.natAbs<=10^m)(b:c.natAbs<=10^m)(l:n+m<=2400)(k:Q (.dat (fr (a+Rat.divInt u c)))):yH [fr a,pr (u,c)] Q X:=by
 have g:=Fm.den_pos a;refine⟨a.num,a.den,u,c,n,m,rfl,by lia,e,d.n,by have:=d.d;lia,f,b,l,?_⟩;rw[Rat.num_divInt_den];exact k
theorem tL{t b u c:Int}(g:0<b)(h:0<c):Rat.divInt (t*c+u*b) (b*c)=Rat.divInt t b+Rat.divInt u c:=by
 have a:(b:Rat)≠0:=λz=>by have:=Rat.intCast_eq_zero_iff.mp z;lia
 have d:(c:Rat)≠0:=λz=>by have:=Rat.intCast_eq_zero_iff.mp z;lia
 refine(Fm.eq_divInt (Int.mul_ne_zero (by lia) (by lia)) ?_).symm;rw[Fm.mk_div t b (by lia),Fm.mk_div u c (by lia),Rat.intCast_add,Rat.intCast_mul,Rat.intCast_mul,Rat.intCast_mul];have e:(t:Rat)/b*b=t:=Rat.div_mul_cancel a;have f:(u:Rat)/c*c=u:=Rat.div_mul_cancel d;generalize (t:Rat)/b=x at e⊢;generalize (u:Rat)/c=y at f⊢;rw[<-e,<-f];grind
theorem qO(T:Txt K mg A):FnOk P w K mg base (eV P w) 3 A.a_qd1 A.d_qd1 ["one","other"] (fD K yH):=by
 have a:=kS (P:=P) (w:=w) (base:=base) T;refine gH T.F_qd1 Gj (λo Q E h=>?_) (λp z outer s H E q=>?_)
 ·obtain⟨_,_,_,_,_,_,rfl,_⟩:=h;rfl
 refine⟨_,(aT (bI (aK a (q.mono (by decide)) rfl T.m_qc1 T.F_qc1.kp T.b_qc1 .nil aP (aA (aV cR (aV bG (aX (bK (K:=K) rfl) (pv 0) aD (λ_ _=>rfl)) (aX (bK (K:=K) rfl) (pv 1) aD (λ_ _=>rfl))) (aV bG (aX (bK (K:=K) rfl) (pv 1) aD (λ_ _=>rfl)) (aX (bK (K:=K) rfl) (pv 0) aD (λ_ _=>rfl)))) (aA (aV bG (aX (bK (K:=K) rfl) (pv 0) aD (λ_ _=>rfl)) (aX (bK (K:=K) rfl) (pv 1) aD (λ_ _=>rfl))) aF))))),_,(cC (aB (aL (aC (aB (aU cN (aB (aU bZ (aB (aW 0 (aN 0))) (aB (aW 1 (aN 1))))) (aB (aU bZ (aB (aW 0 (aN 1))) (aB (aW 1 (aN 0))))))) (aC (aB (aU bZ (aB (aW 1 (aN 0))) (aB (aW 1 (aN 1))))) aM))))),?_⟩;intro o Q X qQ0;refine qq λqz=>?_;obtain⟨t,b,u,c,n,m,rfl,d,e,r,f,v,g,l,k⟩:=qQ0;apply qz;have x:=dA r (by lia);have i:=dA f (by lia);have y:=dA v (by lia);have j:=dA g (by lia);walk_at"d";have B:=Int.mul_pos d e;refine⟨cF x j,cF y i,cF i j,_,_,rfl,by lia,dA (n:=n+m) (by rw[Int.natAbs_mul,Nat.pow_add];exact Nat.mul_le_mul f g) l,?_⟩;rw[tL d e];walk_at"d";exact k
end
theorem Pd(n:Int):Rat.divInt n 1=(n:Rat):=by
 rw[Fm.mk_div n 1 (by decide)];have h:(n:Rat)/((1:Int):Rat)*((1:Int):Rat)=n:=Rat.div_mul_cancel (by decide);have e:((1:Int):Rat)=1:=rfl;rw[e,Rat.mul_one]at h;exact h
theorem zM{t b u c:Int}(g:0<b)(h:0<c):Rat.divInt (t*u) (b*c)=Rat.divInt t b*Rat.divInt u c:=by
 have a:(b:Rat)≠0:=λz=>by have:=Rat.intCast_eq_zero_iff.mp z;lia
 have d:(c:Rat)≠0:=λz=>by have:=Rat.intCast_eq_zero_iff.mp z;lia
 refine(Fm.eq_divInt (Int.mul_ne_zero (by lia) (by lia)) ?_).symm;rw[Fm.mk_div t b (by lia),Fm.mk_div u c (by lia),Rat.intCast_mul,Rat.intCast_mul];have e:(t:Rat)/b*b=t:=Rat.div_mul_cancel a;have f:(u:Rat)/c*c=u:=Rat.div_mul_cancel d;generalize (t:Rat)/b=x at e⊢;generalize (u:Rat)/c=y at f⊢;rw[<-e,<-f];grind
section
variable{P:Program}{w:World}{K:PySem.W.Frag}{mg:Str->Option Value}{base:Heap}{A:Adr}
noncomputable def uX:DW:=λa Q _=>∃(t b u c:Int)(n m:Nat),a=[pr (t,b),pr (u,c)]/\0<b/\0<c/\t.natAbs<=10^n/\b.natAbs<=10^n/\u.natAbs<=10^m/\c.natAbs<=10^m/\n+m<=2400/\Q (.dat (fr (Rat.divInt t b*Rat.divInt u c)))
theorem qN(T:Txt K mg A):FnOk P w K mg base (eV P w) 3 A.a_qe1 A.d_qe1 ["one","other"] (fD K uX):=by
 have a:=kS (P:=P) (w:=w) (base:=base) T;refine gH T.F_qe1 Gi (λi Q E h=>?_) (λj z outer s H E o=>?_)
 ·obtain⟨_,_,_,_,_,_,rfl,_⟩:=h;rfl
 refine⟨_,(aT (bI (aK a (o.mono (by decide)) rfl T.m_qc1 T.F_qc1.kp T.b_qc1 .nil aP (aA (aV bG (aX (bK (K:=K) rfl) (pv 0) aD (λ_ _=>rfl)) (aX (bK (K:=K) rfl) (pv 1) aD (λ_ _=>rfl))) (aA (aV bG (aX (bK (K:=K) rfl) (pv 0) aD (λ_ _=>rfl)) (aX (bK (K:=K) rfl) (pv 1) aD (λ_ _=>rfl))) aF))))),_,(cC (aB (aL (aC (aB (aU bZ (aB (aW 0 (aN 0))) (aB (aW 0 (aN 1))))) (aC (aB (aU bZ (aB (aW 1 (aN 0))) (aB (aW 1 (aN 1))))) aM))))),?_⟩;intro i Q X qQ0;refine qq λqz=>?_;obtain⟨t,b,u,c,n,m,rfl,d,e,p,f,q,g,l,k⟩:=qQ0;apply qz;have r:=dA p (by lia);have v:=dA f (by lia);have x:=dA q (by lia);have y:=dA g (by lia);walk_at"d";have B:=Int.mul_pos d e;refine⟨cF r x,cF v y,_,_,rfl,by lia,dA (n:=n+m) (by rw[Int.natAbs_mul,Nat.pow_add];exact Nat.mul_le_mul f g) l,?_⟩;rw[zM d e];walk_at"d";exact k
noncomputable def yK:DW:=λb Q _=>∃(c a:Int)(p:Rat)(l0 l1:Int)(B:Nat),b=[.int c,.int a,fr p,.list [.int l0,.int l1]]/\0<=a/\a<=3/\Bg 1048577 c/\0<B/\B<=10^6/\Cm B (10^9) p/\l0.natAbs<=6/\l1.natAbs<=6/\∀q,Cm (5040*B) (10^20) q->Q (.dat (fr q))
theorem Hq(T:Txt K mg A):FnOk P w K mg base (eV P w) 4 A.a_qf1 A.d_qf1 ["cell","shape","place","lean"] (fD K yK):=by
 have e:=kS (P:=P) (w:=w) (base:=base) T;have d:=qO (P:=P) (w:=w) (base:=base) T;have f:=qN (P:=P) (w:=w) (base:=base) T;refine gH T.F_qf1 sc_qf1 (λM Q E h=>?_) (λN Ar outer s H E g=>?_)
 ·obtain⟨_,_,_,_,_,_,rfl,_⟩:=h;rfl
 refine⟨_,(aH (cZ (bR fF (pv 1) aD (bY _)) (aT (bI (cD (aA (aV cO (pv 0) aD) (aA aD aF))))) bV)
   (aH (cZ (bR fF (pv 1) aD (bY _)) (aT (bI (aK e (g.mono (by decide)) rfl T.m_qc1 T.F_qc1.kp T.b_qc1 .nil aP (aA (aV fV (aV cO (aV bG (pv 0) aD) (aV cR (aV bG aD (aV gL aD aD)) aD)) (aV gL aD aD)) (aA (aV cR aD (aV cO (pv 0) aD)) aF))))) bV)
   (aH (aY (i:=4) sc_qf1.nd rfl (Or.inl rfl) (aK d (g.mono (by decide)) rfl T.m_qd1 T.F_qd1.kp T.b_qd1 .nil aP (aA (cD (aA (aX (iB (K:=K) rfl) (pv 3) aD (λ_ _=>rfl)) (aA aD aF))) (aA (aK f (g.mono (by decide)) rfl T.m_qe1 T.F_qe1.kp T.b_qe1 .nil aP (aA (cD (aA (aX (iB (K:=K) rfl) (pv 3) aD (λ_ _=>rfl)) (aA (aV cR aD (pv 1)) aF))) (aA (pv 2) aF))) aF))))
   (aH (cZ (bR fF (aV cO (pv 0) aD) aD (bY _)) (aT (aY (i:=4) sc_qf1.nd rfl (Or.inl rfl) (aK d (g.mono (by decide)) rfl T.m_qd1 T.F_qd1.kp T.b_qd1 .nil aP (aA (pv 4) (aA (cD (aA (aV fV (aV cO (aV cS (pv 0) aD) aD) aD) (aA aD aF))) aF))))) bV)
   (aT (bI (pv 4))))))),_,(aQ (cY (bQ (aB (aU fE (aE 1) (aB aI)))) (cC (aB (cH (aO (dH (k:=4) (by decide) (aE 0) aI) (aO aI bH)) (by decide)))) bU)
   (aQ (cY (bQ (aB (aU fE (aE 1) (aB aI)))) (cC (aB (aL (aC (aB (aU cN (aB (dH (k:=2000000000001) (by decide) (aB (aU bZ (aE 0) (aB aI))) (kY (v:=2000000000001) (aU cN (aB (aU bZ (aB aI) (aB (aU bZ (aB aI) (aB aI))))) (aB aI)) (λO o Q h=>⟨rC (by decide +kernel),cF (tP (by decide +kernel)) (tP (by decide +kernel)),Eq.mpr (congrArg (λz=>Q (.int z)) (by decide +kernel:(((2*(10^Int.toNat 12))+1):Int)=2000000000001)) h⟩)))) (aB (kY (v:=1000000000000) (aU bZ (aB aI) (aB aI)) (λO o Q h=>⟨rC (by decide +kernel),Eq.mpr (congrArg (λz=>Q (.int z)) (by decide +kernel:((10^Int.toNat 12):Int)=1000000000000)) h⟩))))) (aC (aB (aU cN (aB aI) (aB (dH (k:=7) (by decide) (aE 0) aI)))) aM))))) bU)
   (aQ (bC (aL (aC (aB (cH (aO (dW (bL 3) (aB aI)) (aO aI bH)) (by decide))) (aC (aB (aL (aC (aB (cH (aO (dW (bL 3) (aB aI)) (aO (aU cN (aB aI) (aE 1)) bH)) (by decide))) (aC (aE 2) aM)))) aM))) (aJ 4))
   (gY (cY (bQ (aB (aU fE (aB (dH (k:=3) (by decide) (aE 0) aI)) (aB aI)))) (bC (aL (aC (aE 4) (aC (aB (cH (aO (aU cN (aB (dH (k:=21) (by decide) (aB (fX (k:=3) (nL (by decide +kernel)) (aE 0) aI)) aI)) (aB aI)) (aO aI bH)) (by decide))) aM))) (aJ 4)) bU)
   (eA 4))))),?_⟩
 intro M Q X qQ0;refine qq λqz=>?_;obtain⟨c,x,p,l0,l1,B,rfl,s0,s3,R,B0,B1,F,u,S,k⟩:=qQ0;apply qz;have y:∀n:Nat,n∣5040->n∣5040*B:=λn h=>Nat.dvd_trans h (Nat.dvd_mul_right _ _);walk_at"s";refine fG (λz=>?_) (λz=>?_)
 ·have h:=Cm.int (i:=c%4) (B:=10^20) (by lia);exact k _ (h.mono (Nat.one_dvd _) (Nat.le_refl _))
 walk_at"s";refine fG (λU=>?_) (λU=>?_)
 ·refine⟨sG (Nat.le_trans R.bits (by decide)) (tP (by decide +kernel)),_,_,rfl,by lia,eH (n:=7) (by lia) (by decide +kernel),?_⟩;walk_at"d";generalize c*27644437=z;obtain⟨b,W,u,b7⟩:∃b:Nat,1+c%7=(b:Int)/\0<b/\b<=7:=⟨(1+c%7).toNat,by lia,by lia,by lia⟩;rw[W];have Y:b∣5040:=by
   have:b=1\/b=2\/b=3\/b=4\/b=5\/b=6\/b=7:=by lia
   rcases this with rfl|rfl|rfl|rfl|rfl|rfl|rfl <;>decide
  refine k _ (Cm.div u (y b Y) ?_);have:(z%2000000000001-1000000000000).natAbs<=10^20:=by lia
  exact Nat.le_trans this (Nat.le_mul_of_pos_right _ u)
 have G:0<5040*B:=by lia
 have I:5040*B<=10^10:=by lia
 have Z:=Fm.den_pos p;have J:Dg 16 p:=F.dg B0 (l:=6) B1 (b:=9) (Nat.le_refl _);refine qq λqz=>?_;obtain⟨a,C,j,a0⟩:∃a:Nat,1+x=(a:Int)/\0<a/\a<=4:=⟨(1+x).toNat,by lia,by lia,by lia⟩;apply qz;have sd:a∣5040:=by
  have:a=1\/a=2\/a=3\/a=4:=by lia
  rcases this with rfl|rfl|rfl|rfl <;>decide
 have D:Cm (5040*B) (6*10^9) (Rat.divInt l1 (a:Int)*p):=((Cm.div (t:=l1) (B:=6) j (Nat.dvd_refl _) (Nat.le_trans S (Nat.le_mul_of_pos_right _ j))).mul F).mono (Nat.mul_dvd_mul_right sd B) (Nat.le_refl _);walk_at"s";rw[C];refine⟨_,rfl,_,rfl,l1,a,p.num,(p.den:Int),2,16,rfl,by lia,by lia,by lia,by lia,J.n,by have:=J.d;lia,by decide,?_⟩;rw[Rat.num_divInt_den];obtain⟨q,hq⟩:∃q,Rat.divInt l1 (a:Int)*p=q:=⟨_,rfl⟩;rw[hq]at D⊢;have L:Dg 21 q:=(D.mono (Nat.dvd_refl _) (show 6*10^9<=10^10 by decide)).dg G I (b:=10) (Nat.le_refl _);have dq:=Fm.den_pos q;walk_at"d";refine⟨l0,1,q.num,(q.den:Int),2,21,rfl,by decide,by lia,by lia,by decide,L.n,by have:=L.d;lia,by decide,?_⟩;rw[Rat.num_divInt_den,Pd];have c1:Cm (5040*B) (6+6*10^9) ((l0:Rat)+q):=((Cm.int u).mono (Nat.one_dvd _) (Nat.le_refl _)).add D;obtain⟨r,g⟩:∃r,(l0:Rat)+q=r:=⟨_,rfl⟩;rw[g]at c1⊢;have c2:Cm (5040*B) (10^10) r:=c1.mono (Nat.dvd_refl _) (by decide);have gr:Dg 21 r:=c2.dg G I (b:=10) (Nat.le_refl _);walk_at"d";refine iG (λo=>∃q:Rat,o=[some (.dat (.int c)),some (.dat (.int x)),some (.dat (fr p)),some (.dat (.list [.int l0,.int l1])),some (.dat (fr q))]/\Cm (5040*B) (10^20) q) ?_ ?_
 ·walk_at"d";refine fG (λz2=>?_) (λz2=>⟨r,rfl,c2.mono (Nat.dvd_refl _) (by decide)⟩);refine Gf (m:=2) gr (by decide) (by lia) (by decide) (by decide) ?_;rw[Pd];walk_at"d";exact⟨_,rfl,(c2.add ((Cm.int (i:=c/3%21-10) (B:=10) (by lia)).mono (Nat.one_dvd _) (Nat.le_refl _))).mono (Nat.dvd_refl _) (by decide)⟩
 intro o qQ0;refine qq λqz=>?_;obtain⟨q,rfl,hc⟩:=qQ0;apply qz;walk_at"d";exact k q hc
end
theorem mR{t b u c:Int}(i:0<b)(j:0<c):t*c<u*b↔Rat.divInt t b<Rat.divInt u c:=by
 have a:(b:Rat)≠0:=λz=>by have:=Rat.intCast_eq_zero_iff.mp z;lia
 have d:(c:Rat)≠0:=λz=>by have:=Rat.intCast_eq_zero_iff.mp z;lia
 rw[Fm.mk_div t b (by lia),Fm.mk_div u c (by lia),<-Rat.intCast_lt_intCast,Rat.intCast_mul,Rat.intCast_mul];have e:(t:Rat)/b*b=t:=Rat.div_mul_cancel a;have f:(u:Rat)/c*c=u:=Rat.div_mul_cancel d;have g:(0:Rat)<(b:Rat)*c:=Rat.mul_pos (Rat.intCast_pos.mpr i) (Rat.intCast_pos.mpr j);generalize (t:Rat)/b=x at e⊢;generalize (u:Rat)/c=y at f⊢;rw[<-e,<-f];constructor
 ·intro h;refine Rat.not_le.mp λz=>?_;have:=Rat.mul_nonneg (show 0<=x-y by grind) (Rat.le_of_lt g);grind
 ·intro h;have:=Rat.mul_pos (show 0<y-x by grind) g;grind
theorem tM{m l:Int}(f:0<l):bM (Rat.divInt m l)=Rat.divInt ((m.natAbs:Nat):Int) l:=by
 have g:(0:Rat)<(l:Rat):=Rat.intCast_pos.mpr f;have d:=Rat.inv_pos.mpr g;rcases Int.le_total 0 m with h|h
 ·have e:((m.natAbs:Nat):Int)=m:=by lia
  rw[e];refine cQ ?_;rw[Fm.mk_div m l (by lia),Rat.div_def];exact Rat.mul_nonneg (Rat.intCast_nonneg.mpr h) (Rat.le_of_lt d)
 ·have e:((m.natAbs:Nat):Int)=-m:=by lia
  rw[e];have i:Rat.divInt (-m) l=-Rat.divInt m l:=by
   rw[Fm.mk_div _ l (by lia),Fm.mk_div m l (by lia),Rat.div_def,Rat.div_def,Rat.intCast_neg,Rat.neg_mul]
  rw[i];have j:Rat.divInt m l<=0:=by
   rw[Fm.mk_div m l (by lia),Rat.div_def];have:=Rat.mul_nonneg (Rat.intCast_nonneg.mpr (show 0<=-m by lia)) (Rat.le_of_lt d);rw[Rat.intCast_neg,Rat.neg_mul]at this;grind
  rcases Rat.le_total (a:=0) (b:=Rat.divInt m l)with c|c
  ·have:Rat.divInt m l=0:=Rat.le_antisymm j c;rw[this];decide
  ·exact dN c
theorem lS(i:Int):(if i<0 then -i else i)=((i.natAbs:Nat):Int):=by split <;>lia
theorem lC{b:DE}{c:DG}{e:DEnds}{a:cI}(h:b e.ex a λd=>c d a e.nx):Ja b c e a:=h
theorem fR{c:Oc}{d e:DE}{a:DX}{b:cI}{Q:PyData->Prop}(h:d a b λx=>e a b λy=>c x y Q):Pe c d e a b Q:=h
theorem eN{i:Nat}{b:DX}{a:cI}{Q:PyData->Prop}{d:PyData}(h:slot a i=some (.dat d))(q:Q d):mS i b a Q:=by unfold mS;rw[h];exact q
theorem iC{i k:Nat}{c:DX}{b:cI}{Q:PyData->Prop}{a:List PyData}{d:PyData}(h:slot b i=some (.dat (.tuple a)))(e:Er a k=some d)(q:Q d):Aq k (Ak i) c b Q:=by unfold Aq Ak;rw[h];show(match Er a k with |some d=>Q d|none=>False);rw[e];exact q
theorem hX{C:Int->Int->Prop}{f:Int->Int->Int}{a b:Int}{Q:PyData->Prop}(c:C a b)(h:Q (.int (f a b))):oI C f (.int a) (.int b) Q:=⟨c,h⟩
theorem Hs{f:Int->Int->Int}{a b:Int}{Q:PyData->Prop}(h:Q (.int (f a b))):Mb f (.int a) (.int b) Q:=h
theorem Jm{i:Nat}{b:DX}{a:cI}{Q:PyData->Prop}{n m:Int}(h:slot a i=some (.dat (.int n)))(e:(if n<0 then -n else n)=m)(q:Q (.int m)):Ob Dp (tD (mS i) Ao) b a Q:=by
 unfold Ob tD mS Ao;rw[h];show Q (.int (if n<0 then -n else n));rw[e];exact q
theorem fK{i:Nat}{d:PyData}{a:cI}{Q:cI->Prop}(h:Q (iU (some (.dat d)) i a)):uI i d a Q:=h
theorem oE{F:cI->Prop}{b:Sl->Prop}{c:DX}{d e:cI->Prop}{a:cI}(h:F a):DEnds.nx ⟨F,b,c,d,e⟩ a:=h
theorem mD{i:Nat}{b a:cI}{s:Option Sl}{Q:cI->Prop}(e:iU s i b=a)(h:Q a):Q (iU s i b):=by rw[e];exact h
theorem zK{f:Int->Int->Int}{a b c:Int}{Q:PyData->Prop}(e:f a b=c)(h:Q (.int c)):Mb f (.int a) (.int b) Q:=by
 show Q (.int (f a b));rw[e];exact h
noncomputable def SBw(E a i:Nat)(t b:Int):Prop:=0<b/\b.natAbs<=10^(E*i)/\t.natAbs<=10^(a+(E+1)*i)
theorem SBw.zero{E a:Nat}:SBw E a 0 0 1:=⟨by decide,by rw[Nat.mul_zero];decide,Nat.zero_le _⟩
theorem SBw.step{E c i:Nat}{t b a u:Int}(h:SBw E c i t b)(l0:0<a)(d:a.natAbs<=10^E)(g:u.natAbs<=10^c):SBw E c (i+1) (t*a+u*b) (b*a):=by
 obtain⟨j,f,tB⟩:=h;refine⟨Int.mul_pos j l0,?_,?_⟩
 ·rw[Int.natAbs_mul,show E*(i+1)=E*i+E by rw[Nat.mul_add,Nat.mul_one]];exact bX f d
 ·have e:c+(E+1)*(i+1)=c+(E+1)*i+E+1:=by rw[Nat.mul_add,Nat.mul_one];lia
  have k:(E+1)*i=E*i+i:=by rw[Nat.add_mul,Nat.one_mul]
  have l:(t*a).natAbs<=10^(c+(E+1)*i+E):=by rw[Int.natAbs_mul];exact bX tB d
  have m:(u*b).natAbs<=10^(c+(E+1)*i+E):=by
   rw[Int.natAbs_mul];exact Nat.le_trans (bX g f) (Nat.pow_le_pow_right (by decide) (by lia))
  have n:=eT (B:=10^(c+(E+1)*i+E)) (Nat.le_refl _);rw[e];generalize 10^(c+(E+1)*i+E+1)=N1 at *
  generalize 10^(c+(E+1)*i+E)=N2 at *
  lia
theorem Gn{a b x y:Rat}{h d i e j f k g:Int}(p:a.num=h)(r:(a.den:Int)=d)(s:b.num=i)(t:(b.den:Int)=e)(u:x.num=j)(v:(x.den:Int)=f)(w:y.num=k)(z:(y.den:Int)=g):
  0<e*f*d*g/\Rat.divInt (k*(e*f*d)-(h*(e*f)+i*j*d)*g) (e*f*d*g)=y-(a+b*x):=by
 have B:=Fm.den_pos a;have C:=Fm.den_pos b;have D:=Fm.den_pos x;have E:=Fm.den_pos y;have A:0<e*f*d*g:=Int.mul_pos (Int.mul_pos (Int.mul_pos (by lia) (by lia)) (by lia)) (by lia);refine⟨A,(Fm.eq_divInt (by lia) ?_).symm⟩;have l:=Fm.num_eq a;have m:=Fm.num_eq b;have n:=Fm.num_eq x;have o:=Fm.num_eq y;have c:∀q:Rat,(q.den:Rat)=((q.den:Int):Rat):=λq=>(Rat.intCast_natCast _).symm;rw[c,p,r]at l;rw[c,s,t]at m;rw[c,u,v]at n;rw[c,w,z]at o;simp only[Rat.intCast_mul,Rat.intCast_add,Rat.intCast_sub];rw[l,m,n,o];grind
theorem Dv(a:List Mk)(m:Mk)(l:Ln):FS (a++[m]) l=FS a l+(m.2.2:Rat)*bM (rr l m):=by
 unfold FS;rw[List.map_append,List.map_singleton,lV]
section
variable{P:Program}{w:World}{K:PySem.W.Frag}{mg:Str->Option Value}{base:Heap}{A:Adr}
noncomputable def oY:DW:=λh Q _=>∃(a:List Mk)(l:Ln)(c d e f g F G:Nat),h=[.list (a.map eJ),.list [fr l.1,fr l.2]]/\(∀m∈a,Dg e m.1/\Dg f m.2.1/\m.2.2.natAbs<=10^g)/\Dg c l.1/\Dg d l.2/\(∀m∈a,l.2.den*m.1.den*l.1.den*m.2.1.den<=10^F)/\g+(c+d+e+f)+3<=G/\G+(F+1)*a.length<=2400/\
 ∀t b:Int,0<b->b.natAbs<=10^(F*a.length)->t.natAbs<=10^(G+(F+1)*a.length)->Rat.divInt t b=FS a l->Q (.dat (.tuple [.int t,.int b]))
theorem Hn(T:Txt K mg A):FnOk P w K mg base (eV P w) 1 A.a_qh1 A.d_qh1 ["marks","numbers"] (fD K oY):=by
 refine gH T.F_qh1 sc_qh1 (λds Q E h=>?_) (λb8 Ar outer s H E hr=>?_)
 ·refine qq λqz=>?_;obtain⟨_,_,_,_,_,_,_,_,_,rfl,_⟩:=h;apply qz;rfl
 refine⟨_,(aH (aY (i:=2) sc_qh1.nd rfl (Or.inl rfl) aD)
   (aH (aY (i:=3) sc_qh1.nd rfl (Or.inl rfl) aD)
   (aH (qK (pv 1) (Ld (K:=K) (n:=2) rfl rfl (bD (aZ (i:=4) sc_qh1.nd rfl (Or.inl rfl)) (bD (aZ (i:=5) sc_qh1.nd rfl (Or.inl rfl)) cW))))
   (aH (fN PassesOwn.leaving rfl (jE (K:=K) rfl (pv 0)) (iS (K:=K) (n:=3) rfl rfl (bD (aZ (i:=6) sc_qh1.nd rfl (Or.inl rfl)) (bD (aZ (i:=7) sc_qh1.nd rfl (Or.inl rfl)) (bD (aZ (i:=8) sc_qh1.nd rfl (Or.inl rfl)) cW))))
    (aH (aY (i:=9) sc_qh1.nd rfl (Or.inl rfl) (aV bG (aX (bK (K:=K) rfl) (pv 5) aD (λ_ _=>rfl)) (aX (bK (K:=K) rfl) (pv 6) aD (λ_ _=>rfl))))
   (aH (aY (i:=10) sc_qh1.nd rfl (Or.inl rfl) (aV cR (aV bG (aX (bK (K:=K) rfl) (pv 4) aD (λ_ _=>rfl)) (pv 9)) (aV bG (aV bG (aX (bK (K:=K) rfl) (pv 5) aD (λ_ _=>rfl)) (aX (bK (K:=K) rfl) (pv 6) aD (λ_ _=>rfl))) (aX (bK (K:=K) rfl) (pv 4) aD (λ_ _=>rfl)))))
   (aH (aY (i:=9) sc_qh1.nd rfl (Or.inl rfl) (aV bG (pv 9) (aX (bK (K:=K) rfl) (pv 4) aD (λ_ _=>rfl))))
   (aH (aY (i:=11) sc_qh1.nd rfl (Or.inl rfl) (aV fV (aV bG (aX (bK (K:=K) rfl) (pv 7) aD (λ_ _=>rfl)) (pv 9)) (aV bG (pv 10) (aX (bK (K:=K) rfl) (pv 7) aD (λ_ _=>rfl)))))
   (aH (aY (i:=9) sc_qh1.nd rfl (Or.inl rfl) (aV bG (pv 9) (aX (bK (K:=K) rfl) (pv 7) aD (λ_ _=>rfl))))
   (aH (aY (i:=2) sc_qh1.nd rfl (Or.inl rfl) (aV cR (aV bG (pv 2) (pv 9)) (aV bG (aV bG (pv 8) (cL eZ rfl T.n_abs iH (aA (pv 11) aF))) (pv 3))))
   (aT (aY (i:=3) sc_qh1.nd rfl (Or.inl rfl) (aV bG (pv 3) (pv 9)))))))))))
   (aT (bI (cD (aA (pv 2) (aA (pv 3) aF))))))))),_,(aQ (bC aI (aJ 2))
   (aQ (bC aI (aJ 3))
   (aQ (bC (aN 1) (zY (bJ (aJ 4) (bJ (aJ 5) dR))))
   (aQ (fL (iN (aN 0)) (dZ (bJ (aJ 6) (bJ (aJ 7) (bJ (aJ 8) dR))))
    (aQ (bC (aU bZ (aB (aW 1 (aN 5))) (aB (aW 1 (aN 6)))) (aJ 9))
   (aQ (bC (aU cN (aB (aU bZ (aB (aW 0 (aN 4))) (aE 9))) (aB (aU bZ (aB (aU bZ (aB (aW 0 (aN 5))) (aB (aW 0 (aN 6))))) (aB (aW 1 (aN 4)))))) (aJ 10))
   (aQ (bC (aU bZ (aE 9) (aB (aW 1 (aN 4)))) (aJ 9))
   (aQ (bC (aU cN (aB (aU bZ (aB (aW 0 (aN 7))) (aE 9))) (aB (aU bZ (aE 10) (aB (aW 1 (aN 7)))))) (aJ 11))
   (aQ (bC (aU bZ (aE 9) (aB (aW 1 (aN 7)))) (aJ 9))
   (aQ (bC (aU cN (aB (aU bZ (aE 2) (aE 9))) (aB (aU bZ (aB (aU bZ (aE 8) (aB (eY gZ (aC (aE 11) aM))))) (aE 3)))) (aJ 2))
   (bC (aU bZ (aE 3) (aE 9)) (aJ 3)))))))))
   (cC (aB (cH (aO (aN 2) (aO (aN 3) bH)) (by decide)))))))),?_⟩
 intro ds Q X qQ0;refine qq λqz=>?_;obtain⟨ms,l,j,f,g,dy,dw,F,G,rfl,hm,ha,hb,hF,hG,hE,k⟩:=qQ0;obtain⟨E,eE⟩:∃E,j+f+g+dy=E:=⟨_,rfl⟩;apply qz;rw[eE]at hG;refine qq λqz=>?_;obtain⟨J,o,fa,a1,L⟩:∃J o:Int,fr l.1= .tuple [.int J,.int o]/\l.1.num=J/\(l.1.den:Int)=o:=⟨_,_,rfl,rfl,rfl⟩;obtain⟨M,C,fb,a2,N⟩:∃M C:Int,fr l.2= .tuple [.int M,.int C]/\l.2.num=M/\(l.2.den:Int)=C:=⟨_,_,rfl,rfl,rfl⟩;apply qz;have a3:J.natAbs<=10^j:=by rw[<-a1];exact ha.n
 have r:o.natAbs<=10^j:=by rw[<-L];exact ha.d
 have a4:M.natAbs<=10^f:=by rw[<-a2];exact hb.n
 have a5:C.natAbs<=10^f:=by rw[<-N];exact hb.d
 have a:∀{n:Nat}{i:Int},i.natAbs<=10^n->n<=G->Wee i:=λ{n i} h hn=>dA h (by lia);rw[fa,fb];walk_at"s";walk_at"s";walk_at"s"
 refine dO (eU (λm:Mk=>PyData.tuple [fr m.1,fr m.2.1,.int m.2.2]) ms (λQ h=>by walk_at"d";exact h)
  (λi δ=>∃(t b:Int)(s6 s7 s8 s9 O R:Option PyData),δ=[some (.dat (.list (ms.map eJ))),some (.dat (.list [.tuple [.int J,.int o],.tuple [.int M,.int C]])),some (.dat (.int t)),some (.dat (.int b)),some (.dat (.tuple [.int J,.int o])),some (.dat (.tuple [.int M,.int C])),s6.map Sl.dat,s7.map Sl.dat,s8.map Sl.dat,s9.map Sl.dat,O.map Sl.dat,R.map Sl.dat]/\SBw F G i t b/\Rat.divInt t b=FS (ms.take i) l)
  ⟨0,1,none,none,none,none,none,none,rfl,SBw.zero,by rw[List.take_zero,Pd];rfl⟩ ?_ ?_)
 ·intro i m δ hi qQ0;refine qq λqz=>?_;obtain⟨t,b,s6,s7,s8,s9,O,R,rfl,D,hv⟩:=qQ0;have b9:=(List.getElem?_eq_some_iff.mp hi).1;obtain⟨mx,my,mw⟩:=hm m (List.mem_of_getElem? hi);apply qz;have iE:(F+1)*(i+1)<=(F+1)*ms.length:=Nat.mul_le_mul_left _ (by lia);have c0:F*i<=(F+1)*i:=Nat.mul_le_mul_right _ (by lia);rw[Nat.mul_add,Nat.mul_one]at iE;have wb:Wee b:=dA D.2.1 (by lia);have wt:Wee t:=dA D.2.2 (by lia);refine qq λqz=>?_;obtain⟨xa,xb,fx,a6,S⟩:∃xa xb:Int,fr m.1= .tuple [.int xa,.int xb]/\m.1.num=xa/\(m.1.den:Int)=xb:=⟨_,_,rfl,rfl,rfl⟩;obtain⟨ya,I,fy,a7,U⟩:∃ya I:Int,fr m.2.1= .tuple [.int ya,.int I]/\m.2.1.num=ya/\(m.2.1.den:Int)=I:=⟨_,_,rfl,rfl,rfl⟩;apply qz;have a8:xa.natAbs<=10^g:=by rw[<-a6];exact mx.n
  have a9:xb.natAbs<=10^g:=by rw[<-S];exact mx.d
  have b0:ya.natAbs<=10^dy:=by rw[<-a7];exact my.n
  have u:I.natAbs<=10^dy:=by rw[<-U];exact my.d
  obtain⟨e,rl⟩:=Gn a1 L a2 N a6 S a7 U;have lF:(C*xb*o*I).natAbs<=10^F:=by
   rw[<-N,<-S,<-L,<-U];simp only[Int.natAbs_mul,Int.natAbs_natCast];exact hF m (List.mem_of_getElem? hi)
  rw[fx,fy];generalize b6:m.2.2=v at mw⊢;have x:∀{p q:Int}{c d:Nat},p.natAbs<=10^c->q.natAbs<=10^d->(p*q).natAbs<=10^(c+d):=λ{p q c d} h1 h2=>by rw[Int.natAbs_mul];exact bX h1 h2
  obtain⟨l1,xW⟩:∃l1,C*xb=l1:=⟨_,rfl⟩;have y:l1.natAbs<=10^(f+g):=by rw[<-xW];exact x a5 a9
  rw[xW]at e rl lF;walk_at"s";refine⟨cF (a a5 (by lia)) (a a9 (by lia)),?_⟩;rw[xW];obtain⟨z1,W⟩:∃z1,M*xa=z1:=⟨_,rfl⟩;have b1:z1.natAbs<=10^(f+g):=by rw[<-W];exact x a4 a8
  obtain⟨ld,Y⟩:∃ld,J*l1+z1*o=ld:=⟨_,rfl⟩;have b2:ld.natAbs<=10^(j+f+g+1):=by
   have q1:=x a3 y;have q2:=x b1 r;have q3:=eT (B:=10^(j+(f+g))) (Nat.le_refl _);rw[show f+g+j=j+(f+g) by lia]at q2;rw[<-Y,show j+f+g+1=j+(f+g)+1 by lia];generalize 10^(j+(f+g)+1)=N1 at *
   generalize 10^(j+(f+g))=N2 at *
   lia
  rw[W,Y]at rl;refine dO (lC ?_);refine fR (fR (iC rfl rfl (eN rfl (hX (cF (a a3 (by lia)) (a y (by lia))) ?_))));refine fR (fR (iC rfl rfl (iC rfl rfl (hX (cF (a a4 (by lia)) (a a8 (by lia))) ?_))));rw[W];refine iC rfl rfl (hX (cF (a b1 (by lia)) (a r (by lia))) ?_);refine zK Y (fK (oE (mD rfl ?_)));obtain⟨l2,jH⟩:∃l2,l1*o=l2:=⟨_,rfl⟩;have z:l2.natAbs<=10^(f+g+j):=by rw[<-jH];exact x y r
  rw[jH]at e rl lF;refine dO (lC ?_);refine fR (eN rfl (iC rfl rfl (hX (cF (a y (by lia)) (a r (by lia))) ?_)));rw[jH];refine fK (oE (mD rfl ?_));obtain⟨Z,a0⟩:∃Z,ya*l2-ld*I=Z:=⟨_,rfl⟩;have b7:Z.natAbs<=10^(E+2):=by
   have q1:=x b0 z;have q2:=x b2 u;have c1:(ya*l2).natAbs<=10^(E+1):=Nat.le_trans q1 (Nat.pow_le_pow_right (by decide) (by lia));have c2:(ld*I).natAbs<=10^(E+1):=Nat.le_trans q2 (Nat.pow_le_pow_right (by decide) (by lia));have q3:=eT (B:=10^(E+1)) (Nat.le_refl _);rw[<-a0];rw[show E+2=E+1+1 by lia];generalize 10^(E+1+1)=N1 at *
   generalize 10^(E+1)=N2 at *
   lia
  rw[a0]at rl;refine dO (lC ?_);refine fR (fR (iC rfl rfl (eN rfl (hX (cF (a b0 (by lia)) (a z (by lia))) ?_))));refine fR (eN rfl (iC rfl rfl (hX (cF (a b2 (by lia)) (a u (by lia))) ?_)));refine zK a0 (fK (oE (mD rfl ?_)));obtain⟨l3,Io⟩:∃l3,l2*I=l3:=⟨_,rfl⟩;have b3:l3.natAbs<=10^E:=by rw[<-Io];exact Nat.le_trans (x z u) (Nat.pow_le_pow_right (by decide) (by lia))
  rw[Io]at e rl lF;refine dO (lC ?_);refine fR (eN rfl (iC rfl rfl (hX (cF (a z (by lia)) (a u (by lia))) ?_)));rw[Io];refine fK (oE (mD rfl ?_));refine qq λqz=>?_;obtain⟨am,b4,b5⟩:∃am:Int,(if Z<0 then -Z else Z)=am/\am.natAbs<=10^(E+2):=⟨_,rfl,by rw[lS,Int.natAbs_natCast];exact b7⟩;apply qz;have uB:(v*am).natAbs<=10^G:=Nat.le_trans (x mw b5) (Nat.pow_le_pow_right (by decide) (by lia));refine dO (lC ?_);refine fR (fR (eN rfl (eN rfl (hX (cF wt (a b3 (by lia))) ?_))));refine fR (fR (eN rfl (Jm rfl b4 (hX (cF (a mw (by lia)) (a b5 (by lia))) ?_))));refine eN rfl (hX (cF (a uB (by lia)) wb) (Hs (fK (oE (mD rfl ?_)))));refine lC (fR (eN rfl (eN rfl (hX (cF wb (a b3 (by lia))) ?_))));refine fK (oE ?_);refine⟨_,_,some _,some _,some _,some _,some _,some _,rfl,D.step e lF uB,?_⟩;rw[eF hi,Dv,<-hv,tL D.1 e]
  congr 1
  have er:rr l m=Rat.divInt Z l3:=rl.symm;rw[er,tM e,<-lS,b4,b6,Fm.mk_div _ _ (by lia),Fm.mk_div _ _ (by lia),Rat.intCast_mul,Rat.div_def,Rat.div_def,Rat.mul_assoc]
 intro δ qQ0;refine qq λqz=>?_;obtain⟨t,b,s6,s7,s8,s9,O,R,rfl,D,hv⟩:=qQ0;apply qz;rw[List.take_length]at hv;walk_at"d";exact k t b D.1 D.2.1 D.2.2 hv
end
theorem Mn{u v b:Int}(a:0<b)(h:u<v):Rat.divInt u b<Rat.divInt v b:=by
 have d:(0:Rat)<(b:Rat):=Rat.intCast_pos.mpr a;have e:Rat.divInt u b*(b:Rat)=(u:Rat):=by rw[Rat.divInt_eq_div];exact Rat.div_mul_cancel (by grind)
 have f:Rat.divInt v b*(b:Rat)=(v:Rat):=by rw[Rat.divInt_eq_div];exact Rat.div_mul_cancel (by grind)
 have g:(u:Rat)<(v:Rat):=Rat.intCast_lt_intCast.mpr h;refine Rat.not_le.mp λc=>?_;have:=Rat.mul_nonneg (show 0<=Rat.divInt u b-Rat.divInt v b by grind) (Rat.le_of_lt d);grind
structure M42(B:Nat)(ms:List Mk):Prop where
 n1:1<=ms.length
 n16:ms.length<=16
 B0:0<B
 B1:B<=10^6
 x:∀m∈ms,Cm B (10^9) m.1
 y:∀m∈ms,Cm (5040*B) (10^20) m.2.1
 w:∀m∈ms,1<=m.2.2/\m.2.2<=10^9
 up:ms.Pairwise λa b=>a.1<b.1
theorem M42.sz{B:Nat}{a:List Mk}(Z:M42 B a):LSz (5040*B) a:=
 ⟨Z.n1,by have:=Z.n16;lia,by have:=Z.B0;lia,by have:=Z.B1;lia,λm h=>(Z.x m h).mono (Nat.dvd_mul_left _ _) (by decide +kernel),λm h=>(Z.y m h).mono (Nat.dvd_refl _) (by decide +kernel),λm h=>⟨(Z.w m h).1,by have:=(Z.w m h).2;lia⟩,Z.up⟩
section
variable{P:Program}{w:World}{K:PySem.W.Frag}{mg:Str->Option Value}{base:Heap}{A:Adr}
noncomputable def yJ:DW:=λd Q _=>∃(b:List Int)(a:Int),d=[.list (b.map .int),.int a]/\1<=a/\a<=12/\b.length<=63/\(∀v∈b,Builtin.Int.intBits v<=1048576)/\∀(c:List Mk)(B:Nat),M42 B c->(c.length:Int)<=a->Q (.own (c.map eJ))
theorem Ho(T:Txt K mg A):FnOk P w K mg base (eV P w) 5 A.a_qg1 A.d_qg1 ["script","most"] (fD K yJ):=by
 have c:=zJ (P:=P) (w:=w) (base:=base) T;have D:=kS (P:=P) (w:=w) (base:=base) T;have F:=Hq (P:=P) (w:=w) (base:=base) T;refine gH T.F_qg1 sc_qg1 (λds Q E h=>?_) (λa7 Ar outer s H E g=>?_)
 ·obtain⟨_,_,rfl,_⟩:=h;rfl
 refine⟨_,(aH (aY (i:=2) sc_qg1.nd rfl (Or.inl rfl) (aV cO (aK c (g.mono (by decide)) rfl T.m_qa1 T.F_qa1.kp T.b_qa1 .nil aP (aA (pv 0) (aA aD aF))) aD))
   (aH (aY (i:=3) sc_qg1.nd rfl (Or.inl rfl) (dP (aA (aV fV (aV cO (aV cS (aK c (g.mono (by decide)) rfl T.m_qa1 T.F_qa1.kp T.b_qa1 .nil aP (aA (pv 0) (aA aD aF))) aD) aD) aD) (aA (aV fV (aV cO (aK c (g.mono (by decide)) rfl T.m_qa1 T.F_qa1.kp T.b_qa1 .nil aP (aA (pv 0) (aA aD aF))) aD) aD) aF))))
   (aH (aY (i:=4) sc_qg1.nd rfl (Or.inl rfl) (aX (iB (K:=K) rfl) (dP (aA aD (aA aD (aA aD (aA (aV cR aD (aV cO (aV cS (aK c (g.mono (by decide)) rfl T.m_qa1 T.F_qa1.kp T.b_qa1 .nil aP (aA (pv 0) (aA aD aF))) aD) (aV gL aD aD))) aF))))) (aV cO (aV cS (aK c (g.mono (by decide)) rfl T.m_qa1 T.F_qa1.kp T.b_qa1 .nil aP (aA (pv 0) (aA aD aF))) aD) aD) (λ_ _=>rfl)))
   (aH (aY (i:=5) sc_qg1.nd rfl (Or.inl rfl) (aV fV (aV cO (aV cS (aK c (g.mono (by decide)) rfl T.m_qa1 T.F_qa1.kp T.b_qa1 .nil aP (aA (pv 0) (aA aD aF))) aD) aD) aD))
   (aH (aY (i:=6) sc_qg1.nd rfl (Or.inl rfl) (dP aF))
   (aH (fN PassesOwn.leaving rfl (nZ rfl T.n_range (aA (aV cR aD (aV cO (aK c (g.mono (by decide)) rfl T.m_qa1 T.F_qa1.kp T.b_qa1 .nil aP (aA (pv 0) (aA aD aF))) (pv 1))) aF)) (aZ (i:=7) sc_qg1.nd rfl (Or.inl rfl))
    (aH (aY (i:=5) sc_qg1.nd rfl (Or.inl rfl) (aV cR (aV cR (pv 5) aD) (aV cO (aK c (g.mono (by decide)) rfl T.m_qa1 T.F_qa1.kp T.b_qa1 .nil aP (aA (pv 0) (aA (aV cR aD (aV bG aD (pv 7))) aF))) (aX (iB (K:=K) rfl) (dP (aA aD (aA aD (@aA _ _ _ _ _ (aV gL aD aD) aF tZ)))) (aV cO (aK c (g.mono (by decide)) rfl T.m_qa1 T.F_qa1.kp T.b_qa1 .nil aP (aA (pv 0) (aA aD aF))) aD) (λ_ _=>rfl)))))
   (aH (aY (i:=8) sc_qg1.nd rfl (Or.inl rfl) (aK D (g.mono (by decide)) rfl T.m_qc1 T.F_qc1.kp T.b_qc1 .nil aP (aA (pv 5) (aA (pv 4) aF))))
   (aH (aY (i:=9) sc_qg1.nd rfl (Or.inl rfl) (aK c (g.mono (by decide)) rfl T.m_qa1 T.F_qa1.kp T.b_qa1 .nil aP (aA (pv 0) (aA (aV cR aD (aV bG aD (pv 7))) aF))))
   (aH (aY (i:=9) sc_qg1.nd rfl (Or.inl rfl) (aV cR aD (aV cO (pv 9) (aX (iB (K:=K) rfl) (dP (aA aD (aA aD (@aA _ _ _ _ _ (aV gL aD aD) aF tZ)))) (aV cO (aV cS (aK c (g.mono (by decide)) rfl T.m_qa1 T.F_qa1.kp T.b_qa1 .nil aP (aA (pv 0) (aA aD aF))) aD) aD) (λ_ _=>rfl)))))
   (aT (kC (vM PySem.F.plainAttrs_list PySem.F.slot_list_append PySem.F.type_list_append iL (pv 6) (aA (cD (aA (pv 8) (aA (aK F (g.mono (by decide)) rfl T.m_qf1 T.F_qf1.kp T.b_qf1 .nil aP (aA (aK c (g.mono (by decide)) rfl T.m_qa1 T.F_qa1.kp T.b_qa1 .nil aP (aA (pv 0) (aA (aV cR aD (aV bG aD (pv 7))) aF))) (aA (pv 2) (aA (pv 8) (aA (pv 3) aF))))) (aA (pv 9) aF)))) aF)))))))))
   (aT (bI (pv 6))))))))),_,(aQ (bC (dH (k:=4) (by decide) (aB (aL (aC (aE 0) (aC (aB aI) aM)))) aI) (aJ 2))
   (aQ (cE 3 (dQ (aO (aU cN (aB (dH (k:=13) (by decide) (aB (fX (k:=4) (nL (by decide +kernel)) (aB (aL (aC (aE 0) (aC (aB aI) aM)))) aI)) aI)) (aB aI)) (aO (aU cN (aB (dH (k:=13) (by decide) (aB (aL (aC (aE 0) (aC (aB aI) aM)))) aI)) (aB aI)) bH)) (by decide)))
   (aQ (bC (dW (oG (dQ (aO aI (aO aI (aO aI (aO (aU cN (aB aI) (aB (dH (k:=1000000) (by decide) (aB (fX (k:=13) (nL (by decide +kernel)) (aB (aL (aC (aE 0) (aC (aB aI) aM)))) aI)) (kY (v:=1000000) (aU bZ (aB aI) (aB aI)) (λex I Q h=>⟨rC (by decide +kernel),Eq.mpr (congrArg (λz=>Q (.int z)) (by decide +kernel:((10^Int.toNat 6):Int)=1000000)) h⟩))))) bH)))) (by decide))) (aB (dH (k:=4) (by decide) (aB (fX (k:=60) (nL (by decide +kernel)) (aB (aL (aC (aE 0) (aC (aB aI) aM)))) aI)) aI))) (aJ 4))
   (aQ (bC (aU cN (aB (dH (k:=41) (by decide) (aB (fX (k:=13) (nL (by decide +kernel)) (aB (aL (aC (aE 0) (aC (aB aI) aM)))) aI)) aI)) (aB aI)) (aJ 5))
   (aQ (cE 6 (dQ bH (by decide)))
   (aQ (fL (wA (aC (aB (aU cN (aB aI) (aB (aU bZ (aB (aL (aC (aE 0) (aC (aB aI) aM)))) (aE 1))))) aM)) (aJ 7)
    (aQ (bC (aU cN (aB (aU cN (aE 5) (aB aI))) (aB (aU bZ (aB (aL (aC (aE 0) (aC (aB (aU cN (aB aI) (aB (aU bZ (aB aI) (aE 7))))) aM)))) (aB (dW (oG (dQ (aO aI (aO aI (aO (kY (v:=1000000) (aU bZ (aB aI) (aB aI)) (λex I Q h=>⟨rC (by decide +kernel),Eq.mpr (congrArg (λz=>Q (.int z)) (by decide +kernel:((10^Int.toNat 6):Int)=1000000)) h⟩)) bH))) (by decide))) (aB (dH (k:=3) (by decide) (aB (aL (aC (aE 0) (aC (aB aI) aM)))) aI))))))) (aJ 5))
   (aQ (bC (aL (aC (aE 5) (aC (aE 4) aM))) (aJ 8))
   (aQ (bC (aL (aC (aE 0) (aC (aB (aU cN (aB aI) (aB (aU bZ (aB aI) (aE 7))))) aM))) (aJ 9))
   (aQ (bC (aU cN (aB aI) (aB (aU bZ (aE 9) (aB (dW (oG (dQ (aO aI (aO aI (aO (kY (v:=1000000000) (aU bZ (aB aI) (aB aI)) (λex I Q h=>⟨rC (by decide +kernel),Eq.mpr (congrArg (λz=>Q (.int z)) (by decide +kernel:((10^Int.toNat 9):Int)=1000000000)) h⟩)) bH))) (by decide))) (aB (dH (k:=3) (by decide) (aB (fX (k:=3) (nL (by decide +kernel)) (aB (aL (aC (aE 0) (aC (aB aI) aM)))) aI)) aI))))))) (aJ 9))
   (tX 6 (cH (aO (aN 8) (aO (aL (aC (aB (aL (aC (aE 0) (aC (aB (aU cN (aB aI) (aB (aU bZ (aB aI) (aE 7))))) aM)))) (aC (aE 2) (aC (aE 8) (aC (aE 3) aM))))) (aO (aN 9) bH))) (by decide))))))))
   (eA 6))))))),?_⟩
 intro ds Q X qQ0;refine qq λqz=>?_;obtain⟨f,J,rfl,a8,mo12,hlen,hbits,k⟩:=qQ0;apply qz;have bg:∀j:Int,0<=j->j<=1000->Bg 1048577 (cA f j):=λj h0 h1=>tI hbits h0 h1;walk_at"s";refine⟨f,1,rfl,by decide,by decide,?_⟩;walk_at"d";refine qq λqz=>?_;obtain⟨L,O,a2,a3⟩:∃L:Int,cA f 1%4=L/\0<=L/\L<=3:=⟨_,rfl,by lia,by lia⟩;apply qz;rw[O];walk_at"s";refine⟨f,1,rfl,by decide,by decide,?_⟩;walk_at"d";refine⟨f,2,rfl,by decide,by decide,?_⟩;walk_at"d";refine qq λqz=>?_;obtain⟨l0,R,b0⟩:∃l0:Int,cA f 1/4%13-6=l0/\l0.natAbs<=6:=⟨_,rfl,by lia⟩;obtain⟨l1,S,b1⟩:∃l1:Int,cA f 2%13-6=l1/\l1.natAbs<=6:=⟨_,rfl,by lia⟩;apply qz;rw[R,S];walk_at"s";refine⟨f,2,rfl,by decide,by decide,?_⟩;walk_at"d";refine⟨f,0,rfl,by decide,by decide,?_⟩;walk_at"d";obtain⟨t,a4,a9,ab⟩:∃t:Int,1<=t/\t<=10^6/\nF [PyData.int 1,PyData.int 1,PyData.int 6,PyData.int (1+cA f 2/13%1000000)] (cA f 0/60%4)=some (.int t):=by
  refine qq λqz=>?_;obtain⟨d,y,e⟩:=kM (xs:=[PyData.int 1,PyData.int 1,PyData.int 6,PyData.int (1+cA f 2/13%1000000)]) (i:=cA f 0/60%4) (by lia) (by show _<(4:Int);lia);apply qz;simp only[List.mem_cons,List.not_mem_nil,or_false]at y;rcases y with rfl|rfl|rfl|rfl
  ·exact⟨1,by decide,by decide,e⟩
  ·exact⟨1,by decide,by decide,e⟩
  ·exact⟨6,by decide,by decide,e⟩
  ·exact⟨_,by lia,by lia,e⟩
 refine⟨_,ab,?_⟩;clear ab;walk_at"s";refine⟨f,2,rfl,by decide,by decide,?_⟩;walk_at"d";refine qq λqz=>?_;obtain⟨v0,U,b2⟩:∃v0:Int,cA f 2/13%41-20=v0/\v0.natAbs<=20:=⟨_,rfl,by lia⟩;apply qz;rw[U];clear U R S O;walk_at"s";have b3:=Int.emod_nonneg (cA f 0) (show J≠0 by lia);have b4:=Int.emod_lt_of_pos (cA f 0) (show 0<J by lia);refine qq λqz=>?_;obtain⟨N,hN,N1,b5,b6⟩:∃N:Nat,1+cA f 0%J=(N:Int)/\1<=N/\N<=12/\(N:Int)<=J:=⟨(1+cA f 0%J).toNat,by lia,by lia,by lia,by lia⟩;obtain⟨B,hB,B0,B1⟩:∃B:Nat,t=(B:Int)/\0<B/\B<=10^6:=⟨t.toNat,by lia,by lia,by lia⟩;apply qz
 refine dO (Dc (lo:=0) (st:=1) (n:=N) (λQ h=>by
   walk_at"d"
   refine⟨f,0,rfl,by decide,by decide,?_⟩
   walk_at"d"
   refine⟨by lia,?_⟩
   rw[hN]
   refine⟨by lia,?_⟩
   rw[Int.toNat_natCast];exact h)
  (λi I=>∃(v:Int)(r:List Mk)(o7 o8 o9:Option PyData),I=[some (.dat (.list (f.map .int))),some (.dat (.int J)),some (.dat (.int L)),some (.own [.int l0,.int l1]),some (.dat (.int t)),some (.dat (.int v)),some (.own (r.map eJ)),o7.map Sl.dat,o8.map Sl.dat,o9.map Sl.dat]/\r.length=i/\v.natAbs<=20+1000001*i/\(∀m∈r,Cm (5040*B) (10^20) m.2.1)/\(∀m∈r,1<=m.2.2/\m.2.2<=10^9)/\(∀m∈r,Cm B (10^9) m.1)/\(∀m∈r,∃u:Int,m.1=Rat.divInt u t/\u<=v)/\r.Pairwise λa b=>a.1<b.1)
  ⟨v0,[],none,none,none,rfl,rfl,by lia,(λm h=>nomatch h),(λm h=>nomatch h),(λm h=>nomatch h),(λm h=>nomatch h),List.Pairwise.nil⟩ ?_ ?_)
 ·intro i I hi qQ0;refine qq λqz=>?_;obtain⟨v,r,o7,o8,o9,rfl,hl,hv,hh,hw,hp,hu,up⟩:=qQ0;obtain⟨o,hk⟩:∃o:Int,(0:Int)+(i:Int)*1=o:=⟨_,rfl⟩;apply qz;rw[hk];have b7:0<=o:=by lia
  have b8:o<=12:=by lia
  obtain⟨st,b9,c0,W⟩:∃st:Int,1<=st/\st<=10^6/\nF [PyData.int 3,PyData.int 9,PyData.int 1000000] (cA f 3%3)=some (.int st):=by
   obtain⟨d,y,e⟩:=kM (xs:=[PyData.int 3,PyData.int 9,PyData.int 1000000]) (i:=cA f 3%3) (by lia) (by show _<(3:Int);lia);simp only[List.mem_cons,List.not_mem_nil,or_false]at y;rcases y with rfl|rfl|rfl
   ·exact⟨3,by decide,by decide,e⟩
   ·exact⟨9,by decide,by decide,e⟩
   ·exact⟨_,by decide,by decide,e⟩
  obtain⟨G,c1,c2,Y⟩:∃G:Int,1<=G/\G<=10^9/\nF [PyData.int 1,PyData.int 3,PyData.int 1000000000] (cA f 3/3%3)=some (.int G):=by
   obtain⟨d,y,e⟩:=kM (xs:=[PyData.int 1,PyData.int 3,PyData.int 1000000000]) (i:=cA f 3/3%3) (by lia) (by show _<(3:Int);lia);simp only[List.mem_cons,List.not_mem_nil,or_false]at y;rcases y with rfl|rfl|rfl
   ·exact⟨1,by decide,by decide,e⟩
   ·exact⟨3,by decide,by decide,e⟩
   ·exact⟨_,by decide,by decide,e⟩
  walk_at"s";refine⟨cF (tP (by decide +kernel)) (eH (n:=12) (by lia) (by decide +kernel)),f,4+3*o,rfl,by lia,by lia,?_⟩;walk_at"d";refine⟨f,3,rfl,by decide,by decide,?_⟩;walk_at"d";refine⟨_,W,?_⟩;clear W;walk_at"d";refine⟨by lia,?_⟩;obtain⟨C,Z,a0,vv⟩:∃C:Int,v+1+cA f (4+3*o)%st=C/\C.natAbs<=20+1000001*(i+1)/\v<C:=by
   have e0:=Int.emod_nonneg (cA f (4+3*o)) (show st≠0 by lia);have e1:=Int.emod_lt_of_pos (cA f (4+3*o)) (show 0<st by lia);exact⟨_,rfl,by lia,by lia⟩
  rw[Z];clear Z;walk_at"s";refine⟨C,t,rfl,a4,eH (n:=10^6) (by lia) (by decide +kernel),?_⟩;walk_at"d";obtain⟨p,x⟩:∃p,Rat.divInt C t=p:=⟨_,rfl⟩;have cp:Cm B (10^9) p:=by
   rw[<-x,hB];exact Cm.div B0 (Nat.dvd_refl _) (Nat.le_trans (Nat.le_trans a0 (Nat.le_trans (show 20+1000001*(i+1)<=100000000 by lia) (by decide))) (Nat.le_mul_of_pos_right _ B0))
  rw[x];walk_at"s";refine⟨cF (tP (by decide +kernel)) (eH (n:=12) (by lia) (by decide +kernel)),f,6+3*o,rfl,by lia,by lia,?_⟩;walk_at"d";walk_at"s";refine⟨f,3,rfl,by decide,by decide,?_⟩;walk_at"d";refine⟨_,Y,?_⟩;clear Y;walk_at"d";refine⟨by lia,?_⟩
  obtain⟨M,a1,a5,a6⟩:∃M:Int,1+cA f (6+3*o)%G=M/\1<=M/\M<=10^9:=⟨_,rfl,by
   have e0:=Int.emod_nonneg (cA f (6+3*o)) (show G≠0 by lia)
   lia,by
   have e1:=Int.emod_lt_of_pos (cA f (6+3*o)) (show 0<G by lia)
   lia⟩
  rw[a1];clear a1;walk_at"d";refine⟨cF (tP (by decide +kernel)) (eH (n:=12) (by lia) (by decide +kernel)),f,5+3*o,rfl,by lia,by lia,?_⟩;walk_at"d";refine⟨_,L,p,l0,l1,B,rfl,a2,a3,bg _ (by lia) (by lia),B0,B1,cp,b0,b1,λq hq=>?_⟩;walk_at"d";refine⟨by lia,C,r++[(p,q,M)],some (.int o),some (fr p),some (.int M),?_,by rw[List.length_append,hl];rfl,a0,?_,?_,?_,?_,?_⟩
  ·rw[List.map_append];rfl
  ·intro m h;rcases List.mem_append.mp h with h|h
   ·exact hh m h
   ·rw[List.mem_singleton.mp h];exact hq
  ·intro m h;rcases List.mem_append.mp h with h|h
   ·exact hw m h
   ·rw[List.mem_singleton.mp h];exact⟨a5,a6⟩
  ·intro m h;rcases List.mem_append.mp h with h|h
   ·exact hp m h
   ·rw[List.mem_singleton.mp h];exact cp
  ·intro m h;rcases List.mem_append.mp h with h|h
   ·obtain⟨u,e,l⟩:=hu m h;exact⟨u,e,by lia⟩
   ·rw[List.mem_singleton.mp h];exact⟨C,x.symm,by lia⟩
  ·refine List.pairwise_append.mpr ⟨up,List.pairwise_singleton _ _,λm hm z hz=>?_⟩;rw[List.mem_singleton.mp hz];obtain⟨u,e,l⟩:=hu m hm;show m.1<p;rw[e,<-x];exact Mn (by lia) (by lia)
 intro I qQ0;refine qq λqz=>?_;obtain⟨v,r,o7,o8,o9,rfl,hl,hv,hh,hw,hp,hu,up⟩:=qQ0;apply qz;walk_at"d";exact k r B ⟨by lia,by lia,B0,B1,hp,hh,hw,up⟩ (by lia)
end
theorem gW{a b:Rat}{n m:Nat}{Q:Sl->Prop}{X:DX}(c:Dg n a)(d:Dg m b)(l:n+m<=2400)(k:Q (.dat (fr (a*b)))):uX [fr a,fr b] Q X:=by
 have e:=Fm.den_pos a;have f:=Fm.den_pos b;refine⟨a.num,a.den,b.num,b.den,n,m,rfl,by lia,by lia,c.n,by have:=c.d;lia,d.n,by have:=d.d;lia,l,?_⟩;rw[Rat.num_divInt_den,Rat.num_divInt_den];exact k
theorem M42.xd{B:Nat}{a:List Mk}(Z:M42 B a){m:Mk}(h:m∈a):Dg 16 m.1:=(Z.x m h).dg Z.B0 (l:=6) Z.B1 (b:=9) (Nat.le_refl _)
theorem M42.yd{B:Nat}{a:List Mk}(Z:M42 B a){m:Mk}(h:m∈a):Dg 31 m.2.1:=(Z.y m h).dg (by have:=Z.B0;lia) (l:=10) (by have:=Z.B1;lia) (b:=20) (Nat.le_refl _)
theorem M42.best{B:Nat}{a:List Mk}(Z:M42 B a):Dg 80 (bW a).2/\Dg 130 (bW a).1:=by
 obtain⟨m,d,e⟩:=iP Z.sz.ne;obtain⟨_,h⟩:=eR Z.sz d;have f:Dg 80 (bP a m).2:=by
  unfold bP;by_cases c:jF a m=[]
  ·rw[if_pos c];exact Dg.zero
  ·rw[if_neg c];refine qq λqz=>?_;obtain⟨z,i,j⟩:=(gB (by simpa using c) (iJ (m:=m) Z.sz.w1)).mem;obtain⟨o,k,rfl⟩:=List.mem_map.mp i;apply qz;show Dg 80 (qR _);rw[<-j];obtain⟨g,n⟩:=List.mem_filter.mp k;have p:o.1≠m.1:=of_decide_eq_true n;have q:Dg 32 (o.2.1-m.2.1):=(((Z.y o g).sub (Z.y m d)).mono (Nat.dvd_refl _) (show 10^20+10^20<=10^21 by decide)).dg (by have:=Z.B0;lia) (l:=10) (by have:=Z.B1;lia) (b:=21) (Nat.le_refl _);have r:Dg 17 (o.1-m.1):=(((Z.x o g).sub (Z.x m d)).mono (Nat.dvd_refl _) (show 10^9+10^9<=10^10 by decide)).dg Z.B0 (l:=6) Z.B1 (b:=10) (Nat.le_refl _);exact(q.div r (λz=>p (by grind))).mono (by decide)
 rw[e];refine⟨f,?_⟩;rw[h];exact((Z.yd d).sub (f.mul (Z.xd d))).mono (by decide)
theorem sF{b:Nat}(a:0<b)(c:b<=9):b∣2520:=by
 have:b=1\/b=2\/b=3\/b=4\/b=5\/b=6\/b=7\/b=8\/b=9:=by lia
 rcases this with rfl|rfl|rfl|rfl|rfl|rfl|rfl|rfl|rfl <;>decide
noncomputable def iT(c:Int):Rat:=if c%2=1 then Rat.divInt (c/2%25-12) (1+c/50%9)else Rat.divInt (c*27644437%2000000000001-1000000000000) (1+c/2%9)
theorem kF(c:Int):Cm 2520 (10^12) (iT c):=by
 unfold iT;split
 ·obtain⟨b,d,a,e⟩:∃b:Nat,1+c/50%9=(b:Int)/\0<b/\b<=9:=⟨(1+c/50%9).toNat,by lia,by lia,by lia⟩;rw[d];have:(c/2%25-12).natAbs<=10^12:=by lia
  exact Cm.div a (sF a e) (Nat.le_trans this (Nat.le_mul_of_pos_right _ a))
 ·obtain⟨b,d,a,e⟩:∃b:Nat,1+c/2%9=(b:Int)/\0<b/\b<=9:=⟨(1+c/2%9).toNat,by lia,by lia,by lia⟩;rw[d];generalize c*27644437=z;have:(z%2000000000001-1000000000000).natAbs<=10^12:=by lia
  exact Cm.div a (sF a e) (Nat.le_trans this (Nat.le_mul_of_pos_right _ a))
section
variable{P:Program}{w:World}{K:PySem.W.Frag}{mg:Str->Option Value}{base:Heap}{A:Adr}
noncomputable def Jx:DW:=λa Q _=>∃c:Int,a=[.int c]/\Bg 1048577 c/\Q (.dat (fr (iT c)))
theorem Hm(T:Txt K mg A):FnOk P w K mg base (eV P w) 3 A.a_qi1 A.d_qi1 ["cell"] (fD K Jx):=by
 have a:=kS (P:=P) (w:=w) (base:=base) T;refine gH T.F_qi1 Gh (λd Q E h=>?_) (λe j outer s H E b=>?_)
 ·obtain⟨_,rfl,_⟩:=h;rfl
 refine⟨_,(aH (cZ (bR fF (aV cO (pv 0) aD) aD (bY _)) (aT (bI (aK a (b.mono (by decide)) rfl T.m_qc1 T.F_qc1.kp T.b_qc1 .nil aP (aA (aV fV (aV cO (aV cS (pv 0) aD) aD) aD) (aA (aV cR aD (aV cO (aV cS (pv 0) aD) aD)) aF))))) bV)
   (aT (bI (aK a (b.mono (by decide)) rfl T.m_qc1 T.F_qc1.kp T.b_qc1 .nil aP (aA (aV fV (aV cO (aV bG (pv 0) aD) (aV cR (aV bG aD (aV gL aD aD)) aD)) (aV gL aD aD)) (aA (aV cR aD (aV cO (aV cS (pv 0) aD) aD)) aF)))))),_,(aQ (cY (bQ (aB (aU fE (aB (dH (k:=2) (by decide) (aE 0) aI)) (aB aI)))) (cC (aB (aL (aC (aB (aU cN (aB (dH (k:=25) (by decide) (aB (fX (k:=2) (nL (by decide +kernel)) (aE 0) aI)) aI)) (aB aI))) (aC (aB (aU cN (aB aI) (aB (dH (k:=9) (by decide) (aB (fX (k:=50) (nL (by decide +kernel)) (aE 0) aI)) aI)))) aM))))) bU)
   (cC (aB (aL (aC (aB (aU cN (aB (dH (k:=2000000000001) (by decide) (aB (aU bZ (aE 0) (aB aI))) (kY (v:=2000000000001) (aU cN (aB (aU bZ (aB aI) (aB (aU bZ (aB aI) (aB aI))))) (aB aI)) (λf g Q h=>⟨rC (by decide +kernel),cF (tP (by decide +kernel)) (tP (by decide +kernel)),Eq.mpr (congrArg (λz=>Q (.int z)) (by decide +kernel:(((2*(10^Int.toNat 12))+1):Int)=2000000000001)) h⟩)))) (aB (kY (v:=1000000000000) (aU bZ (aB aI) (aB aI)) (λf g Q h=>⟨rC (by decide +kernel),Eq.mpr (congrArg (λz=>Q (.int z)) (by decide +kernel:((10^Int.toNat 12):Int)=1000000000000)) h⟩))))) (aC (aB (aU cN (aB aI) (aB (dH (k:=9) (by decide) (aB (fX (k:=2) (nL (by decide +kernel)) (aE 0) aI)) aI)))) aM)))))),?_⟩
 intro d Q X qQ0;refine qq λqz=>?_;obtain⟨c,rfl,i,k⟩:=qQ0;apply qz;unfold iT at k;walk_at"s";refine fG (λz=>?_) (λz=>?_)
 ·rw[if_pos z]at k;refine⟨_,_,rfl,by lia,eH (n:=10) (by lia) (by decide +kernel),?_⟩;exact⟨rfl,k⟩
 ·rw[if_neg z]at k;walk_at"d";refine⟨sG (Nat.le_trans i.bits (by decide)) (tP (by decide +kernel)),_,_,rfl,by lia,eH (n:=10) (by lia) (by decide +kernel),?_⟩;exact⟨rfl,k⟩
end
noncomputable def Bj(p q r:Rat)(l0:Ln)(n:Int)(z:Mk):Mk:=(p*z.1+q,r*z.2.1+(l0.1+l0.2*z.1),z.2.2*n)
theorem Ky{p q r:Rat}{l0 l a:Ln}{n:Int}(b:a.2*p=r*l.2+l0.2)(c:a.1+a.2*q=r*l.1+l0.1)(z:Mk):rr a (Bj p q r l0 n z)=r*rr l z:=by
 unfold rr Bj;dsimp only;grind
theorem tN{p q r:Rat}{l0 l l':Ln}{n:Int}(d:1<=n)(b:l'.2*p=r*l.2+l0.2)(c:l'.1+l'.2*q=r*l.1+l0.1):∀a:List Mk,FS (a.map (Bj p q r l0 n)) l'=bM r*(n:Rat)*FS a l
 |[]=>by show(0:Rat)=_*0;rw[Rat.mul_zero]
 |z::a=>by
  rw[List.map_cons,rH,rH,tN d b c a,Ky b c,kO];show((z.2.2*n:Int):Rat)*_+_=_;rw[Rat.intCast_mul];grind
theorem lT{A B:List Mk}(h:A.Perm B)(l:Ln):FS A l=FS B l:=fY (h.map _)
theorem Fs{a:List Mk}(hw:∀m∈a,1<=m.2.2)(l:Ln):0<=FS a l:=pA λq b=>by
 obtain⟨m,c,rfl⟩:=List.mem_map.mp b;exact Rat.mul_nonneg (Rat.intCast_nonneg.mpr (by have:=hw m c;lia)) (iQ _)
theorem Cj{L o:Nat}{c d:List Mk}{p q r:Rat}{l0:Ln}{n:Int}(Z:LSz L c)(i:LSz o d)(j:d.Perm (c.map (Bj p q r l0 n)))(s:p≠0)(k:1<=n):FS d (bW d)=bM r*(n:Rat)*FS c (bW c):=by
 have t:(0:Rat)<=(n:Rat):=Rat.intCast_nonneg.mpr (by lia);have u:=Rat.mul_nonneg (iQ r) t;refine Rat.le_antisymm ?_ ?_
 ·obtain⟨b,f⟩:∃b,(r*(bW c).2+l0.2)/p=b:=⟨_,rfl⟩;have m:b*p=r*(bW c).2+l0.2:=by rw[<-f];exact Rat.div_mul_cancel s
  have h:=mY i (r*(bW c).1+l0.1-b*q) b;have e:=tN (p:=p) (q:=q) (r:=r) (l0:=l0) (l:=bW c) (l':=(r*(bW c).1+l0.1-b*q,b)) k m (by dsimp only;grind) c;rw[<-lT j]at e;rw[e]at h;exact h
 ·by_cases g:r=0
  ·have a0:bM r=0:=by rw[g];exact cQ Rat.le_refl
   rw[a0,Rat.zero_mul,Rat.zero_mul];exact Fs i.w1 _
  ·rw[lT j];obtain⟨b,f⟩:∃b,((bW d).2*p-l0.2)/r=b:=⟨_,rfl⟩;obtain⟨a,v⟩:∃a,((bW d).1+(bW d).2*q-l0.1)/r=a:=⟨_,rfl⟩;have m:b*r=(bW d).2*p-l0.2:=by rw[<-f];exact Rat.div_mul_cancel g
   have w:a*r=(bW d).1+(bW d).2*q-l0.1:=by rw[<-v];exact Rat.div_mul_cancel g
   rw[tN (l:=(a,b)) (l':=bW d) k (by dsimp only;grind) (by dsimp only;grind)];have h:=mY Z a b;have:=Rat.mul_nonneg u (show 0<=FS c (a,b)-FS c (bW c) by grind);grind
theorem Ht{L j:Nat}{b c:List Mk}{p q r s:Rat}{n:Int}(Z:LSz L b)(d:LSz j c)(f:c.Perm (b.map (Bj p q r (s,0) n)))(g:1<=n):FS c (iM c,0)=bM r*(n:Rat)*FS b (iM b,0):=by
 have k:(0:Rat)<=(n:Rat):=Rat.intCast_nonneg.mpr (by lia);have m:=Rat.mul_nonneg (iQ r) k;refine Rat.le_antisymm ?_ ?_
 ·have h:=kU d.ne d.w1 (r*iM b+s);have e:=tN (p:=p) (q:=q) (r:=r) (l0:=(s,0)) (l:=(iM b,0)) (l':=(r*iM b+s,0)) g (by dsimp only;grind) (by dsimp only;grind) b;rw[<-lT f]at e;rw[e]at h;exact h
 ·by_cases i:r=0
  ·have a0:bM r=0:=by rw[i];exact cQ Rat.le_refl
   rw[a0,Rat.zero_mul,Rat.zero_mul];exact Fs d.w1 _
  ·rw[lT f];obtain⟨a,o⟩:∃a,(iM c-s)/r=a:=⟨_,rfl⟩;have t:a*r=iM c-s:=by rw[<-o];exact Rat.div_mul_cancel i
   rw[tN (l:=(a,0)) (l':=(iM c,0)) g (by dsimp only;grind) (by dsimp only;grind)];have h:=kU Z.ne Z.w1 a;have:=Rat.mul_nonneg m (show 0<=FS b (a,0)-FS b (iM b,0) by grind);grind
structure MV(B:Nat)(mo:List Mk):Prop where
 n1:1<=mo.length
 n5:mo.length<=5
 B0:0<B
 B1:B<=10^6
 x:∀m∈mo,Cm (2520*B) (10^22) m.1
 y:∀m∈mo,Cm (2520*5040*B) (10^85) m.2.1
 w:∀m∈mo,1<=m.2.2/\m.2.2<=10^19
 up:mo.Pairwise λa b=>a.1<b.1
theorem MV.L1{B:Nat}{a:List Mk}(Z:MV B a):2520*5040*B<=10^14:=Nat.le_trans (Nat.mul_le_mul_left _ Z.B1) (by decide)
theorem MV.sz{B:Nat}{a:List Mk}(Z:MV B a):LSz (2520*5040*B) a:=
 ⟨Z.n1,by have:=Z.n5;lia,by have:=Z.B0;lia,Nat.le_trans Z.L1 (eQ (by decide)),λm h=>(Z.x m h).mono ⟨5040,by rw[Nat.mul_assoc,Nat.mul_assoc];congr 1;exact Nat.mul_comm _ _⟩ (eQ (by decide)),λm h=>(Z.y m h).mono (Nat.dvd_refl _) (eQ (by decide)),λm h=>⟨(Z.w m h).1,by have:=(Z.w m h).2;lia⟩,Z.up⟩
theorem MV.xd{B:Nat}{a:List Mk}(Z:MV B a){m:Mk}(h:m∈a):Dg 33 m.1:=(Z.x m h).dg (by have:=Z.B0;lia) (l:=10) (by have:=Z.B1;lia) (b:=22) (Nat.le_refl _)
theorem MV.yd{B:Nat}{a:List Mk}(Z:MV B a){m:Mk}(h:m∈a):Dg 100 m.2.1:=(Z.y m h).dg (by have:=Z.B0;lia) (l:=14) Z.L1 (b:=85) (Nat.le_refl _)
theorem Dh{a b:Rat}(h:b≠0):(a/b).den<=a.den*b.num.natAbs:=by
 have d:b.num≠0:=λz=>h (Rat.num_eq_zero.mp z);have e:a/b=Rat.divInt (a.num*(b.den:Int)) ((a.den:Int)*b.num):=by
  have f:=Fm.num_eq a;have g:=Fm.num_eq b;have i:(a.den:Rat)≠0:=λz=>a.den_nz (by have:=Rat.natCast_eq_zero_iff.mp z;exact this);have c:(a.den:Int)≠0:=by have:=a.den_nz;lia
  refine Fm.eq_divInt (Int.mul_ne_zero c d) ?_;rw[Rat.intCast_mul,Rat.intCast_mul,f,g,Rat.intCast_natCast,Rat.intCast_natCast];have:a/b*b=a:=Rat.div_mul_cancel h;grind
 rw[e];have:=Fm.den_le (a.num*(b.den:Int)) (b:=(a.den:Int)*b.num) (Int.mul_ne_zero (by have:=a.den_nz;lia) d);rw[Int.natAbs_mul,Int.natAbs_natCast]at this;exact this
theorem tK{L:Nat}{a:List Mk}(Z:LSz L a){ex ey nx:Nat}(j:∀m∈a,m.1.den<=10^ex)(k:∀m∈a,m.2.1.den<=10^ey)(d:∀m∈a,∀o∈a,(o.2.1-m.2.1).den<=10^ey)(f:∀m∈a,∀o∈a,(o.1-m.1).num.natAbs<=10^nx):
  (bW a).2.den<=10^(ey+nx)/\(bW a).1.den<=10^(ey+(ey+nx+ex)):=by
 refine qq λqz=>?_;obtain⟨m,b,e⟩:=iP Z.ne;obtain⟨_,l⟩:=eR Z b;apply qz;have h:(bP a m).2.den<=10^(ey+nx):=by
  unfold bP;by_cases c:jF a m=[]
  ·rw[if_pos c];exact Nat.one_le_pow _ _ (by decide)
  ·rw[if_neg c];refine qq λqz=>?_;obtain⟨z,n,p⟩:=(gB (by simpa using c) (iJ (m:=m) Z.w1)).mem;obtain⟨o,q,rfl⟩:=List.mem_map.mp n;apply qz;show(qR _).den<=_;rw[<-p];obtain⟨i,r⟩:=List.mem_filter.mp q;have s:o.1≠m.1:=of_decide_eq_true r;exact Nat.le_trans (Dh (λz=>s (by grind))) (bX (d m b o i) (f m b o i))
 rw[e];refine⟨h,?_⟩;rw[l];have t:Cm (bP a m).2.den (bP a m).2.num.natAbs (bP a m).2:=Cm.of (Nat.dvd_refl _) (Nat.le_mul_of_pos_right _ (Nat.pos_of_ne_zero (Rat.den_nz _)));have u:Cm m.1.den m.1.num.natAbs m.1:=Cm.of (Nat.dvd_refl _) (Nat.le_mul_of_pos_right _ (Nat.pos_of_ne_zero m.1.den_nz));have v:Cm m.2.1.den m.2.1.num.natAbs m.2.1:=Cm.of (Nat.dvd_refl _) (Nat.le_mul_of_pos_right _ (Nat.pos_of_ne_zero m.2.1.den_nz));have c1:=t.mul u;have c2:=(v.mono (Nat.dvd_mul_right _ ((bP a m).2.den*m.1.den)) (Nat.le_refl _)).sub (c1.mono (Nat.dvd_mul_left _ m.2.1.den) (Nat.le_refl _));have g:0<m.2.1.den*((bP a m).2.den*m.1.den):=Nat.mul_pos (Nat.pos_of_ne_zero m.2.1.den_nz) (Nat.mul_pos (Nat.pos_of_ne_zero (Rat.den_nz _)) (Nat.pos_of_ne_zero m.1.den_nz));exact Nat.le_trans (c2.den g) (bX (k m b) (bX h (j m b)))
section
variable{P:Program}{w:World}{K:PySem.W.Frag}{mg:Str->Option Value}{base:Heap}{A:Adr}
noncomputable def Fy:DW:=λa Q _=>∃(m:Mk)(l:Ln)(p:Rat),a=[eJ m,.list [fr l.1,fr l.2],fr p]/\Dg 33 m.1/\Dg 100 m.2.1/\Dg 809 l.1/\Dg 405 l.2/\Ok p/\Wee m.2.2/\Bi (rr l) m p/\Q (.dat (.bool true))
theorem Hk(T:Txt K mg A):FnOk P w K mg base (eV P w) 4 A.a_qk1 A.d_qk1 ["mark","numbers","pull"] (fD K Fy):=by
 have a:=qO (P:=P) (w:=w) (base:=base) T;have d:=qN (P:=P) (w:=w) (base:=base) T;refine gH T.F_qk1 sc_qk1 (λG Q E h=>?_) (λI R outer s H E f=>?_)
 ·obtain⟨_,_,_,rfl,_⟩:=h;rfl
 refine⟨_,(aH (aY (i:=3) sc_qk1.nd rfl (Or.inl rfl) (aK a (f.mono (by decide)) rfl T.m_qd1 T.F_qd1.kp T.b_qd1 .nil aP (aA (aX (iB (K:=K) rfl) (pv 1) aD (λ_ _=>rfl)) (aA (aK d (f.mono (by decide)) rfl T.m_qe1 T.F_qe1.kp T.b_qe1 .nil aP (aA (aX (iB (K:=K) rfl) (pv 1) aD (λ_ _=>rfl)) (aA (aX (bK (K:=K) rfl) (pv 0) aD (λ_ _=>rfl)) aF))) aF))))
   (aH (aY (i:=4) sc_qk1.nd rfl (Or.inl rfl) (aV fV (aV bG (aX (bK (K:=K) rfl) (aX (bK (K:=K) rfl) (pv 0) aD (λ_ _=>rfl)) aD (λ_ _=>rfl)) (aX (bK (K:=K) rfl) (pv 3) aD (λ_ _=>rfl))) (aV bG (aX (bK (K:=K) rfl) (pv 3) aD (λ_ _=>rfl)) (aX (bK (K:=K) rfl) (aX (bK (K:=K) rfl) (pv 0) aD (λ_ _=>rfl)) aD (λ_ _=>rfl)))))
   (aH (cZ (bR Ei (pv 4) aD (bY _)) (aT (bI (kE (Nz (K:=K) rfl f.units) (pv 2) (cD (aA (aX (bK (K:=K) rfl) (pv 0) aD (λ_ _=>rfl)) (aA aD aF))) (bY _)))) bV)
   (aH (cZ (bR oC (pv 4) aD (bY _)) (aT (bI (kE (Nz (K:=K) rfl f.units) (pv 2) (cD (aA (iV fU (aX (bK (K:=K) rfl) (pv 0) aD (λ_ _=>rfl))) (aA aD aF))) (bY _)))) bV)
   (aT (bI (kE Lh (cL eZ rfl T.n_abs iH (aA (aX (bK (K:=K) rfl) (pv 2) aD (λ_ _=>rfl)) aF)) (aV bG (aX (bK (K:=K) rfl) (pv 0) aD (λ_ _=>rfl)) (aX (bK (K:=K) rfl) (pv 2) aD (λ_ _=>rfl))) (bY _)))))))),_,(aQ (bC (aL (aC (aB (dW (bL 1) (aB aI))) (aC (aB (aL (aC (aB (dW (bL 1) (aB aI))) (aC (aB (aW 0 (aN 0))) aM)))) aM))) (aJ 3))
   (aQ (bC (aU cN (aB (aU bZ (aB (aW 0 (aW 1 (aN 0)))) (aB (aW 1 (aN 3))))) (aB (aU bZ (aB (aW 0 (aN 3))) (aB (aW 1 (aW 1 (aN 0))))))) (aJ 4))
   (aQ (cY (bQ (aB (aU kB (aE 4) (aB aI)))) (cC (aB (aU qH (aE 2) (aB (cH (aO (aW 2 (aN 0)) (aO aI bH)) (by decide)))))) bU)
   (aQ (cY (bQ (aB (aU kB (aE 4) (aB aI)))) (cC (aB (aU qH (aE 2) (aB (cH (aO (fW (aB (aW 2 (aN 0)))) (aO aI bH)) (by decide)))))) bU)
   (cC (aB (aU kB (aB (eY gZ (aC (aB (aW 0 (aN 2))) aM))) (aB (aU bZ (aB (aW 2 (aN 0))) (aB (aW 1 (aN 2)))))))))))),?_⟩
 intro G Q X qQ0;refine qq λqz=>?_;obtain⟨m,l,p,rfl,j,J,n,d2,L,M,F,k⟩:=qQ0;apply qz;walk_at"s";refine⟨_,rfl,_,rfl,?_⟩;refine gW d2 j (by decide) ?_;walk_at"d";have o:=d2.mul j;refine lZ n o (by decide) ?_;have q:=n.add o;obtain⟨h,r⟩:∃h,l.1+l.2*m.1=h:=⟨_,rfl⟩;rw[r]at q⊢;have x:rr l m=m.2.1-h:=by rw[<-r];rfl
 have y:=cP q (by decide);have z:=cP J (by decide);have S:=Fm.den_pos m.2.1;have U:=Fm.den_pos h;have B:=mR (t:=h.num) (b:=(h.den:Int)) (u:=m.2.1.num) (c:=(m.2.1.den:Int)) (by lia) (by lia);have C:=mR (t:=m.2.1.num) (b:=(m.2.1.den:Int)) (u:=h.num) (c:=(h.den:Int)) (by lia) (by lia);rw[Rat.num_divInt_den,Rat.num_divInt_den]at B C;walk_at"s";refine⟨cF z.n y.d,cF y.n z.d,?_⟩;generalize m.2.1.num*(h.den:Int)=u at *
 generalize h.num*(m.2.1.den:Int)=v at *
 walk_at"s";refine fG (λc=>?_) (λc=>?_)
 ·have N:=B.mp (by lia);have e:=F.1 (by rw[x];grind);refine⟨Rat,sU,p,(m.2.2:Rat),rfl,rfl,λb g=>?_⟩;rw[g.mpr e];exact k
 walk_at"s";refine fG (λO=>?_) (λO=>?_)
 ·have N:=C.mp (by lia);have e:=F.2.1 (by rw[x];grind);refine⟨Rat,sU,p,((-m.2.2:Int):Rat),rfl,rfl,λb g=>?_⟩;rw[g.mpr (by rw[e,Rat.intCast_neg])];exact k
 have W:=F.2.2.1;have Y:=F.2.2.2;have Z:=Fm.den_pos p;have D:=Fm.num_eq p;walk_at"d";refine⟨cF M L.d,?_⟩;have c0:(0:Rat)<((p.den:Int):Rat):=Rat.intCast_pos.mpr (by lia);have g1:p.num<=m.2.2*(p.den:Int):=by
  rw[<-Rat.intCast_le_intCast,Rat.intCast_mul,D];have:=Rat.mul_nonneg (show 0<=(m.2.2:Rat)-p by grind) (Rat.le_of_lt c0);rw[Rat.intCast_natCast]at *
  grind
 have g2:-p.num<=m.2.2*(p.den:Int):=by
  rw[<-Rat.intCast_le_intCast,Rat.intCast_mul,Rat.intCast_neg,D];have:=Rat.mul_nonneg (show 0<=(m.2.2:Rat)+p by grind) (Rat.le_of_lt c0);rw[Rat.intCast_natCast]at *
  grind
 rw[decide_eq_true (by split <;>assumption)];exact k
noncomputable def Ju:DW:=λc Q _=>∃(a b:List Rat)(D L:Nat),c=[.list (a.map fr),.list (b.map fr)]/\a.length<=5/\0<D/\D<=10^911/\0<L/\L<=10^10/\(∀p∈a,Cm D (10^19) p)/\(∀x∈b,Cm L (10^22) x)/\Q (.dat (fr (tot (List.zipWith (λp x=>p*x) a b))))
theorem Hj(T:Txt K mg A):FnOk P w K mg base (eV P w) 4 A.a_ql1 A.d_ql1 ["pulls","places"] (fD K Ju):=by
 have e:=qO (P:=P) (w:=w) (base:=base) T;have f:=qN (P:=P) (w:=w) (base:=base) T;refine gH T.F_ql1 sc_ql1 (λG Q E h=>?_) (λI S outer s H E y=>?_)
 ·obtain⟨_,_,_,_,rfl,_⟩:=h;rfl
 refine⟨_,(aH (aY (i:=2) sc_ql1.nd rfl (Or.inl rfl) (cD (aA aD (aA aD aF))))
   (aH (fN PassesOwn.leaving rfl (fO (K:=K) rfl rfl T.n_zip (aA (pv 0) (aA (pv 1) aF))) (iS (K:=K) (n:=2) rfl rfl (bD (aZ (i:=3) sc_ql1.nd rfl (Or.inl rfl)) (bD (aZ (i:=4) sc_ql1.nd rfl (Or.inl rfl)) cW)))
    (aT (aY (i:=2) sc_ql1.nd rfl (Or.inl rfl) (aK e (y.mono (by decide)) rfl T.m_qd1 T.F_qd1.kp T.b_qd1 .nil aP (aA (pv 2) (aA (aK f (y.mono (by decide)) rfl T.m_qe1 T.F_qe1.kp T.b_qe1 .nil aP (aA (pv 3) (aA (pv 4) aF))) aF))))))
   (aT (bI (pv 2))))),_,(aQ (bC (cH (aO aI (aO aI bH)) (by decide)) (aJ 2))
   (aQ (fL (zW (aN 0) (aN 1)) (dZ (bJ (aJ 3) (bJ (aJ 4) dR)))
    (bC (aL (aC (aE 2) (aC (aB (aL (aC (aE 3) (aC (aE 4) aM)))) aM))) (aJ 2)))
   (eA 2))),?_⟩
 intro G Q X qQ0;refine qq λqz=>?_;obtain⟨d,c,D,L,rfl,J,D0,D1,L0,L1,m,o,k⟩:=qQ0;apply qz;clear qz;have r:∀{p:Rat},p∈d->Dg 931 p:=λ{p} h=>(m p h).dg D0 D1 (b:=19) (Nat.le_refl _);have xd:∀{x:Rat},x∈c->Dg 33 x:=λ{x} h=>(o x h).dg L0 L1 (b:=22) (Nat.le_refl _);have C:∀i,Dg 964 (tot (((d.zip c).take i).map λz=>z.1*z.2)):=λi=>by
  have h:=Cm.tot (qs:=((d.zip c).take i).map λz=>z.1*z.2) (L:=D*L) (B:=10^41) λq M=>by
   obtain⟨z,N,rfl⟩:=List.mem_map.mp M;obtain⟨g,j⟩:=List.of_mem_zip (a:=z.1) (b:=z.2) (List.mem_of_mem_take N);exact((m _ g).mul (o _ j)).mono (Nat.dvd_refl _) (by decide +kernel)
  refine h.dg (Nat.mul_pos D0 L0) (l:=921) (Nat.le_trans (Nat.mul_le_mul D1 L1) (by decide +kernel)) (b:=42) ?_;rw[List.length_map,List.length_take,List.length_zip];have:min i (min d.length c.length)*10^41<=5*10^41:=Nat.mul_le_mul_right _ (by lia);exact Nat.le_trans this (by decide +kernel)
 walk_at"s"
 refine dO (eU (λz:Rat×Rat=>PyData.tuple [fr z.1,fr z.2]) (d.zip c) (λQ h=>by walk_at"d";rw[dG];exact h)
  (λi t=>∃u v:Option PyData,t=[some (.dat (.list (d.map fr))),some (.dat (.list (c.map fr))),some (.dat (fr (tot (((d.zip c).take i).map λz=>z.1*z.2)))),u.map Sl.dat,v.map Sl.dat])
  ⟨none,none,rfl⟩ ?_ ?_)
 ·intro i qQ0 t F qQ1;refine qq λqz=>?_;obtain⟨p,x⟩:=qQ0;obtain⟨u,v,rfl⟩:=qQ1;obtain⟨g,j⟩:=List.of_mem_zip (a:=p) (b:=x) (List.mem_of_getElem? F);apply qz;clear qz;walk_at"d";refine gW (r g) (xd j) (by decide) ?_;walk_at"d";refine lZ (C i) ((r g).mul (xd j)) (by decide) ?_;walk_at"d";refine⟨some (fr p),some (fr x),?_⟩;rw[eF F,List.map_append,List.map_singleton,lV];rfl
 intro t qQ0;refine qq λqz=>?_;obtain⟨u,v,rfl⟩:=qQ0;apply qz;clear qz;have O:(d.zip c).map (λz=>z.1*z.2)=List.zipWith (λp x=>p*x) d c:=by
  clear k m o r xd C J
  induction d generalizing c with
  |nil=>rfl
  |cons a d R=>cases c with
   |nil=>rfl
   |cons b c=>rw[List.zip_cons_cons,List.map_cons,List.zipWith_cons_cons,R]
 rw[List.take_length,O];walk_at"d";exact k
noncomputable def Dw:DW:=λa Q _=>∃t b u c f g:Int,a=[.tuple [.int t,.int b],.tuple [.int u,.int c],.tuple [.int f,.int g]]/\Wee t/\Wee b/\Wee u/\Wee c/\Wee f/\Wee g/\Wee (u*b)/\Wee (t*f)/\u*b*g=t*f*c/\Q (.dat (.bool true))
theorem Hi(T:Txt K mg A):FnOk P w K mg base (eV P w) 1 A.a_qm1 A.d_qm1 ["first","then","factor"] (fD K Dw):=by
 refine gH T.F_qm1 Gg (λa Q E h=>?_) (λd r outer s H E v=>?_)
 ·obtain⟨_,_,_,_,_,_,rfl,_⟩:=h;rfl
 refine⟨_,(aT (bI (kE fF (aV bG (aV bG (aX (bK (K:=K) rfl) (pv 1) aD (λ_ _=>rfl)) (aX (bK (K:=K) rfl) (pv 0) aD (λ_ _=>rfl))) (aX (bK (K:=K) rfl) (pv 2) aD (λ_ _=>rfl))) (aV bG (aV bG (aX (bK (K:=K) rfl) (pv 0) aD (λ_ _=>rfl)) (aX (bK (K:=K) rfl) (pv 2) aD (λ_ _=>rfl))) (aX (bK (K:=K) rfl) (pv 1) aD (λ_ _=>rfl))) (bY _)))),_,(cC (aB (aU fE (aB (aU bZ (aB (aU bZ (aB (aW 0 (aN 1))) (aB (aW 1 (aN 0))))) (aB (aW 1 (aN 2))))) (aB (aU bZ (aB (aU bZ (aB (aW 0 (aN 0))) (aB (aW 0 (aN 2))))) (aB (aW 1 (aN 1)))))))),?_⟩;intro a Q X qQ0;refine qq λqz=>?_;obtain⟨t,b,u,c,f,g,rfl,i,j,l,m,n,o,p,q,e,k⟩:=qQ0;apply qz;walk_at"d";refine⟨cF l j,cF p o,cF i n,cF q m,?_⟩;rw[decide_eq_true e];exact k
end
theorem Mc{B:Nat}{b:List Mk}{p q r:Rat}{l0:Ln}{n:Int}(Z:M42 B b)(d:Cm 2520 (10^12) p)(e:Cm 2520 (10^12) q)(f:Cm 2520 (10^64) r)(c1:Cm 2520 (10^12) l0.1)(c2:Cm 2520 (10^12) l0.2)(g:1<=n)(h:n<=10^9+1):
  ∀z∈b,Cm (2520*B) (10^22) (p*z.1+q)/\Cm (2520*5040*B) (10^85) (r*z.2.1+(l0.1+l0.2*z.1))/\1<=z.2.2*n/\z.2.2*n<=10^19:=λz a=>by
 have c:=Z.x z a;have i:=Z.y z a;have hw:=Z.w z a;refine⟨((d.mul c).add (e.mono (Nat.dvd_mul_right _ _) (Nat.le_refl _))).mono (Nat.dvd_refl _) (by decide),?_,?_,?_⟩
 ·have j:2520*(5040*B)=2520*5040*B:=by rw[Nat.mul_assoc]
  have a1:=f.mul i;rw[j]at a1;have a2:=(c1.mono (Nat.dvd_mul_right _ B) (Nat.le_refl _)).add (c2.mul c);have d2:2520*B∣2520*5040*B:=⟨5040,by rw[Nat.mul_assoc,Nat.mul_assoc];congr 1;exact Nat.mul_comm _ _⟩;exact(a1.add (a2.mono d2 (Nat.le_refl _))).mono (Nat.dvd_refl _) (by decide +kernel)
 ·have:1*1<=z.2.2*n:=Int.mul_le_mul hw.1 g (by decide) (by lia)
  lia
 ·have:z.2.2*n<=10^9*(10^9+1):=Int.mul_le_mul hw.2 h (by lia) (by decide);exact Int.le_trans this (by decide)
theorem Md{B:Nat}{e:List Mk}{p q r:Rat}{l0:Ln}{n:Int}(Z:M42 B e)(t:e.length<=5)(u:p≠0)(f:Cm 2520 (10^12) p)(g:Cm 2520 (10^12) q)(i:Cm 2520 (10^64) r)(c1:Cm 2520 (10^12) l0.1)(c2:Cm 2520 (10^12) l0.2)(j:1<=n)(k:n<=10^9+1):
  (p<0->MV B (e.map (Bj p q r l0 n)).reverse)/\(¬p<0->MV B (e.map (Bj p q r l0 n))):=by
 have l:=Mc Z f g i c1 c2 j k;have d:∀m∈e.map (Bj p q r l0 n),Cm (2520*B) (10^22) m.1/\Cm (2520*5040*B) (10^85) m.2.1/\1<=m.2.2/\m.2.2<=10^19:=λm o=>by
  refine qq λqz=>?_;obtain⟨z,s,rfl⟩:=List.mem_map.mp o;apply qz;exact l z s
 have v:=Z.n1;refine⟨λc=>?_,λc=>?_⟩
 ·refine⟨by rw[List.length_reverse,List.length_map];lia,by rw[List.length_reverse,List.length_map];lia,Z.B0,Z.B1,λm h=>(d m (List.mem_reverse.mp h)).1,λm h=>(d m (List.mem_reverse.mp h)).2.1,λm h=>(d m (List.mem_reverse.mp h)).2.2,?_⟩;rw[List.pairwise_reverse,List.pairwise_map];refine Z.up.imp λ{a b} h=>?_;show p*b.1+q<p*a.1+q;have:=Rat.mul_pos (show 0< -p by grind) (show 0<b.1-a.1 by grind);grind
 ·refine⟨by rw[List.length_map];lia,by rw[List.length_map];lia,Z.B0,Z.B1,λm h=>(d m h).1,λm h=>(d m h).2.1,λm h=>(d m h).2.2,?_⟩;rw[List.pairwise_map];refine Z.up.imp λ{a b} h=>?_;show p*a.1+q<p*b.1+q;have:=Rat.mul_pos (show 0<p by grind) (show 0<b.1-a.1 by grind);grind
section
variable{P:Program}{w:World}{K:PySem.W.Frag}{mg:Str->Option Value}{base:Heap}{A:Adr}
noncomputable def Om:DW:=λc Q _=>∃(a:List Mk)(B:Nat)(p q r:Rat)(l0:Ln)(n:Int),c=[.list (a.map eJ),fr p,fr q,fr r,.list [fr l0.1,fr l0.2],.int n]/\M42 B a/\a.length<=5/\p≠0/\Cm 2520 (10^12) p/\Cm 2520 (10^12) q/\Cm 2520 (10^64) r/\Cm 2520 (10^12) l0.1/\Cm 2520 (10^12) l0.2/\1<=n/\n<=10^9+1/\
 ∀b,MV B b->b.Perm (a.map (Bj p q r l0 n))->Q (.own (b.map eJ))
theorem Hl(T:Txt K mg A):FnOk P w K mg base (eV P w) 4 A.a_qj1 A.d_qj1 ["marks","p","q","r","line","m"] (fD K Om):=by
 have a:=qO (P:=P) (w:=w) (base:=base) T;have d:=qN (P:=P) (w:=w) (base:=base) T;refine gH T.F_qj1 sc_qj1 (λS Q E h=>?_) (λU Ar outer s H E j=>?_)
 ·obtain⟨_,_,_,_,_,_,_,rfl,_⟩:=h;rfl
 refine⟨_,(aH (aY (i:=6) sc_qj1.nd rfl (Or.inl rfl) (dP aF))
   (aH (fN PassesOwn.leaving rfl (jE (K:=K) rfl (pv 0)) (iS (K:=K) (n:=3) rfl rfl (bD (aZ (i:=7) sc_qj1.nd rfl (Or.inl rfl)) (bD (aZ (i:=8) sc_qj1.nd rfl (Or.inl rfl)) (bD (aZ (i:=9) sc_qj1.nd rfl (Or.inl rfl)) cW))))
    (aH (aY (i:=10) sc_qj1.nd rfl (Or.inl rfl) (aK a (j.mono (by decide)) rfl T.m_qd1 T.F_qd1.kp T.b_qd1 .nil aP (aA (aK d (j.mono (by decide)) rfl T.m_qe1 T.F_qe1.kp T.b_qe1 .nil aP (aA (pv 3) (aA (pv 8) aF))) (aA (aK a (j.mono (by decide)) rfl T.m_qd1 T.F_qd1.kp T.b_qd1 .nil aP (aA (aX (iB (K:=K) rfl) (pv 4) aD (λ_ _=>rfl)) (aA (aK d (j.mono (by decide)) rfl T.m_qe1 T.F_qe1.kp T.b_qe1 .nil aP (aA (aX (iB (K:=K) rfl) (pv 4) aD (λ_ _=>rfl)) (aA (pv 7) aF))) aF))) aF))))
   (aT (kC (vM PySem.F.plainAttrs_list PySem.F.slot_list_append PySem.F.type_list_append iL (pv 6) (aA (cD (aA (aK a (j.mono (by decide)) rfl T.m_qd1 T.F_qd1.kp T.b_qd1 .nil aP (aA (aK d (j.mono (by decide)) rfl T.m_qe1 T.F_qe1.kp T.b_qe1 .nil aP (aA (pv 1) (aA (pv 7) aF))) (aA (pv 2) aF))) (aA (pv 10) (aA (aV bG (pv 9) (pv 5)) aF)))) aF))))))
   (aH (cZ (bR oC (aX (bK (K:=K) rfl) (pv 1) aD (λ_ _=>rfl)) aD (bY _)) (aT (bI (uC (K:=K) rfl rfl rfl T.n_list rfl T.n_reversed (aA (pv 6) aF)))) bV)
   (aT (bI (pv 6)))))),_,(aQ (cE 6 (dQ bH (by decide)))
   (aQ (fL (iN (aN 0)) (dZ (bJ (aJ 7) (bJ (aJ 8) (bJ (aJ 9) dR))))
    (aQ (bC (aL (aC (aB (aL (aC (aE 3) (aC (aE 8) aM)))) (aC (aB (aL (aC (aB (dW (bL 4) (aB aI))) (aC (aB (aL (aC (aB (dW (bL 4) (aB aI))) (aC (aE 7) aM)))) aM)))) aM))) (aJ 10))
   (tX 6 (cH (aO (aL (aC (aB (aL (aC (aE 1) (aC (aE 7) aM)))) (aC (aE 2) aM))) (aO (aN 10) (aO (aU bZ (aE 9) (aE 5)) bH))) (by decide)))))
   (aQ (cY (bQ (aB (aU kB (aB (aW 0 (aN 1))) (aB aI)))) (gJ (uD (bL 6))) bU)
   (eA 6)))),?_⟩
 intro S Q X qQ0;refine qq λqz=>?_;obtain⟨v,B,p,q,r,l0,n,rfl,Z,W,Y,G,I,J,c1,c2,n1,n9,k⟩:=qQ0;have L:Dg 17 p:=G.dg (by decide) (l:=4) (by decide) (b:=12) (Nat.le_refl _);have dq:Dg 17 q:=I.dg (by decide) (l:=4) (by decide) (b:=12) (Nat.le_refl _);have M:Dg 17 l0.1:=c1.dg (by decide) (l:=4) (by decide) (b:=12) (Nat.le_refl _);have d2:Dg 17 l0.2:=c2.dg (by decide) (l:=4) (by decide) (b:=12) (Nat.le_refl _);have N:Dg 69 r:=J.dg (by decide) (l:=4) (by decide) (b:=64) (Nat.le_refl _);obtain⟨k1,k2⟩:=Md Z W Y G I J c1 c2 n1 n9;apply qz;walk_at"s"
 refine dO (eU (λm:Mk=>PyData.tuple [fr m.1,fr m.2.1,.int m.2.2]) v (λQ h=>by walk_at"d";exact h)
  (λi x=>∃y C D g:Option PyData,x=[some (.dat (.list (v.map eJ))),some (.dat (fr p)),some (.dat (fr q)),some (.dat (fr r)),some (.dat (.list [fr l0.1,fr l0.2])),some (.dat (.int n)),some (.own (((v.take i).map (Bj p q r l0 n)).map eJ)),y.map Sl.dat,C.map Sl.dat,D.map Sl.dat,g.map Sl.dat])
  ⟨none,none,none,none,rfl⟩ ?_ ?_)
 ·intro i m x F qQ0;refine qq λqz=>?_;obtain⟨y,C,D,g,rfl⟩:=qQ0;have f:=List.mem_of_getElem? F;have a0:=(List.getElem?_eq_some_iff.mp F).1;have hw:=Z.w m f;obtain⟨u,o⟩:∃u,m.2.2=u:=⟨_,rfl⟩;apply qz;rw[o]at hw⊢;walk_at"s";refine gW N (Z.yd f) (by decide) ?_;walk_at"d";refine⟨_,rfl,_,rfl,?_⟩;refine gW d2 (Z.xd f) (by decide) ?_;walk_at"d";refine lZ M (d2.mul (Z.xd f)) (by decide) ?_;walk_at"d";refine lZ (N.mul (Z.yd f)) (M.add (d2.mul (Z.xd f))) (by decide) ?_;walk_at"d";refine gW L (Z.xd f) (by decide) ?_;walk_at"d";refine lZ (L.mul (Z.xd f)) dq (by decide) ?_;obtain⟨O,t⟩:∃O,u*n=O:=⟨_,rfl⟩;walk_at"d";refine⟨cF (eH (n:=10^9) (by lia) (by decide +kernel)) (eH (n:=10^10) (by lia) (by decide +kernel)),?_⟩;rw[t];refine⟨by rw[List.length_take];lia,some (fr m.1),some (fr m.2.1),some (.int u),some (fr (r*m.2.1+(l0.1+l0.2*m.1))),?_⟩;rw[eF F,List.map_append,List.map_append,List.map_singleton,List.map_singleton,<-t,<-o];rfl
 intro x qQ0;refine qq λqz=>?_;obtain⟨y,C,D,g,rfl⟩:=qQ0;apply qz;rw[List.take_length];have R:p.num<0↔p<0:=by
  have h:=iA (-p);have e:(-p).num=-p.num:=rfl;rw[e]at h;constructor
  ·intro c;have:=h.mp (by lia);grind
  ·intro c;have:=h.mpr (by grind);lia
 walk_at"s";refine fG (λc=>?_) (λc=>?_)
 ·rw[<-List.map_reverse];exact k _ (k1 (R.mp c)) (List.reverse_perm _)
 ·walk_at"d";exact k _ (k2 (λz=>c (R.mpr z))) (List.Perm.refl _)
end
theorem Bz{L:Nat}{e:List Mk}(Z:LSz L e){l:Ln}(A:0<=-cG (rr l) e)(B:0<=-cG (rr l) e.reverse):∃D:Nat,0<D/\D<=10^911/\∀p∈qJ l e,p.den∣D:=by
 have j:∀p∈eC l e,Cm 1 (10^100) p:=iD A Z.w;have s:∀p∈fP l e,Cm 1 (10^100) p:=λp f=>iD B (λm C=>Z.w m (List.mem_reverse.mp C)) p (List.mem_reverse.mp f);have n:∀{k:List Rat},(∀p∈k,Cm 1 (10^100) p)->Dg 303 (gS e k):=λ{k} f=>by
  have h:=tV Z f (List.zipWith (λ(m:Mk) p=>m.1*p) e k).length;rw[List.take_length]at h;exact h.dg Z.L0 Z.L1 (b:=202) (Nat.le_refl _)
 unfold qJ;by_cases c:gS e (eC l e)=gS e (fP l e)
 ·rw[if_pos c];exact⟨1,by decide,Nat.one_le_pow _ _ (by decide),λp f=>(j p f).d⟩
 ·rw[if_neg c];have E:gS e (eC l e)-gS e (fP l e)≠0:=λz=>c (by grind);have u:=(n j).div ((n j).sub (n s)) E;generalize gS e (eC l e)/(gS e (eC l e)-gS e (fP l e))=t at u⊢;refine⟨t.den,Nat.pos_of_ne_zero t.den_nz,u.d,λp f=>?_⟩;have F:Cm t.den (t.num.natAbs) t:=Cm.of (Nat.dvd_refl _) (Nat.le_mul_of_pos_right _ (Nat.pos_of_ne_zero t.den_nz));have o:∀(i g:List Rat),(∀p∈i,Cm 1 (10^100) p)->(∀p∈g,Cm 1 (10^100) p)->∀p∈List.zipWith (λa b=>a+t*(b-a)) i g,p.den∣t.den:=λi=>by
   induction i with
   |nil=>intro g _ _ p f;exact nomatch f
   |cons a i G=>
    intro g v w p f;cases g with
    |nil=>exact nomatch f
    |cons b g=>
     rw[List.zipWith_cons_cons]at f;rcases List.mem_cons.mp f with rfl|f
     ·have x:=v a List.mem_cons_self;have H:=w b List.mem_cons_self;have y:=F.mul (H.sub x);rw[Nat.mul_one]at y;exact((x.mono (Nat.one_dvd _) (Nat.le_refl _)).add y).d
     ·exact G g (λq r=>v q (List.mem_cons_of_mem _ r)) (λq r=>w q (List.mem_cons_of_mem _ r)) p f
  exact o _ _ j s p f
theorem FairL.bd{r:Mk->Rat}{W:Nat}:∀{A:List Mk}{a:List Rat},FairL r A a->(∀m∈A,m.2.2<=(W:Int))->∀p∈a,-(W:Rat)<=p/\p<=(W:Rat)
 |[],[],_,_,p,h=>nomatch h
 |m::A,p::a,h,hw,q,b=>by
  rcases List.mem_cons.mp b with rfl|b
  ·have e:=h.1.2.2.1;have f:=h.1.2.2.2;have c:(m.2.2:Rat)<=((W:Int):Rat):=Rat.intCast_le_intCast.mpr (hw m List.mem_cons_self);rw[Rat.intCast_natCast]at c;exact⟨by grind,by grind⟩
  ·exact FairL.bd h.2 (λx d=>hw x (List.mem_cons_of_mem _ d)) q b
theorem Bv{t b u c n:Int}{r:Rat}(j:0<b)(c0:0<c)(h:Rat.divInt u c=bM r*(n:Rat)*Rat.divInt t b):u*b*(r.den:Int)=t*((if r.num<0 then -r.num else r.num)*n)*c:=by
 have a:(b:Rat)≠0:=λz=>by have:=Rat.intCast_eq_zero_iff.mp z;lia
 have d:(c:Rat)≠0:=λz=>by have:=Rat.intCast_eq_zero_iff.mp z;lia
 have f:Rat.divInt u c*(c:Rat)=u:=by rw[Rat.divInt_eq_div];exact Rat.div_mul_cancel d
 have g:Rat.divInt t b*(b:Rat)=t:=by rw[Rat.divInt_eq_div];exact Rat.div_mul_cancel a
 have e:=Fm.num_eq (bM r);rw[fA,Be,<-lS]at e;have i:((r.den:Int):Rat)=(r.den:Rat):=Rat.intCast_natCast _;refine Rat.intCast_inj.mp ?_;simp only[Rat.intCast_mul];rw[e,i,<-f,<-g,h];grind
theorem Qn{r:Rat}(h:Cm 2520 (10^12) r):Cm 2520 (10^64) (Rat.divInt (r.num*10^50+1) (r.den:Int)):=by
 have a:=Nat.pos_of_ne_zero r.den_nz;refine Cm.div a h.d ?_;have b:=h.num;have c:(r.num*10^50+1).natAbs<=r.num.natAbs*10^50+1:=by lia
 have d:r.num.natAbs*10^50<=10^12*r.den*10^50:=Nat.mul_le_mul_right _ b
 lia
theorem Dn{B:Nat}{a:List Mk}(Z:MV B a):Dg 136 (bW a).2/\Dg 271 (bW a).1/\∀m∈a,(bW a).2.den*m.1.den*(bW a).1.den*m.2.1.den<=10^142:=by
 have j:0<2520*5040*B:=by have:=Z.B0;lia
 have k:0<2520*B:=by have:=Z.B0;lia
 have n:2520*B<=10^10:=by have:=Z.B1;lia
 have q:∀m∈a,m.1.den<=10^10:=λm h=>Nat.le_trans ((Z.x m h).den k) n;have r:∀m∈a,m.2.1.den<=10^14:=λm h=>Nat.le_trans ((Z.y m h).den j) Z.L1;have f:∀m∈a,∀o∈a,Cm (2520*5040*B) (10^86) (o.2.1-m.2.1):=λm h o g=>((Z.y o g).sub (Z.y m h)).mono (Nat.dvd_refl _) (by decide +kernel);have d:∀m∈a,∀o∈a,Cm (2520*B) (10^23) (o.1-m.1):=λm h o g=>((Z.x o g).sub (Z.x m h)).mono (Nat.dvd_refl _) (by decide +kernel);have p:∀m∈a,∀o∈a,(o.1-m.1).num.natAbs<=10^33:=λm h o g=>Nat.le_trans (d m h o g).num (Nat.le_trans (Nat.mul_le_mul_left _ (Nat.le_trans ((d m h o g).den k) n)) (by decide +kernel));obtain⟨u,v⟩:=tK Z.sz (ex:=10) (ey:=14) (nx:=33) q r (λm h o g=>Nat.le_trans ((f m h o g).den j) Z.L1) p;have w:∀m∈a,(bW a).2.den*m.1.den*(bW a).1.den*m.2.1.den<=10^142:=λm h=>
  Nat.le_trans (bX (bX (bX u (q m h)) v) (r m h)) (Nat.pow_le_pow_right (by decide) (by decide))
 refine qq λqz=>?_;obtain⟨m,i,e⟩:=iP Z.sz.ne;obtain⟨_,x⟩:=eR Z.sz i;apply qz;have s:Dg 136 (bP a m).2:=by
  unfold bP;by_cases c:jF a m=[]
  ·rw[if_pos c];exact Dg.zero
  ·rw[if_neg c];refine qq λqz=>?_;obtain⟨z,y,A⟩:=(gB (by simpa using c) (iJ (m:=m) Z.sz.w1)).mem;obtain⟨o,C,rfl⟩:=List.mem_map.mp y;apply qz;show Dg 136 (qR _);rw[<-A];obtain⟨t,D⟩:=List.mem_filter.mp C;have E:o.1≠m.1:=of_decide_eq_true D;have F:Dg 101 (o.2.1-m.2.1):=(f m i o t).dg j (l:=14) Z.L1 (b:=86) (Nat.le_refl _);have G:Dg 34 (o.1-m.1):=(d m i o t).dg k (l:=10) n (b:=23) (Nat.le_refl _);exact F.div G (λz=>E (by grind))
 refine⟨by rw[e];exact s,?_,w⟩;rw[e,x];exact((Z.yd i).sub (s.mul (Z.xd i))).mono (by decide)
theorem Bb{B:Nat}{a:List Mk}(Z:M42 B a):∀m∈a,(bW a).2.den*m.1.den*(bW a).1.den*m.2.1.den<=10^84:=by
 have e:0<5040*B:=by have:=Z.B0;lia
 have f:5040*B<=10^10:=by have:=Z.B1;lia
 have i:∀m∈a,m.1.den<=10^6:=λm h=>Nat.le_trans ((Z.x m h).den Z.B0) Z.B1;have j:∀m∈a,m.2.1.den<=10^10:=λm h=>Nat.le_trans ((Z.y m h).den e) f;have c:∀m∈a,∀o∈a,Cm (5040*B) (10^21) (o.2.1-m.2.1):=λm h o g=>((Z.y o g).sub (Z.y m h)).mono (Nat.dvd_refl _) (by decide +kernel);have b:∀m∈a,∀o∈a,Cm B (10^10) (o.1-m.1):=λm h o g=>((Z.x o g).sub (Z.x m h)).mono (Nat.dvd_refl _) (by decide +kernel);have d:∀m∈a,∀o∈a,(o.1-m.1).num.natAbs<=10^16:=λm h o g=>Nat.le_trans (b m h o g).num (Nat.le_trans (Nat.mul_le_mul_left _ (Nat.le_trans ((b m h o g).den Z.B0) Z.B1)) (by decide +kernel));obtain⟨k,l⟩:=tK Z.sz (ex:=6) (ey:=10) (nx:=16) i j (λm h o g=>Nat.le_trans ((c m h o g).den e) f) d;exact λm h=>Nat.le_trans (bX (bX (bX k (i m h)) l) (j m h)) (Nat.pow_le_pow_right (by decide) (by decide))
theorem vH(n:Nat):(List.replicate n [PyData.tuple [PyData.int 1,PyData.int 1]]).flatten=(List.replicate n (1:Rat)).map fr:=by
 rw[List.map_replicate];simp
theorem lW:∀a:List Rat,tot (List.zipWith (λp x=>p*x) a (List.replicate a.length 1))=tot a
 |[]=>rfl
 |p::a=>by
  rw[List.length_cons,List.replicate_succ,List.zipWith_cons_cons,tot,tot,lW a,Rat.mul_one]
theorem vB:∀(a:List Mk)(b:List Rat),tot (List.zipWith (λp x=>p*x) b (a.map λm=>m.1))=gS a b
 |[],b=>by
  rw[List.map_nil,List.zipWith_nil_right];rfl
 |m::a,[]=>rfl
 |m::a,p::b=>by
  rw[List.map_cons,List.zipWith_cons_cons,tot,vB a b];unfold gS;rw[cM,Rat.mul_comm]
section
variable{P:Program}{w:World}{K:PySem.W.Frag}{mg:Str->Option Value}{base:Heap}{A:Adr}
theorem Hh(T:Txt K mg A):FnOk P w K mg base (eV P w) 8 A.a_qn1 A.d_qn1 ["script"] (vF K):=by
 have o:=zJ (P:=P) (w:=w) (base:=base) T;have b1:=Ho (P:=P) (w:=w) (base:=base) T;have b2:=Hm (P:=P) (w:=w) (base:=base) T;have b3:=kS (P:=P) (w:=w) (base:=base) T;have M:=Hl (P:=P) (w:=w) (base:=base) T;have a4:=Mp (Lp (P:=P) (w:=w) (base:=base) T);have a5:=Mp (Lq (P:=P) (w:=w) (base:=base) T);have y:=Hn (P:=P) (w:=w) (base:=base) T;have R:=Hi (P:=P) (w:=w) (base:=base) T;have b4:=Hk (P:=P) (w:=w) (base:=base) T;have I:=Hj (P:=P) (w:=w) (base:=base) T;refine Hu (gH T.F_qn1 sc_qn1 (λds Q E h=>?_) (λe4 Ar outer s H E g=>?_))
 ·obtain⟨a,rfl,_⟩:=h;rfl
 refine⟨_,(aH (aY (i:=1) sc_qn1.nd rfl (Or.inl rfl) (aK b1 (g.mono (by decide)) rfl T.m_qg1 T.F_qg1.kp T.b_qg1 .nil aP (aA (pv 0) (aA aD aF))))
   (aH (qK (hV (cap:=[none,some 0]) (NC:=["k","script"]) rfl ⟨rfl,rfl,by decide +kernel,by decide +kernel,⟨⟨_,rfl,rfl,rfl,rfl,rfl⟩,trivial⟩,(List.forall_mem_cons.2 ⟨rfl,(λ_ h=>nomatch h)⟩),rfl⟩ (nZ rfl T.n_range (aA aD aF)) (λ_ _ _ _=>(aZ (i:=0) (show List.Nodup (["k","script"]:List Str) by decide) rfl (Or.inl rfl))) (λ_ _ _ _=>dB) (λ_ _ _ _=>(aK b2 (g.mono (by decide)) rfl T.m_qi1 T.F_qi1.kp T.b_qi1 .nil aP (aA (aK o (g.mono (by decide)) rfl T.m_qa1 T.F_qa1.kp T.b_qa1 .nil aP (aA (pv 1) (aA (aV cR aD (pv 0)) aF))) aF)))) (Ld (K:=K) (n:=5) rfl rfl (bD (aZ (i:=2) sc_qn1.nd rfl (Or.inl rfl)) (bD (aZ (i:=3) sc_qn1.nd rfl (Or.inl rfl)) (bD (aZ (i:=4) sc_qn1.nd rfl (Or.inl rfl)) (bD (aZ (i:=5) sc_qn1.nd rfl (Or.inl rfl)) (bD (aZ (i:=6) sc_qn1.nd rfl (Or.inl rfl)) cW)))))))
   (aH (cZ (bR fF (aX (bK (K:=K) rfl) (pv 2) aD (λ_ _=>rfl)) aD (bY _)) (aT (aY (i:=2) sc_qn1.nd rfl (Or.inl rfl) (cD (aA (iV fU aD) (aA aD aF))))) bV)
   (aH (aY (i:=7) sc_qn1.nd rfl (Or.inl rfl) (aV cR aD (aV cO (aK o (g.mono (by decide)) rfl T.m_qa1 T.F_qa1.kp T.b_qa1 .nil aP (aA (pv 0) (aA aD aF))) (aX (iB (K:=K) rfl) (dP (aA aD (aA aD (@aA _ _ _ _ _ (aV gL aD aD) aF tZ)))) (aV cO (aK o (g.mono (by decide)) rfl T.m_qa1 T.F_qa1.kp T.b_qa1 .nil aP (aA (pv 0) (aA aD aF))) aD) (λ_ _=>rfl)))))
   (aH (cZ (bR fF (aV cO (aV cS (aK o (g.mono (by decide)) rfl T.m_qa1 T.F_qa1.kp T.b_qa1 .nil aP (aA (pv 0) (aA aD aF))) aD) aD) aD (bY _)) (aT (aY (i:=4) sc_qn1.nd rfl (Or.inl rfl) (aK b3 (g.mono (by decide)) rfl T.m_qc1 T.F_qc1.kp T.b_qc1 .nil aP (aA (aV cR (aV bG (aX (bK (K:=K) rfl) (pv 4) aD (λ_ _=>rfl)) (aV gL aD aD)) aD) (aA (aX (bK (K:=K) rfl) (pv 4) aD (λ_ _=>rfl)) aF))))) bV)
   (aH (aY (i:=8) sc_qn1.nd rfl (Or.inl rfl) (cD (aA (aV bG (cL eZ rfl T.n_abs iH (aA (aX (bK (K:=K) rfl) (pv 4) aD (λ_ _=>rfl)) aF)) (pv 7)) (aA (aX (bK (K:=K) rfl) (pv 4) aD (λ_ _=>rfl)) aF))))
   (aH (aY (i:=9) sc_qn1.nd rfl (Or.inl rfl) (aK M (g.mono (by decide)) rfl T.m_qj1 T.F_qj1.kp T.b_qj1 .nil aP (aA (pv 1) (aA (pv 2) (aA (pv 3) (aA (pv 4) (aA (dP (aA (pv 5) (aA (pv 6) aF))) (aA (pv 7) aF))))))))
   (aH (qK (aK a4 (g.mono (by decide)) rfl T.m_qv T.F_qv.kp T.b_qv .nil aP (aA (iK (vZ (K:=K) rfl) rfl T.n_list lR (aA (pv 9) aF)) aF)) (iS (K:=K) (n:=2) rfl rfl (bD (aZ (i:=10) sc_qn1.nd rfl (Or.inr rfl)) (bD (aZ (i:=11) sc_qn1.nd rfl (Or.inl rfl)) cW))))
   (aH (cZ (zB (jD (aK R (g.mono (by decide)) rfl T.m_qm1 T.F_qm1.kp T.b_qm1 .nil aP (aA (aK y (g.mono (by decide)) rfl T.m_qh1 T.F_qh1.kp T.b_qh1 .nil aP (aA (pv 1) (aA (aX (bK (K:=K) rfl) (aK a4 (g.mono (by decide)) rfl T.m_qv T.F_qv.kp T.b_qv .nil aP (aA (iK (vZ (K:=K) rfl) rfl T.n_list lR (aA (pv 1) aF)) aF)) aD (λ_ _=>rfl)) aF))) (aA (aK y (g.mono (by decide)) rfl T.m_qh1 T.F_qh1.kp T.b_qh1 .nil aP (aA (pv 9) (aA (pv 10) aF))) (aA (pv 8) aF)))))) (aT (bI rY)) bV)
   (aH (eW (i:=12) (cap:=[none]) (NC:=["mark"]) sc_qn1.nd rfl rfl rfl ⟨rfl,rfl,by decide +kernel,by decide +kernel,trivial,(λ_ h=>nomatch h),rfl⟩ (jE (K:=K) rfl (pv 9)) (λ_ _ _ _=>(aZ (i:=0) (show List.Nodup (["mark"]:List Str) by decide) rfl (Or.inl rfl))) (λ_ _ _ _=>dB) (λ_ _ _ _=>(aX (bK (K:=K) rfl) (pv 0) aD (λ_ _=>rfl))))
   (aH (cZ (bR (Qq (K:=K) rfl g.units) rY (hV (cap:=[none,none,some 10]) (NC:=["mark","pull","numbers"]) rfl ⟨rfl,rfl,by decide +kernel,by decide +kernel,⟨⟨_,rfl,rfl,rfl,rfl,rfl⟩,trivial⟩,(List.forall_mem_cons.2 ⟨rfl,(λ_ h=>nomatch h)⟩),rfl⟩ (fO (K:=K) rfl rfl T.n_zip (aA (pv 9) (aA (pv 11) aF))) (λ_ _ _ _=>(iS (K:=K) (n:=2) rfl rfl (bD (aZ (i:=0) (show List.Nodup (["mark","pull","numbers"]:List Str) by decide) rfl (Or.inl rfl)) (bD (aZ (i:=1) (show List.Nodup (["mark","pull","numbers"]:List Str) by decide) rfl (Or.inl rfl)) cW)))) (λ_ _ _ _=>dB) (λ_ _ _ _=>(aK b4 (g.mono (by decide)) rfl T.m_qk1 T.F_qk1.kp T.b_qk1 .nil aP (aA (pv 0) (aA (pv 2) (aA (pv 1) aF)))))) rfl) (aT (bI rY)) bV)
   (aH (cZ (PW.pt (Eg (bR (Ny (K:=K) rfl g.units) (aK I (g.mono (by decide)) rfl T.m_ql1 T.F_ql1.kp T.b_ql1 .nil aP (aA (pv 11) (aA (aV zF (dP (aA (cD (aA aD (aA aD aF))) aF)) (cL (uH (K:=K) rfl) rfl T.n_len PySem.boot_len (aA (pv 11) aF))) aF))) (cD (aA aD (aA aD aF))) (bY _)) (yY (bR (Ny (K:=K) rfl g.units) (aK I (g.mono (by decide)) rfl T.m_ql1 T.F_ql1.kp T.b_ql1 .nil aP (aA (pv 11) (aA (pv 12) aF))) (cD (aA aD (aA aD aF))) (bY _))))) (aT (bI rY)) bV)
   (aH (aY (i:=9) sc_qn1.nd rfl (Or.inl rfl) (aK M (g.mono (by decide)) rfl T.m_qj1 T.F_qj1.kp T.b_qj1 .nil aP (aA (pv 1) (aA (pv 2) (aA (pv 3) (aA (pv 4) (aA (dP (aA (pv 5) (aA (cD (aA aD (aA aD aF))) aF))) (aA (pv 7) aF))))))))
   (aH (qK (aK a5 (g.mono (by decide)) rfl T.m_qu T.F_qu.kp T.b_qu .nil aP (aA (iK (vZ (K:=K) rfl) rfl T.n_list lR (aA (pv 9) aF)) aF)) (iS (K:=K) (n:=2) rfl rfl (bD (aZ (i:=10) sc_qn1.nd rfl (Or.inr rfl)) (bD (aZ (i:=11) sc_qn1.nd rfl (Or.inl rfl)) cW))))
   (aH (aY (i:=13) sc_qn1.nd rfl (Or.inl rfl) (aX (bK (K:=K) rfl) (aK a5 (g.mono (by decide)) rfl T.m_qu T.F_qu.kp T.b_qu .nil aP (aA (iK (vZ (K:=K) rfl) rfl T.n_list lR (aA (pv 1) aF)) aF)) aD (λ_ _=>rfl)))
   (aH (cZ (bR (Ny (K:=K) rfl g.units) (aK I (g.mono (by decide)) rfl T.m_ql1 T.F_ql1.kp T.b_ql1 .nil aP (aA (pv 11) (aA (aV zF (dP (aA (cD (aA aD (aA aD aF))) aF)) (cL (uH (K:=K) rfl) rfl T.n_len PySem.boot_len (aA (pv 11) aF))) aF))) (cD (aA aD (aA aD aF))) (bY _)) (aT (bI rY)) bV)
   (aT (bI (aK R (g.mono (by decide)) rfl T.m_qm1 T.F_qm1.kp T.b_qm1 .nil aP (aA (aK y (g.mono (by decide)) rfl T.m_qh1 T.F_qh1.kp T.b_qh1 .nil aP (aA (pv 1) (aA (aV (Fp (K:=K) rfl) (pv 13) (dP (aA (cD (aA aD (aA aD aF))) aF))) aF))) (aA (aK y (g.mono (by decide)) rfl T.m_qh1 T.F_qh1.kp T.b_qh1 .nil aP (aA (pv 9) (aA (aV (Fp (K:=K) rfl) (pv 10) (dP (aA (cD (aA aD (aA aD aF))) aF))) aF))) (aA (pv 8) aF)))))))))))))))))))))),_,(aQ (cE 1 (cK (aC (aE 0) (aC (aB aI) aM))))
   (aQ (bC (dJ (eI (IvS.e (wA (aC (aB aI) aM))) (aJ 0) dU (aL (aC (aB (aL (aC (aE 1) (aC (aB (aU cN (aB aI) (aE 0))) aM)))) aM)) (by decide) (by decide))) (zY (bJ (aJ 2) (bJ (aJ 3) (bJ (aJ 4) (bJ (aJ 5) (bJ (aJ 6) dR)))))))
   (gY (cY (bQ (aB (aU fE (aB (aW 0 (aN 2))) (aB aI)))) (bC (cH (aO (kY (v:=(-2)) (fW (aB aI)) (λex C Q h=>Eq.mpr (congrArg (λz=>Q (.int z)) (by decide +kernel:((-2):Int)=-2)) h)) (aO aI bH)) (by decide)) (aJ 2)) bU)
   (aQ (bC (aU cN (aB aI) (aB (aU bZ (aB (aL (aC (aE 0) (aC (aB aI) aM)))) (aB (dW (oG (dQ (aO aI (aO aI (aO (kY (v:=1000000000) (aU bZ (aB aI) (aB aI)) (λex C Q h=>⟨rC (by decide +kernel),Eq.mpr (congrArg (λz=>Q (.int z)) (by decide +kernel:((10^Int.toNat 9):Int)=1000000000)) h⟩)) bH))) (by decide))) (aB (dH (k:=3) (by decide) (aB (aL (aC (aE 0) (aC (aB aI) aM)))) aI))))))) (aJ 7))
   (gY (cY (bQ (aB (aU fE (aB (dH (k:=8) (by decide) (aB (fX (k:=3) (nL (by decide +kernel)) (aB (aL (aC (aE 0) (aC (aB aI) aM)))) aI)) aI)) (aB aI)))) (bC (aL (aC (aB (aU cN (aB (aU bZ (aB (aW 0 (aN 4))) (aB (kY (v:=100000000000000000000000000000000000000000000000000) (aU bZ (aB aI) (aB aI)) (λex C Q h=>⟨rC (by decide +kernel),Eq.mpr (congrArg (λz=>Q (.int z)) (by decide +kernel:((10^Int.toNat 50):Int)=100000000000000000000000000000000000000000000000000)) h⟩))))) (aB aI))) (aC (aB (aW 1 (aN 4))) aM))) (aJ 4)) bU)
   (aQ (bC (cH (aO (aU bZ (aB (eY gZ (aC (aB (aW 0 (aN 4))) aM))) (aE 7)) (aO (aW 1 (aN 4)) bH)) (by decide)) (aJ 8))
   (aQ (cE 9 (cK (aC (aE 1) (aC (aE 2) (aC (aE 3) (aC (aE 4) (aC (aB (dJ (dQ (aO (aN 5) (aO (aN 6) bH)) (by decide)))) (aC (aE 7) aM))))))))
   (aQ (lY 9 (lY 1 (rR (aC (aB (dJ (lN (bL 9)))) aM) (dZ (bJ (aJ 10) (bJ (aJ 11) dR))))))
   (gY (cY (yL (tT (aB (aL (aC (aB (aL (aC (aE 1) (aC (Je 0 (Ba (aC (aB (dJ (lN (bL 1)))) aM))) aM)))) (aC (aB (aL (aC (aE 9) (aC (aE 10) aM)))) (aC (aE 8) aM))))))) (cC (aB sS)) bU)
   (aQ (cE 12 (eI (fH (bL 9)) (aJ 0) dU (aW 0 (aN 0)) (by decide) (by decide)))
   (gY (cY (bQ (aB (aU Gp (aB sS) (aB (dJ (eI (gO (bL 9) (bL 11)) (dZ (bJ (aJ 0) (bJ (aJ 1) dR))) dU (aL (aC (aE 0) (aC (aE 2) (aC (aE 1) aM)))) (by decide) (by decide))))))) (cC (aB sS)) bU)
   (gY (cY (Dy (bQ (aB (aU qG (aB (aL (aC (aE 11) (aC (aB (dJ (zE (Es (dQ (aO (cH (aO aI (aO aI bH)) (by decide)) bH) (by decide))) (aB (eY jC (aC (aE 11) aM)))))) aM)))) (aB (cH (aO aI (aO aI bH)) (by decide)))))) (bQ (aB (aU qG (aB (aL (aC (aE 11) (aC (aE 12) aM)))) (aB (cH (aO aI (aO aI bH)) (by decide))))))) (cC (aB sS)) bU)
   (aQ (cE 9 (cK (aC (aE 1) (aC (aE 2) (aC (aE 3) (aC (aE 4) (aC (aB (dJ (dQ (aO (aN 5) (aO (cH (aO aI (aO aI bH)) (by decide)) bH)) (by decide)))) (aC (aE 7) aM))))))))
   (aQ (lY 12 (lY 9 (rR (aC (aB (dJ (lN (bL 9)))) aM) (dZ (bJ (aJ 10) (bJ (aJ 11) dR))))))
   (aQ (xJ 0 (aC (aB (dJ (lN (bL 1)))) aM) (aJ 13))
   (aQ (cY (bQ (aB (aU qG (aB (aL (aC (aE 11) (aC (aB (dJ (zE (Es (dQ (aO (cH (aO aI (aO aI bH)) (by decide)) bH) (by decide))) (aB (eY jC (aC (aE 11) aM)))))) aM)))) (aB (cH (aO aI (aO aI bH)) (by decide)))))) (cC (aB sS)) bU)
   (cC (aB (aL (aC (aB (aL (aC (aE 1) (aC (aB (dJ (vN (aN 13) (dJ (dQ (aO (cH (aO aI (aO aI bH)) (by decide)) bH) (by decide)))))) aM)))) (aC (aB (aL (aC (aE 9) (aC (aB (dJ (vN (aN 10) (dJ (dQ (aO (cH (aO aI (aO aI bH)) (by decide)) bH) (by decide)))))) aM)))) (aC (aE 8) aM)))))))))))))))))))))),?_⟩
 intro ds Q X qQ0;refine qq λqz=>?_;obtain⟨f,rfl,hlen,hbits,k⟩:=qQ0;apply qz;have bg:∀j:Int,0<=j->j<=1000->Bg 1048577 (cA f j):=λj h0 h1=>tI hbits h0 h1;walk_at"s";refine⟨f,5,rfl,by decide,by decide,hlen,hbits,λG B Z e6=>?_⟩;have n5:G.length<=5:=by lia
 walk_at"d";refine⟨kG _,?_⟩;walk_at"s"
 refine dM (λk:Nat=>PyData.int (k:Int)) fr (λk:Nat=>[iT (cA f (20+(k:Int)))]) (List.range 5) (by decide) (λQ h=>by
   walk_at"d"
   exact⟨by decide,h⟩) (λj hj N c7 hN=>?_) ?_
 ·have e7:=List.mem_range.mp hj;walk_at"d";refine⟨f,20+(j:Int),rfl,by lia,by lia,?_⟩;walk_at"d";refine⟨_,rfl,bg _ (by lia) (by lia),?_⟩;walk_at"d";exact hN
 rw[bO];have e5:(List.range 5).map (λk:Nat=>iT (cA f (20+(k:Int))))=[iT (cA f 20),iT (cA f 21),iT (cA f 22),iT (cA f 23),iT (cA f 24)]:=rfl;rw[e5];clear e5;refine qq λqz=>?_;obtain⟨p1,b5⟩:∃p1,iT (cA f 20)=p1:=⟨_,rfl⟩;obtain⟨q,hq⟩:∃q,iT (cA f 21)=q:=⟨_,rfl⟩;obtain⟨r1,b6⟩:∃r1,iT (cA f 22)=r1:=⟨_,rfl⟩;obtain⟨s0,b7⟩:∃s0,iT (cA f 23)=s0:=⟨_,rfl⟩;obtain⟨t0,b8⟩:∃t0,iT (cA f 24)=t0:=⟨_,rfl⟩;apply qz;have c8:Cm 2520 (10^12) p1:=by rw[<-b5];exact kF _
 have cq:Cm 2520 (10^12) q:=by rw[<-hq];exact kF _
 have a3:Cm 2520 (10^12) r1:=by rw[<-b6];exact kF _
 have c9:Cm 2520 (10^12) s0:=by rw[<-b7];exact kF _
 have d8:Cm 2520 (10^12) t0:=by rw[<-b8];exact kF _
 rw[b5,hq,b6,b7,b8];clear b5 hq b6 b7 b8;walk_at"d";refine iG (λC=>∃p:Rat,C=[some (.dat (.list (f.map .int))),some (.own (G.map eJ)),some (.dat (fr p)),some (.dat (fr q)),some (.dat (fr r1)),some (.dat (fr s0)),some (.dat (fr t0)),none,none,none,none,none,none,none]/\p≠0/\Cm 2520 (10^12) p) ?_ ?_
 ·walk_at"d";refine fG (λc=>?_) (λc=>?_)
  ·exact⟨Rat.divInt (-2) 3,rfl,by decide,by decide +kernel,by decide +kernel,by decide +kernel⟩
  ·exact⟨p1,rfl,λz=>c (by rw[z];rfl),c8⟩
 intro C qQ0;refine qq λqz=>?_;obtain⟨p,rfl,p0,cp⟩:=qQ0;apply qz;walk_at"s";refine⟨f,25,rfl,by decide,by decide,?_⟩;walk_at"d";refine⟨f,26,rfl,by decide,by decide,?_⟩;walk_at"d";obtain⟨wd,e8,e9,d0⟩:∃wd:Int,1<=wd/\wd<=10^9/\nF [PyData.int 1,PyData.int 4,PyData.int 1000000000] (cA f 26%3)=some (.int wd):=by
  obtain⟨d,hd,e⟩:=kM (xs:=[PyData.int 1,PyData.int 4,PyData.int 1000000000]) (i:=cA f 26%3) (by lia) (by show _<(3:Int);lia);simp only[List.mem_cons,List.not_mem_nil,or_false]at hd;rcases hd with rfl|rfl|rfl
  ·exact⟨1,by decide,by decide,e⟩
  ·exact⟨4,by decide,by decide,e⟩
  ·exact⟨_,by decide,by decide,e⟩
 refine⟨_,d0,?_⟩;clear d0;walk_at"d";refine⟨by lia,?_⟩
 obtain⟨n,hn,n1,n9⟩:∃n:Int,1+cA f 25%wd=n/\1<=n/\n<=10^9+1:=⟨_,rfl,by
  have e0:=Int.emod_nonneg (cA f 25) (show wd≠0 by lia)
  lia,by
  have e1:=Int.emod_lt_of_pos (cA f 25) (show 0<wd by lia)
  lia⟩
 rw[hn];clear hn;refine iG (λC=>∃r:Rat,C=[some (.dat (.list (f.map .int))),some (.own (G.map eJ)),some (.dat (fr p)),some (.dat (fr q)),some (.dat (fr r)),some (.dat (fr s0)),some (.dat (fr t0)),some (.dat (.int n)),none,none,none,none,none,none]/\Cm 2520 (10^64) r) ?_ ?_
 ·walk_at"d";refine⟨f,26,rfl,by decide,by decide,?_⟩;walk_at"d";have d1:Dg 17 r1:=a3.dg (by decide) (l:=4) (by decide) (b:=12) (Nat.le_refl _);have rd:=Fm.den_pos r1;refine fG (λc=>?_) (λc=>?_)
  ·refine⟨cF (cP d1 (by decide)).n (tP (by decide +kernel)),_,_,rfl,by lia,(cP d1 (by decide)).d,?_⟩;have:=Qn a3;exact⟨rfl,_,rfl,this⟩
  ·exact⟨r1,rfl,a3.mono (Nat.dvd_refl _) (eQ (by decide))⟩
 intro C qQ0;refine qq λqz=>?_;obtain⟨r,rfl,cr⟩:=qQ0;apply qz;clear a3 c8;have dr:Dg 69 r:=cr.dg (by decide) (l:=4) (by decide) (b:=64) (Nat.le_refl _);obtain⟨ra,b9⟩:∃ra:Int,(if r.num<0 then -r.num else r.num)=ra:=⟨_,rfl⟩;have d3:ra.natAbs<=10^69:=by rw[<-b9,lS,Int.natAbs_natCast];exact dr.n
 obtain⟨rf,c1⟩:∃rf:Int,ra*n=rf:=⟨_,rfl⟩;have d4:rf.natAbs<=10^79:=by rw[<-c1,Int.natAbs_mul];exact bX (b:=69) (c:=10) d3 (by lia)
 walk_at"s";rw[b9];refine⟨cF (dA d3 (by decide)) (eH (n:=10^10) (by lia) (by decide +kernel)),?_⟩;rw[c1];walk_at"s";refine⟨G,B,p,q,r,(s0,t0),n,rfl,Z,n5,p0,cp,cq,cr,c9,d8,n1,n9,λF L pm=>?_⟩;walk_at"d";refine⟨kG _,?_⟩;have LZ:=Z.sz;have LM:=L.sz;refine qq λqz=>?_;obtain⟨bs,ba⟩:=Z.best;have bF:=Bb Z;obtain⟨c2,c3,mF⟩:=Dn L;have c4:=Cj LZ LM pm p0 n1;obtain⟨_,_,O,f1,f2⟩:=mX LM;obtain⟨D,D0,D1,hD⟩:=Bz LM f1 f2;apply qz;have pb:=O.fair.bd (W:=10^19) λm h=>by have:=(L.w m h).2;exact_mod_cast this
 refine qq λqz=>?_;obtain⟨l,hl⟩:∃l,bW G=l:=⟨_,rfl⟩;obtain⟨lm,d5⟩:∃lm,bW F=lm:=⟨_,rfl⟩;obtain⟨S,d6⟩:∃S,qJ lm F=S:=⟨_,rfl⟩;apply qz;rw[hl]at bs ba bF c4;rw[d5]at c2 c3 mF c4 O hD pb;rw[d6]at O hD pb;have pl:=O.fair.len;have c5:∀x∈S,Cm D (10^19) x:=λx h=>⟨hD x h,(pb x h).1,(pb x h).2⟩;have m5:=L.n5;have a6:∀{l':Ln}{U:Sl->Prop}{Xs:DX},Dg 130 l'.1->Dg 80 l'.2->(∀m∈G,l'.2.den*m.1.den*l'.1.den*m.2.1.den<=10^84)->(∀t b:Int,0<b->b.natAbs<=10^420->t.natAbs<=10^694->Rat.divInt t b=FS G l'->U (.dat (.tuple [.int t,.int b])))->oY [.list (G.map eJ),.list [fr l'.1,fr l'.2]] U Xs:=λ{l' U Xs} h1 h2 hF kq=>
  ⟨G,l',130,80,16,31,9,84,269,rfl,λm J=>⟨Z.xd J,Z.yd J,by have:=Z.w m J;lia⟩,h1,h2,hF,by decide,by lia,λt b b0 bB tB e=>kq t b b0 (Nat.le_trans bB (eQ (by lia))) (Nat.le_trans tB (eQ (by lia))) e⟩
 have a7:∀{F:List Mk}{l':Ln}{U:Sl->Prop}{Xs:DX},MV B F->Dg 271 l'.1->Dg 136 l'.2->(∀m∈F,l'.2.den*m.1.den*l'.1.den*m.2.1.den<=10^142)->(∀t b:Int,0<b->b.natAbs<=10^710->t.natAbs<=10^1277->Rat.divInt t b=FS F l'->U (.dat (.tuple [.int t,.int b])))->oY [.list (F.map eJ),.list [fr l'.1,fr l'.2]] U Xs:=λ{F l' U Xs} L h1 h2 hF kq=>by
  have:=L.n5;exact⟨F,l',271,136,33,100,19,142,562,rfl,λm J=>⟨L.xd J,L.yd J,by have:=L.w m J;lia⟩,h1,h2,hF,by decide,by lia,λt b b0 bB tB e=>kq t b b0 (Nat.le_trans bB (eQ (by lia))) (Nat.le_trans tB (eQ (by lia))) e⟩
 have Y:∀{t b u c:Int}{U:Sl->Prop}{Xs:DX},0<b->b.natAbs<=10^420->t.natAbs<=10^694->0<c->c.natAbs<=10^710->u.natAbs<=10^1277->Rat.divInt u c=bM r*(n:Rat)*Rat.divInt t b->U (.dat (.bool true))->Dw [.tuple [.int t,.int b],.tuple [.int u,.int c],.tuple [.int rf,.int (r.den:Int)]] U Xs:=λ{t b u c U Xs} b0 bB tB c0 cB uB e kq=>by
  have e':=Bv b0 c0 e;rw[b9,c1]at e';exact⟨t,b,u,c,rf,(r.den:Int),rfl,dA tB (by decide),dA bB (by decide),dA uB (by decide),dA cB (by decide),dA d4 (by decide),(cP dr (by decide)).d,dA (n:=1697) (by rw[Int.natAbs_mul];exact bX uB bB) (by decide),dA (n:=773) (by rw[Int.natAbs_mul];exact bX tB d4) (by decide),e',kq⟩
 walk_at"s";refine⟨F,_,rfl,LM,?_⟩;rw[d5,d6];walk_at"d";refine iG (λC=>C=[some (.dat (.list (f.map .int))),some (.dat (.list (G.map eJ))),some (.dat (fr p)),some (.dat (fr q)),some (.dat (fr r)),some (.dat (fr s0)),some (.dat (fr t0)),some (.dat (.int n)),some (.dat (.tuple [.int rf,.int (r.den:Int)])),some (.dat (.list (F.map eJ))),some (.dat (.list [fr lm.1,fr lm.2])),some (.dat (.list (S.map fr))),none,none]) ?_ ?_
 ·walk_at"d";refine⟨G,_,rfl,LZ,?_⟩;rw[hl];walk_at"d";refine a6 ba bs bF λt b b0 bB tB et=>?_;walk_at"d";refine a7 L c3 c2 mF λu c c0 cB uB eu=>?_;walk_at"d";refine Y b0 bB tB c0 cB uB (by rw[eu,et];exact c4) ?_;walk_at"d"
 rintro C rfl;walk_at"s";refine dM eJ fr (λm:Mk=>[m.1]) F (by lia) (λQ h=>by walk_at"d";exact h) (λm h N c7 hN=>?_) ?_
 ·walk_at"d";exact hN
 rw[bO];obtain⟨xs,c6⟩:∃xs,(F.map λm=>m.1)=xs:=⟨_,rfl⟩;rw[c6];refine iG (λC=>C=[some (.dat (.list (f.map .int))),some (.dat (.list (G.map eJ))),some (.dat (fr p)),some (.dat (fr q)),some (.dat (fr r)),some (.dat (fr s0)),some (.dat (fr t0)),some (.dat (.int n)),some (.dat (.tuple [.int rf,.int (r.den:Int)])),some (.dat (.list (F.map eJ))),some (.dat (.list [fr lm.1,fr lm.2])),some (.dat (.list (S.map fr))),some (.own (xs.map fr)),none]) ?_ ?_
 ·walk_at"d";refine dM (λz:Mk×Rat=>PyData.tuple [eJ z.1,fr z.2]) PyData.bool (λz:Mk×Rat=>[true]) (F.zip S) (by rw[List.length_zip];lia) (λQ h=>by walk_at"d";rw[dG];exact h) (λz hz N c7 hN=>?_) ?_
  ·obtain⟨i,hi⟩:=List.getElem?_of_mem hz;rw[List.getElem?_zip_eq_some]at hi;obtain⟨g1,g2⟩:=hi;have zm:=List.mem_of_getElem? g1;have zp:=List.mem_of_getElem? g2;walk_at"d";refine⟨z.1,lm,z.2,rfl,L.xd zm,L.yd zm,c3.mono (by decide),c2.mono (by decide),cP ((c5 _ zp).dg D0 D1 (b:=19) (Nat.le_refl _)) (by decide),eH (n:=10^19) (by have:=L.w _ zm;lia) (by decide +kernel),O.fair.at g1 g2,?_⟩;walk_at"d";exact hN
  rw[bO];walk_at"d";refine⟨Bool,Ml,false,(F.zip S).map λ_=>true,rfl,rfl,λv hv=>?_⟩;cases v with
  |true=>
   obtain⟨_,_,z⟩:=List.mem_map.mp (hv.mp rfl);cases z
  |false=>
   dsimp only;rw[if_neg (by decide)];trivial
 rintro C rfl;refine iG (λC=>C=[some (.dat (.list (f.map .int))),some (.dat (.list (G.map eJ))),some (.dat (fr p)),some (.dat (fr q)),some (.dat (fr r)),some (.dat (fr s0)),some (.dat (fr t0)),some (.dat (.int n)),some (.dat (.tuple [.int rf,.int (r.den:Int)])),some (.dat (.list (F.map eJ))),some (.dat (.list [fr lm.1,fr lm.2])),some (.dat (.list (S.map fr))),some (.own (xs.map fr)),none]) ?_ ?_
 ·walk_at"d";rw[Int.toNat_natCast,vH];refine⟨⟨by lia,by lia⟩,by lia,?_⟩;refine⟨S,List.replicate S.length 1,D,1,rfl,by lia,D0,D1,by decide,by decide,c5,λx h=>by rw[List.eq_of_mem_replicate h];exact Cm.int (i:=1) (by decide),?_⟩;rw[lW,O.tot0];walk_at"d";refine⟨Rat,sU,0,0,rfl,rfl,λv hv=>?_⟩;rw[hv.mpr rfl];clear hv v;dsimp only;rw[if_neg (by decide)];refine⟨S,xs,D,2520*B,rfl,by lia,D0,D1,by have:=Z.B0;lia,by have:=Z.B1;lia,c5,λx h=>?_,?_⟩
  ·rw[<-c6]at h;obtain⟨m,J,rfl⟩:=List.mem_map.mp h;exact L.x m J
  rw[<-c6,vB,O.trn0];walk_at"d";refine⟨Rat,sU,0,0,rfl,rfl,λv hv=>?_⟩;rw[hv.mpr rfl];clear hv v;dsimp only;rw[if_neg (by decide)];trivial
 rintro C rfl;walk_at"s";refine⟨G,B,p,q,r,(s0,0),n,rfl,Z,n5,p0,cp,cq,cr,c9,Cm.zero,n1,n9,λmv Zv pv=>?_⟩;walk_at"d";refine⟨kG _,?_⟩;have LV:=Zv.sz;have a0:=Ht LZ LV pv n1;walk_at"s";refine⟨mv,_,rfl,LV,?_⟩;refine qq λqz=>?_;obtain⟨g0,gt,GF⟩:=xQ LV.ne LV.w1;apply qz;have v5:=Zv.n5;have gb:=GF.bd (W:=10^19) λm h=>by have:=(Zv.w m h).2;exact_mod_cast this
 have gi:∀x∈eC (iM mv,0) mv,Cm 1 (10^100) x:=iD g0 LV.w;refine qq λqz=>?_;obtain⟨f0,a8,a1⟩:=qT LV.ne LV.w1;obtain⟨e3,a9,a2⟩:=qT LZ.ne LZ.w1;obtain⟨xv,d9⟩:∃xv,iM mv=xv:=⟨_,rfl⟩;obtain⟨xm,d7⟩:∃xm,iM G=xm:=⟨_,rfl⟩;obtain⟨es,e2⟩:∃es,eC (xv,0) mv=es:=⟨_,rfl⟩;apply qz;rw[d9]at gt GF gb gi a1 a0⊢;rw[d7]at a2 a0;rw[e2]at gt GF gb gi⊢;have gl:=GF.len;have gc:∀x∈es,Cm 1 (10^19) x:=λx h=>⟨(gi x h).d,(gb x h).1,(gb x h).2⟩;walk_at"d";walk_at"s";refine⟨G,_,rfl,LZ,?_⟩;rw[d7];walk_at"d";walk_at"s";rw[Int.toNat_natCast,vH];refine⟨⟨by lia,by lia⟩,by lia,?_⟩;refine⟨es,List.replicate es.length 1,1,1,rfl,by lia,by decide,Nat.one_le_pow _ _ (by decide),by decide,by decide,gc,λx h=>by rw[List.eq_of_mem_replicate h];exact Cm.int (i:=1) (by decide),?_⟩;rw[lW,gt];walk_at"d";refine⟨Rat,sU,0,0,rfl,rfl,λv hv=>?_⟩;rw[hv.mpr rfl];clear hv v;dsimp only;rw[if_neg (by decide)];walk_at"d";have B0:=Z.B0;have B1:=Z.B1;refine⟨_,_,rfl,rfl,(show 1+1<=1000 by decide),?_⟩;refine a6 (l':=(xm,0)) (by rw[<-a2];exact(Z.yd a9).mono (by decide)) Dg.zero (λm J=>?_) λt b b0 bB tB et=>?_
 ·have h1:m.1.den<=10^6:=Nat.le_trans ((Z.x m J).den B0) B1;have h2:m.2.1.den<=10^10:=Nat.le_trans ((Z.y m J).den (by lia)) (by lia);have h3:xm.den<=10^10:=by rw[<-a2];exact Nat.le_trans ((Z.y _ a9).den (by lia)) (by lia)
  show(0:Rat).den*m.1.den*xm.den*m.2.1.den<=_;have e0:(0:Rat).den=1:=rfl;rw[e0,Nat.one_mul];exact Nat.le_trans (bX (bX h1 h3) h2) (Nat.pow_le_pow_right (by decide) (by decide))
 walk_at"d";refine⟨_,_,rfl,rfl,(show 1+1<=1000 by decide),?_⟩;refine a7 (l':=(xv,0)) Zv (by rw[<-a1];exact(Zv.yd a8).mono (by decide)) Dg.zero (λm J=>?_) λu c c0 cB uB eu=>?_
 ·have h1:m.1.den<=10^10:=Nat.le_trans ((Zv.x m J).den (by lia)) (by lia);have h2:m.2.1.den<=10^14:=Nat.le_trans ((Zv.y m J).den (by lia)) Zv.L1;have h3:xv.den<=10^14:=by rw[<-a1];exact Nat.le_trans ((Zv.y _ a8).den (by lia)) Zv.L1
  show(0:Rat).den*m.1.den*xv.den*m.2.1.den<=_;have e0:(0:Rat).den=1:=rfl;rw[e0,Nat.one_mul];exact Nat.le_trans (bX (bX h1 h3) h2) (Nat.pow_le_pow_right (by decide) (by decide))
 walk_at"d";refine Y b0 bB tB c0 cB uB (by rw[eu,et];exact a0) ?_;exact⟨rfl,k⟩
end
@[elab_as_elim] theorem xW {P:List Value->Prop}:∀a:List Value,a.length=1->(∀a0:Value,P [a0])->P a
 |[a0],_,h=>h a0
@[elab_as_elim] theorem jH {P:List Value->Prop}:∀a:List Value,a.length=2->(∀a0 a1:Value,P [a0,a1])->P a
 |[a0,a1],_,h=>h a0 a1
@[elab_as_elim] theorem Io {P:List Value->Prop}:∀a:List Value,a.length=3->(∀a0 a1 a2:Value,P [a0,a1,a2])->P a
 |[a0,a1,a2],_,h=>h a0 a1 a2
@[elab_as_elim] theorem Qt {P:List Value->Prop}:∀a:List Value,a.length=4->(∀a0 a1 a2 a3:Value,P [a0,a1,a2,a3])->P a
 |[a0,a1,a2,a3],_,h=>h a0 a1 a2 a3
@[elab_as_elim] theorem Qr {P:List Value->Prop}:∀a:List Value,a.length=6->(∀a0 a1 a2 a3 a4 a5:Value,P [a0,a1,a2,a3,a4,a5])->P a
 |[a0,a1,a2,a3,a4,a5],_,h=>h a0 a1 a2 a3 a4 a5
theorem all_mk{l:PySem.W.OpenLaw}{w:World}{K:PySem.W.Frag}{h:Heap}{mg:Str->Option Value}{fa I J L M N O P Q R S U W Y Z d0 d1 d3 d4 d5 d6 d7 d8 d9 e0 e1 e2 i j k m n o p q r t u x y B c d g f:Addr}(X:K.In h)(G:h.Ns mainGlobals mg)(S0:mg "law"=some (.ref fa))
  {S1 z7:Option Addr} {S2:Array (Option Value)} {S3 z8 z9 A0 y7 A1:Value}
  {S4 A2:Option Addr} {S5:Array (Option Value)} {S6 A3 A4 A5 y8 A6:Value}
  {S7 A7:Option Addr} {S8:Array (Option Value)} {S9 A8 A9 B0 y9 B1:Value}
  {T0 B2:Option Addr} {T1:Array (Option Value)} {T2 B3 B4 B5 z0 B6:Value}
  {T3 B7:Option Addr} {T4:Array (Option Value)} {T5 B8 B9 C0 z1 C1:Value}
  {T6 C2:Option Addr} {T7:Array (Option Value)} {T8 C3 C4 C5 z2 C6:Value}
  {T9 C7:Option Addr} {U0:Array (Option Value)} {U1 C8 C9 D0 z3 D1:Value}
  {U2 D3:Option Addr} {U3:Array (Option Value)} {U4 D4 D5 D6 z4 D7:Value}
  {U5 D8:Option Addr} {U6:Array (Option Value)} {U7 D9 E1 E2 z5 E3:Value}
  {U8 E4:Option Addr} {U9:Array (Option Value)} {V0 E5 E6 E7 z6 E8:Value}
  {E9 i2:Option Addr} {G0:Array (Option Value)} {G1 i3 i4 i5 e7 i6:Value}
  {G2 i7:Option Addr} {G3:Array (Option Value)} {G4 i8 i9 j0 e8 j1:Value}
  {G5 j2:Option Addr} {G6:Array (Option Value)} {G7 j3 j4 j5 e9 j6:Value}
  {G8 j7:Option Addr} {G9:Array (Option Value)} {H0 j8 j9 m0 f0 m1:Value}
  {H1 m2:Option Addr} {H2:Array (Option Value)} {H3 m3 m4 m5 f1 m6:Value}
  {H4 m7:Option Addr} {H5:Array (Option Value)} {H6 m8 m9 n0 f2 n1:Value}
  {H7 n2:Option Addr} {H8:Array (Option Value)} {H9 n3 n4 n5 f3 n6:Value}
  {I0 n7:Option Addr} {I1:Array (Option Value)} {I2 n8 n9 o0 f4 o1:Value}
  {I3 o2:Option Addr} {I4:Array (Option Value)} {I5 o3 o4 o5 f5 o6:Value}
  {I6 o7:Option Addr} {I7:Array (Option Value)} {I8 o8 o9 p0 f6 p1:Value}
  {I9 p2:Option Addr} {J0:Array (Option Value)} {J1 p3 p4 p5 f7 p6:Value}
  {J2 p7:Option Addr} {J3:Array (Option Value)} {J4 p8 p9 q0 f8 q1:Value}
  {J5 q2:Option Addr} {J6:Array (Option Value)} {J7 q3 q4 q5 f9 q6:Value}
  {J8 q7:Option Addr} {J9:Array (Option Value)} {K0 q8 q9 r0 g0 r1:Value}
  {K1 r2:Option Addr} {K2:Array (Option Value)} {K3 r3 r4 r5 g1 r6:Value}
  {K4 r7:Option Addr} {K5:Array (Option Value)} {K6 r8 r9 s0 g2 s1:Value}
  {K7 s2:Option Addr} {K8:Array (Option Value)} {K9 s3 s4 s5 g3 s6:Value}
  {L0 s7:Option Addr} {L1:Array (Option Value)} {L2 s8 s9 t0 g4 t1:Value}
  {L3 t2:Option Addr} {L4:Array (Option Value)} {L5 t3 t4 t5 g5 t6:Value}
  {L6 t7:Option Addr} {L7:Array (Option Value)} {L8 t8 t9 u0 g6 u1:Value}
  {L9 u2:Option Addr} {M0:Array (Option Value)} {M1 u3 u4 u5 g7 u6:Value}
  {M2 u7:Option Addr} {M3:Array (Option Value)} {M4 u8 u9 v0 g8 v1:Value}
  {M5 v2:Option Addr} {M6:Array (Option Value)} {M7 v3 v4 v5 g9 v6:Value}
  {M8 v7:Option Addr} {M9:Array (Option Value)} {N0 v8 v9 w0 h0 w1:Value}
  {N1 w2:Option Addr} {N2:Array (Option Value)} {N3 w3 w4 w5 h1 w6:Value}
  {N4 w7:Option Addr} {N5:Array (Option Value)} {N6 w8 w9 x0 h2 x1:Value}
  {N7 x2:Option Addr} {N8:Array (Option Value)} {N9 x3 x4 x5 h3 x6:Value}
  {O0 x7:Option Addr} {O1:Array (Option Value)} {O2 x8 x9 y0 h4 y1:Value}
  {O3 y2:Option Addr} {O4:Array (Option Value)} {O5 y3 y4 y5 h5 y6:Value}
  {O6 h6:Option Addr} {O7:Array (Option Value)} {O8 h7 h8 h9 e3 i0:Value}
  (a0:PySem.W.nsIn K mainGlobals "common_divisor"=some (some (.ref I))) (l0:K.lookup I=some ⟨S3,S1,.func (PySem.W.fnOf "common_divisor" "common_divisor" (aS qF) (aR qF) (aG qF) .none z8 z9 A0 z7 y7 A1),S2⟩) (c0:PySem.W.codeIn K y7 "common_divisor"=true) (k0:PySem.W.keepIn K (.ref I)=true)
  (a1:PySem.W.nsIn K mainGlobals "fraction"=some (some (.ref J))) (l1:K.lookup J=some ⟨S6,S4,.func (PySem.W.fnOf "fraction" "fraction" (aS qE) (aR qE) (aG qE) .none A3 A4 A5 A2 y8 A6),S5⟩) (c1:PySem.W.codeIn K y8 "fraction"=true) (k1:PySem.W.keepIn K (.ref J)=true)
  (a2:PySem.W.nsIn K mainGlobals "plus"=some (some (.ref L))) (l2:K.lookup L=some ⟨S9,S7,.func (PySem.W.fnOf "plus" "plus" (aS qD) (aR qD) (aG qD) .none A8 A9 B0 A7 y9 B1),S8⟩) (c2:PySem.W.codeIn K y9 "plus"=true) (k2:PySem.W.keepIn K (.ref L)=true)
  (a3:PySem.W.nsIn K mainGlobals "minus"=some (some (.ref M))) (l3:K.lookup M=some ⟨T2,T0,.func (PySem.W.fnOf "minus" "minus" (aS qC) (aR qC) (aG qC) .none B3 B4 B5 B2 z0 B6),T1⟩) (c3:PySem.W.codeIn K z0 "minus"=true) (k3:PySem.W.keepIn K (.ref M)=true)
  (a4:PySem.W.nsIn K mainGlobals "product"=some (some (.ref N))) (l4:K.lookup N=some ⟨T5,T3,.func (PySem.W.fnOf "product" "product" (aS qB) (aR qB) (aG qB) .none B8 B9 C0 B7 z1 C1),T4⟩) (c4:PySem.W.codeIn K z1 "product"=true) (k4:PySem.W.keepIn K (.ref N)=true)
  (a5:PySem.W.nsIn K mainGlobals "quotient"=some (some (.ref O))) (l5:K.lookup O=some ⟨T8,T6,.func (PySem.W.fnOf "quotient" "quotient" (aS qA) (aR qA) (aG qA) .none C3 C4 C5 C2 z2 C6),T7⟩) (c5:PySem.W.codeIn K z2 "quotient"=true) (k5:PySem.W.keepIn K (.ref O)=true)
  (a6:PySem.W.nsIn K mainGlobals "is_less"=some (some (.ref P))) (l6:K.lookup P=some ⟨U1,T9,.func (PySem.W.fnOf "is_less" "is_less" (aS pZ) (aR pZ) (aG pZ) .none C8 C9 D0 C7 z3 D1),U0⟩) (c6:PySem.W.codeIn K z3 "is_less"=true) (k6:PySem.W.keepIn K (.ref P)=true)
  (a7:PySem.W.nsIn K mainGlobals "size_of"=some (some (.ref Q))) (l7:K.lookup Q=some ⟨U4,U2,.func (PySem.W.fnOf "size_of" "size_of" (aS pY) (aR pY) (aG pY) .none D4 D5 D6 D3 z4 D7),U3⟩) (c7:PySem.W.codeIn K z4 "size_of"=true) (k7:PySem.W.keepIn K (.ref Q)=true)
  (a8:PySem.W.nsIn K mainGlobals "total_of"=some (some (.ref R))) (l8:K.lookup R=some ⟨U7,U5,.func (PySem.W.fnOf "total_of" "total_of" (aS pX) (aR pX) (aG pX) .none D9 E1 E2 D8 z5 E3),U6⟩) (c8:PySem.W.codeIn K z5 "total_of"=true) (k8:PySem.W.keepIn K (.ref R)=true)
  (a9:PySem.W.nsIn K mainGlobals "greatest_of"=some (some (.ref S))) (l9:K.lookup S=some ⟨V0,U8,.func (PySem.W.fnOf "greatest_of" "greatest_of" (aS pV) (aR pV) (aG pV) .none E5 E6 E7 E4 z6 E8),U9⟩) (c9:PySem.W.codeIn K z6 "greatest_of"=true) (k9:PySem.W.keepIn K (.ref S)=true)
  (a10:PySem.W.nsIn K mainGlobals "least_of"=some (some (.ref U))) (l10:K.lookup U=some ⟨G1,E9,.func (PySem.W.fnOf "least_of" "least_of" (aS pU) (aR pU) (aG pU) .none i3 i4 i5 i2 e7 i6),G0⟩) (c10:PySem.W.codeIn K e7 "least_of"=true) (k10:PySem.W.keepIn K (.ref U)=true)
  (a11:PySem.W.nsIn K mainGlobals "height_at"=some (some (.ref W))) (l11:K.lookup W=some ⟨G4,G2,.func (PySem.W.fnOf "height_at" "height_at" (aS pT) (aR pT) (aG pT) .none i8 i9 j0 i7 e8 j1),G3⟩) (c11:PySem.W.codeIn K e8 "height_at"=true) (k11:PySem.W.keepIn K (.ref W)=true)
  (a12:PySem.W.nsIn K mainGlobals "row_of"=some (some (.ref Y))) (l12:K.lookup Y=some ⟨G7,G5,.func (PySem.W.fnOf "row_of" "row_of" (aS pS) (aR pS) (aG pS) .none j3 j4 j5 j2 e9 j6),G6⟩) (c12:PySem.W.codeIn K e9 "row_of"=true) (k12:PySem.W.keepIn K (.ref Y)=true)
  (a13:PySem.W.nsIn K mainGlobals "misses_of"=some (some (.ref Z))) (l13:K.lookup Z=some ⟨H0,G8,.func (PySem.W.fnOf "misses_of" "misses_of" (aS pR) (aR pR) (aG pR) .none j8 j9 m0 j7 f0 m1),G9⟩) (c13:PySem.W.codeIn K f0 "misses_of"=true) (k13:PySem.W.keepIn K (.ref Z)=true)
  (a14:PySem.W.nsIn K mainGlobals "check_kind"=some (some (.ref d0))) (l14:K.lookup d0=some ⟨H3,H1,.func (PySem.W.fnOf "check_kind" "check_kind" (aS pQ) (aR pQ) (aG pQ) .none m3 m4 m5 m2 f1 m6),H2⟩) (c14:PySem.W.codeIn K f1 "check_kind"=true) (k14:PySem.W.keepIn K (.ref d0)=true)
  (a15:PySem.W.nsIn K mainGlobals "weighed_misses"=some (some (.ref d1))) (l15:K.lookup d1=some ⟨H6,H4,.func (PySem.W.fnOf "weighed_misses" "weighed_misses" (aS pP) (aR pP) (aG pP) .none m8 m9 n0 m7 f2 n1),H5⟩) (c15:PySem.W.codeIn K f2 "weighed_misses"=true) (k15:PySem.W.keepIn K (.ref d1)=true)
  (a16:PySem.W.nsIn K mainGlobals "measured"=some (some (.ref d3))) (l16:K.lookup d3=some ⟨H9,H7,.func (PySem.W.fnOf "measured" "measured" (aS pO) (aR pO) (aG pO) .none n3 n4 n5 n2 f3 n6),H8⟩) (c16:PySem.W.codeIn K f3 "measured"=true) (k16:PySem.W.keepIn K (.ref d3)=true)
  (a17:PySem.W.nsIn K mainGlobals "least_level"=some (some (.ref d4))) (l17:K.lookup d4=some ⟨I2,I0,.func (PySem.W.fnOf "least_level" "least_level" (aS pN) (aR pN) (aG pN) .none n8 n9 o0 n7 f4 o1),I1⟩) (c17:PySem.W.codeIn K f4 "least_level"=true) (k17:PySem.W.keepIn K (.ref d4)=true)
  (a18:PySem.W.nsIn K mainGlobals "middle_of"=some (some (.ref d5))) (l18:K.lookup d5=some ⟨I5,I3,.func (PySem.W.fnOf "middle_of" "middle_of" (aS pM) (aR pM) (aG pM) .none o3 o4 o5 o2 f5 o6),I4⟩) (c18:PySem.W.codeIn K f5 "middle_of"=true) (k18:PySem.W.keepIn K (.ref d5)=true)
  (a19:PySem.W.nsIn K mainGlobals "in_order"=some (some (.ref d6))) (l19:K.lookup d6=some ⟨I8,I6,.func (PySem.W.fnOf "in_order" "in_order" (aS pK) (aR pK) (aG pK) .none o8 o9 p0 o7 f6 p1),I7⟩) (c19:PySem.W.codeIn K f6 "in_order"=true) (k19:PySem.W.keepIn K (.ref d6)=true)
  (a20:PySem.W.nsIn K mainGlobals "level_sum"=some (some (.ref d7))) (l20:K.lookup d7=some ⟨J1,I9,.func (PySem.W.fnOf "level_sum" "level_sum" (aS pJ) (aR pJ) (aG pJ) .none p3 p4 p5 p2 f7 p6),J0⟩) (c20:PySem.W.codeIn K f7 "level_sum"=true) (k20:PySem.W.keepIn K (.ref d7)=true)
  (a21:PySem.W.nsIn K mainGlobals "line_sum"=some (some (.ref d8))) (l21:K.lookup d8=some ⟨J4,J2,.func (PySem.W.fnOf "line_sum" "line_sum" (aS pI) (aR pI) (aG pI) .none p8 p9 q0 p7 f8 q1),J3⟩) (c21:PySem.W.codeIn K f8 "line_sum"=true) (k21:PySem.W.keepIn K (.ref d8)=true)
  (a22:PySem.W.nsIn K mainGlobals "line_at"=some (some (.ref d9))) (l22:K.lookup d9=some ⟨J7,J5,.func (PySem.W.fnOf "line_at" "line_at" (aS pH) (aR pH) (aG pH) .none q3 q4 q5 q2 f9 q6),J6⟩) (c22:PySem.W.codeIn K f9 "line_at"=true) (k22:PySem.W.keepIn K (.ref d9)=true)
  (a23:PySem.W.nsIn K mainGlobals "line_pulls"=some (some (.ref e0))) (l23:K.lookup e0=some ⟨K0,J8,.func (PySem.W.fnOf "line_pulls" "line_pulls" (aS pG) (aR pG) (aG pG) .none q8 q9 r0 q7 g0 r1),J9⟩) (c23:PySem.W.codeIn K g0 "line_pulls"=true) (k23:PySem.W.keepIn K (.ref e0)=true)
  (a24:PySem.W.nsIn K mainGlobals "turn_of"=some (some (.ref e1))) (l24:K.lookup e1=some ⟨K3,K1,.func (PySem.W.fnOf "turn_of" "turn_of" (aS pF) (aR pF) (aG pF) .none r3 r4 r5 r2 g1 r6),K2⟩) (c24:PySem.W.codeIn K g1 "turn_of"=true) (k24:PySem.W.keepIn K (.ref e1)=true)
  (a25:PySem.W.nsIn K mainGlobals "early_pulls"=some (some (.ref e2))) (l25:K.lookup e2=some ⟨K6,K4,.func (PySem.W.fnOf "early_pulls" "early_pulls" (aS pE) (aR pE) (aG pE) .none r8 r9 s0 r7 g2 s1),K5⟩) (c25:PySem.W.codeIn K g2 "early_pulls"=true) (k25:PySem.W.keepIn K (.ref e2)=true)
  (a26:PySem.W.nsIn K mainGlobals "_law_cell"=some (some (.ref i))) (l26:K.lookup i=some ⟨K9,K7,.func (PySem.W.fnOf "_law_cell" "_law_cell" (aS kA) (aR kA) (aG kA) .none s3 s4 s5 s2 g3 s6),K8⟩) (c26:PySem.W.codeIn K g3 "_law_cell"=true) (k26:PySem.W.keepIn K (.ref i)=true)
  (a27:PySem.W.nsIn K mainGlobals "_law_divisor"=some (some (.ref j))) (l27:K.lookup j=some ⟨L2,L0,.func (PySem.W.fnOf "_law_divisor" "_law_divisor" (aS jZ) (aR jZ) (aG jZ) .none s8 s9 t0 s7 g4 t1),L1⟩) (c27:PySem.W.codeIn K g4 "_law_divisor"=true) (k27:PySem.W.keepIn K (.ref j)=true)
  (a28:PySem.W.nsIn K mainGlobals "_law_low"=some (some (.ref k))) (l28:K.lookup k=some ⟨L5,L3,.func (PySem.W.fnOf "_law_low" "_law_low" (aS jY) (aR jY) (aG jY) .none t3 t4 t5 t2 g5 t6),L4⟩) (c28:PySem.W.codeIn K g5 "_law_low"=true) (k28:PySem.W.keepIn K (.ref k)=true)
  (a29:PySem.W.nsIn K mainGlobals "_law_plus"=some (some (.ref m))) (l29:K.lookup m=some ⟨L8,L6,.func (PySem.W.fnOf "_law_plus" "_law_plus" (aS jX) (aR jX) (aG jX) .none t8 t9 u0 t7 g6 u1),L7⟩) (c29:PySem.W.codeIn K g6 "_law_plus"=true) (k29:PySem.W.keepIn K (.ref m)=true)
  (a30:PySem.W.nsIn K mainGlobals "_law_times"=some (some (.ref n))) (l30:K.lookup n=some ⟨M1,L9,.func (PySem.W.fnOf "_law_times" "_law_times" (aS jW) (aR jW) (aG jW) .none u3 u4 u5 u2 g7 u6),M0⟩) (c30:PySem.W.codeIn K g7 "_law_times"=true) (k30:PySem.W.keepIn K (.ref n)=true)
  (a31:PySem.W.nsIn K mainGlobals "_law_height"=some (some (.ref o))) (l31:K.lookup o=some ⟨M4,M2,.func (PySem.W.fnOf "_law_height" "_law_height" (aS jV) (aR jV) (aG jV) .none u8 u9 v0 u7 g8 v1),M3⟩) (c31:PySem.W.codeIn K g8 "_law_height"=true) (k31:PySem.W.keepIn K (.ref o)=true)
  (a32:PySem.W.nsIn K mainGlobals "_law_marks"=some (some (.ref p))) (l32:K.lookup p=some ⟨M7,M5,.func (PySem.W.fnOf "_law_marks" "_law_marks" (aS jU) (aR jU) (aG jU) .none v3 v4 v5 v2 g9 v6),M6⟩) (c32:PySem.W.codeIn K g9 "_law_marks"=true) (k32:PySem.W.keepIn K (.ref p)=true)
  (a33:PySem.W.nsIn K mainGlobals "_law_sum"=some (some (.ref q))) (l33:K.lookup q=some ⟨N0,M8,.func (PySem.W.fnOf "_law_sum" "_law_sum" (aS jT) (aR jT) (aG jT) .none v8 v9 w0 v7 h0 w1),M9⟩) (c33:PySem.W.codeIn K h0 "_law_sum"=true) (k33:PySem.W.keepIn K (.ref q)=true)
  (a34:PySem.W.nsIn K mainGlobals "_law_number"=some (some (.ref r))) (l34:K.lookup r=some ⟨N3,N1,.func (PySem.W.fnOf "_law_number" "_law_number" (aS jS) (aR jS) (aG jS) .none w3 w4 w5 w2 h1 w6),N2⟩) (c34:PySem.W.codeIn K h1 "_law_number"=true) (k34:PySem.W.keepIn K (.ref r)=true)
  (a35:PySem.W.nsIn K mainGlobals "_law_changed"=some (some (.ref t))) (l35:K.lookup t=some ⟨N6,N4,.func (PySem.W.fnOf "_law_changed" "_law_changed" (aS jR) (aR jR) (aG jR) .none w8 w9 x0 w7 h2 x1),N5⟩) (c35:PySem.W.codeIn K h2 "_law_changed"=true) (k35:PySem.W.keepIn K (.ref t)=true)
  (a36:PySem.W.nsIn K mainGlobals "_law_fair"=some (some (.ref u))) (l36:K.lookup u=some ⟨N9,N7,.func (PySem.W.fnOf "_law_fair" "_law_fair" (aS jQ) (aR jQ) (aG jQ) .none x3 x4 x5 x2 h3 x6),N8⟩) (c36:PySem.W.codeIn K h3 "_law_fair"=true) (k36:PySem.W.keepIn K (.ref u)=true)
  (a37:PySem.W.nsIn K mainGlobals "_law_total"=some (some (.ref x))) (l37:K.lookup x=some ⟨O2,O0,.func (PySem.W.fnOf "_law_total" "_law_total" (aS jP) (aR jP) (aG jP) .none x8 x9 y0 x7 h4 y1),O1⟩) (c37:PySem.W.codeIn K h4 "_law_total"=true) (k37:PySem.W.keepIn K (.ref x)=true)
  (a38:PySem.W.nsIn K mainGlobals "_law_same"=some (some (.ref y))) (l38:K.lookup y=some ⟨O5,O3,.func (PySem.W.fnOf "_law_same" "_law_same" (aS jO) (aR jO) (aG jO) .none y3 y4 y5 y2 h5 y6),O4⟩) (c38:PySem.W.codeIn K h5 "_law_same"=true) (k38:PySem.W.keepIn K (.ref y)=true)
  (a39:PySem.W.nsIn K mainGlobals "law"=some (some (.ref B))) (l39:K.lookup B=some ⟨O8,O6,.func (PySem.W.fnOf "law" "law" (aS gP) (aR gP) (aG gP) .none h7 h8 h9 h6 e3 i0),O7⟩) (c39:PySem.W.codeIn K e3 "law"=true) (k39:PySem.W.keepIn K (.ref B)=true)
  (ax_NoNumber:PySem.W.nsIn K mainGlobals "NoNumber"=some (some (.ref c))) (xx_NoNumber:PySem.W.excIn K c [.type "ValueError",.type "Exception",.type "BaseException",.type "object"] "ValueError.__new__"=true)
  (ax_NoKind:PySem.W.nsIn K mainGlobals "NoKind"=some (some (.ref d))) (xx_NoKind:PySem.W.excIn K d [.type "ValueError",.type "Exception",.type "BaseException",.type "object"] "ValueError.__new__"=true)
  (z_abs:PySem.W.nsIn K mainGlobals "abs"=some none)
  (z_height:PySem.W.nsIn K mainGlobals "height"=some none)
  (z_isinstance:PySem.W.nsIn K mainGlobals "isinstance"=some none)
  (z_k:PySem.W.nsIn K mainGlobals "k"=some none)
  (z_len:PySem.W.nsIn K mainGlobals "len"=some none)
  (z_list:PySem.W.nsIn K mainGlobals "list"=some none)
  (z_mark:PySem.W.nsIn K mainGlobals "mark"=some none)
  (z_min:PySem.W.nsIn K mainGlobals "min"=some none)
  (z_miss:PySem.W.nsIn K mainGlobals "miss"=some none)
  (z_one:PySem.W.nsIn K mainGlobals "one"=some none)
  (z_other:PySem.W.nsIn K mainGlobals "other"=some none)
  (z_pair:PySem.W.nsIn K mainGlobals "pair"=some none)
  (z_pull:PySem.W.nsIn K mainGlobals "pull"=some none)
  (z_range:PySem.W.nsIn K mainGlobals "range"=some none)
  (z_reversed:PySem.W.nsIn K mainGlobals "reversed"=some none)
  (z_str:PySem.W.nsIn K mainGlobals "str"=some none)
  (z_sum:PySem.W.nsIn K mainGlobals "sum"=some none)
  (z_way:PySem.W.nsIn K mainGlobals "way"=some none)
  (z_weight:PySem.W.nsIn K mainGlobals "weight"=some none)
  (z_zip:PySem.W.nsIn K mainGlobals "zip"=some none)
  {C D E:Tok} {e4:Option Addr} {i1:Nat} {e5:Array (Option Value)} (zc_KINDS:PySem.W.nsIn K mainGlobals "KINDS"=some (some (.ref g)))
  (lk_KINDS:K.lookup g=some ⟨.type "tuple",e4,.seq #[(.str "far" C),(.str "sum" D),(.str "square" E)] i1,e5⟩)
  {z A:Tok} {F:Option Addr} {e6:Nat} {H:Array (Option Value)} (zc_NOUGHT:PySem.W.nsIn K mainGlobals "NOUGHT"=some (some (.ref f)))
  (lk_NOUGHT:K.lookup f=some ⟨.type "tuple",F,.seq #[(.int 0 z),(.int 1 A)] e6,H⟩)
  :∃fd:FuncData,(∀(s:Shared)(v:Value),BindsTo s fd ⟨[v],[]⟩ [("script",v)])/\∀base:Heap,K.In base->base.Ns mainGlobals mg->FnOk l.prog w K mg base (eV l.prog w) 8 fa fd ["script"] (vF K):=by
 have e:=S0.symm.trans (PySem.W.mg_of X G a39);cases e;have F0:=bS (st:=qF) l0 c0 k0;have b0:=F0.binds (ps:=["one","other"]) λ_ _ _ _ _ _ a b=>jH a b λ_ _=>rfl;have F1:=bS (st:=qE) l1 c1 k1;have b1:=F1.binds (ps:=["top","bottom"]) λ_ _ _ _ _ _ a b=>jH a b λ_ _=>rfl;have F2:=bS (st:=qD) l2 c2 k2;have b2:=F2.binds (ps:=["one","other"]) λ_ _ _ _ _ _ a b=>jH a b λ_ _=>rfl;have F3:=bS (st:=qC) l3 c3 k3;have b3:=F3.binds (ps:=["one","other"]) λ_ _ _ _ _ _ a b=>jH a b λ_ _=>rfl;have F4:=bS (st:=qB) l4 c4 k4;have b4:=F4.binds (ps:=["one","other"]) λ_ _ _ _ _ _ a b=>jH a b λ_ _=>rfl;have F5:=bS (st:=qA) l5 c5 k5;have b5:=F5.binds (ps:=["one","other"]) λ_ _ _ _ _ _ a b=>jH a b λ_ _=>rfl;have F6:=bS (st:=pZ) l6 c6 k6;have b6:=F6.binds (ps:=["one","other"]) λ_ _ _ _ _ _ a b=>jH a b λ_ _=>rfl;have F7:=bS (st:=pY) l7 c7 k7;have b7:=F7.binds (ps:=["one"]) λ_ _ _ _ _ _ a b=>xW a b λ_=>rfl;have F8:=bS (st:=pX) l8 c8 k8;have b8:=F8.binds (ps:=["some"]) λ_ _ _ _ _ _ a b=>xW a b λ_=>rfl;have F9:=bS (st:=pV) l9 c9 k9;have b9:=F9.binds (ps:=["some"]) λ_ _ _ _ _ _ a b=>xW a b λ_=>rfl;have O9:=bS (st:=pU) l10 c10 k10;have V1:=O9.binds (ps:=["some"]) λ_ _ _ _ _ _ a b=>xW a b λ_=>rfl;have P0:=bS (st:=pT) l11 c11 k11;have V2:=P0.binds (ps:=["numbers","x"]) λ_ _ _ _ _ _ a b=>jH a b λ_ _=>rfl;have P1:=bS (st:=pS) l12 c12 k12;have V3:=P1.binds (ps:=["numbers","marks"]) λ_ _ _ _ _ _ a b=>jH a b λ_ _=>rfl;have P2:=bS (st:=pR) l13 c13 k13;have V4:=P2.binds (ps:=["marks","row"]) λ_ _ _ _ _ _ a b=>jH a b λ_ _=>rfl;have P3:=bS (st:=pQ) l14 c14 k14;have V5:=P3.binds (ps:=["kind"]) λ_ _ _ _ _ _ a b=>xW a b λ_=>rfl;have P4:=bS (st:=pP) l15 c15 k15;have V6:=P4.binds (ps:=["marks","row"]) λ_ _ _ _ _ _ a b=>jH a b λ_ _=>rfl;have P5:=bS (st:=pO) l16 c16 k16;have V7:=P5.binds (ps:=["kind","marks","row"]) λ_ _ _ _ _ _ a b=>Io a b λ_ _ _=>rfl;have P6:=bS (st:=pN) l17 c17 k17;have V8:=P6.binds (ps:=["kind","marks"]) λ_ _ _ _ _ _ a b=>jH a b λ_ _=>rfl;have P7:=bS (st:=pM) l18 c18 k18;have V9:=P7.binds (ps:=["some","weights"]) λ_ _ _ _ _ _ a b=>jH a b λ_ _=>rfl;have P8:=bS (st:=pK) l19 c19 k19;have W0:=P8.binds (ps:=["some","weights"]) λ_ _ _ _ _ _ a b=>jH a b λ_ _=>rfl;have P9:=bS (st:=pJ) l20 c20 k20;have W1:=P9.binds (ps:=["marks"]) λ_ _ _ _ _ _ a b=>xW a b λ_=>rfl;have Q0:=bS (st:=pI) l21 c21 k21;have W2:=Q0.binds (ps:=["marks"]) λ_ _ _ _ _ _ a b=>xW a b λ_=>rfl;have Q1:=bS (st:=pH) l22 c22 k22;have W3:=Q1.binds (ps:=["marks","mark"]) λ_ _ _ _ _ _ a b=>jH a b λ_ _=>rfl;have Q2:=bS (st:=pG) l23 c23 k23;have W4:=Q2.binds (ps:=["marks","line"]) λ_ _ _ _ _ _ a b=>jH a b λ_ _=>rfl;have Q3:=bS (st:=pF) l24 c24 k24;have W5:=Q3.binds (ps:=["marks","pulls"]) λ_ _ _ _ _ _ a b=>jH a b λ_ _=>rfl;have Q4:=bS (st:=pE) l25 c25 k25;have W6:=Q4.binds (ps:=["marks","misses"]) λ_ _ _ _ _ _ a b=>jH a b λ_ _=>rfl;have Q5:=bS (st:=kA) l26 c26 k26;have W7:=Q5.binds (ps:=["script","k"]) λ_ _ _ _ _ _ a b=>jH a b λ_ _=>rfl;have Q6:=bS (st:=jZ) l27 c27 k27;have W8:=Q6.binds (ps:=["one","other"]) λ_ _ _ _ _ _ a b=>jH a b λ_ _=>rfl;have Q7:=bS (st:=jY) l28 c28 k28;have W9:=Q7.binds (ps:=["top","bottom"]) λ_ _ _ _ _ _ a b=>jH a b λ_ _=>rfl;have Q8:=bS (st:=jX) l29 c29 k29;have X0:=Q8.binds (ps:=["one","other"]) λ_ _ _ _ _ _ a b=>jH a b λ_ _=>rfl;have Q9:=bS (st:=jW) l30 c30 k30;have X1:=Q9.binds (ps:=["one","other"]) λ_ _ _ _ _ _ a b=>jH a b λ_ _=>rfl;have R0:=bS (st:=jV) l31 c31 k31;have X2:=R0.binds (ps:=["cell","shape","place","lean"]) λ_ _ _ _ _ _ a b=>Qt a b λ_ _ _ _=>rfl;have R1:=bS (st:=jU) l32 c32 k32;have X3:=R1.binds (ps:=["script","most"]) λ_ _ _ _ _ _ a b=>jH a b λ_ _=>rfl;have R3:=bS (st:=jT) l33 c33 k33;have X4:=R3.binds (ps:=["marks","numbers"]) λ_ _ _ _ _ _ a b=>jH a b λ_ _=>rfl;have R4:=bS (st:=jS) l34 c34 k34;have X5:=R4.binds (ps:=["cell"]) λ_ _ _ _ _ _ a b=>xW a b λ_=>rfl;have R5:=bS (st:=jR) l35 c35 k35;have X6:=R5.binds (ps:=["marks","p","q","r","line","m"]) λ_ _ _ _ _ _ a b=>Qr a b λ_ _ _ _ _ _=>rfl;have R6:=bS (st:=jQ) l36 c36 k36;have X7:=R6.binds (ps:=["mark","numbers","pull"]) λ_ _ _ _ _ _ a b=>Io a b λ_ _ _=>rfl;have R7:=bS (st:=jP) l37 c37 k37;have X8:=R7.binds (ps:=["pulls","places"]) λ_ _ _ _ _ _ a b=>jH a b λ_ _=>rfl;have R8:=bS (st:=jO) l38 c38 k38;have X9:=R8.binds (ps:=["first","then","factor"]) λ_ _ _ _ _ _ a b=>Io a b λ_ _ _=>rfl;have R9:=bS (st:=gP) l39 c39 k39;have Y0:=R9.binds (ps:=["script"]) λ_ _ _ _ _ _ a b=>xW a b λ_=>rfl;have T:Txt K mg ⟨I,PySem.W.fnOf "common_divisor" "common_divisor" (aS qF) (aR qF) (aG qF) .none z8 z9 A0 z7 y7 A1,J,PySem.W.fnOf "fraction" "fraction" (aS qE) (aR qE) (aG qE) .none A3 A4 A5 A2 y8 A6,L,PySem.W.fnOf "plus" "plus" (aS qD) (aR qD) (aG qD) .none A8 A9 B0 A7 y9 B1,M,PySem.W.fnOf "minus" "minus" (aS qC) (aR qC) (aG qC) .none B3 B4 B5 B2 z0 B6,N,PySem.W.fnOf "product" "product" (aS qB) (aR qB) (aG qB) .none B8 B9 C0 B7 z1 C1,O,PySem.W.fnOf "quotient" "quotient" (aS qA) (aR qA) (aG qA) .none C3 C4 C5 C2 z2 C6,P,PySem.W.fnOf "is_less" "is_less" (aS pZ) (aR pZ) (aG pZ) .none C8 C9 D0 C7 z3 D1,Q,PySem.W.fnOf "size_of" "size_of" (aS pY) (aR pY) (aG pY) .none D4 D5 D6 D3 z4 D7,R,PySem.W.fnOf "total_of" "total_of" (aS pX) (aR pX) (aG pX) .none D9 E1 E2 D8 z5 E3,S,PySem.W.fnOf "greatest_of" "greatest_of" (aS pV) (aR pV) (aG pV) .none E5 E6 E7 E4 z6 E8,U,PySem.W.fnOf "least_of" "least_of" (aS pU) (aR pU) (aG pU) .none i3 i4 i5 i2 e7 i6,W,PySem.W.fnOf "height_at" "height_at" (aS pT) (aR pT) (aG pT) .none i8 i9 j0 i7 e8 j1,Y,PySem.W.fnOf "row_of" "row_of" (aS pS) (aR pS) (aG pS) .none j3 j4 j5 j2 e9 j6,Z,PySem.W.fnOf "misses_of" "misses_of" (aS pR) (aR pR) (aG pR) .none j8 j9 m0 j7 f0 m1,d0,PySem.W.fnOf "check_kind" "check_kind" (aS pQ) (aR pQ) (aG pQ) .none m3 m4 m5 m2 f1 m6,d1,PySem.W.fnOf "weighed_misses" "weighed_misses" (aS pP) (aR pP) (aG pP) .none m8 m9 n0 m7 f2 n1,d3,PySem.W.fnOf "measured" "measured" (aS pO) (aR pO) (aG pO) .none n3 n4 n5 n2 f3 n6,d4,PySem.W.fnOf "least_level" "least_level" (aS pN) (aR pN) (aG pN) .none n8 n9 o0 n7 f4 o1,d5,PySem.W.fnOf "middle_of" "middle_of" (aS pM) (aR pM) (aG pM) .none o3 o4 o5 o2 f5 o6,d6,PySem.W.fnOf "in_order" "in_order" (aS pK) (aR pK) (aG pK) .none o8 o9 p0 o7 f6 p1,d7,PySem.W.fnOf "level_sum" "level_sum" (aS pJ) (aR pJ) (aG pJ) .none p3 p4 p5 p2 f7 p6,d8,PySem.W.fnOf "line_sum" "line_sum" (aS pI) (aR pI) (aG pI) .none p8 p9 q0 p7 f8 q1,d9,PySem.W.fnOf "line_at" "line_at" (aS pH) (aR pH) (aG pH) .none q3 q4 q5 q2 f9 q6,e0,PySem.W.fnOf "line_pulls" "line_pulls" (aS pG) (aR pG) (aG pG) .none q8 q9 r0 q7 g0 r1,e1,PySem.W.fnOf "turn_of" "turn_of" (aS pF) (aR pF) (aG pF) .none r3 r4 r5 r2 g1 r6,e2,PySem.W.fnOf "early_pulls" "early_pulls" (aS pE) (aR pE) (aG pE) .none r8 r9 s0 r7 g2 s1,i,PySem.W.fnOf "_law_cell" "_law_cell" (aS kA) (aR kA) (aG kA) .none s3 s4 s5 s2 g3 s6,j,PySem.W.fnOf "_law_divisor" "_law_divisor" (aS jZ) (aR jZ) (aG jZ) .none s8 s9 t0 s7 g4 t1,k,PySem.W.fnOf "_law_low" "_law_low" (aS jY) (aR jY) (aG jY) .none t3 t4 t5 t2 g5 t6,m,PySem.W.fnOf "_law_plus" "_law_plus" (aS jX) (aR jX) (aG jX) .none t8 t9 u0 t7 g6 u1,n,PySem.W.fnOf "_law_times" "_law_times" (aS jW) (aR jW) (aG jW) .none u3 u4 u5 u2 g7 u6,o,PySem.W.fnOf "_law_height" "_law_height" (aS jV) (aR jV) (aG jV) .none u8 u9 v0 u7 g8 v1,p,PySem.W.fnOf "_law_marks" "_law_marks" (aS jU) (aR jU) (aG jU) .none v3 v4 v5 v2 g9 v6,q,PySem.W.fnOf "_law_sum" "_law_sum" (aS jT) (aR jT) (aG jT) .none v8 v9 w0 v7 h0 w1,r,PySem.W.fnOf "_law_number" "_law_number" (aS jS) (aR jS) (aG jS) .none w3 w4 w5 w2 h1 w6,t,PySem.W.fnOf "_law_changed" "_law_changed" (aS jR) (aR jR) (aG jR) .none w8 w9 x0 w7 h2 x1,u,PySem.W.fnOf "_law_fair" "_law_fair" (aS jQ) (aR jQ) (aG jQ) .none x3 x4 x5 x2 h3 x6,x,PySem.W.fnOf "_law_total" "_law_total" (aS jP) (aR jP) (aG jP) .none x8 x9 y0 x7 h4 y1,y,PySem.W.fnOf "_law_same" "_law_same" (aS jO) (aR jO) (aG jO) .none y3 y4 y5 y2 h5 y6,fa,PySem.W.fnOf "law" "law" (aS gP) (aR gP) (aG gP) .none h7 h8 h9 h6 e3 i0,c,d,g,f⟩:=⟨F0,PySem.W.mg_of X G a0,b0,F1,PySem.W.mg_of X G a1,b1,F2,PySem.W.mg_of X G a2,b2,F3,PySem.W.mg_of X G a3,b3,F4,PySem.W.mg_of X G a4,b4,F5,PySem.W.mg_of X G a5,b5,F6,PySem.W.mg_of X G a6,b6,F7,PySem.W.mg_of X G a7,b7,F8,PySem.W.mg_of X G a8,b8,F9,PySem.W.mg_of X G a9,b9,O9,PySem.W.mg_of X G a10,V1,P0,PySem.W.mg_of X G a11,V2,P1,PySem.W.mg_of X G a12,V3,P2,PySem.W.mg_of X G a13,V4,P3,PySem.W.mg_of X G a14,V5,P4,PySem.W.mg_of X G a15,V6,P5,PySem.W.mg_of X G a16,V7,P6,PySem.W.mg_of X G a17,V8,P7,PySem.W.mg_of X G a18,V9,P8,PySem.W.mg_of X G a19,W0,P9,PySem.W.mg_of X G a20,W1,Q0,PySem.W.mg_of X G a21,W2,Q1,PySem.W.mg_of X G a22,W3,Q2,PySem.W.mg_of X G a23,W4,Q3,PySem.W.mg_of X G a24,W5,Q4,PySem.W.mg_of X G a25,W6,Q5,PySem.W.mg_of X G a26,W7,Q6,PySem.W.mg_of X G a27,W8,Q7,PySem.W.mg_of X G a28,W9,Q8,PySem.W.mg_of X G a29,X0,Q9,PySem.W.mg_of X G a30,X1,R0,PySem.W.mg_of X G a31,X2,R1,PySem.W.mg_of X G a32,X3,R3,PySem.W.mg_of X G a33,X4,R4,PySem.W.mg_of X G a34,X5,R5,PySem.W.mg_of X G a35,X6,R6,PySem.W.mg_of X G a36,X7,R7,PySem.W.mg_of X G a37,X8,R8,PySem.W.mg_of X G a38,X9,R9,PySem.W.mg_of X G a39,Y0,⟨xx_NoNumber,PySem.W.mg_of X G ax_NoNumber⟩,⟨xx_NoKind,PySem.W.mg_of X G ax_NoKind⟩,PySem.W.mg_none_of X G z_abs,PySem.W.mg_none_of X G z_height,PySem.W.mg_none_of X G z_isinstance,PySem.W.mg_none_of X G z_k,PySem.W.mg_none_of X G z_len,PySem.W.mg_none_of X G z_list,PySem.W.mg_none_of X G z_mark,PySem.W.mg_none_of X G z_min,PySem.W.mg_none_of X G z_miss,PySem.W.mg_none_of X G z_one,PySem.W.mg_none_of X G z_other,PySem.W.mg_none_of X G z_pair,PySem.W.mg_none_of X G z_pull,PySem.W.mg_none_of X G z_range,PySem.W.mg_none_of X G z_reversed,PySem.W.mg_none_of X G z_str,PySem.W.mg_none_of X G z_sum,PySem.W.mg_none_of X G z_way,PySem.W.mg_none_of X G z_weight,PySem.W.mg_none_of X G z_zip,PySem.W.mg_of X G zc_KINDS,Me (xs:=[(.str "far"),(.str "sum"),(.str "square")]) lk_KINDS (Nat.le_of_lt (cV (show 3<=1000 by decide))) (.cons ⟨_,rfl⟩ (.cons ⟨_,rfl⟩ (.cons ⟨_,rfl⟩ .nil))) λ_=>.cons (.str "far") (.cons (.str "sum") (.cons (.str "square") .nil)),PySem.W.mg_of X G zc_NOUGHT,Me (xs:=[(.int 0),(.int 1)]) lk_NOUGHT (Nat.le_of_lt (cV (show 2<=1000 by decide))) (.cons ⟨_,rfl⟩ (.cons ⟨_,rfl⟩ .nil)) λ_=>.cons (.int 0) (.cons (.int 1) .nil)⟩;exact⟨PySem.W.fnOf "law" "law" (aS gP) (aR gP) (aG gP) .none h7 h8 h9 h6 e3 i0,λs v=>.of_eq rfl,λbase _ _=>Hh T⟩
end My
open PySem PySem.W PyProof.Rows
set_option maxRecDepth 100000 in
set_option maxHeartbeats 0 in
theorem PySem.Challenge.cw_leastmiss_k44_whole_changed_marks_holds : PySem.Challenge.rw_leastmiss_k44_whole_changed_marks.Holds := by
  w_on;o_law;k_head;(case hw=>w_witness2)
  k_fill
  refine Lx.walkB (l:=PySem.Challenge.rw_leastmiss_k44_whole_changed_marks) (k:=8) rfl rfl ⟨rfl,by decide,by decide⟩ (λw h Y=>PySem.W.kIn_of Y) ?F
  case F=>
    intro w c d h b G a
    refine' My.all_mk b G a ?a0 ?l0 ?c0 ?k0 ?a1 ?l1 ?c1 ?k1 ?a2 ?l2 ?c2 ?k2 ?a3 ?l3 ?c3 ?k3 ?a4 ?l4 ?c4 ?k4 ?a5 ?l5 ?c5 ?k5 ?a6 ?l6 ?c6 ?k6 ?a7 ?l7 ?c7 ?k7 ?a8 ?l8 ?c8 ?k8 ?a9 ?l9 ?c9 ?k9 ?a10 ?l10 ?c10 ?k10 ?a11 ?l11 ?c11 ?k11 ?a12 ?l12 ?c12 ?k12 ?a13 ?l13 ?c13 ?k13 ?a14 ?l14 ?c14 ?k14 ?a15 ?l15 ?c15 ?k15 ?a16 ?l16 ?c16 ?k16 ?a17 ?l17 ?c17 ?k17 ?a18 ?l18 ?c18 ?k18 ?a19 ?l19 ?c19 ?k19 ?a20 ?l20 ?c20 ?k20 ?a21 ?l21 ?c21 ?k21 ?a22 ?l22 ?c22 ?k22 ?a23 ?l23 ?c23 ?k23 ?a24 ?l24 ?c24 ?k24 ?a25 ?l25 ?c25 ?k25 ?a26 ?l26 ?c26 ?k26 ?a27 ?l27 ?c27 ?k27 ?a28 ?l28 ?c28 ?k28 ?a29 ?l29 ?c29 ?k29 ?a30 ?l30 ?c30 ?k30 ?a31 ?l31 ?c31 ?k31 ?a32 ?l32 ?c32 ?k32 ?a33 ?l33 ?c33 ?k33 ?a34 ?l34 ?c34 ?k34 ?a35 ?l35 ?c35 ?k35 ?a36 ?l36 ?c36 ?k36 ?a37 ?l37 ?c37 ?k37 ?a38 ?l38 ?c38 ?k38 ?a39 ?l39 ?c39 ?k39 ?ax_NoNumber ?xx_NoNumber ?ax_NoKind ?xx_NoKind ?z_abs ?z_height ?z_isinstance ?z_k ?z_len ?z_list ?z_mark ?z_min ?z_miss ?z_one ?z_other ?z_pair ?z_pull ?z_range ?z_reversed ?z_str ?z_sum ?z_way ?z_weight ?z_zip ?zc_KINDS ?lk_KINDS ?zc_NOUGHT ?lk_NOUGHT
    (case a0=>k_is)
    (case l0=>k_is)
    (case c0=>k_is)
    (case k0=>k_is)
    (case a1=>k_is)
    (case l1=>k_is)
    (case c1=>k_is)
    (case k1=>k_is)
    (case a2=>k_is)
    (case l2=>k_is)
    (case c2=>k_is)
    (case k2=>k_is)
    (case a3=>k_is)
    (case l3=>k_is)
    (case c3=>k_is)
    (case k3=>k_is)
    (case a4=>k_is)
    (case l4=>k_is)
    (case c4=>k_is)
    (case k4=>k_is)
    (case a5=>k_is)
    (case l5=>k_is)
    (case c5=>k_is)
    (case k5=>k_is)
    (case a6=>k_is)
    (case l6=>k_is)
    (case c6=>k_is)
    (case k6=>k_is)
    (case a7=>k_is)
    (case l7=>k_is)
    (case c7=>k_is)
    (case k7=>k_is)
    (case a8=>k_is)
    (case l8=>k_is)
    (case c8=>k_is)
    (case k8=>k_is)
    (case a9=>k_is)
    (case l9=>k_is)
    (case c9=>k_is)
    (case k9=>k_is)
    (case a10=>k_is)
    (case l10=>k_is)
    (case c10=>k_is)
    (case k10=>k_is)
    (case a11=>k_is)
    (case l11=>k_is)
    (case c11=>k_is)
    (case k11=>k_is)
    (case a12=>k_is)
    (case l12=>k_is)
    (case c12=>k_is)
    (case k12=>k_is)
    (case a13=>k_is)
    (case l13=>k_is)
    (case c13=>k_is)
    (case k13=>k_is)
    (case a14=>k_is)
    (case l14=>k_is)
    (case c14=>k_is)
    (case k14=>k_is)
    (case a15=>k_is)
    (case l15=>k_is)
    (case c15=>k_is)
    (case k15=>k_is)
    (case a16=>k_is)
    (case l16=>k_is)
    (case c16=>k_is)
    (case k16=>k_is)
    (case a17=>k_is)
    (case l17=>k_is)
    (case c17=>k_is)
    (case k17=>k_is)
    (case a18=>k_is)
    (case l18=>k_is)
    (case c18=>k_is)
    (case k18=>k_is)
    (case a19=>k_is)
    (case l19=>k_is)
    (case c19=>k_is)
    (case k19=>k_is)
    (case a20=>k_is)
    (case l20=>k_is)
    (case c20=>k_is)
    (case k20=>k_is)
    (case a21=>k_is)
    (case l21=>k_is)
    (case c21=>k_is)
    (case k21=>k_is)
    (case a22=>k_is)
    (case l22=>k_is)
    (case c22=>k_is)
    (case k22=>k_is)
    (case a23=>k_is)
    (case l23=>k_is)
    (case c23=>k_is)
    (case k23=>k_is)
    (case a24=>k_is)
    (case l24=>k_is)
    (case c24=>k_is)
    (case k24=>k_is)
    (case a25=>k_is)
    (case l25=>k_is)
    (case c25=>k_is)
    (case k25=>k_is)
    (case a26=>k_is)
    (case l26=>k_is)
    (case c26=>k_is)
    (case k26=>k_is)
    (case a27=>k_is)
    (case l27=>k_is)
    (case c27=>k_is)
    (case k27=>k_is)
    (case a28=>k_is)
    (case l28=>k_is)
    (case c28=>k_is)
    (case k28=>k_is)
    (case a29=>k_is)
    (case l29=>k_is)
    (case c29=>k_is)
    (case k29=>k_is)
    (case a30=>k_is)
    (case l30=>k_is)
    (case c30=>k_is)
    (case k30=>k_is)
    (case a31=>k_is)
    (case l31=>k_is)
    (case c31=>k_is)
    (case k31=>k_is)
    (case a32=>k_is)
    (case l32=>k_is)
    (case c32=>k_is)
    (case k32=>k_is)
    (case a33=>k_is)
    (case l33=>k_is)
    (case c33=>k_is)
    (case k33=>k_is)
    (case a34=>k_is)
    (case l34=>k_is)
    (case c34=>k_is)
    (case k34=>k_is)
    (case a35=>k_is)
    (case l35=>k_is)
    (case c35=>k_is)
    (case k35=>k_is)
    (case a36=>k_is)
    (case l36=>k_is)
    (case c36=>k_is)
    (case k36=>k_is)
    (case a37=>k_is)
    (case l37=>k_is)
    (case c37=>k_is)
    (case k37=>k_is)
    (case a38=>k_is)
    (case l38=>k_is)
    (case c38=>k_is)
    (case k38=>k_is)
    (case a39=>k_is)
    (case l39=>k_is)
    (case c39=>k_is)
    (case k39=>k_is)
    (case ax_NoNumber=>k_is)
    (case xx_NoNumber=>k_exc)
    (case ax_NoKind=>k_is)
    (case xx_NoKind=>k_exc)
    (case z_abs=>k_is)
    (case z_height=>k_is)
    (case z_isinstance=>k_is)
    (case z_k=>k_is)
    (case z_len=>k_is)
    (case z_list=>k_is)
    (case z_mark=>k_is)
    (case z_min=>k_is)
    (case z_miss=>k_is)
    (case z_one=>k_is)
    (case z_other=>k_is)
    (case z_pair=>k_is)
    (case z_pull=>k_is)
    (case z_range=>k_is)
    (case z_reversed=>k_is)
    (case z_str=>k_is)
    (case z_sum=>k_is)
    (case z_way=>k_is)
    (case z_weight=>k_is)
    (case z_zip=>k_is)
    (case zc_KINDS=>k_is)
    (case lk_KINDS=>k_is)
    (case zc_NOUGHT=>k_is)
    (case lk_NOUGHT=>k_is)
