import PyProof.Rows.All
import Wide.All
import OpenK.AllK
import Wide.FinOn
import Lean
import PyProof.EqAt
import PyProof.EqKinds
import PyProof.TupleCall
import PySem.Challenge.RW_leastmiss_k75_desk_refused
set_option Elab.async false
set_option linter.all false
set_option maxRecDepth 100000
set_option compiler.extract_closed false
noncomputable section
open Rat (divInt intCast_natCast natCast_mul intCast_le_intCast den_divInt mul_nonneg num_divInt num_divInt_den intCast_neg num_nonneg add_zero)
open List (mem_cons length_map replicate map_cons not_mem_nil length_cons size_toArray mem_map mem_singleton getElem?_eq_getElem mem_cons_self getElem?_map mem_of_getElem? mem_cons_of_mem all_eq_true lookup_cons mem_append_right length_append append_assoc forall_mem_cons replicate_succ foldl_cons range mem_append append_nil getElem?_set_ne nil_append cons_append take_of_length_le pairwise_cons foldl_nil length_drop length_set flatten_cons any_cons mem_filterMap getElem?_set_self nodup_cons drop_zero length_eq_zero_iff eq_of_mem_replicate filterMap_cons length length_take find?_cons map_append map_map drop_drop mem_range getElem?_append_right map_nil zipWith drop_left mem_append_left of_mem_zip getElem?_append_left length_replicate length_nil take_add_one take drop pairwise_map getElem_mem Perm mem_filter getElem?_take_of_lt foldl length_range nodup_iff_pairwise_ne pairwise_singleton getD length_zipWith mem_of_mem_take length_zip map_congr_left pairwise_append map_take any_nil)
open Nat (le_refl le_of_lt le_trans lt_of_lt_of_le ne_of_lt zero_le lt_irrefl lt_of_le_of_lt lt_trans not_lt pow_succ mul_comm log2_lt gcd_dvd_left div_le_self add_mul mul_le_mul_right ne_of_gt le_of_dvd gcd_pos_of_pos_left pos_of_ne_zero pow_le_pow_right pow_pos eq_zero_or_pos dvd_trans mul_assoc pow_add mul_le_mul sub_zero mul_pos sub_self)
open PySem.Heap (lt_size get?_push_of_some get?_push_size get?_update_other SameBut get?_update_self)
open Bool (and_eq_true not_eq_true' or_eq_true and_eq_false_iff false_eq_true)
open Int (toNat toNat_natCast gcd_comm natCast_ediv natAbs_mul emod_nonneg fdiv_eq_ediv_of_nonneg mul_fdiv_cancel_left one_mul emod_lt_of_pos natAbs_natCast sign_eq_one_of_pos ofNat_dvd_left divExact_eq_tdiv tdiv_eq_ediv_of_dvd natAbs)
open Option (isSome_iff_exists isSome_map map_eq_some_iff)
open Array (toList_append all_toList length_toList)
namespace L2
open PySem PySem.Spec PyProof.Rows
abbrev dS:=Sum Int Str
def sF:dS->Value->Bool
 | .inl k,v=>Value.isInt k v
 | .inr x,v=>Value.isStrOf x v
def aMu (w:World):dS->Int
 | .inl k=>hashInt k
 | .inr x=>hashStr w x
theorem dM:∀ {k:dS} {v:Value},sF k v = true->(∃ i t,k = Sum.inl i/\v = Value.int i t)\/(∃ x t,k = Sum.inr x/\v = Value.str x t)
 | .inl i,v,h=>by
  obtain ⟨t,e⟩:=Value.isInt_shape (k:=i) (v:=v) h;exact .inl ⟨i,t,rfl,e⟩
 | .inr x,v,h=>by
  obtain ⟨t,e⟩:=Value.isStrOf_shape (x:=x) (v:=v) h;exact .inr ⟨x,t,rfl,e⟩
theorem Gp (i:Int) (t:Tok):sF (.inl i) (.int i t) = true:=by simp [sF,Value.isInt]
theorem Go (x:Str) (t:Tok):sF (.inr x) (.str x t) = true:=by simp [sF,Value.isStrOf]
theorem aDl (a b:Int):decide ((Sum.inl a:dS) = Sum.inl b) = (a == b):=by
 by_cases e:a = b
 ·subst e; simp
 ·have h:¬ (Sum.inl a:dS) = Sum.inl b:=fun q=>e (Sum.inl.inj q);rw [decide_eq_false h];exact (beq_eq_false_iff_ne.mpr e).symm
theorem aDi (a b:Str):decide ((Sum.inr a:dS) = Sum.inr b) = decide (a = b):=by
 by_cases e:a = b
 ·subst e; simp
 ·have h:¬ (Sum.inr a:dS) = Sum.inr b:=fun q=>e (Sum.inr.inj q);rw [decide_eq_false h,decide_eq_false e]
theorem aDk (a:Int) (b:Str):decide ((Sum.inl a:dS) = Sum.inr b) = false:=decide_eq_false (fun q=>nomatch q)
theorem aDj (a:Str) (b:Int):decide ((Sum.inr a:dS) = Sum.inl b) = false:=decide_eq_false (fun q=>nomatch q)
def dJ (prog:Program) (w:World):PySem.KeyKind prog w dS where
 is:=sF
 hash:=aMu w
 inj:=fun v a b ha hb=>by
  rcases dM ha with ⟨i,t,rfl,rfl⟩ | ⟨x,t,rfl,rfl⟩
  ·rcases dM hb with ⟨j,u,rfl,e⟩ | ⟨y,u,rfl,e⟩
   ·injection e with e1 _; rw [e1]
   ·exact nomatch e
  ·rcases dM hb with ⟨j,u,rfl,e⟩ | ⟨y,u,rfl,e⟩
   ·exact nomatch e
   ·injection e with e1 _; rw [e1]
 byValue:=fun k v h=>by
  rcases dM h with ⟨i,t,rfl,rfl⟩ | ⟨x,t,rfl,rfl⟩ <;> rfl
 pyHash:=fun hv h=>by
  rcases dM hv with ⟨i,t,rfl,rfl⟩ | ⟨x,t,rfl,rfl⟩
  ·exact wpAny_pyHash_int h
  ·exact wpAny_pyHash_str h
 eqBool:=fun hu hv h=>by
  rcases dM hu with ⟨i,t,rfl,rfl⟩ | ⟨x,t,rfl,rfl⟩
  ·rcases dM hv with ⟨j,u,rfl,rfl⟩ | ⟨y,u,rfl,rfl⟩
   ·rw [aDl] at h; exact wpAny_eqBool_int h
   ·rw [aDk] at h; exact SeqAt.EqAt.int_str i t y u _ _ _ _ h
  ·rcases dM hv with ⟨j,u,rfl,rfl⟩ | ⟨y,u,rfl,rfl⟩
   ·rw [aDj] at h; exact SeqAt.EqAt.str_int x t j u _ _ _ _ h
   ·rw [aDi] at h; exact wpAny_eqBool_str h
 «strs»:=fun k x t v h=>by
  rcases dM h with ⟨i,u,rfl,e⟩ | ⟨y,u,rfl,e⟩
  ·exact nomatch e
  ·injection e with e1 _
   subst e1;cases v <;> rfl
theorem yV (prog:Program) (w:World) (i:Int) (t:Tok):(dJ prog w).is (.inl i) (.int i t) = true:=Gp i t
theorem yU (prog:Program) (w:World) (x:Str) (t:Tok):(dJ prog w).is (.inr x) (.str x t) = true:=Go x t
inductive V where
 | non | bl (b:Bool) | int (i:Int) | str (x:Str) | byt (b:Array UInt8) | flt (b:UInt64) | ref (a:Addr) | ty (n:String)
 deriving DecidableEq
def RelV:V->Value->Prop
 | .non,u=>u = Value.none
 | .bl b,u=>u = Value.bool b
 | .int i,u=>∃ t,u = Value.int i t
 | .str x,u=>∃ t,u = Value.str x t
 | .byt b,u=>∃ t,u = Value.bytes b t
 | .flt b,u=>∃ t,u = Value.float b t
 | .ref a,u=>u = Value.ref a
 | .ty n,u=>u = Value.type n
abbrev Vals:List V->List Value->Prop:=Paired RelV
theorem Vals.length {xs:List V} {us:List Value} (r:Vals xs us):xs.length = us.length:=Paired.length r
theorem Vals.get:∀ {xs:List V} {us:List Value} {i:Nat} {x:V},Vals xs us->xs[i]? = some x->∃ u,us[i]? = some u/\RelV x u
 | _,_,_,_,.nil,e=>by simp at e
 | _,_,0,_,.cons r _,e=>by simp at e; subst e; exact ⟨_,rfl,r⟩
 | _,_,i + 1,x,.cons _ t,e=>by
  obtain ⟨u,h1,h2⟩:=Vals.get (i:=i) (x:=x) t (by simpa using e);exact ⟨u,by simpa using h1,h2⟩
theorem Vals.set {x:V} {u:Value} (r:RelV x u):∀ {xs:List V} {us:List Value} (i:Nat),Vals xs us->Vals (xs.set i x) (us.set i u)
 | _,_,_,.nil=>.nil
 | _,_,0,.cons _ t=>.cons r t
 | _,_,i + 1,.cons q t=>.cons q (Vals.set r i t)
theorem Vals.append:∀ {xs ys:List V} {us ws:List Value},Vals xs us->Vals ys ws->Vals (xs ++ ys) (us ++ ws)
 | _,_,_,_,.nil,s=>s
 | _,_,_,_,.cons r t,s=>.cons r (Vals.append t s)
theorem Vals.take:∀ {xs:List V} {us:List Value} (n:Nat),Vals xs us->Vals (xs.take n) (us.take n)
 | _,_,0,_=>.nil
 | _,_,_ + 1,.nil=>.nil
 | _,_,n + 1,.cons r t=>.cons r (Vals.take n t)
theorem Vals.drop:∀ {xs:List V} {us:List Value} (n:Nat),Vals xs us->Vals (xs.drop n) (us.drop n)
 | _,_,0,r=>r
 | _,_,_ + 1,.nil=>.nil
 | _,_,n + 1,.cons _ t=>Vals.drop n t
def RelO:Option V->Option Value->Prop
 | some v,some u=>RelV v u
 | none,none=>True
 | _,_=>False
def KV {κ:Type}:List (κ × V)->List (κ × Value)->Prop:=Paired fun (p:κ × V) (q:κ × Value)=>p.1 = q.1/\RelV p.2 q.2
def kV:dS->V
 | .inl i=>.int i
 | .inr x=>.str x
inductive HO where
  | lst (xs:List V)
  | tup (xs:List V)
  | dK (kvs:List (dS × V)) | dT (kvs:List (List dS × V))
  | set (S:Int->Bool) (n:Nat)
  | ins (C dx:Addr) (fs:List (Str × V))
  | own (x:Addr)
  | xd (fs:List (Str × V))
  | met (f x:Addr)
  | rng (lo hi:Int)
  | frz (o:Obj) (u:HO)
  | tbl (ps:Array Value)
  | ext (φ:Heap->Prop)
abbrev Hp:=Addr->Option HO
def cX (H:Hp) (a:Addr) (o:HO):Hp:=fun b=>if b = a then some o else H b
theorem bJ {H:Hp} {a:Addr} {o:HO}:cX H a o a = some o:=by unfold cX; rw [if_pos rfl]
theorem bD {H:Hp} {a b:Addr} {o:HO} (h:b ≠ a):cX H a o b = H b:=by unfold cX; rw [if_neg h]
theorem Sa {H:Hp} {a:Addr} {o u:HO}:cX (cX H a o) a u = cX H a u:=by
 funext b; unfold cX; split <;> rfl
theorem aIn {H:Hp} {a b:Addr} {o u:HO} (h:H a = some o) (h':H b = some u) (d:o ≠ u):a ≠ b:=by
 intro e; subst e; rw [h] at h'; exact d (Option.some.inj h')
theorem bZ {H:Hp} {a b:Addr} {o:HO} (h:H a = some o) (h':H b = none):a ≠ b:=by
 intro e; subst e; rw [h] at h'; cases h'
section
variable (P:Program) (w:World)
def ObjOk (H:Hp) (h:Heap) (a:Addr):HO->Prop
 | .lst xs=>xs.length<=sizeLine/\∃ (its:List Value) (n:Nat),Vals xs its/\h.get? a = some { cls:=.type "list",data:=.seq its.toArray n }
 | .tup xs=>xs.length<=sizeLine/\∃ its:List Value,Vals xs its/\IsTup h a its.toArray
 | .dK kvs=>kvs.length<=sizeLine/\(a == sysModules) = false/\∃ vs,KV kvs vs/\h.DictOf (dJ P w) a vs
 | .dT kvs=>kvs.length<=sizeLine/\(a == sysModules) = false/\∃ xs:List (List dS × Addr × Value),
   Paired (fun (p:List dS × V) (q:List dS × Addr × Value)=>p.1 = q.1/\H q.2.1 = some (.tup (p.1.map kV))/\RelV p.2 q.2.2) kvs xs /\
   ∃ o es ep,h.get? a = some o/\o.ExactDict/\o.data = .dict es ep/\es.toList = xs.map (entryOfKey (tupleKind (dJ P w)))/\(xs.map (·.1)).Nodup
 | .set S n=>h.SetOf (intKind P w) a S n
 | .ins C dx fs=>H dx = some (.own a)/\fs.length<=1000/\dx ≠ a/\h.get? a = some (W.instObj C dx) /\
   ∃ mA,h.Ns1 dx mA/\(∀ f,RelO (fs.lookup f) (mA f))/\Within mA (fs.map (·.1))
 | .own _=>∃ o,h.get? a = some o
 | .xd fs=>∃ mA,h.Ns1 a mA/\∀ f,RelO (fs.lookup f) (mA f)
 | .rng lo hi=>∃ t u v,h.get? a = some { cls:=.type "range",data:=.fields #[.int lo t,.int hi u,.int 1 v] }
 | .frz o u=>h.get? a = some o/\ObjOk H h a u
 | .tbl ps=>h.get? a = some { cls:=.none,data:=.fields ps }
 | .met f x=>h.get? a = some (W.methodObj (.ref f) (.ref x))
 | .ext φ=>φ h/\(∃ o,h.get? a = some o)/\∀ h1 h2:Heap,φ h1->(∀ o,h1.get? a = some o->h2.get? a = some o)->φ h2
def HOk (H:Hp) (h:Heap):Prop:=∀ a o,H a = some o->ObjOk P w H h a o
end
section
variable {P:Program} {w:World} {H H':Hp} {h h':Heap} {a:Addr} {o:HO}
theorem ObjOk.lt (x:ObjOk P w H h a o):a < h.objs.size:=by
 cases o with
 | lst xs=>obtain ⟨_,_,_,_,e⟩:=x; exact lt_size e
 | tup xs=>obtain ⟨_,_,_,p⟩:=x; exact p.lt
 | dK kvs=>obtain ⟨_,_,_,_,o,_,_,e,_⟩:=x; exact lt_size e
 | dT kvs=>obtain ⟨_,_,_,_,o,_,_,e,_⟩:=x; exact lt_size e
 | set S n=>obtain ⟨o,_,_,_,e,_⟩:=x; exact lt_size e
 | ins C dx fs=>obtain ⟨_,_,_,e,_⟩:=x; exact lt_size e
 | own y=>obtain ⟨_,e⟩:=x; exact lt_size e
 | xd fs=>obtain ⟨_,⟨_,_,_,e,_⟩,_⟩:=x; exact lt_size e
 | rng lo hi=>obtain ⟨_,_,_,e⟩:=x; exact lt_size e
 | frz ob u=>obtain ⟨e,_⟩:=x; exact lt_size e
 | tbl ps=>exact lt_size (show h.get? a = some _ from x)
 | met f y=>exact lt_size (show h.get? a = some _ from x)
 | ext φ=>obtain ⟨_,⟨_,e⟩,_⟩:=x; exact lt_size e
theorem Paired.mapP {α β:Type} {F G:α->β->Prop}:∀ {l₁:List α} {l₂:List β},Paired F l₁ l₂->(∀ a b,F a b->G a b)->Paired G l₁ l₂
 | _,_,.nil,_=>.nil
 | _,_,.cons r t,f=>.cons (f _ _ r) (Paired.mapP t f)
theorem ObjOk.stay (x:ObjOk P w H h a o) (k:∀ b u,(b = a\/H b = some (.own a))->h.get? b = some u->h'.get? b = some u)
  (ho:∀ b,H b = some (.own a)->H' b = some (.own a)) (ht:∀ b xs,H b = some (.tup xs)->H' b = some (.tup xs)):ObjOk P w H' h' a o:=by
 induction o with
 | lst xs=>obtain ⟨z,its,n,r,e⟩:=x; exact ⟨z,its,n,r,k _ _ (.inl rfl) e⟩
 | tup xs=>obtain ⟨z,its,r,ob,e,c⟩:=x; exact ⟨z,its,r,ob,k _ _ (.inl rfl) e,c⟩
 | dK kvs=>obtain ⟨z,y,vs,r,ob,es,ep,e,c⟩:=x; exact ⟨z,y,vs,r,ob,es,ep,k _ _ (.inl rfl) e,c⟩
 | dT kvs =>
  obtain ⟨z,y,xs,r,ob,es,ep,e,c⟩:=x;exact ⟨z,y,xs,Paired.mapP r fun p q z=>⟨z.1,ht _ _ z.2.1,z.2.2⟩,ob,es,ep,k _ _ (.inl rfl) e,c⟩
 | set S n=>obtain ⟨ob,es,ep,t,e,c⟩:=x; exact ⟨ob,es,ep,t,k _ _ (.inl rfl) e,c⟩
 | ins C dx fs =>
  obtain ⟨d,z,ne,e,mA,⟨od,es,ep,e2,c⟩,r⟩:=x;exact ⟨ho _ d,z,ne,k _ _ (.inl rfl) e,mA,⟨od,es,ep,k _ _ (.inr d) e2,c⟩,r⟩
 | own y=>obtain ⟨ob,e⟩:=x; exact ⟨ob,k _ _ (.inl rfl) e⟩
 | xd fs=>obtain ⟨mA,⟨od,es,ep,e,c⟩,r⟩:=x; exact ⟨mA,⟨od,es,ep,k _ _ (.inl rfl) e,c⟩,r⟩
 | rng lo hi=>obtain ⟨t,u,v,e⟩:=x; exact ⟨t,u,v,k _ _ (.inl rfl) e⟩
 | frz ob u ih=>obtain ⟨e,q⟩:=x; exact ⟨k _ _ (.inl rfl) e,ih q⟩
 | tbl ps =>
  have e:h.get? a = some { cls:=.none,data:=.fields ps }:=x;show h'.get? a = some { cls:=.none,data:=.fields ps };exact k a _ (.inl rfl) e
 | met f y =>
  have e:h.get? a = some (W.methodObj (.ref f) (.ref y)):=x;show h'.get? a = some (W.methodObj (.ref f) (.ref y));exact k a _ (.inl rfl) e
 | ext φ=>obtain ⟨p,⟨o,e⟩,st⟩:=x; exact ⟨st _ _ p fun o q=>k _ _ (.inl rfl) q,⟨o,k _ _ (.inl rfl) e⟩,st⟩
theorem HOk.lt (x:HOk P w H h) (e:H a = some o):a < h.objs.size:=(x a o e).lt
theorem HOk.fresh (x:HOk P w H h) (e:h.objs.size<=a):H a = none:=by
 cases q:H a with
 | none=>rfl
 | some u=>exact absurd (lt_of_lt_of_le (x.lt q) e) (lt_irrefl _)
theorem HOk.kept (x:HOk P w H h) (k:∀ b u,h.get? b = some u->h'.get? b = some u):HOk P w H h':=fun a o e =>
 (x a o e).stay (fun b u _ q=>k b u q) (fun _ q=>q) fun _ _ q=>q
theorem HOk.laid (x:HOk P w H h) (k:∀ b u,h.get? b = some u->h'.get? b = some u) (hp:h.objs.size<=a) (new:ObjOk P w (cX H a o) h' a o):HOk P w (cX H a o) h':=fun b u e=>by
 have hn:=x.fresh hp;by_cases hb:b = a
 ·subst hb; rw [bJ] at e; cases e; exact new
 ·rw [bD hb] at e;exact (x b u e).stay (fun c v _ q=>k c v q) (fun c q=>by rw [bD (bZ q hn)]; exact q) fun c xs q=>by rw [bD (bZ q hn)]; exact q
end
def Rd (H:Hp) (a:Addr) (u:HO):Prop:=H a = some u\/∃ o,H a = some (.frz o u)
theorem Rd.ok {P:Program} {w:World} {H:Hp} {h:Heap} {a:Addr} {u:HO} (r:Rd H a u) (x:HOk P w H h):ObjOk P w H h a u:=by
 rcases r with r | ⟨o,r⟩
 ·exact x a u r
 ·obtain ⟨_,q⟩:=x a _ r;exact q
def Mut:Option HO->Prop
 | some (.lst _)=>True
 | some (.dK _)=>True
 | some (.dT _)=>True
 | some (.set _ _)=>True
 | some (.ins _ _ _)=>True
 | some (.ext _)=>True
 | _=>False
section
variable {P:Program} {w:World} {H:Hp} {h h':Heap} {x e:Addr} {o':HO}
theorem HOk.write (ok:HOk P w H h) (mu:Mut (H x)) (he:e = x\/H e = some (.own x)) (k:∀ b u,b ≠ e->h.get? b = some u->h'.get? b = some u) (heo:∃ u,h'.get? e = some u)
  (new:ObjOk P w (cX H x o') h' x o'):HOk P w (cX H x o') h':=fun b u q=>by
 have nown:∀ c y,H c = some (.own y)->c ≠ x:=fun c y r z=>by subst z; rw [r] at mu; exact mu
 have ntup:∀ c xs,H c = some (.tup xs)->c ≠ x:=fun c xs r z=>by subst z; rw [r] at mu; exact mu
 by_cases hb:b = x
 ·subst hb; rw [bJ] at q; cases q; exact new
 ·rw [bD hb] at q;by_cases hbe:b = e
  ·have q':H b = some (.own x):=by
    rcases he with z | z
    ·exact absurd (hbe.trans z) hb
    ·rw [hbe]; exact z
   rw [q] at q'; cases q';obtain ⟨v,hv⟩:=heo;exact ⟨v,by rw [hbe]; exact hv⟩
  ·refine (ok b u q).stay (fun c v hc r=>k c v ?_ r) (fun c r=>by rw [bD (nown c b r)]; exact r) fun c xs r=>by rw [bD (ntup c xs r)]; exact r
   rcases hc with rfl | hc
   ·exact hbe
   ·rintro rfl;rcases he with z | z
    ·exact nown c b hc z
    ·rw [hc] at z; cases z; exact hb rfl
end
structure Un (fs ex:List Addr) (H H':Hp) (h h':Heap):Prop where
 keep:∀ b o,h.get? b = some o->H b = none->b ∉ fs->b ∉ ex->h'.get? b = some o
 slot:∀ b o,h.get? b = some o->H b = none->b∈fs->b ∉ ex->∃ sl,h'.get? b = some { o with slots:=sl }
 free:∀ b o,h.get? b = some o->H b = none->b ∉ ex->H' b = none
 there:∀ b o,h.get? b = some o->b ∉ ex->∃ o',h'.get? b = some o'
 tups:∀ b xs,H b = some (.tup xs)->H' b = some (.tup xs)
 frzs:∀ b o u,H b = some (.frz o u)->H' b = some (.frz o u)
 tbls:∀ b ps,H b = some (.tbl ps)->∃ more,H' b = some (.tbl (ps ++ more))
section
variable {fs fs' ex ex':List Addr} {H H1 H2:Hp} {h h1 h2 h':Heap} {a x e:Addr} {o:HO}
theorem Un.any (u:Un fs ex H H1 h h1) {b:Addr} {ob:Obj} (q:h.get? b = some ob) (n:H b = none) (hx:b ∉ ex):∃ sl,h1.get? b = some { ob with slots:=sl }:=by
 by_cases hb:b∈fs
 ·exact u.slot b ob q n hb hx
 ·exact ⟨ob.slots,u.keep b ob q n hb hx⟩
theorem Un.trans (a:Un fs ex H H1 h h1) (b:Un fs ex H1 H2 h1 h2):Un fs ex H H2 h h2 where
 keep:=fun c ob q n hc hx=>b.keep c ob (a.keep c ob q n hc hx) (a.free c ob q n hx) hc hx
 slot:=fun c ob q n hc hx=>by
  obtain ⟨sl,e1⟩:=a.slot c ob q n hc hx;obtain ⟨sl',e2⟩:=b.slot c _ e1 (a.free c ob q n hx) hc hx;exact ⟨sl',e2⟩
 free:=fun c ob q n hx=>by
  obtain ⟨o',e1⟩:=a.there c ob q hx;exact b.free c o' e1 (a.free c ob q n hx) hx
 there:=fun c ob q hx=>by
  obtain ⟨o',e1⟩:=a.there c ob q hx;exact b.there c o' e1 hx
 tups:=fun c xs q=>b.tups c xs (a.tups c xs q)
 frzs:=fun c ob xs q=>b.frzs c ob xs (a.frzs c ob xs q)
 tbls:=fun c ps q=>by
  obtain ⟨m1,e1⟩:=a.tbls c ps q;obtain ⟨m2,e2⟩:=b.tbls c _ e1;exact ⟨m1 ++ m2,by rw [e2,Array.append_assoc]⟩
theorem Un.kept (k:∀ b u,h.get? b = some u->h'.get? b = some u):Un fs ex H H h h' :=
 ⟨fun b ob q _ _ _=>k b ob q,fun b ob q _ _ _=>⟨ob.slots,k b ob q⟩,fun _ _ _ n _=>n,fun b ob q _=>⟨ob,k b ob q⟩,fun _ _ q=>q,fun _ _ _ q=>q,fun _ ps q=>⟨#[],by rw [q]; simp⟩⟩
theorem Un.refl:Un fs ex H H h h:=Un.kept fun _ _ q=>q
theorem Un.laid (k:∀ b u,h.get? b = some u->h'.get? b = some u) (hp:h.objs.size<=a) (hn:H a = none):Un fs ex H (cX H a o) h h' where
 keep:=fun b u q _ _ _=>k b u q
 slot:=fun b u q _ _ _=>⟨u.slots,k b u q⟩
 free:=fun b u q n _=>by rw [bD (ne_of_lt (lt_of_lt_of_le (lt_size q) hp))]; exact n
 there:=fun b u q _=>⟨u,k b u q⟩
 tups:=fun b xs q=>by rw [bD (bZ q hn)]; exact q
 frzs:=fun b u xs q=>by rw [bD (bZ q hn)]; exact q
 tbls:=fun b ps q=>⟨#[],by rw [bD (bZ q hn),q]; simp⟩
theorem Un.write (mu:Mut (H x)) (he:e = x\/H e = some (.own x)) (k:∀ b u,b ≠ e->h.get? b = some u->h'.get? b = some u) (heo:∃ u,h'.get? e = some u):Un fs ex H (cX H x o) h h':=by
 have hx:∀ b,H b = none->b ≠ x:=fun b n z=>by subst z; rw [n] at mu; exact mu
 have hb:∀ b,H b = none->b ≠ e:=fun b n z=>by
  subst z;rcases he with r | r
  ·exact hx b n r
  ·rw [n] at r; cases r
 have hm:∀ b u,H b = some u->¬ Mut (some u)->b ≠ x:=fun b u q nm z=>by subst z; rw [q] at mu; exact nm mu
 refine ⟨fun b u q n _ _=>k b u (hb b n) q,fun b u q n _ _=>⟨u.slots,k b u (hb b n) q⟩,fun b u q n _=>by rw [bD (hx b n)]; exact n,fun b u q _=>?_,
  fun b xs q=>by rw [bD (hm b _ q fun z=>z)]; exact q,fun b u xs q=>by rw [bD (hm b _ q fun z=>z)]; exact q,fun b ps q=>⟨#[],by rw [bD (hm b _ q fun z=>z),q]; simp⟩⟩
 by_cases hbe:b = e
 ·subst hbe; exact heo
 ·exact ⟨u,k b u hbe q⟩
end
def trk (h:Heap) (H:Hp):List Addr:=(range h.objs.size).filter fun a=>(H a).isSome
def wM (h:Heap) (H:Hp):Heap:=W.hideAll h (trk h H)
theorem Gw (h:Heap) (H:Hp):(wM h H).objs.size = h.objs.size:=W.hideAll_size _ _
theorem Oy {h:Heap} {H:Hp} {b:Addr} {o:Obj} (e:h.get? b = some o) (n:H b = none):(wM h H).get? b = some o :=
 W.hideAll_get _ e fun hm=>by
  have q:(H b).isSome = true:=(mem_filter.mp hm).2;rw [n] at q; simp at q
theorem Tv {h:Heap} {H:Hp} {b:Addr} {o:Obj} (e:(wM h H).get? b = some o):h.get? b = some o/\H b = none:=by
 have e':h.get? b = some o:=W.of_hideAll (trk h H) e;refine ⟨e',?_⟩;cases q:H b with
 | none=>rfl
 | some x =>
  have hm:b∈trk h H:=mem_filter.mpr ⟨mem_range.mpr (lt_size e'),by simp [q]⟩;have z:(wM h H).get? b = none:=W.hideAll_none (trk h H) hm;rw [z] at e; cases e
def Vs (g h:Heap) (L:Addr):List (Addr × Obj):=(range h.objs.size).filterMap fun a=>if a = L\/(g.get? a).isSome = true then none else (h.get? a).map fun o=>(a,o)
def rest (g h:Heap) (L d:Addr):List (Addr × Obj):=(Vs g h L).filter fun p=>decide (p.1 ≠ d)
structure Mod (K:W.Frag) (mg:Str->Option Value) (base:Heap):Prop where
 kin:K.In base
 glob:base.Ns mainGlobals mg
 blt:∃ mb,base.Ns builtinsNs mb/\∀ x:Str,x ≠ "__name__"->mb x = bootBuiltins x
 nolimit:base.NoLimit
structure Cx where
 prog:Program
 w:World
 K:W.Frag
 mg:Str->Option Value
 base:Heap
 A:Around
 N:List Str
 s₀:Shared
 H₀:Hp
 env:Env
 outer:List Env
 stack:List Env
 ex:List Addr
 fn:Str->Bool
 calm:Bool
 pn:List (Addr × Obj)
 xe:Value->Shared->Prop
def iQ (l:List Env):List Addr:=l.filterMap (·.frame)
abbrev Cx.fs (X:Cx):List Addr:=iQ X.outer
def Vis (sc:Scope) (x:Str):Prop:=sc.names.lookup x = some .local\/sc.names.lookup x = some .cell\/sc.names.lookup x = some .free
def Loc (sc:Scope) (x:Str):Prop:=sc.names.lookup x = some .local\/sc.names.lookup x = some .cell
def aKw (env:Env) (h:Heap) (m:Str->Option Value) (x:Str) (u:Value):Prop :=
 (env.kindOf x = some .local/\m x = some u)\/((env.kindOf x = some .cell\/env.kindOf x = some .free)/\∃ c,env.cells.lookup x = some c/\h.IsCell c (some u))
structure Cx.Ok (X:Cx):Prop where
 mod:Mod X.K X.mg X.base
 kind:X.env.scope.kind = .function
 glob:X.env.globals = mainGlobals
 blt:X.env.builtins = builtinsNs
 above:X.s₀.heap.objs.size<=X.env.locals
 inj:∀ x y c,X.env.cells.lookup x = some c->X.env.cells.lookup y = some c->x = y
 has:∀ x,(X.env.kindOf x = some .cell\/X.env.kindOf x = some .free)->∃ c,X.env.cells.lookup x = some c
 cab:∀ x c,X.fn x = true->X.env.cells.lookup x = some c->X.s₀.heap.objs.size<=c
 hd:X.calm = true->X.A.handled = none
 frames:X.A.frames = some X.stack
 stk:X.stack = X.outer\/(X.stack = X.env :: X.outer/\X.env.frame = some X.env.locals)
 exf:∀ b∈X.ex,b ≠ X.env.locals/\∀ x c,X.env.cells.lookup x = some c->c ≠ b
 bs:∀ b o,X.base.get? b = some o->X.s₀.heap.get? b = some o/\X.H₀ b = none
 bsz:X.base.objs.size<=X.s₀.heap.objs.size
 noex:∀ b o,X.base.get? b = some o->b ∉ X.ex
 exfs:∀ b∈X.ex,b ∉ X.fs
 funs:X.s₀.heap.FunFrames X.base X.outer
 frf:∀ b∈X.fs,X.H₀ b = none
structure Inv (X:Cx) (pins:List (Addr × Obj)) (σ:List (Option V)) (H:Hp) (s:Shared):Prop where
 ok:X.Ok
 os:s.os = X.s₀.os
 bare:AllBare s.gens
 base:Un X.fs X.ex X.H₀ H X.s₀.heap s.heap
 loc:∃ m,s.heap.Ns X.env.locals m/\∀ (i:Nat) (x:Str) (v:V),X.N[i]? = some x->σ[i]? = some (some v)->Vis X.env.scope x->∃ u,RelV v u/\aKw X.env s.heap m x u
 cell:∀ x c,X.env.cells.lookup x = some c->∃ v,s.heap.IsCell c v
 free:H X.env.locals = none
 freeC:∀ x c,X.env.cells.lookup x = some c->H c = none
 pin:∀ p∈X.pn ++ pins,s.heap.get? p.1 = some p.2/\H p.1 = none/\p.1 ≠ X.env.locals/\p.1 ∉ X.fs/\∀ v,p.2.data ≠ .cell v
 hok:HOk X.prog X.w H s.heap
 len:σ.length = X.N.length
section
variable {X:Cx} {pins:List (Addr × Obj)} {σ:List (Option V)} {H H':Hp} {s:Shared} {h':Heap}
theorem Cx.Ok.nofr (ok:X.Ok) {b:Addr} {o:Obj} (e:X.base.get? b = some o):b ∉ X.fs:=fun hb=>by
 have:=(ok.funs.mem hb).1;rw [e] at this; cases this
theorem Inv.bs (I:Inv X pins σ H s):∀ b o,X.base.get? b = some o->s.heap.get? b = some o/\H b = none:=fun b o e =>
 ⟨I.base.keep b o (I.ok.bs b o e).1 (I.ok.bs b o e).2 (I.ok.nofr e) (I.ok.noex b o e),I.base.free b o (I.ok.bs b o e).1 (I.ok.bs b o e).2 (I.ok.noex b o e)⟩
theorem Inv.bk (I:Inv X pins σ H s):∀ b o,X.base.get? b = some o->s.heap.get? b = some o:=fun b o e=>(I.bs b o e).1
theorem Inv.mod (I:Inv X pins σ H s):Mod X.K X.mg X.base:=I.ok.mod
theorem Inv.kIn (I:Inv X pins σ H s):X.K.In s.heap:=I.ok.mod.kin.keeps I.bk
theorem Inv.lt (I:Inv X pins σ H s):X.env.locals < s.heap.objs.size:=let ⟨_,hn,_⟩:=I.loc; hn.lt
theorem Inv.sz (I:Inv X pins σ H s):X.s₀.heap.objs.size<=s.heap.objs.size:=le_trans I.ok.above (le_of_lt I.lt)
theorem Inv.nofs (I:Inv X pins σ H s) {a:Addr} (h:s.heap.objs.size<=a):a ∉ X.fs:=fun hb=>by
 obtain ⟨_,o,ho,_⟩:=I.ok.funs.mem hb;exact absurd (lt_of_lt_of_le (lt_size ho) (le_trans I.sz h)) (lt_irrefl _)
theorem Inv.cne (I:Inv X pins σ H s):∀ x c,X.env.cells.lookup x = some c->c ≠ X.env.locals:=fun x c e z=>by
 obtain ⟨v,o,ho,hd⟩:=I.cell x c e;obtain ⟨m,⟨o',es,ep,ho',hd',_⟩,_⟩:=I.loc;rw [z,ho'] at ho; cases ho; rw [hd'] at hd; cases hd
theorem Inv.funs (I:Inv X pins σ H s):s.heap.FunFrames X.base X.outer:=by
 have all:∀ (l:List Env),(∀ b∈iQ l,b∈X.fs)->X.s₀.heap.FunFrames X.base l->s.heap.FunFrames X.base l:=by
  intro l
  induction l with
  | nil=>intro _ _; trivial
  | cons env r ih =>
   intro hs hl;obtain ⟨hk,⟨L,o,hf,hn,ho,hd⟩,hr⟩:=hl;have hL:L∈X.fs:=hs L (by unfold iQ; rw [filterMap_cons,hf]; exact mem_cons_self);obtain ⟨sl,e⟩:=I.base.slot L o ho (I.ok.frf L hL) hL fun z=>I.ok.exfs L z hL;exact ⟨hk,⟨L,_,hf,hn,e,hd⟩,ih (fun b hb=>hs b (by unfold iQ; rw [filterMap_cons,hf]; exact mem_cons_of_mem _ hb)) hr⟩
 exact all X.outer (fun _ hb=>hb) I.ok.funs
theorem Inv.stack (I:Inv X pins σ H s):s.heap.FunFrames X.base X.stack:=by
 rcases I.ok.stk with e | ⟨e,hf⟩
 ·rw [e]; exact I.funs
 ·rw [e];obtain ⟨m,hn,_⟩:=I.loc;refine .cons (by rw [I.ok.kind]; decide) hf hn ?_ I.funs;exact Heap.get?_none_of_le (le_trans I.ok.bsz I.ok.above)
theorem Inv.stkSub (I:Inv X pins σ H s):∀ b∈iQ X.stack,b∈X.env.locals :: X.fs:=fun b hb=>by
 rcases I.ok.stk with e | ⟨e,hf⟩
 ·rw [e] at hb; exact mem_cons_of_mem _ hb
 ·rw [e] at hb;unfold iQ at hb;rw [filterMap_cons,hf] at hb;exact hb
theorem Inv.stkFree (I:Inv X pins σ H s):∀ b∈iQ X.stack,H b = none:=fun b hb=>by
 rcases mem_cons.mp (I.stkSub b hb) with e | hb
 ·rw [e]; exact I.free
 ·obtain ⟨_,o,ho,_⟩:=I.ok.funs.mem hb;exact I.base.free b o ho (I.ok.frf b hb) fun z=>I.ok.exfs b z hb
theorem Inv.step {g':Array GenState} {t':Nat} {d':Drawn} {ch:List Addr} (I:Inv X pins σ H s)
  (hch:∀ b∈ch,(b∈X.ex\/X.s₀.heap.objs.size<=b)/\b ≠ X.env.locals/\(∀ x c,X.env.cells.lookup x = some c->c ≠ b)/\∀ p∈X.pn ++ pins,p.1 ≠ b)
  (keep:∀ b o,b ≠ X.env.locals->b ∉ X.fs->b ∉ ch->s.heap.get? b = some o->H b = none->h'.get? b = some o)
  (slot:∀ b o,b ≠ X.env.locals->b∈X.fs->b ∉ ch->s.heap.get? b = some o->H b = none->∃ sl,h'.get? b = some { o with slots:=sl }) (free:∀ b o,b ∉ ch->s.heap.get? b = some o->H b = none->H' b = none)
  (there:∀ b o,b ∉ ch->s.heap.get? b = some o->∃ o',h'.get? b = some o')
  (tups:∀ b xs,H b = some (.tup xs)->H' b = some (.tup xs)) (frzs:∀ b o u,H b = some (.frz o u)->H' b = some (.frz o u)) (tbls:∀ b ps,H b = some (.tbl ps)->∃ more,H' b = some (.tbl (ps ++ more)))
  (ns:∀ m,s.heap.Ns X.env.locals m->h'.Ns X.env.locals m) (hok:HOk X.prog X.w H' h') (hg:AllBare g') :
  Inv X pins σ H' { s with heap:=h',gens:=g',drawn:=d',toks:=t' }:=by
 have neL:∀ b o,X.s₀.heap.get? b = some o->b ≠ X.env.locals:=fun b o e=>ne_of_lt (lt_of_lt_of_le (lt_size e) I.ok.above);have neC:∀ b o,X.s₀.heap.get? b = some o->b ∉ X.ex->b ∉ ch:=fun b o e hx hb=>by
  rcases (hch b hb).1 with z | z
  ·exact hx z
  ·exact absurd (lt_of_lt_of_le (lt_size e) z) (lt_irrefl _)
 have cellK:∀ x c,X.env.cells.lookup x = some c->∀ v,s.heap.IsCell c v->h'.IsCell c v:=fun x c e v ⟨o,ho,hd⟩=>by
  have nch:c ∉ ch:=fun z=>(hch c z).2.2.1 x c e rfl;by_cases hc:c∈X.fs
  ·obtain ⟨sl,q⟩:=slot c o (I.cne x c e) hc nch ho (I.freeC x c e);exact ⟨_,q,hd⟩
  ·exact ⟨o,keep c o (I.cne x c e) hc nch ho (I.freeC x c e),hd⟩
 refine ⟨I.ok,I.os,hg,⟨fun b o e n hb hx=>?_,fun b o e n hb hx=>?_,fun b o e n hx=>?_,fun b o e hx=>?_,fun b xs e=>tups b xs (I.base.tups b xs e),fun b o xs e=>frzs b o xs (I.base.frzs b o xs e),fun b ps e=>?_⟩,?_,fun x c e=>?_,?_,fun x c e=>?_,fun p hp=>?_,hok,I.len⟩
 ·exact keep b o (neL b o e) hb (neC b o e hx) (I.base.keep b o e n hb hx) (I.base.free b o e n hx)
 ·obtain ⟨sl,e1⟩:=I.base.slot b o e n hb hx;obtain ⟨sl',e2⟩:=slot b _ (neL b o e) hb (neC b o e hx) e1 (I.base.free b o e n hx);exact ⟨sl',e2⟩
 ·obtain ⟨o',e1⟩:=I.base.there b o e hx;exact free b o' (neC b o e hx) e1 (I.base.free b o e n hx)
 ·obtain ⟨o',e1⟩:=I.base.there b o e hx;exact there b o' (neC b o e hx) e1
 ·obtain ⟨m1,e1⟩:=I.base.tbls b ps e;obtain ⟨m2,e2⟩:=tbls b _ e1;exact ⟨m1 ++ m2,by rw [e2,Array.append_assoc]⟩
 ·obtain ⟨m,hn,hl⟩:=I.loc;refine ⟨m,ns m hn,fun i x v e1 e2 e3=>?_⟩;obtain ⟨u,r,l⟩:=hl i x v e1 e2 e3;refine ⟨u,r,?_⟩;rcases l with l | ⟨k,c,e,z⟩
  ·exact .inl l
  ·exact .inr ⟨k,c,e,cellK x c e _ z⟩
 ·obtain ⟨v,z⟩:=I.cell x c e;exact ⟨v,cellK x c e v z⟩
 ·obtain ⟨m,⟨o,_,_,ho,_⟩,_⟩:=I.loc;exact free _ o (fun z=>(hch _ z).2.1 rfl) ho I.free
 ·obtain ⟨v,o,ho,hd⟩:=I.cell x c e;exact free c o (fun z=>(hch c z).2.2.1 x c e rfl) ho (I.freeC x c e)
 ·obtain ⟨e,n,ne,nf,d⟩:=I.pin p hp;have nch:p.1 ∉ ch:=fun z=>(hch p.1 z).2.2.2 p hp rfl;exact ⟨keep p.1 p.2 ne nf nch e n,free p.1 p.2 nch e n,ne,nf,d⟩
theorem Inv.un {t':Nat} (I:Inv X pins σ H s) (u:Un X.fs [] H H' s.heap h') (hok:HOk X.prog X.w H' h'):Inv X pins σ H' { s with heap:=h',toks:=t' }:=by
 obtain ⟨m,⟨o,es,ep,ho,r⟩,_⟩:=id I.loc;obtain ⟨sl,hL⟩:=u.any ho I.free (by simp)
 exact I.step (g':=s.gens) (d':=s.drawn) (ch:=[]) (fun _ z=>nomatch z) (fun b o _ hb _ e n=>u.keep b o e n hb (by simp)) (fun b o _ hb _ e n=>u.slot b o e n hb (by simp)) (fun b o _ e n=>u.free b o e n (by simp)) (fun b o _ e=>u.there b o e (by simp)) u.tups u.frzs u.tbls (fun m' hm=>by
  obtain ⟨o',es',ep',ho',r'⟩:=hm
  rw [ho] at ho'; cases ho'
  exact ⟨_,es',ep',hL,r'⟩) hok I.bare
theorem Inv.call {g':Array GenState} {t':Nat} {d':Drawn} {ch:List Addr} (I:Inv X pins σ H s) (u:Un (iQ X.stack) ch H H' s.heap h') (hok:HOk X.prog X.w H' h') (hg:AllBare g')
  (hch:∀ b∈ch,(b∈X.ex\/X.s₀.heap.objs.size<=b)/\b ≠ X.env.locals/\(∀ x c,X.env.cells.lookup x = some c->c ≠ b)/\∀ p∈X.pn ++ pins,p.1 ≠ b) :
  Inv X pins σ H' { s with heap:=h',gens:=g',drawn:=d',toks:=t' }:=by
 obtain ⟨m,⟨o,es,ep,ho,r⟩,_⟩:=id I.loc;obtain ⟨sl,hL⟩:=u.any ho I.free fun z=>(hch _ z).2.1 rfl
 exact I.step (ch:=ch) hch (fun b o hL hb hc e n=>u.keep b o e n (fun z=>(mem_cons.mp (I.stkSub b z)).elim hL hb) hc) (fun b o _ _ hc e n=>u.any e n hc) (fun b o hc e n=>u.free b o e n hc) (fun b o hc e=>u.there b o e hc) u.tups u.frzs u.tbls (fun m' hm=>by
  obtain ⟨o',es',ep',ho',r'⟩:=hm
  rw [ho] at ho'; cases ho'
  exact ⟨_,es',ep',hL,r'⟩) hok hg
theorem Inv.turned {t':Nat} {it:Addr} (I:Inv X pins σ H s) (k:∀ b o,b ≠ it->s.heap.get? b = some o->h'.get? b = some o) (hn:H it = none) (hL:it ≠ X.env.locals)
  (h1:it∈X.ex\/X.s₀.heap.objs.size<=it) (h2:∀ x c,X.env.cells.lookup x = some c->c ≠ it) (h3:∀ p∈X.pn ++ pins,p.1 ≠ it):Inv X pins σ H { s with heap:=h',toks:=t' }:=by
 have nit:∀ b u,H b = some u->b ≠ it:=fun b u e z=>by rw [z,hn] at e; cases e
 refine I.step (g':=s.gens) (d':=s.drawn) (ch:=[it]) (fun b hb=>?_) (fun b o _ _ hc e _=>k b o (fun z=>hc (by simp [z])) e) (fun b o _ _ hc e _=>⟨o.slots,k b o (fun z=>hc (by simp [z])) e⟩) (fun _ _ _ _ n=>n)
  (fun b o hc e=>⟨o,k b o (fun z=>hc (by simp [z])) e⟩) (fun _ _ e=>e) (fun _ _ _ e=>e) (fun b ps e=>⟨#[],by rw [e]; simp⟩) (fun m hm=>?_) (fun b u e=>?_) I.bare
 ·have e:b = it:=by simpa using hb
  subst e;exact ⟨h1,hL,h2,h3⟩
 ·obtain ⟨o,es,ep,ho,r⟩:=hm;exact ⟨o,es,ep,k _ o (Ne.symm hL) ho,r⟩
 ·refine (I.hok b u e).stay (fun c v hc q=>k c v ?_ q) (fun _ q=>q) fun _ _ q=>q;rcases hc with z | z
  ·rw [z]; exact nit b u e
  ·exact nit c _ z
theorem Inv.tok (I:Inv X pins σ H s) (t:Nat):Inv X pins σ H { s with toks:=t }:=I.un (h':=s.heap) (t':=t) Un.refl I.hok
theorem Inv.kept {t':Nat} (I:Inv X pins σ H s) (k:∀ b u,s.heap.get? b = some u->h'.get? b = some u):Inv X pins σ H { s with heap:=h',toks:=t' }:=I.un (Un.kept k) (I.hok.kept k)
theorem Inv.laid {a:Addr} {o:HO} {t':Nat} (I:Inv X pins σ H s) (k:∀ b u,s.heap.get? b = some u->h'.get? b = some u) (hp:s.heap.objs.size<=a) (new:ObjOk X.prog X.w (cX H a o) h' a o) :
  Inv X pins σ (cX H a o) { s with heap:=h',toks:=t' }:=I.un (Un.laid k hp (I.hok.fresh hp)) (I.hok.laid k hp new)
theorem Inv.write {x e:Addr} {o:HO} {t':Nat} (I:Inv X pins σ H s) (mu:Mut (H x)) (he:e = x\/H e = some (.own x)) (k:∀ b u,b ≠ e->s.heap.get? b = some u->h'.get? b = some u) (heo:∃ u,h'.get? e = some u)
  (new:ObjOk X.prog X.w (cX H x o) h' x o):Inv X pins σ (cX H x o) { s with heap:=h',toks:=t' }:=I.un (Un.write mu he k heo) (I.hok.write mu he k heo new)
theorem Inv.pins_of {pins':List (Addr × Obj)} (I:Inv X pins σ H s) (h:∀ p∈pins',s.heap.get? p.1 = some p.2/\H p.1 = none/\p.1 ≠ X.env.locals/\p.1 ∉ X.fs/\∀ v,p.2.data ≠ .cell v):Inv X pins' σ H s :=
 ⟨I.ok,I.os,I.bare,I.base,I.loc,I.cell,I.free,I.freeC,fun p hp=>(mem_append.mp hp).elim (fun z=>I.pin p (mem_append_left _ z)) (h p),I.hok,I.len⟩
theorem rX {N:List Str} (hN:N.Nodup) {i j:Nat} {x:Str} (a:N[i]? = some x) (b:N[j]? = some x):i = j:=by
 obtain ⟨h1,e1⟩:=List.getElem?_eq_some_iff.mp a;obtain ⟨h2,e2⟩:=List.getElem?_eq_some_iff.mp b;exact (List.getElem_inj hN).mp (e1.trans e2.symm)
theorem tW {M:Model} {A:Around} {E:Value->Shared->Prop} {i:Nat} {x:Str} {v:V} {u:Value} {Q:Unit->Shared->Prop} (I:Inv X pins σ H s) (hN:X.N.Nodup) (hi:X.N[i]? = some x) (hx:Loc X.env.scope x) (r:RelV v u)
  (h:∀ s',Inv X pins (σ.set i (some v)) H s'->(∃ a,SameBut a s.heap s'.heap/\(a = X.env.locals\/X.env.cells.lookup x = some a))->Q () s') (hf:X.fn x = true\/X.env.scope.names.lookup x = some .local:=by first | exact .inl rfl | exact .inr rfl | assumption):wpAny M A (storeName X.env x u) Q E s:=by
 obtain ⟨m,hn,hl⟩:=id I.loc;have hcls:(X.env.scope.kind == .class || (X.env.scope.kind == .module && X.env.locals != X.env.globals)) = false:=by rw [I.ok.kind]; rfl
 have hiσ:i < σ.length:=by rw [I.len]; exact (List.getElem?_eq_some_iff.mp hi).1
 have cne:=I.cne;have tracked:∀ {a:Addr} {h':Heap},(∃ o,s.heap.get? a = some o/\H a = none)->SameBut a s.heap h'->HOk X.prog X.w H h':=fun {a h'} ha hs b ob e=>by
  obtain ⟨_,_,hfree⟩:=ha;refine (I.hok b ob e).stay (fun c w' hc q=>(hs.2 c ?_).trans q) (fun _ q=>q) fun _ _ q=>q;rintro rfl;rcases hc with rfl | hc
  ·rw [hfree] at e; cases e
  ·rw [hfree] at hc; cases hc
 rcases hx with hk | hk
 ·refine wpAny_storeName_local hk hn (fun h' hn' hs=>?_) hcls;obtain ⟨oL,_,_,hoL,_⟩:=id hn;refine h _ ⟨I.ok,I.os,I.bare,⟨fun b o e n hb hx=>?_,fun b o e n hb hx=>?_,I.base.free,fun b o e hx=>?_,I.base.tups,I.base.frzs,I.base.tbls⟩,⟨_,hn',fun j y v' e1 e2 e3=>?_⟩,fun y c e=>?_,I.free,I.freeC,fun p hp=>?_,tracked ⟨oL,hoL,I.free⟩ hs,by simpa using I.len⟩ ⟨_,hs,.inl rfl⟩
  ·exact (hs.2 b (ne_of_lt (lt_of_lt_of_le (lt_size e) I.ok.above))).trans (I.base.keep b o e n hb hx)
  ·obtain ⟨sl,e1⟩:=I.base.slot b o e n hb hx;exact ⟨sl,(hs.2 b (ne_of_lt (lt_of_lt_of_le (lt_size e) I.ok.above))).trans e1⟩
  ·obtain ⟨o',e1⟩:=I.base.there b o e hx;exact ⟨o',(hs.2 b (ne_of_lt (lt_of_lt_of_le (lt_size e) I.ok.above))).trans e1⟩
  ·by_cases hj:j = i
   ·subst hj;rw [hi] at e1; cases e1;rw [getElem?_set_self hiσ] at e2;cases e2;exact ⟨u,r,.inl ⟨hk,by simp⟩⟩
   ·rw [getElem?_set_ne (Ne.symm hj)] at e2;obtain ⟨u',r',q⟩:=hl j y v' e1 e2 e3;refine ⟨u',r',?_⟩;rcases q with ⟨k,e⟩ | ⟨k,c,e,z⟩
    ·refine .inl ⟨k,?_⟩;have:y ≠ x:=fun e=>hj (rX hN e1 (e ▸ hi));simp [this,e]
    ·exact .inr ⟨k,c,e,z.sameBut hs (cne y c e)⟩
  ·obtain ⟨w',z⟩:=I.cell y c e;exact ⟨w',z.sameBut hs (cne y c e)⟩
  ·obtain ⟨e,n,ne,nf,d⟩:=I.pin p hp;exact ⟨(hs.2 p.1 ne).trans e,n,ne,nf,d⟩
 ·have hfn:X.fn x = true:=by
   rcases hf with z | z
   ·exact z
   ·rw [z] at hk; cases hk
  obtain ⟨c,hc⟩:=I.ok.has x (.inl hk);obtain ⟨w',z⟩:=I.cell x c hc;refine wpAny_storeName_cell I.ok.kind hk hc z (fun h' hc' hs=>?_);obtain ⟨oc,hoc,hocd⟩:=id z;refine h { s with heap:=h' } ⟨I.ok,I.os,I.bare,⟨fun b o e n hb hx=>?_,fun b o e n hb hx=>?_,I.base.free,fun b o e hx=>?_,I.base.tups,I.base.frzs,I.base.tbls⟩,⟨m,hn.sameBut hs (Ne.symm (cne x c hc)),fun j y v' e1 e2 e3=>?_⟩,fun y c' e=>?_,I.free,I.freeC,fun p hp=>?_,tracked ⟨oc,hoc,I.freeC x c hc⟩ hs,by simpa using I.len⟩ ⟨c,hs,.inr hc⟩
  ·exact (hs.2 b (ne_of_lt (lt_of_lt_of_le (lt_size e) (I.ok.cab x c hfn hc)))).trans (I.base.keep b o e n hb hx)
  ·obtain ⟨sl,e1⟩:=I.base.slot b o e n hb hx;exact ⟨sl,(hs.2 b (ne_of_lt (lt_of_lt_of_le (lt_size e) (I.ok.cab x c hfn hc)))).trans e1⟩
  ·obtain ⟨o',e1⟩:=I.base.there b o e hx;exact ⟨o',(hs.2 b (ne_of_lt (lt_of_lt_of_le (lt_size e) (I.ok.cab x c hfn hc)))).trans e1⟩
  ·by_cases hj:j = i
   ·subst hj;rw [hi] at e1; cases e1;rw [getElem?_set_self hiσ] at e2;cases e2;exact ⟨u,r,.inr ⟨.inl hk,c,hc,hc'⟩⟩
   ·rw [getElem?_set_ne (Ne.symm hj)] at e2;obtain ⟨u',r',q⟩:=hl j y v' e1 e2 e3;refine ⟨u',r',?_⟩;rcases q with q | ⟨k,c',e,z'⟩
    ·exact .inl q
    ·refine .inr ⟨k,c',e,z'.sameBut hs ?_⟩;rintro rfl;exact hj (rX hN e1 (I.ok.inj _ _ _ e hc ▸ hi))
  ·by_cases hcc:c' = c
   ·subst hcc; exact ⟨_,hc'⟩
   ·obtain ⟨w2,z2⟩:=I.cell y c' e;exact ⟨w2,z2.sameBut hs hcc⟩
  ·obtain ⟨e,n,ne,nf,d⟩:=I.pin p hp;refine ⟨(hs.2 p.1 ?_).trans e,n,ne,nf,d⟩;intro q;rw [q,hoc] at e;have q':oc = p.2:=Option.some.inj e;exact d w' (by rw [<- q']; exact hocd)
theorem rG {M:Model} {A:Around} {E:Value->Shared->Prop} {i:Nat} {x:Str} {v:V} {u:Value} {Q:Unit->Shared->Prop} (I:Inv X pins σ H s) (hN:X.N.Nodup) (hi:X.N[i]? = some x) (hx:Loc X.env.scope x) (r:RelV v u)
  (h:∀ s',Inv X pins (σ.set i (some v)) H s'->Q () s') (hf:X.fn x = true\/X.env.scope.names.lookup x = some .local:=by first | exact .inl rfl | exact .inr rfl | assumption):wpAny M A (storeName X.env x u) Q E s :=
 tW I hN hi hx r (fun s' I' _=>h s' I') hf
theorem Inv.call' {s':Shared} {ch:List Addr} (I:Inv X pins σ H s) (ho:s'.os = s.os) (u:Un (iQ X.stack) ch H H' s.heap s'.heap) (hok:HOk X.prog X.w H' s'.heap) (hg:AllBare s'.gens)
  (hch:∀ b∈ch,(b∈X.ex\/X.s₀.heap.objs.size<=b)/\b ≠ X.env.locals/\(∀ x c,X.env.cells.lookup x = some c->c ≠ b)/\∀ p∈X.pn ++ pins,p.1 ≠ b):Inv X pins σ H' s':=by
 obtain ⟨h',g',d',t',o'⟩:=s';have e:o' = s.os:=ho;subst e;exact I.call (g':=g') (t':=t') (d':=d') u hok hg hch
end
abbrev XK:=Value->Option Addr->Hp->Prop
abbrev St:=List (Option V)
abbrev VK:=V->Hp->Prop
abbrev TE:=St->Hp->VK->Prop
abbrev TT:=St->Hp->(Bool->Hp->Prop)->Prop
abbrev TA:=St->Hp->(List V->Hp->Prop)->Prop
structure Ends where
 nx:St->Hp->Prop
 rt:VK
 bk:St->Hp->Prop:=fun _ _=>False
 ct:St->Hp->Prop:=fun _ _=>False
abbrev TS:=Ends->St->Hp->Prop
def EP (X:Cx) (pins:List (Addr × Obj)) (σ:St) (Q:VK) (u:Value) (s':Shared):Prop:=∃ v H',Inv X pins σ H' s'/\RelV v u/\Q v H'
def TP (X:Cx) (pins:List (Addr × Obj)) (σ:St) (Q:Bool->Hp->Prop) (b:Bool) (s':Shared):Prop:=∃ H',Inv X pins σ H' s'/\Q b H'
def AP (X:Cx) (pins:List (Addr × Obj)) (σ:St) (Q:List V->Hp->Prop) (us:List Value) (s':Shared):Prop:=∃ vs H',Inv X pins σ H' s'/\Vals vs us/\Q vs H'
def SP (X:Cx) (pins:List (Addr × Obj)) (D:Ends) (f:Flow) (s':Shared):Prop :=
 match f with
 | .next=>∃ σ' H',Inv X pins σ' H' s'/\D.nx σ' H'
 | .brk=>∃ σ' H',Inv X pins σ' H' s'/\D.bk σ' H'
 | .cont=>∃ σ' H',Inv X pins σ' H' s'/\D.ct σ' H'
 | .ret u=>∃ v σ' H',Inv X pins σ' H' s'/\RelV v u/\D.rt v H'
def PE (X:Cx) (e:Expr) (t:TE):Prop :=
 ∀ (pins:List (Addr × Obj)) (s:Shared) (σ:St) (H:Hp) (Q:VK),Inv X pins σ H s->t σ H Q->wpAny (model X.prog X.w) X.A (eval e X.env) (EP X pins σ Q) X.xe s
def PT (X:Cx) (e:Expr) (t:TT):Prop :=
 ∀ (pins:List (Addr × Obj)) (s:Shared) (σ:St) (H:Hp) (Q:Bool->Hp->Prop),Inv X pins σ H s->t σ H Q->wpAny (model X.prog X.w) X.A (isTrue e X.env (eval e X.env)) (TP X pins σ Q) X.xe s
def PW (X:Cx) (e:Expr) (t:TT):Prop :=
 ∀ (whole:Sem Value) (pins:List (Addr × Obj)) (s:Shared) (σ:St) (H:Hp) (Q:Bool->Hp->Prop),Inv X pins σ H s->t σ H Q->wpAny (model X.prog X.w) X.A (isTrue e X.env whole) (TP X pins σ Q) X.xe s
theorem PW.pt {X:Cx} {e:Expr} {t:TT} (h:PW X e t):PT X e t:=h _
def PA (X:Cx) (es:List Expr) (t:TA):Prop :=
 ∀ (pos:Pos) (pins:List (Addr × Obj)) (s:Shared) (σ:St) (H:Hp) (Q:List V->Hp->Prop),Inv X pins σ H s->t σ H Q->wpAny (model X.prog X.w) X.A (spliced (backTo pos (starEach es X.env))) (AP X pins σ Q) X.xe s
def PS (X:Cx) (st:Stmt) (t:TS):Prop :=
 ∀ (pins:List (Addr × Obj)) (s:Shared) (σ:St) (H:Hp) (D:Ends),Inv X pins σ H s->t D σ H->wpAny (model X.prog X.w) X.A (exec st X.env) (SP X pins D) X.xe s
def Br (X:Cx) (st:List Stmt) (t:TS):Prop :=
 ∀ (pins:List (Addr × Obj)) (s:Shared) (σ:St) (H:Hp) (D:Ends),Inv X pins σ H s->t D σ H->wpAny (model X.prog X.w) X.A (execs st X.env) (SP X pins D) X.xe s
theorem dO {α:Type} {t:Sem α} {Q Q':α->Shared->Prop} {M:Model} {A:Around} {E:Value->Shared->Prop} {s:Shared} (h:wpAny M A t Q E s) (hQ:∀ a s,Q a s->Q' a s):wpAny M A t Q' E s:=wpAny_mono h hQ fun _ _ x=>x
section
variable {X:Cx}
def iG (i:Nat):TE:=fun σ H Q=>∃ v,σ[i]? = some (some v)/\Q v H
def tC (v:V):TE:=fun _ H Q=>Q v H
theorem aBl {i:Nat} {x:Str} {pos:Pos} (hN:X.N[i]? = some x) (hv:Vis X.env.scope x) (hd:(x == ("__debug__":Str)) = false:=by decide) (hcd:(x == ("__classdict__":Str)) = false:=by decide):PE X (.Name x pos) (iG i):=by
 intro pins s σ H Q I h;obtain ⟨v,e,h⟩:=h;obtain ⟨m,hn,hl⟩:=I.loc;obtain ⟨u,r,l⟩:=hl i x v hN e hv;have fin:EP X pins σ Q u s:=⟨v,H,I,r,h⟩;rcases l with ⟨hk,hm⟩ | ⟨hk,c,hc,hcell⟩
 ·exact wpAny_Name (wpAny_loadName_local I.ok.kind hk hn hm fin) hd
 ·rcases hk with hk | hk
  ·exact wpAny_Name (wpAny_loadName_cell I.ok.kind hk hc hcell fin) hd
  ·exact wpAny_Name (wpAny_loadName_free I.ok.kind hk hc hcell fin hcd) hd
theorem aS {i j pos}:PE X (.Constant (.int i) j pos) (tC (.int i)):=fun _ _ _ H _ I h=>wpAny_Constant_int ⟨.int i,H,I.tok _,⟨_,rfl⟩,h⟩
theorem kM {b j pos}:PE X (.Constant (.bool b) j pos) (tC (.bl b)):=fun _ _ _ H _ I h=>Constant_bool ⟨.bl b,H,I,rfl,h⟩
theorem aBn {j pos}:PE X (.Constant .none j pos) (tC .non):=fun _ _ _ H _ I h=>Constant_none ⟨.non,H,I,rfl,h⟩
theorem aF {x j pos}:PE X (.Constant (.str x) j pos) (tC (.str x)):=fun _ _ _ H _ I h=>Calls.Constant_str ⟨.str x,H,I.tok _,⟨_,rfl⟩,h⟩
def Gl (X:Cx) (x:Str):Prop:=X.env.kindOf x = some .globalImplicit
theorem oF {E:Value->Shared->Prop} {pins:List (Addr × Obj)} {s:Shared} {σ:St} {H:Hp} {x:Str} {u:Value} {pos:Pos} {Q:Value->Shared->Prop} (I:Inv X pins σ H s) (hg:Gl X x) (hm:X.mg x = some u) (h:Q u s)
  (hd:(x == ("__debug__":Str)) = false:=by decide):wpAny (model X.prog X.w) X.A (eval (.Name x pos) X.env) Q E s :=
 Calls.Name_function_global I.ok.kind hg (Calls.loadGlobal_global (by rw [I.ok.glob]; exact I.mod.glob.keeps I.bk) hm h) hd
theorem lR {E:Value->Shared->Prop} {pins:List (Addr × Obj)} {s:Shared} {σ:St} {H:Hp} {x:Str} {u:Value} {pos:Pos} {Q:Value->Shared->Prop} (I:Inv X pins σ H s) (hg:Gl X x) (hm:X.mg x = none) (hv:bootBuiltins x = some u) (h:Q u s)
  (hn:x ≠ "__name__":=by decide) (hd:(x == ("__debug__":Str)) = false:=by decide):wpAny (model X.prog X.w) X.A (eval (.Name x pos) X.env) Q E s:=by
 obtain ⟨mb,h1,h2⟩:=I.mod.blt;exact Calls.Name_function_global I.ok.kind hg (Calls.loadGlobal_builtin (by rw [I.ok.glob]; exact I.mod.glob.keeps I.bk) hm (by rw [I.ok.blt]; exact h1.keeps I.bk) ((h2 x hn).trans hv) h) hd
theorem dL {x:Str} {v:V} {u:Value} {pos:Pos} (hg:Gl X x) (hm:X.mg x = some u) (r:RelV v u) (hd:(x == ("__debug__":Str)) = false:=by decide):PE X (.Name x pos) (tC v) :=
 fun _ _ _ H _ I h=>oF I hg hm ⟨v,H,I,r,h⟩ hd
theorem kF {x:Str} {v:V} {u:Value} {pos:Pos} (hg:Gl X x) (hm:X.mg x = none) (hv:bootBuiltins x = some u) (r:RelV v u) (hn:x ≠ "__name__":=by decide) (hd:(x == ("__debug__":Str)) = false:=by decide):PE X (.Name x pos) (tC v) :=
 fun _ _ _ H _ I h=>lR I hg hm hv ⟨v,H,I,r,h⟩ hn hd
variable {a b:Expr} {ta tb:TE} {pos:Pos}
def PC (X:Cx) (op:CmpOp) (a b:Expr) (t:TE):Prop :=
 ∀ (pins:List (Addr × Obj)) (s:Shared) (σ:St) (H:Hp) (Q:VK),Inv X pins σ H s->t σ H Q ->
  wpAny (model X.prog X.w) X.A (eval a X.env) (fun v s₁=>wpAny (model X.prog X.w) X.A (eval b X.env) (fun u s₂=>wpAny (model X.prog X.w) X.A (compareOp op v u) (EP X pins σ Q) X.xe s₂) X.xe s₁) X.xe s
def tB (t:TE):TT:=fun σ H Q=>t σ H fun x H1=>∃ c,x = .bl c/\Q c H1
theorem aBh {op:CmpOp} {t:TE} (h:PC X op a b t) (h1:behindInMarks op b = false:=by first | exact nobehind _ (by decide) (by decide) | rfl):PT X (.Compare a [op] [b] pos) (tB t):=by
 intro pins s σ H Q I hw;refine wpAny_isTrue_Compare1 (dO (h pins s σ H _ I hw) fun v s1 h1=>dO h1 fun u s2 h2=>dO h2 fun c s3 ⟨x,H1,I1,r1,q1⟩=>?_) h1;obtain ⟨d,rfl,q⟩:=q1;cases r1;exact wpAny_truthy_bool ⟨H1,I1,q⟩
theorem gU {e:Expr} {t:TE} (h:PE X e t) (he:∀ whole,isTrue e X.env whole = (do let v <- whole; standAt e.pos; holding [v] (truthy v)):=by intro _; rfl):PT X e (tB t):=by
 intro pins s σ H Q I hw;refine isTrue_plain (dO (h pins s σ H _ I hw) fun v s1 ⟨x,H1,I1,r1,q1⟩=>?_) (he _);obtain ⟨d,rfl,q⟩:=q1;cases r1;exact wpAny_truthy_bool ⟨H1,I1,q⟩
variable {tA tB':TT} {rest:List Expr}
def aGt (t u:TT):TT:=fun σ H Q=>t σ H fun c H1=>if c = true then u σ H1 Q else Q false H1
def tOr (t u:TT):TT:=fun σ H Q=>t σ H fun c H1=>if c = true then Q true H1 else u σ H1 Q
def Yz (t:TT):TT:=fun σ H Q=>t σ H fun c H1=>Q (!c) H1
theorem vT (ha:PT X a tA):PW X (.BoolOp .And [a] pos) tA:=by
 intro wh pins s σ H Q I h;refine isTrue_and (dO (ha pins s σ H Q I h) fun c s1 e=>?_);cases c with
 | true=>exact isTrue_and_nil e
 | false=>exact e
theorem iH (ha:PT X a tA):PW X (.BoolOp .Or [a] pos) tA:=by
 intro wh pins s σ H Q I h;refine isTrue_or (dO (ha pins s σ H Q I h) fun c s1 e=>?_);cases c with
 | false=>exact isTrue_or_nil e
 | true=>exact e
theorem Ak (ha:PT X a tA) (hb:PW X (.BoolOp .And (b :: rest) pos) tB'):PW X (.BoolOp .And (a :: b :: rest) pos) (aGt tA tB'):=by
 intro wh pins s σ H Q I h;refine isTrue_and (dO (ha pins s σ H _ I h) fun c s1 ⟨H1,I1,q1⟩=>?_);cases c with
 | true=>exact hb wh pins s1 σ H1 Q I1 q1
 | false=>exact ⟨H1,I1,q1⟩
theorem kL (ha:PT X a tA) (hb:PW X (.BoolOp .Or (b :: rest) pos) tB'):PW X (.BoolOp .Or (a :: b :: rest) pos) (tOr tA tB'):=by
 intro wh pins s σ H Q I h;refine isTrue_or (dO (ha pins s σ H _ I h) fun c s1 ⟨H1,I1,q1⟩=>?_);cases c with
 | true=>exact ⟨H1,I1,q1⟩
 | false=>exact hb wh pins s1 σ H1 Q I1 q1
theorem kD (ha:PT X a tA):PT X (.UnaryOp .Not a pos) (Yz tA):=by
 intro pins s σ H Q I h;exact isTrue_not (ha pins s σ H (fun c H1=>Q (!c) H1) I h)
def Wc (ta tb:TE):TE:=fun σ H Q=>ta σ H fun x H1=>∃ c,x = .bl c/\if c = true then tb σ H1 Q else Q (.bl false) H1
def Vz (ta:TE):TE:=fun σ H Q=>ta σ H fun x H1=>∃ c,x = .bl c/\Q (.bl (!c)) H1
theorem Nf {op} {t:TE} (h:PE X a t):PE X (.BoolOp op [a] pos) t:=fun pins s σ H Q I hw=>BoolOp_one (h pins s σ H Q I hw)
theorem Am (ha:PE X a ta) (hb:PE X (.BoolOp .And (b :: rest) pos) tb):PE X (.BoolOp .And (a :: b :: rest) pos) (Wc ta tb):=by
 intro pins s σ H Q I h;refine BoolOp_and (dO (ha pins s σ H _ I h) fun v s1 ⟨x,H1,I1,r1,q1⟩=>?_);obtain ⟨c,rfl,q1⟩:=q1;cases r1;refine wpAny_truthy_bool ?_;cases c with
 | true=>exact hb pins s1 σ H1 Q I1 q1
 | false=>exact ⟨.bl false,H1,I1,rfl,q1⟩
theorem aBm (ha:PE X a ta):PE X (.UnaryOp .Not a pos) (Vz ta):=by
 intro pins s σ H Q I h;refine UnaryOp_ (dO (ha pins s σ H _ I h) fun v s1 ⟨x,H1,I1,r1,q1⟩=>?_);obtain ⟨c,rfl,q1⟩:=q1;cases r1;exact not_of (wpAny_truthy_bool ⟨.bl (!c),H1,I1,rfl,q1⟩)
def tIf (t:TT) (ta tb:TE):TE:=fun σ H Q=>t σ H fun c H1=>if c = true then ta σ H1 Q else tb σ H1 Q
theorem Ni {c:Expr} (hc:PT X c tA) (ha:PE X a ta) (hb:PE X b tb):PE X (.IfExp c a b pos) (tIf tA ta tb):=by
 intro pins s σ H Q I h;refine wpAny_IfExp (dO (hc pins s σ H _ I h) fun d s1 ⟨H1,I1,q1⟩=>?_);cases d with
 | true=>exact ha pins s1 σ H1 Q I1 q1
 | false=>exact hb pins s1 σ H1 Q I1 q1
end
def SqL (K:W.Frag) (H:Hp) (a:Addr) (xs:List V):Prop :=
 Rd H a (.lst xs) \/
  ∃ (o:Obj) (its:Array Value) (n:Nat),K.lookup a = some o/\o.cls = .type "list"/\o.dict = none/\o.data = .seq its n/\its.size<=sizeLine/\Vals xs its.toList
def SqT (K:W.Frag) (H:Hp) (a:Addr) (xs:List V):Prop :=
 Rd H a (.tup xs) \/
  ∃ (o:Obj) (its:Array Value) (n:Nat),K.lookup a = some o/\o.cls = .type "tuple"/\o.data = .seq its n/\its.size<=sizeLine/\Vals xs its.toList
def aNa:Value->Option V
 | .none=>some .non
 | .bool b=>some (.bl b)
 | .int i _=>some (.int i)
 | .str x _=>some (.str x)
 | .bytes b _=>some (.byt b)
 | .float b _=>some (.flt b)
 | .ref a=>some (.ref a)
 | .type n=>some (.ty n)
 | _=>none
theorem RelV.abs {x:V} {u:Value} (r:RelV x u):aNa u = some x:=by
 cases x with
 | non=>cases r; rfl
 | bl _=>cases r; rfl
 | int _=>obtain ⟨t,rfl⟩:=r; rfl
 | str _=>obtain ⟨t,rfl⟩:=r; rfl
 | byt _=>obtain ⟨t,rfl⟩:=r; rfl
 | flt _=>obtain ⟨t,rfl⟩:=r; rfl
 | ref _=>cases r; rfl
 | ty _=>cases r; rfl
theorem RelV.inj {x y:V} {u:Value} (r:RelV x u) (q:RelV y u):x = y:=Option.some.inj (r.abs.symm.trans q.abs)
theorem Vals.inj:∀ {xs ys:List V} {us:List Value},Vals xs us->Vals ys us->xs = ys
 | _,_,_,.nil,.nil=>rfl
 | _,_,_,.cons r t,.cons r' t'=>by rw [r.inj r',Vals.inj t t']
section
variable {X:Cx} {pins:List (Addr × Obj)} {σ:St} {H:Hp} {s:Shared} {a:Addr} {xs ys:List V}
theorem SqL.of {K:W.Frag} (h:H a = some (.lst xs)):SqL K H a xs:=.inl (.inl h)
theorem SqT.of {K:W.Frag} (h:H a = some (.tup xs)):SqT K H a xs:=.inl (.inl h)
theorem Inv.list (I:Inv X pins σ H s) (h:SqL X.K H a xs):∃ its:List Value,Vals xs its/\PlainL s.heap a its.toArray/\xs.length<=sizeLine:=by
 rcases h with h | ⟨o,its,n,hk,hc,hd,hs,hz,r⟩
 ·obtain ⟨z,its,n,r,e⟩:=h.ok I.hok;exact ⟨its,r,⟨_,n,e,rfl,rfl,rfl⟩,z⟩
 ·refine ⟨its.toList,r,⟨o,n,I.kIn a o hk,hc,hd,by simpa using hs⟩,?_⟩;have e:=r.length;simp only [length_toList] at e;omega
theorem Inv.tuple (I:Inv X pins σ H s) (h:SqT X.K H a xs):∃ its:List Value,Vals xs its/\IsTup s.heap a its.toArray/\xs.length<=sizeLine:=by
 rcases h with h | ⟨o,its,n,hk,hc,hs,hz,r⟩
 ·obtain ⟨z,its,r,p⟩:=h.ok I.hok;exact ⟨its,r,p,z⟩
 ·refine ⟨its.toList,r,⟨o,I.kIn a o hk,hc,n,by simpa using hs⟩,?_⟩;have e:=r.length;simp only [length_toList] at e;omega
theorem Inv.list_inj (I:Inv X pins σ H s) (h:SqL X.K H a xs) (h':SqL X.K H a ys):xs = ys:=by
 obtain ⟨its,r,⟨o,n,e,_,_,d⟩,_⟩:=I.list h;obtain ⟨its',r',⟨o',n',e',_,_,d'⟩,_⟩:=I.list h';rw [e] at e'; cases e';rw [d] at d';injection d' with d1 _
 have:its = its':=by simpa using congrArg Array.toList d1
 subst this;exact r.inj r'
end
abbrev Cx.wish (X:Cx) (E:Value->Shared->Prop):Cx:={ X with xe:=E }
abbrev Cx.nox (X:Cx):Cx:=X.wish fun _ _=>False
theorem Cx.Ok.wish {X:Cx} (ok:X.Ok) (E:Value->Shared->Prop):(X.wish E).Ok :=
 ⟨ok.mod,ok.kind,ok.glob,ok.blt,ok.above,ok.inj,ok.has,ok.cab,ok.hd,ok.frames,ok.stk,ok.exf,ok.bs,ok.bsz,ok.noex,ok.exfs,ok.funs,ok.frf⟩
theorem Cx.Ok.unwish {X:Cx} {E:Value->Shared->Prop} (ok:(X.wish E).Ok):X.Ok :=
 ⟨ok.mod,ok.kind,ok.glob,ok.blt,ok.above,ok.inj,ok.has,ok.cab,ok.hd,ok.frames,ok.stk,ok.exf,ok.bs,ok.bsz,ok.noex,ok.exfs,ok.funs,ok.frf⟩
section
variable {X:Cx} {pins:List (Addr × Obj)} {σ:St} {H:Hp} {s:Shared} {E:Value->Shared->Prop}
theorem Inv.wish (I:Inv X pins σ H s) (E:Value->Shared->Prop):Inv (X.wish E) pins σ H s:=⟨I.ok.wish E,I.os,I.bare,I.base,I.loc,I.cell,I.free,I.freeC,I.pin,I.hok,I.len⟩
theorem Inv.unwish (I:Inv (X.wish E) pins σ H s):Inv X pins σ H s:=⟨I.ok.unwish,I.os,I.bare,I.base,I.loc,I.cell,I.free,I.freeC,I.pin,I.hok,I.len⟩
end
section
variable {X:Cx} {st:Stmt} {rest:List Stmt} {t u:TS} {e:Expr} {te:TE} {pos:Pos}
def Ca:TS:=fun D σ H=>D.nx σ H
def rD (t u:TS):TS:=fun D σ H=>t { D with nx:=u D } σ H
theorem bA:Br X [] Ca:=fun _ _ σ H _ I h=>wpAny_execs_nil ⟨σ,H,I,h⟩
theorem aJ (h1:PS X st t) (h2:Br X rest u):Br X (st :: rest) (rD t u):=by
 intro pins s σ H D I h;refine wpAny_execs_cons (dO (h1 pins s σ H { D with nx:=u D } I h) fun f s1 q=>?_);cases f with
 | next =>
  obtain ⟨σ',H',I',q⟩:=q;exact h2 pins s1 σ' H' D I' q
 | ret v=>exact q
 | brk=>exact q
 | cont=>exact q
theorem aM (h1:PS X st t):Br X [st] t:=by
 intro pins s σ H D I h;refine wpAny_execs_cons (dO (h1 pins s σ H D I h) fun f s1 q=>?_);cases f with
 | next=>exact wpAny_execs_nil q
 | ret v=>exact q
 | brk=>exact q
 | cont=>exact q
theorem Inv.quiet {pins:List (Addr × Obj)} {σ:St} {H:Hp} {s:Shared} (I:Inv X pins σ H s):interactive X.env = false:=by simp [interactive,I.ok.kind]
def xS (te:TE):TS:=fun D σ H=>te σ H fun _ H1=>D.nx σ H1
theorem fE (he:PE X e te) (hs:swapsWith e none pos.line X.env = pure false:=by rfl):PS X (.Expr e pos) (xS te):=by
 intro pins s σ H D I h;exact wpAny_Expr_any (dO (he pins s σ H _ I h) fun v s1 ⟨x,H1,I1,r1,q1⟩=>⟨σ,H1,I1,q1⟩) I.quiet hs
def Fq (te:TE):TS:=fun D σ H=>te σ H D.rt
theorem aY (he:PE X e te):PS X (.Return (some e) pos) (Fq te):=by
 intro pins s σ H D I h;exact wpAny_Return_some (dO (he pins s σ H _ I h) fun v s1 ⟨x,H1,I1,r1,q1⟩=>⟨x,σ,H1,I1,r1,q1⟩)
def Sg (c:TT) (t u:TS):TS:=fun D σ H=>c σ H fun b H1=>if b = true then t D σ H1 else u D σ H1
theorem bV {c:Expr} {a b:List Stmt} {tc:TT} (hc:PT X c tc) (ha:Br X a t) (hb:Br X b u):PS X (.If c a b pos) (Sg tc t u):=by
 intro pins s σ H D I h;refine wpAny_If (dO (hc pins s σ H _ I h) fun d s1 ⟨H1,I1,q1⟩=>?_);cases d with
 | true=>exact ha pins s1 σ H1 D I1 q1
 | false=>exact hb pins s1 σ H1 D I1 q1
end
abbrev TG:=V->St->Hp->(St->Hp->Prop)->Prop
abbrev Hq:=List V->St->Hp->(St->Hp->Prop)->Prop
def PG (X:Cx) (target:Expr) (t:TG):Prop :=
 ∀ (pins:List (Addr × Obj)) (s:Shared) (σ:St) (H:Hp) (v:V) (u:Value) (Q:St->Hp->Prop),Inv X pins σ H s->RelV v u->t v σ H Q ->
  wpAny (model X.prog X.w) X.A (assign target X.env u) (fun _ s'=>∃ σ' H',Inv X pins σ' H' s'/\Q σ' H') X.xe s
def PGs (X:Cx) (ts:List Expr) (t:Hq):Prop :=
 ∀ (pins:List (Addr × Obj)) (s:Shared) (σ:St) (H:Hp) (vs:List V) (us:List Value) (Q:St->Hp->Prop),Inv X pins σ H s->Vals vs us->t vs σ H Q ->
  wpAny (model X.prog X.w) X.A (assignInOrder ((assignEach ts X.env).map (·.2)) us) (fun _ s'=>∃ σ' H',Inv X pins σ' H' s'/\Q σ' H') X.xe s
abbrev aFe:=V->V->V->Hp->(Hp->Prop)->Prop
def aKr (X:Cx) (t:aFe):Prop :=
 ∀ (pins:List (Addr × Obj)) (s:Shared) (σ:St) (H:Hp) (o i v:V) (ov iv u:Value) (Q:Hp->Prop),Inv X pins σ H s->RelV o ov->RelV i iv->RelV v u->t o i v H Q ->
  wpAny (model X.prog X.w) X.A (setItem ov iv u) (fun _ s'=>∃ H',Inv X pins σ H' s'/\Q H') X.xe s
section
variable {X:Cx} {pos:Pos}
def mJ (i:Nat):TG:=fun v σ H Q=>Q (σ.set i (some v)) H
theorem Cw {i:Nat} {x:Str} (hN:X.N.Nodup) (hi:X.N[i]? = some x) (hx:Loc X.env.scope x) (hf:X.fn x = true\/X.env.scope.names.lookup x = some .local:=by first | exact .inl rfl | exact .inr rfl | assumption):PG X (.Name x pos) (mJ i):=by
 intro pins s σ H v u Q I r h;exact wpAny_assign_Name (rG I hN hi hx r (fun s' I'=>⟨_,H,I',h⟩) hf)
def aJb:Hq:=fun vs σ H Q=>vs = []/\Q σ H
def Xa (t:TG) (u:Hq):Hq:=fun vs σ H Q=>∃ v r,vs = v :: r/\t v σ H fun σ' H'=>u r σ' H' Q
theorem eZ:PGs X [] aJb:=by
 intro pins s σ H vs us Q I r h;obtain ⟨e,h⟩:=h;subst e;cases r;exact assignInOrder_nil ⟨σ,H,I,h⟩
theorem bX {e:Expr} {es:List Expr} {t:TG} {u:Hq} (h1:PG X e t) (h2:PGs X es u)
  (hs:(assignEach (e :: es) X.env).map (·.2) = assign e X.env :: (assignEach es X.env).map (·.2):=by rfl):PGs X (e :: es) (Xa t u):=by
 intro pins s σ H vs us Q I r h;obtain ⟨v,vr,e1,h⟩:=h;subst e1;cases r with
 | cons r rr =>
  rw [hs];refine assignInOrder_cons (dO (h1 pins s σ H _ _ _ I r h) fun _ s1 ⟨σ1,H1,I1,q1⟩=>?_);exact h2 pins s1 σ1 H1 _ _ Q I1 rr q1
def aDx (K:W.Frag) (n:Nat) (t:Hq):TG:=fun v σ H Q=>∃ a xs,v = .ref a/\SqT K H a xs/\xs.length = n/\t xs σ H Q
theorem aBk {es:List Expr} {k:Nat} {t:Hq} {n:Nat} (hc:X.calm = true) (h:PGs X es t)
  (hn:(assignEach es X.env).length = n:=by rfl) (hst:(assignEach es X.env).findIdx? (·.1) = none:=by rfl):PG X (.Tuple es k pos) (aDx X.K n t):=by
 intro pins s σ H v u Q I r hw;obtain ⟨a,xs,e1,hq,hl,hw⟩:=hw;subst e1;cases r;obtain ⟨its,rv,ht,hz⟩:=I.tuple hq;refine assign_Tuple_tuple (I.ok.hd hc) ht (by simp [hn,<- hl,rv.length]) hst fun h' hx=>?_;have I1:Inv X pins σ H { s with heap:=h' }:=I.kept (t':=s.toks) fun b o e=>hx b o (ne_of_lt (lt_size e)) e;exact h pins _ σ H xs _ Q I1 (by simpa using rv) hw
def aJa (to ti:TE) (t:aFe):TG:=fun v σ H Q=>to σ H fun o H1=>ti σ H1 fun i H2=>t o i v H2 fun H3=>Q σ H3
theorem Nd {o i:Expr} {to ti:TE} {t:aFe} (ho:PE X o to) (hi:PE X i ti) (hs:aKr X t)
  (ha:∀ v,assign (.Subscript o i pos) X.env v = (do
   let ov <- holding [v] (eval o X.env)
   let iv <- holding [v,ov] (eval i X.env)
   standAt pos
   holding [v,ov,iv] (setItem ov iv v)
   release [v,ov,iv] []):=by intro _; rfl):PG X (.Subscript o i pos) (aJa to ti t):=by
 intro pins s σ H v u Q I r h;rw [ha];refine wpAny_bind (wpAny_holding (dO (ho pins s σ H _ I h) fun ov s1 ⟨x,H1,I1,r1,q1⟩=>?_));refine wpAny_bind (wpAny_holding (dO (hi pins s1 σ H1 _ I1 q1) fun iv s2 ⟨y,H2,I2,r2,q2⟩=>?_));refine wpAny_bind (wpAny_standAt (wpAny_bind (wpAny_holding (dO (hs pins s2 σ H2 x y v ov iv u _ I2 r1 r2 r q2) fun _ s3 ⟨H3,I3,q3⟩=>?_))));exact wpAny_release ⟨σ,H3,I3,q3⟩
def pF (te:TE) (g:TG):TS:=fun D σ H=>te σ H fun x H1=>g x σ H1 D.nx
theorem lJ {tg e:Expr} {te:TE} {g:TG} (he:PE X e te) (hg:PG X tg g) (hs:swapsWithSole [tg] e pos.line X.env = pure false:=by rfl) (hw:swappedStores [tg] e X.env = pure none:=by rfl)
  (h1:(assignEach [tg] X.env).map (·.2) = [assign tg X.env]:=by rfl):PS X (.Assign [tg] e pos) (pF te g):=by
 intro pins s σ H D I h;refine wpAny_Assign_stores (dO (he pins s σ H _ I h) fun v s1 ⟨x,H1,I1,r1,q1⟩=>?_) hs hw;rw [h1];exact dO (hg pins s1 σ H1 x v _ I1 r1 q1) fun _ s2 q=>q
theorem dG {i:Nat} {x:Str} {e:Expr} {te:TE} {pos':Pos} (hN:X.N.Nodup) (hi:X.N[i]? = some x) (hx:Loc X.env.scope x) (he:PE X e te) (hs:swapsWith e (some (.Name x pos')) pos.line X.env = pure false:=by rfl) (hf:X.fn x = true\/X.env.scope.names.lookup x = some .local:=by first | exact .inl rfl | exact .inr rfl | assumption) :
  PS X (.Assign [.Name x pos'] e pos) (pF te (mJ i)):=by
 intro pins s σ H D I h;refine wpAny_Assign_Name (dO (he pins s σ H _ I h) fun v s1 ⟨y,H1,I1,r1,q1⟩=>?_) hs;exact rG I1 hN hi hx r1 (fun s2 I2=>⟨_,H1,I2,q1⟩) hf
end
section
variable {X:Cx} {pos:Pos}
def Ja (c:TT) (tb:TS):TS:=fun D σ H=>∃ W:Nat->St->Hp->Prop,(∃ m,W m σ H)/\∀ m σ H,W m σ H ->
 c σ H fun b H1=>if b = true then ∃ N:St->Hp->Prop,(∀ σ' H',N σ' H'->∃ m',m' < m/\W m' σ' H')/\tb { D with nx:=N,ct:=N,bk:=D.nx } σ H1 else D.nx σ H1
theorem yK {c:Expr} {body:List Stmt} {tc:TT} {tb:TS} (hp:PassesOwn (model X.prog X.w) X.A X.env X.xe) (hc:PT X c tc) (hb:Br X body tb):PS X (.While c body [] pos) (Ja tc tb):=by
 intro pins s σ H D I h;obtain ⟨W,⟨m0,w0⟩,turn⟩:=h;refine wpAny_While (codeAny_whileLoop (fun n s'=>∃ σ' H',Inv X pins σ' H' s'/\W n σ' H') ?_ m0 ⟨σ,H,I,w0⟩);rintro n s1 ⟨σ1,H1,I1,w1⟩;refine wpAny_passesOwn hp (dO (hc pins s1 σ1 H1 _ I1 (turn n σ1 H1 w1)) fun b s2 ⟨H2,I2,q2⟩=>?_);cases b with
 | true =>
  obtain ⟨N,hN,q2⟩:=q2;rw [if_pos rfl];refine wpAny_passesOwn hp (dO (hb pins s2 σ1 H2 _ I2 q2) fun f s3 q3=>?_);cases f with
  | next =>
   obtain ⟨σ3,H3,I3,n3⟩:=q3;obtain ⟨m',hm,w3⟩:=hN σ3 H3 n3;exact ⟨m',hm,σ3,H3,I3,w3⟩
  | cont =>
   obtain ⟨σ3,H3,I3,n3⟩:=q3;obtain ⟨m',hm,w3⟩:=hN σ3 H3 n3;exact ⟨m',hm,σ3,H3,I3,w3⟩
  | brk=>exact q3
  | ret v=>exact q3
 | false =>
  rw [if_neg Bool.false_ne_true];exact wpAny_execs_nil ⟨σ1,H2,I2,q2⟩
end
structure It where
 go:Nat->Hp->Prop
 yld:Nat->Hp->V->Hp->Prop
 stop:Nat->Hp->Prop
def kX (X:Cx) (pins:List (Addr × Obj)) (H:Hp) (b:Addr):Prop :=
 H b = none/\b ≠ X.env.locals/\b ∉ X.fs/\(b∈X.ex\/X.s₀.heap.objs.size<=b)/\(∀ x c,X.env.cells.lookup x = some c->c ≠ b)/\∀ p∈X.pn ++ pins,p.1 ≠ b
theorem Inv.fpOk {X:Cx} {pins:List (Addr × Obj)} {σ:St} {H H':Hp} {s:Shared} {b:Addr} (I:Inv X pins σ H s) (hb:s.heap.objs.size<=b) (hn:H' b = none):kX X pins H' b:=by
 refine ⟨hn,ne_of_gt (lt_of_lt_of_le I.lt hb),I.nofs hb,.inr (le_trans I.sz hb),fun x c e z=>?_,fun p hp z=>?_⟩
 ·obtain ⟨v,q⟩:=I.cell x c e;exact absurd (lt_of_lt_of_le q.lt (by rw [z]; exact hb)) (lt_irrefl _)
 ·exact absurd (lt_of_lt_of_le (lt_size (I.pin p hp).1) (by rw [z]; exact hb)) (lt_irrefl _)
structure Turn (P:Program) (w:World) (K:W.Frag) (tg:Expr) (J:It) (fp:List Addr) (it:Addr) (tn:Nat->Heap->Prop):Prop where
 mem:it∈fp
 obj:∀ i h,tn i h->∀ b∈fp,∃ o,h.get? b = some o/\∀ v,o.data ≠ .cell v
 keep:∀ i h h',tn i h->(∀ b∈fp,∀ o,h.get? b = some o->h'.get? b = some o)->tn i h'
 item:∀ (X:Cx),X.prog = P->X.w = w->X.K = K->X.calm = true->∀ (i:Nat) (pins:List (Addr × Obj)) (s:Shared) (σ:St) (H:Hp) (E:Value->Shared->Prop),Inv X pins σ H s->(∀ b∈fp,kX X pins H b)->tn i s.heap->J.go i H ->
  wpAny (model P w) X.A (pyNext (.ref it)) (fun r s1=>∃ u,r = some u /\
   wpAny (model P w) X.A (letOwnedTupleGo tg (.ref it) u) (fun _ s2=>∃ x H',Inv X pins σ H' s2/\RelV x u/\J.yld i H x H'/\tn (i + 1) s2.heap/\∀ b∈fp,H' b = none) E s1) E s
 done:∀ (X:Cx),X.prog = P->X.w = w->X.K = K->X.calm = true->∀ (i:Nat) (pins:List (Addr × Obj)) (s:Shared) (σ:St) (H:Hp) (E:Value->Shared->Prop),Inv X pins σ H s->(∀ b∈fp,kX X pins H b)->tn i s.heap->J.stop i H ->
  wpAny (model P w) X.A (pyNext (.ref it)) (fun r s1=>r = none/\Inv X pins σ H s1) E s
 self:∀ (A:Around) (i:Nat) (s:Shared) (Q:Value->Shared->Prop) (E:Value->Shared->Prop),tn i s.heap->Q (.ref it) s->wpAny (model P w) A (pyIter (.ref it)) Q E s
abbrev TI:=St->Hp->(It->Hp->Prop)->Prop
def PIE (X:Cx) (pins:List (Addr × Obj)) (σ:St) (tg:Expr) (R:It->Hp->Prop) (itv:Value) (s2:Shared):Prop :=
 ∃ (it:Addr) (fp:List Addr) (tn:Nat->Heap->Prop) (J:It) (H':Hp),itv = .ref it/\Inv X pins σ H' s2/\Turn X.prog X.w X.K tg J fp it tn/\tn 0 s2.heap/\(∀ b∈fp,kX X pins H' b)/\R J H'
def PI (X:Cx) (tg iter:Expr) (wi:TI):Prop :=
 ∀ (pins:List (Addr × Obj)) (s:Shared) (σ:St) (H:Hp) (R:It->Hp->Prop),Inv X pins σ H s->wi σ H R ->
  wpAny (model X.prog X.w) X.A (eval iter X.env) (fun v s1=>wpAny (model X.prog X.w) X.A (pyIter v) (PIE X pins σ tg R) X.xe s1) X.xe s
theorem Dy {M:Model} {A:Around} {E:Value->Shared->Prop} {s:Shared} {tg:Expr} {it:Addr} {u:Value} {o:Obj} {n:String} {vs:Array Value} {Q:Unit->Shared->Prop} (ho:s.heap.get? it = some o) (hc:o.cls = .type n) (hd:o.data = .fields vs)
  (hn:["enumerate","zip","dict_itemiterator","dict_reverseitemiterator","odict_iterator","itertools.zip_longest","itertools.pairwise"].contains n = false) (hQ:Q () s):wpAny M A (letOwnedTupleGo tg (.ref it) u) Q E s:=by
 unfold letOwnedTupleGo;cases tg <;> first
  | exact wpAny_pure hQ
  | (cases u <;> first
    | exact wpAny_pure hQ
    | (refine wpAny_bind (wpAny_load ho ?_)
       rw [hc,hd]
       show wpAny M A (if (["enumerate","zip","dict_itemiterator","dict_reverseitemiterator","odict_iterator","itertools.zip_longest","itertools.pairwise"].contains n && vs[0]? == some (rawInt _)) = true then _ else _) Q E s
       rw [if_neg (by intro h; rw [hn,Bool.false_and] at h; cases h)]
       exact wpAny_pure hQ))
def Itl (K:W.Frag) (a:Addr):It :=
 ⟨fun i H=>∃ xs x,SqL K H a xs/\xs[i]? = some x,fun i H x H'=>H' = H/\∀ xs,SqL K H a xs->xs[i]? = some x,fun i H=>∃ xs,SqL K H a xs/\xs.length<=i⟩
def Xy (lo:Int) (n:Nat):It:=⟨fun i _=>i < n,fun i H x H'=>H' = H/\x = .int (lo + i),fun i _=>n<=i⟩
theorem Fl {P:Program} {w:World} {K:W.Frag} {tg:Expr} (a it:Addr):Turn P w K tg (Itl K a) [it] it (fun i h=>h.IsListIter it a i) where
 mem:=by simp
 obj:=fun i h st b hb=>by
  have e:b = it:=by simpa using hb
  subst e;obtain ⟨o,e,c,d⟩:=st;exact ⟨o,e,fun v z=>by rw [d] at z; cases z⟩
 keep:=fun i h h' st k=>st.at fun o e=>k it (by simp) o e
 item:=by
  intro X hP hw hK hc i pins s σ H E I hf st hg;subst hP hw hK;obtain ⟨xs,x,hq,hx⟩:=hg;obtain ⟨its,rv,p,hz⟩:=I.list hq;obtain ⟨u,hu,ru⟩:=rv.get hx;obtain ⟨f0,f1,f2,f3,f4,f5⟩:=hf it (by simp);refine wpAny_pyNext_list_item st p.isList (x:=u) (by simpa using hu) fun h' st' sb=>?_;have I1:Inv X pins σ H { s with heap:=h' }:=I.turned (t':=s.toks) (fun b o hb e=>(sb.2 b hb).trans e) f0 f1 f3 f4 f5;obtain ⟨o,e,c,d⟩:=id st';exact ⟨u,rfl,Dy (s:={ s with heap:=h' }) e c d (by decide) ⟨x,H,I1,ru,⟨rfl,fun ys hy=>by rw [I.list_inj hy hq]; exact hx⟩,st',fun b hb=>(hf b hb).1⟩⟩
 done:=by
  intro X hP hw hK hc i pins s σ H E I hf st hg;subst hP hw hK;obtain ⟨xs,hq,hx⟩:=hg;obtain ⟨its,rv,p,hz⟩:=I.list hq;obtain ⟨f0,f1,f2,f3,f4,f5⟩:=hf it (by simp);have hl:=rv.length;exact wpAny_pyNext_list_end (I.ok.hd hc) st p.isList (by simp; omega) fun h' eb=>⟨rfl,I.turned (t':=s.toks) (fun b o hb e=>eb b o hb e) f0 f1 f3 f4 f5⟩
 self:=fun _ _ _ _ _ st h=>wpAny_pyIter_listiter st h
theorem zY {P:Program} {w:World} {K:PySem.W.Frag} {tg:Expr} (it:Addr) (lo:Int) (n:Nat):Turn P w K tg (Xy lo n) [it] it (fun i h=>IsRangeIter h it (lo + (i:Nat) * 1) ((n:Int) - (i:Nat)) 1) where
 mem:=by simp
 obj:=fun i h st b hb=>by
  have e:b = it:=by simpa using hb
  subst e
  exact ⟨_,st,fun v z=>by
   have z':Data.fields _ = Data.cell v:=z
   cases z'⟩
 keep:=fun i h h' st k=>k it (by simp) _ st
 item:=by
  intro X hP hw hK hc i pins s σ H E I hf st hg;subst hP hw hK;obtain ⟨f0,f1,f2,f3,f4,f5⟩:=hf it (by simp);have W:=Walks.range (prog:=X.prog) (w:=X.w) (I.ok.hd hc) it lo 1 n;refine W.item i s _ _ hg st fun v h' tk hv st' kk=>?_;obtain ⟨t,rfl⟩:=hv;have I1:Inv X pins σ H { s with heap:=h',toks:=tk }:=I.turned (fun b o hb e=>kk b o (by simpa using hb) e) f0 f1 f3 f4 f5;refine ⟨_,rfl,Dy (s:={ s with heap:=h',toks:=tk }) (n:="range_iterator") st' rfl rfl (by decide) ⟨.int (lo + i),H,I1,⟨t,?_⟩,⟨rfl,rfl⟩,st',fun b hb=>(hf b hb).1⟩⟩;rw [Int.mul_one]
 done:=by
  intro X hP hw hK hc i pins s σ H E I hf st hg;subst hP hw hK;obtain ⟨f0,f1,f2,f3,f4,f5⟩:=hf it (by simp);exact wpAny_pyNext_range_end (I.ok.hd hc) st (by have:n<=i:=hg; omega) fun h' eb=>⟨rfl,I.turned (t':=s.toks) (fun b o hb e=>eb b o hb e) f0 f1 f3 f4 f5⟩
 self:=fun _ _ _ _ _ st h=>wpAny_pyIter_rangeiter st h
section
variable {X:Cx} {tg:Expr}
def zD (K:W.Frag) (tl:TE):TI:=fun σ H R=>tl σ H fun x H1=>∃ a,x = .ref a/\(∃ xs,SqL K H1 a xs)/\R (Itl K a) H1
theorem Tj {l:Expr} {tl:TE} (hl:PE X l tl):PI X tg l (zD X.K tl):=by
 intro pins s σ H R I h;refine dO (hl pins s σ H _ I h) fun v s1 ⟨x,H1,I1,r1,q1⟩=>?_;obtain ⟨a,e,⟨xs,hq⟩,q⟩:=q1;subst e;cases r1;obtain ⟨its,rv,p,hz⟩:=I1.list hq;refine wpAny_pyIter_list p.isList ?_;refine ⟨s1.heap.objs.size,[s1.heap.objs.size],_,_,H1,rfl,I1.kept (t':=s1.toks) fun b o e=>get?_push_of_some _ e,Fl a _,⟨_,get?_push_size _ rfl,rfl,rfl⟩,fun b hb=>?_,q⟩;have e:b = s1.heap.objs.size:=by simpa using hb
 subst e;exact I1.fpOk (le_refl _) (I1.hok.fresh (le_refl _))
theorem yJ {pins:List (Addr × Obj)} {σ:St} {H:Hp} {s:Shared} {R:It->Hp->Prop} {E:Value->Shared->Prop} {lo hi:Int} {t u v:Tok} {tk:Nat} (I:Inv X pins σ H s) (h1:-(2 ^ 62)<=lo) (h2:lo < 2 ^ 62) (h3:-(2 ^ 62)<=hi) (h4:hi < 2 ^ 62)
  (q:R (Xy lo (hi - lo).toNat) H):wpAny (model X.prog X.w) X.A (pyIter (.ref s.heap.objs.size)) (PIE X pins σ tg R) E { s with heap:=s.heap.push { cls:=.type "range",data:=.fields #[.int lo t,.int hi u,.int 1 v] },toks:=tk }:=by
 refine wpAny_pyIter_range (IsRange.new ..) (small_one h1 h2 h3 h4) ?_;have I1:Inv X pins σ H { s with heap:=s.heap.push { cls:=.type "range",data:=.fields #[.int lo t,.int hi u,.int 1 v] },toks:=tk }:=I.kept fun b o e=>get?_push_of_some _ e
 refine ⟨(s.heap.push { cls:=.type "range",data:=.fields #[.int lo t,.int hi u,.int 1 v] }).objs.size,[(s.heap.push { cls:=.type "range",data:=.fields #[.int lo t,.int hi u,.int 1 v] }).objs.size],_,_,H,rfl,
  I1.kept (t':=tk) fun b o e=>get?_push_of_some _ e,zY _ lo (hi - lo).toNat,?_,fun b hb=>?_,q⟩
 ·have e1:lo + ((0:Nat):Int) * 1 = lo:=by simp
  have e2:(((hi - lo).toNat:Nat):Int) - ((0:Nat):Int) = Builtin.Range.rangeSize lo hi 1:=by rw [rangeSize_one]; split <;> omega
  show IsRangeIter _ _ (lo + ((0:Nat):Int) * 1) ((((hi - lo).toNat:Nat):Int) - ((0:Nat):Int)) 1;rw [e1,e2];exact get?_push_size _ rfl
 ·have e:b = (s.heap.push { cls:=.type "range",data:=.fields #[.int lo t,.int hi u,.int 1 v] }).objs.size:=by simpa using hb
  subst e;exact I1.fpOk (le_refl _) (I1.hok.fresh (le_refl _))
def Wx (ta:TA):TI:=fun σ H R=>ta σ H fun vs H1=>∃ j:Int,vs = [.int j]/\-(2 ^ 62)<=j/\j < 2 ^ 62/\R (Xy 0 j.toNat) H1
def Ww (ta:TA):TI:=fun σ H R=>ta σ H fun vs H1=>∃ i j:Int,vs = [.int i,.int j]/\(-(2 ^ 62)<=i/\i < 2 ^ 62/\-(2 ^ 62)<=j/\j < 2 ^ 62)/\R (Xy i (j - i).toNat) H1
theorem jO {a:Expr} {ta:TA} {p pos:Pos} (hg:Gl X "range") (hm:X.mg "range" = none) (ha:PA X [a] ta) (hs:starEach [a] X.env = [(false,eval a X.env)]:=by rfl):PI X tg (.Call (.Name "range" p) [a] [] pos) (Wx ta):=by
 intro pins s σ H R I h;refine Call_ (lR I hg hm boot_range (PyProof.Rows.callWith_type1 (dO (ha pos pins s σ H _ I h) fun us s1 ⟨vs,H1,I1,r1,q1⟩=>?_) hs rfl));obtain ⟨j,e,q1,q2,q⟩:=q1;subst e;cases r1 with
 | cons r rr =>
  cases rr;obtain ⟨t,rfl⟩:=r;exact call_range_1 (yJ I1 (by omega) (by omega) q1 q2 (by simpa using q))
theorem Ga {a b:Expr} {ta:TA} {p pos:Pos} (hg:Gl X "range") (hm:X.mg "range" = none) (ha:PA X [a,b] ta) (hs:starEach [a,b] X.env = [(false,eval a X.env),(false,eval b X.env)]:=by rfl) (hs2:starEach [b] X.env = [(false,eval b X.env)]:=by rfl) :
  PI X tg (.Call (.Name "range" p) [a,b] [] pos) (Ww ta):=by
 intro pins s σ H R I h;refine Call_ (lR I hg hm boot_range (PyProof.Rows.callWith_type1 (dO (ha pos pins s σ H _ I h) fun us s1 ⟨vs,H1,I1,r1,q1⟩=>?_) (by rw [hs,hs2]) (by rw [hs2]; rfl)));obtain ⟨i,j,e,⟨q1,q2,q3,q4⟩,q⟩:=q1;subst e;cases r1 with
 | cons r rr =>
  cases rr with
  | cons r' rr =>
   cases rr;obtain ⟨t,rfl⟩:=r;obtain ⟨t',rfl⟩:=r';exact call_range_2 (yJ I1 q1 q2 q3 q4 q)
def Jf (wi:TI) (g:TG) (tb:TS):TS:=fun D σ H=>wi σ H fun J H1=>∃ W:Nat->Nat->St->Hp->Prop,(∃ m,W 0 m σ H1)/\∀ i m σ H,W i m σ H ->
 (J.stop i H/\D.nx σ H)\/(J.go i H/\∃ N:St->Hp->Prop,(∀ σ' H',N σ' H'->∃ m',m' < m/\W (i + 1) m' σ' H')/\∀ x H',J.yld i H x H'->g x σ H' fun σ2 H2=>tb { D with nx:=N,ct:=N,bk:=D.nx } σ2 H2)
def pK (fp:List Addr) (h:Heap):List (Addr × Obj):=fp.filterMap fun b=>(h.get? b).map fun o=>(b,o)
theorem gG {fp:List Addr} {h:Heap} {b:Addr} {o:Obj} (hb:b∈fp) (e:h.get? b = some o):(b,o)∈pK fp h:=mem_filterMap.mpr ⟨b,hb,by rw [e]; rfl⟩
theorem Gg {fp:List Addr} {h:Heap} {p:Addr × Obj} (hp:p∈pK fp h):p.1∈fp/\h.get? p.1 = some p.2:=by
 obtain ⟨b,hb,e⟩:=mem_filterMap.mp hp;cases q:h.get? b with
 | none=>rw [q] at e; cases e
 | some o =>
  rw [q] at e;have e':(b,o) = p:=Option.some.inj e;subst e';exact ⟨hb,q⟩
theorem Inv.pinned {pins:List (Addr × Obj)} {σ:St} {H:Hp} {s:Shared} {fp:List Addr} (I:Inv X pins σ H s) (hf:∀ b∈fp,kX X pins H b) (ho:∀ b∈fp,∃ o,s.heap.get? b = some o/\∀ v,o.data ≠ .cell v):Inv X (pins ++ pK fp s.heap) σ H s :=
 I.pins_of fun p hp=>(mem_append.mp hp).elim (fun z=>I.pin p (mem_append_right _ z)) fun z=>by
  obtain ⟨hb,e⟩:=Gg z;obtain ⟨f0,f1,f2,_⟩:=hf p.1 hb;obtain ⟨o,e',d⟩:=ho p.1 hb;rw [e] at e'; cases e';exact ⟨e,f0,f1,f2,d⟩
theorem Inv.unpinned {pins pl:List (Addr × Obj)} {σ:St} {H:Hp} {s:Shared} (I:Inv X (pins ++ pl) σ H s):Inv X pins σ H s:=I.pins_of fun p hp=>I.pin p (mem_append_right _ (mem_append_left _ hp))
theorem kE {iter:Expr} {body:List Stmt} {wi:TI} {g:TG} {tb:TS} {pos:Pos} (hp:PassesOwn (model X.prog X.w) X.A X.env X.xe) (hc:X.calm = true) (hi:PI X tg iter wi) (hg:PG X tg g) (hb:Br X body tb)
  (hs:∀ x,foldedSetIterable iter X.env x = pure x:=by intro _; rfl):PS X (.For tg iter body [] pos) (Jf wi g tb):=by
 intro pins s σ H D I h;refine wpAny_For (dO (hi pins s σ H _ I h) fun v s1 h1=>dO h1 fun itv s2 h2=>?_) hs;obtain ⟨it,fp,tn,J,H2,e,I2,T,st2,f2,W,⟨m0,w0⟩,turn⟩:=h2;subst e;have stat:∀ {H':Hp},(∀ b∈fp,H' b = none)->∀ b∈fp,kX X pins H' b:=fun hn b hb=>⟨hn b hb,(f2 b hb).2⟩;refine codeAny_forLoop_any (fun n s'=>∃ i σ' H',Inv X pins σ' H' s'/\tn i s'.heap/\(∀ b∈fp,H' b = none)/\W i n σ' H') ?_ m0 ⟨0,σ,H2,I2,st2,fun b hb=>(f2 b hb).1,w0⟩;rintro n s3 ⟨i,σ3,H3,I3,st3,fr3,w3⟩;rcases turn i n σ3 H3 w3 with ⟨stop,qn⟩ | ⟨go,N,hN,step⟩
 ·refine wpAny_passesOwn hp (dO (T.done X rfl rfl rfl hc i pins s3 σ3 H3 X.xe I3 (stat fr3) st3 stop) fun r s4 ⟨hr,I4⟩=>?_);subst hr;exact wpAny_execs_nil ⟨σ3,H3,I4,qn⟩
 ·refine wpAny_passesOwn hp (dO (T.item X rfl rfl rfl hc i pins s3 σ3 H3 X.xe I3 (stat fr3) st3 go) fun r s4 ⟨u,hr,h4⟩=>?_);subst hr;refine wpAny_passesOwn hp (dO h4 fun _ s5 ⟨x,H5,I5,r5,y5,st5,fr5⟩=>?_);have I5':=I5.pinned (stat fr5) (T.obj _ _ st5);refine wpAny_passesOwn hp (dO (hg _ s5 σ3 H5 x u _ I5' r5 (step x H5 y5)) fun _ s6 ⟨σ6,H6,I6,q6⟩=>?_);refine wpAny_passesOwn hp (dO (hb _ s6 σ6 H6 _ I6 q6) fun f s7 q7=>?_);have again:∀ {σ7:St} {H7:Hp},Inv X (pins ++ pK fp s5.heap) σ7 H7 s7->N σ7 H7->∃ m,m < n/\∃ i σ' H',Inv X pins σ' H' s7/\tn i s7.heap/\(∀ b∈fp,H' b = none)/\W i m σ' H':=fun {σ7 H7} I7 n7=>by
   obtain ⟨m',hm,w7⟩:=hN σ7 H7 n7;refine ⟨m',hm,i + 1,σ7,H7,I7.unpinned,T.keep _ _ _ st5 fun b hb o e=>(I7.pin (b,o) (mem_append_right _ (mem_append_right _ (gG hb e)))).1,fun b hb=>?_,w7⟩;obtain ⟨o,e,d⟩:=T.obj _ _ st5 b hb;exact (I7.pin (b,o) (mem_append_right _ (mem_append_right _ (gG hb e)))).2.1
  cases f with
  | next=>obtain ⟨σ7,H7,I7,n7⟩:=q7; exact again I7 n7
  | cont=>obtain ⟨σ7,H7,I7,n7⟩:=q7; exact again I7 n7
  | brk=>obtain ⟨σ7,H7,I7,q7⟩:=q7; exact ⟨σ7,H7,I7.unpinned,q7⟩
  | ret v=>obtain ⟨x7,σ7,H7,I7,r7,q7⟩:=q7; exact ⟨x7,σ7,H7,I7.unpinned,r7,q7⟩
end
abbrev R2:=V->V->Hp->VK->Prop
def kW (X:Cx) (f:Value->Value->Sem Value) (r:R2):Prop :=
 ∀ (pins:List (Addr × Obj)) (s:Shared) (σ:St) (H:Hp) (x y:V) (v u:Value) (Q:VK),Inv X pins σ H s->RelV x v->RelV y u->r x y H Q ->
  wpAny (model X.prog X.w) X.A (f v u) (EP X pins σ Q) X.xe s
def UnR (X:Cx) (f:Value->Sem Value) (r:V->Hp->VK->Prop):Prop :=
 ∀ (pins:List (Addr × Obj)) (s:Shared) (σ:St) (H:Hp) (x:V) (v:Value) (Q:VK),Inv X pins σ H s->RelV x v->r x H Q ->
  wpAny (model X.prog X.w) X.A (f v) (EP X pins σ Q) X.xe s
def gC (X:Cx) (f:Value) (r:List V->Hp->VK->Prop):Prop :=
 ∀ (pins:List (Addr × Obj)) (s:Shared) (σ:St) (H:Hp) (xs:List V) (us:List Value) (Q:VK),Inv X pins σ H s->Vals xs us->r xs H Q ->
  wpAny (model X.prog X.w) X.A (call f us) (EP X pins σ Q) X.xe s
def xD (r:R2) (ta tb:TE):TE:=fun σ H Q=>ta σ H fun x H1=>tb σ H1 fun y H2=>r x y H2 Q
def tUn (r:V->Hp->VK->Prop) (ta:TE):TE:=fun σ H Q=>ta σ H fun x H1=>r x H1 Q
def rI (C:Int->Int->Prop) (g:Int->Int->V):R2:=fun x y H Q=>∃ i j,x = .int i/\y = .int j/\C i j/\Q (g i j) H
def Mu (g:Int->Int->V):R2:=fun x y H Q=>∃ i j,x = .int i/\y = .int j/\Q (g i j) H
def rU (g:Int->V):V->Hp->VK->Prop:=fun x H Q=>∃ i,x = .int i/\Q (g i) H
section
variable {X:Cx} {a b c:Expr} {ta tb tc:TE} {pos:Pos}
theorem aEt (ha:PE X a ta) (hb:PE X b tb) {pins:List (Addr × Obj)} {s:Shared} {σ:St} {H:Hp} {R:V->V->Hp->Prop} (I:Inv X pins σ H s)
  (h:ta σ H fun x H1=>tb σ H1 fun y H2=>R x y H2) {Q:Value->Shared->Prop} {f:Value->Value->Sem Value}
  (hf:∀ v u s2 x y H2,Inv X pins σ H2 s2->RelV x v->RelV y u->R x y H2->wpAny (model X.prog X.w) X.A (f v u) Q X.xe s2) :
  wpAny (model X.prog X.w) X.A (eval a X.env) (fun v s₁=>wpAny (model X.prog X.w) X.A (eval b X.env) (fun u s₂=>wpAny (model X.prog X.w) X.A (f v u) Q X.xe s₂) X.xe s₁) X.xe s:=by
 refine dO (ha pins s σ H _ I h) fun v s1 ⟨x,H1,I1,r1,q1⟩=>?_;refine dO (hb pins s1 σ H1 _ I1 q1) fun u s2 ⟨y,H2,I2,r2,q2⟩=>?_;exact hf v u s2 x y H2 I2 r1 r2 q2
theorem aU {op:Operator} {r:R2} (ho:kW X (binaryOp op) r) (ha:PE X a ta) (hb:PE X b tb):PE X (.BinOp a op b pos) (xD r ta tb):=by
 intro pins s σ H Q I h;exact wpAny_BinOp (aEt ha hb I h fun v u s2 x y H2 I2 rx ry q=>ho pins s2 σ H2 x y v u Q I2 rx ry q)
theorem Cy {op:UnaryOp} {r:V->Hp->VK->Prop} (ho:UnR X (unaryOp op) r) (ha:PE X a ta):PE X (.UnaryOp op a pos) (tUn r ta):=by
 intro pins s σ H Q I h;exact UnaryOp_ (dO (ha pins s σ H _ I h) fun v s1 ⟨x,H1,I1,r1,q1⟩=>ho pins s1 σ H1 x v Q I1 r1 q1)
theorem opI {f:Value->Value->Sem Value} {C:Int->Int->Prop} {g:Int->Int->Int}
  (rule:∀ (i j:Int) (t u:Tok) (s:Shared) (Q:Value->Shared->Prop) (E:Value->Shared->Prop),C i j->Q (.int (g i j) s.toks) { s with toks:=s.toks + 1 }->wpAny (model X.prog X.w) X.A (f (.int i t) (.int j u)) Q E s) :
  kW X f (rI C fun i j=>.int (g i j)):=by
 intro pins s σ H x y v u Q I rx ry h;obtain ⟨i,j,rfl,rfl,hc,q⟩:=h;obtain ⟨t,rfl⟩:=rx;obtain ⟨t',rfl⟩:=ry;exact rule i j t t' s _ _ hc ⟨.int (g i j),H,I.tok _,⟨_,rfl⟩,q⟩
theorem aHu {f:Value->Value->Sem Value} {g:Int->Int->Int}
  (rule:∀ (i j:Int) (t u:Tok) (s:Shared) (Q:Value->Shared->Prop) (E:Value->Shared->Prop),Q (.int (g i j) s.toks) { s with toks:=s.toks + 1 }->wpAny (model X.prog X.w) X.A (f (.int i t) (.int j u)) Q E s) :
  kW X f (Mu fun i j=>.int (g i j)):=by
 intro pins s σ H x y v u Q I rx ry h;obtain ⟨i,j,rfl,rfl,q⟩:=h;obtain ⟨t,rfl⟩:=rx;obtain ⟨t',rfl⟩:=ry;exact rule i j t t' s _ _ ⟨.int (g i j),H,I.tok _,⟨_,rfl⟩,q⟩
theorem aBr {f:Value->Value->Sem Value} {g:Int->Int->Bool}
  (rule:∀ (i j:Int) (t u:Tok) (s:Shared) (Q:Value->Shared->Prop) (E:Value->Shared->Prop),Q (.bool (g i j)) s->wpAny (model X.prog X.w) X.A (f (.int i t) (.int j u)) Q E s) :
  kW X f (Mu fun i j=>.bl (g i j)):=by
 intro pins s σ H x y v u Q I rx ry h;obtain ⟨i,j,rfl,rfl,q⟩:=h;obtain ⟨t,rfl⟩:=rx;obtain ⟨t',rfl⟩:=ry;exact rule i j t t' s _ _ ⟨.bl (g i j),H,I,rfl,q⟩
def aLc (i j:Int):Prop:=0<=j/\j<=1000000/\i.natAbs < 2 ^ 64
def CMul (i j:Int):Prop:=(-(2 ^ 64) < i/\i < 2 ^ 64)\/(-(2 ^ 64) < j/\j < 2 ^ 64)
theorem fL:kW X (binaryOp .Add) (Mu fun i j=>.int (i + j)):=aHu fun _ _ _ _ _ _ _ q=>add_int q
theorem lK:kW X (binaryOp .Sub) (Mu fun i j=>.int (i - j)):=aHu fun _ _ _ _ _ _ _ q=>sub_int q
theorem cQ:kW X (binaryOp .Mod) (rI (fun _ j=>0 < j) fun i j=>.int (i % j)):=opI fun i j _ _ _ _ _ hc q=>by
 have h1:(0:Int) < j:=hc;exact mod_int' (by omega) (by rw [Int.fmod_eq_emod_of_nonneg i (by omega)]; exact q)
theorem Nq:kW X (binaryOp .Pow) (rI aLc fun i j=>.int (i ^ j.toNat)):=opI fun _ _ _ _ _ _ _ hc q=>pow_int_small hc.1 hc.2.1 hc.2.2 q
theorem unI {f:Value->Sem Value} {g:Int->Int}
  (rule:∀ (i:Int) (t:Tok) (s:Shared) (Q:Value->Shared->Prop) (E:Value->Shared->Prop),Q (.int (g i) s.toks) { s with toks:=s.toks + 1 }->wpAny (model X.prog X.w) X.A (f (.int i t)) Q E s) :
  UnR X f (rU fun i=>.int (g i)):=by
 intro pins s σ H x v Q I rx h;obtain ⟨i,rfl,q⟩:=h;obtain ⟨t,rfl⟩:=rx;exact rule i t s _ _ ⟨.int (g i),H,I.tok _,⟨_,rfl⟩,q⟩
theorem vE:UnR X (unaryOp .USub) (rU fun i=>.int (-i)):=unI fun _ _ _ _ _ q=>neg_int q
end
def aGy:V->V->Bool
 | .non,.non=>true | .non,.int _=>true | .int _,.non=>true | .non,.bl _=>true | .bl _,.non=>true | .non,.str _=>true | .str _,.non=>true
 | .int _,.int _=>true | .bl _,.bl _=>true | .str _,.str _=>true | .byt _,.byt _=>true
 | .int _,.str _=>true | .str _,.int _=>true | .bl _,.str _=>true | .str _,.bl _=>true
 | _,_=>false
def rEq:R2:=fun x y H Q=>aGy x y = true/\Q (.bl (decide (x = y))) H
def rNe:R2:=fun x y H Q=>aGy x y = true/\Q (.bl (!decide (x = y))) H
theorem Eo {i j:Int}:decide (V.int i = V.int j) = (i == j):=by
 rw [Bool.eq_iff_iff];simp
theorem Px {i j:Bool}:decide (V.bl i = V.bl j) = (i == j):=by
 rw [Bool.eq_iff_iff];simp
theorem Em {i j:Str}:decide (V.str i = V.str j) = (i == j):=by
 rw [Bool.eq_iff_iff];simp
theorem Ep {i j:Array UInt8}:decide (V.byt i = V.byt j) = (i.toList == j.toList):=by
 rw [Bool.eq_iff_iff];cases i;cases j;simp
section
variable {X:Cx} {a b c:Expr} {ta tb tc:TE} {pos:Pos}
theorem cR {pins:List (Addr × Obj)} {σ:St} {H:Hp} {s:Shared} {Q:VK} {k k':Bool} (I:Inv X pins σ H s) (q:Q (.bl k) H) (e:k = k'):EP X pins σ Q (.bool k') s:=by
 subst e;exact ⟨.bl k,H,I,rfl,q⟩
theorem cZ:kW X (compareOp .Eq) rEq:=by
 intro pins s σ H x y v u Q I rx ry h;obtain ⟨hs,q⟩:=h;cases x with
 | non =>
  cases rx;cases y with
  | non=>cases ry; exact EqNone.eq_none_none (cR I q (by simp))
  | bl j=>cases ry; exact EqNone.eq_none_bool (cR I q (by simp))
  | int j=>obtain ⟨t',rfl⟩:=ry; exact EqNone.eq_none_int (cR I q (by simp))
  | str j=>obtain ⟨t',rfl⟩:=ry; exact EqNone.eq_none_str (cR I q (by simp))
  | _=>exact absurd (show false = true from hs) Bool.false_ne_true
 | bl i =>
  cases rx;cases y with
  | non=>cases ry; exact EqNone.eq_bool_none (cR I q (by simp))
  | bl j=>cases ry; exact eq_bool (cR I q Px)
  | str j=>obtain ⟨t',rfl⟩:=ry; exact EqMixed.eq_bool_str (cR I q (by simp))
  | _=>exact absurd (show false = true from hs) Bool.false_ne_true
 | int i =>
  obtain ⟨t,rfl⟩:=rx;cases y with
  | non=>cases ry; exact EqNone.eq_int_none (cR I q (by simp))
  | int j=>obtain ⟨t',rfl⟩:=ry; exact eq_int (cR I q Eo)
  | str j=>obtain ⟨t',rfl⟩:=ry; exact EqMixed.eq_int_str (cR I q (by simp))
  | _=>exact absurd (show false = true from hs) Bool.false_ne_true
 | str i =>
  obtain ⟨t,rfl⟩:=rx;cases y with
  | non=>cases ry; exact EqNone.eq_str_none (cR I q (by simp))
  | bl j=>cases ry; exact EqMixed.eq_str_bool (cR I q (by simp))
  | int j=>obtain ⟨t',rfl⟩:=ry; exact EqMixed.eq_str_int (cR I q (by simp))
  | str j=>obtain ⟨t',rfl⟩:=ry; exact eq_str (cR I q Em)
  | _=>exact absurd (show false = true from hs) Bool.false_ne_true
 | byt i =>
  obtain ⟨t,rfl⟩:=rx;cases y with
  | byt j=>obtain ⟨t',rfl⟩:=ry; exact W.eq_bytes (cR I q Ep)
  | _=>exact absurd (show false = true from hs) Bool.false_ne_true
 | _=>cases y <;> exact absurd (show false = true from hs) Bool.false_ne_true
theorem kN:kW X (compareOp .NotEq) rNe:=by
 intro pins s σ H x y v u Q I rx ry h;obtain ⟨hs,q⟩:=h;cases x with
 | non =>
  cases rx;cases y with
  | non=>cases ry; exact EqNone.ne_none_none (cR I q (by simp))
  | bl j=>cases ry; exact EqNone.ne_none_bool (cR I q (by simp))
  | int j=>obtain ⟨t',rfl⟩:=ry; exact EqNone.ne_none_int (cR I q (by simp))
  | str j=>obtain ⟨t',rfl⟩:=ry; exact EqNone.ne_none_str (cR I q (by simp))
  | _=>exact absurd (show false = true from hs) Bool.false_ne_true
 | bl i =>
  cases rx;cases y with
  | non=>cases ry; exact EqNone.ne_bool_none (cR I q (by simp))
  | bl j=>cases ry; exact ne_bool (cR I q (congrArg not Px))
  | str j=>obtain ⟨t',rfl⟩:=ry; exact EqMixed.ne_bool_str (cR I q (by simp))
  | _=>exact absurd (show false = true from hs) Bool.false_ne_true
 | int i =>
  obtain ⟨t,rfl⟩:=rx;cases y with
  | non=>cases ry; exact EqNone.ne_int_none (cR I q (by simp))
  | int j=>obtain ⟨t',rfl⟩:=ry; exact ne_int (cR I q (congrArg not Eo))
  | str j=>obtain ⟨t',rfl⟩:=ry; exact EqMixed.ne_int_str (cR I q (by simp))
  | _=>exact absurd (show false = true from hs) Bool.false_ne_true
 | str i =>
  obtain ⟨t,rfl⟩:=rx;cases y with
  | non=>cases ry; exact EqNone.ne_str_none (cR I q (by simp))
  | bl j=>cases ry; exact EqMixed.ne_str_bool (cR I q (by simp))
  | int j=>obtain ⟨t',rfl⟩:=ry; exact EqMixed.ne_str_int (cR I q (by simp))
  | str j=>obtain ⟨t',rfl⟩:=ry; exact ne_str (cR I q (congrArg not Em))
  | _=>exact absurd (show false = true from hs) Bool.false_ne_true
 | byt i =>
  obtain ⟨t,rfl⟩:=rx;cases y with
  | byt j=>obtain ⟨t',rfl⟩:=ry; exact W.ne_bytes (cR I q (congrArg not Ep))
  | _=>exact absurd (show false = true from hs) Bool.false_ne_true
 | _=>cases y <;> exact absurd (show false = true from hs) Bool.false_ne_true
theorem mG:kW X (compareOp .Lt) (Mu fun i j=>.bl (decide (i < j))):=aBr fun _ _ _ _ _ _ _ q=>lt_int q
theorem Wl:kW X (compareOp .LtE) (Mu fun i j=>.bl (decide (i<=j))):=aBr fun _ _ _ _ _ _ _ q=>le_int q
theorem qE:kW X (compareOp .Gt) (Mu fun i j=>.bl (decide (j < i))):=aBr fun _ _ _ _ _ _ _ q=>gt_int q
theorem uE:kW X (compareOp .In) (fun x y H Q=>∃ i j,x = .str i/\y = .str j/\Q (.bl (!(Builtin.Str.occurrences j i 0 j.length 1).isEmpty)) H):=by
 intro pins s σ H x y v u Q I rx ry h;obtain ⟨i,j,rfl,rfl,q⟩:=h;obtain ⟨t,rfl⟩:=rx;obtain ⟨t',rfl⟩:=ry;exact in_str (cR I q rfl)
theorem wA:kW X (compareOp .NotIn) (fun x y H Q=>∃ i j,x = .str i/\y = .str j/\Q (.bl (!(!(Builtin.Str.occurrences j i 0 j.length 1).isEmpty))) H):=by
 intro pins s σ H x y v u Q I rx ry h;obtain ⟨i,j,rfl,rfl,q⟩:=h;obtain ⟨t,rfl⟩:=rx;obtain ⟨t',rfl⟩:=ry;exact notIn_str (cR I q rfl)
theorem bK (b:Expr) {op:CmpOp} (h:op ≠ .In:=by decide) (h2:op ≠ .NotIn:=by decide):behindInMarks op b = false:=by
 have e1:(op == CmpOp.In) = false:=by cases op <;> first | rfl | exact absurd rfl h
 have e2:(op == CmpOp.NotIn) = false:=by cases op <;> first | rfl | exact absurd rfl h2
 cases b <;> simp [behindInMarks,e1,e2]
theorem nV {op:CmpOp} {r:R2} (ho:kW X (compareOp op) r) (ha:PE X a ta) (hb:PE X b tb) (hm:behindInMarks op b = false):PE X (.Compare a [op] [b] pos) (xD r ta tb):=by
 intro pins s σ H Q I h;exact wpAny_Compare1 (aEt ha hb I h fun v u s2 x y H2 I2 rx ry q=>ho pins s2 σ H2 x y v u Q I2 rx ry q) hm
def Jc (t:TE):TT:=fun σ H Q=>t σ H fun x H'=>∃ k,x = .bl k/\Q k H'
theorem aX {op:CmpOp} {r:R2} (ho:kW X (compareOp op) r) (ha:PE X a ta) (hb:PE X b tb) (hm:behindInMarks op b = false):PT X (.Compare a [op] [b] pos) (Jc (xD r ta tb)):=by
 intro pins s σ H Q I h
 refine wpAny_isTrue_Compare1 (dO (ha pins s σ H _ I h) fun v s1 ⟨x,H1,I1,r1,q1⟩=>dO (hb pins s1 σ H1 _ I1 q1) fun u s2 ⟨y,H2,I2,r2,q2⟩ =>
  dO (ho pins s2 σ H2 x y v u _ I2 r1 r2 q2) fun c s3 ⟨z,H3,I3,r3,k,e,q3⟩=>?_) hm
 subst e;cases r3;exact wpAny_truthy_bool ⟨H3,I3,q3⟩
def Ji (r r':R2) (ta tb tc:TE):TE:=fun σ H Q=>ta σ H fun x H1=>tb σ H1 fun y H2=>r x y H2 fun z H3=>∃ k,z = .bl k /\
 (if k = true then tc σ H3 fun w' H4=>r' y w' H4 Q else Q (.bl false) H3)
theorem Nl {op op':CmpOp} {r r':R2} (ho:kW X (compareOp op) r) (ho':kW X (compareOp op') r') (ha:PE X a ta) (hb:PE X b tb) (hc:PE X c tc)
  (hm:lastMarks [op,op'] [b,c] = false:=by with_unfolding_all rfl):PE X (.Compare a [op,op'] [b,c] pos) (Ji r r' ta tb tc):=by
 intro pins s σ H Q I h
 refine Compare_chain (dO (ha pins s σ H _ I h) fun v s1 ⟨x,H1,I1,r1,q1⟩=>chain_link (dO (hb pins s1 σ H1 _ I1 q1) fun u s2 ⟨y,H2,I2,r2,q2⟩ =>
  dO (ho pins s2 σ H2 x y v u _ I2 r1 r2 q2) fun d s3 ⟨z,H3,I3,r3,k,e,q3⟩=>?_)) hm
 subst e;cases r3;refine wpAny_truthy_bool ?_;cases k with
 | false=>exact ite_ff ⟨.bl false,H3,I3,rfl,q3⟩
 | true=>exact ite_tt (chain_last (dO (hc pins s3 σ H3 _ I3 q3) fun w' s4 ⟨z',H4,I4,r4,q4⟩=>ho' pins s4 σ H4 y z' u w' Q I4 r2 r4 q4))
theorem mX:(sizeLine:Nat) < 2 ^ 63:=by rw [sizeLine_eq]; decide
theorem bC:kW X (binaryOp .Add) (fun x y H Q=>∃ i j,x = .str i/\y = .str j/\i.length + j.length<=sizeLine/\Q (.str (i ++ j)) H):=by
 intro pins s σ H x y v u Q I rx ry h;obtain ⟨i,j,rfl,rfl,hz,q⟩:=h;obtain ⟨t,rfl⟩:=rx;obtain ⟨t',rfl⟩:=ry;exact add_str (fun t' tk=>⟨.str (i ++ j),H,I.tok _,⟨_,rfl⟩,q⟩) hz
theorem iR {x:V} {us:List Value} (r:Vals [x] us):∃ u,us = [u]/\RelV x u:=by
 cases r with
 | cons r1 r2=>cases r2; exact ⟨_,rfl,r1⟩
theorem tS {x y:V} {us:List Value} (r:Vals [x,y] us):∃ u w',us = [u,w']/\RelV x u/\RelV y w':=by
 cases r with
 | cons r1 r2 =>
  cases r2 with
  | cons r3 r4=>cases r4; exact ⟨_,_,rfl,r1,r3⟩
theorem oZ:gC X (.builtin "abs") (fun xs H Q=>∃ i,xs = [.int i]/\Q (.int (if i < 0 then -i else i)) H):=by
 intro pins s σ H xs us Q I r h;obtain ⟨i,rfl,q⟩:=h;obtain ⟨u,rfl,t,rfl⟩:=iR r;exact call_abs_int fun u tk=>⟨.int (if i < 0 then -i else i),H,I.tok _,⟨_,rfl⟩,q⟩
theorem Hj (hc:X.calm = true):gC X (.builtin "max") (fun xs H Q=>∃ i j,xs = [.int i,.int j]/\Q (.int (if j > i then j else i)) H):=by
 intro pins s σ H xs us Q I r h;obtain ⟨i,j,rfl,q⟩:=h;obtain ⟨u,w',rfl,⟨t,rfl⟩,⟨t',rfl⟩⟩:=tS r;refine max_two_ints (I.ok.hd hc) fun h' tk k=>⟨_,H,I.kept k,?_,q⟩;by_cases hj:j > i
 ·rw [if_pos hj,if_pos hj]; exact ⟨_,rfl⟩
 ·rw [if_neg hj,if_neg hj]; exact ⟨_,rfl⟩
theorem uX (hc:X.calm = true):gC X (.builtin "min") (fun xs H Q=>∃ i j,xs = [.int i,.int j]/\Q (.int (if j < i then j else i)) H):=by
 intro pins s σ H xs us Q I r h;obtain ⟨i,j,rfl,q⟩:=h;obtain ⟨u,w',rfl,⟨t,rfl⟩,⟨t',rfl⟩⟩:=tS r;refine min_two_ints (I.ok.hd hc) fun h' tk k=>⟨_,H,I.kept k,?_,q⟩;by_cases hj:j < i
 ·rw [if_pos hj,if_pos hj]; exact ⟨_,rfl⟩
 ·rw [if_neg hj,if_neg hj]; exact ⟨_,rfl⟩
theorem Hm:gC X (.type "int") (fun xs H Q=>(∃ i,xs = [.int i]/\Q (.int i) H)\/∃ k,xs = [.bl k]/\Q (.int (if k then 1 else 0)) H):=by
 intro pins s σ H xs us Q I r h;rcases h with ⟨i,rfl,q⟩ | ⟨k,rfl,q⟩
 ·obtain ⟨u,rfl,t,rfl⟩:=iR r;exact call_int_int ⟨.int i,H,I,⟨_,rfl⟩,q⟩
 ·obtain ⟨u,rfl,r1⟩:=iR r;cases r1;exact call_int_bool ⟨.int (if k then 1 else 0),H,I.tok _,⟨_,rfl⟩,q⟩
theorem cG:gC X (.type "str") (fun xs H Q=>∃ i,xs = [.int i]/\i.natAbs.log2 < 1920/\Q (.str (toString i)) H):=by
 intro pins s σ H xs us Q I r h;obtain ⟨i,rfl,hz,q⟩:=h;obtain ⟨u,rfl,t,rfl⟩:=iR r;exact PySem.P.str_of_int hz ⟨.str _,H,I.tok _,⟨_,rfl⟩,q⟩
end
structure ObjM (h:Heap) (x dx C:Addr) (mA:Str->Option Value):Prop where
 obj:h.get? x = some (W.instObj C dx)
 ns:h.Ns1 dx mA
 ne:dx ≠ x
theorem Gm {h:Heap} {dx:Addr} {mA:Str->Option Value} (n:h.Ns1 dx mA):∃ od,h.get? dx = some od/\∀ name,W.lookIn name od = some (mA name):=by
 obtain ⟨o,es,ep,ho,hd,hk,_,hm⟩:=n;refine ⟨o,ho,fun name=>?_⟩;have e:=hm name;unfold nsFind findBy at e;rw [<- Array.find?_toList] at e;unfold W.lookIn;rw [hd];dsimp only;split
 ·rename_i y q
  rw [q] at e;exact congrArg some e
 ·rename_i q
  rw [q] at e;have a:es.toList.any (·.refKey) = false:=by
   rw [List.any_eq_false];intro y hy;obtain ⟨z,t,hkey⟩:=hk y (Array.mem_toList_iff.mp hy);simp [DictEntry.refKey,hkey]
  have a':¬ es.toList.any (·.refKey) = true:=by rw [a]; exact Bool.false_ne_true
  rw [if_neg a'];exact congrArg some e
theorem ObjM.look {h:Heap} {x dx C:Addr} {mA:Str->Option Value} (I:ObjM h x dx C mA):∃ od,W.InstAt h x (W.instObj C dx) C (some od)/\∀ name,W.lookIn name od = some (mA name) :=
 let ⟨od,ho,hl⟩:=Gm I.ns
 ⟨od,⟨I.obj,rfl,rfl,ho⟩,hl⟩
section
variable {prog:Program} {w:World} {A:Around} {E:Value->Shared->Prop} {s:Shared} {K:W.Frag} {x dx C f:Addr} {mA:Str->Option Value} {name:Str} {v:Value}
theorem Uv {expr:Bool} {Q:Value->Shared->Prop} (X:K.In s.heap) (I:ObjM s.heap x dx C mA) (hg:W.plainGet K C name = true) (hh:W.hasDictIn K C = true)
  (ha:W.findIn K (.ref C) name = some none) (hv:mA name = some v) (hv':W.handedIn v = true) (h:Q v { s with toks:=s.toks + 1 }) :
  wpAny (model prog w) A (getAttr (.ref x) name expr) Q E s:=by
 obtain ⟨od,J,hl⟩:=I.look;exact W.get_value X J (W.plainGet_of hg).1 (W.findObj_own hh ha rfl (by rw [hl,hv])) hv' h
theorem Pc {pl:Sem Bool} {Q:Value × List Value->Shared->Prop} (X:K.In s.heap) (I:ObjM s.heap x dx C mA) (hg:W.plainGet K C name = true)
  (hf:W.findIn K (.ref C) name = some (some (.ref f))) (ht:W.isFn K (.ref f) = true) (hv:mA name = none) (h:Q (.ref f,[.ref x]) s) :
  wpAny (model prog w) A (getMethod (.ref x) name pl) Q E s:=by
 obtain ⟨od,J,hl⟩:=I.look;exact W.method_fn X J (W.plainGet_of hg).1 (W.plainGet_of hg).2 hf (beq_iff_eq.mp ht) (by show (W.lookIn name od).map (·.isSome) = some false; rw [hl,hv]; rfl) h
theorem Ta {ns:List Str} {Q:Unit->Shared->Prop} (X:K.In s.heap) (I:ObjM s.heap x dx C mA)
  (hs:W.findIn K (.ref C) "__setattr__" = some (some (.builtin "object.__setattr__"))) (hp:W.plainOver K C = true) (ht:W.takerIn K C name = some none) (hh:W.hasDictIn K C = true)
  (hw:Within mA ns) (hsz:ns.length<=sizeLine)
  (h:∀ h',ObjM h' x dx C (fun y=>if y = name then some v else mA y)->SameBut dx s.heap h'->Q () { s with heap:=h',toks:=s.toks + 2 }) :
  wpAny (model prog w) A (setAttr (.ref x) name v) Q E s:=by
 obtain ⟨od,J,hl⟩:=I.look;refine W.set_plain X J hs (W.osa_open (s:={ s with toks:=s.toks + 1 }) (r:=none) X J hp ht fun b=>?_);obtain ⟨cd,hc,hd'⟩:=W.any_some hh;have hx:s.heap.get? x = some ⟨.ref C,some dx,.plain,#[]⟩:=I.obj;refine wpAny_bind (wpAny_pure (wpAny_bind (wpAny_bind (wpAny_loadPart hx (wpAny_bind (W.Looks.here (s:={ s with toks:=s.toks + 1 }) (W.looks_clsIn X hc) ?_))))));rw [hd'];refine wpAny_pure (a:=some dx) (wpAny_bind (wpAny_pure (wpAny_bind ?_)));refine wpAny_nsSet1 (s:={ s with toks:=s.toks + 1 }) I.ns fun h' hn2 hs2=>?_;obtain ⟨oD,esD,epD,hoD,hdD,hcD⟩:=hn2.count (Within.cons name v hw);refine wpAny_bind (wpAny_lookBehind hoD (by rw [hdD]; exact pastItsLine_dict (le_trans hcD (by rw [length_cons]; omega))) ?_);exact wpAny_pure (h _ ⟨(hs2.2 _ (Ne.symm I.ne)).trans I.obj,hn2,I.ne⟩ hs2)
theorem Ol {R:Result->Shared->Prop} {vs:List Value} {kw:List (Str × Value)} (X:K.In s.heap) (hm:W.makesIn K C = true)
  (hi:W.findIn K (.ref C) "__init__" = some (some (.ref f))) (hf:W.typeIn K (.ref f) = some (.type "function"))
  (h:codeAny (model prog w) (A.under (.builtin "type.__call__" ⟨.ref C :: vs,kw⟩)) (.call (.ref f) ⟨.ref (s.heap.objs.size + 1) :: vs,kw⟩) (W.InitBack (s.heap.objs.size + 1) R)
   { s with heap:=(s.heap.push W.emptyDict).push (W.instObj C s.heap.objs.size) }) :
  codeAny (model prog w) A (.call (.ref C) ⟨vs,kw⟩) R s:=by
 obtain ⟨hh,g,d,t,os⟩:=s;exact W.make_core (W.makes_of X hm) (W.looks_findIn X hi) (fun self=>W.bind_fn X self hf) (.inl rfl) h
end
def lZ (f:Str) (v:V):List (Str × V)->List (Str × V)
 | []=>[(f,v)]
 | (g,x) :: r=>if g = f then (g,v) :: r else (g,x) :: lZ f v r
theorem qH (f g:Str) (v:V):∀ fs:List (Str × V),(lZ f v fs).lookup g = if g = f then some v else fs.lookup g
 | []=>by
  show List.lookup g [(f,v)] = _;by_cases h:g = f
  ·have hb:(g == f) = true:=beq_iff_eq.mpr h;simp only [List.lookup,hb,if_pos h]
  ·have hb:(g == f) = false:=beq_eq_false_iff_ne.mpr h;simp only [List.lookup,hb,if_neg h]
 | (k,x) :: r=>by
  have ih:=qH f g v r;rw [show lZ f v ((k,x) :: r) = (if k = f then (k,v) :: r else (k,x) :: lZ f v r) from rfl];by_cases hk:k = f
  ·rw [if_pos hk];by_cases h:g = k
   ·have hb:(g == k) = true:=beq_iff_eq.mpr h;simp only [List.lookup,hb,if_pos (h.trans hk)]
   ·have hb:(g == k) = false:=beq_eq_false_iff_ne.mpr h;simp only [List.lookup,hb,if_neg (fun e:g = f=>h (e.trans hk.symm))]
  ·rw [if_neg hk];by_cases h:g = k
   ·have hb:(g == k) = true:=beq_iff_eq.mpr h;simp only [List.lookup,hb,if_neg (fun e:g = f=>hk (h.symm.trans e))]
   ·have hb:(g == k) = false:=beq_eq_false_iff_ne.mpr h;simp only [List.lookup,hb];exact ih
theorem pS (f:Str) (v:V):∀ fs:List (Str × V),f∈(lZ f v fs).map (·.1)/\∀ g,g∈fs.map (·.1)->g∈(lZ f v fs).map (·.1)
 | []=>⟨by simp [lZ],fun g h=>by simp at h⟩
 | (k,x) :: r=>by
  obtain ⟨i1,i2⟩:=pS f v r;rw [show lZ f v ((k,x) :: r) = (if k = f then (k,v) :: r else (k,x) :: lZ f v r) from rfl];by_cases hk:k = f
  ·rw [if_pos hk];subst hk;exact ⟨by simp,fun g h=>by simpa using h⟩
  ·rw [if_neg hk];refine ⟨?_,fun g h=>?_⟩
   ·rw [map_cons];exact mem_cons_of_mem _ i1
   ·rw [map_cons] at h ⊢;rcases mem_cons.mp h with e | e
    ·exact mem_cons.mpr (.inl e)
    ·exact mem_cons_of_mem _ (i2 g e)
theorem qI (f:Str) (v:V):∀ fs:List (Str × V),(lZ f v fs).length<=fs.length + 1
 | []=>by simp [lZ]
 | (k,x) :: r=>by
  have ih:=qI f v r;rw [show lZ f v ((k,x) :: r) = (if k = f then (k,v) :: r else (k,x) :: lZ f v r) from rfl];by_cases hk:k = f
  ·rw [if_pos hk,length_cons,length_cons]; omega
  ·rw [if_neg hk,length_cons,length_cons]; omega
theorem RelO.some_of {v:V} {o:Option Value} (r:RelO (some v) o):∃ u,o = some u/\RelV v u:=by
 cases o with
 | none=>exact (show False from r).elim
 | some u=>exact ⟨u,rfl,r⟩
theorem RelO.none_of {o:Option Value} (r:RelO none o):o = none:=by
 cases o with
 | none=>rfl
 | some u=>exact (show False from r).elim
theorem Gx {v:V} {u:Value} (r:RelV v u):W.handedIn u = true:=by
 cases v with
 | non=>cases (show u = Value.none from r); rfl
 | bl b=>cases (show u = Value.bool b from r); rfl
 | int i=>obtain ⟨t,e⟩:=(show ∃ t,u = Value.int i t from r); cases e; rfl
 | str x=>obtain ⟨t,e⟩:=(show ∃ t,u = Value.str x t from r); cases e; rfl
 | byt b=>obtain ⟨t,e⟩:=(show ∃ t,u = Value.bytes b t from r); cases e; rfl
 | flt b=>obtain ⟨t,e⟩:=(show ∃ t,u = Value.float b t from r); cases e; rfl
 | ref a=>cases (show u = Value.ref a from r); rfl
 | ty n=>cases (show u = Value.type n from r); rfl
section
variable {P:Program} {w:World} {H H':Hp} {h h':Heap} {a C dx:Addr} {fs fs':List (Str × V)}
theorem qT (hok:HOk P w H h) (e:H a = some (.ins C dx fs)):∃ mA,ObjM h a dx C mA/\(∀ f,RelO (fs.lookup f) (mA f))/\Within mA (fs.map (·.1))/\fs.length<=1000/\H dx = some (.own a):=by
 obtain ⟨d,z,ne,ob,mA,n,r,q⟩:=(show ObjOk P w H h a (.ins C dx fs) from hok a _ e);exact ⟨mA,⟨ob,n,ne⟩,r,q,z,d⟩
end
structure Cls (K:W.Frag) (C:Addr):Prop where
 pg:W.plainGet K C Str.empty = true
 hd:W.hasDictIn K C = true
 po:W.plainOver K C = true
 sa:W.findIn K (.ref C) "__setattr__" = some (some (.builtin "object.__setattr__"))
theorem Cls.get {K:W.Frag} {C:Addr} (c:Cls K C) (f:Str):W.plainGet K C f = true:=c.pg
def NoAttr (K:W.Frag) (C:Addr) (f:Str):Prop:=W.findIn K (.ref C) f = some none
theorem NoAttr.taker {K:W.Frag} {C:Addr} {f:Str} (n:NoAttr K C f):W.takerIn K C f = some none:=by
 unfold W.takerIn;rw [show W.findIn K (.ref C) f = some none from n];rfl
structure Con (K:W.Frag) (C:Addr) (f:Str) (v:V) (u:Value):Prop where
 at_:W.findIn K (.ref C) f = some (some u)
 rel:RelV v u
 get:W.specialIn K u "__get__" = some none
 cp:W.copiedNames.contains f = false
structure Meth (K:W.Frag) (C:Addr) (m:Str) (f:Addr):Prop where
 at_:W.findIn K (.ref C) m = some (some (.ref f))
 fn:W.isFn K (.ref f) = true
 kp:W.keepIn K (.ref f) = true
section
variable {X:Cx} {pins:List (Addr × Obj)} {σ:St} {H:Hp} {s:Shared} {a C dx:Addr} {fs:List (Str × V)} {f:Str} {v:V} {A:Around} {E:Value->Shared->Prop}
theorem Bf {b:Bool} {Q:Value->Shared->Prop} (I:Inv X pins σ H s) (e:H a = some (.ins C dx fs)) (c:Cls X.K C) (n:NoAttr X.K C f) (l:fs.lookup f = some v)
  (h:∀ u s',Inv X pins σ H s'->RelV v u->Q u s'):wpAny (model X.prog X.w) A (getAttr (.ref a) f b) Q E s:=by
 obtain ⟨mA,O,r,_,_,_⟩:=qT I.hok e;obtain ⟨u,hu,ru⟩:=RelO.some_of (v:=v) (o:=mA f) (by rw [<- l]; exact r f);exact Uv I.kIn O (c.get f) c.hd n hu (Gx ru) (h u _ (I.tok _) ru)
theorem sM {m:Str} {g:Addr} {pl:Sem Bool} {Q:Value × List Value->Shared->Prop} (I:Inv X pins σ H s) (e:H a = some (.ins C dx fs)) (c:Cls X.K C) (k:Meth X.K C m g) (l:fs.lookup m = none)
  (h:Q (.ref g,[.ref a]) s):wpAny (model X.prog X.w) A (getMethod (.ref a) m pl) Q E s:=by
 obtain ⟨mA,O,r,_,_,_⟩:=qT I.hok e;have hn:mA m = none:=RelO.none_of (by rw [<- l]; exact r m);exact Pc I.kIn O (c.get m) k.at_ k.fn hn h
theorem Af {y:V} {u:Value} {Q:Unit->Shared->Prop} (I:Inv X pins σ H s) (e:H a = some (.ins C dx fs)) (c:Cls X.K C) (n:NoAttr X.K C f) (hl:fs.length < 1000) (ry:RelV y u)
  (h:∀ s',Inv X pins σ (cX H a (.ins C dx (lZ f y fs))) s'->Q () s'):wpAny (model X.prog X.w) A (setAttr (.ref a) f u) Q E s:=by
 obtain ⟨mA,O,r,wi,_,ho⟩:=qT I.hok e;have hz:(fs.map (·.1)).length<=sizeLine:=by rw [length_map,sizeLine_eq]; omega
 refine Ta I.kIn O c.sa c.po n.taker c.hd wi hz fun h' O' sb=>h _ ?_;have hd:∃ o,h'.get? dx = some o:=let ⟨o,_,_,e',_⟩:=O'.ns; ⟨o,e'⟩
 refine I.write (x:=a) (e:=dx) (by rw [e]; exact True.intro) (.inr ho) (fun b q hb z=>(sb.2 b hb).trans z) hd ?_;refine ⟨by rw [bD O.ne]; exact ho,?_,O.ne,O'.obj,_,O'.ns,fun g=>?_,fun g hg=>?_⟩
 ·have:=qI f y fs; omega
 ·show RelO ((lZ f y fs).lookup g) (if g = f then some u else mA g);rw [qH];by_cases q:g = f
  ·rw [if_pos q,if_pos q]; exact ry
  ·rw [if_neg q,if_neg q]; exact r g
 ·by_cases q:g = f
  ·rw [q]; exact (pS f y fs).1
  ·refine (pS f y fs).2 g (wi g fun z=>hg ?_);show (if g = f then some u else mA g) = none;rw [if_neg q]; exact z
theorem Inv.made (I:Inv X pins σ H s):Inv X pins σ (cX (cX H s.heap.objs.size (.own (s.heap.objs.size + 1))) (s.heap.objs.size + 1) (.ins C s.heap.objs.size []))
  { s with heap:=(s.heap.push W.emptyDict).push (W.instObj C s.heap.objs.size) }:=by
 have e1:(s.heap.push W.emptyDict).get? s.heap.objs.size = some W.emptyDict:=get?_push_size s.heap rfl;have e2:((s.heap.push W.emptyDict).push (W.instObj C s.heap.objs.size)).get? (s.heap.objs.size + 1) = some (W.instObj C s.heap.objs.size):=by
  have:=get?_push_size (s.heap.push W.emptyDict) (o:=W.instObj C s.heap.objs.size) rfl
  rwa [Heap.size_push] at this
 have e3:(s.heap.push W.emptyDict).Ns s.heap.objs.size (fun _=>none):=⟨W.emptyDict,#[],_,e1,rfl,(fun e he=>absurd he (by simp)),fun _=>rfl⟩;have I1:=I.laid (a:=s.heap.objs.size) (o:=.own (s.heap.objs.size + 1)) (h':=s.heap.push W.emptyDict) (t':=s.toks) (fun b u q=>get?_push_of_some _ q) (le_refl _) ⟨_,e1⟩;refine I1.laid (a:=s.heap.objs.size + 1) (o:=.ins C s.heap.objs.size []) (t':=s.toks) (fun b u q=>get?_push_of_some _ q) (Nat.le_of_eq (Heap.size_push _ _)) ?_;have ne:s.heap.objs.size ≠ s.heap.objs.size + 1:=ne_of_lt (Nat.lt_succ_self _);refine ⟨by rw [bD ne,bJ],zero_le _,ne,e2,fun _=>none,(Heap.Ns1.of_empty e3).at fun o q=>get?_push_of_some _ q,fun _=>True.intro,fun y hy=>absurd rfl hy⟩
theorem Vq {prog:Program} {w:World} {env:Env} {e:Expr} {f:Str} {pos:Pos} {s:Shared} {Q:Value->Shared->Prop} (hb:attributeBase e f env (eval e env) = eval e env)
  (h:wpAny (model prog w) A (eval e env) (fun o s₁=>wpAny (model prog w) A (getAttr o f true) Q E s₁) E s):wpAny (model prog w) A (eval (.Attribute e f pos) env) Q E s :=
 Attribute_any_ h (by rw [arm_eval_Attribute,hb])
end
def Sh (K:W.Frag) (ta:TE) (f:Str):TE:=fun σ H Q=>ta σ H fun x H1=>∃ a C dx fs v,x = .ref a/\H1 a = some (.ins C dx fs)/\Cls K C/\NoAttr K C f/\fs.lookup f = some v/\Q v H1
def aHm (K:W.Frag) (ta tv:TE) (f:Str):TS:=fun D σ H=>tv σ H fun y H1=>ta σ H1 fun x H2=>∃ a C dx fs,x = .ref a/\H2 a = some (.ins C dx fs)/\Cls K C/\NoAttr K C f/\fs.length < 1000 /\
 D.nx σ (cX H2 a (.ins C dx (lZ f y fs)))
section
variable {X:Cx} {o e value:Expr} {f:Str} {pos pos' tpos:Pos} {ta tv:TE}
theorem rS (he:PE X e ta) (hb:attributeBase e f X.env (eval e X.env) = eval e X.env):PE X (.Attribute e f pos) (Sh X.K ta f):=by
 intro pins s σ H Q I h;refine Vq hb (dO (he pins s σ H _ I h) fun u s1 ⟨x,H1,I1,rx,a,C,dx,fs,v,ex,ea,c,n,l,q⟩=>?_);subst ex;obtain rfl:u = Value.ref a:=rx;exact Bf I1 ea c n l fun u' s2 I2 ru=>⟨v,H1,I2,ru,q⟩
theorem aBi (ha:PE X o ta) (hv:PE X value tv) (hs:swapsWith value (some (.Attribute o f pos')) pos.line X.env = pure false):PS X (.Assign [.Attribute o f pos'] value pos) (aHm X.K ta tv f):=by
 intro pins s σ H D I h;refine plainObj_wpAny_Assign_Attribute (dO (hv pins s σ H _ I h) fun u s1 ⟨y,H1,I1,ry,q⟩=>dO (ha pins s1 σ H1 _ I1 q) fun ov s2 ⟨x,H2,I2,rx,a,C,dx,fs,ex,ea,c,n,l,q2⟩=>?_) hs;subst ex;obtain rfl:ov = Value.ref a:=rx;exact Af I2 ea c n l ry fun s3 I3=>⟨σ,_,I3,q2⟩
end
section
variable {X:Cx} {pins:List (Addr × Obj)} {σ:St} {H:Hp} {s:Shared} {A:Around} {E:Value->Shared->Prop} {Q:Value->Shared->Prop} {c:Value} {b:Bool}
inductive TyOf (K:W.Frag) (H:Hp):V->Value->Prop where
 | non:TyOf K H .non (.type "NoneType")
 | bl (x:Bool):TyOf K H (.bl x) (.type "bool")
 | int (i:Int):TyOf K H (.int i) (.type "int")
 | str (x:Str):TyOf K H (.str x) (.type "str")
 | flt (x:UInt64):TyOf K H (.flt x) (.type "float")
 | lst {a:Addr} {xs:List V} (e:H a = some (.lst xs)):TyOf K H (.ref a) (.type "list")
 | frz {a:Addr} {o:Obj} {xs:List V} (e:H a = some (.frz o (.lst xs))):TyOf K H (.ref a) (.type "list")
 | tup {a:Addr} {xs:List V} (e:H a = some (.tup xs)):TyOf K H (.ref a) (.type "tuple")
 | dK {a:Addr} {kvs:List (dS × V)} (e:H a = some (.dK kvs)):TyOf K H (.ref a) (.type "dict")
 | dT {a:Addr} {kvs:List (List dS × V)} (e:H a = some (.dT kvs)):TyOf K H (.ref a) (.type "dict")
 | ins {a C dx:Addr} {fs:List (Str × V)} (e:H a = some (.ins C dx fs)) (cl:Cls K C) (ha:W.findIn K (.ref C) "__class__" = some (some (.builtin "object.__class__")))
   (hn:W.specialIn K (.builtin "object.__class__") "__get__" = some (some (.builtin "getset_descriptor.__get__"))) (htk:W.takesIn K (.builtin "object.__class__") = some true)
   (hm:W.mroIn K C (.type "object") = some true):TyOf K H (.ref a) (.ref C)
theorem iF {x:V} {u t:Value} (I:Inv X pins σ H s) (rx:RelV x u) (ty:TyOf X.K H x t) (e:W.kitOne X.K t c = some b) (h:∀ tk,Q (.bool b) { s with toks:=tk }) :
  wpAny (model X.prog X.w) A (call (.builtin "isinstance") [u,c]) Q E s:=by
 cases ty with
 | non=>cases (show u = Value.none from rx); exact W.kia_one W.kitx_none I.kIn True.intro e (fun z=>nomatch z) h
 | bl y=>cases (show u = Value.bool y from rx); exact W.kia_one W.kitx_bool I.kIn True.intro e (fun z=>nomatch z) h
 | int i=>obtain ⟨t,q⟩:=(show ∃ t,u = Value.int i t from rx); cases q; exact W.kia_one W.kitx_int I.kIn True.intro e (fun z=>nomatch z) h
 | str y=>obtain ⟨t,q⟩:=(show ∃ t,u = Value.str y t from rx); cases q; exact W.kia_one W.kitx_str I.kIn True.intro e (fun z=>nomatch z) h
 | flt y=>obtain ⟨t,q⟩:=(show ∃ t,u = Value.float y t from rx); cases q; exact W.kia_one W.kitx_float I.kIn True.intro e (fun z=>nomatch z) h
 | @lst a xs ea =>
  cases (show u = Value.ref a from rx);obtain ⟨_,_,n,_,h1⟩:=(show ObjOk X.prog X.w H s.heap a (.lst xs) from I.hok a _ ea);exact W.kia_one W.kitx_list I.kIn ⟨_,h1,rfl⟩ e (fun z=>nomatch z) h
 | @frz a ob xs ea =>
  cases (show u = Value.ref a from rx);obtain ⟨_,_,_,n,_,h1⟩:=(show ObjOk X.prog X.w H s.heap a (.frz ob (.lst xs)) from I.hok a _ ea);exact W.kia_one W.kitx_list I.kIn ⟨_,h1,rfl⟩ e (fun z=>nomatch z) h
 | @tup a xs ea =>
  cases (show u = Value.ref a from rx);obtain ⟨_,_,_,p⟩:=(show ObjOk X.prog X.w H s.heap a (.tup xs) from I.hok a _ ea);obtain ⟨o,h1,h2,_⟩:=p;exact W.kia_one W.kitx_tuple I.kIn ⟨o,h1,h2⟩ e (fun z=>nomatch z) h
 | @dK a kvs ea =>
  cases (show u = Value.ref a from rx);obtain ⟨_,_,vs,_,p⟩:=(show ObjOk X.prog X.w H s.heap a (.dK kvs) from I.hok a _ ea);obtain ⟨o,es,ep,h1,h2,_⟩:=p;exact W.kia_one W.kitx_dict I.kIn ⟨o,h1,h2.1⟩ e (fun z=>nomatch z) h
 | @dT a kvs ea =>
  cases (show u = Value.ref a from rx);obtain ⟨_,_,xs,_,o,es,ep,h1,h2,_⟩:=(show ObjOk X.prog X.w H s.heap a (.dT kvs) from I.hok a _ ea);exact W.kia_one W.kitx_dict I.kIn ⟨o,h1,h2.1⟩ e (fun z=>nomatch z) h
 | @ins a C dx fs ea cl ha hn htk hm =>
  cases (show u = Value.ref a from rx);obtain ⟨mA,O,_⟩:=qT I.hok ea;obtain ⟨od,J,_⟩:=O.look;exact W.kia_one (W.kitx_own (cl.get _) cl.hd ha hn htk hm) I.kIn J e (fun z=>nomatch z) h
end
structure Room (k:Nat) (A:Around):Prop where
 hd:A.handled = none
 dp:A.depth + 3 * k + 5 < recursionLimit
 un:A.units + 16 * k + 200 < cLine
theorem Room.mono {j k:Nat} {A:Around} (r:Room k A) (h:j<=k):Room j A:=⟨r.hd,by have:=r.dp; omega,by have:=r.un; omega⟩
theorem Room.deeper {k:Nat} {A:Around} (r:Room (k + 1) A) (env:Env):Room k (A.deeper env) :=
 ⟨r.hd,by have:=r.dp; show A.depth + 1 + 3 * k + 5 < _; omega,by have:=r.un; show A.units + 3 + 16 * k + 200 < _; omega⟩
theorem Ax {A:Around} {C:Addr} {us:List Value} {kw:List (Str × Value)}:(A.under (.builtin "type.__call__" ⟨.ref C :: us,kw⟩)).depth = A.depth + 1:=by
 first | rfl | simp [Around.under,Code.weight,Code.isCreation,Code.isGuard,Code.isCaller,Code.frames,Code.isFrame,guardIds]
theorem Aw {A:Around} {C:Addr} {us:List Value} {kw:List (Str × Value)}:(A.under (.builtin "type.__call__" ⟨.ref C :: us,kw⟩)).units = A.units + 1:=by
 first | rfl | simp [Around.under,Code.cUnits,Code.frames,Code.isFrame]
theorem Room.make {k:Nat} {A:Around} (r:Room (k + 1) A) (C:Addr) (us:List Value) (kw:List (Str × Value)):Room k (A.under (.builtin "type.__call__" ⟨.ref C :: us,kw⟩)) :=
 ⟨r.hd,by have:=r.dp; rw [Ax]; omega,by have:=r.un; rw [Aw]; omega⟩
theorem Room.depth {k:Nat} {A:Around} (r:Room k A):A.depth < recursionLimit:=by have:=r.dp; omega
theorem Room.units {k:Nat} {A:Around} (r:Room k A):A.units + 64 < cLine:=by have:=r.un; omega
def jW:TA:=fun _ H Q=>Q [] H
def eT (ta:TE) (tr:TA):TA:=fun σ H Q=>ta σ H fun x H1=>tr σ H1 fun xs H2=>Q (x :: xs) H2
section
variable {X:Cx} {e:Expr} {es:List Expr} {te:TE} {t:TA} {pos:Pos}
theorem aE:PA X [] jW:=fun _ _ _ _ H Q I h=>Calls.spliced_nil ⟨[],H,I,.nil,h⟩
theorem aA (ha:PE X e te) (hr:PA X es t) (hs:starEach (e :: es) X.env = (false,eval e X.env) :: starEach es X.env:=by rfl):PA X (e :: es) (eT te t):=by
 intro pos pins s σ H Q I h;rw [hs];show wpAny _ _ (spliced ((false,eval e X.env) :: backTo pos (starEach es X.env))) _ _ s;refine Calls.spliced_cons (dO (ha pins s σ H _ I h) fun u s1 ⟨x,H1,I1,r1,q1⟩=>?_);exact dO (hr pos pins s1 σ H1 _ I1 q1) fun us s2 ⟨xs,H2,I2,r2,q2⟩=>⟨x :: xs,H2,I2,.cons r1 r2,q2⟩
def aGq (t:TA):TE:=fun σ H Q=>t σ H fun xs H1=>xs.length<=sizeLine/\∀ p,H1 p = none->Q (.ref p) (cX H1 p (.tup xs))
def Za (t:TA):TE:=fun σ H Q=>t σ H fun xs H1=>xs.length<=sizeLine/\∀ p,H1 p = none->Q (.ref p) (cX H1 p (.lst xs))
theorem fK {x1} (h:PA X es t):PE X (.Tuple es x1 pos) (aGq t):=by
 intro pins s σ H Q I hq;refine wpAny_Tuple_spliced (dO (h pos pins s σ H _ I hq) fun us s1 ⟨xs,H1,I1,r,z,q⟩=>⟨by rw [<- r.length]; exact z,?_⟩);have hf:H1 s1.heap.objs.size = none:=I1.hok.fresh (le_refl _);refine ⟨.ref s1.heap.objs.size,cX H1 s1.heap.objs.size (.tup xs),I1.laid (t':=s1.toks) (fun b u e=>get?_push_of_some _ e) (le_refl _) ?_,rfl,q _ hf⟩;exact ⟨z,us,r,⟨_,get?_push_size _ rfl,rfl,_,rfl⟩⟩
theorem aZ (h:PA X es t):PE X (.List es pos) (Za t):=by
 intro pins s σ H Q I hq;refine wpAny_List_spliced (dO (h pos pins s σ H _ I hq) fun us s1 ⟨xs,H1,I1,r,z,q⟩=>⟨by rw [<- r.length]; exact z,?_⟩);have hf:H1 s1.heap.objs.size = none:=I1.hok.fresh (le_refl _);refine ⟨.ref s1.heap.objs.size,cX H1 s1.heap.objs.size (.lst xs),I1.laid (t':=s1.toks) (fun b u e=>get?_push_of_some _ e) (le_refl _) ?_,rfl,q _ hf⟩;exact ⟨z,us,0,r,get?_push_size _ rfl⟩
end
abbrev Sp:=List V->Hp->VK->XK->Prop
abbrev Hs:=List Env->Hp->Shared->XK->Value->Shared->Prop
structure Env0 (P:Program) (w:World) (K:W.Frag) (mg:Str->Option Value) (base:Heap) (A:Around) (outer:List Env) (s:Shared) (H:Hp):Prop where
 frames:A.frames = some outer
 mod:Mod K mg base
 bs:∀ b o,base.get? b = some o->s.heap.get? b = some o/\H b = none
 bsz:base.objs.size<=s.heap.objs.size
 funs:s.heap.FunFrames base outer
 frf:∀ b∈iQ outer,H b = none
 hok:HOk P w H s.heap
 bare:AllBare s.gens
def CE (outer:List Env) (P:Program) (w:World) (H:Hp) (s:Shared) (Q:VK) (u:Value) (s':Shared):Prop :=
 ∃ v H',s'.os = s.os/\AllBare s'.gens/\Un (iQ outer) [] H H' s.heap s'.heap/\HOk P w H' s'.heap/\RelV v u/\Q v H'
def CR (CX:Hs) (outer:List Env) (P:Program) (w:World) (H:Hp) (s:Shared) (Q:VK) (E:XK) (r:Result) (s':Shared):Prop :=
 match r with
 | .ok (.ret u)=>CE outer P w H s Q u s'
 | .ok _=>False
 | .error e=>CX outer H s E e s'
structure FnOk (P:Program) (w:World) (K:W.Frag) (mg:Str->Option Value) (base:Heap) (CX:Hs) (k:Nat) (f:Addr) (fd:FuncData) (ps:List Str) (sp:Sp):Prop where
 len:∀ vs H Q E,sp vs H Q E->vs.length = ps.length
 run:∀ (A:Around) (outer:List Env) (s:Shared) (H:Hp) (args:Args) (us:List Value) (vs:List V) (Q:VK) (E:XK),Room k A->Env0 P w K mg base A outer s H->BindsTo s fd args (ps.zip us)->Vals vs us->sp vs H Q E ->
  codeAny (model P w) A (.call (.ref f) args) (CR CX outer P w H s Q E) s
theorem FnOk.imp {P:Program} {w:World} {K:W.Frag} {mg:Str->Option Value} {base:Heap} {CX:Hs} {k:Nat} {f:Addr} {fd:FuncData} {ps:List Str} {sp sp':Sp} (F:FnOk P w K mg base CX k f fd ps sp)
  (h:∀ vs H Q E,sp' vs H Q E->sp vs H Q E):FnOk P w K mg base CX k f fd ps sp' :=
 ⟨fun vs H Q E q=>F.len vs H Q E (h _ _ _ _ q),fun A outer s H args us vs Q E hr he hb hv hs=>F.run A outer s H args us vs Q E hr he hb hv (h _ _ _ _ hs)⟩
theorem Env0.make {P:Program} {w:World} {K:W.Frag} {mg:Str->Option Value} {base:Heap} {A:Around} {outer:List Env} {s:Shared} {H:Hp} (e:Env0 P w K mg base A outer s H) (C:Addr) (us:List Value) (kw:List (Str × Value)) :
  Env0 P w K mg base (A.under (.builtin "type.__call__" ⟨.ref C :: us,kw⟩)) outer s H:=⟨by first | exact e.frames | (simpa [Around.under,Code.envs,Code.isFrame,pushEnvs] using e.frames),e.mod,e.bs,e.bsz,e.funs,e.frf,e.hok,e.bare⟩
section
variable {X:Cx} {pins:List (Addr × Obj)} {σ:St} {H:Hp} {s s':Shared}
theorem Inv.env0 (I:Inv X pins σ H s):Env0 X.prog X.w X.K X.mg X.base X.A X.stack s H :=
 ⟨I.ok.frames,I.ok.mod,I.bs,le_trans I.ok.bsz I.sz,I.stack,I.stkFree,I.hok,I.bare⟩
theorem Inv.after {Q:VK} {u:Value} (I:Inv X pins σ H s) (h:CE X.stack X.prog X.w H s Q u s'):EP X pins σ Q u s':=by
 obtain ⟨v,H',os,bare,un,hok,r,q⟩:=h;obtain ⟨hh,g,d,t,os'⟩:=s';obtain rfl:os' = s.os:=os;exact ⟨v,H',I.call (h':=hh) (g':=g) (d':=d) (t':=t) (ch:=[]) un hok bare (fun b z=>absurd z (by simp)),r,q⟩
end
def lE (sp:Sp) (dvs:List V) (E:XK) (t:TA):TE:=fun σ H Q=>t σ H fun vs H1=>sp (vs ++ dvs) H1 Q E
def Cb (C:Addr) (m:Str) (sp:Sp) (dvs:List V) (E:XK) (ta:TE) (t:TA):TE:=fun σ H Q=>ta σ H fun x H1=>∃ a dx fs,x = .ref a/\H1 a = some (.ins C dx fs)/\fs.lookup m = none /\
 t σ H1 fun vs H2=>sp (x :: (vs ++ dvs)) H2 Q E
def Je (C:Addr) (sp:Sp) (dvs:List V) (E:XK) (t:TA):TE:=fun σ H Q=>t σ H fun vs H1=>∀ x dx,H1 x = none->H1 dx = none->dx ≠ x ->
 sp (.ref x :: (vs ++ dvs)) (cX (cX H1 dx (.own x)) x (.ins C dx [])) (fun v H2=>v = .non/\Q (.ref x) H2) E
def Binds (K:W.Frag) (fd:FuncData) (ps:List Str) (ds:List Value):Prop :=
 ∀ (s:Shared) (us:List Value),K.In s.heap->(us ++ ds).length = ps.length->BindsTo s fd ⟨us,[]⟩ (ps.zip (us ++ ds))
theorem Binds.all {K:W.Frag} {fd:FuncData} {ps:List Str} (h:∀ us:List Value,us.length = ps.length->bindArgs fd ⟨us,[]⟩ = pure (ps.zip us)):Binds K fd ps []:=fun s us _ hl=>by
 rw [append_nil] at hl ⊢;exact .of_eq (h us hl)
def jE (CX:Hs) (X:Cx) (E:XK):Prop:=∀ (pins:List (Addr × Obj)) (σ:St) (H:Hp) (s:Shared) (e:Value) (s':Shared),Inv X pins σ H s->CX X.stack H s E e s'->X.xe e s'
section
variable {X:Cx} {CX:Hs} {k:Nat} {f C:Addr} {fd:FuncData} {ps:List Str} {sp:Sp} {dvs:List V} {ds:List Value} {E:XK} {x m:Str} {p pos apos:Pos} {e o:Expr} {es:List Expr} {ta:TE} {t:TA}
theorem Lu {pins:List (Addr × Obj)} {σ:St} {H:Hp} {s:Shared} {Q:VK} {us:List Value} {vs:List V} (F:FnOk X.prog X.w X.K X.mg X.base CX k f fd ps sp) (hr:Room k X.A) (hb:Binds X.K fd ps ds) (hd:Vals dvs ds) (hx:jE CX X E)
  (I:Inv X pins σ H s) (r:Vals vs us) (h:sp (vs ++ dvs) H Q E):wpAny (model X.prog X.w) X.A (call (.ref f) us) (EP X pins σ Q) X.xe s:=by
 have r2:Vals (vs ++ dvs) (us ++ ds):=r.append hd;have hl:(us ++ ds).length = ps.length:=by rw [<- r2.length]; exact F.len _ _ _ _ h
 refine wpAny_call (codeAny_mono (F.run X.A X.stack s H ⟨us,[]⟩ (us ++ ds) (vs ++ dvs) Q E hr I.env0 (hb s us I.kIn hl) r2 h) fun r s' hq=>?_);cases r with
 | error e=>exact hx pins σ H s e s' I hq
 | ok fl =>
  cases fl with
  | ret u=>exact I.after hq
  | next=>exact False.elim hq
  | brk=>exact False.elim hq
  | cont=>exact False.elim hq
theorem Tp (F:FnOk X.prog X.w X.K X.mg X.base CX k f fd ps sp) (hr:Room k X.A) (hg:Gl X x) (hm:X.mg x = some (.ref f)) (hk:W.keepIn X.K (.ref f) = true) (hb:Binds X.K fd ps ds) (hd:Vals dvs ds) (hx:jE CX X E)
  (ha:PA X (e :: es) t) (hdb:(x == ("__debug__":Str)) = false:=by decide) (he:starEach (e :: es) X.env = (false,eval e X.env) :: starEach es X.env:=by rfl) (hpl:(backTo pos (starEach es X.env)).any (·.1) = false:=by rfl) :
  PE X (.Call (.Name x p) (e :: es) [] pos) (lE sp dvs E t):=by
 intro pins s σ H Q I h;refine wpAny_Call_Name_kw (oF I hg hm ?_ hdb);refine W.callWith_K (h₀:=X.base) I.ok.mod.kin hk (dO (ha pos pins s σ H _ I h) fun us s1 ⟨vs,H1,I1,r,q⟩=>⟨I1.kIn,?_⟩) he hpl;exact Lu F hr hb hd hx I1 r q
theorem fS {pl:Sem Bool} (he:PE X o ta) (c:Cls X.K C) (hm:Meth X.K C m f) (F:FnOk X.prog X.w X.K X.mg X.base CX k f fd ps sp) (hr:Room k X.A) (hb:Binds X.K fd ps ds) (hd:Vals dvs ds) (hx:jE CX X E) (ha:PA X (e :: es) t)
  (hst:starEach (e :: es) X.env = (false,eval e X.env) :: starEach es X.env:=by rfl) (hpl:(backTo pos (starEach es X.env)).any (·.1) = false:=by rfl)
  (ht:eval (.Call (.Attribute o m apos) (e :: es) [] pos) X.env = (do
   let ov <- eval o X.env
   standAt apos.atName
   let (f,first) <- holding [ov] (getMethod ov m pl)
   callWith pos f first (backTo pos (starEach (e :: es) X.env)) (backToKw pos (keywordEach [] X.env))):=by rfl) :
  PE X (.Call (.Attribute o m apos) (e :: es) [] pos) (Cb C m sp dvs E ta t):=by
 intro pins s σ H Q I h;refine W.methodCall_KW (pl:=pl) (dO (he pins s σ H _ I h) fun u s1 ⟨x,H1,I1,rx,a,dx,fs,ex,ea,l,q⟩=>?_) ht;subst ex;obtain rfl:u = Value.ref a:=rx;refine sM I1 ea c hm l ?_;refine W.callWith_K (first:=[.ref a]) (h₀:=X.base) I.ok.mod.kin hm.kp (dO (ha pos pins s1 σ H1 _ I1 q) fun us s2 ⟨vs,H2,I2,r,q2⟩=>⟨I2.kIn,?_⟩) hst hpl;exact Lu (us:=.ref a :: us) (vs:=.ref a :: vs) F hr hb hd hx I2 (.cons rfl r) q2
structure Mk (K:W.Frag) (C f:Addr):Prop where
 makes:W.makesIn K C = true
 init:W.findIn K (.ref C) "__init__" = some (some (.ref f))
 fn:W.isFn K (.ref f) = true
 kp:W.keepIn K (.ref C) = true
theorem Ls {pins:List (Addr × Obj)} {σ:St} {H:Hp} {s:Shared} {Q:VK} {us:List Value} {vs:List V} (M:Mk X.K C f) (F:FnOk X.prog X.w X.K X.mg X.base CX k f fd ps sp) (hr:Room (k + 1) X.A) (hb:Binds X.K fd ps ds) (hd:Vals dvs ds)
  (hx:jE CX X E) (I:Inv X pins σ H s) (r:Vals vs us)
  (h:∀ x dx,H x = none->H dx = none->dx ≠ x->sp (.ref x :: (vs ++ dvs)) (cX (cX H dx (.own x)) x (.ins C dx [])) (fun v H2=>v = .non/\Q (.ref x) H2) E) :
  wpAny (model X.prog X.w) X.A (call (.ref C) us) (EP X pins σ Q) X.xe s:=by
 have hq:=h (s.heap.objs.size + 1) s.heap.objs.size (I.hok.fresh (Nat.le_succ _)) (I.hok.fresh (le_refl _)) (ne_of_lt (Nat.lt_succ_self _));have I2:=Inv.made (C:=C) I;have r2:Vals (V.ref (s.heap.objs.size + 1) :: (vs ++ dvs)) (Value.ref (s.heap.objs.size + 1) :: (us ++ ds)):=.cons rfl (r.append hd);have hl:(Value.ref (s.heap.objs.size + 1) :: us ++ ds).length = ps.length:=by
  have e:=r2.length;rw [F.len _ _ _ _ hq] at e;exact e.symm
 refine wpAny_call (Ol (f:=f) I.kIn M.makes M.init (beq_iff_eq.mp M.fn) (codeAny_mono (F.run _ X.stack _ _ ⟨Value.ref (s.heap.objs.size + 1) :: us,[]⟩ (Value.ref (s.heap.objs.size + 1) :: (us ++ ds)) _ _ E (hr.make C us [])
  (I2.env0.make C us []) (hb _ (Value.ref (s.heap.objs.size + 1) :: us) I2.kIn hl) r2 hq) fun r s' hq'=>?_))
 cases r with
 | error e=>exact hx pins σ _ _ e s' I2 hq'
 | ok fl =>
  cases fl with
  | ret u =>
   obtain ⟨v,H',I3,rv,ev,q3⟩:=I2.after hq';subst ev;exact ⟨rv,⟨V.ref (s.heap.objs.size + 1),H',I3,rfl,q3⟩⟩
  | next=>exact False.elim hq'
  | brk=>exact False.elim hq'
  | cont=>exact False.elim hq'
theorem Ng (M:Mk X.K C f) (F:FnOk X.prog X.w X.K X.mg X.base CX k f fd ps sp) (hr:Room (k + 1) X.A) (hg:Gl X x) (hm:X.mg x = some (.ref C)) (hb:Binds X.K fd ps ds) (hd:Vals dvs ds) (hx:jE CX X E)
  (hdb:(x == ("__debug__":Str)) = false:=by decide):PE X (.Call (.Name x p) [] [] pos) (Je C sp dvs E jW):=by
 intro pins s σ H Q I h;refine wpAny_Call_Name_kw (oF I hg hm ?_ hdb);exact W.callWith_K0 I.kIn M.kp (Ls (us:=[]) M F hr hb hd hx I .nil h)
end
section
variable {X:Cx} {CX:Hs} {k:Nat} {f C:Addr} {fd:FuncData} {ps ks:List Str} {sp:Sp} {E:XK} {x m:Str} {p pos apos kpos:Pos} {e o:Expr} {es:List Expr} {kws:List Keyword} {te ta:TE} {t tk:TA} {nm:Option Str}
structure KBinds (K:W.Frag) (fd:FuncData) (ps ks:List Str) (g:List Value->List Value->List Value) (gV:List V->List V->List V):Prop where
 to:∀ (s:Shared) (us ws:List Value),K.In s.heap->(g us ws).length = ps.length->BindsTo s fd ⟨us,ks.zip ws⟩ (ps.zip (g us ws))
 rel:∀ {vs:List V} {us:List Value} {zs:List V} {ws:List Value},Vals vs us->Vals zs ws->Vals (gV vs zs) (g us ws)
variable {g:List Value->List Value->List Value} {gV:List V->List V->List V}
end
structure FnScope (N P:List Str) (sc:Scope):Prop where
 kind:sc.kind = .function
 co:sc.isCoroutine = false
 gen:sc.isGenerator = false
 nd:N.Nodup
 pre:N.take P.length = P
 par:∀ x∈P,sc.names.lookup x = some .local\/sc.names.lookup x = some .cell
 nofree:∀ y∈sc.names,y.2 ≠ .free
theorem uY {kindOf:Str->Option NameKind} {x:Str}:∀ {binds:List (Str × Value)} {m:Str->Option Value},(∀ v,(x,v) ∉ binds)->bindL kindOf binds m x = m x
 | [],_,_=>rfl
 | (n,v) :: r,m,h=>by
  unfold bindL;rw [uY fun w hw=>h w (mem_cons_of_mem _ hw)];split
  ·have:x ≠ n:=by rintro rfl; exact h v mem_cons_self
   simp [this]
  ·rfl
theorem vA {kindOf:Str->Option NameKind} {x:Str}:∀ {binds:List (Str × Value)} {m:Str->Option Value},(∀ v,(x,v) ∉ binds)->bindC kindOf binds m x = m x
 | [],_,_=>rfl
 | (n,v) :: r,m,h=>by
  unfold bindC;rw [vA fun w hw=>h w (mem_cons_of_mem _ hw)];split
  ·rfl
  ·have:x ≠ n:=by rintro rfl; exact h v mem_cons_self
   simp [this]
theorem uZ {kindOf:Str->Option NameKind} {x:Str} {v:Value}:∀ {P:List Str} {vs:List Value} {i:Nat} {m:Str->Option Value},P.Nodup->P[i]? = some x->vs[i]? = some v->kindOf x = some .local ->
  bindL kindOf (P.zip vs) m x = some v
 | [],_,_,_,_,h,_,_=>by simp at h
 | _ :: _,[],_,_,_,_,h,_=>by simp at h
 | p :: P,w :: vs,0,m,nd,h1,h2,hk=>by
  simp at h1 h2; subst h1; subst h2;show bindL kindOf ((p,w) :: P.zip vs) m p = _;unfold bindL;rw [uY fun v hv=>(nodup_cons.mp nd).1 (of_mem_zip hv).1,if_pos hk];simp
 | p :: P,w :: vs,i + 1,m,nd,h1,h2,hk=>by
  show bindL kindOf ((p,w) :: P.zip vs) m x = _;unfold bindL;exact uZ (i:=i) (nodup_cons.mp nd).2 (by simpa using h1) (by simpa using h2) hk
theorem vB {kindOf:Str->Option NameKind} {x:Str} {v:Value}:∀ {P:List Str} {vs:List Value} {i:Nat} {m:Str->Option Value},P.Nodup->P[i]? = some x->vs[i]? = some v->kindOf x ≠ some .local ->
  bindC kindOf (P.zip vs) m x = some v
 | [],_,_,_,_,h,_,_=>by simp at h
 | _ :: _,[],_,_,_,_,h,_=>by simp at h
 | p :: P,w :: vs,0,m,nd,h1,h2,hk=>by
  simp at h1 h2; subst h1; subst h2;show bindC kindOf ((p,w) :: P.zip vs) m p = _;unfold bindC;rw [vA fun v hv=>(nodup_cons.mp nd).1 (of_mem_zip hv).1,if_neg hk];simp
 | p :: P,w :: vs,i + 1,m,nd,h1,h2,hk=>by
  show bindC kindOf ((p,w) :: P.zip vs) m x = _;unfold bindC;exact vB (i:=i) (nodup_cons.mp nd).2 (by simpa using h1) (by simpa using h2) hk
def start (N:List Str) (vs:List V):St:=vs.map some ++ replicate (N.length - vs.length) none
def nE (CX:Hs) (P:Program) (w:World) (K:W.Frag) (mg:Str->Option Value) (base:Heap) (N:List Str) (qual:Str) (scope:Scope) (f:Addr) (cd:Value) (A:Around) (outer:List Env) (s:Shared) (H:Hp) (E:XK):Cx where
 prog:=P
 w:=w
 K:=K
 mg:=mg
 base:=base
 A:=A.deeper (envOfC qual scope s.heap.objs.size f cd)
 N:=N
 s₀:=s
 H₀:=H
 env:=envOfC qual scope s.heap.objs.size f cd
 outer:=outer
 stack:=envOfC qual scope s.heap.objs.size f cd :: outer
 ex:=[]
 calm:=true
 fn:=fun _=>true
 pn:=[]
 xe:=fun e s'=>wpAny (model P w) (A.deeper (envOfC qual scope s.heap.objs.size f cd)) (leaving (envOfC qual scope s.heap.objs.size f cd) e) (fun _ s''=>CX outer H s E e s'') (fun e' s''=>CX outer H s E e' s'') s'
theorem zQ {sc:Scope} {n:Nat} {x:Str} (h:sc.names.lookup x = some .cell):∃ c,(cellsFrom n sc.names []).lookup x = some c:=by
 have q:=W.cellsFrom_some sc.names n [] (.inl h);exact isSome_iff_exists.mp q
theorem Gv {CX:Hs} {P:Program} {w:World} {K:W.Frag} {mg:Str->Option Value} {base:Heap} {N ps:List Str} {qual:Str} {scope:Scope} {f:Addr} {cd:Value} {A:Around} {outer:List Env} {s s1:Shared} {H:Hp} {E:XK} {us:List Value} {vs:List V}
  (S:FnScope N ps scope) (hd:A.handled = none) (e0:Env0 P w K mg base A outer s H) (hl:vs.length = ps.length) (r:Vals vs us)
  (x:InCallC s s.heap.objs.size (bindL (envOfC qual scope s.heap.objs.size f cd).kindOf (ps.zip us) fun _=>none) (cellsFrom (s.heap.objs.size + 1) scope.names []) (bindC (envOfC qual scope s.heap.objs.size f cd).kindOf (ps.zip us) fun _=>none) s1) :
  Inv (nE CX P w K mg base N qual scope f cd A outer s H E) [] (start N vs) H s1:=by
 have hpl:ps.length<=N.length:=by have:=congrArg length S.pre; rw [length_take] at this; omega
 obtain ⟨h1,tk,rfl,hk⟩:=x.done;have noA:∀ b:Addr,b ∉ (nE CX P w K mg base N qual scope f cd A outer s H E).ex:=fun b z=>absurd (show b∈([]:List Addr) from z) (by simp)
 refine ⟨⟨e0.mod,S.kind,rfl,rfl,le_refl _,fun y z c h1 h2=>?_,fun y hy=>?_,fun y c _ h=>?_,fun _=>hd,Around.frames_deeper e0.frames,.inr ⟨rfl,rfl⟩,fun b z=>absurd z (noA b),e0.bs,e0.bsz,fun b _ _=>noA b,fun b z=>absurd z (noA b),e0.funs,e0.frf⟩,
  rfl,e0.bare,Un.kept hk,⟨_,x.toInCall.ns,fun i y v h1 h2 h3=>?_⟩,fun y c h=>⟨_,x.cell y c h⟩,e0.hok.fresh (le_refl _),fun y c h=>?_,fun p hp=>absurd (show p∈([]:List (Addr × Obj)) from hp) (by simp),e0.hok.kept hk,?_⟩
 ·exact name_of_addr x.apart (PySem.mem_of_lookup h1) (PySem.mem_of_lookup h2)
 ·have hy:scope.names.lookup y = some .cell\/scope.names.lookup y = some .free:=hy;rcases hy with hy | hy
  ·exact zQ hy
  ·exact absurd rfl (S.nofree _ (PySem.mem_of_lookup hy))
 ·exact le_of_lt (x.above y c (PySem.mem_of_lookup h))
 ·have hi:i < vs.length:=by
   unfold start at h2;by_cases hi:i < vs.length
   ·exact hi
   ·rw [getElem?_append_right (by simpa using hi)] at h2;rw [List.getElem?_replicate] at h2;split at h2 <;> cases h2
  have ha:vs[i]? = some v:=by
   unfold start at h2;rw [getElem?_append_left (by simpa using hi),getElem?_map] at h2;cases e:vs[i]? with
   | none=>rw [e] at h2; cases h2
   | some a=>rw [e] at h2; cases h2; rfl
  obtain ⟨u,hu,rv⟩:=r.get ha;have hp:ps[i]? = some y:=by
   rw [<- S.pre,getElem?_take_of_lt (by omega)]; exact h1
  have ndP:ps.Nodup:=by rw [<- S.pre]; exact S.nd.sublist (List.take_sublist _ _)
  refine ⟨u,rv,?_⟩;rcases S.par y (mem_of_getElem? hp) with k | k
  ·exact .inl ⟨k,uZ ndP hp hu k⟩
  ·obtain ⟨c,e⟩:=zQ (n:=s.heap.objs.size + 1) k;refine .inr ⟨.inl k,c,e,?_⟩;have q:=x.cell y c e;rw [vB ndP hp hu (by show scope.names.lookup y ≠ _; rw [k]; decide)] at q;exact q
 ·exact e0.hok.fresh (le_of_lt (x.above y c (PySem.mem_of_lookup h)))
 ·unfold start;show _ = N.length;rw [length_append,length_map,length_replicate];omega
theorem aJc {CX:Hs} {P:Program} {w:World} {K:W.Frag} {mg:Str->Option Value} {base:Heap} {k:Nat} {f:Addr} {name qual:Str} {params:Arguments} {body:List Stmt} {scope:Scope} {dV kV doc pm cdv ct oc:Value} {an od:Option Addr}
  {osl:Array (Option Value)} {N ps:List Str} {sp:Sp} (lk:K.lookup f = some ⟨oc,od,.func (W.fnOf name qual params body scope dV kV doc pm an cdv ct),osl⟩) (hcd:W.codeIn K cdv qual = true) (S:FnScope N ps scope)
  (len:∀ vs H Q E,sp vs H Q E->vs.length = ps.length)
  (hbody:∀ (A:Around) (outer:List Env) (s:Shared) (H:Hp) (vs:List V) (Q:VK) (E:XK),Room k (A.deeper (envOfC qual scope s.heap.objs.size f cdv))->sp vs H Q E ->
   ∃ t,Br (nE CX P w K mg base N qual scope f cdv A outer s H E) body t/\t { nx:=fun _ H'=>Q .non H',rt:=Q } (start N vs) H) :
  FnOk P w K mg base CX (k + 1) f (W.fnOf name qual params body scope dV kV doc pm an cdv ct) ps sp:=by
 refine ⟨len,fun A outer s H args us vs Q E hr e0 hb r hsp=>?_⟩;have hl:=len _ _ _ _ hsp;have KX:K.In s.heap:=e0.mod.kin.keeps fun b o e=>(e0.bs b o e).1;have lim:s.heap.NoLimit:=e0.mod.nolimit.keeps fun b o e=>(e0.bs b o e).1;have hkind:∀ y∈ps.zip us,scope.names.lookup y.1 = some .local\/(scope.names.lookup y.1 = some .cell/\((cellsFrom (s.heap.objs.size + 1) scope.names []).lookup y.1).isSome = true):=fun ⟨n,v⟩ hy=>by
  rcases S.par n (of_mem_zip hy).1 with q | q
  ·exact .inl q
  ·exact .inr ⟨q,W.cellsFrom_some _ _ _ (.inl q)⟩
 refine codeAny_call_function hr.depth (KX _ _ lk) rfl S.co S.gen rfl (W.codeRec_of KX hcd) (hb _ _ _ _ ?_);refine wpAny_newFunctionEnv_cells S.kind hkind fun env he s1 x=>?_;subst he;refine ⟨lim.keeps x.toInCall.keep,codeAny_func ?_⟩;obtain ⟨t,ht,hq⟩:=hbody A outer s H vs Q E (hr.deeper _) hsp;have I:Inv (nE CX P w K mg base N qual scope f cdv A outer s H E) [] (start N vs) H s1:=Gv S hr.hd e0 hl r x;refine wpAny_mono (ht [] s1 (start N vs) H _ I hq) (fun fl s' hs=>?_) fun e s' hs=>hs;have fin:∀ {σ':St} {H':Hp} {v:V} {u:Value},Inv (nE CX P w K mg base N qual scope f cdv A outer s H E) [] σ' H' s'->RelV v u->Q v H'->CE outer P w H s Q u s' :=
  fun {σ' H' v u} J rv q=>⟨v,H',J.os,J.bare,J.base,J.hok,rv,q⟩
 cases fl with
 | ret u =>
  obtain ⟨v,σ',H',J,rv,q⟩:=hs;exact fin J rv q
 | next =>
  obtain ⟨σ',H',J,q⟩:=hs;exact fin (v:=V.non) (u:=Value.none) J rfl q
 | brk =>
  obtain ⟨_,_,_,q⟩:=hs;exact False.elim q
 | cont =>
  obtain ⟨_,_,_,q⟩:=hs;exact False.elim q
section
variable {X:Cx} {x:Str} {p pos:Pos} {e:Expr} {es:List Expr} {t:TA} {id T:String} {r:List V->Hp->VK->Prop}
def Zb (r:List V->Hp->VK->Prop) (t:TA):TE:=fun σ H Q=>t σ H fun vs H1=>r vs H1 Q
theorem bI (hc:gC X (.builtin id) r) (hg:Gl X x) (hm:X.mg x = none) (hv:bootBuiltins x = some (.builtin id)) (ha:PA X (e :: es) t) (hn:x ≠ "__name__":=by decide) (hdb:(x == ("__debug__":Str)) = false:=by decide)
  (he:starEach (e :: es) X.env = (false,eval e X.env) :: starEach es X.env:=by rfl) (hpl:(backTo pos (starEach es X.env)).any (·.1) = false:=by rfl):PE X (.Call (.Name x p) (e :: es) [] pos) (Zb r t):=by
 intro pins s σ H Q I h;refine wpAny_Call_Name_kw (lR I hg hm hv ?_ hn hdb);exact PyProof.Rows.callWith_builtin1 (dO (ha pos pins s σ H _ I h) fun us s1 ⟨vs,H1,I1,r1,q1⟩=>hc pins s1 σ H1 vs us Q I1 r1 q1) he hpl
theorem cM (hc:gC X (.type T) r) (hg:Gl X x) (hm:X.mg x = none) (hv:bootBuiltins x = some (.type T)) (ha:PA X (e :: es) t) (hn:x ≠ "__name__":=by decide) (hdb:(x == ("__debug__":Str)) = false:=by decide)
  (he:starEach (e :: es) X.env = (false,eval e X.env) :: starEach es X.env:=by rfl) (hpl:(backTo pos (starEach es X.env)).any (·.1) = false:=by rfl):PE X (.Call (.Name x p) (e :: es) [] pos) (Zb r t):=by
 intro pins s σ H Q I h;refine wpAny_Call_Name_kw (lR I hg hm hv ?_ hn hdb);exact PyProof.Rows.callWith_type1 (dO (ha pos pins s σ H _ I h) fun us s1 ⟨vs,H1,I1,r1,q1⟩=>hc pins s1 σ H1 vs us Q I1 r1 q1) he hpl
end
end L2
namespace HT
open PySem PyProof.Rows
section
variable {prog:Program} {w:World} {A:Around} {E:Value->Shared->Prop} {s:Shared}
def sIx (n d:Nat):Option Int->Nat
 | none=>d
 | some v=>if v < 0 then (v + (n:Int)).toNat else min v.toNat n
theorem sIx_none (n d:Nat):sIx n d none = d:=rfl
theorem sIx_nat (n d k:Nat):sIx n d (some (k:Int)) = min k n:=by
 show (if (k:Int) < 0 then ((k:Int) + (n:Int)).toNat else min (k:Int).toNat n) = min k n;rw [if_neg (by omega),toNat_natCast]
end
end HT
namespace L2
open PySem PySem.Spec PyProof.Rows
abbrev TO:=St->Hp->(Option Int->Hp->Prop)->Prop
def PO (X:Cx) (e:Option Expr) (t:TO):Prop :=
 ∀ (pins:List (Addr × Obj)) (s:Shared) (σ:St) (H:Hp) (Q:Option Int->Hp->Prop),Inv X pins σ H s->t σ H Q ->
  wpAny (model X.prog X.w) X.A (evalPart e X.env) (fun u s'=>∃ o H',Inv X pins σ H' s'/\IsPart u o/\Q o H') X.xe s
def Bz:TO:=fun _ H Q=>Q none H
def Vy (t:TE):TO:=fun σ H Q=>t σ H fun x H1=>∃ i,x = .int i/\Q (some i) H1
section
variable {X:Cx} {e:Expr} {te:TE} {lo hi:Option Expr} {tl th:TO} {pos p2:Pos}
theorem gL:PO X none Bz:=by
 intro pins s σ H Q I h;rw [evalPart_none];exact wpAny_pure ⟨none,H,I,.none,h⟩
theorem eQ (h:PE X e te):PO X (some e) (Vy te):=by
 intro pins s σ H Q I hw;rw [evalPart_some];refine dO (h pins s σ H _ I hw) fun u s1 ⟨x,H1,I1,r1,q1⟩=>?_;obtain ⟨i,rfl,q⟩:=q1;obtain ⟨t,rfl⟩:=r1;exact ⟨some i,H1,I1,.int i t,q⟩
def SlR (X:Cx) (r:V->Option Int->Option Int->Hp->VK->Prop):Prop :=
 ∀ (pins:List (Addr × Obj)) (s:Shared) (σ:St) (H:Hp) (x:V) (v vl vu:Value) (lo hi:Option Int) (sl:Addr) (Q:VK),Inv X pins σ H s->RelV x v->s.heap.IsSliceOf sl vl vu .none->IsPart vl lo->IsPart vu hi->r x lo hi H Q ->
  ∃ T id,typeLookup (.type T) "__getitem__" = pure (some (.builtin id))/\s.TypeIs v T/\wpAny (model X.prog X.w) X.A (getItem v (.ref sl)) (EP X pins σ Q) X.xe s
def tSl (r:V->Option Int->Option Int->Hp->VK->Prop) (te:TE) (tl th:TO):TE:=fun σ H Q=>te σ H fun x H1=>tl σ H1 fun l H2=>th σ H2 fun u H3=>r x l u H3 Q
theorem eM {r:V->Option Int->Option Int->Hp->VK->Prop} (hr:SlR X r) (he:PE X e te) (hl:PO X lo tl) (hu:PO X hi th):PE X (.Subscript e (.Slice lo hi none p2) pos) (tSl r te tl th):=by
 intro pins s σ H Q I h;refine Subscript_ (dO (he pins s σ H _ I h) fun v s1 ⟨x,H1,I1,r1,q1⟩=>?_);refine wpAny_Slice (dO (hl pins s1 σ H1 _ I1 q1) fun vl s2 ⟨l,H2,I2,pl,q2⟩=>dO (hu pins s2 σ H2 _ I2 q2) fun vu s3 ⟨u,H3,I3,pu,q3⟩=>?_);rw [evalPart_none];refine wpAny_pure ?_;have I4:Inv X pins σ H3 { s3 with heap:=s3.heap.push { cls:=.type "slice",data:=.fields #[vl,vu,.none] } }:=I3.kept (t':=s3.toks) fun b ob q=>get?_push_of_some _ q;obtain ⟨T,id,hT,ht,hg⟩:=hr pins { s3 with heap:=s3.heap.push { cls:=.type "slice",data:=.fields #[vl,vu,.none] } } σ H3 x v vl vu l u s3.heap.objs.size Q I4 r1 (Heap.IsSliceOf.new ..) pl pu q3;show wpAny (model X.prog X.w) X.A (subscriptTail e (.Slice lo hi none p2) v (.ref s3.heap.objs.size)) (EP X pins σ Q) X.xe { s3 with heap:=s3.heap.push { cls:=.type "slice",data:=.fields #[vl,vu,.none] } };exact tail_any (ops:=[.ref s3.heap.objs.size,v]) ht hT hg (by with_unfolding_all rfl)
def Bn (xs:List V) (lo hi:Option Int):List V:=(xs.drop (HT.sIx xs.length 0 lo)).take (HT.sIx xs.length xs.length hi - HT.sIx xs.length 0 lo)
theorem zP (xs:List V) (lo hi:Option Int):(Bn xs lo hi).length<=xs.length:=by
 unfold Bn;rw [length_take,length_drop];omega
end
def Hv (n:Nat) (i:Int):Option Nat:=if 0<=i then (if i < n then some i.toNat else none) else if -(n:Int)<=i then some (i + n).toNat else none
def lA {α:Type} (xs:List α) (i:Int):Option α:=(Hv xs.length i).bind fun j=>xs[j]?
theorem Dv {n:Nat} {i:Int} {j:Nat} (h:Hv n i = some j):seqIndex? i n = some j/\j < n/\-(n:Int)<=i/\i < n:=by
 unfold Hv at h;by_cases h0:0<=i
 ·rw [if_pos h0] at h;by_cases h1:i < n
  ·rw [if_pos h1] at h;have e:i.toNat = j:=Option.some.inj h;exact ⟨by rw [seqIndex_of h0 h1,e],by omega,by omega,h1⟩
  ·rw [if_neg h1] at h; cases h
 ·rw [if_neg h0] at h;by_cases h1:-(n:Int)<=i
  ·rw [if_pos h1] at h;have e:(i + n).toNat = j:=Option.some.inj h;exact ⟨by rw [seqIndex_neg (by omega) h1,e],by omega,h1,by omega⟩
  ·rw [if_neg h1] at h; cases h
theorem wZ {α:Type} {xs:List α} {i:Int} {v:α} (h:lA xs i = some v):∃ j,seqIndex? i xs.length = some j/\xs[j]? = some v/\j < xs.length/\-(xs.length:Int)<=i/\i < xs.length:=by
 unfold lA at h;cases e:Hv xs.length i with
 | none=>rw [e] at h; cases h
 | some j =>
  rw [e] at h;obtain ⟨h1,h2,h3,h4⟩:=Dv e;exact ⟨j,h1,h,h2,h3,h4⟩
theorem cW {α:Type} {xs:List α} {j:Nat} {v:α} (h:xs[j]? = some v):lA xs (j:Int) = some v:=by
 have hj:j < xs.length:=(List.getElem?_eq_some_iff.mp h).1;have e:Hv xs.length (j:Int) = some j:=by
  unfold Hv;rw [if_pos (by omega),if_pos (by omega)]; simp
 unfold lA; rw [e]; exact h
def Vv (b:Expr):Prop:=∀ o i,subscripted b false o i = operate [o,i] (getItem o i)
def IxR (X:Cx) (r:R2):Prop :=
 ∀ (value slice:Expr) (pins:List (Addr × Obj)) (s:Shared) (σ:St) (H:Hp) (x y:V) (v u:Value) (Q:VK),Inv X pins σ H s->RelV x v->RelV y u->r x y H Q ->
  subscripted slice false v u = operate [v,u] (getItem v u)->wpAny (model X.prog X.w) X.A (subscriptTail value slice v u) (EP X pins σ Q) X.xe s
def MtR (X:Cx) (id:String) (r:V->List V->Hp->VK->Prop):Prop :=
 ∀ (pins:List (Addr × Obj)) (s:Shared) (σ:St) (H:Hp) (x:V) (xs:List V) (v:Value) (us:List Value) (Q:VK),Inv X pins σ H s->RelV x v->Vals xs us->r x xs H Q ->
  wpAny (model X.prog X.w) X.A (call (.builtin id) (v :: us)) (EP X pins σ Q) X.xe s
section
variable {X:Cx} {a b:Expr} {ta tb:TE} {pos:Pos}
theorem dH {r:R2} (hr:IxR X r) (ha:PE X a ta) (hb:PE X b tb) (hs:Vv b):PE X (.Subscript a b pos) (xD r ta tb):=by
 intro pins s σ H Q I h;exact Subscript_ (aEt ha hb I h fun v u s2 x y H2 I2 rx ry q=>hr a b pins s2 σ H2 x y v u Q I2 rx ry q (hs _ _))
def Tg (K:W.Frag):R2:=fun x y H Q=>∃ p xs i v,x = .ref p/\y = .int i/\SqL K H p xs/\lA xs i = some v/\Q v H
def Mt (K:W.Frag):R2:=fun x y H Q=>∃ p xs i v,x = .ref p/\y = .int i/\SqT K H p xs/\lA xs i = some v/\Q v H
def aHq:R2:=fun x y H Q=>∃ z i c,x = .str z/\y = .int i/\z.length<=sizeLine/\lA z.cps.toList i = some c/\Q (.str ⟨#[c]⟩) H
theorem Us:IxR X (Tg X.K):=by
 intro value slice pins s σ H x y v u Q I rx ry h hs;obtain ⟨p,xs,i,z,rfl,rfl,hq,he,q⟩:=h;cases rx;obtain ⟨t,rfl⟩:=ry;obtain ⟨its,r,pl,hz⟩:=I.list hq;obtain ⟨j,h1,h2,h3,h4,h5⟩:=wZ he;obtain ⟨w,ew,rw'⟩:=r.get h2;have hl:=r.length;have hn:=mX;have fin:EP X pins σ Q w s:=⟨z,H,I,rw',q⟩;by_cases h0:0<=i
 ·have hj:i.toNat = j:=by
   rw [seqIndex_of h0 h5] at h1;exact Option.some.inj h1
  exact item_listR pl.isList h0 (by omega) (by rw [hj]; simpa using ew) fin hs
 ·have hj:(i + (its.toArray.size:Int)).toNat = j:=by
   rw [seqIndex_neg (by omega) h4] at h1;rw [size_toArray,<- hl];exact Option.some.inj h1
  exact subscriptTail_builtinR (x:=w) pl.isList.typeIs slot_list_getitem.lookup
   (wpAny_getItem_list_neg (Q:=fun r s'=>r = w/\EP X pins σ Q r s') pl.isList (by omega) (by rw [size_toArray] <;> omega) (by omega) (by rw [hj]; simpa using ew) ⟨rfl,fin⟩) hs
theorem aDo:IxR X (Mt X.K):=by
 intro value slice pins s σ H x y v u Q I rx ry h hs;obtain ⟨p,xs,i,z,rfl,rfl,hq,he,q⟩:=h;cases rx;obtain ⟨t,rfl⟩:=ry;obtain ⟨its,r,pl,hz⟩:=I.tuple hq;obtain ⟨j,h1,h2,h3,h4,h5⟩:=wZ he;obtain ⟨w,ew,rw'⟩:=r.get h2;have hl:=r.length;have hn:=mX;have fin:EP X pins σ Q w s:=⟨z,H,I,rw',q⟩;exact subscriptTail_builtinR (x:=w) pl.typeIs slot_tuple_getitem.lookup
  (getItem_tuple (j:=j) (Q:=fun r s'=>r = w/\EP X pins σ Q r s') pl (by omega) (by omega) (by rw [size_toArray,<- hl]; exact h1) (by simpa using ew) ⟨rfl,fin⟩) hs
theorem pU:IxR X aHq:=by
 intro value slice pins s σ H x y v u Q I rx ry h hs;obtain ⟨z,i,c,rfl,rfl,hz,he,q⟩:=h;obtain ⟨t,rfl⟩:=rx;obtain ⟨t',rfl⟩:=ry;obtain ⟨j,h1,h2,h3,h4,h5⟩:=wZ he;have hl:z.cps.toList.length = z.length:=by simp [Str.length]
 rw [hl] at h1 h4 h5;have hn:=mX
 exact tail_any (typeIs_str s z t) slot_str_getitem.lookup (getItem_str (c:=c) (by
  have e1:decide (i < -(2 ^ 63:Int)) = false:=decide_eq_false (by omega)
  have e2:decide (i >= 2 ^ 63) = false:=decide_eq_false (by omega)
  rw [e1,e2,Bool.or_false]) (by rw [h1]; simpa using h2) ⟨.str ⟨#[c]⟩,H,I.tok _,⟨_,rfl⟩,q⟩) hs
theorem Av (its:List Value) (n j:Nat) (u:Value):Obj.mapSeq (·.setIfInBounds j u) { cls:=.type "list",data:=.seq its.toArray n } = { cls:=.type "list",data:=.seq (its.set j u).toArray n }:=by
 simp [Obj.mapSeq]
theorem Inv.lst {pins:List (Addr × Obj)} {σ:St} {H:Hp} {s:Shared} {p:Addr} {xs:List V} (I:Inv X pins σ H s) (h:H p = some (.lst xs)) :
  ∃ (its:List Value) (n:Nat),Vals xs its/\s.heap.get? p = some { cls:=.type "list",data:=.seq its.toArray n }/\xs.length<=sizeLine:=by
 obtain ⟨z,its,n,r,e⟩:=I.hok p _ h;exact ⟨its,n,r,e,z⟩
theorem Inv.lstUpd {pins:List (Addr × Obj)} {σ:St} {H:Hp} {s:Shared} {p:Addr} {xs ys:List V} {its its':List Value} {n n':Nat} {f:Obj->Obj} (I:Inv X pins σ H s) (h:H p = some (.lst xs))
  (ho:s.heap.get? p = some { cls:=.type "list",data:=.seq its.toArray n }) (hf:f { cls:=.type "list",data:=.seq its.toArray n } = { cls:=.type "list",data:=.seq its'.toArray n' }) (r:Vals ys its') (hz:ys.length<=sizeLine) (t:Nat) :
  Inv X pins σ (cX H p (.lst ys)) { s with heap:=s.heap.update p f,toks:=t }:=by
 have e:(s.heap.update p f).get? p = some { cls:=.type "list",data:=.seq its'.toArray n' }:=by
  rw [get?_update_self f ho (by rw [hf] <;> rfl),hf]
 refine I.write (x:=p) (e:=p) (by rw [h]; trivial) (.inl rfl) (fun b u hb q=>(get?_update_other _ _ (Ne.symm hb)).trans q) ⟨_,e⟩ ?_;exact ⟨hz,its',n',r,e⟩
def Wi:V->V->V->Hp->(Hp->Prop)->Prop:=fun o i v H Q=>∃ p xs k j,o = .ref p/\i = .int k/\H p = some (.lst xs)/\Hv xs.length k = some j/\Q (cX H p (.lst (xs.set j v)))
theorem yB:aKr X Wi:=by
 intro pins s σ H o i v ov iv u Q I ro ri rv h;obtain ⟨p,xs,k,j,rfl,rfl,hp,hj,q⟩:=h;cases ro;obtain ⟨t,rfl⟩:=ri;obtain ⟨its,n,r,ho,hz⟩:=I.lst hp;obtain ⟨h1,h2,h3,h4⟩:=Dv hj;have hl:=r.length;have hn:=mX;have I':Inv X pins σ (cX H p (.lst (xs.set j v))) { s with heap:=s.heap.update p (Obj.mapSeq (·.setIfInBounds j u)) } :=
  I.lstUpd hp ho (Av its n j u) (r.set rv j) (by rw [length_set]; exact hz) s.toks
 by_cases h0:0<=k
 ·have hk:k.toNat = j:=by
   rw [seqIndex_of h0 h4] at h1;exact Option.some.inj h1
  exact W.ki_setAt ho h0 (by omega) (by rw [size_toArray,<- hl]; exact h4) (by rw [hk]; exact ⟨_,I',q⟩)
 ·have hk:(k + (its.toArray.size:Int)).toNat = j:=by
   rw [seqIndex_neg (by omega) h3] at h1;rw [size_toArray,<- hl];exact Option.some.inj h1
  exact W.ki_setBack ho (by omega) (by rw [size_toArray,<- hl]; exact h3) (by omega) (by rw [hk]; exact ⟨_,I',q⟩)
theorem vN (lo hi:Option Int) (n:Nat):(sliceBounds lo hi none n).1 = ((HT.sIx n 0 lo:Nat):Int)/\(sliceBounds lo hi none n).2.1 = ((HT.sIx n n hi:Nat):Int)/\(sliceBounds lo hi none n).2.2 = 1:=by
 refine ⟨?_,?_,rfl⟩
 ·cases lo with
  | none=>simp [sliceBounds,HT.sIx]
  | some i =>
   simp only [sliceBounds,HT.sIx,Option.getD_none,show (1:Int) > 0 by decide,if_true];by_cases h:i < 0
   ·simp only [h,if_true] <;> omega
   ·simp only [h,if_false] <;> omega
 ·cases hi with
  | none=>simp [sliceBounds,HT.sIx]
  | some i =>
   simp only [sliceBounds,HT.sIx,Option.getD_none,show (1:Int) > 0 by decide,if_true];by_cases h:i < 0
   ·simp only [h,if_true] <;> omega
   ·simp only [h,if_false] <;> omega
theorem tI (its:List Value) (lo hi:Option Int):slicePick its.toArray lo hi none = ((its.drop (HT.sIx its.length 0 lo)).take (HT.sIx its.length its.length hi - HT.sIx its.length 0 lo)).toArray:=by
 obtain ⟨h1,h2,h3⟩:=vN lo hi its.toArray.size;unfold slicePick;rw [h1,h2,h3];simp only [sliceRange_one,pick_run,size_toArray] <;> rfl
def aBf (K:W.Frag):V->Option Int->Option Int->Hp->VK->Prop:=fun x lo hi H Q=>∃ a xs,x = .ref a/\SqL K H a xs/\∀ p,H p = none->Q (.ref p) (cX H p (.lst (Bn xs lo hi)))
theorem Sv:SlR X (aBf X.K):=by
 intro pins s σ H x v vl vu lo hi sl Q I rx hs pl pu h;obtain ⟨a,xs,rfl,hx,q⟩:=h;cases rx;obtain ⟨its,r,ht,hz⟩:=I.list hx;have hlen:=r.length;refine ⟨"list",_,slot_list_getitem.lookup,ht.isList.typeIs,?_⟩;refine wpAny_getItem_list_slice ht.isList hs pl pu .none (by simp) ?_ (by rw [size_toArray] <;> omega);rw [tI,<- hlen];refine ⟨.ref s.heap.objs.size,_,I.laid (t':=s.toks) (o:=.lst (Bn xs lo hi)) (fun b ob q=>get?_push_of_some _ q) (le_refl _) ?_,rfl,q _ (I.hok.fresh (le_refl _))⟩;exact ⟨le_trans (zP xs lo hi) hz,_,0,(r.drop (HT.sIx xs.length 0 lo)).take (HT.sIx xs.length xs.length hi - HT.sIx xs.length 0 lo),get?_push_size _ rfl⟩
theorem wW:gC X (.builtin "len") (fun xs H Q=>∃ p ys,xs = [.ref p]/\(SqL X.K H p ys\/SqT X.K H p ys)/\Q (.int ys.length) H):=by
 intro pins s σ H xs us Q I r h;obtain ⟨p,ys,rfl,hq,q⟩:=h;obtain ⟨u,rfl,rx⟩:=iR r;cases rx;have hn:=mX;rcases hq with hq | hq
 ·obtain ⟨its,r',pl,hz⟩:=I.list hq;have hlen:=r'.length;exact Calls.call_len_list pl.isList (by simp only [size_toArray] <;> omega) ⟨.int ys.length,H,I.tok _,⟨s.toks + 1,by rw [size_toArray,hlen]⟩,q⟩
 ·obtain ⟨its,r',pl,hz⟩:=I.tuple hq;have hlen:=r'.length;exact len_tuple pl (by simp only [size_toArray] <;> omega) ⟨.int ys.length,H,I.tok _,⟨s.toks + 1,by rw [size_toArray,hlen]⟩,q⟩
theorem eK:gC X (.builtin "len") (fun xs H Q=>∃ z,xs = [.str z]/\z.length<=sizeLine/\Q (.int z.length) H):=by
 intro pins s σ H xs us Q I r h;obtain ⟨z,rfl,hz,q⟩:=h;obtain ⟨u,rfl,t,rfl⟩:=iR r;have hn:=mX;exact len_str (by omega) ⟨.int z.length,H,I.tok _,⟨_,rfl⟩,q⟩
theorem wV:gC X (.type "list") (fun xs H Q=>∃ p ys,xs = [.ref p]/\(SqL X.K H p ys\/SqT X.K H p ys)/\∀ l,H l = none->Q (.ref l) (cX H l (.lst ys))):=by
 intro pins s σ H xs us Q I r h;obtain ⟨p,ys,rfl,hq,q⟩:=h;obtain ⟨u,rfl,rx⟩:=iR r;cases rx;have fin:∀ (its:List Value),Vals ys its->ys.length<=sizeLine->∀ (h':Heap) (c':Nat),(∀ b o',s.heap.get? b = some o'->h'.get? b = some o') ->
   h'.get? s.heap.objs.size = some { cls:=.type "list",dict:=none,data:=.seq its.toArray c',slots:=#[] }->EP X pins σ Q (.ref s.heap.objs.size) { s with heap:=h' }:=fun its r' hz h' c' kp e =>
  ⟨.ref s.heap.objs.size,_,I.laid (t':=s.toks) kp (le_refl _) (show ObjOk X.prog X.w _ h' _ (.lst ys) from ⟨hz,its,c',r',e⟩),rfl,q _ (I.hok.fresh (le_refl _))⟩
 rcases hq with hq | hq
 ·obtain ⟨its,r',pl,hz⟩:=I.list hq;have hlen:=r'.length;obtain ⟨o,ho,hc,n,hd⟩:=pl.isList;exact call_list_seq p (.inl rfl) ho hc hd (fun h' c' kp e=>fin its r' hz h' c' kp e) (by simp only [size_toArray] <;> omega)
 ·obtain ⟨its,r',pl,hz⟩:=I.tuple hq;have hlen:=r'.length;obtain ⟨o,ho,hc,n,hd⟩:=pl;exact call_list_seq p (.inr rfl) ho hc hd (fun h' c' kp e=>fin its r' hz h' c' kp e) (by simp only [size_toArray] <;> omega)
def tyV (K:W.Frag) (T:String) (x:V) (H:Hp):Prop:=match x with
 | .str _=>T = "str"
 | .int _=>T = "int"
 | .ref p=>(T = "list"/\∃ xs,SqL K H p xs)\/(T = "tuple"/\∃ o,K.lookup p = some o/\o.cls = .type "tuple"/\o.dict = none) \/
   (T = "dict"/\((∃ kvs,H p = some (.dK kvs))\/∃ kvs,H p = some (.dT kvs)))\/(T = "set"/\∃ S n,H p = some (.set S n))
 | _=>False
theorem Yt {pins:List (Addr × Obj)} {σ:St} {H:Hp} {s:Shared} {T:String} {x:V} {v:Value} (I:Inv X pins σ H s) (r:RelV x v) (ty:tyV X.K T x H) :
  s.TypeIs v T/\∀ a,v = .ref a->∃ ob,s.heap.get? a = some ob/\ob.dict = none:=by
 cases x with
 | str z =>
  obtain ⟨t,rfl⟩:=r;cases (show T = "str" from ty);exact ⟨typeIs_str s z t,fun _ e=>nomatch e⟩
 | int i =>
  obtain ⟨t,rfl⟩:=r;cases (show T = "int" from ty);exact ⟨typeIs_int s i t,fun _ e=>nomatch e⟩
 | ref p =>
  cases r;rcases ty with ⟨rfl,xs,hq⟩ | ⟨rfl,o,hk,hc,hd⟩ | ⟨rfl,hk⟩ | ⟨rfl,S,n,hk⟩
  ·obtain ⟨its,_,pl,_⟩:=I.list hq;refine ⟨pl.isList.typeIs,fun a e=>?_⟩;cases e;obtain ⟨o,n,e,c,hd,_⟩:=pl;exact ⟨o,e,hd⟩
  ·refine ⟨⟨o,I.kIn p o hk,hc⟩,fun a e=>?_⟩;cases e;exact ⟨o,I.kIn _ o hk,hd⟩
  ·have z:∃ o,s.heap.get? p = some o/\o.ExactDict:=by
    rcases hk with ⟨kvs,hk⟩ | ⟨kvs,hk⟩
    ·obtain ⟨_,_,_,_,o,_,_,e,ex,_⟩:=I.hok p _ hk;exact ⟨o,e,ex⟩
    ·obtain ⟨_,_,_,_,o,_,_,e,ex,_⟩:=I.hok p _ hk;exact ⟨o,e,ex⟩
   obtain ⟨o,e,ex⟩:=z;refine ⟨⟨o,e,ex.1⟩,fun a e2=>?_⟩;cases e2;exact ⟨o,e,ex.2.1⟩
  ·obtain ⟨o,_,_,_,e,ex,_⟩:=I.hok p _ hk;refine ⟨⟨o,e,ex.1⟩,fun a e2=>?_⟩;cases e2;exact ⟨o,e,ex.2.1⟩
 | _=>exact False.elim ty
def tBM (K:W.Frag) (T:String) (r:V->List V->Hp->VK->Prop) (to:TE) (t:TA):TE:=fun σ H Q=>to σ H fun x H1=>tyV K T x H1/\t σ H1 fun xs H2=>r x xs H2 Q
variable {o e:Expr} {es:List Expr} {to:TE} {t:TA} {name:Str} {apos cpos:Pos} {T id:String} {r:V->List V->Hp->VK->Prop}
theorem fZ (pa:PlainAttrs T) (slot:Slot T name id) (hty:typeOf (.builtin id) = pure (.type "method_descriptor")) (hm:MtR X id r) (ho:PE X o to) (ha:PA X (e :: es) t)
  (hbase:attributeBase o name X.env (eval o X.env) = eval o X.env:=by rfl)
  (hfew:((backTo cpos (starEach (e :: es) X.env)).all (fun x=>!x.1) && (backToKw cpos (keywordEach [] X.env)).all (fun x=>x.1.isSome)
   && decide ((e :: es).length + ([]:List Keyword).length + (if ([]:List Keyword).isEmpty then 0 else 1) < 30)) = true:=by rfl)
  (hline:(apos.endLine == cpos.line) = true:=by rfl) (hs:starEach (e :: es) X.env = (false,eval e X.env) :: starEach es X.env:=by rfl) (hplain:(backTo cpos (starEach es X.env)).any (·.1) = false:=by rfl) :
  PE X (.Call (.Attribute o name apos) (e :: es) [] cpos) (tBM X.K T r to t):=by
 intro pins s σ H Q I h;refine wpAny_Call_method_late hbase hfew hline rfl (dO (ho pins s σ H _ I h) fun v s1 ⟨x,H1,I1,r1,ty,q1⟩=>?_);obtain ⟨h1,h2⟩:=Yt I1 r1 ty;refine ⟨T,id,pa,slot,hty,h1,h2,?_⟩;have hA:=ha cpos pins s1 σ H1 _ I1 q1;rw [hs] at hA ⊢;refine Calls.callWith_builtin (by show (false || (backTo cpos (starEach es X.env)).any (·.1)) = false; rw [hplain] <;> rfl) (Calls.evalArgs_plain ?_);exact dO hA fun us s2 ⟨vs,H2,I2,r2,q2⟩=>hm pins s2 σ H2 x vs v us Q I2 r1 r2 q2
end
def MtM (X:Cx) (id:String) (r:V->List V->Hp->VK->Prop):Prop :=
 ∀ (pins:List (Addr × Obj)) (s:Shared) (σ:St) (H:Hp) (x:V) (xs:List V) (v:Value) (us:List Value) (Q:VK),Inv X pins σ H s->RelV x v->Vals xs us->r x xs H Q ->
  wpAny (model X.prog X.w) X.A (call (.builtin id) (v :: us)) (EP X pins σ Q) X.xe s
theorem Vals.one:∀ {x:V} {us:List Value},Vals [x] us->∃ u,us = [u]/\RelV x u
 | _,_,.cons r .nil=>⟨_,rfl,r⟩
theorem Vals.rep {xs:List V} {us:List Value} (h:Vals xs us):∀ k:Nat,Vals (replicate k xs).flatten (replicate k us).flatten
 | 0=>.nil
 | k + 1=>by
  rw [replicate_succ,replicate_succ,flatten_cons,flatten_cons];exact Vals.append h (Vals.rep h k)
theorem uN (its:List Value):∀ (k:Nat) (acc:List Value),
  foldl (fun x1 x2=>x1 ++ x2) acc.toArray (replicate k its.toArray) = (acc ++ (replicate k its).flatten).toArray
 | 0,acc=>by simp
 | k + 1,acc=>by
  have e:acc.toArray ++ its.toArray = (acc ++ its).toArray:=by simp
  have e2:(acc ++ its) ++ (replicate k its).flatten = acc ++ (replicate (k + 1) its).flatten:=by
   rw [replicate_succ,flatten_cons,append_assoc]
  rw [<- e2,<- uN its k (acc ++ its),<- e,replicate_succ,foldl_cons]
section
variable {X:Cx} {pins:List (Addr × Obj)} {σ:St} {H:Hp} {s:Shared} {l b:Addr} {xs ys zs:List V}
theorem Inv.lset {its its':List Value} {n:Nat} {f:Array Value->Array Value} {t':Nat} (I:Inv X pins σ H s) (hH:H l = some (.lst xs))
  (e:s.heap.get? l = some { cls:=.type "list",data:=.seq its.toArray n }) (hf:f its.toArray = its'.toArray) (hv:Vals ys its') (hz:ys.length<=sizeLine) :
  Inv X pins σ (cX H l (.lst ys)) { s with heap:=s.heap.update l (Obj.mapSeq f),toks:=t' }:=by
 have q:=PySem.IsL.update e f;rw [hf] at q;refine I.write (x:=l) (e:=l) (by rw [hH]; exact trivial) (.inl rfl) (fun b' u hb hu=>(get?_update_other s.heap (Obj.mapSeq f) (Ne.symm hb)).trans hu) ⟨_,q⟩ ?_;exact ⟨hz,its',_,hv,q⟩
theorem Inv.lnew {its:List Value} {t':Nat} (I:Inv X pins σ H s) (hv:Vals ys its) (hz:ys.length<=sizeLine) :
  Inv X pins σ (cX H s.heap.objs.size (.lst ys)) { s with heap:=s.heap.push { cls:=.type "list",data:=.seq its.toArray },toks:=t' } :=
 I.laid (fun _ _ q=>get?_push_of_some _ q) (le_refl _) ⟨hz,its,0,hv,get?_push_size _ rfl⟩
theorem Inv.fresh (I:Inv X pins σ H s):H s.heap.objs.size = none:=I.hok.fresh (le_refl _)
theorem Inv.lstM (I:Inv X pins σ H s) (hH:H l = some (.lst xs)):xs.length<=sizeLine/\∃ (its:List Value) (n:Nat),Vals xs its/\xs.length = its.length/\s.heap.get? l = some { cls:=.type "list",data:=.seq its.toArray n }:=by
 obtain ⟨z,its,n,r,e⟩:=I.hok l _ hH;exact ⟨z,its,n,r,r.length,e⟩
theorem Ob {n:Nat} (h:n<=sizeLine):Builtin.List.listTooLong n = false:=by
 unfold Builtin.List.listTooLong;exact decide_eq_false (by omega)
end
section
variable {X:Cx}
def Cu:V->List V->Hp->VK->Prop:=fun x vs H Q=>∃ l xs y,x = .ref l/\vs = [y]/\H l = some (.lst xs)/\xs.length < sizeLine/\Q .non (cX H l (.lst (xs ++ [y])))
theorem jS:MtM X "list.append" Cu:=by
 intro pins s σ H x vs v us Q I rx rv h;obtain ⟨l,xs,y,rfl,rfl,hH,hz,q⟩:=h;cases rx;obtain ⟨u,rfl,ru⟩:=rv.one;obtain ⟨z,its,n,r,hl,e⟩:=I.lstM hH;refine call_meets F.slot_list_append ⟨_,e,rfl⟩ F.entry_list_append (F.args_list_append_2 _ _) (PySem.list_append l its.toArray n u (by rw [size_toArray]; omega)) ⟨e,?_⟩;refine ⟨.non,_,I.lset (its':=its ++ [u]) hH e (by simp) (r.append (.cons ru .nil)) ?_,rfl,q⟩;rw [length_append,List.length_singleton];omega
def aHt:R2:=fun x y H Q=>∃ l b xs zs,x = .ref l/\y = .ref b/\H l = some (.lst xs)/\H b = some (.lst zs)/\xs.length + zs.length<=sizeLine/\∀ p,H p = none->Q (.ref p) (cX H p (.lst (xs ++ zs)))
theorem gX:kW X (binaryOp .Add) aHt:=by
 intro pins s σ H x y v u Q I rx ry h;obtain ⟨l,b,xs,zs,rfl,rfl,hH,hB,hz,q⟩:=h;cases rx;cases ry;obtain ⟨z,its,n,r,hl,e⟩:=I.lstM hH;obtain ⟨z2,its2,n2,r2,hl2,e2⟩:=I.lstM hB;refine PySem.P.add_list e e2 ?_ (by rw [size_toArray,size_toArray]; omega);have ea:its.toArray ++ its2.toArray = (its ++ its2).toArray:=by simp
 rw [ea];exact ⟨.ref _,_,I.lnew (t':=s.toks) (r.append r2) (by rw [length_append]; omega),rfl,q _ I.fresh⟩
def aHp:R2:=fun x y H Q=>∃ l k xs,x = .ref l/\y = .int k/\H l = some (.lst xs)/\-(2 ^ 63)<=k/\k < 2 ^ 63/\xs.length * k.toNat<=sizeLine /\
 ∀ p,H p = none->Q (.ref p) (cX H p (.lst (replicate k.toNat xs).flatten))
theorem Uk {α:Type} (xs:List α) (k:Nat):(replicate k xs).flatten.length = k * xs.length:=by
 induction k with
 | zero=>simp
 | succ k ih=>rw [replicate_succ,flatten_cons,length_append,ih,Nat.succ_mul,Nat.add_comm]
theorem vZ:kW X (binaryOp .Mult) aHp:=by
 intro pins s σ H x y v u Q I rx ry h;obtain ⟨l,k,xs,rfl,rfl,hH,h1,h2,hz,q⟩:=h;cases rx;obtain ⟨t,rfl⟩:=ry;obtain ⟨z,its,n,r,hl,e⟩:=I.lstM hH;have hlen:its.toArray.size * k.toNat<=sizeLine:=by rw [size_toArray,<- hl]; exact hz
 have hcap:¬ its.toArray.size * k.toNat > (2 ^ 63 - 1) / 8:=by
  have:(sizeLine:Nat)<=(2 ^ 63 - 1) / 8:=by decide
  omega
 have hfit:¬ (!Builtin.List.listFitsIndex k) = true:=by
  rw [fitsIndex_both h1 h2];exact Bool.false_ne_true
 have hlong:¬ Builtin.List.listTooLong (its.toArray.size * k.toNat) = true:=by
  rw [Ob hlen];exact Bool.false_ne_true
 have hnew:foldl (fun x1 x2=>x1 ++ x2) #[] (replicate (if its.toArray.isEmpty = true then 0 else k.toNat) its.toArray) = (replicate k.toNat its).flatten.toArray:=by
  have f0:∀ m:Nat,foldl (fun x1 x2=>x1 ++ x2) #[] (replicate m its.toArray) = (replicate m its).flatten.toArray:=fun m=>by
   have:=uN its m [];rw [nil_append] at this;exact this
  rw [f0];cases its with
  | nil=>simp
  | cons a r'=>rw [if_neg (by simp)]
 refine wpAny_binaryOp_repeat_ref (T:="list") (U:="int") (by decide) ⟨_,e,rfl⟩ (fun s'=>typeIs_int s' k t) noFill_list_mul F.fills_int_mul F.slot_int_rmul repeat_list F.slot_int_index.lookup
  (call_meets F.slot_int_rmul (typeIs_int s k t) F.entry_int_rmul (F.args_int_rmul_2 _ _) (int___rmul___int_list k t l its.toArray n)
   ⟨e,rfl,⟨_,e,rfl⟩,call_meets F.slot_list_mul ⟨_,e,rfl⟩ F.entry_list_mul (F.args_list_mul_2 _ _) (AutoListH.list___mul___list_int_3 l its.toArray n k t hfit hcap hlong) ⟨e,?_⟩⟩)
 rw [hnew];exact ⟨.ref _,_,I.lnew (t':=s.toks) (r.rep k.toNat) (by rw [Uk,mul_comm]; exact hz),rfl,q _ I.fresh⟩
end
end L2
namespace Att
open PySem PySem.W PySem.Calls PyProof.Rows
theorem qN {P:Params} {h:Heap}:∀ (ns:List Int) (vs:List Value),WellAll P h vs (ns.map WData.int)->IntsAre vs ns:=by
 intro ns
 induction ns with
 | nil =>
  intro vs w;rw [map_nil] at w;cases w;exact .nil
 | cons n ns ih =>
  intro vs w;rw [map_cons] at w;cases w with
  | cons a b =>
   cases a;exact .cons _ _ (ih _ b)
theorem Ft {l:OpenLaw} {n:Nat} (hn:l.most = some n) {P:Params} {h:Heap} {args:List WData} {vals:List Value}
  (hpre:l.row.toRowW.claim.pre args = true) (hwl:WellAll P h vals args) :
  ∃ a vs ns,vals = [Value.ref a]/\args = [WData.list (ns.map WData.int)]/\h.get? a = some { cls:=.type "list",data:=.seq vs.toArray }/\IntsAre vs ns/\ns.length<=n:=by
 have hsh:WShape.hasAll [] args [.list .int] = true:=(pre_splitW hpre).1;have hc:l.pre.holds [] { args:=args } = true:=(pre_splitW hpre).2;obtain ⟨d,r,rfl,h1,h2⟩:=hasAllW_cons hsh;obtain rfl:=hasAllW_nil h2;obtain ⟨xs,rfl,h3⟩:=hasW_list h1;obtain ⟨ns,rfl⟩:=items_int h3;have hlen:ns.length<=n:=by
  unfold OpenLaw.pre at hc;have h4:(WTm.not (.lt (.lit (.int (n:Int))) (.len (.arg 0)))).holds [] { args:=[.list (ns.map .int)] } = true:=by
   have h4:=(holds_andW hc).1;rw [hn] at h4;exact h4
  have h5:=condW_of h4 (w_not (w_lt w_lit (w_len_list (w_arg rfl))));rw [length_map] at h5;refine Nat.le_of_not_lt fun q=>?_;have q':(n:Int) < ((ns.length:Nat):Int):=by omega
  first
   | (rw [decide_eq_true q'] at h5; exact absurd h5 (by decide))
   | (simp at h5; omega)
 cases hwl with
 | cons w1 w2 =>
  cases w2;cases w1 with
  | list ho hall=>exact ⟨_,_,ns,rfl,rfl,ho,qN ns _ hall,hlen⟩
theorem Fz (l:OpenLaw) (args:List WData):l.row.toRowW.claim.post args (.bool true) args = true :=
 postW_of (r:=l.row.toRowW) (X:=(true == true))
  (show WShape.has [] (.bool true) .bool = true by first | rfl | decide | simp [WShape.has,WShape.arms,WShape.armsAll])
  (show (WTm.eq .res (.lit (.bool true))).value [] { args:=args,res:=some (.bool true),after:=args } = some (.bool (true == true)) from w_eq_bool (w_res rfl) w_lit) rfl
section
variable {prog:Program} {w:World} {A:Around} {E:Value->Shared->Prop} {s:Shared} {K:Frag}
def ledger (h:Heap) (L d:Addr):List (Addr × Obj):=(range h.objs.size).filterMap fun a=>if a = L\/a = d then none else (h.get? a).map fun o=>(a,o)
end
end Att
namespace L2
open PySem PySem.Spec PyProof.Rows
theorem tQ:∀ {vs:List Value} {ns:List Int},IntsAre vs ns->Vals (ns.map V.int) vs
 | _,_,.nil=>.nil
 | _,_,.cons n t h=>.cons ⟨t,rfl⟩ (tQ h)
def aFg (H:Hp):Prop:=∀ b,H b = none\/∃ o xs,H b = some (.frz o (.lst xs))
theorem Oq {P:Program} {w:World} {K:W.Frag} {mg mb:Str->Option Value} {CX:Hs} {k:Nat} {fa a:Addr} {fd:FuncData} {x:Str} {sp:Sp} {s₁:Shared} {vs:List Value} {ns:List Int}
  (KX:K.In s₁.heap) (hns:s₁.heap.Ns mainGlobals mg) (hb:s₁.heap.Ns builtinsNs mb) (hbb:∀ x:Str,x ≠ "__name__"->mb x = bootBuiltins x) (hlim:s₁.heap.NoLimit) (hg:s₁.gens = #[])
  (ha:s₁.heap.get? a = some { cls:=.type "list",data:=.seq vs.toArray }) (hi:IntsAre vs ns) (hl:ns.length<=sizeLine) (hr:Room k callerA)
  (F:∀ base:Heap,K.In base->base.Ns mainGlobals mg->FnOk P w K mg base CX k fa fd [x] sp) (hbind:∀ (s:Shared) (u:Value),BindsTo s fd ⟨[u],[]⟩ [(x,u)])
  (hsp:∀ H:Hp,aFg H->SqL K H a (ns.map V.int)->sp [.ref a] H (fun v _=>v = .bl true) fun _ _ _=>False)
  (hCX:∀ H e s',CX [] H s₁ (fun _ _ _=>False) e s'->False) :
  codeAny (model P w) callerA (.call (.ref fa) ⟨[.ref a],[]⟩) (fun r s'=>r = .ok (.ret (.bool true))/\OldK s₁.heap s'.heap/\s'.os = s₁.os/\AllBare s'.gens) s₁:=by
 have rv:=tQ hi;have lenV:=hi.length;have core:∀ H:Hp,aFg H->SqL K H a (ns.map V.int)->HOk P w H s₁.heap->(∀ b,H b ≠ none->b = a)->(H a ≠ none->K.lookup a = none) ->
   codeAny (model P w) callerA (.call (.ref fa) ⟨[.ref a],[]⟩) (fun r s'=>r = .ok (.ret (.bool true))/\OldK s₁.heap s'.heap/\s'.os = s₁.os/\AllBare s'.gens) s₁:=by
  intro H hO hS hok hA hK;have base_of:∀ {b:Addr} {o:Obj},s₁.heap.get? b = some o->H b = none->(wM s₁.heap H).get? b = some o:=fun e n=>Oy e n;have noA:∀ {b:Addr} {o:Obj} {es:Array DictEntry} {ep:Nat},s₁.heap.get? b = some o->o.data = .dict es ep->H b = none:=fun {b o es ep} e d=>by
   cases q:H b with
   | none=>rfl
   | some u =>
    have e':b = a:=hA b (by rw [q]; simp);subst e';rw [ha] at e; cases e;have d':Data.seq vs.toArray _ = Data.dict es ep:=d;cases d'
  have nsK:∀ {b:Addr} {m:Str->Option Value},s₁.heap.Ns b m->(wM s₁.heap H).Ns b m:=fun {b m} ⟨o,es,ep,e,d,r⟩=>⟨o,es,ep,base_of e (noA e d),d,r⟩
  have hKb:K.In (wM s₁.heap H):=fun b o e=>base_of (KX b o e) (by
   cases q:H b with
   | none=>rfl
   | some u =>
    have e':b = a:=hA b (by rw [q]; simp)
    subst e'
    rw [hK (by rw [q]; simp)] at e; cases e)
  have hM:Mod K mg (wM s₁.heap H):=⟨hKb,nsK hns,⟨mb,nsK hb,hbb⟩,let ⟨mc,h1,h2⟩:=hlim; ⟨mc,nsK h1,h2⟩⟩;have e0:Env0 P w K mg (wM s₁.heap H) callerA [] s₁ H:=⟨rfl,hM,fun b o e=>Tv e,Nat.le_of_eq (Gw _ _),trivial,fun b hb=>absurd (show b∈([]:List Addr) from hb) (by simp),hok,.of_eq hg⟩;refine codeAny_mono ((F _ hKb (nsK hns)).run callerA [] s₁ H ⟨[.ref a],[]⟩ [.ref a] [.ref a] _ _ hr e0 (hbind s₁ (.ref a)) (.cons rfl .nil) (hsp H hO hS)) fun r s' h=>?_;cases r with
  | error e=>exact (hCX H e s' h).elim
  | ok fl =>
   cases fl with
   | next=>exact False.elim h
   | brk=>exact False.elim h
   | cont=>exact False.elim h
   | ret u =>
    obtain ⟨v,H',os,bare,un,hok',r',q⟩:=h;have q':v = .bl true:=q;subst q';obtain rfl:u = Value.bool true:=r';refine ⟨rfl,OldK.of_keep fun b o e=>?_,os,bare⟩;cases q:H b with
    | none=>exact un.keep b o e q (by intro z; exact absurd (show b∈([]:List Addr) from z) (by simp)) (by simp)
    | some u =>
     rcases hO b with z | ⟨ob,xs,z⟩
     ·rw [q] at z; cases z
     ·have z2:=un.frzs b ob _ z;obtain ⟨e1,_⟩:=hok b _ z;obtain ⟨e2,_⟩:=hok' b _ z2;rw [e] at e1; cases e1;exact e2
 cases hk:K.lookup a with
 | some o =>
  have e:=KX a o hk;rw [ha] at e;cases e;refine core (fun _=>none) (fun _=>.inl rfl) (.inr ⟨_,vs.toArray,_,hk,rfl,rfl,rfl,by rw [size_toArray,lenV]; exact hl,by simpa using rv⟩) (fun b u z=>by have z':(none:Option HO) = some u:=z; cases z') (fun b z=>absurd rfl z) fun z=>absurd rfl z
 | none =>
  refine core (fun b=>if b = a then some (.frz { cls:=.type "list",data:=.seq vs.toArray } (.lst (ns.map V.int))) else none) (fun b=>?_) (.inl (.inr ⟨{ cls:=.type "list",data:=.seq vs.toArray },if_pos rfl⟩)) (fun b u z=>?_) (fun b z=>?_) fun _=>hk
  ·by_cases hb:b = a
   ·exact .inr ⟨_,_,if_pos hb⟩
   ·exact .inl (if_neg hb)
  ·by_cases hb:b = a
   ·have z':=(if_pos hb).symm.trans z;cases z';subst hb;exact ⟨ha,by rw [length_map]; exact hl,vs,_,rv,ha⟩
   ·have z':=(if_neg hb).symm.trans z;cases z'
  ·by_cases hb:b = a
   ·exact hb
   ·exact absurd (if_neg hb) z
abbrev KOf {K:W.Frag} {h:Heap} (_:K.In h):W.Frag:=K
def qU (s:Stmt) (j:Nat):Stmt:=match s with
 | .ClassDef _ _ _ body _ _ _ _ _ _ _=>body.getD j (.Pass ⟨0,0,0,0⟩)
 | _=>.Pass ⟨0,0,0,0⟩
def kK (s:Stmt):Arguments:=match s with
 | .FunctionDef _ a _ _ _ _ _ _ _ _=>a
 | _=>{ posonlyargs:=[],args:=[],vararg:=none,kwonlyargs:=[],kw_defaults:=[],kwarg:=none,defaults:=[] }
def fH (s:Stmt):List Stmt:=match s with
 | .FunctionDef _ _ b _ _ _ _ _ _ _=>b
 | _=>[]
def aT (s:Stmt):Scope:=match s with
 | .FunctionDef _ _ _ _ _ _ sc _ _ _=>sc
 | _=>{ kind:=.function,names:=[],isGenerator:=false,isCoroutine:=false }
abbrev CX0:Hs:=fun _ _ _ _ _ _=>False
abbrev E0:XK:=fun _ _ _=>False
structure Fun (K:W.Frag) (x qual:Str) (st:Stmt) (f:Addr) (fd:FuncData):Prop where
 ex:∃ (oc:Value) (od:Option Addr) (kV doc pm:Value) (an:Option Addr) (cdv ct:Value) (osl:Array (Option Value)),
  fd = W.fnOf x qual (kK st) (fH st) (aT st) .none kV doc pm an cdv ct/\K.lookup f = some ⟨oc,od,.func fd,osl⟩/\W.codeIn K cdv qual = true
 kp:W.keepIn K (.ref f) = true
section
variable {P:Program} {w:World} {K:W.Frag} {mg:Str->Option Value} {base:Heap}
theorem Fun.binds {x qual:Str} {st:Stmt} {f:Addr} {fd:FuncData} {ps:List Str} (F:Fun K x qual st f fd)
  (h:∀ (kV doc pm:Value) (an:Option Addr) (cdv ct:Value) (us:List Value),us.length = ps.length->bindArgs (W.fnOf x qual (kK st) (fH st) (aT st) .none kV doc pm an cdv ct) ⟨us,[]⟩ = pure (ps.zip us)):Binds K fd ps []:=by
 obtain ⟨oc,od,kV,doc,pm,an,cdv,ct,osl,rfl,lk,hcd⟩:=F.ex;exact .all (h kV doc pm an cdv ct)
theorem fun_mk {x qual:Str} {st:Stmt} {f:Addr} {oc:Value} {od an:Option Addr} {osl:Array (Option Value)} {kV doc pm cdv ct:Value} (l:K.lookup f = some ⟨oc,od,.func (W.fnOf x qual (kK st) (fH st) (aT st) .none kV doc pm an cdv ct),osl⟩)
  (c:W.codeIn K cdv qual = true) (k:W.keepIn K (.ref f) = true):Fun K x qual st f (W.fnOf x qual (kK st) (fH st) (aT st) .none kV doc pm an cdv ct):=⟨⟨oc,od,kV,doc,pm,an,cdv,ct,osl,rfl,l,c⟩,k⟩
end
theorem bT {n:Nat} (h:n<=1000):n < sizeLine:=lt_of_le_of_lt h (by decide)
section
variable {X:Cx}
theorem pv (i:Nat) {x:Str} {pos:Pos} (hN:X.N[i]? = some x:=by rfl) (hv:Vis X.env.scope x:=by first | exact Or.inl rfl | exact Or.inr (Or.inl rfl) | exact Or.inr (Or.inr rfl)) (hd:(x == ("__debug__":Str)) = false:=by decide)
  (hcd:(x == ("__classdict__":Str)) = false:=by decide):PE X (.Name x pos) (iG i):=aBl hN hv hd hcd
end
theorem aIt {A B:Prop} (h:B):if false = true then A else B:=by
 rw [if_neg Bool.false_ne_true];exact h
theorem aIs {A B:Prop} (h:A):if true = true then A else B:=by
 rw [if_pos rfl];exact h
theorem bS {c A B:Prop} [Decidable c] (h1:c->A) (h2:¬ c->B):if c then A else B:=by
 by_cases h:c
 ·rw [if_pos h];exact h1 h
 ·rw [if_neg h];exact h2 h
def Same (H H':Hp):Prop:=∀ b o,H b = some o->H' b = some o
theorem Same.refl (H:Hp):Same H H:=fun _ _ h=>h
theorem Same.trans {H H1 H2:Hp} (a:Same H H1) (b:Same H1 H2):Same H H2:=fun c o h=>b c o (a c o h)
theorem Same.free {H H':Hp} (e:Same H H') {l:Addr} (h:H' l = Option.none):H l = Option.none:=by
 cases q:H l with
 | none=>rfl
 | some o =>
  rw [e l o q] at h;cases h
theorem Same.seq {K:W.Frag} {H H':Hp} {a:Addr} {xs:List V} (e:Same H H') (h:SqL K H a xs):SqL K H' a xs:=by
 rcases h with (h | ⟨o,h⟩) | h
 ·exact .inl (.inl (e _ _ h))
 ·exact .inl (.inr ⟨o,e _ _ h⟩)
 ·exact .inr h
section
variable {κ:Type} [DecidableEq κ]
def lD (kvs:List (κ × V)) (k:κ):Option V:=(kvs.find? fun kv=>decide (kv.1 = k)).map (·.2)
def hV (kvs:List (κ × V)) (k:κ) (v:V):List (κ × V) :=
 if (kvs.any fun kv=>decide (kv.1 = k)) = true then kvs.map (fun kv=>if kv.1 = k then (kv.1,v) else kv) else kvs ++ [(k,v)]
def mL (kvs:List (κ × V)) (k:κ):List (κ × V):=kvs.filter fun kv=>decide (kv.1 ≠ k)
theorem lC {p:κ × V} {r:List (κ × V)} {k:κ} (e:p.1 = k):lD (p :: r) k = some p.2:=by simp [lD,find?_cons,e]
theorem jH {p:κ × V} {r:List (κ × V)} {k:κ} (e:¬ p.1 = k):lD (p :: r) k = lD r k:=by simp [lD,find?_cons,e]
theorem xM (k:κ):∀ kvs:List (κ × V),(kvs.any fun kv=>decide (kv.1 = k)) = (lD kvs k).isSome
 | []=>rfl
 | p :: r=>by
  rw [any_cons];by_cases e:p.1 = k
  ·simp only [lC e,decide_eq_true e,Bool.true_or,Option.isSome_some]
  ·rw [jH e,decide_eq_false e,Bool.false_or]; exact xM k r
theorem lP (kvs:List (κ × V)) (k:κ) (v:V):(hV kvs k v).length<=kvs.length + 1:=by
 unfold hV;split
 ·rw [length_map]; omega
 ·rw [length_append,length_cons,length_nil]; omega
theorem RelO.isSome_eq {o:Option V} {u:Option Value} (r:RelO o u):o.isSome = u.isSome:=by
 cases o with
 | none=>cases u with
  | none=>rfl
  | some _=>exact (show False from r).elim
 | some _=>cases u with
  | none=>exact (show False from r).elim
  | some _=>rfl
theorem RelO.getD {o:Option V} {u:Option Value} {d:V} {d':Value} (r:RelO o u) (rd:RelV d d'):RelV (o.getD d) (u.getD d'):=by
 cases o with
 | none=>cases u with
  | none=>exact rd
  | some _=>exact (show False from r).elim
 | some _=>cases u with
  | none=>exact (show False from r).elim
  | some _=>exact r
theorem KV.val {kvs:List (κ × V)} {vs:List (κ × Value)} (r:KV kvs vs) (k:κ):RelO (lD kvs k) (valueAt vs k):=by
 unfold KV at r
 induction r with
 | nil=>exact True.intro
 | @cons p q ps qs h t ih =>
  obtain ⟨h1,h2⟩:=h;by_cases e:p.1 = k
  ·have e':q.1 = k:=h1.symm.trans e;have b:valueAt (q :: qs) k = some q.2:=by simp [valueAt,find?_cons,e']
   rw [lC e,b]; exact h2
  ·have e':¬ q.1 = k:=fun z=>e (h1.trans z);have b:valueAt (q :: qs) k = valueAt qs k:=by simp [valueAt,find?_cons,e']
   rw [jH e,b]; exact ih
theorem KV.any {kvs:List (κ × V)} {vs:List (κ × Value)} (r:KV kvs vs) (k:κ):(kvs.any fun kv=>decide (kv.1 = k)) = vs.any fun kv=>decide (kv.1 = k):=by
 unfold KV at r
 induction r with
 | nil=>rfl
 | cons h t ih=>rw [any_cons,any_cons,ih,h.1]
theorem KV.repl {kvs:List (κ × V)} {vs:List (κ × Value)} (r:KV kvs vs) (k:κ) {y:V} {u:Value} (ry:RelV y u) :
  KV (kvs.map fun kv=>if kv.1 = k then (kv.1,y) else kv) (vs.map fun kv=>if kv.1 = k then (kv.1,u) else kv):=by
 unfold KV at r ⊢
 induction r with
 | nil=>exact .nil
 | @cons p q ps qs h t ih =>
  rw [map_cons,map_cons];refine .cons ?_ ih;obtain ⟨h1,h2⟩:=h;by_cases e:p.1 = k
  ·rw [if_pos e,if_pos (h1.symm.trans e)]; exact ⟨h1,ry⟩
  ·rw [if_neg e,if_neg (fun z=>e (h1.trans z))]; exact ⟨h1,h2⟩
theorem KV.put {kvs:List (κ × V)} {vs:List (κ × Value)} (r:KV kvs vs) (k:κ) {y:V} {u:Value} (ry:RelV y u):KV (hV kvs k y) (stored vs k u):=by
 unfold hV stored;rw [r.any k];by_cases e:(vs.any fun kv=>decide (kv.1 = k)) = true
 ·rw [if_pos e,if_pos e]; exact r.repl k ry
 ·rw [if_neg e,if_neg e]; exact Paired.snoc r ⟨rfl,ry⟩
theorem KV.drop {kvs:List (κ × V)} {vs:List (κ × Value)} (r:KV kvs vs) (k:κ):KV (mL kvs k) (without vs k):=by
 unfold KV at r ⊢;unfold mL without
 induction r with
 | nil=>exact .nil
 | @cons p q ps qs h t ih =>
  obtain ⟨h1,h2⟩:=h;rw [List.filter_cons,List.filter_cons];by_cases e:p.1 = k
  ·have a:¬ decide (p.1 ≠ k) = true:=by simp [e]
   have b:¬ decide (q.1 ≠ k) = true:=by simp [h1.symm.trans e]
   rw [if_neg a,if_neg b]; exact ih
  ·have e':¬ q.1 = k:=fun z=>e (h1.trans z);have a:decide (p.1 ≠ k) = true:=by simp [e]
   have b:decide (q.1 ≠ k) = true:=by simp [e']
   rw [if_pos a,if_pos b]; exact .cons ⟨h1,h2⟩ ih
theorem KV.keys {kvs:List (κ × V)} {vs:List (κ × Value)} (r:KV kvs vs):kvs.map (·.1) = vs.map (·.1):=by
 unfold KV at r
 induction r with
 | nil=>rfl
 | cons h t ih=>rw [map_cons,map_cons,ih,h.1]
theorem KV.length {kvs:List (κ × V)} {vs:List (κ × Value)} (r:KV kvs vs):kvs.length = vs.length:=Paired.length r
theorem Ps (kvs:List (κ × V)) (k:κ):(mL kvs k).length<=kvs.length:=List.length_filter_le _ _
end
theorem sH {P:Program} {w:World} {k:dS} {u:Value} (r:RelV (kV k) u):(dJ P w).is k u = true:=by
 cases k with
 | inl i=>obtain ⟨t,e⟩:=(show ∃ t,u = Value.int i t from r); subst e; exact yV P w i t
 | inr x=>obtain ⟨t,e⟩:=(show ∃ t,u = Value.str x t from r); subst e; exact yU P w x t
theorem uK {P:Program} {w:World}:∀ {ks:List dS} {us:List Value},Vals (ks.map kV) us->ItemsAre (dJ P w) ks us
 | [],_,r=>by rw [map_nil] at r; cases r; exact .nil
 | k :: ks,_,r=>by
  rw [map_cons] at r;cases r with
  | cons h t=>exact .cons (sH h) (uK t)
abbrev KT (H:Hp):List (List dS × V)->List (List dS × Addr × Value)->Prop:=Paired fun p q=>p.1 = q.1/\H q.2.1 = some (.tup (p.1.map kV))/\RelV p.2 q.2.2
theorem KT.val {H:Hp} {kvs:List (List dS × V)} {xs:List (List dS × Addr × Value)} (r:KT H kvs xs) (k:List dS):RelO (lD kvs k) ((atKey xs k).map (·.2)):=by
 induction r with
 | nil=>exact True.intro
 | @cons p q ps qs h t ih =>
  obtain ⟨h1,_,h2⟩:=h;by_cases e:p.1 = k
  ·have e':q.1 = k:=h1.symm.trans e;have b:atKey (q :: qs) k = some q.2:=by simp [atKey,find?_cons,e']
   rw [lC e,b]; exact h2
  ·have e':¬ q.1 = k:=fun z=>e (h1.trans z);have b:atKey (q :: qs) k = atKey qs k:=by simp [atKey,find?_cons,e']
   rw [jH e,b]; exact ih
theorem KT.repl {H:Hp} {kvs:List (List dS × V)} {xs:List (List dS × Addr × Value)} (r:KT H kvs xs) (k:List dS) {y:V} {u:Value} (ry:RelV y u) :
  KT H (kvs.map fun kv=>if kv.1 = k then (kv.1,y) else kv) (xs.map (putAt k u)):=by
 induction r with
 | nil=>exact .nil
 | @cons p q ps qs h t ih =>
  rw [map_cons,map_cons];refine .cons ?_ ih;obtain ⟨h1,h2,h3⟩:=h;unfold putAt;by_cases e:p.1 = k
  ·rw [if_pos e,if_pos (h1.symm.trans e)]; exact ⟨h1,h2,ry⟩
  ·rw [if_neg e,if_neg (fun z=>e (h1.trans z))]; exact ⟨h1,h2,h3⟩
theorem KT.put {H:Hp} {kvs:List (List dS × V)} {xs:List (List dS × Addr × Value)} (r:KT H kvs xs) (k:List dS) {b:Addr} {y:V} {u:Value} (hb:H b = some (.tup (k.map kV))) (ry:RelV y u) :
  KT H (hV kvs k y) (storedH xs k b u):=by
 have e:(kvs.any fun kv=>decide (kv.1 = k)) = (atKey xs k).isSome:=by
  rw [xM,(r.val k).isSome_eq,isSome_map]
 unfold hV storedH;rw [e];by_cases q:(atKey xs k).isSome = true
 ·rw [if_pos q,if_pos q]; exact r.repl k ry
 ·rw [if_neg q,if_neg q]; exact Paired.snoc r ⟨rfl,hb,ry⟩
theorem KT.keeps {H H':Hp} {kvs:List (List dS × V)} {xs:List (List dS × Addr × Value)} (r:KT H kvs xs) (ht:∀ b ys,H b = some (.tup ys)->H' b = some (.tup ys)):KT H' kvs xs :=
 Paired.mapP r fun _ _ z=>⟨z.1,ht _ _ z.2.1,z.2.2⟩
section
variable {P:Program} {w:World} {H:Hp} {h:Heap} {a:Addr}
theorem Wh {u:HO} (ok:HOk P w H h) (e:Rd H a u):ObjOk P w H h a u:=e.ok ok
theorem uV {kvs:List (dS × V)} (ok:HOk P w H h) (e:Rd H a (.dK kvs)):kvs.length<=sizeLine/\(a == sysModules) = false/\∃ vs,KV kvs vs/\h.DictOf (dJ P w) a vs :=
 show ObjOk P w H h a (.dK kvs) from Wh ok e
theorem Ek {kvs:List (dS × V)} (ok:HOk P w H h) (e:H a = some (.dK kvs)):kvs.length<=sizeLine/\(a == sysModules) = false/\∃ vs,KV kvs vs/\h.DictOf (dJ P w) a vs:=uV ok (.inl e)
theorem sE {ks:List dS} (ok:HOk P w H h) (e:H a = some (.tup (ks.map kV))):(tupleKind (dJ P w)).is h ks a:=by
 obtain ⟨_,its,r,o,h1,h2,n,h3⟩:=(show ObjOk P w H h a (.tup (ks.map kV)) from ok a _ e);exact ⟨o,its.toArray,n,h1,h2,h3,by simpa using uK r⟩
theorem uT {kvs:List (List dS × V)} (ok:HOk P w H h) (e:Rd H a (.dT kvs)):kvs.length<=sizeLine/\(a == sysModules) = false /\
  ∃ xs,KT H kvs xs/\h.DictOfH (tupleKind (dJ P w)) a xs:=by
 obtain ⟨z,y,xs,r,o,es,ep,h1,h2,h3,h4,h5⟩:=(show ObjOk P w H h a (.dT kvs) from Wh ok e);refine ⟨z,y,xs,r,o,es,ep,h1,h2,h3,h4,fun x hx=>?_,h5⟩;have all:∀ {l:List (List dS × V)} {m:List (List dS × Addr × Value)},KT H l m->∀ x∈m,(tupleKind (dJ P w)).is h x.1 x.2.1:=by
  intro l m q
  induction q with
  | nil=>intro x hx; exact nomatch hx
  | @cons p q ps qs hq t ih =>
   intro x hx;rcases mem_cons.mp hx with e | hx
   ·subst e;exact sE ok (by rw [<- hq.1]; exact hq.2.1)
   ·exact ih x hx
 exact all r x hx
theorem aJl {kvs:List (List dS × V)} (ok:HOk P w H h) (e:H a = some (.dT kvs)):kvs.length<=sizeLine/\(a == sysModules) = false /\
  ∃ xs,KT H kvs xs/\h.DictOfH (tupleKind (dJ P w)) a xs:=uT ok (.inl e)
end
def DGet (H:Hp) (a:Addr) (y:V) (r:Option V):Prop :=
 (∃ kvs k,Rd H a (.dK kvs)/\y = kV k/\r = lD kvs k)\/∃ kvs k b,Rd H a (.dT kvs)/\y = .ref b/\H b = some (.tup (k.map kV))/\r = lD kvs k
def DPut (H:Hp) (a:Addr) (y v:V) (H':Hp):Prop :=
 (∃ kvs k,H a = some (.dK kvs)/\y = kV k/\kvs.length < sizeLine/\H' = cX H a (.dK (hV kvs k v))) \/
 ∃ kvs k b,H a = some (.dT kvs)/\y = .ref b/\H b = some (.tup (k.map kV))/\kvs.length < sizeLine/\H' = cX H a (.dT (hV kvs k v))
theorem DGet.k {H:Hp} {a:Addr} {kvs:List (dS × V)} {k:dS} (e:H a = some (.dK kvs)):DGet H a (kV k) (lD kvs k):=.inl ⟨kvs,k,.inl e,rfl,rfl⟩
theorem DPut.k {H:Hp} {a:Addr} {kvs:List (dS × V)} {k:dS} {v:V} (e:H a = some (.dK kvs)) (hl:kvs.length < sizeLine):DPut H a (kV k) v (cX H a (.dK (hV kvs k v))):=.inl ⟨kvs,k,e,rfl,hl,rfl⟩
section
variable {X:Cx} {pins:List (Addr × Obj)} {σ:St} {H:Hp} {s:Shared} {a:Addr} {y v:V} {u r:Value} {o:Option V} {A:Around} {E:Value->Shared->Prop}
theorem Inv.big (I:Inv X pins σ H s):sysModules < s.heap.objs.size:=by
 have h:mainGlobals < s.heap.objs.size:=(I.mod.glob.keeps I.bk).lt;exact lt_trans (by decide) h
theorem Hh {Q:Value->Shared->Prop} (hu:A.units + 1 < cLine) (I:Inv X pins σ H s) (g:DGet H a y (some v)) (ry:RelV y u) (h:∀ w' s',Inv X pins σ H s'->RelV v w'->Q w' s') :
  wpAny (model X.prog X.w) A (getItem (.ref a) u) Q E s:=by
 rcases g with ⟨kvs,k,e,ey,l⟩ | ⟨kvs,k,b,e,ey,eb,l⟩
 ·subst ey;obtain ⟨z,hd,vs,rel,dd⟩:=uV I.hok e;obtain ⟨w',hw,rw'⟩:=RelO.some_of (v:=v) (o:=valueAt vs k) (by rw [l]; exact rel.val k);exact wpAny_getItem_of (sH ry) dd.mapOf hw (h w' _ (I.tok _) rw')
 ·subst ey;cases (show u = Value.ref b from ry);obtain ⟨z,hd,xs,rel,dd⟩:=uT I.hok e;obtain ⟨w',hw,rw'⟩:=RelO.some_of (v:=v) (o:=(atKey xs k).map (·.2)) (by rw [l]; exact rel.val k);obtain ⟨p,hp,hp2⟩:=map_eq_some_iff.mp hw;refine wpAny_getItem_heap (tupleKind_room_in1 hu) (sE I.hok eb) dd hp ?_;rw [hp2];exact h w' _ (I.tok _) rw'
theorem Vg {Q:Value->Shared->Prop} (hu:A.units + 1 < cLine) (I:Inv X pins σ H s) (g:DGet H a y o) (ry:RelV y u) (h:∀ s',Inv X pins σ H s'->Q (.bool (!o.isSome)) s') :
  wpAny (model X.prog X.w) A (compareOp .NotIn u (.ref a)) Q E s:=by
 rcases g with ⟨kvs,k,e,ey,l⟩ | ⟨kvs,k,b,e,ey,eb,l⟩
 ·subst ey;obtain ⟨z,hd,vs,rel,dd⟩:=uV I.hok e;refine wpAny_notIn_of (sH ry) hd dd.mapOf ?_;rw [<- (rel.val k).isSome_eq,<- l];exact h _ (I.tok _)
 ·subst ey;cases (show u = Value.ref b from ry);obtain ⟨z,hd,xs,rel,dd⟩:=uT I.hok e;refine wpAny_notIn_heap (tupleKind_room_in1 hu) (sE I.hok eb) hd dd ?_;have q:=(rel.val k).isSome_eq;rw [isSome_map] at q;rw [<- q,<- l];exact h _ (I.tok _)
theorem qZ {h':Heap} {t':Nat} {ob:HO} (I:Inv X pins σ H s) (mu:Mut (H a)) (hs:SameBut a s.heap h') (he:∃ q,h'.get? a = some q) (new:ObjOk X.prog X.w (cX H a ob) h' a ob) :
  Inv X pins σ (cX H a ob) { s with heap:=h',toks:=t' } :=
 I.write (x:=a) (e:=a) mu (.inl rfl) (fun b q hb z=>(hs.2 b hb).trans z) he new
theorem Bm {P:Program} {w:World} {H':Hp} {h':Heap} {kvs:List (dS × V)} {vs:List (dS × Value)} (z:kvs.length<=sizeLine) (hd:(a == sysModules) = false) (rel:KV kvs vs) (dd:h'.DictOf (dJ P w) a vs) :
  ObjOk P w H' h' a (.dK kvs):=⟨z,hd,vs,rel,dd⟩
theorem Hg {H':Hp} {Q:Unit->Shared->Prop} (hu:A.units + 1 < cLine) (I:Inv X pins σ H s) (g:DPut H a y v H') (ry:RelV y u) (rv:RelV v r) (h:∀ s',Inv X pins σ H' s'->Q () s') :
  wpAny (model X.prog X.w) A (setItem (.ref a) u r) Q E s:=by
 rcases g with ⟨kvs,k,e,ey,l,eH⟩ | ⟨kvs,k,b,e,ey,eb,l,eH⟩
 ·subst ey eH;obtain ⟨z,hd,vs,rel,dd⟩:=Ek I.hok e;have hz:vs.length<=sizeLine:=by rw [<- rel.length]; exact z
  have hl:(hV kvs k v).length<=sizeLine:=by have:=lP kvs k v; omega
  refine wpAny_setItem_pairs (hsz:=hz) (sH ry) dd fun h' dd' hs=>h _ ?_;have he:∃ q,h'.get? a = some q:=let ⟨q,_,_,hq,_⟩:=dd'; ⟨q,hq⟩
  exact qZ I (by rw [e]; exact True.intro) hs he (Bm hl hd (rel.put k rv) dd')
 ·subst ey eH;cases (show u = Value.ref b from ry);obtain ⟨z,hd,xs,rel,dd⟩:=aJl I.hok e;have hz:xs.length<=sizeLine:=by rw [<- Paired.length rel]; exact z
  have hl:(hV kvs k v).length<=sizeLine:=by have:=lP kvs k v; omega
  refine wpAny_setItem_heap (hsz:=hz) (tupleKind_room_in1 hu) (sE I.hok eb) dd fun h' dd' hs=>h _ ?_;obtain ⟨q,es,ep,hq,h2,h3,h4,_,h5⟩:=dd';refine qZ I (by rw [e]; exact True.intro) hs ⟨q,hq⟩ ⟨hl,hd,_,(rel.put k eb rv).keeps fun c ys ec=>?_,q,es,ep,hq,h2,h3,h4,h5⟩;rw [bD (aIn ec e (fun z=>nomatch z))];exact ec
end
section
variable {X:Cx} {pins:List (Addr × Obj)} {σ:St} {H:Hp} {s:Shared} {a:Addr} {kvs:List (dS × V)} {k:dS} {u:Value} {A:Around} {E:Value->Shared->Prop}
theorem aJr {v:V} {more:List Value} {Q:Value->Shared->Prop} (I:Inv X pins σ H s) (e:H a = some (.dK kvs)) (ry:RelV (kV k) u) (l:lD kvs k = some v) (hm:more = []\/∃ x,more = [x])
  (h:∀ w' s',Inv X pins σ (cX H a (.dK (mL kvs k))) s'->RelV v w'->Q w' s'):wpAny (model X.prog X.w) A (call (.builtin "dict.pop") (.ref a :: u :: more)) Q E s:=by
 obtain ⟨z,hd,vs,rel,dd⟩:=Ek I.hok e;obtain ⟨w',hw,rw'⟩:=RelO.some_of (v:=v) (o:=valueAt vs k) (by rw [<- l]; exact rel.val k);have hp:(keyPart u).isSome = true:=by
  cases k with
  | inl i=>obtain ⟨t,q⟩:=(show ∃ t,u = Value.int i t from ry); subst q; rfl
  | inr x=>obtain ⟨t,q⟩:=(show ∃ t,u = Value.str x t from ry); subst q; rfl
 have ha:argsOk "dict.pop" ⟨.ref a :: u :: more,[]⟩:=by
  rcases hm with q | ⟨x,q⟩
  ·subst q; exact F.args_dict_pop_2 _ _
  ·subst q; exact F.args_dict_pop_3 _ _ _
 refine call_meetsIn F.slot_dict_pop dd.typeIs F.entry_dict_pop ha (meets_dict_pop_there (dJ X.prog X.w) a (sH ry) more hm hp)
  ⟨vs,w',dd,by rw [<- rel.length]; exact z,hw,fun h' dd' hs=>h w' _ ?_ rw'⟩
 have he:∃ q,h'.get? a = some q:=let ⟨q,_,_,hq,_⟩:=dd'; ⟨q,hq⟩
 exact qZ I (by rw [e]; exact True.intro) hs he (Bm (le_trans (Ps kvs k) z) hd (rel.drop k) dd')
end
def aKs (i:Expr):Prop:=∀ ov iv,subscripted i false ov iv = operate [ov,iv] (getItem ov iv)
theorem Sj {prog:Program} {w:World} {A:Around} {E:Value->Shared->Prop} {s:Shared} {env:Env} {value slice:Expr} {pos:Pos} {T id:String} {Q:Value->Shared->Prop}
  (hl:typeLookup (.type T) "__getitem__" = pure (some (.builtin id))) (hs:aKs slice)
  (h:wpAny (model prog w) A (eval value env) (fun o s₁=>wpAny (model prog w) A (eval slice env) (fun i s₂=>s₂.TypeIs o T/\wpAny (model prog w) A (getItem o i) Q E s₂) E s₁) E s) :
  wpAny (model prog w) A (eval (.Subscript value slice pos) env) Q E s:=by
 refine Subscript_ (wpAny_mono h (fun o s₁ h₁=>wpAny_mono h₁ (fun i s₂ h₂=>?_) fun _ _ x=>x) fun _ _ x=>x);obtain ⟨hT,h₂⟩:=h₂;unfold subscriptTail;refine wpAny_bind ?_;rw [getitemInPython_of_ne hT.not_modules];refine wpAny_bind (wpAny_specialOf hT hl ?_);have fin:wpAny (model prog w) A (subscripted slice false o i) (fun r s₃=>wpAny (model prog w) A (letTemporaryGo value o r >>= fun _=>pure r) Q E s₃) E s₂:=by
  rw [hs o i];exact wpAny_operating (wpAny_mono h₂ (fun r s₃ h₃=>wpAny_bind (wpAny_letTemporaryGo (wpAny_pure h₃))) fun _ _ x=>x)
 first
  | exact wpAny_pure (wpAny_bind fin)
  | exact wpAny_bind (wpAny_pure (wpAny_bind fin))
  | exact wpAny_bind fin
theorem zN {X:Cx} {pins:List (Addr × Obj)} {σ:St} {H:Hp} {s:Shared} {a:Addr} {y:V} {o:Option V} (I:Inv X pins σ H s) (g:DGet H a y o):s.TypeIs (.ref a) "dict":=by
 rcases g with ⟨kvs,k,e,_,_⟩ | ⟨kvs,k,b,e,_,_,_⟩
 ·obtain ⟨_,_,vs,_,dd⟩:=uV I.hok e;exact dd.typeIs
 ·obtain ⟨_,_,xs,_,dd⟩:=uT I.hok e;exact dd.typeIs
def Wb (td ty:TE):TE:=fun σ H Q=>td σ H fun x H1=>ty σ H1 fun y H2=>∃ a v,x = .ref a/\DGet H2 a y (some v)/\Q v H2
def Cc (ty td:TE):TE:=fun σ H Q=>ty σ H fun y H1=>td σ H1 fun x H2=>∃ a o,x = .ref a/\DGet H2 a y o/\Q (.bl (!o.isSome)) H2
def Wf (td ty tv:TE):TS:=fun D σ H=>tv σ H fun v H1=>td σ H1 fun x H2=>ty σ H2 fun y H3=>∃ a H4,x = .ref a/\DPut H3 a y v H4/\D.nx σ H4
section
variable {X:Cx} {o i e value:Expr} {pos pos' tpos:Pos} {td ty tv:TE}
theorem Tn (hu:X.A.units + 1 < cLine) (ho:PE X o td) (hi:PE X i ty) (hs:aKs i):PE X (.Subscript o i pos) (Wb td ty):=by
 intro pins s σ H Q I h;refine Sj F.slot_dict_getitem.lookup hs (dO (ho pins s σ H _ I h) fun u s1 ⟨x,H1,I1,rx,q1⟩=>dO (hi pins s1 σ H1 _ I1 q1) fun iv s2 ⟨y,H2,I2,ry,a,v,ex,g,q2⟩=>?_);subst ex;obtain rfl:u = Value.ref a:=rx;exact ⟨zN I2 g,Hh hu I2 g ry fun w' s3 I3 rw'=>⟨v,H2,I3,rw',q2⟩⟩
theorem Gc (hu:X.A.units + 1 < cLine) (hi:PE X i ty) (ho:PE X o td):PC X .NotIn i o (Cc ty td):=by
 intro pins s σ H Q I h;refine dO (hi pins s σ H _ I h) fun iv s1 ⟨y,H1,I1,ry,q1⟩=>dO (ho pins s1 σ H1 _ I1 q1) fun u s2 ⟨x,H2,I2,rx,a,ov,ex,g,q2⟩=>?_;subst ex;obtain rfl:u = Value.ref a:=rx;exact Vg hu I2 g ry fun s3 I3=>⟨.bl (!ov.isSome),H2,I3,rfl,q2⟩
theorem Th (hu:X.A.units + 1 < cLine) (ho:PE X o td) (hi:PE X i ty) (hv:PE X value tv) (hs:swapsWith value (some (.Subscript o i pos')) pos.line X.env = pure false) :
  PS X (.Assign [.Subscript o i pos'] value pos) (Wf td ty tv):=by
 intro pins s σ H D I h;refine wpAny_Assign_Subscript (dO (hv pins s σ H _ I h) fun r s1 ⟨v,H1,I1,rv,q1⟩=>dO (ho pins s1 σ H1 _ I1 q1) fun u s2 ⟨x,H2,I2,rx,q2⟩=>dO (hi pins s2 σ H2 _ I2 q2) fun iv s3 ⟨y,H3,I3,ry,a,H4,ex,g,q3⟩=>?_) hs;subst ex;obtain rfl:u = Value.ref a:=rx;exact Hg hu I3 g ry rv fun s4 I4=>⟨σ,H4,I4,q3⟩
end
theorem zM {P:Program} {w:World} {H:Hp} (h:Heap) (hb:sysModules < h.objs.size):ObjOk P w H (h.push { cls:=.type "dict",data:=.dict #[] }) h.objs.size (.dK []) :=
 ⟨zero_le _,beq_eq_false_iff_ne.mpr (Ne.symm (ne_of_lt hb)),[],.nil,Heap.DictOf.new h⟩
def zZ:TE:=fun _ H Q=>∀ p,H p = none->Q (.ref p) (cX H p (.dK []))
section
variable {X:Cx} {pos:Pos}
theorem yL:PE X (.Dict [] [] pos) zZ:=fun pins s σ H Q I h =>
 wpAny_Dict_empty ⟨.ref s.heap.objs.size,_,I.laid (a:=s.heap.objs.size) (o:=.dK []) (t':=s.toks) (fun _ _ q=>get?_push_of_some _ q) (le_refl _) (zM s.heap I.big),rfl,h _ (I.hok.fresh (le_refl _))⟩
end
def vJ:List (TE × TE)->St->Hp->(List (V × V)->Hp->Prop)->Prop
 | [],_,H,Q=>Q [] H
 | (tk,tv) :: r,σ,H,Q=>tk σ H fun x H1=>tv σ H1 fun y H2=>vJ r σ H2 fun ps H3=>Q ((x,y) :: ps) H3
abbrev VV:List (V × V)->List (Value × Value)->Prop:=Paired fun p q=>RelV p.1 q.1/\RelV p.2 q.2
def PPs (X:Cx) (pos:Pos) (keys:List (Option Expr)) (values:List Expr) (trs:List (TE × TE)):Prop :=
 ∀ (pins:List (Addr × Obj)) (s:Shared) (σ:St) (H:Hp) (Q:List (V × V)->Hp->Prop),Inv X pins σ H s->vJ trs σ H Q ->
  wpAny (model X.prog X.w) X.A (evalPairs (pairTrees keys values X.env pos)) (fun vs s'=>∃ ps H',Inv X pins σ H' s'/\VV ps vs/\Q ps H') X.xe s
theorem Ti {X:Cx} {pos:Pos}:PPs X pos [] [] []:=fun pins s σ H Q I h=>pairTrees_nil_walk ⟨[],H,I,.nil,h⟩
theorem iI {X:Cx} {pos:Pos} {k v:Expr} {ks:List (Option Expr)} {vs:List Expr} {tk tv:TE} {trs:List (TE × TE)} (hk:PE X k tk) (hv:PE X v tv) (hr:PPs X pos ks vs trs) :
  PPs X pos (some k :: ks) (v :: vs) ((tk,tv) :: trs):=fun pins s σ H Q I h =>
 pairTrees_cons_walk (dO (hk pins s σ H _ I h) fun u s1 ⟨x,H1,I1,rx,q1⟩=>dO (hv pins s1 σ H1 _ I1 q1) fun w2 s2 ⟨y,H2,I2,ry,q2⟩ =>
  dO (hr pins s2 σ H2 _ I2 q2) fun ws s3 ⟨ps,H3,I3,rel,q3⟩=>⟨(x,y) :: ps,H3,I3,.cons ⟨rx,ry⟩ rel,q3⟩)
def lN (kvs more:List (dS × V)):List (dS × V):=more.foldl (fun acc kv=>hV acc kv.1 kv.2) kvs
theorem KV.merge:∀ {more:List (dS × V)} {rs:List (dS × Value)} {kvs:List (dS × V)} {vs:List (dS × Value)},KV more rs->KV kvs vs->KV (lN kvs more) (merged vs rs):=by
 intro more rs kvs vs r;unfold KV at r
 induction r generalizing kvs vs with
 | nil=>intro q; exact q
 | @cons p q ps qs h t ih =>
  intro r0;have e:KV (hV kvs p.1 p.2) (stored vs q.1 q.2):=by
   have:=r0.put p.1 h.2;rw [<- h.1]; exact this
  exact ih e
theorem mI:∀ (more kvs:List (dS × V)),(lN kvs more).length<=kvs.length + more.length
 | [],kvs=>by show kvs.length<=kvs.length + 0; omega
 | p :: r,kvs=>by
  have h1:=mI r (hV kvs p.1 p.2);have h2:=lP kvs p.1 p.2;show (lN (hV kvs p.1 p.2) r).length<=_;rw [length_cons]; omega
theorem sV {P:Program} {w:World}:∀ {kvs:List (dS × V)} {ws:List (Value × Value)},VV (kvs.map fun kv=>(kV kv.1,kv.2)) ws->∃ rs,Carries (dJ P w) ws rs/\KV kvs rs
 | [],_,r=>by rw [map_nil] at r; cases r; exact ⟨[],True.intro,.nil⟩
 | p :: kvs,_,r=>by
  rw [map_cons] at r;cases r with
  | @cons a b as bs h t =>
   obtain ⟨rs,c,q⟩:=sV (P:=P) (w:=w) t;obtain ⟨b1,b2⟩:=b;exact ⟨(p.1,b2) :: rs,⟨sH h.1,rfl,c⟩,.cons ⟨rfl,h.2⟩ q⟩
def Wa (trs:List (TE × TE)):TE:=fun σ H Q=>∀ p,H p = none->vJ trs σ (cX H p (.dK [])) fun ps H2=>H2 p = some (.dK [])/\∃ kvs:List (dS × V),ps = kvs.map (fun kv=>(kV kv.1,kv.2))/\kvs.length<=15/\Q (.ref p) (cX H2 p (.dK (lN [] kvs)))
theorem Tk {X:Cx} {pos:Pos} {keys:List (Option Expr)} {values:List Expr} {trs:List (TE × TE)} (h:PPs X pos keys values trs) (hall:keys.all (·.isSome) = true) (hl:keys.length = values.length) (h0:keys ≠ [])
  (h15:keys.length<=15):PE X (.Dict keys values pos) (Wa trs):=by
 intro pins s σ H Q I q;have hn:=I.hok.fresh (le_refl s.heap.objs.size);have I1:=I.laid (a:=s.heap.objs.size) (o:=.dK []) (h':=s.heap.push { cls:=.type "dict",data:=.dict #[] }) (t':=s.toks) (fun _ _ q=>get?_push_of_some _ q) (le_refl _) (zM s.heap I.big);refine wpAny_Dict_walk (knd:=dJ X.prog X.w) hall hl h0 h15 (dO (h pins _ σ _ _ I1 (q _ hn)) fun ws s2 ⟨ps,H2,I2,rel,e,kvs,ep,lk,q2⟩=>?_);subst ep;obtain ⟨rs,c,rk⟩:=sV (P:=X.prog) (w:=X.w) rel;obtain ⟨z,hd,vs0,r0,dd⟩:=Ek I2.hok e;cases r0;refine ⟨rs,c,dd,fun h' dd' hs=>⟨.ref s.heap.objs.size,_,?_,rfl,q2⟩⟩;have hz:(lN [] kvs).length<=sizeLine:=by
  have h1:=mI kvs [];rw [length_nil] at h1;rw [sizeLine_eq]; omega
 have he:∃ q,h'.get? s.heap.objs.size = some q:=let ⟨q,_,_,hq,_⟩:=dd'; ⟨q,hq⟩
 exact qZ I2 (by rw [e]; exact True.intro) hs he (Bm hz hd (rk.merge .nil) dd')
structure M1 (X:Cx) (o:Expr) (m:Str) (apos:Pos) (e:Expr) (cpos:Pos):Prop where
 base:attributeBase o m X.env (eval o X.env) = eval o X.env
 few:((backTo cpos (starEach [e] X.env)).all (fun x=>!x.1) && (backToKw cpos (keywordEach [] X.env)).all (fun x=>x.1.isSome)
  && decide (([e]:List Expr).length + ([]:List Keyword).length + (if ([]:List Keyword).isEmpty then 0 else 1) < 30)) = true
 line:(apos.endLine == cpos.line) = true
 trees:backTo cpos (starEach [e] X.env) = [(false,eval e X.env)]
structure M2 (X:Cx) (o:Expr) (m:Str) (apos:Pos) (e f:Expr) (cpos:Pos):Prop where
 base:attributeBase o m X.env (eval o X.env) = eval o X.env
 few:((backTo cpos (starEach [e,f] X.env)).all (fun x=>!x.1) && (backToKw cpos (keywordEach [] X.env)).all (fun x=>x.1.isSome)
  && decide (([e,f]:List Expr).length + ([]:List Keyword).length + (if ([]:List Keyword).isEmpty then 0 else 1) < 30)) = true
 line:(apos.endLine == cpos.line) = true
 trees:backTo cpos (starEach [e,f] X.env) = [(false,eval e X.env),(false,eval f X.env)]
def IsD (H:Hp) (a:Addr):Prop:=(∃ kvs,Rd H a (.dK kvs))\/∃ kvs,Rd H a (.dT kvs)
theorem Ow {X:Cx} {pins:List (Addr × Obj)} {σ:St} {H:Hp} {s:Shared} {a:Addr} (I:Inv X pins σ H s) (d:IsD H a) :
  s.TypeIs (.ref a) "dict"/\(∀ b,Value.ref a = .ref b->∃ ob,s.heap.get? b = some ob/\ob.dict = none)/\(a == sysModules) = false:=by
 rcases d with ⟨kvs,e⟩ | ⟨kvs,e⟩
 ·obtain ⟨_,hd,vs,_,dd⟩:=uV I.hok e;refine ⟨dd.typeIs,fun b q=>?_,hd⟩;cases q;obtain ⟨ob,_,_,h1,h2,_⟩:=dd;exact ⟨ob,h1,h2.2.1⟩
 ·obtain ⟨_,hd,xs,_,dd⟩:=uT I.hok e;refine ⟨dd.typeIs,fun b q=>?_,hd⟩;cases q;obtain ⟨ob,_,_,h1,h2,_⟩:=dd;exact ⟨ob,h1,h2.2.1⟩
section
variable {X:Cx} {pins:List (Addr × Obj)} {σ:St} {H:Hp} {s:Shared} {a:Addr} {y d:V} {u r:Value} {o:Option V} {A:Around} {E:Value->Shared->Prop}
theorem aEi {Q:Value->Shared->Prop} (hu:A.units + 1 < cLine) (I:Inv X pins σ H s) (g:DGet H a y o) (ry:RelV y u) (rd:RelV d r) (h:∀ w' s',Inv X pins σ H s'->RelV (o.getD d) w'->Q w' s') :
  wpAny (model X.prog X.w) A (call (.builtin "dict.get") [.ref a,u,r]) Q E s:=by
 rcases g with ⟨kvs,k,e,ey,l⟩ | ⟨kvs,k,b,e,ey,eb,l⟩
 ·subst ey;obtain ⟨z,hd,vs,rel,dd⟩:=uV I.hok e;refine call_meetsIn F.slot_dict_get dd.typeIs F.entry_dict_get (F.args_dict_get_3 _ _ _) (meets_dict_get_default (dJ X.prog X.w) a (sH ry) hd r) ⟨_,dd.mapOf,h _ _ (I.tok _) ?_⟩;rw [l];exact (rel.val k).getD rd
 ·subst ey;cases (show u = Value.ref b from ry);obtain ⟨z,hd,xs,rel,dd⟩:=uT I.hok e;refine call_meetsIn F.slot_dict_get dd.typeIs F.entry_dict_get (F.args_dict_get_3 _ _ _) (meetsH_dict_get_default (tupleKind (dJ X.prog X.w)) a b hd r) ⟨tupleKind_room_in1 hu,k,xs,sE I.hok eb,dd,h _ _ (I.tok _) ?_⟩;rw [l];exact (rel.val k).getD rd
end
def Jh (td ty tx:TE):TE:=fun σ H Q=>td σ H fun x H1=>∃ a,x = .ref a/\IsD H1 a/\ty σ H1 fun y H2=>tx σ H2 fun z H3=>∃ o,DGet H3 a y o/\Q (o.getD z) H3
def Jg (td ty:TE):TE:=fun σ H Q=>td σ H fun x H1=>∃ a,x = .ref a/\IsD H1 a/\ty σ H1 fun y H2=>∃ kvs k v,H2 a = some (.dK kvs)/\y = kV k/\lD kvs k = some v/\Q v (cX H2 a (.dK (mL kvs k)))
section
variable {X:Cx} {o e f:Expr} {apos cpos:Pos} {td ty tx:TE}
theorem Nk (hu:X.A.units + 1 < cLine) (ho:PE X o td) (he:PE X e ty) (hf:PE X f tx) (m:M2 X o "get" apos e f cpos):PE X (.Call (.Attribute o "get" apos) [e,f] [] cpos) (Jh td ty tx):=by
 intro pins s σ H Q I h;refine wpAny_Call_method m.base m.few m.line F.plainAttrs_dict F.slot_dict_get F.type_dict_get (dO (ho pins s σ H _ I h) fun u s1 ⟨x,H1,I1,rx,a,ex,d,q1⟩=>?_);subst ex;obtain rfl:u = Value.ref a:=rx;obtain ⟨t1,t2,_⟩:=Ow I1 d;refine ⟨t1,t2,?_⟩;rw [m.trees]
 refine Calls.callWith_builtin rfl (Calls.evalArgs_plain (Calls.spliced_cons (dO (he pins s1 σ H1 _ I1 q1) fun iv s2 ⟨y,H2,I2,ry,q2⟩ =>
  Calls.spliced_cons (dO (hf pins s2 σ H2 _ I2 q2) fun fv s3 ⟨z,H3,I3,rz,ov,g,q3⟩=>Calls.spliced_nil ?_))))
 exact aEi hu I3 g ry rz fun w' s4 I4 rw'=>⟨_,H3,I4,rw',q3⟩
theorem Nj (ho:PE X o td) (he:PE X e ty) (m:M1 X o "pop" apos e cpos):PE X (.Call (.Attribute o "pop" apos) [e] [] cpos) (Jg td ty):=by
 intro pins s σ H Q I h;refine wpAny_Call_method m.base m.few m.line F.plainAttrs_dict F.slot_dict_pop F.type_dict_pop (dO (ho pins s σ H _ I h) fun u s1 ⟨x,H1,I1,rx,a,ex,d,q1⟩=>?_);subst ex;obtain rfl:u = Value.ref a:=rx;obtain ⟨t1,t2,_⟩:=Ow I1 d;refine ⟨t1,t2,?_⟩;rw [m.trees];refine Calls.callWith_builtin rfl (Calls.evalArgs_plain (Calls.spliced_cons (dO (he pins s1 σ H1 _ I1 q1) fun iv s2 ⟨y,H2,I2,ry,kvs,k,v,ea,ey,l,q2⟩=>Calls.spliced_nil ?_)));subst ey;exact aJr I2 ea ry l (.inl rfl) fun w' s3 I3 rw'=>⟨v,_,I3,rw',q2⟩
end
end L2
set_option maxHeartbeats 4000000
namespace Lx
open PySem PySem.Spec PyProof.Rows L2
def ExcAt (h₀ h:Heap) (H:Hp) (x:Addr) (C:Value):Prop :=
 ∃ oe vs,h.get? x = some oe/\oe.cls = C/\oe.data = .fields vs/\H x = none/\h₀.get? x = none /\
  (vs[1]? = some Value.none\/∃ T oT ts,vs[1]? = some (Value.ref T)/\T ≠ x/\h.get? T = some oT/\oT.data = .fields ts/\ts[3]? = some Value.none/\H T = none/\h₀.get? T = none)
theorem ExcAt.older {h₀ h₁ h:Heap} {H:Hp} {x:Addr} {C:Value} (e:ExcAt h₁ h H x C) (k:∀ b,h₁.get? b = none->h₀.get? b = none):ExcAt h₀ h H x C:=by
 obtain ⟨oe,vs,h1,h2,h3,h4,h5,h6⟩:=e;refine ⟨oe,vs,h1,h2,h3,h4,k _ h5,?_⟩;rcases h6 with h6 | ⟨T,oT,ts,g1,g2,g3,g4,g5,g6,g7⟩
 ·exact .inl h6
 ·exact .inr ⟨T,oT,ts,g1,g2,g3,g4,g5,g6,k _ g7⟩
theorem nY {P:Program} {w:World} {H:Hp} {h:Heap} {a:Addr} {o:HO} (x:ObjOk P w H h a o):∃ u,h.get? a = some u:=by
 cases o with
 | lst xs=>obtain ⟨_,_,_,_,e⟩:=x; exact ⟨_,e⟩
 | tup xs=>obtain ⟨_,_,_,p⟩:=x; obtain ⟨o,h1,_⟩:=p; exact ⟨o,h1⟩
 | dK kvs=>obtain ⟨_,_,_,_,o,_,_,e,_⟩:=x; exact ⟨_,e⟩
 | dT kvs=>obtain ⟨_,_,_,_,o,_,_,e,_⟩:=x; exact ⟨_,e⟩
 | set S n=>obtain ⟨o,_,_,_,e,_⟩:=x; exact ⟨_,e⟩
 | ins C dx fs=>obtain ⟨_,_,_,e,_⟩:=x; exact ⟨_,e⟩
 | own y=>exact x
 | xd fs=>obtain ⟨_,⟨_,_,_,e,_⟩,_⟩:=x; exact ⟨_,e⟩
 | rng lo hi=>obtain ⟨_,_,_,e⟩:=x; exact ⟨_,e⟩
 | frz ob u=>obtain ⟨e,_⟩:=x; exact ⟨_,e⟩
 | tbl ps=>exact ⟨_,(show h.get? a = some _ from x)⟩
 | met f y=>exact ⟨_,(show h.get? a = some _ from x)⟩
 | ext φ=>obtain ⟨_,e,_⟩:=x; exact e
theorem kJ {env:Env} {l:List Env} {a:Addr} (h:env∈l) (hf:env.frame = some a):a∈iQ l:=mem_filterMap.mpr ⟨env,h,hf⟩
theorem uF {M:Model} {A:Around} {E:Value->Shared->Prop} {s:Shared} {base h₀:Heap} {env:Env} {outer:List Env} {L x:Addr} {C:Value} {H:Hp} {Q:Unit->Shared->Prop}
  (hfr:A.frames = some (env :: outer)) (hl:s.heap.FunFrames base (env :: outer)) (hf:env.frame = some L) (hx:ExcAt h₀ s.heap H x C)
  (h0:∀ b o,h₀.get? b = some o->∃ u,s.heap.get? b = some u) (hH:∀ b o,H b = some o->∃ u,s.heap.get? b = some u)
  (h:∀ h',(∀ b o,s.heap.get? b = some o->(h₀.get? b ≠ none\/H b ≠ none)->b ∉ iQ (env :: outer)->h'.get? b = some o) ->
   (∀ b o,s.heap.get? b = some o->b∈iQ (env :: outer)->∃ sl,h'.get? b = some { o with slots:=sl }) ->
   ExcAt h₀ h' H x C->Q () { s with heap:=h' }) :
  wpAny M A (noteFrame (.ref x) env) (fun _ s2=>wpAny M A (setFlight (.ref x) none) Q E s2) E s:=by
 obtain ⟨oe,vs,he,hc,hd,hHx,h0x,htr⟩:=hx;have go:∀ (tr:List Addr) (hxt:x∈tr) (htr:∀ b∈tr,H b = none/\h₀.get? b = none) (h':Heap),Heap.Left (W.hideAll s.heap (tr ++ iQ (env :: outer))) (env :: outer) x C s.heap h'->Q () { s with heap:=h' }:=by
  intro tr hxt htr h' hL;obtain ⟨k1,k2,k3,k4⟩:=hL;have kept:∀ b o,s.heap.get? b = some o->(h₀.get? b ≠ none\/H b ≠ none)->b ∉ iQ (env :: outer)->h'.get? b = some o:=fun b o e hb hn=>by
   refine k1 b o (W.hideAll_get _ e fun hm=>?_);rcases mem_append.mp hm with z | z
   ·obtain ⟨z1,z2⟩:=htr b z;rcases hb with q | q
    ·exact q z2
    ·exact q z1
   ·exact hn z
  refine h h' kept (fun b o e hb=>?_) ?_
  ·obtain ⟨_,o',e',nf⟩:=hl.mem hb;rw [e] at e'; cases e';exact k4 b o e nf
  ·obtain ⟨oe',vs',T,oT,ts,he',hc',hd',h1',hnT,hTe,hT,hdT,h3⟩:=k3;have hTn:H T = none/\h₀.get? T = none:=by
    by_cases hm:T∈tr ++ iQ (env :: outer)
    ·rcases mem_append.mp hm with z | z
     ·exact htr T z
     ·obtain ⟨_,o',e',nf⟩:=k2.mem z;rw [hT] at e'; cases e';exact absurd hdT (nf ts)
    ·have no:s.heap.get? T = none:=by
      cases q:s.heap.get? T with
      | none=>rfl
      | some o =>
       rw [W.hideAll_get _ q hm] at hnT; cases hnT
     refine ⟨?_,?_⟩
     ·cases q:H T with
      | none=>rfl
      | some o =>
       obtain ⟨u,hu⟩:=hH T o q;rw [no] at hu; cases hu
     ·cases q:h₀.get? T with
      | none=>rfl
      | some o =>
       obtain ⟨u,hu⟩:=h0 T o q;rw [no] at hu; cases hu
   exact ⟨oe',vs',he',hc',hd',hHx,h0x,.inr ⟨T,oT,ts,h1',hTe,hT,hdT,h3,hTn.1,hTn.2⟩⟩
 have ff:∀ tr:List Addr,s.heap.FunFrames (W.hideAll s.heap (tr ++ iQ (env :: outer))) (env :: outer):=fun tr=>W.funFrames_hide hl fun env' h1 a h2=>mem_append_right _ (kJ h1 h2);have stays:∀ tr:List Addr,(W.hideAll s.heap (tr ++ iQ (env :: outer))).StaysIn s.heap:=fun tr b o q=>W.of_hideAll _ q;have hid:∀ (tr:List Addr) (b:Addr),b∈tr->(W.hideAll s.heap (tr ++ iQ (env :: outer))).get? b = none:=fun tr b hb=>W.hideAll_none _ (mem_append_left _ hb);rcases htr with h1 | ⟨Tr,oTr,tv,h1,hTx,hTr,hdTr,h3,hHT,h0T⟩
 ·unfold noteFrame;simp only [hf];refine wpAny_bind (wpAny_field (s:=s) he hd h1 ?_);rw [if_neg (by decide:¬ ((Value.none != Value.none) = true))];refine wpAny_newEntry hfr (ff [x]) hf he (stays [x]) (hid [x] x (by simp)) hd (Array.getElem?_eq_some_iff.mp h1).1 fun h' hL=>go [x] (by simp) (fun b hb=>?_) h' (by rw [<- hc]; exact hL);have e:b = x:=by simpa using hb
  subst e;exact ⟨hHx,h0x⟩
 ·unfold noteFrame;simp only [hf];refine wpAny_bind (wpAny_field (s:=s) he hd h1 ?_);rw [if_pos (by simp:(Value.ref Tr != Value.none) = true)];refine wpAny_bind (wpAny_field (s:=s) hTr hdTr h3 ?_);rw [if_neg (by simp [rawInt]:¬ ((Value.none == rawInt L) = true))];refine wpAny_bind (wpAny_setField (s:=s) hTr hdTr (Array.getElem?_eq_some_iff.mp h3).1 ?_);have oth:∀ b,b ≠ Tr->(s.heap.update Tr (Obj.mapFields (·.setIfInBounds 3 Value.none))).get? b = s.heap.get? b:=fun b nb=>get?_update_other _ _ (Ne.symm nb);have nT:∀ b u,s.heap.get? b = some u->(∀ vs,u.data ≠ .fields vs)->b ≠ Tr:=fun b u q nf z=>by
   rw [z,hTr] at q;cases q;exact nf tv hdTr
  refine wpAny_newEntry hfr ((ff [x,Tr]).of_keeps fun b u q nf=>⟨u,(oth b (nT b u q nf)).trans q,rfl⟩) hf ((oth x (Ne.symm hTx)).trans he) (fun b u q=>(oth b fun z=>?_).trans (stays [x,Tr] b u q)) (hid [x,Tr] x (by simp)) hd (Array.getElem?_eq_some_iff.mp h1).1
   fun h' hL=>go [x,Tr] (by simp) (fun b hb=>?_) h' ⟨hL.1,hL.2.1,by rw [<- hc]; exact hL.2.2.1,fun b u q nf=>hL.2.2.2 b u ((oth b (nT b u q nf)).trans q) nf⟩
  ·rw [z,hid [x,Tr] Tr (by simp)] at q;cases q
  ·have e:b = x\/b = Tr:=by simpa using hb
   rcases e with e | e
   ·subst e; exact ⟨hHx,h0x⟩
   ·subst e; exact ⟨hHT,h0T⟩
theorem yZ {M:Model} {A:Around} {E:Value->Shared->Prop} {s:Shared} {base h₀:Heap} {env:Env} {outer:List Env} {L x:Addr} {C:Value} {H:Hp} {Q:Unit->Shared->Prop}
  (hfr:A.frames = some (env :: outer)) (hl:s.heap.FunFrames base (env :: outer)) (hf:env.frame = some L) (hx:ExcAt h₀ s.heap H x C)
  (h0:∀ b o,h₀.get? b = some o->∃ u,s.heap.get? b = some u) (hH:∀ b o,H b = some o->∃ u,s.heap.get? b = some u)
  (h:∀ h',(∀ b o,s.heap.get? b = some o->(h₀.get? b ≠ none\/H b ≠ none)->b ∉ iQ (env :: outer)->h'.get? b = some o) ->
   (∀ b o,s.heap.get? b = some o->b∈iQ (env :: outer)->∃ sl,h'.get? b = some { o with slots:=sl }) ->
   ExcAt h₀ h' H x C->Q () { s with heap:=h' }) :
  wpAny M A (leaving env (.ref x)) Q E s:=wpAny_bind (uF hfr hl hf hx h0 hH h)
def eA (P:Program) (w:World):Hs:=fun outer H s E e s' =>
 ∃ (x:Addr) (C:Value) (H':Hp),e = .ref x/\s'.os = s.os/\AllBare s'.gens/\Un (iQ outer) [] H H' s.heap s'.heap/\HOk P w H' s'.heap/\ExcAt s.heap s'.heap H' x C/\E C none H'
theorem bF {P:Program} {w:World} {X:Cx}:jE (eA P w) X E0:=fun _ _ _ _ _ _ _ ⟨_,_,_,_,_,_,_,_,_,h⟩=>h.elim
section
variable {P:Program} {w:World} {K:W.Frag} {mg:Str->Option Value} {base:Heap}
theorem wG {X:Cx} {pins:List (Addr × Obj)} {σ:L2.St} {H':Hp} {s':Shared} {h' h₁:Heap} (I':Inv X pins σ H' s')
  (k:∀ b o,s'.heap.get? b = some o->(h₁.get? b ≠ none\/H' b ≠ none)->b ∉ iQ X.stack->h'.get? b = some o):HOk X.prog X.w H' h':=fun a o e =>
 (I'.hok a o e).stay (fun b u hb q=>by
  have t:H' b ≠ none:=by
   rcases hb with z | z
   ·rw [z,e]; simp
   ·rw [z]; simp
  exact k b u q (.inr t) fun hm=>t (I'.stkFree b hm)) (fun _ q=>q) fun _ _ q=>q
theorem bM {N:List Str} {qual:Str} {scope:Scope} {f:Addr} {cdv:Value} {A:Around} {outer:List Env} {s₀:Shared} {H₀:Hp} {E:XK} :
  jE (eA P w) (nE (eA P w) P w K mg base N qual scope f cdv A outer s₀ H₀ E) E:=by
 intro pins σ H s e s' I hc;obtain ⟨x,C,H',rfl,ho,hg,u,hok,hx,hE⟩:=hc;have I':Inv (nE (eA P w) P w K mg base N qual scope f cdv A outer s₀ H₀ E) pins σ H' s':=I.call' ho u hok hg (fun b z=>absurd z (by simp));have there:∀ b o,s₀.heap.get? b = some o->∃ o',s.heap.get? b = some o':=fun b o e=>I.base.there b o e (by intro z; exact absurd (show b∈([]:List Addr) from z) (by simp));show wpAny (model P w) _ (leaving _ (.ref x)) _ _ s';refine yZ (h₀:=s.heap) (H:=H') (C:=C) (base:=base) I'.ok.frames I'.stack rfl hx (fun b o e=>u.there b o e (by simp)) (fun b o e=>nY (hok b o e)) fun h' kp sl hx'=>?_;have noex:∀ b:Addr,b ∉ (nE (eA P w) P w K mg base N qual scope f cdv A outer s₀ H₀ E).ex:=fun b z=>absurd (show b∈([]:List Addr) from z) (by simp);have neL:∀ b o,s₀.heap.get? b = some o->b ∉ iQ outer->b ∉ iQ (envOfC qual scope s₀.heap.objs.size f cdv :: outer):=fun b o e hb hm=>by
  rcases mem_cons.mp (I'.stkSub b hm) with z | z
  ·exact absurd (z ▸ lt_size e) (not_lt.mpr I'.ok.above)
  ·exact hb z
 refine ⟨x,C,H',rfl,I'.os,I'.bare,⟨fun b o e n hb _=>?_,fun b o e n hb _=>?_,fun b o e n _=>I'.base.free b o e n (noex b),fun b o e _=>?_,I'.base.tups,I'.base.frzs,I'.base.tbls⟩,wG I' kp,hx'.older (fun b q=>?_),hE⟩
 ·obtain ⟨o',e'⟩:=there b o e;exact kp b o (I'.base.keep b o e n hb (noex b)) (.inl (by rw [e']; simp)) (neL b o e hb)
 ·obtain ⟨sl1,e1⟩:=I'.base.slot b o e n hb (noex b)
  obtain ⟨sl2,e2⟩:=sl b _ e1 (by
   obtain ⟨env,h1,h2⟩:=mem_filterMap.mp hb
   exact kJ (mem_cons_of_mem _ h1) h2)
  exact ⟨sl2,e2⟩
 ·obtain ⟨o1,e1⟩:=I'.base.there b o e (noex b);by_cases hm:b∈iQ (envOfC qual scope s₀.heap.objs.size f cdv :: outer)
  ·obtain ⟨sl2,e2⟩:=sl b _ e1 hm;exact ⟨_,e2⟩
  ·obtain ⟨o',e'⟩:=there b o e;exact ⟨_,kp b o1 e1 (.inl (by rw [e']; simp)) hm⟩
 ·cases q2:s₀.heap.get? b with
  | none=>rfl
  | some o =>
   obtain ⟨o',e'⟩:=there b o q2;rw [q] at e'; cases e'
theorem okE {x qual:Str} {st:Stmt} {f:Addr} {fd:FuncData} {N ps:List Str} {k:Nat} {sp:Sp} (F:Fun K x qual st f fd) (S:FnScope N ps (aT st)) (len:∀ vs H Q E,sp vs H Q E->vs.length = ps.length)
  (hbody:∀ (cdv:Value) (A:Around) (outer:List Env) (s:Shared) (H:Hp) (vs:List V) (Q:VK) (E:XK),Room k (A.deeper (envOfC qual (aT st) s.heap.objs.size f cdv))->sp vs H Q E ->
   ∃ t,Br (nE (eA P w) P w K mg base N qual (aT st) f cdv A outer s H E) (fH st) t/\t { nx:=fun _ H'=>Q .non H',rt:=Q } (start N vs) H):FnOk P w K mg base (eA P w) (k + 1) f fd ps sp:=by
 obtain ⟨oc,od,kV,doc,pm,an,cdv,ct,osl,rfl,lk,hcd⟩:=F.ex;exact aJc lk hcd S len fun A outer s H vs Q E hr hsp=>hbody cdv A outer s H vs Q E hr hsp
end
abbrev aLu:List Value:=[.type "ValueError",.type "Exception",.type "BaseException",.type "object"]
theorem Tq {K:W.Frag} {h:Heap} {C:Addr} {bmB:List Value} {newId:String} (KI:K.In h) (q:W.excIn K C bmB newId = true) :
  ∃ bm N nm qn bs hdct sn sub ab col dd k0 k1 k2 k3 k5 mN,h.get? C = some (excClassObj nm qn C N bs bm hdct sn sub ab col dd k0 k1 k2 k3 k5 newId)/\h.Ns N mN/\mN "__init__" = none/\OwnTail h bmB bm:=by
 unfold W.excIn at q;split at q
 ·rename_i dct cdat slts hlook
  split at q
  ·rename_i Cx bmx s0 s1 s2 s3 nw s5 hmr hsl
   simp only [and_eq_true,beq_iff_eq,not_eq_true'] at q;obtain ⟨⟨⟨⟨⟨q1,q2⟩,q3⟩,q4⟩,q5⟩,q6⟩:=q;subst q1; subst q2;obtain ⟨f1,f2,f3,f4,f5,f6,f7,f8,f9,f10,f11⟩:=cdat;dsimp only at hmr q3 q5 q6;subst hmr; subst q3;obtain ⟨sl⟩:=slts;dsimp only at hsl;subst hsl;exact ⟨bmx,f4,f1,f5,f2,f6,f7,f8,f9,f10,dct,s0,s1,s2,s3,s5,_,KI _ _ hlook,.of_isNs (W.isNs_of_in KI q5),W.nsMap_none_of_in KI q5 q6,W.tail_of_in KI q4⟩
  ·cases q
 ·cases q
structure ExcCl (K:W.Frag) (mg:Str->Option Value) (x:Str) (C:Addr):Prop where
 ex:W.excIn K C aLu "ValueError.__new__" = true
 mgx:mg x = some (.ref C)
def Jd (E:XK) (C:Addr) (t:TA):TS:=fun _ σ H=>t σ H fun vs H1=>vs.length<=sizeLine/\E (.ref C) none H1
section
variable {X:Cx} {P:Program} {w:World} {E:XK} {x:Str} {C:Addr} {np cpos pos:Pos} {e:Expr} {es:List Expr} {t:TA}
theorem cP (O:ExcCl X.K X.mg x C) (hh:X.A.handled = none) (hx:jE (eA X.prog X.w) X E) (hg:Gl X x) (ha:PA X (e :: es) t) (hd:(x == ("__debug__":Str)) = false:=by decide)
  (he:starEach (e :: es) X.env = (false,eval e X.env) :: starEach es X.env:=by rfl) (hpl:(backTo cpos (starEach es X.env)).any (·.1) = false:=by rfl) :
  PS X (.Raise (some (.Call (.Name x np) (e :: es) [] cpos)) none pos) (Jd E C t):=by
 intro pins s σ H D I h;obtain ⟨bm,N,nm,qn,bs,hdct,sn,sub,ab,col,dd,k0,k1,k2,k3,k5,mN,hC,hN,hni,T⟩:=Tq I.ok.mod.kin O.ex;refine wpAny_Raise_call_subU (C:=C) (nm:=nm) (q:=qn) (N:=N) (bs:=bs) (bm:=bm) (hdct:=hdct) (sn:=sn) (sub:=sub) (ab:=ab) (col:=col) (dd:=dd) (k0:=k0) (k1:=k1) (k2:=k2) (k3:=k3) (k5:=k5)
  F.excBase_ValueError (by decide +kernel) F.excBase_ValueError (mN:=mN) (T.hasType F.excBase_ValueError.hasBase) hh (by rw [he]; show (false || (backTo cpos (starEach es X.env)).any (·.1)) = false; rw [hpl]; rfl) hni (oF I hg O.mgx ⟨rfl,?_⟩ hd)
 have ha1:=dO (ha cpos pins s σ H _ I h) (Q':=fun vs s₂=>vs.length<=sizeLine/\(∀ b o,X.base.get? b = some o->s₂.heap.get? b = some o)/\∀ h' e,Heap.MadeExcOf s₂.heap h' e (.ref C) vs->X.xe (.ref e) { s₂ with heap:=h' }) (fun us s2 ⟨vs,H1,I1,r,z,q⟩=>⟨by rw [<- r.length]; exact z,I1.bk,fun h' e M=>?_⟩)
 ·rw [he] at ha1 ⊢;exact Calls.evalArgs_plain (wpAny_mono ha1 (fun vs s₂ h₂=>⟨rfl,h₂.1,h₂.2.1 _ _ hC,hN.keeps h₂.2.1,T.keeps h₂.2.1,h₂.2.2⟩) fun _ _ y=>y)
 ·refine hx pins σ H1 s2 (.ref e) _ I1 ⟨e,.ref C,H1,rfl,rfl,I1.bare,Un.kept M.keeps,I1.hok.kept M.keeps,?_,q⟩;obtain ⟨tt,t1,t2,t3⟩:=M.there;refine ⟨_,_,t1,rfl,rfl,?_,M.new,.inl rfl⟩;cases z:H1 e with
  | none=>rfl
  | some o =>
   obtain ⟨u,hu⟩:=nY (I1.hok e o z);rw [M.new] at hu; cases hu
end
abbrev XS:=L2.St->XK
abbrev TSX:=Ends->XS->L2.St->Hp->Prop
def Up (X:Cx) (pins:List (Addr × Obj)) (E:XS) (e:Value) (s':Shared):Prop :=
 ∃ (x:Addr) (C:Value) (σ':L2.St) (H':Hp) (h₁:Heap),e = .ref x/\Inv X pins σ' H' s'/\ExcAt h₁ s'.heap H' x C/\(∀ b o,h₁.get? b = some o->∃ u,s'.heap.get? b = some u) /\
  (∀ b o,X.s₀.heap.get? b = some o->b ∉ X.ex->∃ u,h₁.get? b = some u)/\(∃ u,h₁.get? X.env.locals = some u)/\(∀ p∈X.pn ++ pins,∃ u,h₁.get? p.1 = some u)/\(∀ x c,X.env.cells.lookup x = some c->∃ u,h₁.get? c = some u)/\E σ' C none H'
def PSX (X:Cx) (st:Stmt) (t:TSX):Prop :=
 ∀ (pins:List (Addr × Obj)) (s:Shared) (σ:L2.St) (H:Hp) (D:Ends) (E:XS),Inv X pins σ H s->t D E σ H->wpAny (model X.prog X.w) X.A (exec st X.env) (SP X pins D) (Up X pins E) s
def aKq (X:Cx) (st:List Stmt) (t:TSX):Prop :=
 ∀ (pins:List (Addr × Obj)) (s:Shared) (σ:L2.St) (H:Hp) (D:Ends) (E:XS),Inv X pins σ H s->t D E σ H->wpAny (model X.prog X.w) X.A (execs st X.env) (SP X pins D) (Up X pins E) s
section
variable {X:Cx} {st:Stmt} {rest:List Stmt} {t u:TSX} {pos:Pos}
theorem Na (h1:PSX X st t):aKq X [st] t:=by
 intro pins s σ H D E I h;refine wpAny_execs_cons (dO (h1 pins s σ H D E I h) fun f s1 q=>?_);cases f with
 | next=>exact wpAny_execs_nil q
 | ret v=>exact q
 | brk=>exact q
 | cont=>exact q
theorem aGm {pins:List (Addr × Obj)} {σ:L2.St} {H:Hp} {s s':Shared} {e:Value} {E:XS} (I:Inv X pins σ H s) (h:eA X.prog X.w X.stack H s (E σ) e s'):Up X pins E e s':=by
 obtain ⟨x,C,H',rfl,ho,hg,un,hok,hx,hE⟩:=h;refine ⟨x,C,σ,H',s.heap,rfl,I.call' ho un hok hg (fun b z=>absurd z (by simp)),hx,fun b o e=>un.there b o e (by simp),fun b o e hb=>I.base.there b o e hb,?_,fun p hp=>⟨_,(I.pin p hp).1⟩,fun x c hc=>?_,hE⟩
 ·obtain ⟨m,⟨o,_,_,ho,_⟩,_⟩:=I.loc;exact ⟨o,ho⟩
 ·obtain ⟨v,o,ho,_⟩:=I.cell x c hc;exact ⟨o,ho⟩
variable {k:Nat} {f:Addr} {fd:FuncData} {ps:List Str} {sp:Sp} {x:Str} {p:Pos} {e:Expr} {es:List Expr} {ta:TA}
end
abbrev lV (X:Cx) (x:Addr):Cx:={ X with A:=X.A.mark (some (.ref x)),calm:=false,xe:=fun _ _=>False }
section
variable {X:Cx} {pins:List (Addr × Obj)} {σ:L2.St} {H:Hp} {s:Shared} {x:Addr}
theorem Ge (ok:X.Ok):(lV X x).Ok :=
 ⟨ok.mod,ok.kind,ok.glob,ok.blt,ok.above,ok.inj,ok.has,ok.cab,fun z=>absurd z (by simp),ok.frames,ok.stk,ok.exf,ok.bs,ok.bsz,ok.noex,ok.exfs,ok.funs,ok.frf⟩
theorem sK (I:Inv X pins σ H s):Inv (lV X x) pins σ H s:=⟨Ge I.ok,I.os,I.bare,I.base,I.loc,I.cell,I.free,I.freeC,I.pin,I.hok,I.len⟩
theorem iA (hX:X.Ok) (I:Inv (lV X x) pins σ H s):Inv X pins σ H s:=⟨hX,I.os,I.bare,I.base,I.loc,I.cell,I.free,I.freeC,I.pin,I.hok,I.len⟩
theorem xY {D:Ends} {f:Flow} {s':Shared} (hX:X.Ok) (h:SP (lV X x) pins D f s'):SP X pins D f s':=by
 cases f with
 | next=>obtain ⟨σ',H',I,q⟩:=h; exact ⟨σ',H',iA hX I,q⟩
 | brk=>obtain ⟨σ',H',I,q⟩:=h; exact ⟨σ',H',iA hX I,q⟩
 | cont=>obtain ⟨σ',H',I,q⟩:=h; exact ⟨σ',H',iA hX I,q⟩
 | ret u=>obtain ⟨v,σ',H',I,r,q⟩:=h; exact ⟨v,σ',H',iA hX I,r,q⟩
structure Old (X:Cx) (pins:List (Addr × Obj)) (h₁:Heap):Prop where
 s0:∀ b o,X.s₀.heap.get? b = some o->b ∉ X.ex->∃ u,h₁.get? b = some u
 lo:∃ u,h₁.get? X.env.locals = some u
 pn:∀ p∈X.pn ++ pins,∃ u,h₁.get? p.1 = some u
 ce:∀ x c,X.env.cells.lookup x = some c->∃ u,h₁.get? c = some u
theorem lY {h:Heap} {b:Addr} (e:∃ u,h.get? b = some u):h.get? b ≠ none:=by
 obtain ⟨u,e⟩:=e;rw [e]; simp
theorem sJ {h₁ h':Heap} {t':Nat} (hst:X.stack = X.env :: X.outer) (hf:X.env.frame = some X.env.locals) (I:Inv X pins σ H s) (O:Old X pins h₁)
  (kp:∀ b o,s.heap.get? b = some o->(h₁.get? b ≠ none\/H b ≠ none)->b ∉ iQ X.stack->h'.get? b = some o)
  (sl:∀ b o,s.heap.get? b = some o->b∈iQ X.stack->∃ sl,h'.get? b = some { o with slots:=sl }):Inv X pins σ H { s with heap:=h',toks:=t' }:=by
 have sub:∀ b∈X.fs,b∈iQ X.stack:=fun b hb=>by
  obtain ⟨env,h1,h2⟩:=mem_filterMap.mp hb;rw [hst];exact kJ (mem_cons_of_mem _ h1) h2
 have Lin:X.env.locals∈iQ X.stack:=by rw [hst]; exact kJ mem_cons_self hf
 have notin:∀ b o,X.s₀.heap.get? b = some o->b ∉ X.fs->b ∉ iQ X.stack:=fun b o e hb hm=>by
  rcases mem_cons.mp (I.stkSub b hm) with z | z
  ·exact absurd (z ▸ lt_size e) (not_lt.mpr I.ok.above)
  ·exact hb z
 have cellK:∀ x c,X.env.cells.lookup x = some c->∀ v,s.heap.IsCell c v->h'.IsCell c v:=fun x c e v ⟨o,ho,hd⟩=>by
  by_cases hc:c∈iQ X.stack
  ·obtain ⟨z,q⟩:=sl c o ho hc;exact ⟨_,q,hd⟩
  ·exact ⟨o,kp c o ho (.inl (lY (O.ce x c e))) hc,hd⟩
 refine ⟨I.ok,I.os,I.bare,⟨fun b o e n hb hx=>?_,fun b o e n hb hx=>?_,I.base.free,fun b o e hx=>?_,I.base.tups,I.base.frzs,I.base.tbls⟩,?_,fun y c e=>?_,I.free,I.freeC,fun p hp=>?_,?_,I.len⟩
 ·exact kp b o (I.base.keep b o e n hb hx) (.inl (lY (O.s0 b o e hx))) (notin b o e hb)
 ·obtain ⟨s1,e1⟩:=I.base.slot b o e n hb hx;obtain ⟨s2,e2⟩:=sl b _ e1 (sub b hb);exact ⟨s2,e2⟩
 ·obtain ⟨o1,e1⟩:=I.base.there b o e hx;by_cases hm:b∈iQ X.stack
  ·obtain ⟨s2,e2⟩:=sl b _ e1 hm;exact ⟨_,e2⟩
  ·exact ⟨_,kp b o1 e1 (.inl (lY (O.s0 b o e hx))) hm⟩
 ·obtain ⟨m,hn,hl⟩:=I.loc;obtain ⟨o,es,ep,ho,r⟩:=hn;obtain ⟨s2,e2⟩:=sl _ o ho Lin;refine ⟨m,⟨_,es,ep,e2,r⟩,fun i y v e1 e2 e3=>?_⟩;obtain ⟨u,r',l⟩:=hl i y v e1 e2 e3;refine ⟨u,r',?_⟩;rcases l with l | ⟨k,c,e,z⟩
  ·exact .inl l
  ·exact .inr ⟨k,c,e,cellK y c e _ z⟩
 ·obtain ⟨v,z⟩:=I.cell y c e;exact ⟨v,cellK y c e v z⟩
 ·obtain ⟨e,n,ne,nf,d⟩:=I.pin p hp;refine ⟨kp p.1 p.2 e (.inl (lY (O.pn p hp))) fun hm=>?_,n,ne,nf,d⟩;rcases mem_cons.mp (I.stkSub _ hm) with z | z
  ·exact ne z
  ·exact nf z
 ·exact wG (h₁:=h₁) I kp
theorem Bi {M:Model} {A:Around} {E:Value->Shared->Prop} {h₀:Heap} {C:Value} {Q:Unit->Shared->Prop} (hx:ExcAt h₀ s.heap H x C)
  (h:∀ h',(∀ b o,s.heap.get? b = some o->(h₀.get? b ≠ none\/H b ≠ none)->h'.get? b = some o)->(∀ b o,s.heap.get? b = some o->(∀ vs,o.data ≠ .fields vs)->h'.get? b = some o)->(∀ b o,s.heap.get? b = some o->∃ u,h'.get? b = some u)->ExcAt h₀ h' H x C->Q () { s with heap:=h' }) :
  wpAny M A (setFlight (.ref x) none) Q E s:=by
 have hx0:=hx;obtain ⟨oe,vs,he,hc,hd,hHx,h0x,htr⟩:=hx;unfold setFlight;rcases htr with h1 | ⟨Tr,oTr,tv,h1,hTx,hTr,hdTr,h3,hHT,h0T⟩
 ·refine wpAny_bind (wpAny_field (s:=s) he hd h1 ?_);rw [if_neg (by decide:¬ ((Value.none != Value.none) = true))];exact wpAny_pure (h s.heap (fun _ _ q _=>q) (fun _ _ q _=>q) (fun _ o q=>⟨o,q⟩) hx0)
 ·refine wpAny_bind (wpAny_field (s:=s) he hd h1 ?_);rw [if_pos (by simp:(Value.ref Tr != Value.none) = true)];refine wpAny_setField (s:=s) hTr hdTr (Array.getElem?_eq_some_iff.mp h3).1 ?_;have oth:∀ b,b ≠ Tr->(s.heap.update Tr (Obj.mapFields (·.setIfInBounds 3 Value.none))).get? b = s.heap.get? b:=fun b nb=>get?_update_other _ _ (Ne.symm nb);have hd':=Obj.data_mapFields hdTr (·.setIfInBounds 3 Value.none);have hT':=get?_update_self (Obj.mapFields (·.setIfInBounds 3 Value.none)) hTr (Obj.isFreed_of_fields hd');refine h _ (fun b o q hb=>(oth b fun z=>?_).trans q) (fun b o q nf=>(oth b fun z=>?_).trans q) (fun b o q=>?_) ⟨oe,vs,(oth x (Ne.symm hTx)).trans he,hc,hd,hHx,h0x,.inr ⟨Tr,_,_,h1,hTx,hT',hd',by simp [(Array.getElem?_eq_some_iff.mp h3).1],hHT,h0T⟩⟩
  ·subst z;rcases hb with g | g
   ·exact g h0T
   ·exact g hHT
  ·subst z;rw [hTr] at q; cases q;exact nf tv hdTr
  ·by_cases z:b = Tr
   ·subst z; exact ⟨_,hT'⟩
   ·exact ⟨o,(oth b z).trans q⟩
end
section
variable {X:Cx}
def Rk (X:Cx) (y:Str) (cv:Value):Prop:=(Gl X y/\X.mg y = some cv)\/(Gl X y/\X.mg y = none/\bootBuiltins y = some cv/\y ≠ "__name__")
theorem Hi {E:Value->Shared->Prop} {pins:List (Addr × Obj)} {s:Shared} {σ:L2.St} {H:Hp} {y:Str} {cv:Value} {np:Pos} {Q:Value->Shared->Prop} (c:Rk X y cv) (I:Inv X pins σ H s) (hd:(y == ("__debug__":Str)) = false) (h:Q cv s) :
  wpAny (model X.prog X.w) X.A (eval (.Name y np) X.env) Q E s:=by
 rcases c with ⟨hg,hm⟩ | ⟨hg,hm,hb,hn⟩
 ·exact oF I hg hm h hd
 ·exact lR I hg hm hb h hn hd
end
theorem Fa {i:Int} {n:Nat} (h:i.natAbs < 2 ^ n):Builtin.Int.intBits i<=n:=by
 unfold Builtin.Int.intBits;split
 ·exact zero_le _
 ·rcases eq_zero_or_pos i.natAbs with h0 | hp
  ·rename_i hne
   exact absurd (Int.natAbs_eq_zero.mp h0) (by simpa using hne)
  ·have:=(log2_lt (ne_of_gt hp)).mpr h;omega
def Wee (i:Int):Prop:=i.natAbs < 2 ^ 8000
theorem Wee.bits {i:Int} (h:Wee i):Builtin.Int.intBits i<=8000:=Fa h
theorem iV {i j:Int} (hi:Wee i) (hj:Wee j):IntMulOk i j:=IntMulOk.of_le hi.bits hj.bits (by decide)
theorem Oe {i j:Int} (hi:Builtin.Int.intBits i<=10000000) (hj:Wee j):IntMulOk i j:=IntMulOk.of_le hi hj.bits (by decide)
theorem Bu {i:Int} (h:Wee i):i.natAbs.log2 < 9000:=by
 rcases eq_zero_or_pos i.natAbs with h0 | hp
 ·rw [h0]; decide
 ·have:=(log2_lt (ne_of_gt hp)).mpr h;omega
def aLd (i j:Int):Prop:=IntMulOk i j
def Fe (i j:Int):Prop:=0 < j/\Wee j
def aLe (i j:Int):Prop:=j ≠ 0/\Wee j
section
variable {X:Cx}
theorem eI:kW X (binaryOp .Mult) (rI aLd fun i j=>.int (i * j)):=opI fun _ _ _ _ _ _ _ hc q=>mul_int q hc
theorem yP:kW X (binaryOp .FloorDiv) (rI aLe fun i j=>.int (i.fdiv j)):=opI fun _ _ _ _ _ _ _ hc q=>floordiv_int hc.1 q (.inl (PyProof.noPylong_of_log2 (Bu hc.2)))
theorem dN:kW X (binaryOp .FloorDiv) (rI Fe fun i j=>.int (i / j)):=opI fun i j _ _ _ _ _ hc q=>by
 have h0:(0:Int) < j:=hc.1;refine floordiv_int (Int.ne_of_gt h0) ?_ (.inl (PyProof.noPylong_of_log2 (Bu hc.2)));rw [fdiv_eq_ediv_of_nonneg _ (Int.le_of_lt h0)];exact q
end
theorem aDs {n:String}:∀ u,RelV (.ty n) u->u = .type n:=fun _ h=>h
theorem iY {a:Addr}:∀ u,RelV (.ref a) u->u = .ref a:=fun _ h=>h
theorem bits_of_lay {ns:List Int} (h:W.WData.layableAll [W.WData.list (ns.map W.WData.int)] = true):∀ v∈ns,Builtin.Int.intBits v<=1048576:=fun v hv=>by
 have h1:=W.layableW_arg h _ (mem_singleton.mpr rfl);have h2:=W.layableW_item h1 (W.WData.int v) (mem_map.mpr ⟨v,hv,rfl⟩);obtain ⟨_,_,h3⟩:=W.layableW_iff.mp h2;have e:(2:Nat) ^ 20 = 1048576:=by decide
 rw [e] at h3;simpa only [W.WData.weight,Builtin.Int.intBits] using h3
end Lx
namespace Att
open PySem PySem.W PySem.Calls PyProof.Rows
theorem attachB {l:OpenLaw} {n:Nat} {q:Program} {loose:List Str} {XP:(Str->Option Value)->Heap->Prop} {YP:World->Heap->Prop} {d:DefRec}
  (hn:l.most = some n) (hdf:d.params.defaults = [])
  (call:∀ (w:World) (s₀ s₁:Shared) (mg mb:Str->Option Value) (fa:Addr) (o:Obj) (pm cd doc:Value) (a:Addr) (vs:List Value) (ns:List Int),
   Ground q loose [] XP w s₀ mg mb s₁.heap->YP w s₁.heap ->
   s₁.heap.get? fa = some o->o.data = .func (docDef d.name d.params d.body d.scope pm cd doc)->s₁.heap.CodeRec cd d.name->mg d.name = some (.ref fa) ->
   s₁.heap.get? a = some { cls:=.type "list",data:=.seq vs.toArray }->IntsAre vs ns->ns.length<=n->(∀ v∈ns,Builtin.Int.intBits v<=1048576)->s₁.gens = #[] ->
   codeAny (model l.prog w) callerA (.call (.ref fa) ⟨[.ref a],[]⟩) (fun r s'=>r = .ok (.ret (.bool true))/\OldK s₁.heap s'.heap/\s'.os = s₁.os/\AllBare s'.gens) s₁) :
  WalkO q loose XP YP l.row.toRowW d [] (fun f vs=>PySem.call f vs):=by
 intro w s₀ s₁ mg mb G Y fa o pm cd doc dV kV ho hd hcd hD hmg hg args vals as hpre hlay hrd hwl hlo;obtain rfl:dV = .none:=Dflts.none hD hdf;obtain rfl:kV = .none:=Dflts.noKw hD;obtain ⟨a,vs,ns,rfl,rfl,hobj,hints,hlen⟩:=Ft hn hpre hwl;refine enter_call (codeAny_mono (call w s₀ s₁ mg mb fa o pm cd doc a vs ns G Y ho (fd_plain hd) hcd hmg hobj hints hlen (Lx.bits_of_lay hlay) hg) fun r s' hq=>?_);obtain ⟨rfl,h2,h3,h4⟩:=hq;exact ⟨.inl ⟨.bool true,.bool true,[],rfl,fun _=>rfl,.bool true,Fz l _,fun _=>⟨List.Pairwise.nil,fun _ hm=>(nomatch hm)⟩⟩,h2,h3,h4⟩
end Att
namespace Lx
open PySem PySem.Spec PyProof.Rows L2
def Ch (K:W.Frag):Sp:=fun vs H Q _=>∃ (a:Addr) (ns:List Int),vs = [.ref a]/\SqL K H a (ns.map V.int)/\ns.length<=63/\(∀ v∈ns,Builtin.Int.intBits v<=1048576)/\aFg H/\∀ H',Q (.bl true) H'
theorem walkB {l:W.OpenLaw} {k:Nat} {q:Program} {loose:List Str} {XP:(Str->Option Value)->Heap->Prop} {YP:World->Heap->Prop} {d:DefRec} {K:Params->W.Frag}
  (hn:l.most = some 63) (hdf:d.params.defaults = []) (hr:Room k callerA)
  (hY:∀ (w:World) (h:Heap),YP w h->(K w.params).In h)
  (F:∀ (w:World) (mg:Str->Option Value) (fa:Addr) (h:Heap),(K w.params).In h->h.Ns mainGlobals mg->mg d.name = some (.ref fa) ->
   ∃ fd:FuncData,(∀ (s:Shared) (u:Value),BindsTo s fd ⟨[u],[]⟩ [("script",u)]) /\
    ∀ base:Heap,(K w.params).In base->base.Ns mainGlobals mg->FnOk l.prog w (K w.params) mg base (eA l.prog w) k fa fd ["script"] (Ch (K w.params))) :
  W.WalkO q loose XP YP l.row.toRowW d [] (fun f vs=>PySem.call f vs):=by
 refine Att.attachB hn hdf fun w s₀ s₁ mg mb fa o pm cd doc a vs ns G Y ho hd hcd hmg hobj hints hlen hbits hg=>?_;have KX:=hY w _ Y;obtain ⟨fd,hb,hF⟩:=F w mg fa _ KX G.T.g hmg;exact Oq KX G.T.g G.T.b G.T.builtins G.T.nolimit hg hobj hints (le_trans hlen (by decide)) hr hF hb (fun H hO hS=>⟨a,ns,rfl,hS,hlen,hbits,hO,fun _=>rfl⟩) fun H e s' ⟨_,_,_,_,_,_,_,_,_,h⟩=>h
def Its (lo st:Int) (n:Nat):It:=⟨fun i _=>i < n,fun i H x H'=>H' = H/\x = .int (lo + i * st),fun i _=>n<=i⟩
section
variable {prog:Program} {w:World} {A:Around} {R:Result->Shared->Prop} {s:Shared}
theorem Ul {elt target iter:Expr} {ifs:List Expr} {scope:Scope} {pos:Pos} {it acc:Value} {cenv:Env} (J:Nat->Shared->Prop)
  (turn:∀ n s,J n s->∀ E':Value->Shared->Prop,wpAny (model prog w) A (pyNext it) (fun r sa=>match r with
   | none=>R (.ok .next) sa
   | some v=>wpAny (model prog w) A (letOwnedTupleGo target it v) (fun _ sb=>wpAny (model prog w) A (assign target cenv v) (fun _ sc =>
     wpAny (model prog w) A (forIn ifs true fun c r=>if r = true then do let ok <- isTrue c cenv (eval c cenv); pure (ForInStep.yield ok) else pure (ForInStep.yield r)) (fun ok sd =>
      if ok = true then wpAny (model prog w) A (eval elt cenv) (fun x se =>
       wpAny (model prog w) A (call (.builtin "list.append") [acc,x]) (fun _ sf=>∃ m,m < n/\J m sf) E' se) E' sd
      else ∃ m,m < n/\J m sd) E' sc) E' sb) E' sa) E' s)
  (n:Nat) (h:J n s):codeAny (model prog w) A (.compLoop (.ListComp elt [⟨target,iter,ifs,0⟩] scope pos) 0 it acc cenv) R s:=by
 refine codeAny_loop rfl J (fun k sk hJ=>?_) n h;show wpAny _ A ((compTurn (.ListComp elt [⟨target,iter,ifs,0⟩] scope pos) 0 it acc cenv).onRaise (fun y=>do noteFrame y cenv; theTreesLotGoes y)) _ _ sk;refine wpAny_noted ?_;rw [compTurn_list];refine wpAny_bind (wpAny_standAt (wpAny_bind (wpAny_mono (turn k sk hJ _) (fun r sa ha=>?_) fun _ _ z=>z)));cases r with
 | none=>exact wpAny_pure ha
 | some v =>
  refine wpAny_bind (wpAny_mono ha (fun _ sb hb=>wpAny_bind (wpAny_mono hb (fun _ sc hc=>wpAny_bind (wpAny_mono hc (fun ok sd hd=>?_) fun _ _ z=>z)) fun _ _ z=>z)) fun _ _ z=>z);cases ok with
  | false=>exact wpAny_pure ⟨rfl,hd⟩
  | true=>exact wpAny_bind (wpAny_bind (wpAny_mono hd (fun x se he=>wpAny_bind (wpAny_mono he (fun _ sf hf=>wpAny_pure (wpAny_pure ⟨rfl,hf⟩)) fun _ _ z=>z)) fun _ _ z=>z))
end
def mY (X:Cx) (scope:Scope) (cl:List (Str × Addr)) (NC:List Str) (C:Addr) (s₀:Shared) (H₀:Hp) (fp:List Addr):Cx where
 prog:=X.prog
 w:=X.w
 K:=X.K
 mg:=X.mg
 base:=X.base
 A:=X.A
 N:=NC
 s₀:=s₀
 H₀:=H₀
 env:=compEnvC scope cl C X.env
 outer:=X.stack
 stack:=X.stack
 ex:=fp
 fn:=fun _=>false
 calm:=X.calm
 pn:=[]
 xe:=fun _ _=>False
def CapsOk (X:Cx) (scope:Scope) (cl:List (Str × Addr)):List (Option Nat)->List Str->Prop
 | [],[]=>True
 | none :: cs,_ :: ns=>CapsOk X scope cl cs ns
 | some i :: cs,y :: ns=>(∃ c,X.N[i]? = some y/\X.env.scope.names.lookup y = some .cell/\cl.lookup y = some c/\X.env.cells.lookup y = some c/\(relabel scope X.env).names.lookup y = some .cell)/\CapsOk X scope cl cs ns
 | _,_=>False
theorem CapsOk.at {X:Cx} {scope:Scope} {cl:List (Str × Addr)}:∀ {cs:List (Option Nat)} {ns:List Str} {j i:Nat} {y:Str},CapsOk X scope cl cs ns->cs[j]? = some (some i)->ns[j]? = some y ->
  ∃ c,X.N[i]? = some y/\X.env.scope.names.lookup y = some .cell/\cl.lookup y = some c/\X.env.cells.lookup y = some c/\(relabel scope X.env).names.lookup y = some .cell
 | [],_,j,i,y,_,e,_=>by simp at e
 | none :: cs,[],_,_,_,h,_,_=>False.elim h
 | some _ :: cs,[],_,_,_,h,_,_=>False.elim h
 | none :: cs,_ :: ns,0,i,y,h,e,_=>by simp at e
 | none :: cs,_ :: ns,j + 1,i,y,h,e,e'=>CapsOk.at (cs:=cs) (ns:=ns) (j:=j) h (by simpa using e) (by simpa using e')
 | some k :: cs,z :: ns,0,i,y,h,e,e'=>by
  have e1:k = i:=by simpa using e
  have e2:z = y:=by simpa using e'
  subst e1; subst e2;exact h.1
 | some k :: cs,z :: ns,j + 1,i,y,h,e,e'=>CapsOk.at (cs:=cs) (ns:=ns) (j:=j) h.2 (by simpa using e) (by simpa using e')
theorem CapsOk.len {X:Cx} {scope:Scope} {cl:List (Str × Addr)}:∀ {cs:List (Option Nat)} {ns:List Str},CapsOk X scope cl cs ns->cs.length = ns.length
 | [],[],_=>rfl
 | [],_ :: _,h=>False.elim h
 | none :: cs,[],h=>False.elim h
 | some _ :: cs,[],h=>False.elim h
 | none :: cs,_ :: ns,h=>congrArg (· + 1) (CapsOk.len (cs:=cs) (ns:=ns) h)
 | some _ :: cs,_ :: ns,h=>congrArg (· + 1) (CapsOk.len (cs:=cs) (ns:=ns) h.2)
def capσ (cap:List (Option Nat)) (σ:L2.St):L2.St:=cap.map fun o=>o.bind fun i=>(σ[i]?).bind id
def PTs (X:Cx) (ifs:List Expr) (t:TT):Prop :=
 ∀ (pins:List (Addr × Obj)) (s:Shared) (σ:L2.St) (H:Hp) (Q:Bool->Hp->Prop),Inv X pins σ H s->t σ H Q ->
  wpAny (model X.prog X.w) X.A (forIn ifs true fun c r=>if r = true then do let ok <- isTrue c X.env (eval c X.env); pure (ForInStep.yield ok) else pure (ForInStep.yield r)) (TP X pins σ Q) X.xe s
def aGp:TT:=fun _ H Q=>Q true H
theorem dE {X:Cx}:PTs X [] aGp:=fun _ _ _ H _ I h=>wpAny_tests_nil ⟨H,I,h⟩
theorem Cv {X:Cx} {c:Expr} {t:TT} (h:PT X c t):PTs X [c] t:=fun pins s σ H Q I q=>wpAny_tests_one (h pins s σ H Q I q)
def tLC (wi:TI) (cap:List (Option Nat)) (g:TG) (tt:TT) (te:TE):TE:=fun σ H Q=>wi σ H fun J H1=>∀ D,H1 D = none ->
 ∃ W:Nat->Nat->L2.St->Hp->Prop,(∃ m,W 0 m (capσ cap σ) (cX H1 D (.lst [])))/\∀ i m σc Hc,W i m σc Hc ->
  (J.stop i Hc/\Q (.ref D) Hc)\/(J.go i Hc/\∃ N:L2.St->Hp->Prop,(∀ σ' H',N σ' H'->∃ m',m' < m/\W (i + 1) m' σ' H')/\∀ x H',J.yld i Hc x H'->g x σc H' fun σ2 H2=>tt σ2 H2 fun b H3 =>
   if b = true then te σ2 H3 fun y H4=>∃ ys,H4 D = some (.lst ys)/\ys.length < sizeLine/\N σ2 (cX H4 D (.lst (ys ++ [y]))) else N σ2 H3)
structure LcOk (X:Cx) (scope:Scope) (cl:List (Str × Addr)) (cap:List (Option Nat)) (NC:List Str):Prop where
 clos:closureFor scope X.env = pure cl
 kind:scope.kind = .function
 nocell:∀ x∈scope.names,x.2 ≠ .cell
 names:∀ x∈scope.names,x.2 = .local->scope.names.lookup x.1 = some .local
 caps:CapsOk X scope cl cap NC
 cells:∀ p∈cl,X.env.cells.lookup p.1 = some p.2
 has:((relabel scope X.env).names.all fun p=>(p.2 != .cell && p.2 != .free) || (cl.lookup p.1).isSome) = true
section
variable {X:Cx} {elt target iter:Expr} {ifs:List Expr} {scope:Scope} {pos:Pos} {wi:TI} {cap:List (Option Nat)} {NC:List Str} {cl:List (Str × Addr)} {g:TG} {tt:TT} {te:TE}
theorem eO (L:LcOk X scope cl cap NC) {x:Str} {c:Addr} (h:cl.lookup x = some c):X.env.cells.lookup x = some c:=L.cells (x,c) (PySem.mem_of_lookup h)
theorem zA {pins:List (Addr × Obj)} {σ:L2.St} {s₂:Shared} {H2:Hp} {it:Addr} {fp:List Addr} {tn:Nat->Heap->Prop} {J:It} {Z:Value->Addr->Result->Shared->Prop} {G:V->Hp->Prop}
  (hc:X.calm = true) (L:LcOk X scope cl cap NC) (hg:∀ C s₀ H₀ fp,PG (mY X scope cl NC C s₀ H₀ fp) target g) (ht:∀ C s₀ H₀ fp,PTs (mY X scope cl NC C s₀ H₀ fp) ifs tt) (he:∀ C s₀ H₀ fp,PE (mY X scope cl NC C s₀ H₀ fp) elt te)
  (I2:Inv X pins σ H2 s₂) (T:Turn X.prog X.w X.K target J fp it tn) (st2:tn 0 s₂.heap) (f2:∀ b∈fp,kX X pins H2 b)
  (hW:∀ D,H2 D = none->∃ W:Nat->Nat->L2.St->Hp->Prop,(∃ m,W 0 m (capσ cap σ) (cX H2 D (.lst [])))/\∀ i m σc Hc,W i m σc Hc ->
   (J.stop i Hc/\G (.ref D) Hc)\/(J.go i Hc/\∃ N:L2.St->Hp->Prop,(∀ σ' H',N σ' H'->∃ m',m' < m/\W (i + 1) m' σ' H')/\∀ x H',J.yld i Hc x H'->g x σc H' fun σ2 H2=>tt σ2 H2 fun b H3 =>
    if b = true then te σ2 H3 fun y H4=>∃ ys,H4 D = some (.lst ys)/\ys.length < sizeLine/\N σ2 (cX H4 D (.lst (ys ++ [y]))) else N σ2 H3))
  (hZ:∀ (D C:Addr) (Hc:Hp) (s':Shared) (m:Str->Option Value),s'.heap.Ns C m->(∀ h',SameBut C s'.heap h'->∀ t',Inv X pins σ Hc { s' with heap:=h',toks:=t' })->kX X pins Hc C->G (.ref D) Hc->Z (.ref D) C (.ok .next) s') {E:Value->Shared->Prop} :
  wpAny (model X.prog X.w) X.A (newList []) (fun acc s₃=>wpAny (model X.prog X.w) X.A (newFunctionEnv scope X.env.globals cl [] X.env.qual none .none (some X.env)) (fun cenv s₄ =>
   codeAny (model X.prog X.w) X.A (.compStart (.ListComp elt [⟨target,iter,ifs,0⟩] scope pos) 0 (.ref it) acc { cenv with scope:=relabel scope X.env }) (Z acc cenv.locals) s₄) E s₃) E s₂:=by
 refine wpAny_newObj_type (wpAny_newFunctionEnv L.nocell (by intro y hy; simp at hy) (fun h₁ hns₁ hsb₁=>?_) L.kind);dsimp only at hns₁ hsb₁ ⊢;have nD:H2 s₂.heap.objs.size = none:=I2.hok.fresh (le_refl _);have I3:Inv X pins σ (cX H2 s₂.heap.objs.size (.lst [])) { s₂ with heap:=s₂.heap.push { cls:=.type "list",dict:=none,data:=.seq ([]:List Value).toArray } }:=by
  refine I2.laid (t':=s₂.toks) (fun b u e=>get?_push_of_some _ e) (le_refl _) ?_;exact ⟨zero_le _,[],0,.nil,get?_push_size _ rfl⟩
 obtain ⟨W,⟨m0,w0⟩,turn⟩:=hW s₂.heap.objs.size nD;generalize hD:s₂.heap.objs.size = D at nD I3 turn w0 ⊢;generalize hH:s₂.heap.push { cls:=.type "list",dict:=none,data:=.seq ([]:List Value).toArray } = h₀ at hns₁ hsb₁ I3 ⊢;have hpush:∀ b o,s₂.heap.get? b = some o->h₀.get? b = some o:=fun b o e=>by rw [<- hH]; exact get?_push_of_some _ e
 generalize hC:h₀.objs.size = C at hns₁ hsb₁ ⊢;have belowC:∀ b o,h₀.get? b = some o->b ≠ C:=fun b o e z=>by
  have:=lt_size e;rw [hC,<- z] at this;exact lt_irrefl _ this
 have old:∀ b o,h₀.get? b = some o->h₁.get? b = some o:=fun b o e=>hsb₁.extBut b o (belowC b o e) (get?_push_of_some _ e);have f3:∀ b∈fp,kX X pins (cX H2 D (.lst [])) b:=fun b hb=>by
  obtain ⟨x1,x2⟩:=f2 b hb;obtain ⟨o,e,_⟩:=T.obj 0 _ st2 b hb;refine ⟨?_,x2⟩;rw [bD (fun z=>by have:=lt_size e; rw [z,<- hD] at this; exact lt_irrefl _ this)];exact x1
 have fpC:∀ b∈fp,b ≠ C:=fun b hb=>by
  obtain ⟨o,e,_⟩:=T.obj 0 _ st2 b hb;exact belowC b o (hpush b o e)
 have clC:∀ x c,cl.lookup x = some c->c ≠ C:=fun x c e=>by
  obtain ⟨v,o,ho,_⟩:=I3.cell x c (eO L e);exact belowC c o ho
 let Y:Cx:=mY X scope cl NC C { s₂ with heap:=h₀ } (cX H2 D (.lst [])) fp
 have noC:(cX H2 D (.lst [])) C = none:=I3.hok.fresh (by show h₀.objs.size<=C; rw [hC]; exact le_refl _);have okY:Y.Ok:=by
  refine ⟨I3.ok.mod,by show (relabel scope X.env).kind = _; exact L.kind,I3.ok.glob,I3.ok.blt,by show h₀.objs.size<=C; rw [hC]; exact le_refl _,fun x y c e1 e2=>I3.ok.inj x y c (eO L e1) (eO L e2),fun x hx=>?_,fun x c z=>(by cases z),I3.ok.hd,I3.ok.frames,.inl rfl,fun b hb=>⟨fpC b hb,fun x c e=>(f3 b hb).2.2.2.2.1 x c (eO L e)⟩,I3.bs,le_trans I3.ok.bsz I3.sz,fun b o e hb=>?_,fun b hb hm=>?_,I3.stack,I3.stkFree⟩
  ·have mem:∃ k,(x,k)∈(relabel scope X.env).names/\(k = .cell\/k = .free):=by
    rcases hx with z | z
    ·exact ⟨_,PySem.mem_of_lookup z,.inl rfl⟩
    ·exact ⟨_,PySem.mem_of_lookup z,.inr rfl⟩
   obtain ⟨k,hk,hk2⟩:=mem;have q:=all_eq_true.mp L.has (x,k) hk;have q2:(cl.lookup x).isSome = true:=by
    rcases hk2 with z | z
    ·subst z; simpa using q
    ·subst z; simpa using q
   exact isSome_iff_exists.mp q2
  ·rcases (f3 b hb).2.2.2.1 with z | z
   ·exact I3.ok.noex b o e z
   ·exact absurd (lt_of_lt_of_le (lt_size e) (le_trans I3.ok.bsz z)) (lt_irrefl _)
  ·rcases mem_cons.mp (I3.stkSub b hm) with z | z
   ·exact (f3 b hb).2.1 z
   ·exact (f3 b hb).2.2.1 z
 have stat:∀ {Hc:Hp},(∀ b∈fp,Hc b = none)->∀ b∈fp,kX Y [] Hc b:=fun hn b hb =>
  ⟨hn b hb,fpC b hb,okY.exfs b hb,.inl hb,fun x c e=>(okY.exf b hb).2 x c e,fun p hp=>absurd (show p∈([] ++ []:List (Addr × Obj)) from hp) (by simp)⟩
 have back:∀ {σc:L2.St} {Hc:Hp} {s':Shared} {pn:List (Addr × Obj)},Inv Y pn σc Hc s'->∀ h',SameBut C s'.heap h'->∀ t',Inv X pins σ Hc { s' with heap:=h',toks:=t' }:=fun {σc Hc s' pn} I' h' sb t'=>by
  have u:=I'.base;have nC:Hc C = none:=I'.free;refine I3.call' (s':={ s' with heap:=h',toks:=t' }) (ch:=fp) I'.os ⟨fun b o e n hb hx=>?_,fun b o e n hb hx=>?_,u.free,fun b o e hx=>?_,u.tups,u.frzs,u.tbls⟩ (fun b o e=>?_) I'.bare (fun b hb=>⟨(f3 b hb).2.2.2.1,(f3 b hb).2.1,(f3 b hb).2.2.2.2.1,(f3 b hb).2.2.2.2.2⟩)
  ·exact (sb.2 b (belowC b o e)).trans (u.keep b o e n hb hx)
  ·obtain ⟨sl,q⟩:=u.slot b o e n hb hx;exact ⟨sl,(sb.2 b (belowC b o e)).trans q⟩
  ·obtain ⟨o',q⟩:=u.there b o e hx;exact ⟨o',(sb.2 b (belowC b o e)).trans q⟩
  ·refine (I'.hok b o e).stay (fun c v hcb q=>(sb.2 c ?_).trans q) (fun _ q=>q) fun _ _ q=>q;rintro rfl;rcases hcb with z | z
   ·subst z;rw [nC] at e; cases e
   ·rw [nC] at z; cases z
 have Ist:∀ t',Inv Y [] (capσ cap σ) (cX H2 D (.lst [])) { s₂ with heap:=h₁,toks:=t' }:=fun t'=>by
  refine ⟨okY,rfl,I3.bare,⟨fun b o e _ _ _=>old b o e,fun b o e _ _ _=>⟨o.slots,old b o e⟩,fun _ _ _ n _=>n,fun b o e _=>⟨o,old b o e⟩,fun _ _ e=>e,fun _ _ _ e=>e,fun b ps e=>⟨#[],by rw [show (cX H2 D (.lst [])) b = _ from e]; simp⟩⟩,⟨_,hns₁,fun j y v e1 e2 e3=>?_⟩,fun y c e=>?_,noC,fun y c e=>I3.freeC y c (eO L e),fun p hp=>absurd (show p∈([] ++ []:List (Addr × Obj)) from hp) (by simp),I3.hok.kept old,by
   show (cap.map _).length = NC.length
   rw [length_map]; exact L.caps.len⟩
  ·have e2':(cap.map fun o=>o.bind fun i=>(σ[i]?).bind id)[j]? = some (some v):=e2;rw [getElem?_map] at e2';cases hq:cap[j]? with
   | none=>rw [hq] at e2'; cases e2'
   | some o =>
    rw [hq] at e2';cases o with
    | none=>cases e2'
    | some i =>
     have e4:(σ[i]?).bind id = some v:=by simpa using e2'
     have e5:σ[i]? = some (some v):=by
      cases hs:σ[i]? with
      | none=>rw [hs] at e4; cases e4
      | some z=>rw [hs] at e4; simpa using e4
     obtain ⟨c,x1,x2,x3,x4,x5⟩:=L.caps.at hq e1;obtain ⟨m,hn,hl⟩:=I3.loc;obtain ⟨u,r,l⟩:=hl i y v x1 e5 (.inr (.inl x2));refine ⟨u,r,.inr ⟨.inl x5,c,x3,?_⟩⟩;rcases l with ⟨k,_⟩ | ⟨_,c',x6,z⟩
     ·have k':X.env.scope.names.lookup y = some .local:=k;rw [x2] at k'; cases k'
     ·rw [x4] at x6; cases x6;obtain ⟨o,ho,hd⟩:=z;exact ⟨o,old _ _ ho,hd⟩
  ·obtain ⟨v,o,ho,hd⟩:=I3.cell y c (eO L e);exact ⟨v,o,old _ _ ho,hd⟩
 have loop:∀ s₃:Shared,s₃ = { s₂ with heap:=h₁,toks:=s₂.toks + ([]:List (Str × Value)).length } ->
   codeAny (model X.prog X.w) X.A (.compLoop (.ListComp elt [⟨target,iter,ifs,0⟩] scope pos) 0 (.ref it) (.ref D) (compEnvC scope cl C X.env)) (Z (.ref D) C) s₃:=by
  rintro s₃ rfl;refine Ul (fun n s'=>∃ i σc Hc,Inv Y [] σc Hc s'/\tn i s'.heap/\(∀ b∈fp,Hc b = none)/\W i n σc Hc) ?_ m0 ⟨0,capσ cap σ,_,Ist _,T.keep _ _ _ st2 (fun b hb o e=>old b o (hpush b o e)),fun b hb=>(f3 b hb).1,w0⟩;rintro n s5 ⟨i,σc,Hc,I5,st5,fr5,w5⟩ E';rcases turn i n σc Hc w5 with ⟨stop,qn⟩ | ⟨go,N,hN,step⟩
  ·refine wpAny_mono (T.done Y rfl rfl rfl hc i [] s5 σc Hc E' I5 (stat fr5) st5 stop) (fun r s6 ⟨hr,I6⟩=>?_) fun _ _ z=>z;subst hr;obtain ⟨m,hn,_⟩:=id I6.loc;exact hZ D C Hc s6 m hn (back I6) (I3.fpOk (by show h₀.objs.size<=C; rw [hC]; exact le_refl _) I6.free) qn
  ·refine wpAny_mono (T.item Y rfl rfl rfl hc i [] s5 σc Hc E' I5 (stat fr5) st5 go) (fun r s6 ⟨u,hr,h6⟩=>?_) fun _ _ z=>z;subst hr;refine wpAny_mono h6 (fun _ s7 ⟨x,H7,I7,r7,y7,st7,fr7⟩=>?_) fun _ _ z=>z;have I7':=I7.pinned (stat fr7) (T.obj _ _ st7);refine wpAny_mono (hg C _ _ fp _ s7 σc H7 x u _ I7' r7 (step x H7 y7)) (fun _ s8 ⟨σ8,H8,I8,q8⟩=>?_) fun _ _ z=>False.elim z;have again:∀ {σ9:L2.St} {H9:Hp} {s9:Shared},Inv Y ([] ++ pK fp s7.heap) σ9 H9 s9->N σ9 H9->∃ m,m < n/\∃ i σ' H',Inv Y [] σ' H' s9/\tn i s9.heap/\(∀ b∈fp,H' b = none)/\W i m σ' H':=fun {σ9 H9 s9} I9 n9=>by
    obtain ⟨m',hm,w9⟩:=hN σ9 H9 n9;refine ⟨m',hm,i + 1,σ9,H9,I9.unpinned,T.keep _ _ _ st7 fun b hb o e=>(I9.pin (b,o) (mem_append_right _ (mem_append_right _ (gG hb e)))).1,fun b hb=>?_,w9⟩;obtain ⟨o,e,d⟩:=T.obj _ _ st7 b hb;exact (I9.pin (b,o) (mem_append_right _ (mem_append_right _ (gG hb e)))).2.1
   refine wpAny_mono (ht C _ _ fp _ s8 σ8 H8 _ I8 q8) (fun ok s9 ⟨H9,I9,q9⟩=>?_) fun _ _ z=>False.elim z;cases ok with
   | false =>
    rw [if_neg Bool.false_ne_true] at q9 ⊢;exact again I9 q9
   | true =>
    rw [if_pos rfl] at q9 ⊢;refine wpAny_mono (he C _ _ fp _ s9 σ8 H9 _ I9 q9) (fun v sa ⟨y,Ha,Ia,ra,ys,hy,hl,na⟩=>?_) fun _ _ z=>False.elim z;have app:=jS (X:=Y) _ sa σ8 Ha (.ref D) [y] (.ref D) [v] (fun _ Hb=>N σ8 Hb) Ia rfl (.cons ra .nil) ⟨D,ys,y,rfl,rfl,hy,hl,na⟩;exact wpAny_mono app (fun _ sb ⟨_,Hb,Ib,_,nb⟩=>again Ib nb) fun _ _ z=>False.elim z
 exact codeAny_compStart_list (loop _ rfl) (T.self _ 0 _ _ _ (T.keep _ _ _ st2 fun b hb o e=>old b o (hpush b o e)) (loop _ rfl))
theorem gQ (hc:X.calm = true) (L:LcOk X scope cl cap NC) (hi:PI X target iter wi) (hg:∀ C s₀ H₀ fp,PG (mY X scope cl NC C s₀ H₀ fp) target g) (ht:∀ C s₀ H₀ fp,PTs (mY X scope cl NC C s₀ H₀ fp) ifs tt) (he:∀ C s₀ H₀ fp,PE (mY X scope cl NC C s₀ H₀ fp) elt te)
  (hs:∀ x,foldedSetIterable iter X.env x = pure x:=by intro _; rfl):PE X (.ListComp elt [⟨target,iter,ifs,0⟩] scope pos) (tLC wi cap g tt te):=by
 intro pins s σ H Q I h;rw [eval_ListComp];refine wpAny_comprehension_free (use:=none) rfl hs L.clos L.kind L.names (dO (hi pins s σ H _ I h) fun xv s₁ h₁=>dO h₁ fun itv s₂ h₂=>?_);obtain ⟨it,fp,tn,J,H2,rfl,I2,T,st2,f2,hq⟩:=h₂;refine zA (G:=Q) hc L hg ht he I2 T st2 f2 hq fun D C Hc s' m hn back _ q=>?_;exact ⟨m,hn,fun h' sb=>⟨.ref D,Hc,back h' sb _,rfl,q⟩⟩
end
mutual
inductive DV (K:W.Frag) (H:Hp):V->PyData->Prop
 | non:DV K H .non .none
 | bl (b:Bool):DV K H (.bl b) (.bool b)
 | int (i:Int):DV K H (.int i) (.int i)
 | str (x:Str):DV K H (.str x) (.str x)
 | tup {a:Addr} {xs:List V} {ds:List PyData}:SqT K H a xs->DVs K H xs ds->DV K H (.ref a) (.tuple ds)
 | lst {a:Addr} {xs:List V} {ds:List PyData}:SqL K H a xs->DVs K H xs ds->DV K H (.ref a) (.list ds)
  | dct {a:Addr} {x y:Str}:H a = some (.dK [(.inr x,.str y)])->DV K H (.ref a) (.dict [(.str x,.str y)])
  | dc0 {a:Addr}:H a = some (.dK [])->DV K H (.ref a) (.dict [])
inductive DVs (K:W.Frag) (H:Hp):List V->List PyData->Prop
 | nil:DVs K H [] []
 | cons {x:V} {xs:List V} {d:PyData} {ds:List PyData}:DV K H x d->DVs K H xs ds->DVs K H (x :: xs) (d :: ds)
end
section
variable {X:Cx} {pins:List (Addr × Obj)} {σ:L2.St} {H:Hp} {s:Shared}
mutual
theorem fV (I:Inv X pins σ H s):∀ {x:V} {d:PyData} {u:Value},DV X.K H x d->RelV x u->∃ as,Reads s.heap u d as
 | _,_,u,.non,r=>by
  cases (show u = Value.none from r);exact ⟨_,.none⟩
 | _,_,u,.bl b,r=>by
  cases (show u = Value.bool b from r);exact ⟨_,.bool b⟩
 | _,_,u,.int i,r=>by
  obtain ⟨t,rfl⟩:=r;exact ⟨_,.int i t⟩
 | _,_,u,.str x,r=>by
  obtain ⟨t,rfl⟩:=r;exact ⟨_,.str x t⟩
 | _,_,u,@DV.tup _ _ a xs ds h hs,r=>by
  cases (show u = Value.ref a from r);obtain ⟨its,rv,⟨o,ho,hc,n,hd⟩,_⟩:=I.tuple h;obtain ⟨as,q⟩:=qA I hs rv;exact ⟨_,.tuple ho hc hd (by simpa using q)⟩
 | _,_,u,@DV.lst _ _ a xs ds h hs,r=>by
  cases (show u = Value.ref a from r);obtain ⟨its,rv,⟨o,n,ho,hc,_,hd⟩,_⟩:=I.list h;obtain ⟨as,q⟩:=qA I hs rv;exact ⟨_,.list ho hc hd (by simpa using q)⟩
 | _,_,u,@DV.dct _ _ a x y h,r=>by
  cases (show u = Value.ref a from r);obtain ⟨_,_,vs,rel,o,es,ep,ho,hc,hd,hk,hp,_⟩:=(show ObjOk X.prog X.w H s.heap a (.dK [(.inr x,.str y)]) from I.hok a _ h);unfold KV at rel;cases rel with
  | @cons p q ps qs h1 t =>
   cases t;obtain ⟨k,v⟩:=q;obtain ⟨e1,t1,e2⟩:=h1;have e1':Sum.inr x = k:=e1;subst e1';have e2':v = Value.str y t1:=e2;subst e2';generalize hes:es.toList = l at hp;cases hp with
   | @cons e kv es' kvs' hk1 hv1 ht1 =>
    cases ht1;have hk2:sF (.inr x) e.key = true:=hk1;have ek:∃ t2,e.key = Value.str x t2:=by
     rcases dM hk2 with ⟨i,t2,z,_⟩ | ⟨x2,t2,z,z2⟩
     ·exact nomatch z
     ·cases z; exact ⟨t2,z2⟩
    obtain ⟨t2,ek⟩:=ek;have ev:e.val = Value.str y t1:=hv1;exact ⟨_,.dict (as:=[] ++ []) (bs:=[] ++ []) ho hc.1 hd (by rw [hes]; show ReadsAll _ [e.key] [PyData.str x] _; rw [ek]; exact .cons (.str x t2) .nil) (by rw [hes]; show ReadsAll _ [e.val] [PyData.str y] _; rw [ev]; exact .cons (.str y t1) .nil)⟩
 | _,_,u,@DV.dc0 _ _ a h,r=>by
  cases (show u = Value.ref a from r);obtain ⟨_,_,vs,rel,o,es,ep,ho,hc,hd,hk,hp,_⟩:=(show ObjOk X.prog X.w H s.heap a (.dK []) from I.hok a _ h);unfold KV at rel;cases rel;generalize hes:es.toList = l at hp;cases hp;exact ⟨_,.dict (as:=[]) (bs:=[]) ho hc.1 hd (by rw [hes]; exact .nil) (by rw [hes]; exact .nil)⟩
theorem qA (I:Inv X pins σ H s):∀ {xs:List V} {ds:List PyData} {us:List Value},DVs X.K H xs ds->Vals xs us->∃ as,ReadsAll s.heap us ds as
 | _,_,_,.nil,.nil=>⟨_,.nil⟩
 | _,_,_,.cons h hs,.cons r rs=>by
  obtain ⟨as,q⟩:=fV I h r;obtain ⟨bs,qs⟩:=qA I hs rs;exact ⟨_,.cons q qs⟩
end
end
structure Enc (α:Type) where
 d:α->PyData
 dep:Nat
 small:dep<=60
 lay:∀ x,(d x).canLay0 = true
 depth:∀ x,(d x).depth<=dep
 eqv:∀ x y,PyData.eqv (d x) (d y) = true ↔ x = y
theorem Enc.shaped {α:Type} (e:Enc α) (x:α):SeqAt.shaped (e.d x) = true:=by
 unfold SeqAt.shaped;rw [e.lay,Bool.true_and];exact decide_eq_true (le_trans (e.depth x) (le_trans e.small (by decide)))
def aJh:Enc Int:=⟨.int,0,by decide,fun _=>rfl,fun _=>by simp [PyData.depth],fun x y=>by simp [PyData.eqv]⟩
theorem oS {α:Type} (e:Enc α):∀ (xs:List α),PyData.canLayAll0 (xs.map e.d) = true/\PyData.depthAll (xs.map e.d)<=e.dep
 | []=>⟨rfl,by simp [PyData.depthAll]⟩
 | x :: xs=>by
  obtain ⟨h1,h2⟩:=oS e xs;have h3:=e.lay x;have h4:=e.depth x;constructor
  ·show ((e.d x).canLay0 && PyData.canLayAll0 (xs.map e.d)) = true;rw [h3,h1]; rfl
  ·show PyData.depthAll (e.d x :: xs.map e.d)<=e.dep;simp only [PyData.depthAll];omega
theorem sT {α:Type} (e:Enc α):∀ (xs ys:List α),PyData.eqvAll (xs.map e.d) (ys.map e.d) = true ↔ xs = ys
 | [],[]=>by simp [PyData.eqvAll]
 | [],y :: ys=>by simp [PyData.eqvAll]
 | x :: xs,[]=>by simp [PyData.eqvAll]
 | x :: xs,y :: ys=>by
  have h:=sT e xs ys;have h2:=e.eqv x y;simp only [map_cons,PyData.eqvAll,and_eq_true,h,h2,List.cons.injEq]
def aJg {α:Type} (e:Enc α) (h:e.dep<=50):Enc (List α) where
 d:=fun xs=>.list (xs.map e.d)
 dep:=e.dep + 1
 small:=by omega
 lay:=fun xs=>by show PyData.canLayAll0 _ = true; exact (oS e xs).1
 depth:=fun xs=>by
  have:=(oS e xs).2;simp only [PyData.depth];omega
 eqv:=fun xs ys=>by
  show PyData.eqvAll _ _ = true ↔ _;exact sT e xs ys
def aMx:Enc Rat where
 d:=fun q=>.tuple [.int q.num,.int (q.den:Int)]
 dep:=1
 small:=by decide
 lay:=fun q=>by simp [PyData.canLay0,PyData.canLayAll0]
 depth:=fun q=>by simp [PyData.depth,PyData.depthAll]
 eqv:=fun p q=>by
  simp only [PyData.eqv,PyData.eqvAll,and_eq_true,beq_iff_eq,and_true];constructor
  ·rintro ⟨h1,h2⟩;exact Rat.ext h1 (by omega)
  ·rintro rfl;exact ⟨rfl,rfl⟩
def Fw (K:W.Frag) (neg:Bool):R2:=fun x y H Q=>∃ (α:Type) (e:Enc α) (a b:α),DV K H x (e.d a)/\DV K H y (e.d b)/\∀ k:Bool,(k = true ↔ a = b)->Q (.bl (if neg then !k else k)) H
def aBg (K:W.Frag) (neg:Bool):R2:=fun x y H Q=>∃ (α:Type) (e:Enc α) (a:α) (bs:List α),DV K H x (e.d a)/\DV K H y (.list (bs.map e.d))/\∀ k:Bool,(k = true ↔ a∈bs)->Q (.bl (if neg then !k else k)) H
section
variable {X:Cx}
theorem aBq (hu:X.A.units + 64 < cLine):kW X (compareOp .Eq) (Fw X.K false):=by
 intro pins s σ H x y v u Q I rx ry h;obtain ⟨α,e,a,b,da,db,q⟩:=h;obtain ⟨as,r1⟩:=fV I da rx;obtain ⟨bs,r2⟩:=fV I db ry;exact eq_dataH r1 r2 (e.shaped a) (e.shaped b) hu ⟨.bl _,H,I,rfl,q _ (e.eqv a b)⟩
theorem aBo (hu:X.A.units + 64 < cLine):kW X (compareOp .NotEq) (Fw X.K true):=by
 intro pins s σ H x y v u Q I rx ry h;obtain ⟨α,e,a,b,da,db,q⟩:=h;obtain ⟨as,r1⟩:=fV I da rx;obtain ⟨bs,r2⟩:=fV I db ry;exact ne_dataH r1 r2 (e.shaped a) (e.shaped b) hu ⟨.bl _,H,I,rfl,q _ (e.eqv a b)⟩
theorem xA {α:Type} (e:Enc α) (a:α):∀ bs:List α,((bs.map e.d).any fun y=>PyData.eqv y (e.d a)) = true ↔ a∈bs
 | []=>by simp
 | b :: bs=>by
  have h:=xA e a bs;have h2:=e.eqv b a;simp only [map_cons,any_cons,or_eq_true,h,h2,mem_cons];constructor
  ·rintro (z | z)
   ·exact .inl z.symm
   ·exact .inr z
  ·rintro (z | z)
   ·exact .inl z.symm
   ·exact .inr z
theorem aBp (hu:X.A.units + 64 < cLine):kW X (compareOp .In) (aBg X.K false):=by
 intro pins s σ H x y v u Q I rx ry h;obtain ⟨α,e,a,bs,da,db,q⟩:=h;obtain ⟨as,r1⟩:=fV I da rx;obtain ⟨cs,r2⟩:=fV I db ry;have h1:=e.depth a;have h2:=e.small;exact PySem.SeqAt.in_list_reads r2 r1 (oS e bs).1 (e.lay a) (by omega) ⟨.bl _,H,I,rfl,q _ (xA e a bs)⟩
end
structure ExcK (K:W.Frag) (C:Addr):Prop where
 fg:W.findIn K (.ref C) "__getattribute__" = some (some (.builtin "BaseException.__getattribute__"))
 fa:W.findIn K (.ref C) "__getattr__" = some none
 fc:W.findIn K (.ref C) "__class__" = some (some (.builtin "object.__class__"))
 so:W.subIn K (.ref C) (.type "object") = some true
 sb:W.subIn K (.ref C) (.type "BaseException") = some true
section
variable {prog:Program} {w:World} {A:Around} {E:Value->Shared->Prop} {h:Heap} {g:Array GenState} {d:Drawn} {t:Nat} {os:OsState} {a C:Addr} {o:Obj} {K:W.Frag}
theorem Xz {R:Result->Shared->Prop} (KX:K.In h) (k:ExcK K C) (hx:h.get? a = some o) (hc:o.cls = .ref C) (hq:R (.ok (.ret (.ref C))) ⟨h,g,d,t,os⟩) :
  codeAny (model prog w) A (.call (.builtin "getset_descriptor.__get__") ⟨[.builtin "object.__class__",.ref a,.ref C],[]⟩) R ⟨h,g,d,t,os⟩:=by
 have hT5:(⟨h,g,d,t,os⟩:Shared).TypeIs (.builtin "object.__class__") "getset_descriptor":=F.typeOf_object_class;have L1:W.Looks (model prog w) h (isSubtype (.ref C) (.type (".".intercalate ("object.__class__".cutAt '.').dropLast))) true:=by rw [F.owner_object_class]; exact W.looks_subIn KX k.so
 refine codeAny_call_builtin F.slot_gs_get.plain F.entry_gs_get (F.slot_gs_get.check _ _ _ _ _ _ _ _ hT5 (F.args_gs_get _ _ _) ?_)
 repeat (any_goals (first | assumption | (with_reducible refine wpAny_loadPart_at hx ?_; rw [hc]) | (with_reducible refine L1.at ?_) | wp_step))
 refine ⟨Code.quiet_builtin _ (by decide +kernel),codeAny_builtin F.entry_object_class ?_⟩
 repeat (any_goals (first | assumption | (with_reducible refine wpAny_loadPart_at hx ?_; rw [hc]) | wp_step))
theorem Hx {tk:Tok} {Q:Fin->Shared->Prop} (KX:K.In h) (k:ExcK K C) (hx:h.get? a = some o) (hc:o.cls = .ref C) (hq:Q (.done (.ret (.ref C))) ⟨h,g,d,t,os⟩) :
  wpAny (model prog w) A (Builtin.«object.__getattribute__» ⟨[.ref a,.str "__class__" tk],[]⟩) Q E ⟨h,g,d,t,os⟩:=by
 have hT5:(⟨h,g,d,t,os⟩:Shared).TypeIs (.builtin "object.__class__") "getset_descriptor":=F.typeOf_object_class;have f5:=F.typeOf_object_class;have f6:=F.slot_gs_get.lookup;have f7:=F.slot_gs_set.lookup;have L1:W.Looks (model prog w) h (typeLookup (.ref C) "__class__") _:=W.looks_findIn KX k.fc
 repeat (any_goals (first | assumption | (with_reducible refine wpAny_loadPart_at hx ?_; rw [hc]) | (with_reducible refine L1.at ?_) | wp_step))
 refine Xz KX k hx hc ?_
 repeat (any_goals (first | assumption | wp_step))
theorem Hy {M:Model} {nv:Value} {Q:Unit->Shared->Prop} (KX:K.In h) (k:ExcK K C) (hx:h.get? a = some o) (hc:o.cls = .ref C) (hq:Q () ⟨h,g,d,t,os⟩):wpAny M A (checkBuiltinCall "BaseException.__getattribute__" ⟨[.ref a,nv],[]⟩) Q E ⟨h,g,d,t,os⟩:=by
 have k1:builtinKind "BaseException.__getattribute__" = some .slot:=by decide +kernel
 have k2:splitId "BaseException.__getattribute__" = some ("BaseException","__getattribute__"):=by decide +kernel
 have k3:=F.args_bexc_ga (.ref a) nv;have L1:W.Looks M h (isSubtype (.ref C) (.type "BaseException")) true:=W.looks_subIn KX k.sb;simp only [checkBuiltinCall,k1,k2];refine wpAny_bind ?_;unfold isInstance
 repeat (first | (with_reducible refine wpAny_loadPart_at hx ?_; rw [hc]) | (with_reducible refine L1.at ?_) | wp_step)
 exact hq
theorem Rr {tk:Tok} {R:Result->Shared->Prop} (KX:K.In h) (k:ExcK K C) (hx:h.get? a = some o) (hc:o.cls = .ref C) (hq:R (.ok (.ret (.ref C))) ⟨h,g,d,t,os⟩) :
  codeAny (model prog w) A (.call (.builtin "BaseException.__getattribute__") ⟨[.ref a,.str "__class__" tk],[]⟩) R ⟨h,g,d,t,os⟩ :=
 codeAny_call_builtin F.attr_ValueError.ga.plain F.entry_bexc_ga (Hy KX k hx hc (Hx KX k hx hc hq))
theorem aFu {tk:Tok} {Q:Value->Shared->Prop} (KX:K.In h) (k:ExcK K C) (hx:h.get? a = some o) (hc:o.cls = .ref C) (hq:Q (.ref C) ⟨h,g,d,t,os⟩) :
  wpAny (model prog w) A (getAttrBy (.ref a) (.str "__class__" tk) false) Q E ⟨h,g,d,t,os⟩:=by
 have f3:=F.attr_ValueError.ga.bind (.ref a);have hx2:(Value.builtin "BaseException.__getattribute__" == Value.builtin "object.__getattribute__") = false:=by decide +kernel
 have hx1:(onTheHeap (Value.ref C) && Value.builtin "BaseException.__getattribute__" == Value.builtin "object.__getattribute__") = false:=by rw [hx2]; rfl
 have L1:W.Looks (model prog w) h (typeLookup (.ref C) "__getattribute__") _:=W.looks_findIn KX k.fg;have L2:W.Looks (model prog w) h (typeLookup (.ref C) "__getattr__") _:=W.looks_findIn KX k.fa
 repeat (any_goals (first | assumption | (with_reducible refine wpAny_loadPart_at hx ?_; rw [hc]) | (with_reducible refine L1.at ?_) | (with_reducible refine L2.at ?_) | wp_step))
 refine Rr KX k hx hc ?_
 repeat (any_goals (first | assumption | wp_step))
theorem Rs {Q:Option Value->Shared->Prop} (KX:K.In h) (k:ExcK K C) (hx:h.get? a = some o) (hc:o.cls = .ref C) (hq:Q (some (.ref C)) ⟨h,g,d,t + 1,os⟩) :
  wpAny (model prog w) A (getAttr? (.ref a) "__class__") Q E ⟨h,g,d,t,os⟩:=by
 unfold getAttr? getAttrBy?
 repeat (any_goals (first | assumption | with_reducible apply aFu KX k hx hc | wp_step))
end
def pC (x C:Addr) (h:Heap):Prop:=∃ o vs,h.get? x = some o/\o.cls = .ref C/\o.data = .fields vs
theorem zH {K:W.Frag} {C:Addr} {bmB:List Value} {newId:String} (q:W.excIn K C bmB newId = true):∃ dd cd sl,K.lookup C = some ⟨.type "type",dd,.cls cd,sl⟩:=by
 unfold W.excIn at q;split at q
 ·rename_i dct cdat slts hlook
  exact ⟨dct,cdat,slts,hlook⟩
 ·cases q
theorem Os {K:W.Frag} {x C:Addr} {bmB:List Value} {newId:String} (q:W.excIn K C bmB newId = true) (k:ExcK K C):W.KitX K (.ref x) (.ref C) (pC x C) where
 ty:=fun M h _ ⟨o,vs,h1,h2,_⟩=>h2 ▸ (W.Looks.ld h1).andThen .now
 it:=fun _ _ KX _=>by
  obtain ⟨dd,cd,sl,ho⟩:=zH q;intro A' Q' E' s' kk qq;unfold isType loadHead;exact wpAny_bind (wpAny_loadPart (kk _ _ (KX _ _ ho)) (wpAny_pure qq))
 ne:=fun h tp dd its n sl KX htp=>by
  obtain ⟨dd',cd,sl',ho⟩:=zH q;refine Bool.eq_false_iff.mpr fun z=>?_;have e:C = tp:=Value.ref.inj (beq_iff_eq.mp z);subst e;have z2:=congrArg (fun o:Option Obj=>o.map (·.data)) ((KX _ _ ho).symm.trans htp);cases z2
 ca:=fun {prog w A E Q s} KX ⟨o,vs,h1,h2,_⟩ kk=>by
  obtain ⟨hh,g,d,t,os⟩:=s;exact Rs KX k h1 h2 kk
section
variable {X:Cx}
theorem Hk:gC X (.builtin "isinstance") (fun xs H Q=>∃ x C c cv b bmB newId,xs = [.ref x,c]/\(∀ u,RelV c u->u = cv)/\H x = some (.ext (pC x C))/\W.excIn X.K C bmB newId = true/\ExcK X.K C/\W.kitOne X.K (.ref C) cv = some b/\Q (.bl b) H):=by
 intro pins s σ H xs us Q I r h;obtain ⟨x,C,c,cv,b,bmB,newId,rfl,hc,hx,hq,hk,hb,q⟩:=h;obtain ⟨u,v,rfl,ru,rv⟩:=tS r;rw [hc v rv];cases (show u = Value.ref x from ru);obtain ⟨p,_,_⟩:=(show ObjOk X.prog X.w H s.heap x (.ext (pC x C)) from I.hok x _ hx);exact W.kia_one (Os hq hk) I.kIn p hb (fun z=>nomatch z) fun tk=>⟨.bl b,H,I.tok tk,rfl,q⟩
variable {pins:List (Addr × Obj)} {σ:L2.St} {H:Hp} {s:Shared} {x C:Addr}
theorem Gu {h₁:Heap} (I:Inv X pins σ H s) (O:Old X pins h₁) (hx:ExcAt h₁ s.heap H x (.ref C)) (nex:x ∉ X.ex):Inv X pins σ (cX H x (.ext (pC x C))) s:=by
 obtain ⟨oe,vs,he,hc,hd,hHx,h0x,_⟩:=hx;have ne:∀ b,(∃ u,h₁.get? b = some u)->b ≠ x:=fun b ⟨u,e⟩ z=>by rw [z,h0x] at e; cases e
 have neH:∀ b o,H b = some o->b ≠ x:=fun b o e z=>by rw [z,hHx] at e; cases e
 refine ⟨I.ok,I.os,I.bare,⟨I.base.keep,I.base.slot,fun b o e n hb=>?_,I.base.there,fun b xs e=>?_,fun b o u e=>?_,fun b ps e=>?_⟩,I.loc,I.cell,?_,fun y c e=>?_,fun p hp=>?_,fun b o e=>?_,I.len⟩
 ·rw [bD (ne b (O.s0 b o e hb))];exact I.base.free b o e n hb
 ·have q:=I.base.tups b xs e;rw [bD (neH b _ q)]; exact q
 ·have q:=I.base.frzs b o u e;rw [bD (neH b _ q)]; exact q
 ·obtain ⟨m,q⟩:=I.base.tbls b ps e;exact ⟨m,by rw [bD (neH b _ q)]; exact q⟩
 ·rw [bD (ne _ O.lo)]; exact I.free
 ·rw [bD (ne c (O.ce y c e))]; exact I.freeC y c e
 ·obtain ⟨e,n,r⟩:=I.pin p hp;exact ⟨e,by rw [bD (ne p.1 (O.pn p hp))]; exact n,r⟩
 ·by_cases hb:b = x
  ·subst hb;rw [bJ] at e; cases e;refine ⟨⟨oe,vs,he,hc,hd⟩,⟨oe,he⟩,fun h1 h2 p kk=>?_⟩;obtain ⟨o,vs',q1,q2,q3⟩:=p;exact ⟨o,vs',kk o q1,q2,q3⟩
  ·rw [bD hb] at e;exact (I.hok b o e).stay (fun c v _ q=>q) (fun c q=>by rw [bD (neH c _ q)]; exact q) fun c xs q=>by rw [bD (neH c _ q)]; exact q
theorem Ox {i:Nat} {n:Str} {h':Heap} {t':Nat} {v:Option Value} {m:Str->Option Value} (I:Inv X pins σ H s) (hN:X.N.Nodup) (hi:X.N[i]? = some n) (hl:X.env.scope.names.lookup n = some .local) (hm:s.heap.Ns X.env.locals m) (hm2:∀ (j:Nat) (y:Str) (w:V),X.N[j]? = some y->σ[j]? = some (some w)->Vis X.env.scope y->∃ u,RelV w u/\aKw X.env s.heap m y u)
  (hn:h'.Ns X.env.locals (fun y=>if y = n then v else m y)) (sb:SameBut X.env.locals s.heap h'):Inv X pins (σ.set i none) H { s with heap:=h',toks:=t' }:=by
 have neL:∀ b o,X.s₀.heap.get? b = some o->b ≠ X.env.locals:=fun b o e=>ne_of_lt (lt_of_lt_of_le (lt_size e) I.ok.above);have cellK:∀ x c,X.env.cells.lookup x = some c->∀ v,s.heap.IsCell c v->h'.IsCell c v:=fun x c e v z=>z.sameBut sb (I.cne x c e);refine ⟨I.ok,I.os,I.bare,⟨fun b o e n hb hx=>(sb.2 b (neL b o e)).trans (I.base.keep b o e n hb hx),fun b o e n hb hx=>?_,I.base.free,fun b o e hx=>?_,I.base.tups,I.base.frzs,I.base.tbls⟩,⟨_,hn,fun j y w e1 e2 e3=>?_⟩,fun y c e=>?_,I.free,I.freeC,fun p hp=>?_,fun b o e=>?_,by rw [length_set]; exact I.len⟩
 ·obtain ⟨sl,q⟩:=I.base.slot b o e n hb hx;exact ⟨sl,(sb.2 b (neL b o e)).trans q⟩
 ·obtain ⟨o',q⟩:=I.base.there b o e hx;exact ⟨o',(sb.2 b (neL b o e)).trans q⟩
 ·by_cases hj:j = i
  ·subst hj;by_cases hlt:j < σ.length
   ·rw [getElem?_set_self hlt] at e2; cases e2
   ·rw [List.getElem?_eq_none (by rw [length_set]; omega)] at e2; cases e2
  ·rw [getElem?_set_ne (Ne.symm hj)] at e2;obtain ⟨u,r,l⟩:=hm2 j y w e1 e2 e3;refine ⟨u,r,?_⟩;rcases l with ⟨k,e⟩ | ⟨k,c,e,z⟩
   ·refine .inl ⟨k,?_⟩;have ny:y ≠ n:=fun z=>hj (rX hN e1 (z ▸ hi));show (if y = n then v else m y) = _;rw [if_neg ny]; exact e
   ·exact .inr ⟨k,c,e,cellK y c e _ z⟩
 ·obtain ⟨v',z⟩:=I.cell y c e;exact ⟨v',cellK y c e v' z⟩
 ·obtain ⟨e,n,ne,nf,d⟩:=I.pin p hp;exact ⟨(sb.2 p.1 ne).trans e,n,ne,nf,d⟩
 ·refine (I.hok b o e).stay (fun c v hc q=>(sb.2 c ?_).trans q) (fun _ q=>q) fun _ _ q=>q;rintro rfl;rcases hc with z | z
  ·rw [<- z,I.free] at e; cases e
  ·rw [I.free] at z; cases z
def Jb (K:W.Frag) (cv:Value) (tb:TSX) (i:Nat) (ts:TS):TS:=fun D σ H=>tb D (fun σ' C _ H'=>W.exmOne K C cv = some true/\∃ c:Addr,C = .ref c/\∀ x,H' x = none ->
 ts { nx:=fun σ2 H2=>D.nx (σ2.set i none) H2,rt:=D.rt,bk:=fun σ2 H2=>D.bk (σ2.set i none) H2,ct:=fun σ2 H2=>D.ct (σ2.set i none) H2 } (σ'.set i (some (.ref x))) (cX H' x (.ext (pC x c)))) σ H
theorem Nb {body suite:List Stmt} {b₀:Stmt} {y n:Str} {i:Nat} {cv:Value} {np hpos pos:Pos} {tb:TSX} {ts:TS} (hst:X.stack = X.env :: X.outer) (hf:X.env.frame = some X.env.locals) (hN:X.N.Nodup) (hi:X.N[i]? = some n) (hl:X.env.scope.names.lookup n = some .local) (hex:X.ex = []) (hb:aKq X body tb)
  (c:Rk X y cv) (hs:∀ x,Br (lV X x) (b₀ :: suite) ts) (hd:(y == ("__debug__":Str)) = false:=by decide) :
  PS X (.Try body [.ExceptHandler (some (.Name y np)) (some n) (b₀ :: suite) hpos] [] [] pos) (Jb X.K cv tb i ts):=by
 intro pins s σ H D I h;refine wpAny_Try_except (wpAny_mono (hb pins s σ H D _ I h) (fun f s1 q=>?_) fun e s1 q=>?_)
 ·cases f with
  | next=>exact wpAny_execs_nil q
  | ret v=>exact q
  | brk=>exact q
  | cont=>exact q
 ·obtain ⟨x,C,σ',H',h₁,rfl,I',hx,h1s,o1,o2,o3,o4,hm,cc,rfl,q⟩:=q;have O:Old X pins h₁:=⟨o1,o2,o3,o4⟩;have hkp:(X.env.scope.kind == .class || (X.env.scope.kind == .module && X.env.locals != X.env.globals)) = false:=by rw [I.ok.kind]; rfl
  refine uF (h₀:=h₁) (H:=H') (C:=.ref cc) (base:=X.base) (env:=X.env) (outer:=X.outer) (by rw [<- hst]; exact I'.ok.frames) (by rw [<- hst]; exact I'.stack) hf hx h1s (fun b o e=>nY (I'.hok b o e)) fun h' kp sl hx'=>?_;rw [<- hst] at kp sl;have I2:Inv X pins σ' H' { s1 with heap:=h' }:=sJ (t':=s1.toks) hst hf I' O kp sl;have I3:Inv (lV X x) pins σ' H' { s1 with heap:=h' }:=sK I2;refine wpAny_handleBy_cons (codeAny_handlers_test ?_) (by intro q; cases q);refine Hi (X:=lV X x) c I3 hd ?_;obtain ⟨oe,vs,he,hc,_⟩:=id hx';have LT:W.Looks (model X.prog X.w) h' (typeOf (.ref x)) (.ref cc):=by rw [<- hc]; exact (W.Looks.ld he).andThen .now
  refine (W.exm_one (K:=X.K) I3.kIn LT hm).here ?_;refine codeAny_handlers_suite_as (Bi (s:={ s1 with heap:=h' }) hx' fun h2 kp2 kn2 th2 hx2=>?_);have I4:Inv X pins σ' H' { s1 with heap:=h2 }:=sJ (s:={ s1 with heap:=h' }) (t':=s1.toks) hst hf I2 O (fun b o e hb _=>kp2 b o e hb) fun b o e hb=>by
   obtain ⟨_,u,hu,nf⟩:=I2.stack.mem hb;have hu':h'.get? b = some u:=hu;have e':h'.get? b = some o:=e;rw [e'] at hu'; cases hu';exact ⟨o.slots,kn2 b o e nf⟩
  have I5:=Gu I4 O hx2 (by rw [hex]; simp);obtain ⟨_,_,_,_,_,hHx,_,_⟩:=hx2;refine rG (X:=lV X x) (v:=.ref x) (sK I5) hN hi (.inl hl) rfl (fun s6 I6=>?_) (.inr hl);have run:=hs x pins s6 (σ'.set i (some (.ref x))) _ { nx:=fun σ2 H2=>D.nx (σ2.set i none) H2,rt:=D.rt,bk:=fun σ2 H2=>D.bk (σ2.set i none) H2,ct:=fun σ2 H2=>D.ct (σ2.set i none) H2 } I6 (q x hHx);refine wpAny_mono run (fun f s7 q7=>?_) fun _ _ z=>False.elim z;have q8:=xY I'.ok q7;have go:∀ {σ7:L2.St} {H7:Hp},Inv X pins σ7 H7 s7->∀ {R:Shared->Prop} {E:Value->Shared->Prop},(∀ s8,Inv X pins (σ7.set i none) H7 s8->R s8)->wpAny (model X.prog X.w) X.A (do bindName X.env n .none; unbindBehindTheSuite X.env n hpos) (fun _ s8=>R s8) E s7:=fun {σ7 H7} I7 {R E} hR=>by
   obtain ⟨m,hn7,hl7⟩:=id I7.loc;exact wpAny_nameGoes_keeps hl hn7 hkp fun h8 v hn8 sb8=>hR _ (Ox I7 hN hi hl hn7 hl7 hn8 sb8)
  cases f with
  | next =>
   obtain ⟨σ7,H7,I7,q9⟩:=q8;exact go I7 fun s8 I8=>⟨_,H7,I8,q9⟩
  | ret v =>
   obtain ⟨v7,σ7,H7,I7,r7,q9⟩:=q8;exact go I7 fun s8 I8=>⟨v7,_,H7,I8,r7,q9⟩
  | brk =>
   obtain ⟨σ7,H7,I7,q9⟩:=q8;exact go I7 fun s8 I8=>⟨_,H7,I8,q9⟩
  | cont =>
   obtain ⟨σ7,H7,I7,q9⟩:=q8;exact go I7 fun s8 I8=>⟨_,H7,I8,q9⟩
end
section
variable {X:Cx} {K:W.Frag}
theorem gH (h:X.K = K):IxR X (Tg K):=by subst h; exact Us
theorem aMw (h:X.K = K):IxR X (Mt K):=by subst h; exact aDo
theorem lQ (h:X.K = K):gC X (.builtin "len") (fun xs H Q=>∃ p ys,xs = [.ref p]/\(SqL K H p ys\/SqT K H p ys)/\Q (.int ys.length) H):=by subst h; exact wW
theorem aIq (h:X.K = K):gC X (.type "list") (fun xs H Q=>∃ p ys,xs = [.ref p]/\(SqL K H p ys\/SqT K H p ys)/\∀ l,H l = none->Q (.ref l) (cX H l (.lst ys))):=by subst h; exact wV
theorem tH (h:X.K = K):SlR X (aBf K):=by subst h; exact Sv
theorem eqK (h:X.K = K) (hu:X.A.units + 64 < cLine):kW X (compareOp .Eq) (Fw K false):=by subst h; exact aBq hu
theorem neK (h:X.K = K) (hu:X.A.units + 64 < cLine):kW X (compareOp .NotEq) (Fw K true):=by subst h; exact aBo hu
theorem inK (h:X.K = K) (hu:X.A.units + 64 < cLine):kW X (compareOp .In) (aBg K false):=by subst h; exact aBp hu
theorem oK (h:X.K = K):gC X (.builtin "isinstance") (fun xs H Q=>∃ x C c cv b bmB newId,xs = [.ref x,c]/\(∀ u,RelV c u->u = cv)/\H x = some (.ext (pC x C))/\W.excIn K C bmB newId = true/\ExcK K C/\W.kitOne K (.ref C) cv = some b/\Q (.bl b) H):=by subst h; exact Hk
theorem kS {tg l:Expr} {tl:TE} (h:X.K = K) (hl:PE X l tl):PI X tg l (zD K tl):=by subst h; exact Tj hl
theorem Gb {es:List Expr} {k:Nat} {pos:Pos} {t:Hq} {n:Nat} (h:X.K = K) (hc:X.calm = true) (hg:PGs X es t)
  (hn:(assignEach es X.env).length = n:=by rfl) (hst:(assignEach es X.env).findIdx? (·.1) = none:=by rfl):PG X (.Tuple es k pos) (aDx K n t):=by subst h; exact aBk hc hg hn hst
end
section
variable {X:Cx} {elt target iter:Expr} {ifs:List Expr} {scope:Scope} {pos spos pos':Pos} {wi:TI} {cap:List (Option Nat)} {NC:List Str} {cl:List (Str × Addr)} {g:TG} {tt:TT} {te:TE}
theorem nU {i:Nat} {x:Str} (hN:X.N.Nodup) (hi:X.N[i]? = some x) (hx:X.env.scope.names.lookup x = some .local) (hc:X.calm = true) (L:LcOk X scope cl cap NC) (hit:PI X target iter wi)
  (hg:∀ C s₀ H₀ fp,PG (mY X scope cl NC C s₀ H₀ fp) target g) (ht:∀ C s₀ H₀ fp,PTs (mY X scope cl NC C s₀ H₀ fp) ifs tt) (he:∀ C s₀ H₀ fp,PE (mY X scope cl NC C s₀ H₀ fp) elt te)
  (hsw:swapsWith (.ListComp elt [⟨target,iter,ifs,0⟩] scope pos) (some (.Name x pos')) spos.line X.env = pure true:=by rfl)
  (hs:∀ x,foldedSetIterable iter X.env x = pure x:=by intro _; rfl):PS X (.Assign [.Name x pos'] (.ListComp elt [⟨target,iter,ifs,0⟩] scope pos) spos) (pF (tLC wi cap g tt te) (mJ i)):=by
 intro pins s σ H D I h;rw [exec_Assign_Name_used _ _ _ _ hsw];refine wpAny_bind (wpAny_standAt (wpAny_bind ?_));show wpAny _ X.A (do let _ <- comprehension (.ListComp elt [⟨target,iter,ifs,0⟩] scope pos) scope X.env _ (newList []) false (eval iter X.env) (some (assign (.Name x pos') X.env))) _ _ s
 refine wpAny_bind (wpAny_mono (wpAny_comprehension_free (use:=some (assign (.Name x pos') X.env)) (Q:=fun _ s'=>SP X pins D .next s') rfl hs L.clos L.kind L.names
  (dO (hit pins s σ H _ I h) fun xv s₁ h₁=>dO h₁ fun itv s₂ h₂=>?_)) (fun _ s' hq=>wpAny_pure (wpAny_pure hq)) fun _ _ e=>e)
 obtain ⟨it,fp,tn,J,H2,rfl,I2,T,st2,f2,hq⟩:=h₂;refine zA (G:=fun v H'=>D.nx (σ.set i (some v)) H') hc L hg ht he I2 T st2 f2 hq fun Dd C Hc s' m hn back fpC q=>?_;obtain ⟨z1,z2,z3,z4,z5,z6⟩:=fpC;have Ib:Inv X pins σ Hc s':=back s'.heap (.refl _ _) s'.toks;show wpAny _ X.A (assign (.Name x pos') X.env (.ref Dd)) _ _ _;refine wpAny_assign_Name (tW Ib hN hi (.inl hx) (show RelV (.ref Dd) (.ref Dd) from rfl) (fun s2 I2 ⟨a,sb,ha⟩=>?_) (.inr hx));have hCa:C ≠ a:=by
  rcases ha with z | z
  ·rw [z]; exact z2
  ·exact fun e=>z5 x a z e.symm
 refine ⟨m,hn.sameBut sb hCa,fun h' sb'=>⟨_,Hc,?_,q⟩⟩;exact I2.turned (t':=s2.toks) (it:=C) (fun b o hb e=>(sb'.2 b hb).trans e) z1 z2 z4 z5 z6
end
end Lx
namespace Fm
theorem abs_if (i:Int):(if i < 0 then -i else i) = ((i.natAbs:Nat):Int):=by omega
theorem gcd_step (a b:Int) (h:0 < b):Int.gcd b (a % b) = Int.gcd a b:=by
 rw [gcd_comm b (a % b),Int.emod_def];exact Int.gcd_sub_mul_left_left _ _ _
theorem gcd_zero {a:Int} (h:0<=a):((Int.gcd a 0:Nat):Int) = a:=by
 rw [Int.gcd_zero_right]; omega
theorem gcd_le_right {a b:Int} (hb:b ≠ 0):Int.gcd a b<=b.natAbs:=le_of_dvd (by omega) (Int.gcd_dvd_natAbs_right a b)
theorem gcd_pos_right {a b:Int} (hb:b ≠ 0):0 < Int.gcd a b:=Int.gcd_pos_of_ne_zero_right a hb
theorem fr_num {t b:Int} (hb:b ≠ 0):t.fdiv (if b < 0 then -((Int.gcd t b:Nat):Int) else ((Int.gcd t b:Nat):Int)) = (divInt t b).num:=by
 rw [num_divInt,gcd_comm b t];have hg:(0:Int) < ((Int.gcd t b:Nat):Int):=by have:=gcd_pos_right (a:=t) hb; omega
 have hd:((Int.gcd t b:Nat):Int) ∣ t:=Int.gcd_dvd_left t b;split
 ·rename_i hn
  rw [Int.sign_eq_neg_one_of_neg hn];obtain ⟨k,hk⟩:=hd;generalize ((Int.gcd t b:Nat):Int) = g at hg hk;subst hk;rw [show -1 * (g * k) = g * (-k) by grind,Int.mul_ediv_cancel_left _ (by omega)];rw [show g * k = (-g) * (-k) by grind];exact mul_fdiv_cancel_left _ (by omega)
 ·rename_i hn
  rw [sign_eq_one_of_pos (by omega),one_mul,fdiv_eq_ediv_of_nonneg _ (by omega)]
theorem fr_den {t b:Int} (hb:b ≠ 0):b.fdiv (if b < 0 then -((Int.gcd t b:Nat):Int) else ((Int.gcd t b:Nat):Int)) = (((divInt t b).den:Nat):Int):=by
 rw [den_divInt,if_neg hb,gcd_comm b t];have hg:(0:Int) < ((Int.gcd t b:Nat):Int):=by have:=gcd_pos_right (a:=t) hb; omega
 have hd:((Int.gcd t b:Nat):Int) ∣ b:=Int.gcd_dvd_right t b;rw [natCast_ediv];split
 ·rename_i hn
  rw [show ((b.natAbs:Nat):Int) = -b by omega];obtain ⟨k,hk⟩:=hd;generalize ((Int.gcd t b:Nat):Int) = g at hg hk;subst hk;rw [show -(g * k) = g * (-k) by grind,Int.mul_ediv_cancel_left _ (by omega)];rw [show g * k = (-g) * (-k) by grind];exact mul_fdiv_cancel_left _ (by omega)
 ·rename_i hn
  rw [show ((b.natAbs:Nat):Int) = b by omega,fdiv_eq_ediv_of_nonneg _ (by omega)]
theorem add_parts (a b:Rat) (s:Nat) (hs:s = a.den.gcd b.den) (tp:Int) (ht:tp = a.num * ((b.den / s:Nat):Int) + b.num * ((a.den / s:Nat):Int)) (g:Nat) (hg:g = s.gcd tp.natAbs) :
  (a + b).num = tp / (g:Int)/\(a + b).den = a.den / s * (b.den / g):=by
 have hs0:0 < s:=by rw [hs]; exact gcd_pos_of_pos_left _ (pos_of_ne_zero a.den_nz)
 have hg0:0 < g:=by rw [hg]; exact gcd_pos_of_pos_left _ hs0
 have hgs:g ∣ s:=by rw [hg]; exact gcd_dvd_left _ _
 have hsb:s ∣ b.den:=by rw [hs]; exact Nat.gcd_dvd_right _ _
 have hgb:g ∣ b.den:=dvd_trans hgs hsb;have e:a.den / s * (b.den / g) = a.den / s * b.den / g:=(Nat.mul_div_assoc _ hgb).symm;rw [e];show (Rat.add a b).num = _/\(Rat.add a b).den = _;unfold Rat.add;simp only [<- hs];split
 ·rename_i h1
  have:g = 1:=by rw [hg,h1]; exact Nat.gcd_one_left _
  subst this;dsimp only;rw [ht,h1];simp
 ·rename_i h1
  simp only [Rat.maybeNormalize_eq];have hg2:(a.num * ((b.den / s:Nat):Int) + b.num * ((a.den / s:Nat):Int)).natAbs.gcd s = g:=by rw [hg,<- ht,Nat.gcd_comm]
  have hd:(g:Int) ∣ tp:=by
   rw [hg];exact ofNat_dvd_left.mpr (Nat.gcd_dvd_right _ _)
  constructor
  ·rw [divExact_eq_tdiv,hg2,<- ht,tdiv_eq_ediv_of_dvd hd]
  ·rw [hg2]
theorem mul_parts (a b:Rat):(a * b).num = (divInt a.num (b.den:Int)).num * (divInt b.num (a.den:Int)).num/\(a * b).den = (divInt a.num (b.den:Int)).den * (divInt b.num (a.den:Int)).den:=by
 show (Rat.mul a b).num = _/\(Rat.mul a b).den = _;have ha:(a.den:Int) ≠ 0:=by have:=a.den_nz; omega
 have hb:(b.den:Int) ≠ 0:=by have:=b.den_nz; omega
 rw [num_divInt,num_divInt,den_divInt,den_divInt,if_neg ha,if_neg hb];have e1:((b.den:Nat):Int).sign = 1:=sign_eq_one_of_pos (by have:=b.den_nz; omega);have e2:((a.den:Nat):Int).sign = 1:=sign_eq_one_of_pos (by have:=a.den_nz; omega);rw [e1,e2,one_mul,one_mul];unfold Rat.mul;dsimp only;have g1:Int.gcd ((b.den:Nat):Int) a.num = a.num.natAbs.gcd b.den:=by rw [gcd_comm]; rfl
 have g2:Int.gcd ((a.den:Nat):Int) b.num = b.num.natAbs.gcd a.den:=by rw [gcd_comm]; rfl
 rw [g1,g2];constructor
 ·rw [divExact_eq_tdiv,divExact_eq_tdiv,tdiv_eq_ediv_of_dvd (ofNat_dvd_left.mpr (gcd_dvd_left _ _)),tdiv_eq_ediv_of_dvd (ofNat_dvd_left.mpr (gcd_dvd_left _ _))]
 ·rw [mul_comm]; rfl
theorem div_inv (b:Rat):divInt (b.den:Int) b.num = b⁻¹:=(Rat.inv_def b).symm
theorem less_iff (a b:Rat):(a.num * (b.den:Int) < b.num * (a.den:Int)) ↔ a < b:=(Rat.lt_iff a b).symm
theorem den_pos (q:Rat):(1:Int)<=(q.den:Int):=by have:=q.den_nz; omega
theorem Qr (t b:Int) (hb:b ≠ 0):(divInt t b).num * b = t * ((divInt t b).den:Int):=by
 have h:=num_divInt_den (divInt t b);exact (Rat.divInt_eq_divInt_iff (by have:=(divInt t b).den_nz; omega) hb).mp h
theorem num_le (t:Int) {b:Int} (hb:b ≠ 0):(divInt t b).num.natAbs<=t.natAbs:=by
 have h:=Qr t b hb;have h2:=Fm.den_pos (divInt t b);rw [<- fr_num hb];have hg:(0:Int) < ((Int.gcd t b:Nat):Int):=by have:=gcd_pos_right (a:=t) hb; omega
 obtain ⟨k,hk⟩:((Int.gcd t b:Nat):Int) ∣ t:=Int.gcd_dvd_left t b;generalize ((Int.gcd t b:Nat):Int) = g at hg hk;subst hk;have le:k.natAbs<=(g * k).natAbs:=by
  rw [natAbs_mul];exact Nat.le_mul_of_pos_left _ (by omega)
 split
 ·rw [show g * k = (-g) * (-k) by grind,mul_fdiv_cancel_left _ (by omega)];rw [show (-g) * (-k) = g * k by grind];omega
 ·rw [mul_fdiv_cancel_left _ (by omega)];exact le
theorem den_le (t:Int) {b:Int} (hb:b ≠ 0):(divInt t b).den<=b.natAbs:=by
 rw [den_divInt,if_neg hb];exact div_le_self _ _
theorem Aq (q:Rat):(q.num:Rat) = q * (q.den:Rat):=by
 have h:=num_divInt_den q;rw [Rat.divInt_eq_div] at h;have hd:((q.den:Int):Rat) ≠ 0:=by
  have:=q.den_nz;intro z;rw [intCast_natCast] at z;exact this (by simpa using z)
 rw [intCast_natCast] at h hd;have h2:=Rat.div_mul_cancel (a:=(q.num:Rat)) hd;rw [h] at h2;exact h2.symm
theorem fr_pos {t b:Int} (hb:0 < b):t / ((Int.gcd t b:Nat):Int) = (divInt t b).num/\b / ((Int.gcd t b:Nat):Int) = ((divInt t b).den:Int):=by
 have h1:=fr_num (t:=t) (b:=b) (by omega);have h2:=fr_den (t:=t) (b:=b) (by omega);rw [if_neg (by omega),fdiv_eq_ediv_of_nonneg _ (by omega)] at h1 h2;exact ⟨h1,h2⟩
theorem eq_divInt {q:Rat} {n m:Int} (hm:m ≠ 0) (h:q * (m:Rat) = (n:Rat)):q = divInt n m:=by
 rw [Rat.divInt_eq_div,<- h];have:(m:Rat) ≠ 0:=by simpa using hm
 exact (Rat.mul_div_cancel this).symm
theorem size_of {q:Rat} {n m:Int} (hm:m ≠ 0) (h:q * (m:Rat) = (n:Rat)):q.num.natAbs<=n.natAbs/\q.den<=m.natAbs:=by
 rw [eq_divInt hm h];exact ⟨num_le n hm,den_le n hm⟩
structure Sz (N:Nat) (q:Rat):Prop where
 n:q.num.natAbs<=N
 d:q.den<=N
theorem Sz.mono {M N:Nat} {q:Rat} (h:Sz M q) (l:M<=N):Sz N q:=⟨le_trans h.n l,le_trans h.d l⟩
theorem Sz.neg {N:Nat} {q:Rat} (h:Sz N q):Sz N (-q):=⟨by show (-q.num).natAbs<=N; rw [Int.natAbs_neg]; exact h.n,h.d⟩
end Fm
namespace Fm
theorem El (t:Int) {b:Int} (hb:b ≠ 0):(divInt t b).den ∣ b.natAbs:=by
 have h:=congrArg natAbs (Qr t b hb);rw [natAbs_mul,natAbs_mul] at h;have h2:(divInt t b).den ∣ (divInt t b).num.natAbs * b.natAbs:=⟨t.natAbs,by rw [h,mul_comm]; simp⟩;have h3:Nat.Coprime (divInt t b).den (divInt t b).num.natAbs:=Nat.Coprime.symm (divInt t b).reduced;exact h3.dvd_of_dvd_mul_left h2
theorem Pw {q:Rat} {n:Int} {L:Nat} (hL:L ≠ 0) (h:q * (L:Rat) = (n:Rat)):q.den ∣ L:=by
 have e:q = divInt n (L:Int):=eq_divInt (by omega) (by rw [intCast_natCast]; exact h);rw [e];have:=El n (b:=(L:Int)) (by omega);simpa using this
theorem vI {q:Rat} {L:Nat} (h:q.den ∣ L):q * (L:Rat) = ((q.num * ((L / q.den:Nat):Int):Int):Rat):=by
 obtain ⟨c,rfl⟩:=h;have hd:0 < q.den:=pos_of_ne_zero q.den_nz;rw [Nat.mul_div_cancel_left _ hd,Rat.intCast_mul,Aq q,natCast_mul,intCast_natCast];grind
structure Cm (L B:Nat) (q:Rat):Prop where
 d:q.den ∣ L
 lo:-(B:Rat)<=q
 hi:q<=(B:Rat)
theorem Ex {a b:Nat} (h:a<=b):(a:Rat)<=(b:Rat):=by
 rw [<- intCast_natCast,<- intCast_natCast];exact intCast_le_intCast.mpr (by omega)
theorem Ew (a:Nat):(0:Rat)<=(a:Rat):=Ex (zero_le a)
theorem Cm.mono {L B L' B':Nat} {q:Rat} (h:Cm L B q) (hl:L ∣ L') (hb:B<=B'):Cm L' B' q:=by
 have:=Ex hb;exact ⟨dvd_trans h.d hl,by have:=h.lo; grind,by have:=h.hi; grind⟩
theorem Cm.neg {L B:Nat} {q:Rat} (h:Cm L B q):Cm L B (-q):=⟨h.d,by have:=h.hi; grind,by have:=h.lo; grind⟩
theorem Cm.add {L B C:Nat} {p q:Rat} (hp:Cm L B p) (hq:Cm L C q):Cm L (B + C) (p + q):=by
 refine ⟨?_,?_,?_⟩
 ·by_cases hL:L = 0
  ·rw [hL]; exact Nat.dvd_zero _
  ·refine Pw hL (n:=p.num * ((L / p.den:Nat):Int) + q.num * ((L / q.den:Nat):Int)) ?_;rw [Rat.intCast_add,<- vI hp.d,<- vI hq.d];grind
 ·rw [Rat.natCast_add]; have:=hp.lo; have:=hq.lo; grind
 ·rw [Rat.natCast_add]; have:=hp.hi; have:=hq.hi; grind
theorem Cm.sub {L B C:Nat} {p q:Rat} (hp:Cm L B p) (hq:Cm L C q):Cm L (B + C) (p - q):=by
 rw [Rat.sub_eq_add_neg]; exact hp.add hq.neg
theorem Od {a b B C:Rat} (h1:-B<=a) (h2:a<=B) (h3:-C<=b) (h4:b<=C):a * b<=B * C/\-(B * C)<=a * b:=by
 have k1:0<=(B - a) * (C + b):=mul_nonneg (by grind) (by grind);have k2:0<=(B + a) * (C - b):=mul_nonneg (by grind) (by grind);have k3:0<=(B - a) * (C - b):=mul_nonneg (by grind) (by grind);have k4:0<=(B + a) * (C + b):=mul_nonneg (by grind) (by grind);constructor <;> grind
theorem Cm.mul {L B M C:Nat} {p q:Rat} (hp:Cm L B p) (hq:Cm M C q):Cm (L * M) (B * C) (p * q):=by
 refine ⟨?_,?_,?_⟩
 ·by_cases hL:L * M = 0
  ·rw [hL]; exact Nat.dvd_zero _
  ·refine Pw hL (n:=(p.num * ((L / p.den:Nat):Int)) * (q.num * ((M / q.den:Nat):Int))) ?_;rw [Rat.intCast_mul,<- vI hp.d,<- vI hq.d,natCast_mul];grind
 ·rw [natCast_mul]; exact (Od hp.lo hp.hi hq.lo hq.hi).2
 ·rw [natCast_mul]; exact (Od hp.lo hp.hi hq.lo hq.hi).1
theorem Cm.int {i:Int} {B:Nat} (h:i.natAbs<=B):Cm 1 B (i:Rat):=by
 refine ⟨by simp,?_,?_⟩
 ·rw [<- intCast_natCast,<- intCast_neg]; exact intCast_le_intCast.mpr (by omega)
 ·rw [<- intCast_natCast]; exact intCast_le_intCast.mpr (by omega)
theorem Cm.zero {L B:Nat}:Cm L B 0:=by
 have:=Ew B;exact ⟨by simp,by grind,this⟩
theorem Cm.num {L B:Nat} {q:Rat} (h:Cm L B q):q.num.natAbs<=B * q.den:=by
 have hd:(0:Rat)<=(q.den:Rat):=Ew _;have e:=Aq q;have h1:(q.num:Rat)<=((B * q.den:Nat):Rat):=by
  rw [e,natCast_mul]; exact Rat.mul_le_mul_of_nonneg_right h.hi hd
 have h2:-((B * q.den:Nat):Rat)<=(q.num:Rat):=by
  rw [e,natCast_mul,<- Rat.neg_mul]; exact Rat.mul_le_mul_of_nonneg_right h.lo hd
 rw [<- intCast_natCast] at h1 h2;rw [<- intCast_neg] at h2;have h3:=intCast_le_intCast.mp h1;have h4:=intCast_le_intCast.mp h2;omega
theorem Cm.den {L B:Nat} {q:Rat} (h:Cm L B q) (hL:0 < L):q.den<=L:=le_of_dvd hL h.d
theorem Cm.sz {L B:Nat} {q:Rat} (h:Cm L B q) (hL:0 < L):Sz ((B + 1) * L) q:=by
 have h1:=h.num;have h2:=h.den hL;have h3:B * q.den<=B * L:=Nat.mul_le_mul_left _ h2;have h4:(B + 1) * L = B * L + L:=by rw [add_mul,Nat.one_mul]
 exact ⟨by omega,by omega⟩
theorem Cm.of {q:Rat} {L B:Nat} (hd:q.den ∣ L) (hn:q.num.natAbs<=B * q.den):Cm L B q:=by
 have hp:(0:Rat) < (q.den:Rat):=by
  rw [<- intCast_natCast]; exact Rat.intCast_pos.mpr (by have:=q.den_nz; omega)
 have e:=Aq q;have h1:(q.num:Rat)<=(B:Rat) * (q.den:Rat):=by
  rw [<- natCast_mul,<- intCast_natCast]; exact intCast_le_intCast.mpr (by omega)
 have h2:-((B:Rat) * (q.den:Rat))<=(q.num:Rat):=by
  rw [<- natCast_mul,<- intCast_natCast,<- intCast_neg]; exact intCast_le_intCast.mpr (by omega)
 rw [e] at h1 h2;refine ⟨hd,?_,?_⟩
 ·refine Rat.not_lt.mp fun c=>?_;have:=Rat.mul_lt_mul_of_pos_right c hp;rw [Rat.neg_mul] at this;grind
 ·refine Rat.not_lt.mp fun c=>?_;have:=Rat.mul_lt_mul_of_pos_right c hp;grind
theorem Cm.div {t:Int} {b L B:Nat} (hb:0 < b) (hd:b ∣ L) (ht:t.natAbs<=B * b):Cm L B (divInt t (b:Int)):=by
 have h1:=El t (b:=(b:Int)) (by omega);have hc:=Qr t (b:Int) (by omega);refine Cm.of (dvd_trans (by simpa using h1) hd) ?_;have h2:(divInt t (b:Int)).num.natAbs * b = t.natAbs * (divInt t (b:Int)).den:=by
  have:=congrArg natAbs hc;rw [natAbs_mul,natAbs_mul] at this;simpa using this
 refine Nat.le_of_mul_le_mul_right ?_ hb;rw [h2]
 calc t.natAbs * (divInt t (b:Int)).den<=(B * b) * (divInt t (b:Int)).den:=mul_le_mul_right _ ht
  _ = B * (divInt t (b:Int)).den * b:=by rw [mul_assoc,mul_comm b,mul_assoc]
def Dg (n:Nat) (q:Rat):Prop:=Sz (10 ^ n) q
theorem Iz {a b:Nat} (h:a<=b):10 ^ a<=10 ^ b:=pow_le_pow_right (by decide) h
theorem Se (a b:Nat):2 * (10 ^ a * 10 ^ b)<=10 ^ (a + b + 1):=by
 rw [pow_succ,pow_add];omega
theorem Dg.mono {a b:Nat} {q:Rat} (h:Dg a q) (l:a<=b):Dg b q:=Sz.mono h (Iz l)
theorem Dg.neg {a:Nat} {p:Rat} (hp:Dg a p):Dg a (-p):=Sz.neg hp
theorem Dg.int {n:Nat} {i:Int} (h:i.natAbs<=10 ^ n):Dg n (i:Rat):=⟨h,pow_pos (n:=n) (by decide)⟩
def iC (q:Rat):Rat:=⟨(q.num.natAbs:Int),q.den,q.den_nz,by simpa using q.reduced⟩
theorem jU (q:Rat):(iC q).num = ((q.num.natAbs:Nat):Int):=rfl
theorem Rb {q:Rat} (h:0<=q):iC q = q:=by
 have:=num_nonneg.mpr h;exact Rat.ext (by rw [jU]; omega) rfl
theorem Rc {q:Rat} (h:q<=0):iC q = -q:=by
 have h1:0<=-q:=by grind
 have:=num_nonneg.mpr h1;exact Rat.ext (by rw [jU]; show _ = -q.num; have e:(-q).num = -q.num:=rfl; omega) rfl
theorem Vt (q:Rat):0<=iC q:=num_nonneg.mp (by rw [jU]; omega)
theorem sZ (q:Rat):(0<=q/\iC q = q)\/(q<=0/\iC q = -q):=by
 rcases Rat.le_total (a:=0) (b:=q) with h | h
 ·exact .inl ⟨h,Rb h⟩
 ·exact .inr ⟨h,Rc h⟩
theorem Cm.abs {L B:Nat} {q:Rat} (h:Cm L B q):Cm L B (iC q):=by
 rcases sZ q with ⟨_,e⟩ | ⟨_,e⟩
 ·rw [e]; exact h
 ·rw [e]; exact h.neg
theorem Dg.abs {n:Nat} {q:Rat} (h:Dg n q):Dg n (iC q):=⟨by rw [jU]; exact h.n,h.d⟩
theorem Cm.dg {L B l b:Nat} {q:Rat} (h:Cm L B q) (hL:0 < L) (h1:L<=10 ^ l) (h2:B<=10 ^ b):Dg (b + l + 1) q:=by
 refine (h.sz hL).mono ?_;have e:(B + 1) * L<=(10 ^ b + 10 ^ b) * 10 ^ l:=mul_le_mul (by have:=pow_pos (n:=b) (show 0 < 10 by decide); omega) h1;have:=Se b l;rw [add_mul (10 ^ b)] at e;omega
end Fm
namespace Dl
open PySem PySem.Spec PyProof.Rows L2 Lx
inductive Sl where
 | dat (d:PyData)
 | own (ds:List PyData)
  | exc (C:Addr)
  | two (xs ys:List PyData)
  | fz (as:List Addr) (d:PyData)
  | mon (φ:PySem.W.Frag->Hp->V->Prop)
abbrev bW:=List (Option Sl)
def slot:bW->Nat->Option Sl
 | [],_=>none
 | x :: _,0=>x
 | _ :: xs,n + 1=>slot xs n
def put (s:Option Sl):Nat->bW->bW
 | _,[]=>[]
 | 0,_ :: xs=>s :: xs
 | n + 1,x :: xs=>x :: put s n xs
theorem jJ (s:Option Sl):∀ (i j:Nat) (δ:bW),slot (put s i δ) j = if j = i/\i < δ.length then s else slot δ j
 | i,j,[]=>by cases i <;> simp [put,slot]
 | 0,0,x :: xs=>by simp [put,slot]
 | 0,j + 1,x :: xs=>by simp [put,slot]
 | i + 1,0,x :: xs=>by simp [put,slot]
 | i + 1,j + 1,x :: xs=>by
  have:=jJ s i j xs;simp only [put,slot,this,length_cons];simp
theorem nS (s:Option Sl):∀ (i:Nat) (δ:bW),(put s i δ).length = δ.length
 | i,[]=>by cases i <;> rfl
 | 0,x :: xs=>rfl
 | i + 1,x :: xs=>by simp [put,nS s i xs]
theorem lG {K:W.Frag} {H H':Hp} {a:Addr} {xs:List V} (e:Same H H') (h:SqT K H a xs):SqT K H' a xs:=by
 rcases h with (h | ⟨o,h⟩) | h
 ·exact .inl (.inl (e _ _ h))
 ·exact .inl (.inr ⟨o,e _ _ h⟩)
 ·exact .inr h
mutual
theorem cL {K:W.Frag} {H H':Hp} (s:Same H H'):∀ {x:V} {d:PyData},DV K H x d->DV K H' x d
 | _,_,.non=>.non
 | _,_,.bl b=>.bl b
 | _,_,.int i=>.int i
 | _,_,.str x=>.str x
 | _,_,.tup h hs=>.tup (lG s h) (bQ s hs)
 | _,_,.lst h hs=>.lst (s.seq h) (bQ s hs)
 | _,_,.dct h=>.dct (s _ _ h)
 | _,_,.dc0 h=>.dc0 (s _ _ h)
theorem bQ {K:W.Frag} {H H':Hp} (s:Same H H'):∀ {xs:List V} {ds:List PyData},DVs K H xs ds->DVs K H' xs ds
 | _,_,.nil=>.nil
 | _,_,.cons h t=>.cons (cL s h) (bQ s t)
end
mutual
def oQ:PyData->Bool
 | .none=>true
 | .bool _=>true
 | .int _=>true
 | .str _=>true
 | .list _=>false
 | .tuple ds=>fM ds
 | .dict _=>true
def fM:List PyData->Bool
 | []=>true
 | d :: ds=>oQ d && fM ds
end
def Sub (G H:Hp):Prop:=∀ b,G b = H b\/(G b = none/\∃ xs,H b = some (.lst xs))
theorem Sub.same {G H:Hp} (s:Sub G H):Same G H:=fun b o e=>by
 rcases s b with h | ⟨h,_⟩
 ·rw [<- h]; exact e
 ·rw [h] at e; cases e
theorem Sub.refl (H:Hp):Sub H H:=fun _=>.inl rfl
theorem Sub.other {G H:Hp} (s:Sub G H) {b:Addr} {o:HO} (h:H b = some o) (n:∀ xs,o ≠ .lst xs):G b = some o:=by
 rcases s b with e | ⟨_,xs,e⟩
 ·rw [e]; exact h
 ·rw [h] at e; cases e; exact absurd rfl (n xs)
mutual
theorem Eh {K:W.Frag} {G H:Hp} (s:∀ b o,H b = some o->(∀ xs,o ≠ .lst xs)->G b = some o):∀ {x:V} {d:PyData},DV K H x d->oQ d = true->DV K G x d
 | _,_,.non,_=>.non
 | _,_,.bl b,_=>.bl b
 | _,_,.int i,_=>.int i
 | _,_,.str x,_=>.str x
 | _,_,.tup h hs,f=>.tup (by
   rcases h with (h | ⟨o,h⟩) | h
   ·exact .inl (.inl (s _ _ h (by intro xs z; cases z)))
   ·exact .inl (.inr ⟨o,s _ _ h (by intro xs z; cases z)⟩)
   ·exact .inr h) (oU s hs f)
 | _,_,.lst _ _,f=>by cases f
 | _,_,.dct h,_=>.dct (s _ _ h (by intro xs z; cases z))
 | _,_,.dc0 h,_=>.dc0 (s _ _ h (by intro xs z; cases z))
theorem oU {K:W.Frag} {G H:Hp} (s:∀ b o,H b = some o->(∀ xs,o ≠ .lst xs)->G b = some o):∀ {xs:List V} {ds:List PyData},DVs K H xs ds->fM ds = true->DVs K G xs ds
 | _,_,.nil,_=>.nil
 | _,_,.cons h t,f=>by
  simp only [fM,and_eq_true] at f;exact .cons (Eh s h f.1) (oU s t f.2)
end
end Dl
namespace Lx
open PySem PySem.Spec PyProof.Rows L2
theorem DVs.len {K:W.Frag} {H:Hp}:∀ {xs:List V} {ds:List PyData},DVs K H xs ds->xs.length = ds.length
 | _,_,.nil=>rfl
 | _,_,.cons _ t=>congrArg (· + 1) (DVs.len t)
theorem DVs.at {K:W.Frag} {H:Hp}:∀ {xs:List V} {ds:List PyData} {i:Nat} {d:PyData},DVs K H xs ds->ds[i]? = some d->∃ x,xs[i]? = some x/\DV K H x d
 | _,_,_,_,.nil,e=>by simp at e
 | _,_,0,_,.cons h _,e=>by
  simp at e;subst e;exact ⟨_,rfl,h⟩
 | _,_,i + 1,_,.cons _ t,e=>by
  obtain ⟨x,h1,h2⟩:=DVs.at (i:=i) t (by simpa using e);exact ⟨x,by simpa using h1,h2⟩
theorem DVs.append {K:W.Frag} {H:Hp}:∀ {xs ys:List V} {ds es:List PyData},DVs K H xs ds->DVs K H ys es->DVs K H (xs ++ ys) (ds ++ es)
 | _,_,_,_,.nil,h=>h
 | _,_,_,_,.cons r t,h=>.cons r (DVs.append t h)
theorem DVs.take {K:W.Frag} {H:Hp}:∀ {xs:List V} {ds:List PyData} (n:Nat),DVs K H xs ds->DVs K H (xs.take n) (ds.take n)
 | _,_,0,_=>by simp only [List.take_zero]; exact .nil
 | _,_,_ + 1,.nil=>.nil
 | _,_,n + 1,.cons r t=>.cons r (DVs.take n t)
theorem DVs.drop {K:W.Frag} {H:Hp}:∀ {xs:List V} {ds:List PyData} (n:Nat),DVs K H xs ds->DVs K H (xs.drop n) (ds.drop n)
 | _,_,0,h=>by simp only [drop_zero]; exact h
 | _,_,_ + 1,.nil=>.nil
 | _,_,n + 1,.cons _ t=>DVs.drop n t
theorem DVs.set {K:W.Frag} {H:Hp} {x:V} {d:PyData} (r:DV K H x d):∀ {xs:List V} {ds:List PyData} (i:Nat),DVs K H xs ds->DVs K H (xs.set i x) (ds.set i d)
 | _,_,_,.nil=>.nil
 | _,_,0,.cons _ t=>.cons r t
 | _,_,i + 1,.cons q t=>.cons q (DVs.set r i t)
end Lx
namespace Dl
open PySem PySem.Spec PyProof.Rows L2 Lx
inductive Rws (K:PySem.W.Frag) (G H:Hp):List Addr->List (List PyData)->Prop
 | nil:Rws K G H [] []
 | cons {b:Addr} {bs:List Addr} {vs:List V} {ds:List PyData} {dss:List (List PyData)}:H b = some (.lst vs)->DVs K G vs ds->Rws K G H bs dss->Rws K G H (b :: bs) (ds :: dss)
theorem Rws.mono {K:W.Frag} {G H G' H':Hp} (g:Same G G') (h:Same H H'):∀ {bs:List Addr} {dss:List (List PyData)},Rws K G H bs dss->Rws K G' H' bs dss
 | _,_,.nil=>.nil
 | _,_,.cons h1 h2 r=>.cons (h _ _ h1) (bQ g h2) (r.mono g h)
theorem Rws.dv {K:W.Frag} {G H:Hp} (Gf:Hp) (g:Same G Gf):∀ {bs:List Addr} {dss:List (List PyData)},(∀ c∈bs,Gf c = H c)->Rws K G H bs dss->DVs K Gf (bs.map V.ref) (dss.map PyData.list)
 | _,_,_,.nil=>.nil
 | _,_,f,.cons h1 h2 r=>.cons (.lst (SqL.of (by rw [f _ mem_cons_self]; exact h1)) (bQ g h2)) (r.dv Gf g fun c hc=>f c (mem_cons_of_mem _ hc))
inductive FzIs (K:W.Frag) (G:Hp):V->List Addr->PyData->Prop
 | pair {t a b:Addr} {vs ws:List V} {xs ys:List PyData}:SqT K G t [.ref a,.ref b]->a ≠ b->G a = some (.lst vs)->G b = some (.lst ws)->DVs K G vs xs->DVs K G ws ys->FzIs K G (.ref t) [a,b] (.tuple [.list xs,.list ys])
 | one {a:Addr} {vs:List V} {ds:List PyData}:G a = some (.lst vs)->DVs K G vs ds->FzIs K G (.ref a) [a] (.list ds)
 | gr {a:Addr} {cs:List Addr} {dss:List (List PyData)}:G a = some (.lst (cs.map V.ref))->(a :: cs).Nodup->Rws K G G cs dss->FzIs K G (.ref a) (a :: a :: cs) (.list (dss.map PyData.list))
 | tg {t p a:Addr} {cs:List Addr} {vs:List V} {xs:List PyData} {dss:List (List PyData)}:SqT K G t [.ref p,.ref a]->(p :: a :: cs).Nodup->G p = some (.lst vs)->DVs K G vs xs->G a = some (.lst (cs.map V.ref))->Rws K G G cs dss->FzIs K G (.ref t) (p :: p :: a :: cs) (.tuple [.list xs,.list (dss.map PyData.list)])
theorem FzIs.same {K:W.Frag} {G G':Hp} {v:V} {as:List Addr} {d:PyData} (s:Same G G') (h:FzIs K G v as d):FzIs K G' v as d:=by
 cases h with
 | pair h1 h2 h3 h4 h5 h6=>exact .pair (lG s h1) h2 (s _ _ h3) (s _ _ h4) (bQ s h5) (bQ s h6)
 | one h1 h2=>exact .one (s _ _ h1) (bQ s h2)
 | gr h1 h2 h3=>exact .gr (s _ _ h1) h2 (h3.mono s s)
 | tg h1 h2 h3 h4 h5 h6=>exact .tg (lG s h1) h2 (s _ _ h3) (bQ s h4) (s _ _ h5) (h6.mono s s)
theorem FzIs.dv {K:W.Frag} {G:Hp} {v:V} {as:List Addr} {d:PyData} (h:FzIs K G v as d):DV K G v d:=by
 cases h with
 | pair h1 h2 h3 h4 h5 h6=>exact .tup h1 (.cons (.lst (SqL.of h3) h5) (.cons (.lst (SqL.of h4) h6) .nil))
 | one h1 h2=>exact .lst (SqL.of h1) h2
 | gr h1 h2 h3=>exact .lst (SqL.of h1) (h3.dv G (Same.refl _) fun _ _=>rfl)
 | tg h1 h2 h3 h4 h5 h6=>exact .tup h1 (.cons (.lst (SqL.of h3) h4) (.cons (.lst (SqL.of h5) (h6.dv G (Same.refl _) fun _ _=>rfl)) .nil))
def SlIs (K:W.Frag) (G H:Hp) (v:V):Sl->Prop
 | .dat d=>DV K G v d
 | .own ds=>∃ a vs,v = .ref a/\G a = none/\H a = some (.lst vs)/\DVs K G vs ds
 | .exc C=>∃ x,v = .ref x/\G x = some (.ext (pC x C))
 | .two _ _=>False
 | .fz as d=>FzIs K G v as d
 | .mon φ=>∀ G',Same G G'->φ K G' v
structure Sees (K:W.Frag) (H₀ G:Hp) (δ:bW) (σ:L2.St) (H:Hp):Prop where
 old:Same H₀ G
 sub:Sub G H
 len:δ.length<=σ.length
 has:∀ i s,slot δ i = some s->∃ v,σ[i]? = some (some v)/\SlIs K G H v s
 sep:∀ i j xs ys a,slot δ i = some (.own xs)->slot δ j = some (.own ys)->σ[i]? = some (some (.ref a))->σ[j]? = some (some (.ref a))->i = j
structure Ext (G H G' H':Hp):Prop where
 g:Same G G'
 h:Same H H'
 s:Sub G' H'
 n:∀ b o,G' b = some o->G b = some o\/H b = none
theorem Ext.refl {G H:Hp} (s:Sub G H):Ext G H G H:=⟨Same.refl _,Same.refl _,s,fun _ _ h=>.inl h⟩
theorem Ext.trans {G H G1 H1 G2 H2:Hp} (a:Ext G H G1 H1) (b:Ext G1 H1 G2 H2):Ext G H G2 H2 :=
 ⟨a.g.trans b.g,a.h.trans b.h,b.s,fun c o h=>by
  rcases b.n c o h with z | z
  ·exact a.n c o z
  ·exact .inr (a.h.free z)⟩
theorem Ext.keep {G H G' H':Hp} (e:Ext G H G' H') {a:Addr} (hg:G a = none) {o:HO} (hh:H a = some o):G' a = none:=by
 cases q:G' a with
 | none=>rfl
 | some u =>
  rcases e.n a u q with z | z
  ·rw [hg] at z; cases z
  ·rw [hh] at z; cases z
section
variable {K:W.Frag} {H₀ G H G' H':Hp} {δ:bW} {σ:L2.St}
theorem SlIs.ext {v:V} {s:Sl} (e:Ext G H G' H') (h:SlIs K G H v s):SlIs K G' H' v s:=by
 cases s with
 | dat d=>exact cL e.g h
 | own ds =>
  obtain ⟨a,vs,rfl,hg,hh,hd⟩:=h;exact ⟨a,vs,rfl,e.keep hg hh,e.h _ _ hh,bQ e.g hd⟩
 | two xs ys=>exact h.elim
 | fz as d=>exact FzIs.same e.g h
 | mon φ=>exact fun G2 s2=>h G2 (e.g.trans s2)
 | exc C =>
  obtain ⟨x,rfl,hx⟩:=h;exact ⟨x,rfl,e.g _ _ hx⟩
theorem Sees.ext (S:Sees K H₀ G δ σ H) (e:Ext G H G' H'):Sees K H₀ G' δ σ H' :=
 ⟨S.old.trans e.g,e.s,S.len,fun i s h=>by
  obtain ⟨v,h1,h2⟩:=S.has i s h
  exact ⟨v,h1,h2.ext e⟩,S.sep⟩
theorem Sees.refl (S:Sees K H₀ G δ σ H):Ext G H G H:=.refl S.sub
theorem Sees.oldH (S:Sees K H₀ G δ σ H):Same H₀ H:=S.old.trans S.sub.same
theorem nL:∀ {δ:bW} {i:Nat} {s:Sl},slot δ i = some s->i < δ.length
 | [],_,_,h=>by cases h
 | _ :: _,0,_,_=>Nat.zero_lt_succ _
 | _ :: xs,i + 1,s,h=>Nat.succ_lt_succ (nL (δ:=xs) (i:=i) (s:=s) h)
theorem Sees.setS {v:V} {s:Sl} (S:Sees K H₀ G δ σ H) (i:Nat) (h:SlIs K G H v s) (hs:∀ ds j es a,s = .own ds->slot δ j = some (.own es)->σ[j]? = some (some (.ref a))->v ≠ .ref a):Sees K H₀ G (put (some s) i δ) (σ.set i (some v)) H:=by
 have look:∀ j u,slot (put (some s) i δ) j = some u->(j = i/\u = s/\(σ.set i (some v))[j]? = some (some v))\/(j ≠ i/\slot δ j = some u/\(σ.set i (some v))[j]? = σ[j]?):=fun j u hj=>by
  rw [jJ] at hj;split at hj
  ·rename_i hc
   obtain ⟨rfl,hl⟩:=hc;cases hj;exact .inl ⟨rfl,rfl,by rw [getElem?_set_self (lt_of_lt_of_le hl S.len)]⟩
  ·rename_i hc
   have hji:j ≠ i:=fun z=>hc ⟨z,by rw [<- z]; exact nL hj⟩;exact .inr ⟨hji,hj,by rw [getElem?_set_ne (Ne.symm hji)]⟩
 refine ⟨S.old,S.sub,by rw [nS,length_set]; exact S.len,fun j u hj=>?_,fun j k xs ys a hj hk e1 e2=>?_⟩
 ·rcases look j u hj with ⟨rfl,rfl,e⟩ | ⟨_,h1,e⟩
  ·exact ⟨v,e,h⟩
  ·rw [e]; exact S.has j u h1
 ·rcases look j _ hj with ⟨rfl,z1,e3⟩ | ⟨n1,h1,e3⟩ <;> rcases look k _ hk with ⟨rfl,z2,e4⟩ | ⟨n2,h2,e4⟩
  ·rfl
  ·rw [e3] at e1; rw [e4] at e2;cases e1;exact absurd rfl (hs xs k ys a z1.symm h2 e2)
  ·rw [e3] at e1; rw [e4] at e2;cases e2;exact absurd rfl (hs ys j xs a z2.symm h1 e1)
  ·rw [e3] at e1; rw [e4] at e2;exact S.sep j k xs ys a h1 h2 e1 e2
theorem Sees.unset (S:Sees K H₀ G δ σ H) (i:Nat):Sees K H₀ G (put none i δ) (σ.set i none) H:=by
 have look:∀ j u,slot (put none i δ) j = some u->j ≠ i/\slot δ j = some u:=fun j u hj=>by
  rw [jJ] at hj;split at hj
  ·cases hj
  ·rename_i hc
   exact ⟨fun z=>hc ⟨z,by rw [<- z]; exact nL hj⟩,hj⟩
 refine ⟨S.old,S.sub,by rw [nS,length_set]; exact S.len,fun j u hj=>?_,fun j k xs ys a hj hk e1 e2=>?_⟩
 ·obtain ⟨n1,h1⟩:=look j u hj;rw [getElem?_set_ne (Ne.symm n1)];exact S.has j u h1
 ·obtain ⟨n1,h1⟩:=look j _ hj;obtain ⟨n2,h2⟩:=look k _ hk;rw [getElem?_set_ne (Ne.symm n1)] at e1;rw [getElem?_set_ne (Ne.symm n2)] at e2;exact S.sep j k xs ys a h1 h2 e1 e2
theorem Sees.setD {v:V} {d:PyData} (S:Sees K H₀ G δ σ H) (i:Nat) (h:DV K G v d):Sees K H₀ G (put (some (.dat d)) i δ) (σ.set i (some v)) H :=
 S.setS i (s:=.dat d) h fun _ _ _ _ z=>nomatch z
theorem Sees.ownAt (S:Sees K H₀ G δ σ H) {i:Nat} {ds:List PyData} (h:slot δ i = some (.own ds)):∃ a vs,σ[i]? = some (some (.ref a))/\G a = none/\H a = some (.lst vs)/\DVs K G vs ds:=by
 obtain ⟨v,h1,a,vs,rfl,h2,h3,h4⟩:=S.has i _ h;exact ⟨a,vs,h1,h2,h3,h4⟩
theorem Sees.setO {a:Addr} {vs:List V} {ds:List PyData} (S:Sees K H₀ G δ σ H) (e:Ext G H G' H') (i:Nat) (hn:H a = none) (hg:G' a = none) (hh:H' a = some (.lst vs)) (hd:DVs K G' vs ds) :
  Sees K H₀ G' (put (some (.own ds)) i δ) (σ.set i (some (.ref a))) H' :=
 (S.ext e).setS i (s:=.own ds) ⟨a,vs,rfl,hg,hh,hd⟩ fun _ j es b _ h1 h2 z=>by
  cases z;obtain ⟨c,ws,q1,q2,q3,q4⟩:=S.ownAt h1;rw [h2] at q1;cases q1;rw [hn] at q3; cases q3
theorem Sees.updO {i:Nat} {a:Addr} {ds es:List PyData} {vs:List V} (S:Sees K H₀ G δ σ H) (h:slot δ i = some (.own ds)) (ha:σ[i]? = some (some (.ref a))) (hd:DVs K G vs es) :
  Sees K H₀ G (put (some (.own es)) i δ) σ (cX H a (.lst vs)):=by
 obtain ⟨b,ws,q1,q2,q3,q4⟩:=S.ownAt h;rw [ha] at q1;cases q1;have look:∀ j u,slot (put (some (.own es)) i δ) j = some u->(j = i/\u = .own es)\/(j ≠ i/\slot δ j = some u):=fun j u hj=>by
  rw [jJ] at hj;split at hj
  ·rename_i hc
   cases hj;exact .inl ⟨hc.1,rfl⟩
  ·rename_i hc
   exact .inr ⟨fun z=>hc ⟨z,by rw [<- z]; exact nL hj⟩,hj⟩
 refine ⟨S.old,fun c=>?_,by rw [nS]; exact S.len,fun j u hj=>?_,fun j k xs ys c hj hk e1 e2=>?_⟩
 ·by_cases z:c = a
  ·subst z;exact .inr ⟨q2,vs,bJ⟩
  ·rw [bD z]; exact S.sub c
 ·rcases look j u hj with ⟨rfl,rfl⟩ | ⟨n1,h1⟩
  ·exact ⟨_,ha,a,vs,rfl,q2,bJ,hd⟩
  ·obtain ⟨v,h2,h3⟩:=S.has j u h1;refine ⟨v,h2,?_⟩;cases u with
   | dat d=>exact h3
   | two xs ys=>exact h3.elim
   | fz as d=>exact h3
   | mon φ=>exact h3
   | exc C=>exact h3
   | own xs =>
    obtain ⟨c,ws,rfl,p1,p2,p3⟩:=h3;refine ⟨c,ws,rfl,p1,?_,p3⟩;rw [bD (fun z=>?_)]
    ·exact p2
    ·subst z;exact n1 (S.sep j i xs ds c h1 h h2 ha)
 ·rcases look j _ hj with ⟨rfl,_⟩ | ⟨n1,h1⟩ <;> rcases look k _ hk with ⟨rfl,_⟩ | ⟨n2,h2⟩
  ·rfl
  ·exact S.sep j k ds ys c h h2 e1 e2
  ·exact S.sep j k xs ds c h1 h e1 e2
  ·exact S.sep j k xs ys c h1 h2 e1 e2
theorem Sees.frz {i:Nat} {ds:List PyData} (S:Sees K H₀ G δ σ H) (h:slot δ i = some (.own ds)):∃ G',Same G G'/\Sees K H₀ G' (put (some (.dat (.list ds))) i δ) σ H:=by
 obtain ⟨a,vs,q1,q2,q3,q4⟩:=S.ownAt h;have sg:Same G (cX G a (.lst vs)):=fun b o e=>by rw [bD (bZ e q2)]; exact e
 refine ⟨cX G a (.lst vs),sg,S.old.trans sg,fun b=>?_,by rw [nS]; exact S.len,fun j u hj=>?_,fun j k xs ys c hj hk e1 e2=>?_⟩
 ·by_cases z:b = a
  ·subst z;exact .inl (by rw [bJ,q3])
  ·rw [bD z]; exact S.sub b
 ·rw [jJ] at hj;split at hj
  ·rename_i hc
   cases hj;exact ⟨_,by rw [hc.1]; exact q1,.lst (SqL.of bJ) (bQ sg q4)⟩
  ·rename_i hc
   have hji:j ≠ i:=fun z=>hc ⟨z,by rw [<- z]; exact nL hj⟩;obtain ⟨v,h2,h3⟩:=S.has j u hj;refine ⟨v,h2,?_⟩;cases u with
   | dat d=>exact cL sg h3
   | two xs ys=>exact h3.elim
   | fz as d=>exact FzIs.same sg h3
   | mon φ=>exact fun G2 s2=>h3 G2 (sg.trans s2)
   | exc C =>
    obtain ⟨x,rfl,hx⟩:=h3;exact ⟨x,rfl,sg _ _ hx⟩
   | own xs =>
    obtain ⟨c,ws,rfl,p1,p2,p3⟩:=h3;refine ⟨c,ws,rfl,?_,p2,bQ sg p3⟩;rw [bD (fun z=>?_)]
    ·exact p1
    ·subst z;exact hji (S.sep j i xs ds c hj h h2 q1)
 ·have look:∀ j u,slot (put (some (.dat (.list ds))) i δ) j = some (.own u)->slot δ j = some (.own u):=fun j u hj=>by
   rw [jJ] at hj;split at hj
   ·cases hj
   ·exact hj
  exact S.sep j k xs ys c (look _ _ hj) (look _ _ hk) e1 e2
end
abbrev DX:=Addr->Prop
abbrev DE:=DX->bW->(PyData->Prop)->Prop
abbrev DL:=DX->bW->(List PyData->Prop)->Prop
abbrev DT:=DX->bW->(Bool->Prop)->Prop
def kY (H₀:Hp) (E:XK) (ex:DX):Prop:=∀ C H',Same H₀ H'->ex C->E (.ref C) none H'
section
variable (K:W.Frag) (H₀:Hp) (E:XK)
def fW (te:TE) (de:DE):Prop:=∀ ex δ σ G H Qd Q,kY H₀ E ex->Sees K H₀ G δ σ H->de ex δ Qd->(∀ v d G' H',Ext G H G' H'->DV K G' v d->Qd d->Q v H')->te σ H Q
def kZ (te:TE) (de:DE):Prop:=∀ ex δ σ G H Qd Q,kY H₀ E ex->Sees K H₀ G δ σ H->de ex δ Qd->(∀ v d G' H',Ext G H G' H'->DV K H' v d->Qd d->Q v H')->te σ H Q
def Rq (te:TE) (dl:DL):Prop:=∀ ex δ σ G H Qd Q,kY H₀ E ex->Sees K H₀ G δ σ H->dl ex δ Qd->(∀ a vs ds G' H',Ext G H G' H'->SqL K H' a vs->DVs K G' vs ds->Qd ds->Q (.ref a) H')->te σ H Q
def xG (te:TE) (dl:DL):Prop:=∀ ex δ σ G H Qd Q,kY H₀ E ex->Sees K H₀ G δ σ H->dl ex δ Qd->(∀ a vs ds G' H',Ext G H G' H'->H a = none->G' a = none->H' a = some (.lst vs)->DVs K G' vs ds->Qd ds->Q (.ref a) H')->te σ H Q
def xF (tt:TT) (dt:DT):Prop:=∀ ex δ σ G H Qd Q,kY H₀ E ex->Sees K H₀ G δ σ H->dt ex δ Qd->(∀ b G' H',Ext G H G' H'->Qd b->Q b H')->tt σ H Q
def xC (ta:TA) (dl:DL):Prop:=∀ ex δ σ G H Qd Q,kY H₀ E ex->Sees K H₀ G δ σ H->dl ex δ Qd->(∀ vs ds G' H',Ext G H G' H'->DVs K H' vs ds->Qd ds->Q vs H')->ta σ H Q
def AvE (ta:TA) (n:Nat) (dl:DL):Prop:=∀ ex δ σ G H Qd Q,kY H₀ E ex->Sees K H₀ G δ σ H->dl ex δ Qd->(∀ vs ds G' H',Ext G H G' H'->DVs K G' vs ds->ds.length = n->Qd ds->Q vs H')->ta σ H Q
end
def Vh (i:Nat) (_ex:DX) (δ:bW) (Q:PyData->Prop):Prop:=match slot δ i with
 | some (.dat d)=>Q d
 | _=>False
def Ev (i:Nat) (_ex:DX) (δ:bW) (Q:PyData->Prop):Prop:=match slot δ i with
 | some (.dat d)=>Q d
 | some (.own ds)=>Q (.list ds)
 | _=>False
def Qg (i:Nat) (_ex:DX) (δ:bW) (Q:List PyData->Prop):Prop:=match slot δ i with
 | some (.dat (.list ds))=>Q ds
 | some (.own ds)=>Q ds
 | _=>False
def dC (d:PyData) (_ex:DX) (_δ:bW) (Q:PyData->Prop):Prop:=Q d
def dFz (dl:DL) (ex:DX) (δ:bW) (Q:PyData->Prop):Prop:=dl ex δ fun ds=>Q (.list ds)
def Vj (de:DE) (ex:DX) (δ:bW) (Q:List PyData->Prop):Prop:=de ex δ fun d=>match d with
 | .list ds=>Q ds
 | _=>False
def Vi (_ex:DX) (_δ:bW) (Q:List PyData->Prop):Prop:=Q []
def Et (de:DE) (dl:DL) (ex:DX) (δ:bW) (Q:List PyData->Prop):Prop:=de ex δ fun d=>dl ex δ fun ds=>Q (d :: ds)
section
variable {K:W.Frag} {H₀:Hp} {E:XK} {te:TE} {de:DE} {dl:DL} {ta:TA}
theorem aB (h:fW K H₀ E te de):kZ K H₀ E te de:=fun ex δ σ G H Qd Q hx S q k =>
 h ex δ σ G H Qd Q hx S q fun v d G' H' e hd=>k v d G' H' e (cL e.s.same hd)
theorem bY (h:xG K H₀ E te dl):fW K H₀ E te (dFz dl):=fun ex δ σ G H Qd Q hx S q k =>
 h ex δ σ G H _ Q hx S q fun a vs ds G' H' e hn hg hh hd qd=>by
  have sg:Same G' (cX G' a (.lst vs)):=fun b o z=>by rw [bD (bZ z hg)]; exact z
  refine k (.ref a) (.list ds) (cX G' a (.lst vs)) H' ⟨e.g.trans sg,e.h,fun b=>?_,fun b o z=>?_⟩ (.lst (SqL.of bJ) (bQ sg hd)) qd
  ·by_cases w:b = a
   ·subst w; exact .inl (by rw [bJ,hh])
   ·rw [bD w]; exact e.s b
  ·by_cases w:b = a
   ·subst w; exact .inr hn
   ·rw [bD w] at z; exact e.n b o z
theorem gA (h:xG K H₀ E te dl):Rq K H₀ E te dl:=fun ex δ σ G H Qd Q hx S q k =>
 h ex δ σ G H _ Q hx S q fun a vs ds G' H' e hn hg hh hd qd=>k a vs ds G' H' e (SqL.of hh) hd qd
theorem eJ {G:Hp} {v:V} {ds:List PyData} (h:DV K G v (.list ds)):∃ a vs,v = .ref a/\SqL K G a vs/\DVs K G vs ds:=by
 cases h with
 | lst h1 h2=>exact ⟨_,_,rfl,h1,h2⟩
theorem oV {G:Hp} {v:V} {ds:List PyData} (h:DV K G v (.tuple ds)):∃ a vs,v = .ref a/\SqT K G a vs/\DVs K G vs ds:=by
 cases h with
 | tup h1 h2=>exact ⟨_,_,rfl,h1,h2⟩
theorem cK {G:Hp} {v:V} {i:Int} (h:DV K G v (.int i)):v = .int i:=by cases h; rfl
theorem kQ {G:Hp} {v:V} {i:Bool} (h:DV K G v (.bool i)):v = .bl i:=by cases h; rfl
theorem cS {G:Hp} {v:V} {i:Str} (h:DV K G v (.str i)):v = .str i:=by cases h; rfl
theorem aIp (h:fW K H₀ E te de):Rq K H₀ E te (Vj de):=fun ex δ σ G H Qd Q hx S q k =>
 h ex δ σ G H _ Q hx S q fun v d G' H' e hd qd=>by
  cases d with
  | list ds =>
   obtain ⟨a,vs,rfl,h1,h2⟩:=eJ hd;exact k a vs ds G' H' e (e.s.same.seq h1) h2 qd
  | _=>exact qd.elim
theorem aV (i:Nat):fW K H₀ E (iG i) (Vh i):=fun ex δ σ G H Qd Q hx S q k=>by
 unfold Vh at q;split at q
 ·rename_i d hs
  obtain ⟨v,h1,h2⟩:=S.has i _ hs;exact ⟨v,h1,k v d G H S.refl h2 q⟩
 ·exact q.elim
theorem aG (i:Nat):kZ K H₀ E (iG i) (Ev i):=fun ex δ σ G H Qd Q hx S q k=>by
 unfold Ev at q;split at q
 ·rename_i d hs
  obtain ⟨v,h1,h2⟩:=S.has i _ hs;exact ⟨v,h1,k v d G H S.refl (cL S.sub.same h2) q⟩
 ·rename_i ds hs
  obtain ⟨a,vs,h1,h2,h3,h4⟩:=S.ownAt hs;exact ⟨_,h1,k _ _ G H S.refl (.lst (SqL.of h3) (bQ S.sub.same h4)) q⟩
 ·exact q.elim
theorem bN (i:Nat):Rq K H₀ E (iG i) (Qg i):=fun ex δ σ G H Qd Q hx S q k=>by
 unfold Qg at q;split at q
 ·rename_i ds hs
  obtain ⟨v,h1,h2⟩:=S.has i _ hs;obtain ⟨a,vs,rfl,h3,h4⟩:=eJ h2;exact ⟨_,h1,k a vs ds G H S.refl (S.sub.same.seq h3) h4 q⟩
 ·rename_i ds hs
  obtain ⟨a,vs,h1,h2,h3,h4⟩:=S.ownAt hs;exact ⟨_,h1,k a vs ds G H S.refl (SqL.of h3) h4 q⟩
 ·exact q.elim
theorem He {v:V} {d:PyData} (h:∀ G:Hp,DV K G v d):fW K H₀ E (tC v) (dC d):=fun ex δ σ G H Qd Q hx S q k=>k v d G H S.refl (h G) q
theorem aP {i:Int}:fW K H₀ E (tC (.int i)) (dC (.int i)):=He fun _=>.int i
theorem kP {i:Bool}:fW K H₀ E (tC (.bl i)) (dC (.bool i)):=He fun _=>.bl i
theorem aI {i:Str}:fW K H₀ E (tC (.str i)) (dC (.str i)):=He fun _=>.str i
theorem aEa:fW K H₀ E (tC .non) (dC .none):=He fun _=>.non
theorem aN:xC K H₀ E jW Vi:=fun ex δ σ G H Qd Q hx S q k=>k [] [] G H S.refl .nil q
theorem aH (h:kZ K H₀ E te de) (t:xC K H₀ E ta dl):xC K H₀ E (eT te ta) (Et de dl):=fun ex δ σ G H Qd Q hx S q k =>
 h ex δ σ G H _ _ hx S q fun v d G1 H1 e1 hd q1=>t ex δ σ G1 H1 _ _ hx (S.ext e1) q1 fun vs ds G2 H2 e2 hds q2 =>
  k (v :: vs) (d :: ds) G2 H2 (e1.trans e2) (.cons (cL e2.h hd) hds) q2
theorem aW:AvE K H₀ E jW 0 Vi:=fun ex δ σ G H Qd Q hx S q k=>k [] [] G H S.refl .nil rfl q
theorem aC {n:Nat} (h:fW K H₀ E te de) (t:AvE K H₀ E ta n dl):AvE K H₀ E (eT te ta) (n + 1) (Et de dl):=fun ex δ σ G H Qd Q hx S q k =>
 h ex δ σ G H _ _ hx S q fun v d G1 H1 e1 hd q1=>t ex δ σ G1 H1 _ _ hx (S.ext e1) q1 fun vs ds G2 H2 e2 hds hn q2 =>
  k (v :: vs) (d :: ds) G2 H2 (e1.trans e2) (.cons (cL e2.g hd) hds) (by rw [length_cons,hn]) q2
theorem qW {G H:Hp} {p:Addr} {xs:List V} (s:Sub G H) (hp:H p = none):Ext G H (cX G p (.tup xs)) (cX H p (.tup xs)):=by
 have hg:G p = none:=s.same.free hp;refine ⟨fun b o z=>by rw [bD (bZ z hg)]; exact z,fun b o z=>by rw [bD (bZ z hp)]; exact z,fun b=>?_,fun b o z=>?_⟩
 ·by_cases w:b = p
  ·subst w; exact .inl (by rw [bJ,bJ])
  ·rw [bD w,bD w]; exact s b
 ·by_cases w:b = p
  ·subst w; exact .inr hp
  ·rw [bD w] at z; exact .inl z
theorem sR {G H:Hp} {p:Addr} {o:HO} (s:Sub G H) (hp:H p = none):Ext G H (cX G p o) (cX H p o):=by
 have hg:G p = none:=s.same.free hp;refine ⟨fun b u z=>by rw [bD (bZ z hg)]; exact z,fun b u z=>by rw [bD (bZ z hp)]; exact z,fun b=>?_,fun b u z=>?_⟩
 ·by_cases w:b = p
  ·subst w; exact .inl (by rw [bJ,bJ])
  ·rw [bD w,bD w]; exact s b
 ·by_cases w:b = p
  ·subst w; exact .inr hp
  ·rw [bD w] at z; exact .inl z
theorem eX {G H:Hp} {p:Addr} {xs:List V} (s:Sub G H) (hp:H p = none):Ext G H G (cX H p (.lst xs))/\G p = none:=by
 have hg:G p = none:=s.same.free hp;refine ⟨⟨Same.refl _,fun b o z=>by rw [bD (bZ z hp)]; exact z,fun b=>?_,fun b o z=>.inl z⟩,hg⟩;by_cases w:b = p
 ·subst w; exact .inr ⟨hg,xs,bJ⟩
 ·rw [bD w]; exact s b
def aJt (dl:DL) (ex:DX) (δ:bW) (Q:PyData->Prop):Prop:=dl ex δ fun ds=>Q (.tuple ds)
def aKc (dl:DL) (ex:DX) (δ:bW) (Q:List PyData->Prop):Prop:=dl ex δ Q
theorem fN {n:Nat} (h:AvE K H₀ E ta n dl) (hn:n<=1000):fW K H₀ E (aGq ta) (aJt dl):=fun ex δ σ G H Qd Q hx S q k =>
 h ex δ σ G H _ _ hx S q fun vs ds G1 H1 e1 hd q0 q1=>⟨le_of_lt (bT (by rw [hd.len,q0]; exact hn)),fun p hp=>by
  have e2:=qW (xs:=vs) e1.s hp
  exact k (.ref p) (.tuple ds) _ _ (e1.trans e2) (.tup (SqT.of bJ) (bQ e2.g hd)) q1⟩
theorem bH {n:Nat} (h:AvE K H₀ E ta n dl) (hn:n<=1000):xG K H₀ E (Za ta) (aKc dl):=fun ex δ σ G H Qd Q hx S q k =>
 h ex δ σ G H _ _ hx S q fun vs ds G1 H1 e1 hd q0 q1=>⟨le_of_lt (bT (by rw [hd.len,q0]; exact hn)),fun p hp=>by
  obtain ⟨e2,hg⟩:=eX (xs:=vs) e1.s hp
  exact k p vs ds _ _ (e1.trans e2) (e1.h.free hp) hg bJ hd q1⟩
end
section
variable {K:W.Frag} {H₀:Hp} {E:XK} {te ta tb:TE} {da db de:DE} {dl dk:DL} {t:TA} {tt tu:TT} {dt du:DT}
abbrev RD2:=PyData->PyData->(PyData->Prop)->Prop
def zV (K:W.Frag) (r:R2) (rd:RD2):Prop:=∀ (G H:Hp) (x y:V) (dx dy:PyData) (Qd:PyData->Prop) (Q:VK),DV K H x dx->DV K H y dy->rd dx dy Qd->(∀ v d,DV K G v d->Qd d->Q v H)->r x y H Q
def dOp (rd:RD2) (da db:DE) (ex:DX) (δ:bW) (Q:PyData->Prop):Prop:=da ex δ fun x=>db ex δ fun y=>rd x y Q
theorem aQ {r:R2} {rd:RD2} (hr:zV K r rd) (ha:kZ K H₀ E ta da) (hb:kZ K H₀ E tb db):fW K H₀ E (xD r ta tb) (dOp rd da db):=fun ex δ σ G H Qd Q hx S q k =>
 ha ex δ σ G H _ _ hx S q fun x dx G1 H1 e1 h1 q1=>hb ex δ σ G1 H1 _ _ hx (S.ext e1) q1 fun y dy G2 H2 e2 h2 q2 =>
  hr G2 H2 x y dx dy Qd Q (cL e2.h h1) h2 q2 fun v d hv qd=>k v d G2 H2 (e1.trans e2) hv qd
def oI (C:Int->Int->Prop) (f:Int->Int->Int) (x y:PyData) (Q:PyData->Prop):Prop:=match x,y with
 | .int i,.int j=>C i j/\Q (.int (f i j))
 | _,_=>False
def oI0 (f:Int->Int->Int) (x y:PyData) (Q:PyData->Prop):Prop:=match x,y with
 | .int i,.int j=>Q (.int (f i j))
 | _,_=>False
def oB0 (f:Int->Int->Bool) (x y:PyData) (Q:PyData->Prop):Prop:=match x,y with
 | .int i,.int j=>Q (.bool (f i j))
 | _,_=>False
theorem gP {C:Int->Int->Prop} {f:Int->Int->Int}:zV K (rI C fun i j=>.int (f i j)) (oI C f):=by
 intro G H x y dx dy Qd Q hx hy q k;unfold oI at q;split at q
 ·cases cK hx; cases cK hy;exact ⟨_,_,rfl,rfl,q.1,k _ _ (.int _) q.2⟩
 ·exact q.elim
theorem eU {f:Int->Int->Int}:zV K (Mu fun i j=>.int (f i j)) (oI0 f):=by
 intro G H x y dx dy Qd Q hx hy q k;unfold oI0 at q;split at q
 ·cases cK hx; cases cK hy;exact ⟨_,_,rfl,rfl,k _ _ (.int _) q⟩
 ·exact q.elim
theorem fX {f:Int->Int->Bool}:zV K (Mu fun i j=>.bl (f i j)) (oB0 f):=by
 intro G H x y dx dy Qd Q hx hy q k;unfold oB0 at q;split at q
 ·cases cK hx; cases cK hy;exact ⟨_,_,rfl,rfl,k _ _ (.bl _) q⟩
 ·exact q.elim
def oEq (x y:PyData) (Q:PyData->Prop):Prop:=match x,y with
 | .int i,.int j=>Q (.bool (decide (i = j)))
 | .str i,.str j=>Q (.bool (decide (i = j)))
 | .bool i,.bool j=>Q (.bool (decide (i = j)))
 | _,_=>False
def oNe (x y:PyData) (Q:PyData->Prop):Prop:=match x,y with
 | .int i,.int j=>Q (.bool (!decide (i = j)))
 | .str i,.str j=>Q (.bool (!decide (i = j)))
 | .bool i,.bool j=>Q (.bool (!decide (i = j)))
 | _,_=>False
theorem cY:zV K rEq oEq:=by
 intro G H x y dx dy Qd Q hx hy q k;unfold oEq at q;split at q
 ·cases cK hx; cases cK hy;refine ⟨rfl,k _ _ (.bl _) ?_⟩;simpa using q
 ·cases cS hx; cases cS hy;refine ⟨rfl,k _ _ (.bl _) ?_⟩;simpa using q
 ·cases kQ hx; cases kQ hy;refine ⟨rfl,k _ _ (.bl _) ?_⟩;simpa using q
 ·exact q.elim
theorem Lw:zV K rNe oNe:=by
 intro G H x y dx dy Qd Q hx hy q k;unfold oNe at q;split at q
 ·cases cK hx; cases cK hy;refine ⟨rfl,k _ _ (.bl _) ?_⟩;simpa using q
 ·cases cS hx; cases cS hy;refine ⟨rfl,k _ _ (.bl _) ?_⟩;simpa using q
 ·cases kQ hx; cases kQ hy;refine ⟨rfl,k _ _ (.bl _) ?_⟩;simpa using q
 ·exact q.elim
def aMk (x y:PyData) (Q:PyData->Prop):Prop:=∃ (α:Type) (e:Enc α) (a b:α),x = e.d a/\y = e.d b/\∀ k:Bool,(k = true ↔ a = b)->Q (.bool k)
def aMg (x y:PyData) (Q:PyData->Prop):Prop:=∃ (α:Type) (e:Enc α) (a b:α),x = e.d a/\y = e.d b/\∀ k:Bool,(k = true ↔ a = b)->Q (.bool !k)
theorem Mb:zV K (Fw K false) aMk:=by
 rintro G H x y dx dy Qd Q hx hy ⟨α,e,a,b,rfl,rfl,q⟩ k;exact ⟨α,e,a,b,hx,hy,fun c hc=>k _ _ (.bl _) (q c hc)⟩
theorem aBa:zV K (Fw K true) aMg:=by
 rintro G H x y dx dy Qd Q hx hy ⟨α,e,a,b,rfl,rfl,q⟩ k;exact ⟨α,e,a,b,hx,hy,fun c hc=>k _ _ (.bl _) (q c hc)⟩
def aMi (x y:PyData) (Q:PyData->Prop):Prop:=∃ (α:Type) (e:Enc α) (a:α) (bs:List α),x = e.d a/\y = .list (bs.map e.d)/\∀ k:Bool,(k = true ↔ a∈bs)->Q (.bool k)
theorem Ma:zV K (aBg K false) aMi:=by
 rintro G H x y dx dy Qd Q hx hy ⟨α,e,a,bs,rfl,rfl,q⟩ k;exact ⟨α,e,a,bs,hx,hy,fun c hc=>k _ _ (.bl _) (q c hc)⟩
def aKb (da:DE) (ex:DX) (δ:bW) (Q:PyData->Prop):Prop:=da ex δ fun x=>match x with
 | .int i=>Q (.int (-i))
 | _=>False
theorem wN (ha:kZ K H₀ E ta da):fW K H₀ E (tUn (rU fun i=>.int (-i)) ta) (aKb da):=fun ex δ σ G H Qd Q hx S q k =>
 ha ex δ σ G H _ _ hx S q fun x dx G1 H1 e1 h1 q1=>by
  cases dx with
  | int i =>
   cases cK h1;exact ⟨_,rfl,k _ _ G1 H1 e1 (.int _) q1⟩
  | _=>exact q1.elim
theorem Uz {v:Int} (h:fW K H₀ E te de) (hk:∀ ex δ Q,Q (.int v)->de ex δ Q):fW K H₀ E te (dC (.int v)):=fun ex δ σ G H Qd Q hx S q k=>h ex δ σ G H Qd Q hx S (hk ex δ Qd q) k
def aEl (f:Int->Int) (da:DE) (ex:DX) (δ:bW) (Q:PyData->Prop):Prop:=da ex δ fun x=>match x with
 | .int i=>Q (.int (f i))
 | _=>False
theorem iN {k:Int} (hk:Fe 0 k) (ha:kZ K H₀ E ta da) (hb:fW K H₀ E tb (dC (.int k))):fW K H₀ E (xD (rI Fe fun i j=>.int (i / j)) ta tb) (aEl (fun i=>i / k) da):=fun ex δ σ G H Qd Q hx S q k' =>
 ha ex δ σ G H _ _ hx S q fun x dx G1 H1 e1 h1 q1=>hb ex δ σ G1 H1 (fun d=>d = .int k) _ hx (S.ext e1) rfl fun y dy G2 H2 e2 h2 hy=>by
  subst hy;cases cK h2;cases dx with
  | int i=>cases cK h1; exact ⟨_,_,rfl,rfl,hk,k' _ _ G2 H2 (e1.trans e2) (.int _) q1⟩
  | _=>exact q1.elim
theorem cV {k:Int} (hk:0 < k) (ha:kZ K H₀ E ta da) (hb:fW K H₀ E tb (dC (.int k))):fW K H₀ E (xD (rI (fun _ j=>0 < j) fun i j=>.int (i % j)) ta tb) (aEl (fun i=>i % k) da):=fun ex δ σ G H Qd Q hx S q k' =>
 ha ex δ σ G H _ _ hx S q fun x dx G1 H1 e1 h1 q1=>hb ex δ σ G1 H1 (fun d=>d = .int k) _ hx (S.ext e1) rfl fun y dy G2 H2 e2 h2 hy=>by
  subst hy;cases cK h2;cases dx with
  | int i=>cases cK h1; exact ⟨_,_,rfl,rfl,hk,k' _ _ G2 H2 (e1.trans e2) (.int _) q1⟩
  | _=>exact q1.elim
def aKe (dl:DL) (db:DE) (ex:DX) (δ:bW) (Q:PyData->Prop):Prop:=dl ex δ fun ds=>db ex δ fun y=>match y with
 | .int i=>∃ d,lA ds i = some d/\Q d
 | _=>False
theorem wO {G:Hp} {vs:List V} {ds:List PyData} {i:Int} {d:PyData} (h:DVs K G vs ds) (e:lA ds i = some d):∃ v,lA vs i = some v/\DV K G v d:=by
 unfold lA at e ⊢;rw [h.len];cases q:Hv ds.length i with
 | none=>rw [q] at e; cases e
 | some j =>
  rw [q] at e;exact h.at e
theorem cB (ha:Rq K H₀ E ta dl) (hb:kZ K H₀ E tb db):fW K H₀ E (xD (Tg K) ta tb) (aKe dl db):=fun ex δ σ G H Qd Q hx S q k =>
 ha ex δ σ G H _ _ hx S q fun a vs ds G1 H1 e1 h1 h2 q1=>hb ex δ σ G1 H1 _ _ hx (S.ext e1) q1 fun y dy G2 H2 e2 h3 q2=>by
  cases dy with
  | int i =>
   obtain ⟨d,z,q2⟩:=q2;cases cK h3;obtain ⟨v,z1,z2⟩:=wO h2 z;exact ⟨a,vs,i,v,rfl,rfl,e2.h.seq h1,z1,k v d G2 H2 (e1.trans e2) (cL e2.g z2) q2⟩
  | _=>exact q2.elim
def nth:List PyData->Nat->Option PyData
 | [],_=>none
 | d :: _,0=>some d
 | _ :: ds,n + 1=>nth ds n
theorem Au:∀ {ds:List PyData} {k:Nat} {d:PyData},nth ds k = some d->ds[k]? = some d
 | [],_,_,h=>by cases h
 | d :: _,0,_,h=>by simpa [nth] using h
 | _ :: ds,k + 1,d,h=>by simpa using Au (ds:=ds) (k:=k) (d:=d) h
def aKf (k:Nat) (da:DE) (ex:DX) (δ:bW) (Q:PyData->Prop):Prop:=da ex δ fun x=>match x with
 | .tuple ds=>(match nth ds k with
  | some d=>Q d
  | none=>False)
 | _=>False
theorem bR (m:Nat) (ha:fW K H₀ E ta da):fW K H₀ E (xD (Mt K) ta (tC (.int (m:Int)))) (aKf m da):=fun ex δ σ G H Qd Q hx S q k =>
 ha ex δ σ G H _ _ hx S q fun x dx G1 H1 e1 h1 q1=>by
  cases dx with
  | tuple ds =>
   dsimp only at q1;split at q1
   ·rename_i d z
    obtain ⟨a,vs,rfl,h2,h3⟩:=oV h1;obtain ⟨v,z1,z2⟩:=wO h3 (cW (Au z));exact ⟨a,vs,_,v,rfl,rfl,lG e1.s.same h2,z1,k v _ G1 H1 e1 z2 q1⟩
   ·exact q1.elim
  | _=>exact q1.elim
abbrev RDc:=List PyData->(PyData->Prop)->Prop
def Rp (K:W.Frag) (r:List V->Hp->VK->Prop) (rd:RDc):Prop:=∀ (G H:Hp) (xs:List V) (ds:List PyData) (Qd:PyData->Prop) (Q:VK),DVs K H xs ds->rd ds Qd->(∀ v d,DV K G v d->Qd d->Q v H)->r xs H Q
def dCb (rd:RDc) (dl:DL) (ex:DX) (δ:bW) (Q:PyData->Prop):Prop:=dl ex δ fun ds=>rd ds Q
theorem cI {r:List V->Hp->VK->Prop} {rd:RDc} (hr:Rp K r rd) (ha:xC K H₀ E t dl):fW K H₀ E (Zb r t) (dCb rd dl):=fun ex δ σ G H Qd Q hx S q k =>
 ha ex δ σ G H _ _ hx S q fun vs ds G1 H1 e1 h1 q1=>hr G1 H1 vs ds Qd Q h1 q1 fun v d hv qd=>k v d G1 H1 e1 hv qd
def aFb (ds:List PyData) (Q:PyData->Prop):Prop:=match ds with
 | [.int i]=>Q (.int (if i < 0 then -i else i))
 | _=>False
def aEw (ds:List PyData) (Q:PyData->Prop):Prop:=match ds with
 | [.int i,.int j]=>Q (.int (if j < i then j else i))
 | _=>False
def aEx (ds:List PyData) (Q:PyData->Prop):Prop:=match ds with
 | [.int i,.int j]=>Q (.int (if j > i then j else i))
 | _=>False
def aEy (ds:List PyData) (Q:PyData->Prop):Prop:=match ds with
 | [.list xs]=>Q (.int xs.length)
 | [.tuple xs]=>Q (.int xs.length)
 | _=>False
def aEz (ds:List PyData) (Q:PyData->Prop):Prop:=match ds with
 | [.int i]=>Q (.int i)
 | [.bool b]=>Q (.int (if b then 1 else 0))
 | _=>False
theorem tL {H:Hp} {xs:List V} {d:PyData} (h:DVs K H xs [d]):∃ x,xs = [x]/\DV K H x d:=by
 cases h with
 | cons h t=>cases t; exact ⟨_,rfl,h⟩
theorem aJj {H:Hp} {xs:List V} {d e:PyData} (h:DVs K H xs [d,e]):∃ x y,xs = [x,y]/\DV K H x d/\DV K H y e:=by
 cases h with
 | cons h t=>cases t with
  | cons h2 t=>cases t; exact ⟨_,_,rfl,h,h2⟩
theorem vS:Rp K (fun xs H Q=>∃ i,xs = [.int i]/\Q (.int (if i < 0 then -i else i)) H) aFb:=by
 intro G H xs ds Qd Q h q k;unfold aFb at q;split at q
 ·obtain ⟨x,rfl,hx⟩:=tL h;cases cK hx;exact ⟨_,rfl,k _ _ (.int _) q⟩
 ·exact q.elim
theorem Mm:Rp K (fun xs H Q=>∃ i j,xs = [.int i,.int j]/\Q (.int (if j < i then j else i)) H) aEw:=by
 intro G H xs ds Qd Q h q k;unfold aEw at q;split at q
 ·obtain ⟨x,y,rfl,hx,hy⟩:=aJj h;cases cK hx; cases cK hy;exact ⟨_,_,rfl,k _ _ (.int _) q⟩
 ·exact q.elim
theorem aBd:Rp K (fun xs H Q=>∃ i j,xs = [.int i,.int j]/\Q (.int (if j > i then j else i)) H) aEx:=by
 intro G H xs ds Qd Q h q k;unfold aEx at q;split at q
 ·obtain ⟨x,y,rfl,hx,hy⟩:=aJj h;cases cK hx; cases cK hy;exact ⟨_,_,rfl,k _ _ (.int _) q⟩
 ·exact q.elim
theorem eV:Rp K (fun xs H Q=>∃ p ys,xs = [.ref p]/\(SqL K H p ys\/SqT K H p ys)/\Q (.int ys.length) H) aEy:=by
 intro G H xs ds Qd Q h q k;unfold aEy at q;split at q
 ·obtain ⟨x,rfl,hx⟩:=tL h;obtain ⟨a,vs,rfl,h1,h2⟩:=eJ hx;exact ⟨a,vs,rfl,.inl h1,k _ _ (.int _) (by rw [h2.len]; exact q)⟩
 ·obtain ⟨x,rfl,hx⟩:=tL h;obtain ⟨a,vs,rfl,h1,h2⟩:=oV hx;exact ⟨a,vs,rfl,.inr h1,k _ _ (.int _) (by rw [h2.len]; exact q)⟩
 ·exact q.elim
theorem aBe:Rp K (fun xs H Q=>(∃ i,xs = [.int i]/\Q (.int i) H)\/∃ k,xs = [.bl k]/\Q (.int (if k then 1 else 0)) H) aEz:=by
 intro G H xs ds Qd Q h q k;unfold aEz at q;split at q
 ·obtain ⟨x,rfl,hx⟩:=tL h;cases cK hx;exact .inl ⟨_,rfl,k _ _ (.int _) q⟩
 ·obtain ⟨x,rfl,hx⟩:=tL h;cases kQ hx;exact .inr ⟨_,rfl,k _ _ (.int _) q⟩
 ·exact q.elim
def Es (dl:DL) (ex:DX) (δ:bW) (Q:List PyData->Prop):Prop:=dl ex δ Q
theorem Tt {te:TE} (ha:Rq K H₀ E te dl):xG K H₀ E (Zb (fun xs H Q=>∃ p ys,xs = [.ref p]/\(SqL K H p ys\/SqT K H p ys)/\∀ l,H l = none->Q (.ref l) (cX H l (.lst ys))) (eT te jW)) (Es dl):=fun ex δ σ G H Qd Q hx S q k =>
 ha ex δ σ G H _ _ hx S q fun a vs ds G1 H1 e1 h1 h2 q1=>⟨a,vs,rfl,.inl h1,fun p hp=>by
  obtain ⟨e2,hg⟩:=eX (xs:=vs) e1.s hp
  exact k p vs ds _ _ (e1.trans e2) (e1.h.free hp) hg bJ h2 q1⟩
def Bv:PyData->String
 | .none=>"NoneType"
 | .bool _=>"bool"
 | .int _=>"int"
 | .str _=>"str"
 | .list _=>"list"
 | .tuple _=>"tuple"
 | .dict _=>"dict"
def isD (n:String) (d:PyData):Bool:=Bv d == n || (n == "int" && Bv d == "bool")
abbrev DO:=DX->bW->(Option Int->Prop)->Prop
def OvP (K:W.Frag) (H₀:Hp) (E:XK) (to:TO) (d:DO):Prop:=∀ ex δ σ G H Qd Q,kY H₀ E ex->Sees K H₀ G δ σ H->d ex δ Qd->(∀ o G' H',Ext G H G' H'->Qd o->Q o H')->to σ H Q
def aKa (_ex:DX) (_δ:bW) (Q:Option Int->Prop):Prop:=Q none
def Xj (de:DE) (ex:DX) (δ:bW) (Q:Option Int->Prop):Prop:=de ex δ fun x=>match x with
 | .int i=>Q (some i)
 | _=>False
theorem mF:OvP K H₀ E Bz aKa:=fun ex δ σ G H Qd Q hx S q k=>k none G H S.refl q
theorem eR (h:kZ K H₀ E te de):OvP K H₀ E (Vy te) (Xj de):=fun ex δ σ G H Qd Q hx S q k =>
 h ex δ σ G H _ _ hx S q fun x dx G1 H1 e1 h1 q1=>by
  cases dx with
  | int i =>
   cases cK h1;exact ⟨_,rfl,k _ G1 H1 e1 q1⟩
  | _=>exact q1.elim
def lU {α:Type} (xs:List α) (lo hi:Option Int):List α:=(xs.drop (HT.sIx xs.length 0 lo)).take (HT.sIx xs.length xs.length hi - HT.sIx xs.length 0 lo)
theorem rA {α:Type} (xs:List α) (k:Nat):lU xs none (some (k:Int)) = xs.take k:=by
 unfold lU;rw [HT.sIx_none,drop_zero,sub_zero,HT.sIx_nat,List.take_eq_take_iff.mpr];omega
theorem wS {α:Type} (xs:List α) (k:Nat):lU xs (some (k:Int)) none = xs.drop k:=by
 unfold lU;rw [HT.sIx_none,HT.sIx_nat];by_cases h:k<=xs.length
 ·rw [Nat.min_eq_left h,take_of_length_le (by rw [length_drop]; omega)]
 ·have e:min k xs.length = xs.length:=by omega
  rw [e,List.drop_length,List.take_nil,List.drop_eq_nil_of_le (by omega)]
def dSl (dl:DL) (d1 d2:DO) (ex:DX) (δ:bW) (Q:List PyData->Prop):Prop:=dl ex δ fun ds=>d1 ex δ fun lo=>d2 ex δ fun hi=>Q (lU ds lo hi)
theorem Vc {G:Hp} {vs:List V} {ds:List PyData} {lo hi:Option Int} (h:DVs K G vs ds):DVs K G (Bn vs lo hi) (lU ds lo hi):=by
 unfold Bn lU;rw [h.len];exact (h.drop _).take _
theorem mE {t1 t2:TO} {d1 d2:DO} (ha:Rq K H₀ E te dl) (h1:OvP K H₀ E t1 d1) (h2:OvP K H₀ E t2 d2):xG K H₀ E (tSl (aBf K) te t1 t2) (dSl dl d1 d2):=fun ex δ σ G H Qd Q hx S q k =>
 ha ex δ σ G H _ _ hx S q fun a vs ds G1 H1 e1 g1 g2 q1=>h1 ex δ σ G1 H1 _ _ hx (S.ext e1) q1 fun lo G2 H2 e2 q2=>h2 ex δ σ G2 H2 _ _ hx (S.ext (e1.trans e2)) q2 fun hi G3 H3 e3 q3 =>
  ⟨a,vs,rfl,(e2.trans e3).h.seq g1,fun p hp=>by
   obtain ⟨e4,hg⟩:=eX (xs:=Bn vs lo hi) e3.s hp
   have e0:=e1.trans (e2.trans e3)
   exact k p _ _ _ _ (e0.trans e4) (e0.h.free hp) hg bJ (bQ (e2.trans e3).g (Vc g2)) q3⟩
def aEq (de:DE) (ex:DX) (δ:bW) (Q:Bool->Prop):Prop:=de ex δ fun x=>match x with
 | .bool b=>Q b
 | _=>False
theorem tF (h:kZ K H₀ E te de):xF K H₀ E (tB te) (aEq de):=fun ex δ σ G H Qd Q hx S q k =>
 h ex δ σ G H _ _ hx S q fun x dx G1 H1 e1 h1 q1=>by
  cases dx with
  | bool i =>
   cases kQ h1;exact ⟨_,rfl,k _ G1 H1 e1 q1⟩
  | _=>exact q1.elim
theorem bB (h:kZ K H₀ E te de):xF K H₀ E (Jc te) (aEq de):=fun ex δ σ G H Qd Q hx S q k =>
 h ex δ σ G H _ _ hx S q fun x dx G1 H1 e1 h1 q1=>by
  cases dx with
  | bool i =>
   cases kQ h1;exact ⟨_,rfl,k _ G1 H1 e1 q1⟩
  | _=>exact q1.elim
def aKm (dt du:DT) (ex:DX) (δ:bW) (Q:Bool->Prop):Prop:=dt ex δ fun b=>if b = true then du ex δ Q else Q false
def dOr (dt du:DT) (ex:DX) (δ:bW) (Q:Bool->Prop):Prop:=dt ex δ fun b=>if b = true then Q true else du ex δ Q
def aJy (dt:DT) (ex:DX) (δ:bW) (Q:Bool->Prop):Prop:=dt ex δ fun b=>Q (!b)
theorem zX (h1:xF K H₀ E tt dt) (h2:xF K H₀ E tu du):xF K H₀ E (aGt tt tu) (aKm dt du):=fun ex δ σ G H Qd Q hx S q k =>
 h1 ex δ σ G H _ _ hx S q fun b G1 H1 e1 q1=>by
  cases b with
  | true=>exact h2 ex δ σ G1 H1 _ _ hx (S.ext e1) q1 fun c G2 H2 e2 q2=>k c G2 H2 (e1.trans e2) q2
  | false=>exact k false G1 H1 e1 q1
theorem nJ (h1:xF K H₀ E tt dt) (h2:xF K H₀ E tu du):xF K H₀ E (tOr tt tu) (dOr dt du):=fun ex δ σ G H Qd Q hx S q k =>
 h1 ex δ σ G H _ _ hx S q fun b G1 H1 e1 q1=>by
  cases b with
  | false=>exact h2 ex δ σ G1 H1 _ _ hx (S.ext e1) q1 fun c G2 H2 e2 q2=>k c G2 H2 (e1.trans e2) q2
  | true=>exact k true G1 H1 e1 q1
theorem mP (h1:xF K H₀ E tt dt):xF K H₀ E (Yz tt) (aJy dt):=fun ex δ σ G H Qd Q hx S q k =>
 h1 ex δ σ G H _ _ hx S q fun b G1 H1 e1 q1=>k _ G1 H1 e1 q1
def Xv (da db:DE) (ex:DX) (δ:bW) (Q:PyData->Prop):Prop:=da ex δ fun x=>match x with
 | .bool b=>if b = true then db ex δ Q else Q (.bool false)
 | _=>False
def Xk (da:DE) (ex:DX) (δ:bW) (Q:PyData->Prop):Prop:=da ex δ fun x=>match x with
 | .bool b=>Q (.bool (!b))
 | _=>False
theorem Bk (ha:kZ K H₀ E ta da) (hb:fW K H₀ E tb db):fW K H₀ E (Wc ta tb) (Xv da db):=fun ex δ σ G H Qd Q hx S q k =>
 ha ex δ σ G H _ _ hx S q fun x dx G1 H1 e1 h1 q1=>by
  cases dx with
  | bool i =>
   cases kQ h1;refine ⟨_,rfl,?_⟩;cases i with
   | true=>exact hb ex δ σ G1 H1 _ _ hx (S.ext e1) q1 fun v d G2 H2 e2 hd q2=>k v d G2 H2 (e1.trans e2) hd q2
   | false=>exact k _ _ G1 H1 e1 (.bl _) q1
  | _=>exact q1.elim
theorem aDz (ha:kZ K H₀ E ta da):fW K H₀ E (Vz ta) (Xk da):=fun ex δ σ G H Qd Q hx S q k =>
 ha ex δ σ G H _ _ hx S q fun x dx G1 H1 e1 h1 q1=>by
  cases dx with
  | bool i =>
   cases kQ h1;exact ⟨_,rfl,k _ _ G1 H1 e1 (.bl _) q1⟩
  | _=>exact q1.elim
def aKi (dt:DT) (da db:DE) (ex:DX) (δ:bW) (Q:PyData->Prop):Prop:=dt ex δ fun b=>if b = true then da ex δ Q else db ex δ Q
theorem aJf (ht:xF K H₀ E tt dt) (ha:fW K H₀ E ta da) (hb:fW K H₀ E tb db):fW K H₀ E (tIf tt ta tb) (aKi dt da db):=fun ex δ σ G H Qd Q hx S q k =>
 ht ex δ σ G H _ _ hx S q fun b G1 H1 e1 q1=>by
  cases b with
  | true=>exact ha ex δ σ G1 H1 _ _ hx (S.ext e1) q1 fun v d G2 H2 e2 hd q2=>k v d G2 H2 (e1.trans e2) hd q2
  | false=>exact hb ex δ σ G1 H1 _ _ hx (S.ext e1) q1 fun v d G2 H2 e2 hd q2=>k v d G2 H2 (e1.trans e2) hd q2
abbrev DW:=List PyData->(Sl->Prop)->DX->Prop
def rm (H:Hp) (a:Addr):Hp:=fun b=>if b = a then none else H b
def mM (K:W.Frag) (H H':Hp) (v:V):Sl->Prop
 | .dat d=>DV K H' v d
 | .own ds=>∃ a vs,v = .ref a/\H a = none/\H' a = some (.lst vs)/\DVs K (rm H' a) vs ds
 | .exc _=>False
 | .mon _=>False
 | .fz as d=>(∀ c∈as,H c = none)/\3<=as.length/\FzIs K H' v as d
 | .two xs ys=>∃ t a b vs ws,v = .ref t/\SqT K H' t [.ref a,.ref b]/\a ≠ b/\H a = none/\H b = none/\H' a = some (.lst vs)/\H' b = some (.lst ws)/\DVs K (rm (rm H' a) b) vs xs/\DVs K (rm (rm H' a) b) ws ys
def fO (K:W.Frag) (w:DW):Sp:=fun vs H Q E=>∃ ds Qd Ed,DVs K H vs ds/\w ds Qd Ed/\(∀ v s H',Same H H'->mM K H H' v s->Qd s->Q v H')/\(∀ C H',Same H H'->Ed C->E (.ref C) none H')
def zE (G H H':Hp):Hp:=fun b=>match H b with
 | none=>H' b
 | some _=>G b
theorem oR {G H H':Hp} (s:Sub G H) (h:Same H H'):Ext G H (zE G H H') H':=by
 refine ⟨fun b o z=>?_,h,fun b=>?_,fun b o z=>?_⟩
 ·unfold zE;rw [s.same b o z];exact z
 ·unfold zE;cases q:H b with
  | none=>exact .inl rfl
  | some o =>
   dsimp only;rw [h b o q];have:=s b;rw [q] at this;exact this
 ·unfold zE at z;cases q:H b with
  | none=>exact .inr rfl
  | some u=>rw [q] at z; exact .inl z
theorem pX {G H H':Hp} (s:Sub G H) (h:Same H H'):∀ b o,H' b = some o->(∀ xs,o ≠ .lst xs)->zE G H H' b = some o:=fun b o e n=>by
 unfold zE;cases q:H b with
 | none=>exact e
 | some u =>
  dsimp only;have:=h b u q;rw [e] at this;cases this;exact s.other q n
def sP:(PyData->Prop)->Sl->Prop
 | Q,.dat d=>oQ d = true/\Q d
 | Q,.own ds=>fM ds = true/\Q (.list ds)
 | _,.exc _=>False
 | _,.mon _=>False
 | _,.fz _ _=>False
 | _,.two _ _=>False
def Ts:(List PyData->Prop)->Sl->Prop
 | _,.dat _=>False
 | Q,.own ds=>fM ds = true/\Q ds
 | _,.exc _=>False
 | _,.mon _=>False
 | _,.fz _ _=>False
 | _,.two _ _=>False
def mC:(PyData->Prop)->Sl->Prop
 | Q,.dat d=>Q d
 | Q,.own ds=>Q (.list ds)
 | _,.exc _=>False
 | _,.mon _=>False
 | Q,.fz _ d=>Q d
 | Q,.two xs ys=>Q (.tuple [.list xs,.list ys])
def Xu (w:DW) (dl:DL) (ex:DX) (δ:bW) (Q:PyData->Prop):Prop:=dl ex δ fun ds=>w ds (sP Q) ex
def Qn (w:DW) (dl:DL) (ex:DX) (δ:bW) (Q:PyData->Prop):Prop:=dl ex δ fun ds=>w ds (sP Q) fun _=>False
def Qm (w:DW) (dl:DL) (ex:DX) (δ:bW) (Q:List PyData->Prop):Prop:=dl ex δ fun ds=>w ds (Ts Q) ex
def Eu (w:DW) (dl:DL) (ex:DX) (δ:bW) (Q:List PyData->Prop):Prop:=dl ex δ fun ds=>w ds (Ts Q) fun _=>False
theorem gT {H₀:Hp} {E:XK}:kY H₀ E fun _=>False:=fun _ _ _ z=>z.elim
theorem yI {G H H':Hp} {v:V} {s:Sl} {Q:PyData->Prop} (hs:Sub G H) (h:Same H H') (r:mM K H H' v s) (q:sP Q s):∃ d G',Ext G H G' H'/\DV K G' v d/\Q d:=by
 cases s with
 | exc C=>exact r.elim
 | mon φ=>exact r.elim
 | fz _ _=>exact q.elim
 | two xs ys=>exact q.elim
 | dat d=>exact ⟨d,_,oR hs h,Eh (pX hs h) r q.1,q.2⟩
 | own ds =>
  obtain ⟨a,vs,rfl,hn,hh,hd⟩:=r
  have hd1:DVs K H' vs ds:=bQ (fun b o z=>by
   unfold rm at z
   split at z
   ·cases z
   ·exact z) hd
  refine ⟨.list ds,_,oR hs h,.lst (SqL.of ?_) (oU (pX hs h) hd1 q.1),q.2⟩;unfold zE;rw [hn];exact hh
theorem Cr {G H H':Hp} {v:V} {s:Sl} {Q:List PyData->Prop} (hs:Sub G H) (h:Same H H') (r:mM K H H' v s) (q:Ts Q s) :
  ∃ a vs ds G',v = .ref a/\Ext G H G' H'/\H a = none/\G' a = none/\H' a = some (.lst vs)/\DVs K G' vs ds/\Q ds:=by
 cases s with
 | exc C=>exact r.elim
 | mon φ=>exact r.elim
 | fz _ _=>exact q.elim
 | two xs ys=>exact q.elim
 | dat d=>exact q.elim
 | own ds =>
  obtain ⟨a,vs,rfl,hn,hh,hd⟩:=r;have e:=oR hs h;have hg:G a = none:=hs.same.free hn;refine ⟨a,vs,ds,rm (zE G H H') a,rfl,⟨fun b o z=>?_,h,fun b=>?_,fun b o z=>?_⟩,hn,by unfold rm; rw [if_pos rfl],hh,oU (fun b o z n=>?_) hd q.1,q.2⟩
  ·unfold rm;rw [if_neg (bZ z hg)];exact e.g b o z
  ·unfold rm;split
   ·rename_i z; subst z
    exact .inr ⟨rfl,vs,hh⟩
   ·exact e.s b
  ·unfold rm at z;split at z
   ·cases z
   ·exact e.n b o z
  ·unfold rm at z ⊢;split at z
   ·cases z
   ·rename_i hb
    rw [if_neg hb];exact pX hs h b o z n
theorem Md {H:Hp} {a b:Addr}:Same (rm (rm H a) b) H:=fun c o z=>by
 unfold rm at z;split at z
 ·cases z
 ·split at z
  ·cases z
  ·exact z
theorem gK {H H':Hp} {v:V} {s:Sl} {Q:PyData->Prop} (r:mM K H H' v s) (q:mC Q s):∃ d,DV K H' v d/\Q d:=by
 cases s with
 | exc C=>exact r.elim
 | mon φ=>exact r.elim
 | fz as d=>exact ⟨d,r.2.2.dv,q⟩
 | two xs ys =>
  obtain ⟨t,a,b,vs,ws,rfl,ht,hab,ha,hb,hh,hk,hd,he⟩:=r;have sm:Same (rm (rm H' a) b) H':=Md;exact ⟨.tuple [.list xs,.list ys],.tup ht (.cons (.lst (SqL.of hh) (bQ sm hd)) (.cons (.lst (SqL.of hk) (bQ sm he)) .nil)),q⟩
 | dat d=>exact ⟨d,r,q⟩
 | own ds =>
  obtain ⟨a,vs,rfl,hn,hh,hd⟩:=r
  exact ⟨.list ds,.lst (SqL.of hh) (bQ (fun b o z=>by
   unfold rm at z
   split at z
   ·cases z
   ·exact z) hd),q⟩
section
variable {w:DW}
theorem oY {E':XK} {ex:DX} {δ:bW} {σ:L2.St} {G H:Hp} {Q:VK} {QS:Sl->Prop} (ha:xC K H₀ E t dl) (hx:kY H₀ E ex) (hx':∀ ex',ex' = ex\/ex' = (fun _=>False)->kY H₀ E' ex'\/True) (S:Sees K H₀ G δ σ H) (ex':DX) (he:kY H₀ E' ex')
  (q:dl ex δ fun ds=>w ds QS ex') (k:∀ v s G1 H1 H2,Ext G H G1 H1->Same H1 H2->mM K H1 H2 v s->QS s->Q v H2):lE (fO K w) [] E' t σ H Q :=
 ha ex δ σ G H _ _ hx S q fun vs ds G1 H1 e1 h1 q1=>by
  refine ⟨ds,QS,ex',by rw [append_nil]; exact h1,q1,fun v s H2 sm r qs=>k v s G1 H1 H2 e1 sm r qs,fun C H2 sm hc=>he C H2 ((S.ext e1).oldH.trans sm) hc⟩
theorem dF (ha:xC K H₀ E t dl):fW K H₀ E (lE (fO K w) [] E t) (Xu w dl):=fun ex δ σ G H Qd Q hx S q k =>
 oY ha hx (fun _ _=>.inr trivial) S ex hx q fun v s G1 H1 H2 e1 sm r qs=>by
  obtain ⟨d,G',e2,hd,q2⟩:=yI e1.s sm r qs;exact k v d G' H2 (e1.trans e2) hd q2
theorem bE (ha:xC K H₀ E t dl):fW K H₀ E (lE (fO K w) [] E0 t) (Qn w dl):=fun ex δ σ G H Qd Q hx S q k =>
 oY ha hx (fun _ _=>.inr trivial) S (fun _=>False) gT q fun v s G1 H1 H2 e1 sm r qs=>by
  obtain ⟨d,G',e2,hd,q2⟩:=yI e1.s sm r qs;exact k v d G' H2 (e1.trans e2) hd q2
theorem Dc (ha:xC K H₀ E t dl):xG K H₀ E (lE (fO K w) [] E t) (Qm w dl):=fun ex δ σ G H Qd Q hx S q k =>
 oY ha hx (fun _ _=>.inr trivial) S ex hx q fun v s G1 H1 H2 e1 sm r qs=>by
  obtain ⟨a,vs,ds,G',rfl,e2,hn,hg,hh,hd,q2⟩:=Cr e1.s sm r qs;exact k a vs ds G' H2 (e1.trans e2) (e1.h.free hn) hg hh hd q2
theorem jQ (ha:xC K H₀ E t dl):xG K H₀ E (lE (fO K w) [] E0 t) (Eu w dl):=fun ex δ σ G H Qd Q hx S q k =>
 oY ha hx (fun _ _=>.inr trivial) S (fun _=>False) gT q fun v s G1 H1 H2 e1 sm r qs=>by
  obtain ⟨a,vs,ds,G',rfl,e2,hn,hg,hh,hd,q2⟩:=Cr e1.s sm r qs;exact k a vs ds G' H2 (e1.trans e2) (e1.h.free hn) hg hh hd q2
end
end
structure DEnds where
 nx:bW->Prop
 rt:Sl->Prop
 ex:DX
 bk:bW->Prop:=fun _=>False
 ct:bW->Prop:=fun _=>False
abbrev DS:=DEnds->bW->Prop
structure Lk (K:W.Frag) (H₀ G:Hp) (e:DEnds) (D:Ends):Prop where
 nx:∀ δ σ G' H,Same G G'->Sees K H₀ G' δ σ H->e.nx δ->D.nx σ H
 rt:∀ v s H,Same H₀ H->mM K H₀ H v s->e.rt s->D.rt v H
 bk:∀ δ σ G' H,Same G G'->Sees K H₀ G' δ σ H->e.bk δ->D.bk σ H
 ct:∀ δ σ G' H,Same G G'->Sees K H₀ G' δ σ H->e.ct δ->D.ct σ H
theorem Lk.mono {K:W.Frag} {H₀ G G1:Hp} {e:DEnds} {D:Ends} (L:Lk K H₀ G e D) (s:Same G G1):Lk K H₀ G1 e D :=
 ⟨fun δ σ G' H t=>L.nx δ σ G' H (s.trans t),L.rt,fun δ σ G' H t=>L.bk δ σ G' H (s.trans t),fun δ σ G' H t=>L.ct δ σ G' H (s.trans t)⟩
def jD (K:W.Frag) (H₀:Hp) (E:XK) (ts:TS) (ds:DS):Prop:=∀ δ σ G H e D,kY H₀ E e.ex->Sees K H₀ G δ σ H->ds e δ->Lk K H₀ G e D->ts D σ H
abbrev DG:=PyData->bW->(bW->Prop)->Prop
abbrev DGs:=List PyData->bW->(bW->Prop)->Prop
def Kp (ns:List Nat) (σ σ':L2.St):Prop:=σ'.length = σ.length/\∀ j,j ∉ ns->σ'[j]? = σ[j]?
def Bs (K:W.Frag) (H₀:Hp) (g:TG) (ns:List Nat) (dg:DG):Prop:=∀ v d δ σ G H Qd Q,Sees K H₀ G δ σ H->DV K G v d->dg d δ Qd->(∀ δ' σ',Sees K H₀ G δ' σ' H->Kp ns σ σ'->Qd δ'->Q σ' H)->g v σ H Q
def Rh (K:W.Frag) (H₀:Hp) (g:Hq) (ns:List Nat) (dg:DGs):Prop:=∀ vs ds δ σ G H Qd Q,Sees K H₀ G δ σ H->DVs K G vs ds->dg ds δ Qd->(∀ δ' σ',Sees K H₀ G δ' σ' H->Kp ns σ σ'->Qd δ'->Q σ' H)->g vs σ H Q
section
variable {K:W.Frag} {H₀:Hp} {E:XK} {te ta tb:TE} {da db de:DE} {dl dk:DL} {t:TA} {tt tu:TT} {dt du:DT} {ts tz:TS} {ds dz:DS} {g:TG} {dg:DG} {gs:Hq} {dgs:DGs} {ns ms:List Nat}
def Xl (e:DEnds) (δ:bW):Prop:=e.nx δ
def aJv (d1 d2:DS) (e:DEnds) (δ:bW):Prop:=d1 { e with nx:=d2 e } δ
def aKj (d1 d2:DS) (e:DEnds) (δ:bW):Prop:=∃ I:bW->Prop,d1 { e with nx:=I } δ/\∀ δ',I δ'->d2 e δ'
theorem bL:jD K H₀ E Ca Xl:=fun δ σ G H e D hx S q L=>L.nx δ σ G H (Same.refl _) S q
theorem aR (h1:jD K H₀ E ts ds) (h2:jD K H₀ E tz dz):jD K H₀ E (rD ts tz) (aJv ds dz):=fun δ σ G H e D hx S q L =>
 h1 δ σ G H { e with nx:=dz e } { D with nx:=tz D } hx S q ⟨fun δ' σ' G' H' s S' q'=>h2 δ' σ' G' H' e D hx S' q' (L.mono s),L.rt,L.bk,L.ct⟩
theorem cO (h1:jD K H₀ E ts ds) (h2:jD K H₀ E tz dz):jD K H₀ E (rD ts tz) (aKj ds dz):=fun δ σ G H e D hx S ⟨I,q,qi⟩ L =>
 h1 δ σ G H { e with nx:=I } { D with nx:=tz D } hx S q ⟨fun δ' σ' G' H' s S' q'=>h2 δ' σ' G' H' e D hx S' (qi δ' q') (L.mono s),L.rt,L.bk,L.ct⟩
def aJw (de:DE) (e:DEnds) (δ:bW):Prop:=de e.ex δ fun d=>e.rt (.dat d)
def Xi (dl:DL) (e:DEnds) (δ:bW):Prop:=dl e.ex δ fun ds=>e.rt (.own ds)
def Qa (i:Nat) (e:DEnds) (δ:bW):Prop:=match slot δ i with
 | some (.dat d)=>e.rt (.dat d)
 | some (.own ds)=>e.rt (.own ds)
 | _=>False
theorem rP {G H:Hp} {a:Addr} {vs:List V} {ds:List PyData} (h0:H₀ a = none) (hg:G a = none) (s:Sub G H) (hh:H a = some (.lst vs)) (hd:DVs K G vs ds):mM K H₀ H (.ref a) (.own ds) :=
 ⟨a,vs,rfl,h0,hh,bQ (fun b o z=>by
  unfold rm
  rw [if_neg (bZ z hg)]
  exact s.same b o z) hd⟩
theorem bG (h:kZ K H₀ E te de):jD K H₀ E (Fq te) (aJw de):=fun δ σ G H e D hx S q L =>
 h e.ex δ σ G H _ _ hx S q fun v d G' H' x hd qd=>L.rt v (.dat d) H' (S.ext x).oldH hd qd
theorem qQ (h:xG K H₀ E te dl):jD K H₀ E (Fq te) (Xi dl):=fun δ σ G H e D hx S q L =>
 h e.ex δ σ G H _ _ hx S q fun a vs ds G' H' x hn hg hh hd qd=>L.rt (.ref a) (.own ds) H' (S.ext x).oldH (rP (S.oldH.free hn) hg x.s hh hd) qd
theorem jX (i:Nat):jD K H₀ E (Fq (iG i)) (Qa i):=fun δ σ G H e D hx S q L=>by
 unfold Qa at q;split at q
 ·rename_i d hs
  obtain ⟨v,h1,h2⟩:=S.has i _ hs;exact ⟨v,h1,L.rt v (.dat d) H S.oldH (cL S.sub.same h2) q⟩
 ·rename_i ds hs
  obtain ⟨v,h1,h2⟩:=S.has i _ hs;obtain ⟨a,vs,rfl,h3,h4,h5⟩:=h2;exact ⟨_,h1,L.rt _ (.own ds) H S.oldH (rP (S.old.free h3) h3 S.sub h4 h5) q⟩
 ·exact q.elim
def Xr (de:DE) (e:DEnds) (δ:bW):Prop:=de e.ex δ fun _=>e.nx δ
theorem jY (h:kZ K H₀ E te de):jD K H₀ E (xS te) (Xr de):=fun δ σ G H e D hx S q L =>
 h e.ex δ σ G H _ _ hx S q fun v d G' H' x hd qd=>L.nx δ σ G' H' x.g (S.ext x) qd
def aKh (dt:DT) (d1 d2:DS) (e:DEnds) (δ:bW):Prop:=dt e.ex δ fun b=>if b = true then d1 e δ else d2 e δ
theorem cD (h:xF K H₀ E tt dt) (h1:jD K H₀ E ts ds) (h2:jD K H₀ E tz dz):jD K H₀ E (Sg tt ts tz) (aKh dt ds dz):=fun δ σ G H e D hx S q L =>
 h e.ex δ σ G H _ _ hx S q fun b G' H' x qb=>by
  cases b with
  | true=>exact h1 δ σ G' H' e D hx (S.ext x) qb (L.mono x.g)
  | false=>exact h2 δ σ G' H' e D hx (S.ext x) qb (L.mono x.g)
def Bc (i:Nat) (d:PyData) (δ:bW) (Q:bW->Prop):Prop:=Q (put (some (.dat d)) i δ)
def Pa (ds:List PyData) (δ:bW) (Q:bW->Prop):Prop:=match ds with
 | []=>Q δ
 | _=>False
def Be (dg:DG) (dgs:DGs) (ds:List PyData) (δ:bW) (Q:bW->Prop):Prop:=match ds with
 | d :: r=>dg d δ fun δ'=>dgs r δ' Q
 | []=>False
def Oz (n:Nat) (dgs:DGs) (d:PyData) (δ:bW) (Q:bW->Prop):Prop:=match d with
 | .tuple ds=>ds.length = n/\dgs ds δ Q
 | _=>False
theorem aO (i:Nat):Bs K H₀ (mJ i) [i] (Bc i):=fun v d δ σ G H Qd Q S hd q k =>
 k _ _ (S.setD i hd) ⟨length_set,fun j hj=>by rw [getElem?_set_ne (fun z=>hj (by simp [z]))]⟩ q
theorem gI:Rh K H₀ aJb [] Pa:=fun vs ds δ σ G H Qd Q S hd q k=>by
 unfold Pa at q;split at q
 ·cases hd;exact ⟨rfl,k δ σ S ⟨rfl,fun _ _=>rfl⟩ q⟩
 ·exact q.elim
theorem cH (h1:Bs K H₀ g ns dg) (h2:Rh K H₀ gs ms dgs):Rh K H₀ (Xa g gs) (ns ++ ms) (Be dg dgs):=fun vs ds δ σ G H Qd Q S hd q k=>by
 unfold Be at q;split at q
 ·cases hd with
  | cons hd hr =>
   refine ⟨_,_,rfl,h1 _ _ δ σ G H _ _ S hd q fun δ1 σ1 S1 k1 q1=>h2 _ _ δ1 σ1 G H _ _ S1 hr q1 fun δ2 σ2 S2 k2 q2=>k δ2 σ2 S2 ⟨k2.1.trans k1.1,fun j hj=>?_⟩ q2⟩;rw [k2.2 j (fun z=>hj (mem_append_right _ z)),k1.2 j (fun z=>hj (mem_append_left _ z))]
 ·exact q.elim
theorem pV {n:Nat} (h:Rh K H₀ gs ns dgs):Bs K H₀ (aDx K n gs) ns (Oz n dgs):=fun v d δ σ G H Qd Q S hd q k=>by
 unfold Oz at q;split at q
 ·obtain ⟨a,vs,rfl,h1,h2⟩:=oV hd;exact ⟨a,vs,rfl,lG S.sub.same h1,by rw [h2.len]; exact q.1,h _ _ δ σ G H _ _ S h2 q.2 k⟩
 ·exact q.elim
def aKl (de:DE) (dg:DG) (e:DEnds) (δ:bW):Prop:=de e.ex δ fun d=>dg d δ e.nx
theorem bO (h:fW K H₀ E te de) (hg:Bs K H₀ g ns dg):jD K H₀ E (pF te g) (aKl de dg):=fun δ σ G H e D hx S q L =>
 h e.ex δ σ G H _ _ hx S q fun v d G' H' x hd qd=>hg v d δ σ G' H' _ _ (S.ext x) hd qd fun δ' σ' S' _ q'=>L.nx δ' σ' G' H' x.g S' q'
def Xg (dl:DL) (i:Nat) (e:DEnds) (δ:bW):Prop:=dl e.ex δ fun ds=>e.nx (put (some (.own ds)) i δ)
theorem cA (i:Nat) (h:xG K H₀ E te dl):jD K H₀ E (pF te (mJ i)) (Xg dl i):=fun δ σ G H e D hx S q L =>
 h e.ex δ σ G H _ _ hx S q fun a vs ds G' H' x hn hg hh hd qd=>L.nx _ _ G' H' x.g (S.setO x i hn hg hh hd) qd
def iJ:bW->Bool
 | []=>true
 | some (.own _) :: _=>false
 | _ :: r=>iJ r
theorem eW:∀ {δ:bW} {i:Nat} {ds:List PyData},iJ δ = true->slot δ i ≠ some (.own ds)
 | [],_,_,_,h=>by cases h
 | some (.own _) :: _,_,_,h,_=>by cases h
 | some (.dat _) :: _,0,_,_,h=>by cases h
 | some (.exc _) :: _,0,_,_,h=>by cases h
 | some (.fz _ _) :: _,0,_,_,h=>by cases h
 | some (.fz _ _) :: r,i + 1,ds,h,e=>eW (δ:=r) (i:=i) (ds:=ds) h e
 | some (.mon _) :: _,0,_,_,h=>by cases h
 | some (.mon _) :: r,i + 1,ds,h,e=>eW (δ:=r) (i:=i) (ds:=ds) h e
 | some (.two _ _) :: _,0,_,_,h=>by cases h
 | some (.two _ _) :: r,i + 1,ds,h,e=>eW (δ:=r) (i:=i) (ds:=ds) h e
 | none :: _,0,_,_,h=>by cases h
 | some (.exc _) :: r,i + 1,ds,h,e=>eW (δ:=r) (i:=i) (ds:=ds) h e
 | some (.dat _) :: r,i + 1,ds,h,e=>eW (δ:=r) (i:=i) (ds:=ds) h e
 | none :: r,i + 1,ds,h,e=>eW (δ:=r) (i:=i) (ds:=ds) h e
theorem Sees.all2 {G H H':Hp} {δ:bW} {σ:L2.St} (S:Sees K H₀ G δ σ H) (h:iJ δ = true) (sm:Same H H'):Sees K H₀ H' δ σ H' :=
 ⟨S.oldH.trans sm,.refl _,S.len,fun i s e=>by
  obtain ⟨v,h1,h2⟩:=S.has i s e
  cases s with
  | dat d=>exact ⟨v,h1,cL (S.sub.same.trans sm) h2⟩
  | two xs ys=>exact h2.elim
  | fz as d=>exact ⟨v,h1,FzIs.same (S.sub.same.trans sm) h2⟩
  | mon φ=>exact ⟨v,h1,fun G2 s2=>h2 G2 ((S.sub.same.trans sm).trans s2)⟩
  | exc C =>
   obtain ⟨x,rfl,hx⟩:=h2
   exact ⟨_,h1,x,rfl,sm _ _ (S.sub.same _ _ hx)⟩
  | own ds=>exact absurd e (eW h),fun i j xs ys a e=>absurd e (eW h)⟩
def Qp (w:DW) (dl:DL) (dg:DG) (e:DEnds) (δ:bW):Prop:=dl e.ex δ fun ds=>iJ δ = true/\w ds (mC fun d=>dg d δ e.nx) fun _=>False
theorem jI {w:DW} (ha:xC K H₀ E t dl) (hg:Bs K H₀ g ns dg):jD K H₀ E (pF (lE (fO K w) [] E0 t) g) (Qp w dl dg):=fun δ σ G H e D hx S q L =>
 ha e.ex δ σ G H _ _ hx S q fun vs ds G1 H1 e1 h1 ⟨no,q1⟩=>by
  refine ⟨ds,_,fun _=>False,by rw [append_nil]; exact h1,q1,fun v s H2 sm r qs=>?_,fun C H2 sm hc=>hc.elim⟩;obtain ⟨d,hd,q2⟩:=gK r qs;exact hg v d δ σ H2 H2 _ _ ((S.ext e1).all2 no sm) hd q2 fun δ' σ' S' _ q'=>L.nx δ' σ' H2 H2 ((S.ext e1).sub.same.trans sm |> fun z=>e1.g.trans z) S' q'
def sN (i:Nat) (δ:bW):bW:=match slot δ i with
 | some (.own ds)=>put (some (.dat (.list ds))) i δ
 | _=>δ
def aEn (i:Nat) (d:DS) (e:DEnds) (δ:bW):Prop:=d e (sN i δ)
theorem vK (i:Nat) (h:jD K H₀ E ts ds):jD K H₀ E ts (aEn i ds):=fun δ σ G H e D hx S q L=>by
 unfold aEn sN at q;split at q
 ·rename_i xs hs
  obtain ⟨G',s,S'⟩:=S.frz hs;exact h _ σ G' H e D hx S' q (L.mono s)
 ·exact h δ σ G H e D hx S q L
def Qb (C:Addr) (dl:DL) (e:DEnds) (δ:bW):Prop:=dl e.ex δ fun _=>e.ex C
theorem cN {C:Addr} {n:Nat} (h:AvE K H₀ E t n dl) (hn:n<=1000):jD K H₀ E (Jd E C t) (Qb C dl):=fun δ σ G H e D hx S q L =>
 h e.ex δ σ G H _ _ hx S q fun vs ds G' H' x hd q0 qd=>⟨le_of_lt (bT (by rw [hd.len,q0]; exact hn)),hx C H' (S.ext x).oldH qd⟩
def aEr (i:Nat) (de:DE) (e:DEnds) (δ:bW):Prop:=match slot δ i with
 | some (.own ds)=>de e.ex δ fun d=>ds.length < 1000/\e.nx (put (some (.own (ds ++ [d]))) i δ)
 | _=>False
theorem Aa (i:Nat) (h:fW K H₀ E te de):jD K H₀ E (xS (tBM K "list" Cu (iG i) (eT te jW))) (aEr i de):=fun δ σ G H e D hx S q L=>by
 unfold aEr at q;split at q
 ·rename_i ds hs
  obtain ⟨a,vs,h1,h2,h3,h4⟩:=S.ownAt hs;refine ⟨_,h1,.inl ⟨rfl,_,SqL.of h3⟩,h e.ex δ σ G H _ _ hx S q fun v d G' H' x hd qd=>?_⟩;obtain ⟨q1,q2⟩:=qd;have S':=S.ext x;exact ⟨a,vs,v,rfl,rfl,x.h _ _ h3,bT (by rw [h4.len]; omega),L.nx _ _ G' _ x.g (S'.updO hs h1 ((bQ x.g h4).append (.cons hd .nil))) q2⟩
 ·exact q.elim
def Qc (i:Nat) (de dx:DE) (e:DEnds) (δ:bW):Prop:=de e.ex δ fun d=>match slot δ i with
 | some (.own ds)=>dx e.ex δ fun y=>(match y with
  | .int k=>∃ j,Hv ds.length k = some j/\e.nx (put (some (.own (ds.set j d))) i δ)
  | _=>False)
 | _=>False
theorem xU (i:Nat) (h:fW K H₀ E te de) (h':kZ K H₀ E ta da):jD K H₀ E (pF te (aJa (iG i) ta Wi)) (Qc i de da):=fun δ σ G H e D hx S q L =>
 h e.ex δ σ G H _ _ hx S q fun v d G' H' x hd qd=>by
  split at qd
  ·rename_i ds hs
   have S':=S.ext x;obtain ⟨a,vs,h1,h2,h3,h4⟩:=S'.ownAt hs;refine ⟨_,h1,h' e.ex δ σ G' H' _ _ hx S' qd fun y dy G2 H2 x2 hy q2=>?_⟩;cases dy with
   | int k =>
    obtain ⟨j,hj,q2⟩:=q2;cases cK hy;have S2:=S'.ext x2;exact ⟨a,vs,k,j,rfl,rfl,x2.h _ _ h3,by rw [h4.len]; exact hj,L.nx _ _ G2 _ (x.g.trans x2.g) (S2.updO hs h1 ((bQ x2.g h4).set (cL x2.g hd) j)) q2⟩
   | _=>exact q2.elim
  ·exact qd.elim
def ItS (K:W.Frag) (J:It) (G:Hp) (ds:List PyData):Prop:=∀ G' H',Same G G'->Sub G' H'->∀ i,
 (∀ d,ds[i]? = some d->J.go i H'/\∀ x H2,J.yld i H' x H2->∃ G2,Ext G' H' G2 H2/\DV K G2 x d)/\(ds.length<=i->J.stop i H')
def ItE (K:W.Frag) (J:It) (G H:Hp) (ds:List PyData):Prop:=∀ G' H',Ext G H G' H'->∀ i,
 (∀ d,ds[i]? = some d->J.go i H'/\∀ x H2,J.yld i H' x H2->∃ G2,Ext G' H' G2 H2/\DV K G2 x d)/\(ds.length<=i->J.stop i H')
theorem ItS.e {J:It} {G H:Hp} {ds:List PyData} (h:ItS K J G ds):ItE K J G H ds:=fun G' H' e=>h G' H' e.g e.s
def IvS (K:W.Frag) (H₀:Hp) (E:XK) (wi:TI) (dl:DL):Prop:=∀ ex δ σ G H Qd R,kY H₀ E ex->Sees K H₀ G δ σ H->dl ex δ Qd->(∀ J ds G' H',Ext G H G' H'->ItS K J G' ds->Qd ds->R J H')->wi σ H R
def IvE (K:W.Frag) (H₀:Hp) (E:XK) (wi:TI) (dl:DL):Prop:=∀ ex δ σ G H Qd R,kY H₀ E ex->Sees K H₀ G δ σ H->dl ex δ Qd->(∀ J ds G' H',Ext G H G' H'->ItE K J G' H' ds->Qd ds->R J H')->wi σ H R
theorem IvS.e {wi:TI} (h:IvS K H₀ E wi dl):IvE K H₀ E wi dl:=fun ex δ σ G H Qd R hx S q k=>h ex δ σ G H Qd R hx S q fun J ds G' H' e hi qd=>k J ds G' H' e hi.e qd
theorem wI (h:fW K H₀ E te de):IvS K H₀ E (zD K te) (Vj de):=fun ex δ σ G H Qd R hx S q k =>
 h ex δ σ G H _ _ hx S q fun v d G' H' e hd qd=>by
  cases d with
  | list ds =>
   obtain ⟨a,vs,rfl,h1,h2⟩:=eJ hd;refine ⟨a,rfl,⟨vs,e.s.same.seq h1⟩,k _ ds G' H' e (fun G2 H2 s1 s2 i=>⟨fun d hi=>?_,fun hi=>⟨vs,s2.same.seq (s1.seq h1),by rw [h2.len]; exact hi⟩⟩) qd⟩;obtain ⟨x,g1,g2⟩:=h2.at hi;refine ⟨⟨vs,x,s2.same.seq (s1.seq h1),g1⟩,fun y H3 ⟨z,w⟩=>?_⟩;subst z;have:=w vs (s2.same.seq (s1.seq h1));rw [g1] at this;cases this;exact ⟨G2,.refl s2,cL s1 g2⟩
  | _=>exact qd.elim
theorem eS (h:Rq K H₀ E te dl):IvE K H₀ E (zD K te) dl:=fun ex δ σ G H Qd R hx S q k =>
 h ex δ σ G H _ _ hx S q fun a vs ds G' H' e h1 h2 qd=>by
  refine ⟨a,rfl,⟨vs,h1⟩,k _ ds G' H' e (fun G2 H2 e2 i=>⟨fun d hi=>?_,fun hi=>⟨vs,e2.h.seq h1,by rw [h2.len]; exact hi⟩⟩) qd⟩;obtain ⟨x,g1,g2⟩:=h2.at hi;refine ⟨⟨vs,x,e2.h.seq h1,g1⟩,fun y H3 ⟨z,w⟩=>?_⟩;subst z;have:=w vs (e2.h.seq h1);rw [g1] at this;cases this;exact ⟨G2,.refl e2.s,cL e2.g g2⟩
def Ai (lo:Int) (n:Nat) (st:Int):List PyData:=(range n).map fun (k:Nat)=>PyData.int (lo + (k:Int) * st)
theorem Cq {lo st:Int} {n i:Nat} {d:PyData} (h:(Ai lo n st)[i]? = some d):i < n/\d = .int (lo + (i:Int) * st):=by
 unfold Ai at h;rw [getElem?_map] at h;cases q:(range n)[i]? with
 | none=>rw [q] at h; cases h
 | some k =>
  rw [q] at h;obtain ⟨h1,h2⟩:=List.getElem?_eq_some_iff.mp q;simp only [List.getElem_range] at h2;subst h2;simp only [length_range] at h1;simp only [Option.map_some,Option.some.injEq] at h;exact ⟨h1,h.symm⟩
theorem yF {lo st:Int} {n:Nat}:(Ai lo n st).length = n:=by simp [Ai]
def Xh (dl:DL) (ex:DX) (δ:bW) (Q:List PyData->Prop):Prop:=dl ex δ fun ds=>match ds with
 | [.int j]=>(-(2 ^ 62)<=j/\j < 2 ^ 62)/\Q (Ai 0 j.toNat 1)
 | _=>False
theorem aIu {lo:Int} {n:Nat} {G:Hp}:ItS K (Xy lo n) G (Ai lo n 1):=fun G' H' s1 s2 i=>⟨fun d hi=>by
  obtain ⟨h1,rfl⟩:=Cq hi
  refine ⟨h1,fun x H2 ⟨e1,e2⟩=>?_⟩
  subst e1 e2
  rw [Int.mul_one]
  exact ⟨G',.refl s2,.int _⟩,fun hi=>by rw [yF] at hi; exact hi⟩
theorem oM (h:xC K H₀ E t dl):IvS K H₀ E (Wx t) (Xh dl):=fun ex δ σ G H Qd R hx S q k =>
 h ex δ σ G H _ _ hx S q fun vs ds G' H' e hd qd=>by
  split at qd
  ·obtain ⟨x,rfl,h1⟩:=tL hd;cases cK h1;exact ⟨_,rfl,qd.1.1,qd.1.2,k _ _ G' H' e aIu qd.2⟩
  ·exact qd.elim
def aEo (dl:DL) (dg:DG) (db:DS) (e:DEnds) (δ:bW):Prop:=dl e.ex δ fun ds=>∃ I:Nat->bW->Prop,I 0 δ /\
 (∀ i d δ',ds[i]? = some d->I i δ'->dg d δ' fun δ2=>db { e with nx:=I (i + 1),ct:=I (i + 1),bk:=e.nx } δ2)/\∀ δ',I ds.length δ'->e.nx δ'
theorem pG {wi:TI} (hi:IvS K H₀ E wi dl) (hg:Bs K H₀ g ns dg) (hb:jD K H₀ E ts ds):jD K H₀ E (Jf wi g ts) (aEo dl dg ds):=fun δ σ G H e D hx S q L =>
 hi e.ex δ σ G H _ _ hx S q fun J xs G1 H1 e1 it ⟨I,i0,step,fin⟩=>by
  refine ⟨fun i m σ H=>m = xs.length - i/\i<=xs.length/\∃ δ' G',Same G1 G'/\Sees K H₀ G' δ' σ H/\I i δ',⟨_,rfl,zero_le _,δ,G1,Same.refl _,S.ext e1,i0⟩,?_⟩;rintro i m σ' H' ⟨rfl,hil,δ',G',sg,S',hI⟩;obtain ⟨t1,t2⟩:=it G' H' sg S'.sub i;by_cases hlt:i < xs.length
  ·obtain ⟨g1,g2⟩:=t1 _ (getElem?_eq_getElem hlt);refine .inr ⟨g1,fun σ H=>∃ δ' G',Same G1 G'/\Sees K H₀ G' δ' σ H/\I (i + 1) δ',fun σ2 H2 z=>⟨_,by omega,rfl,hlt,z⟩,fun x H2 y=>?_⟩;obtain ⟨G2,e2,hd⟩:=g2 x H2 y;have S2:=S'.ext e2;refine hg x _ δ' σ' G2 H2 _ _ S2 hd (step i _ δ' (getElem?_eq_getElem hlt) hI) fun δ3 σ3 S3 _ q3=>?_;have up:Same G1 G2:=sg.trans e2.g;exact hb δ3 σ3 G2 H2 { e with nx:=I (i + 1),ct:=I (i + 1),bk:=e.nx } _ hx S3 q3 ⟨fun δ4 σ4 G4 H4 s4 S4 q4=>⟨δ4,G4,up.trans s4,S4,q4⟩,L.rt,fun δ4 σ4 G4 H4 s4 S4 q4=>L.nx δ4 σ4 G4 H4 (e1.g.trans (up.trans s4)) S4 q4,fun δ4 σ4 G4 H4 s4 S4 q4=>⟨δ4,G4,up.trans s4,S4,q4⟩⟩
  ·have:i = xs.length:=by omega
   subst this;exact .inl ⟨t2 (le_refl _),L.nx δ' σ' G' H' (e1.g.trans sg) S' (fin δ' hI)⟩
def aEk (dt:DT) (db:DS) (e:DEnds) (δ:bW):Prop:=∃ I:Nat->bW->Prop,(∃ m,I m δ)/\∀ m δ',I m δ' ->
 dt e.ex δ' fun b=>if b = true then db { e with nx:=fun δ2=>∃ k,k < m/\I k δ2,ct:=fun δ2=>∃ k,k < m/\I k δ2,bk:=e.nx } δ' else e.nx δ'
theorem xT (h:xF K H₀ E tt dt) (hb:jD K H₀ E ts ds):jD K H₀ E (Ja tt ts) (aEk dt ds):=fun δ σ G H e D hx S ⟨I,⟨m0,i0⟩,step⟩ L=>by
 refine ⟨fun m σ H=>∃ δ' G',Same G G'/\Sees K H₀ G' δ' σ H/\I m δ',⟨m0,δ,G,Same.refl _,S,i0⟩,?_⟩;rintro m σ' H' ⟨δ',G',sg,S',hI⟩;refine h e.ex δ' σ' G' H' _ _ hx S' (step m δ' hI) fun b G2 H2 e2 q2=>?_;have S2:=S'.ext e2;have up:Same G G2:=sg.trans e2.g;cases b with
 | true =>
  have n1:∀ δ4 σ4 G4 H4,Same G2 G4->Sees K H₀ G4 δ4 σ4 H4->(∃ k,k < m/\I k δ4)->∃ k,k < m/\∃ δ' G',Same G G'/\Sees K H₀ G' δ' σ4 H4/\I k δ':=fun δ4 σ4 G4 H4 s4 S4 ⟨k,hk,q4⟩=>⟨k,hk,δ4,G4,up.trans s4,S4,q4⟩;exact ⟨fun σ4 H4=>∃ k,k < m/\∃ δ' G',Same G G'/\Sees K H₀ G' δ' σ4 H4/\I k δ',fun _ _ z=>z,hb δ' σ' G2 H2 { e with nx:=fun δ2=>∃ k,k < m/\I k δ2,ct:=fun δ2=>∃ k,k < m/\I k δ2,bk:=e.nx } _ hx S2 q2 ⟨n1,L.rt,fun δ4 σ4 G4 H4 s4 S4 q4=>L.nx δ4 σ4 G4 H4 (up.trans s4) S4 q4,n1⟩⟩
 | false=>exact L.nx δ' σ' G2 H2 up S2 q2
def oX (cap:List (Option Nat)) (δ:bW):bW:=match cap with
 | []=>[]
 | none :: r=>none :: oX r δ
 | some i :: r=>slot δ i :: oX r δ
theorem sW:∀ (cap:List (Option Nat)) (δ:bW),(oX cap δ).length = cap.length
 | [],_=>rfl
 | none :: r,δ=>by simp [oX,sW r δ]
 | some i :: r,δ=>by simp [oX,sW r δ]
theorem jT:∀ {cap:List (Option Nat)} {δ:bW} {j:Nat} {s:Sl},slot (oX cap δ) j = some s->∃ i,cap[j]? = some (some i)/\slot δ i = some s
 | [],_,_,_,h=>by cases h
 | none :: r,δ,0,s,h=>by cases h
 | some i :: r,δ,0,s,h=>⟨i,rfl,h⟩
 | none :: r,δ,j + 1,s,h=>by
  obtain ⟨i,h1,h2⟩:=jT (cap:=r) (δ:=δ) (j:=j) h;exact ⟨i,by simpa using h1,h2⟩
 | some _ :: r,δ,j + 1,s,h=>by
  obtain ⟨i,h1,h2⟩:=jT (cap:=r) (δ:=δ) (j:=j) h;exact ⟨i,by simpa using h1,h2⟩
theorem Ey {cap:List (Option Nat)} {j i:Nat} (h:cap[j]? = some (some i)):i∈cap.filterMap id:=mem_filterMap.mpr ⟨some i,mem_of_getElem? h,rfl⟩
theorem wU:∀ {cap:List (Option Nat)} {j k i:Nat},(cap.filterMap id).Nodup->cap[j]? = some (some i)->cap[k]? = some (some i)->j = k
 | [],_,_,_,_,h,_=>by simp at h
 | none :: r,0,_,_,_,h,_=>by simp at h
 | none :: r,_ + 1,0,_,_,_,h=>by simp at h
 | none :: r,j + 1,k + 1,i,n,h1,h2=>congrArg (· + 1) (wU (cap:=r) (by simpa using n) (by simpa using h1) (by simpa using h2))
 | some a :: r,0,0,_,_,_,_=>rfl
 | some a :: r,0,k + 1,i,n,h1,h2=>by
  have e:a = i:=by simpa using h1
  subst e;have:a∈r.filterMap id:=Ey (by simpa using h2);simp only [filterMap_cons,id,nodup_cons] at n;exact absurd this n.1
 | some a :: r,j + 1,0,i,n,h1,h2=>by
  have e:a = i:=by simpa using h2
  subst e;have:a∈r.filterMap id:=Ey (by simpa using h1);simp only [filterMap_cons,id,nodup_cons] at n;exact absurd this n.1
 | some a :: r,j + 1,k + 1,i,n,h1,h2=>congrArg (· + 1) (wU (cap:=r) (by
   simp only [filterMap_cons,id,nodup_cons] at n
   exact n.2) (by simpa using h1) (by simpa using h2))
def qL (cap:List (Option Nat)) (σ σc:L2.St):Prop:=σc.length = cap.length/\∀ (j i:Nat),cap[j]? = some (some i)->σc[j]? = some ((σ[i]?).bind id)
theorem Qv {cap:List (Option Nat)} {σ:L2.St}:qL cap σ (capσ cap σ):=⟨by simp [capσ],fun j i h=>by
 unfold capσ
 rw [getElem?_map,h]
 rfl⟩
theorem Ez {cap:List (Option Nat)} {G H G' H':Hp} {δ:bW} {σ σc:L2.St} (S:Sees K H₀ G δ σ H) (e:Ext G H G' H') (hn:(cap.filterMap id).Nodup) (c:qL cap σ σc):Sees K H₀ G' (oX cap δ) σc H':=by
 have S':=S.ext e;refine ⟨S'.old,S'.sub,by rw [sW,c.1]; exact le_refl _,fun j s h=>?_,fun j k xs ys a h1 h2 e1 e2=>?_⟩
 ·obtain ⟨i,h1,h2⟩:=jT h;obtain ⟨v,h3,h4⟩:=S'.has i s h2;refine ⟨v,?_,h4⟩;rw [c.2 j i h1,h3];rfl
 ·obtain ⟨i,g1,g2⟩:=jT h1;obtain ⟨i',g3,g4⟩:=jT h2;obtain ⟨b,_,q1,_⟩:=S'.ownAt g2;obtain ⟨b',_,q2,_⟩:=S'.ownAt g4;rw [c.2 j i g1,q1] at e1;rw [c.2 k i' g3,q2] at e2;have z1:b = a:=by cases e1; rfl
  have z2:b' = a:=by cases e2; rfl
  subst z1; subst z2;have:=S'.sep i i' xs ys _ g2 g4 q1 q2;subst this;exact wU hn g1 g3
def aEj (_ex:DX) (_δ:bW) (Q:Bool->Prop):Prop:=Q true
theorem dW:xF K H₀ E aGp aEj:=fun ex δ σ G H Qd Q hx S q k=>k true G H S.refl q
def dLC (dl:DL) (cap:List (Option Nat)) (dg:DG) (dt:DT) (de:DE) (ex:DX) (δ:bW) (Q:List PyData->Prop):Prop:=dl ex δ fun ds=>ds.length<=1000/\∃ I:Nat->List PyData->Prop,I 0 [] /\
 (∀ i d acc,ds[i]? = some d->I i acc->dg d (oX cap δ) fun δ2=>dt (fun _=>False) δ2 fun b=>if b = true then de (fun _=>False) δ2 fun y=>I (i + 1) (acc ++ [y]) else I (i + 1) acc)/\∀ acc,I ds.length acc->Q acc
theorem fC {wi:TI} {cap:List (Option Nat)} (hi:IvE K H₀ E wi dl) (hg:Bs K H₀ g ns dg) (ht:xF K H₀ E tt dt) (he:fW K H₀ E te de) (hn:(cap.filterMap id).Nodup) (hns:ns.all (fun j=>(cap[j]?.bind id).isNone) = true):xG K H₀ E (tLC wi cap g tt te) (dLC dl cap dg dt de):=fun ex δ σ G H Qd Q hx S q k =>
 hi ex δ σ G H _ _ hx S q fun J xs G1 H1 e1 it ⟨hlen,I,i0,step,fin⟩=>by
  intro D hD;obtain ⟨eD,gD⟩:=eX (xs:=[]) e1.s hD
  refine ⟨fun i m σc Hc=>m = xs.length - i/\i<=xs.length/\qL cap σ σc/\∃ G' acc ys,Ext G1 H1 G' Hc/\G' D = none/\Hc D = some (.lst ys)/\DVs K G' ys acc/\acc.length<=i/\I i acc,
   ⟨_,rfl,zero_le _,Qv,G1,[],[],eD,gD,bJ,.nil,le_refl _,i0⟩,?_⟩
  rintro i m σc Hc ⟨rfl,hil,cs,G',acc,ys,e',gd,hd,hv,hal,hI⟩;obtain ⟨t1,t2⟩:=it G' Hc e' i;by_cases hlt:i < xs.length
  ·obtain ⟨g1,g2⟩:=t1 _ (getElem?_eq_getElem hlt);refine .inr ⟨g1,fun σ2 H2=>qL cap σ σ2/\∃ G' acc ys,Ext G1 H1 G' H2/\G' D = none/\H2 D = some (.lst ys)/\DVs K G' ys acc/\acc.length<=i + 1/\I (i + 1) acc,fun σ2 H2 z=>⟨_,by omega,rfl,hlt,z⟩,fun x H2 y=>?_⟩;obtain ⟨G2,e2,hx2⟩:=g2 x H2 y;have S2:Sees K H₀ G2 (oX cap δ) σc H2:=Ez S (e1.trans (e'.trans e2)) hn cs;refine hg x _ _ σc G2 H2 _ _ S2 hx2 (step i _ acc (getElem?_eq_getElem hlt) hI) fun δ3 σ3 S3 kp q3=>?_
   have cs3:qL cap σ σ3:=⟨kp.1.trans cs.1,fun j z hj=>by
    rw [kp.2 j (fun hm=>by
     have:=all_eq_true.mp hns j hm
     rw [hj] at this
     cases this)]
    exact cs.2 j z hj⟩
   refine ht (fun _=>False) δ3 σ3 G2 H2 _ _ gT S3 q3 fun b G4 H4 e4 q4=>?_;cases b with
   | true =>
    refine he (fun _=>False) δ3 σ3 G4 H4 _ _ gT (S3.ext e4) q4 fun y dy G5 H5 e5 hy q5=>?_;have e25:Ext G' Hc G5 H5:=e2.trans (e4.trans e5);have gd5:G5 D = none:=e25.keep gd hd;have hd5:H5 D = some (.lst ys):=e25.h _ _ hd;have e15:Ext G1 H1 G5 H5:=e'.trans e25;refine ⟨ys,hd5,bT (by rw [hv.len]; omega),cs3,G5,acc ++ [dy],ys ++ [y],⟨e15.g,fun b o z=>?_,fun b=>?_,e15.n⟩,gd5,bJ,(bQ e25.g hv).append (.cons hy .nil),by rw [length_append]; simp; exact hal,q5⟩
    ·rw [bD (bZ z hD)]; exact e15.h b o z
    ·by_cases w:b = D
     ·subst w; exact .inr ⟨gd5,_,bJ⟩
     ·rw [bD w]; exact e15.s b
   | false =>
    have e24:Ext G' Hc G4 H4:=e2.trans e4;exact ⟨cs3,G4,acc,ys,e'.trans e24,e24.keep gd hd,e24.h _ _ hd,bQ e24.g hv,Nat.le_succ_of_le hal,q4⟩
  ·have:i = xs.length:=by omega
   subst this;exact .inl ⟨t2 (le_refl _),k D ys acc G' Hc (e1.trans e') (e1.h.free hD) gd hd hv (fin acc hI)⟩
end
def iZ:List Str->List PyData->bW
 | [],_=>[]
 | _ :: N,[]=>none :: iZ N []
 | _ :: N,d :: ds=>some (.dat d) :: iZ N ds
theorem mQ:∀ (N:List Str) (ds:List PyData),(iZ N ds).length = N.length
 | [],_=>rfl
 | _ :: N,[]=>congrArg (· + 1) (mQ N [])
 | _ :: N,_ :: ds=>congrArg (· + 1) (mQ N ds)
theorem iS:∀ {N:List Str} {ds:List PyData} {i:Nat} {s:Sl},slot (iZ N ds) i = some s->∃ d,ds[i]? = some d/\s = .dat d
 | [],_,_,_,h=>by cases h
 | _ :: N,[],0,_,h=>by cases h
 | _ :: N,[],i + 1,s,h=>by
  obtain ⟨d,h1,_⟩:=iS (N:=N) (ds:=[]) (i:=i) h;simp at h1
 | _ :: N,d :: ds,0,s,h=>by cases h; exact ⟨d,rfl,rfl⟩
 | _ :: N,_ :: ds,i + 1,s,h=>by
  obtain ⟨d,h1,h2⟩:=iS (N:=N) (ds:=ds) (i:=i) h;exact ⟨d,by simpa using h1,h2⟩
theorem rJ {K:W.Frag} {H:Hp} {N:List Str} {vs:List V} {ds:List PyData} (h:DVs K H vs ds):Sees K H H (iZ N ds) (L2.start N vs) H:=by
 refine ⟨Same.refl _,.refl _,?_,fun i s e=>?_,fun i j xs ys a e=>?_⟩
 ·rw [mQ];simp only [L2.start,length_append,length_map,length_replicate];omega
 ·obtain ⟨d,h1,rfl⟩:=iS e;obtain ⟨v,h2,h3⟩:=h.at h1;refine ⟨v,?_,h3⟩;unfold L2.start;rw [getElem?_append_left (by rw [length_map]; exact (List.getElem?_eq_some_iff.mp h2).1),getElem?_map,h2];rfl
 ·obtain ⟨d,_,z⟩:=iS e;cases z
section
variable {P:Program} {w:World} {K:W.Frag} {mg:Str->Option Value} {base:Heap}
theorem gM {x qual:Str} {st:Stmt} {f:Addr} {fd:FuncData} {N ps:List Str} {k:Nat} {W:DW} (F:Fun K x qual st f fd) (S:FnScope N ps (aT st)) (len:∀ ds Q E,W ds Q E->ds.length = ps.length)
  (hbody:∀ (cdv:Value) (A:Around) (outer:List Env) (s:Shared) (H:Hp) (E:XK),Room k (A.deeper (envOfC qual (aT st) s.heap.objs.size f cdv)) ->
   ∃ t,Br (nE (eA P w) P w K mg base N qual (aT st) f cdv A outer s H E) (fH st) t/\∃ d,jD K H E t d/\∀ ds Q X,W ds Q X->d { nx:=fun _=>Q (.dat .none),rt:=Q,ex:=X } (iZ N ds)):FnOk P w K mg base (eA P w) (k + 1) f fd ps (fO K W):=by
 refine okE F S (fun vs H Q E h=>?_) (fun cdv A outer s H vs Q E hr h=>?_)
 ·obtain ⟨ds,Qd,Ed,h1,h2,_⟩:=h;rw [h1.len]; exact len _ _ _ h2
 ·obtain ⟨ds,Qd,Ed,h1,h2,h3,h4⟩:=h;obtain ⟨t,ht,d,hd,hq⟩:=hbody cdv A outer s H E hr;refine ⟨t,ht,hd _ _ H H { nx:=fun _=>Qd (.dat .none),rt:=Qd,ex:=Ed } _ h4 (rJ h1) (hq ds Qd Ed h2) ⟨fun δ σ G H' _ S q=>?_,fun v s H' sm r q=>h3 v s H' sm r q,fun _ _ _ _ _ _ z=>z.elim,fun _ _ _ _ _ _ z=>z.elim⟩⟩;exact h3 .non (.dat .none) H' S.oldH .non q
end
def kinds:List String:=["int","bool","str","list","tuple"]
theorem aDh {K:W.Frag} (d:PyData) (n:String) (hn:kinds.contains n = true):W.kitOne K (.type (Bv d)) (.type n) = some (isD n d):=by
 have hm:n = "int"\/n = "bool"\/n = "str"\/n = "list"\/n = "tuple":=by
  simpa [kinds] using hn
 have ht:Bv d = "NoneType"\/Bv d = "bool"\/Bv d = "int"\/Bv d = "str"\/Bv d = "list"\/Bv d = "tuple"\/Bv d = "dict":=by
  cases d <;> simp [Bv]
 have key:∀ t n:String,t ≠ n->(W.kitOne K (.type t) (.type n) = W.kitCls K (.type t) (.type n)):=fun t n h=>by
  unfold W.kitOne;rw [if_neg (by simpa using h)]
 have same:∀ n:String,W.kitOne K (.type n) (.type n) = some true:=fun n=>by
  unfold W.kitOne;rw [if_pos (by simp)]
 unfold isD;generalize Bv d = t at ht;clear hn;rcases ht with rfl | rfl | rfl | rfl | rfl | rfl | rfl <;> rcases hm with rfl | rfl | rfl | rfl | rfl <;>
  first
  | exact same _
  | (rw [key _ _ (by decide)]
     unfold W.kitCls W.subIn
     dsimp only
     rw [if_pos (by decide +kernel)]
     decide +kernel)
section
variable {X:Cx} {pins:List (Addr × Obj)} {σ:L2.St} {H:Hp} {s:Shared}
theorem aDt {A:Around} {Q:Value->Shared->Prop} {Ee:Value->Shared->Prop} {x:V} {d:PyData} {u c:Value} {b:Bool} (I:Inv X pins σ H s) (rx:RelV x u) (h:DV X.K H x d) (e:W.kitOne X.K (.type (Bv d)) c = some b) (hq:∀ tk,Q (.bool b) { s with toks:=tk }) :
  wpAny (model X.prog X.w) A (call (.builtin "isinstance") [u,c]) Q Ee s:=by
 cases h with
 | non=>exact iF I rx .non e hq
 | bl y=>exact iF I rx (.bl y) e hq
 | int y=>exact iF I rx (.int y) e hq
 | str y=>exact iF I rx (.str y) e hq
 | @lst a xs ds hs hd =>
  cases (show u = Value.ref a from rx);obtain ⟨its,r,⟨o,n,ho,hc,_,_⟩,_⟩:=I.list hs;exact W.kia_one W.kitx_list I.kIn ⟨o,ho,hc⟩ e (fun z=>nomatch z) hq
 | @tup a xs ds hs hd =>
  cases (show u = Value.ref a from rx);obtain ⟨its,r,⟨o,ho,hc,n,_⟩,_⟩:=I.tuple hs;exact W.kia_one W.kitx_tuple I.kIn ⟨o,ho,hc⟩ e (fun z=>nomatch z) hq
 | dct hd=>exact iF I rx (.dK hd) e hq
 | dc0 hd=>exact iF I rx (.dK hd) e hq
def aHr (K:W.Frag):List V->Hp->VK->Prop:=fun xs H Q=>∃ x d n,xs = [x,.ty n]/\kinds.contains n = true/\DV K H x d/\Q (.bl (isD n d)) H
theorem uL {K:W.Frag} (hK:X.K = K):gC X (.builtin "isinstance") (aHr K):=by
 subst hK;intro pins s σ H xs us Q I r h;obtain ⟨x,d,n,rfl,hn,hd,q⟩:=h;obtain ⟨u,v,rfl,ru,rv⟩:=tS r;cases (show v = Value.type n from rv);exact aDt I ru hd (aDh d n hn) fun tk=>⟨.bl _,H,I.tok tk,rfl,q⟩
end
section
variable {K:W.Frag} {H₀:Hp} {E:XK} {te ta tb:TE} {da db de:DE} {dl dk:DL} {t:TA}
def aKg (n:String) (de:DE) (ex:DX) (δ:bW) (Q:PyData->Prop):Prop:=de ex δ fun d=>Q (.bool (isD n d))
theorem pZ {n:String} (hn:kinds.contains n = true) (h:kZ K H₀ E te de):fW K H₀ E (Zb (aHr K) (eT te (eT (tC (.ty n)) jW))) (aKg n de):=fun ex δ σ G H Qd Q hx S q k =>
 h ex δ σ G H _ _ hx S q fun x d G1 H1 e1 h1 q1=>⟨x,d,n,rfl,hn,h1,k _ _ G1 H1 e1 (.bl _) q1⟩
def MvD (K:W.Frag) (H₀:Hp) (E:XK) (te:TE) (dl:DL):Prop:=∀ ex δ σ G H Qd Q,kY H₀ E ex->Sees K H₀ G δ σ H->dl ex δ Qd->(∀ a vs ds G' H',Ext G H G' H'->H' a = some (.lst vs)->DVs K G' vs ds->Qd ds->Q (.ref a) H')->te σ H Q
theorem fU (h:xG K H₀ E te dl):MvD K H₀ E te dl:=fun ex δ σ G H Qd Q hx S q k =>
 h ex δ σ G H _ Q hx S q fun a vs ds G' H' e hn hg hh hd qd=>k a vs ds G' H' e hh hd qd
def Qf (i:Nat) (_ex:DX) (δ:bW) (Q:List PyData->Prop):Prop:=match slot δ i with
 | some (.own ds)=>Q ds
 | _=>False
theorem kH (i:Nat):MvD K H₀ E (iG i) (Qf i):=fun ex δ σ G H Qd Q hx S q k=>by
 unfold Qf at q;split at q
 ·rename_i ds hs
  obtain ⟨a,vs,h1,h2,h3,h4⟩:=S.ownAt hs;exact ⟨_,h1,k a vs ds G H S.refl h3 h4 q⟩
 ·exact q.elim
def aKk (dl dk:DL) (ex:DX) (δ:bW) (Q:List PyData->Prop):Prop:=dl ex δ fun xs=>dk ex δ fun ys=>xs.length + ys.length<=1000/\Q (xs ++ ys)
theorem gW (h1:MvD K H₀ E ta dl) (h2:MvD K H₀ E tb dk):xG K H₀ E (xD aHt ta tb) (aKk dl dk):=fun ex δ σ G H Qd Q hx S q k =>
 h1 ex δ σ G H _ _ hx S q fun a vs ds G1 H1 e1 l1 d1 q1=>h2 ex δ σ G1 H1 _ _ hx (S.ext e1) q1 fun b ws es G2 H2 e2 l2 d2 ⟨q2,q3⟩ =>
  ⟨a,b,vs,ws,rfl,rfl,e2.h _ _ l1,l2,le_of_lt (bT (by rw [d1.len,d2.len]; exact q2)),fun p hp=>by
   obtain ⟨e3,g3⟩:=eX (xs:=vs ++ ws) e2.s hp
   have e0:=e1.trans e2
   exact k p _ _ _ _ (e0.trans e3) (e0.h.free hp) g3 bJ ((bQ e2.g d1).append d2) q3⟩
end
section
variable {dl:DL} {dg:DG} {db d1 d2:DS} {e:DEnds} {δ:bW}
theorem jA (h:d1 { e with nx:=d2 e } δ):aJv d1 d2 e δ:=h
theorem cT (I:bW->Prop) (h:d1 { e with nx:=I } δ) (k:∀ δ',I δ'->d2 e δ'):aKj d1 d2 e δ:=⟨I,h,k⟩
theorem qV {α:Type} (f:α->PyData) (xs:List α) (hl:∀ Q,Q (xs.map f)->dl e.ex δ Q) (I:Nat->bW->Prop) (h0:I 0 δ)
  (hs:∀ i x δ',xs[i]? = some x->I i δ'->dg (f x) δ' fun δ2=>db { e with nx:=I (i + 1),ct:=I (i + 1),bk:=e.nx } δ2) (hd:∀ δ',I xs.length δ'->e.nx δ'):aEo dl dg db e δ :=
 hl _ ⟨I,h0,fun i d δ' hi hI=>by
  rw [getElem?_map] at hi
  cases q:xs[i]? with
  | none=>rw [q] at hi; cases hi
  | some x =>
   rw [q] at hi
   cases hi
   exact hs i x δ' q hI,fun δ' hI=>hd δ' (by rw [length_map] at hI; exact hI)⟩
theorem Eb {lo st:Int} {n:Nat} (hl:∀ Q,Q (Ai lo n st)->dl e.ex δ Q) (I:Nat->bW->Prop) (h0:I 0 δ)
  (hs:∀ i δ',i < n->I i δ'->dg (.int (lo + (i:Int) * st)) δ' fun δ2=>db { e with nx:=I (i + 1),ct:=I (i + 1),bk:=e.nx } δ2) (hd:∀ δ',I n δ'->e.nx δ'):aEo dl dg db e δ :=
 hl _ ⟨I,h0,fun i d δ' hi hI=>by
  obtain ⟨h1,rfl⟩:=Cq hi
  exact hs i δ' h1 hI,fun δ' hI=>hd δ' (by rw [yF] at hI; exact hI)⟩
variable {dt:DT} {de:DE} {cap:List (Option Nat)} {ex:DX} {Q:List PyData->Prop}
theorem dY {α β:Type} (f:α->PyData) (g:β->PyData) (F:α->List β) (xs:List α) (hlen:xs.length<=1000) (hl:∀ Q,Q (xs.map f)->dl ex δ Q)
  (hs:∀ x∈xs,∀ N:List PyData->Prop,∀ acc,N (acc ++ (F x).map g)->dg (f x) (oX cap δ) fun δ2=>dt (fun _=>False) δ2 fun b=>if b = true then de (fun _=>False) δ2 fun y=>N (acc ++ [y]) else N acc)
  (hd:Q ((xs.flatMap F).map g)):dLC dl cap dg dt de ex δ Q :=
 hl _ ⟨by rw [length_map]; exact hlen,fun i acc=>acc = ((xs.take i).flatMap F).map g,by simp,fun i d acc hi hI=>by
  rw [getElem?_map] at hi
  cases q:xs[i]? with
  | none=>rw [q] at hi; cases hi
  | some x =>
   rw [q] at hi
   cases hi
   subst hI
   refine hs x (mem_of_getElem? q) (fun acc=>acc = ((xs.take (i + 1)).flatMap F).map g) _ ?_
   have e:xs.take (i + 1) = xs.take i ++ [x]:=by
    rw [take_add_one,q]; rfl
   rw [e]
   simp,fun acc hI=>by
  subst hI
  rw [length_map,take_of_length_le (le_refl _)]
  exact hd⟩
end
abbrev DXS:=bW->Addr->Prop
abbrev DSX:=DEnds->DXS->bW->Prop
structure LkX (K:W.Frag) (H₀ G:Hp) (xd:DXS) (XE:XS):Prop where
 ex:∀ δ σ C G' H,Same G G'->Sees K H₀ G' δ σ H->xd δ C->XE σ (.ref C) none H
abbrev nox (e:DEnds):DEnds:={ e with ex:=fun _=>False }
section
variable {K:W.Frag} {H₀:Hp} {E:XK} {t:TA} {dl:DL} {ts:TS} {ds:DS} {tb tc:TSX} {db dc:DSX}
def Bh (i:Nat) (e:DEnds):DEnds:={ nx:=fun δ=>e.nx (put none i δ),rt:=e.rt,ex:=fun _=>False,bk:=fun δ=>e.bk (put none i δ),ct:=fun δ=>e.ct (put none i δ) }
end
def aLq:DW:=fun ds Q _=>∃ ns:List Int,ds = [.list (ns.map .int)]/\ns.length<=63/\(∀ v∈ns,Builtin.Int.intBits v<=1048576)/\Q (.dat (.bool true))
theorem qK {K:W.Frag} {H:Hp}:∀ ns:List Int,DVs K H (ns.map V.int) (ns.map PyData.int)
 | []=>.nil
 | n :: ns=>.cons (.int n) (qK ns)
theorem aDd {P:Program} {w:World} {K:W.Frag} {mg:Str->Option Value} {base:Heap} {k:Nat} {f:Addr} {fd:FuncData} {ps:List Str} (F:FnOk P w K mg base (eA P w) k f fd ps (fO K aLq)):FnOk P w K mg base (eA P w) k f fd ps (Ch K) :=
 F.imp fun vs H Q E ⟨a,ns,e,hS,hl,hb,_,q⟩=>by
  subst e;refine ⟨[.list (ns.map .int)],fun s=>s = .dat (.bool true),fun _=>False,.cons (.lst hS (qK ns)) .nil,⟨ns,rfl,hl,hb,rfl⟩,fun v s H' _ r hs=>?_,fun _ _ _ z=>z.elim⟩;subst hs;cases kQ r;exact q H'
section
variable {X:Cx} {pins:List (Addr × Obj)} {σ:L2.St} {H:Hp} {s:Shared} {h':Heap}
theorem eP {t':Nat} {ws:List Addr} (I:Inv X pins σ H s) (k:∀ b o,b ∉ ws->s.heap.get? b = some o->h'.get? b = some o) (f:∀ b∈ws,kX X pins H b):Inv X pins σ H { s with heap:=h',toks:=t' }:=by
 have nit:∀ b u,H b = some u->b ∉ ws:=fun b u e z=>by rw [(f b z).1] at e; cases e
 refine I.step (g':=s.gens) (d':=s.drawn) (ch:=ws) (fun b hb=>⟨(f b hb).2.2.2.1,(f b hb).2.1,(f b hb).2.2.2.2.1,(f b hb).2.2.2.2.2⟩) (fun b o _ _ hc e _=>k b o hc e) (fun b o _ _ hc e _=>⟨o.slots,k b o hc e⟩) (fun _ _ _ _ n=>n)
  (fun b o hc e=>⟨o,k b o hc e⟩) (fun _ _ e=>e) (fun _ _ _ e=>e) (fun b ps e=>⟨#[],by rw [e]; simp⟩) (fun m hm=>?_) (fun b u e=>?_) I.bare
 ·obtain ⟨o,es,ep,ho,r⟩:=hm;exact ⟨o,es,ep,k _ o (fun z=>(f _ z).2.1 rfl) ho,r⟩
 ·refine (I.hok b u e).stay (fun c v hc q=>k c v ?_ q) (fun _ q=>q) fun _ _ q=>q;rcases hc with z | z
  ·rw [z]; exact nit b u e
  ·exact nit c _ z
theorem Dx {T:Addr} {xs:List V} {its:List Value} (I:Inv X pins σ H s) (f:kX X pins H T) (h0:X.s₀.heap.objs.size<=T) (hT:s.heap.IsTuple T its.toArray) (r:Vals xs its) (hz:xs.length<=sizeLine):Inv X pins σ (cX H T (.tup xs)) s:=by
 obtain ⟨f0,f1,f2,f3,f4,f5⟩:=f;have neH:∀ b o,H b = some o->b ≠ T:=fun b o e z=>by rw [z,f0] at e; cases e
 refine ⟨I.ok,I.os,I.bare,⟨I.base.keep,I.base.slot,fun b o e n hb=>?_,I.base.there,fun b xs e=>?_,fun b o u e=>?_,fun b ps e=>?_⟩,I.loc,I.cell,?_,fun y c e=>?_,fun p hp=>?_,fun b o e=>?_,I.len⟩
 ·rw [bD (ne_of_lt (lt_of_lt_of_le (lt_size e) h0))];exact I.base.free b o e n hb
 ·have q:=I.base.tups b xs e;rw [bD (neH b _ q)]; exact q
 ·have q:=I.base.frzs b o u e;rw [bD (neH b _ q)]; exact q
 ·obtain ⟨m,q⟩:=I.base.tbls b ps e;exact ⟨m,by rw [bD (neH b _ q)]; exact q⟩
 ·rw [bD (Ne.symm f1)]; exact I.free
 ·rw [bD (f4 y c e)]; exact I.freeC y c e
 ·obtain ⟨e,n,r⟩:=I.pin p hp;exact ⟨e,by rw [bD (f5 p hp)]; exact n,r⟩
 ·by_cases hb:b = T
  ·subst hb;rw [bJ] at e; cases e;exact ⟨hz,its,r,hT⟩
  ·rw [bD hb] at e;exact (I.hok b o e).stay (fun c v _ q=>q) (fun c q=>by rw [bD (neH c _ q)]; exact q) fun c xs q=>by rw [bD (neH c _ q)]; exact q
end
def Itz (K:W.Frag) (a b:Addr):It :=
 ⟨fun i H=>∃ xs ys,SqL K H a xs/\SqL K H b ys/\i < xs.length/\i < ys.length,
  fun i H x H'=>∃ T u v,x = .ref T/\H T = none/\H' = cX H T (.tup [u,v])/\(∀ xs,SqL K H a xs->xs[i]? = some u)/\∀ ys,SqL K H b ys->ys[i]? = some v,
  fun i H=>∃ xs ys,SqL K H a xs/\SqL K H b ys/\(xs.length<=i\/ys.length<=i)⟩
theorem Ix {P:Program} {w:World} {K:PySem.W.Frag} {elts:List Expr} {k:Nat} {pos:Pos} {z TI TO i1 i2 l1 l2:Addr} (D:ZipApart z TI TO i1 i2 l1 l2) :
  Turn P w K (.Tuple elts k pos) (Itz K l1 l2) [z,TI,TO,i1,i2] z (fun i h=>IsZip h z TI TO .none/\IsPair h TI (.ref i1) (.ref i2)/\(∃ a b,IsPair h TO a b)/\h.IsListIter i1 l1 i/\h.IsListIter i2 l2 i) where
 mem:=by simp
 obj:=fun i h st b hb=>by
  obtain ⟨hz,hTI,⟨x,y,hTO⟩,⟨o1,e1,_,d1⟩,⟨o2,e2,_,d2⟩⟩:=st;simp only [mem_cons,not_mem_nil,or_false] at hb;rcases hb with rfl | rfl | rfl | rfl | rfl
  ·exact ⟨_,hz,fun v q=>by cases q⟩
  ·exact ⟨_,hTI,fun v q=>by cases q⟩
  ·exact ⟨_,hTO,fun v q=>by cases q⟩
  ·exact ⟨o1,e1,fun v q=>by rw [d1] at q; cases q⟩
  ·exact ⟨o2,e2,fun v q=>by rw [d2] at q; cases q⟩
 keep:=fun i h h' st kp=>by
  obtain ⟨hz,hTI,⟨x,y,hTO⟩,h1,h2⟩:=st;exact ⟨kp z (by simp) _ hz,kp TI (by simp) _ hTI,⟨x,y,kp TO (by simp) _ hTO⟩,h1.at fun o e=>kp i1 (by simp) o e,h2.at fun o e=>kp i2 (by simp) o e⟩
 item:=by
  intro X hP hw hK hc i pins s σ H E I hf st hg;subst hP hw hK;obtain ⟨xs,ys,q1,q2,g1,g2⟩:=hg;obtain ⟨its1,rv1,p1,z1⟩:=I.list q1;obtain ⟨its2,rv2,p2,z2⟩:=I.list q2;obtain ⟨hz,hTI,⟨x0,y0,hTO⟩,h1,h2⟩:=st;have W:=WalksT.zip2 (prog:=X.prog) (w:=X.w) (A:=X.A) (I.ok.hd hc) z TI TO i1 i2 l1 l2 D its1.toArray its2.toArray;have L1:=rv1.length;have L2:=rv2.length;refine W.item i s _ _ (by simp only [size_toArray]; omega) ⟨hz,hTI,⟨_,_,hTO⟩,h1,h2,p1.isList,p2.isList⟩ fun T vals h' tk hv hsz hT hmid kk=>?_;obtain ⟨x,y,hx,hy,rfl⟩:=hv;refine ⟨_,rfl,W.go elts k pos i T { s with heap:=h',toks:=tk } _ _ hmid fun h3 hst kk3=>?_⟩;obtain ⟨u,e1⟩:∃ u,xs[i]? = some u:=⟨xs[i],getElem?_eq_getElem g1⟩;obtain ⟨v,e2⟩:∃ v,ys[i]? = some v:=⟨ys[i],getElem?_eq_getElem g2⟩;obtain ⟨x',e3,r1⟩:=rv1.get e1;obtain ⟨y',e4,r2⟩:=rv2.get e2;have ex:x' = x:=by
   have:its1[i]? = some x:=by simpa using hx
   rw [e3] at this; exact Option.some.inj this
  have ey:y' = y:=by
   have:its2[i]? = some y:=by simpa using hy
   rw [e4] at this; exact Option.some.inj this
  subst ex; subst ey
  have fw:∀ b∈[z,TO,i1,i2],kX X pins H b:=fun b hb=>hf b (by
   simp only [mem_cons,not_mem_nil,or_false] at hb ⊢
   rcases hb with rfl | rfl | rfl | rfl <;> simp)
  have I1:Inv X pins σ H { s with heap:=h',toks:=tk }:=eP I kk fw;have I2:Inv X pins σ H { s with heap:=h3,toks:=tk }:=eP (s:={ s with heap:=h',toks:=tk }) I1 kk3 fw;have nT:=W.apart i T h' hmid;have hT3:h3.IsTuple T #[x',y']:=by
   obtain ⟨o,ho,r⟩:=hT;exact ⟨o,kk3 T o nT ho,r⟩
  have fT:kX X pins H T:=I.fpOk hsz (I.hok.fresh hsz);have I3:=Dx (xs:=[u,v]) (its:=[x',y']) I2 fT (le_trans I.sz hsz) hT3 (.cons r1 (.cons r2 .nil)) (le_of_lt (bT (by show 2<=1000; decide)));refine ⟨.ref T,cX H T (.tup [u,v]),I3,rfl,⟨T,u,v,rfl,fT.1,rfl,fun xs' h=>by rw [I.list_inj h q1]; exact e1,fun ys' h=>by rw [I.list_inj h q2]; exact e2⟩,⟨hst.1,hst.2.1,hst.2.2.1,hst.2.2.2.1,hst.2.2.2.2.1⟩,fun b hb=>?_⟩;rw [bD]
  ·exact (hf b hb).1
  ·intro e;subst e;have:∃ o,s.heap.get? b = some o:=by
    simp only [mem_cons,not_mem_nil,or_false] at hb;rcases hb with rfl | rfl | rfl | rfl | rfl
    ·exact ⟨_,hz⟩
    ·exact ⟨_,hTI⟩
    ·exact ⟨_,hTO⟩
    ·obtain ⟨o,e,_⟩:=h1; exact ⟨o,e⟩
    ·obtain ⟨o,e,_⟩:=h2; exact ⟨o,e⟩
   obtain ⟨o,e⟩:=this;exact absurd (lt_size e) (not_lt.mpr hsz)
 done:=by
  intro X hP hw hK hc i pins s σ H E I hf st hg;subst hP hw hK;obtain ⟨xs,ys,q1,q2,g⟩:=hg;obtain ⟨its1,rv1,p1,z1⟩:=I.list q1;obtain ⟨its2,rv2,p2,z2⟩:=I.list q2;obtain ⟨hz,hTI,⟨x0,y0,hTO⟩,h1,h2⟩:=st;have L1:=rv1.length;have L2:=rv2.length;refine wpAny_pyNext_zip_end (I.ok.hd hc) D hz hTI hTO h1 h2 p1.isList p2.isList ?_ fun h' hk=>⟨rfl,?_⟩
  ·rcases g with g | g
   ·exact .inl (by simp; omega)
   ·exact .inr (by simp; omega)
  ·exact eP (t':=s.toks) (ws:=[z,TO,i1,i2]) I (fun b o hb e=>hk b o (fun x=>hb (by simp [x])) (fun x=>hb (by simp [x])) (fun x=>hb (by simp [x])) (fun x=>hb (by simp [x])) e) fun b hb=>hf b (by
    simp only [mem_cons,not_mem_nil,or_false] at hb ⊢
    rcases hb with rfl | rfl | rfl | rfl <;> simp)
 self:=fun _ _ _ _ _ st h=>wpAny_pyIter_zip st.1 h
theorem Qx:bootBuiltins "zip" = some (.type "zip"):=by decide +kernel
theorem sX:bootBuiltins "enumerate" = some (.type "enumerate"):=by decide +kernel
section
variable {X:Cx} {K:W.Frag}
def aDw (K:W.Frag) (t:TA):TI:=fun σ H R=>t σ H fun vs H1=>∃ a b,vs = [.ref a,.ref b]/\(∃ xs,SqL K H1 a xs)/\(∃ ys,SqL K H1 b ys)/\R (Itz K a b) H1
theorem rR {elts:List Expr} {k:Nat} {tpos:Pos} {a b:Expr} {ta:TA} {p pos:Pos} (hK:X.K = K) (hg:Gl X "zip") (hm:X.mg "zip" = none) (ha:PA X [a,b] ta) (hs:starEach [a,b] X.env = [(false,eval a X.env),(false,eval b X.env)]:=by rfl) (hs2:starEach [b] X.env = [(false,eval b X.env)]:=by rfl) :
  PI X (.Tuple elts k tpos) (.Call (.Name "zip" p) [a,b] [] pos) (aDw K ta):=by
 subst hK;intro pins s σ H R I h;refine Call_ (lR I hg hm Qx (PyProof.Rows.callWith_type1 (dO (ha pos pins s σ H _ I h) fun us s1 ⟨vs,H1,I1,r1,q1⟩=>?_) (by rw [hs,hs2]) (by rw [hs2]; rfl)));obtain ⟨a',b',e,⟨xs,g1⟩,⟨ys,g2⟩,q⟩:=q1;subst e;obtain ⟨u,v,rfl,ru,rv⟩:=tS r1;cases ru; cases rv;obtain ⟨its1,rv1,p1,z1⟩:=I1.list g1;obtain ⟨its2,rv2,p2,z2⟩:=I1.list g2;have a1:a' < s1.heap.objs.size:=by obtain ⟨_,e,_⟩:=p1.isList; exact lt_size e
 have a2:b' < s1.heap.objs.size:=by obtain ⟨_,e,_⟩:=p2.isList; exact lt_size e
 refine call_zip_2 p1.isList p2.isList fun h' hz hTI hTO hi1 hi2 _ hk=>wpAny_pyIter_zip hz ?_;refine ⟨s1.heap.objs.size + 4,[s1.heap.objs.size + 4,s1.heap.objs.size + 2,s1.heap.objs.size + 3,s1.heap.objs.size,s1.heap.objs.size + 1],_,_,H1,rfl,I1.kept (t':=s1.toks) hk,Ix (zipApart_new a1 a2),⟨hz,hTI,⟨_,_,hTO⟩,hi1,hi2⟩,fun b hb=>?_,q⟩;have hb2:s1.heap.objs.size<=b:=by
  simp only [mem_cons,not_mem_nil,or_false] at hb;rcases hb with rfl | rfl | rfl | rfl | rfl <;> omega
 exact I1.fpOk hb2 (I1.hok.fresh hb2)
end
def Ite (K:W.Frag) (a:Addr):It :=
 ⟨fun i H=>∃ xs,SqL K H a xs/\i < xs.length,
  fun i H x H'=>∃ T u,x = .ref T/\H T = none/\H' = cX H T (.tup [.int (i:Int),u])/\∀ xs,SqL K H a xs->xs[i]? = some u,
  fun i H=>∃ xs,SqL K H a xs/\xs.length<=i⟩
theorem Fo {P:Program} {w:World} {K:PySem.W.Frag} {elts:List Expr} {k:Nat} {pos:Pos} {e it l:Addr} (hei:e ≠ it) (hle:l ≠ e) (hli:l ≠ it) :
  Turn P w K (.Tuple elts k pos) (Ite K l) [e,it] e (fun i h=>(∃ old,IsEnum h e it i old)/\h.IsListIter it l i) where
 mem:=by simp
 obj:=fun i h st b hb=>by
  obtain ⟨⟨old,he⟩,⟨o1,e1,_,d1⟩⟩:=st;simp only [mem_cons,not_mem_nil,or_false] at hb;rcases hb with rfl | rfl
  ·exact ⟨_,he,fun v q=>by cases q⟩
  ·exact ⟨o1,e1,fun v q=>by rw [d1] at q; cases q⟩
 keep:=fun i h h' st kp=>by
  obtain ⟨⟨old,he⟩,h1⟩:=st;exact ⟨⟨old,kp e (by simp) _ he⟩,h1.at fun o x=>kp it (by simp) o x⟩
 item:=by
  intro X hP hw hK hc i pins s σ H E I hf st hg;subst hP hw hK;obtain ⟨xs,q1,g1⟩:=hg;obtain ⟨its1,rv1,p1,z1⟩:=I.list q1;obtain ⟨⟨old,he⟩,h1⟩:=st;have W:=WalksT.enumerate (prog:=X.prog) (w:=X.w) (A:=X.A) (I.ok.hd hc) e it l hei hle hli its1.toArray;have L1:=rv1.length;refine W.item i s _ _ (by simp only [size_toArray]; omega) ⟨⟨old,he⟩,h1,p1.isList⟩ fun T vals h' tk hv hsz hT hmid kk=>?_;obtain ⟨t,x,hx,rfl⟩:=hv;refine ⟨_,rfl,W.go elts k pos i T { s with heap:=h',toks:=tk } _ _ hmid fun h3 hst kk3=>?_⟩;obtain ⟨u,e1⟩:∃ u,xs[i]? = some u:=⟨xs[i],getElem?_eq_getElem g1⟩;obtain ⟨x',e3,r1⟩:=rv1.get e1;have ex:x' = x:=by
   have:its1[i]? = some x:=by simpa using hx
   rw [e3] at this; exact Option.some.inj this
  subst ex;have I1:Inv X pins σ H { s with heap:=h',toks:=tk }:=eP I kk hf;have I2:Inv X pins σ H { s with heap:=h3,toks:=tk }:=eP (s:={ s with heap:=h',toks:=tk }) I1 kk3 hf;have nT:=W.apart i T h' hmid;have hT3:h3.IsTuple T #[.int i t,x']:=by
   obtain ⟨o,ho,r⟩:=hT;exact ⟨o,kk3 T o nT ho,r⟩
  have fT:kX X pins H T:=I.fpOk hsz (I.hok.fresh hsz);have I3:=Dx (xs:=[.int (i:Int),u]) (its:=[.int i t,x']) I2 fT (le_trans I.sz hsz) hT3 (.cons ⟨t,rfl⟩ (.cons r1 .nil)) (le_of_lt (bT (by show 2<=1000; decide)));refine ⟨.ref T,cX H T (.tup [.int (i:Int),u]),I3,rfl,⟨T,u,rfl,fT.1,rfl,fun xs' h=>by rw [I.list_inj h q1]; exact e1⟩,⟨hst.1,hst.2.1⟩,fun b hb=>?_⟩;rw [bD]
  ·exact (hf b hb).1
  ·intro e';subst e';have:∃ o,s.heap.get? b = some o:=by
    simp only [mem_cons,not_mem_nil,or_false] at hb;rcases hb with rfl | rfl
    ·exact ⟨_,he⟩
    ·obtain ⟨o,e,_⟩:=h1; exact ⟨o,e⟩
   obtain ⟨o,e⟩:=this;exact absurd (lt_size e) (not_lt.mpr hsz)
 done:=by
  intro X hP hw hK hc i pins s σ H E I hf st hg;subst hP hw hK;obtain ⟨xs,q1,g⟩:=hg;obtain ⟨its1,rv1,p1,z1⟩:=I.list q1;obtain ⟨⟨old,he⟩,h1⟩:=st;have L1:=rv1.length;exact wpAny_pyNext_enum_end (I.ok.hd hc) he h1 p1.isList (by simp; omega) fun h' hx=>⟨rfl,eP (t':=s.toks) (ws:=[e,it]) I (fun b o hb y=>hx b o (fun e'=>hb (by simp [e'])) y) hf⟩
 self:=fun _ _ _ _ _ st h=>by
  obtain ⟨⟨old,he⟩,_⟩:=st;exact wpAny_pyIter_enum he h
section
variable {X:Cx} {K:W.Frag}
def Wy (K:W.Frag) (t:TA):TI:=fun σ H R=>t σ H fun vs H1=>∃ a,vs = [.ref a]/\(∃ xs,SqL K H1 a xs)/\R (Ite K a) H1
theorem vU {elts:List Expr} {k:Nat} {tpos:Pos} {a:Expr} {ta:TA} {p pos:Pos} (hK:X.K = K) (hg:Gl X "enumerate") (hm:X.mg "enumerate" = none) (ha:PA X [a] ta) (hs:starEach [a] X.env = [(false,eval a X.env)]:=by rfl) :
  PI X (.Tuple elts k tpos) (.Call (.Name "enumerate" p) [a] [] pos) (Wy K ta):=by
 subst hK;intro pins s σ H R I h;refine Call_ (lR I hg hm sX (PyProof.Rows.callWith_type1 (dO (ha pos pins s σ H _ I h) fun us s1 ⟨vs,H1,I1,r1,q1⟩=>?_) (by rw [hs]; rfl) (by rfl)));obtain ⟨a',e,⟨xs,g1⟩,q⟩:=q1;subst e;obtain ⟨u,rfl,ru⟩:=iR r1;cases ru;obtain ⟨its1,rv1,p1,z1⟩:=I1.list g1;have a1:a' < s1.heap.objs.size:=by obtain ⟨_,e,_⟩:=p1.isList; exact lt_size e
 refine call_enumerate_list p1.isList fun h' hz hi1 _ hk=>wpAny_pyIter_enum hz ?_;refine ⟨s1.heap.objs.size + 1,[s1.heap.objs.size + 1,s1.heap.objs.size],_,_,H1,rfl,I1.kept (t':=s1.toks) hk,Fo (e:=s1.heap.objs.size + 1) (it:=s1.heap.objs.size) (l:=a') (Nat.succ_ne_self _) (ne_of_lt (Nat.lt_succ_of_lt a1)) (ne_of_lt a1),⟨⟨_,hz⟩,hi1⟩,fun b hb=>?_,q⟩;have hb2:s1.heap.objs.size<=b:=by
  simp only [mem_cons,not_mem_nil,or_false] at hb;rcases hb with rfl | rfl <;> omega
 exact I1.fpOk hb2 (I1.hok.fresh hb2)
end
section
variable {K:W.Frag} {H₀:Hp} {E:XK} {te ta tb:TE} {da db de:DE} {dl dk:DL} {t:TA}
def pairD:List PyData->List PyData->List PyData
 | x :: xs,y :: ys=>.tuple [x,y] :: pairD xs ys
 | _,_=>[]
theorem uD:∀ xs ys:List PyData,(pairD xs ys).length = min xs.length ys.length
 | [],_=>by simp [pairD]
 | _ :: _,[]=>by simp [pairD]
 | x :: xs,y :: ys=>by simp [pairD,uD xs ys]
theorem yM:∀ {xs ys:List PyData} {i:Nat} {d:PyData},(pairD xs ys)[i]? = some d->∃ x y,xs[i]? = some x/\ys[i]? = some y/\d = .tuple [x,y]
 | [],_,_,_,h=>by simp [pairD] at h
 | _ :: _,[],_,_,h=>by simp [pairD] at h
 | x :: xs,y :: ys,0,d,h=>⟨x,y,rfl,rfl,by simpa [pairD] using h.symm⟩
 | x :: xs,y :: ys,i + 1,d,h=>by
  obtain ⟨u,v,h1,h2,h3⟩:=yM (xs:=xs) (ys:=ys) (i:=i) (d:=d) (by simpa [pairD] using h);exact ⟨u,v,by simpa using h1,by simpa using h2,h3⟩
def aJs (dl dk:DL) (ex:DX) (δ:bW) (Q:List PyData->Prop):Prop:=dl ex δ fun xs=>dk ex δ fun ys=>Q (pairD xs ys)
theorem aDq {a b:Addr} {vs ws:List V} {xs ys:List PyData} {G H:Hp} (s:Sub G H) (h1:SqL K H a vs) (h2:SqL K H b ws) (d1:DVs K G vs xs) (d2:DVs K G ws ys) (i:Nat) :
  (∀ d,(pairD xs ys)[i]? = some d->(Itz K a b).go i H/\∀ x H2,(Itz K a b).yld i H x H2->∃ G2,Ext G H G2 H2/\DV K G2 x d)/\((pairD xs ys).length<=i->(Itz K a b).stop i H):=by
 refine ⟨fun d hi=>?_,fun hi=>⟨vs,ws,h1,h2,?_⟩⟩
 ·obtain ⟨x,y,e1,e2,rfl⟩:=yM hi;obtain ⟨u,f1,f2⟩:=d1.at e1;obtain ⟨v,g1,g2⟩:=d2.at e2;refine ⟨⟨vs,ws,h1,h2,(List.getElem?_eq_some_iff.mp f1).1,(List.getElem?_eq_some_iff.mp g1).1⟩,fun z H2 ⟨T,u',v',e3,hT,e4,k1,k2⟩=>?_⟩;subst e3 e4;have q1:=k1 vs h1;have q2:=k2 ws h2;rw [f1] at q1; rw [g1] at q2;cases q1; cases q2;have e:=qW (xs:=[u,v]) s hT;exact ⟨_,e,.tup (SqT.of bJ) (.cons (cL e.g f2) (.cons (cL e.g g2) .nil))⟩
 ·rw [uD] at hi;have:=d1.len;have:=d2.len;omega
theorem wL (h1:Rq K H₀ E ta dl) (h2:Rq K H₀ E tb dk):IvE K H₀ E (aDw K (eT ta (eT tb jW))) (aJs dl dk):=fun ex δ σ G H Qd R hx S q k =>
 h1 ex δ σ G H _ _ hx S q fun a vs xs G1 H1 e1 a1 a2 q1=>h2 ex δ σ G1 H1 _ _ hx (S.ext e1) q1 fun b ws ys G2 H2 e2 b1 b2 q2 =>
  ⟨a,b,rfl,⟨vs,e2.h.seq a1⟩,⟨ws,b1⟩,k _ _ G2 H2 (e1.trans e2) (fun G' H' e i=>aDq e.s (e.h.seq (e2.h.seq a1)) (e.h.seq b1) (bQ e.g (bQ e2.g a2)) (bQ e.g b2) i) q2⟩
def mK:Nat->List PyData->List PyData
 | _,[]=>[]
 | k,x :: xs=>.tuple [.int (k:Int),x] :: mK (k + 1) xs
theorem uR:∀ (k:Nat) (xs:List PyData),(mK k xs).length = xs.length
 | _,[]=>rfl
 | k,x :: xs=>by simp [mK,uR (k + 1) xs]
theorem zJ:∀ {k:Nat} {xs:List PyData} {i:Nat} {d:PyData},(mK k xs)[i]? = some d->∃ x,xs[i]? = some x/\d = .tuple [.int ((k + i:Nat):Int),x]
 | _,[],_,_,h=>by simp [mK] at h
 | k,x :: xs,0,d,h=>⟨x,rfl,by simpa [mK] using h.symm⟩
 | k,x :: xs,i + 1,d,h=>by
  obtain ⟨u,h1,h2⟩:=zJ (k:=k + 1) (xs:=xs) (i:=i) (d:=d) (by simpa [mK] using h);refine ⟨u,by simpa using h1,?_⟩;rw [h2];have e:k + 1 + i = k + (i + 1):=by omega
  rw [e]
def Xq (dl:DL) (ex:DX) (δ:bW) (Q:List PyData->Prop):Prop:=dl ex δ fun xs=>Q (mK 0 xs)
theorem aDr {a:Addr} {vs:List V} {xs:List PyData} {G H:Hp} (s:Sub G H) (h1:SqL K H a vs) (d1:DVs K G vs xs) (i:Nat) :
  (∀ d,(mK 0 xs)[i]? = some d->(Ite K a).go i H/\∀ x H2,(Ite K a).yld i H x H2->∃ G2,Ext G H G2 H2/\DV K G2 x d)/\((mK 0 xs).length<=i->(Ite K a).stop i H):=by
 refine ⟨fun d hi=>?_,fun hi=>⟨vs,h1,?_⟩⟩
 ·obtain ⟨x,e1,rfl⟩:=zJ hi;obtain ⟨u,f1,f2⟩:=d1.at e1;refine ⟨⟨vs,h1,(List.getElem?_eq_some_iff.mp f1).1⟩,fun z H2 ⟨T,u',e3,hT,e4,k1⟩=>?_⟩;subst e3 e4;have q1:=k1 vs h1;rw [f1] at q1;cases q1;have e:=qW (xs:=[.int (i:Int),u]) s hT;rw [Nat.zero_add];exact ⟨_,e,.tup (SqT.of bJ) (.cons (.int _) (.cons (cL e.g f2) .nil))⟩
 ·rw [uR] at hi;rw [d1.len]; exact hi
theorem Ut (h1:fW K H₀ E ta da):IvS K H₀ E (Wy K (eT ta jW)) (Xq (Vj da)):=fun ex δ σ G H Qd R hx S q k =>
 h1 ex δ σ G H _ _ hx S q fun v d G1 H1 e1 hd q1=>by
  cases d with
  | list xs =>
   obtain ⟨a,vs,rfl,a1,a2⟩:=eJ hd;exact ⟨a,rfl,⟨vs,e1.s.same.seq a1⟩,k _ _ G1 H1 e1 (fun G' H' s1 s2 i=>aDr s2 (s2.same.seq (s1.seq a1)) (bQ s1 a2) i) q1⟩
  | _=>exact q1.elim
end
open PySem.W
def aNh {α:Type} (N:Nat) (P:α->Prop):KasT α->Prop
 | .ret a=>P a
 | .ask i j k=>i < N/\j < N/\∀ b,aNh N P (k b)
section
variable {X:Cx} {K:W.Frag}
theorem boot_sorted:bootBuiltins "sorted" = some (.builtin "sorted"):=by decide +kernel
end
section
variable {K:W.Frag} {H₀:Hp} {E:XK} {te ta:TE} {de da:DE} {dl:DL}
abbrev pr (q:Int × Int):PyData:=.tuple [.int q.1,.int q.2]
end
section
variable {X:Cx}
def Ct:V->List V->Hp->VK->Prop:=fun x vs H Q=>∃ l xs i y,x = .ref l/\vs = [.int i,y]/\H l = some (.lst xs)/\0<=i/\i<=(xs.length:Int)/\xs.length < sizeLine/\Q .non (cX H l (.lst (xs.take i.toNat ++ y :: xs.drop i.toNat)))
theorem Gk:MtM X "list.insert" Ct:=by
 intro pins s σ H x vs v us Q I rx rv h;obtain ⟨l,xs,i,y,rfl,rfl,hH,h0,h1,hz,q⟩:=h;cases rx;obtain ⟨u,w',rfl,⟨t,rfl⟩,ru⟩:=tS rv;obtain ⟨z,its,n,r,hl,e⟩:=I.lstM hH;have hlen:=r.length;have hn:=mX;refine call_meets F.slot_list_insert ⟨_,e,rfl⟩ F.entry_list_insert (F.args_list_insert_3 _ _ _) (PySem.AutoListH.list_insert_list_int_val_1 l its.toArray n i t w' (by simp [Builtin.List.listFitsIndex]; omega) (by rw [size_toArray]; omega)) ⟨e,?_⟩;refine ⟨.non,_,I.lset (its':=its.take i.toNat ++ w' :: its.drop i.toNat) hH e ?_ ((r.take _).append (.cons ru (r.drop _))) ?_,rfl,q⟩
 ·have e1:¬ i < 0:=by omega
  have e2:min i.toNat its.length = i.toNat:=by omega
  simp only [e1,if_false,size_toArray,e2];apply Array.ext';simp [take_of_length_le]
 ·rw [length_append,length_cons,length_take,length_drop];omega
end
section
variable {K:W.Frag} {H₀:Hp} {E:XK} {te ta:TE} {de da:DE} {dl:DL}
def aEm (i:Nat) (da de:DE) (e:DEnds) (δ:bW):Prop:=match slot δ i with
 | some (.own ds)=>da e.ex δ fun x=>(match x with
  | .int k=>de e.ex δ fun d=>0<=k/\k<=(ds.length:Int)/\ds.length < 1000/\e.nx (put (some (.own (ds.take k.toNat ++ d :: ds.drop k.toNat))) i δ)
  | _=>False)
 | _=>False
theorem Zc (i:Nat) (ha:kZ K H₀ E ta da) (h:fW K H₀ E te de):jD K H₀ E (xS (tBM K "list" Ct (iG i) (eT ta (eT te jW)))) (aEm i da de):=fun δ σ G H e D hx S q L=>by
 unfold aEm at q;split at q
 ·rename_i ds hs
  obtain ⟨a,vs,h1,h2,h3,h4⟩:=S.ownAt hs;refine ⟨_,h1,.inl ⟨rfl,_,SqL.of h3⟩,ha e.ex δ σ G H _ _ hx S q fun v d G' H' x hd qd=>?_⟩;cases d with
  | int k =>
   cases cK hd;refine h e.ex δ σ G' H' _ _ hx (S.ext x) qd fun v2 d2 G2 H2 x2 hd2 q2=>?_;obtain ⟨q0,q1,q3,q4⟩:=q2;have x3:=x.trans x2;have S':=S.ext x3;have hl:=h4.len;exact ⟨a,vs,k,v2,rfl,rfl,x3.h _ _ h3,q0,by rw [hl]; exact q1,bT (by rw [hl]; omega),L.nx _ _ G2 _ x3.g (S'.updO hs h1 (((bQ x3.g h4).take _).append (.cons hd2 ((bQ x3.g h4).drop _)))) q4⟩
  | _=>exact qd.elim
 ·exact q.elim
end
section
variable {K:W.Frag} {H₀:Hp} {E:XK} {ta tb:TE} {db:DE} {dl:DL}
def aJx (dl:DL) (db:DE) (ex:DX) (δ:bW) (Q:List PyData->Prop):Prop:=dl ex δ fun xs=>db ex δ fun y=>match y with
 | .int k=>(-(2 ^ 63)<=k/\k < 2 ^ 63)/\xs.length * k.toNat<=1000/\Q (replicate k.toNat xs).flatten
 | _=>False
theorem Ef {G:Hp} {vs:List V} {ds:List PyData} (h:DVs K G vs ds):∀ n:Nat,DVs K G (replicate n vs).flatten (replicate n ds).flatten
 | 0=>.nil
 | n + 1=>by
  rw [replicate_succ,replicate_succ,flatten_cons,flatten_cons];exact h.append (Ef h n)
theorem vX (h1:MvD K H₀ E ta dl) (h2:kZ K H₀ E tb db):xG K H₀ E (xD aHp ta tb) (aJx dl db):=fun ex δ σ G H Qd Q hx S q k =>
 h1 ex δ σ G H _ _ hx S q fun a vs ds G1 H1 e1 l1 d1 q1=>h2 ex δ σ G1 H1 _ _ hx (S.ext e1) q1 fun y dy G2 H2 e2 hy q2=>by
  cases dy with
  | int j =>
   cases cK hy;obtain ⟨⟨b1,b2⟩,q2,q3⟩:=q2;refine ⟨a,j,vs,rfl,rfl,e2.h _ _ l1,b1,b2,le_of_lt (bT (by rw [d1.len]; exact q2)),fun p hp=>?_⟩;obtain ⟨e3,g3⟩:=eX (xs:=(replicate j.toNat vs).flatten) e2.s hp;have e0:=e1.trans e2;exact k p _ _ _ _ (e0.trans e3) (e0.h.free hp) g3 bJ (Ef (bQ e2.g d1) _) q3
  | _=>exact q2.elim
end
theorem tK {K:W.Frag} {a:Addr} {od:Option Addr} {n:Nat} {sl:Array (Option Value)} {its:Array Value} {xs:List V} {ds:List PyData} (h:K.lookup a = some ⟨.type "tuple",od,.seq its n,sl⟩) (hz:its.size<=sizeLine) (r:Vals xs its.toList) (d:∀ H,DVs K H xs ds) (H:Hp):DV K H (.ref a) (.tuple ds) :=
 .tup (.inr ⟨_,its,n,h,rfl,rfl,hz,r⟩) (d H)
def Pl:Enc { x:Str // PyData.strOk x = true }:=⟨fun x=>.str x.1,0,by decide,fun x=>x.2,fun _=>by simp [PyData.depth],fun x y=>by simp [PyData.eqv,Subtype.ext_iff]⟩
def aHs (K:W.Frag) (neg:Bool):R2:=fun x y H Q=>∃ (α:Type) (e:Enc α) (a:α) (bs:List α),DV K H x (e.d a)/\DV K H y (.tuple (bs.map e.d))/\∀ k:Bool,(k = true ↔ a∈bs)->Q (.bl (if neg then !k else k)) H
section
variable {X:Cx} {K:W.Frag}
theorem Dj (hK:X.K = K) (hu:X.A.units + 64 < cLine):kW X (compareOp .NotIn) (aHs K true):=by
 subst hK;intro pins s σ H x y v u Q I rx ry h;obtain ⟨α,e,a,bs,da,db,q⟩:=h;obtain ⟨as,r1⟩:=fV I da rx;obtain ⟨cs,r2⟩:=fV I db ry;have h1:=e.depth a;have h2:=e.small;exact PySem.SeqAt.notIn_tuple_reads r2 r1 (oS e bs).1 (e.lay a) (by omega) ⟨.bl _,H,I,rfl,q _ (xA e a bs)⟩
end
def aIk (x y:PyData) (Q:PyData->Prop):Prop:=∃ (α:Type) (e:Enc α) (a:α) (bs:List α),x = e.d a/\y = .tuple (bs.map e.d)/\∀ k:Bool,(k = true ↔ a∈bs)->Q (.bool !k)
section
variable {K:W.Frag}
theorem tZ:zV K (aHs K true) aIk:=by
 rintro G H x y dx dy Qd Q hx hy ⟨α,e,a,bs,rfl,rfl,q⟩ k;exact ⟨α,e,a,bs,hx,hy,fun c hc=>k _ _ (.bl _) (q c hc)⟩
end
def Mw (K:W.Frag) (f:List Bool->Bool):List V->Hp->VK->Prop:=fun xs H Q=>∃ (p:Addr) (bs:List Bool),xs = [.ref p]/\SqL K H p (bs.map V.bl)/\Q (.bl (f bs)) H
theorem sY:∀ {bs:List Bool} {us:List Value},Vals (bs.map V.bl) us->LSm.BoolsAre us bs
 | [],_,.nil=>.nil
 | b :: bs,_,.cons r t=>by
  cases (show _ = Value.bool b from r);exact .cons b (sY t)
section
variable {X:Cx} {K:W.Frag}
theorem aKp (hK:X.K = K) (hc:X.calm = true):gC X (.builtin "all") (Mw K (·.all id)):=by
 subst hK;intro pins s σ H xs us Q I r h;obtain ⟨p,bs,rfl,hq,q⟩:=h;obtain ⟨u,rfl,rx⟩:=iR r;cases rx;obtain ⟨its,r',pl,hz⟩:=I.list hq;have hb:=sY r';have hl:s.heap.IsList p its.toArray:=pl.isList;have hlt:p < s.heap.objs.size:=by obtain ⟨_,e,_⟩:=hl; exact lt_size e
 refine call_all_walk (wpAny_pyIter_list hl ?_)
 refine ⟨s.heap.objs.size,[s.heap.objs.size,p],[s.heap.objs.size],its.toArray.size,_,_,fun i=>(bs[i]?).getD true,rfl,Walks.list (A:=X.A.in1) (I.ok.hd hc) _ p (ne_of_lt hlt) its.toArray,
  ⟨⟨_,get?_push_size _ rfl,rfl,rfl⟩,hl.push _⟩,fun i v s' Q' E' hP hQ=>?_,fun h' tk hk=>?_⟩
 ·obtain ⟨b,e,rfl⟩:=hb.get i v (by simpa using hP);simp only [e,Option.getD_some] at hQ;exact wpAny_truthy_bool hQ
 ·have e:((range its.toArray.size).all fun i=>(bs[i]?).getD true) = bs.all id:=by
   rw [size_toArray,hb.length]; exact LSm.range_all bs
  rw [e];exact ⟨.bl _,H,I.kept (t':=tk) (LSm.kept_iter hk),rfl,q⟩
end
def aFa (ds:List PyData) (Q:PyData->Prop):Prop:=match ds with
 | [.list bs]=>∃ ks:List Bool,bs = ks.map PyData.bool/\Q (.bool (ks.all id))
 | _=>False
section
variable {K:W.Frag}
theorem uS {H:Hp}:∀ {ks:List Bool} {xs:List V},DVs K H xs (ks.map PyData.bool)->xs = ks.map V.bl
 | [],_,.nil=>rfl
 | k :: ks,_,.cons h t=>by rw [kQ h,uS t]; rfl
theorem Mn:Rp K (Mw K (·.all id)) aFa:=by
 intro G H xs ds Qd Q hx q k;unfold aFa at q;split at q
 ·obtain ⟨ks,rfl,q⟩:=q;obtain ⟨x,rfl,hd⟩:=tL hx;obtain ⟨a,vs,rfl,h1,h2⟩:=eJ hd;rw [uS h2] at h1;exact ⟨a,ks,rfl,h1,k _ _ (.bl _) q⟩
 ·exact q.elim
end
theorem boot_all:bootBuiltins "all" = some (.builtin "all"):=by decide +kernel
section
variable {prog:Program} {w:World} {A:Around} {E:Value->Shared->Prop}
theorem uU {it l:Addr} {items:Array Value} (hh:A.handled = none) (hne:l ≠ it):∀ (n i:Nat) (s:Shared) (Q:List Value->Shared->Prop),s.heap.IsListIter it l i->s.heap.IsList l items->i + n<=items.size ->
  (∀ h' tk,h'.IsListIter it l (i + n)->h'.IsList l items->(∀ b o,b ≠ it->s.heap.get? b = some o->h'.get? b = some o)->Q ((items.toList.drop i).take n) { s with heap:=h',toks:=tk })->wpAny (model prog w) A (draw (.ref it) n) Q E s
 | 0,i,s,Q,hit,hl,_,hQ=>by
  show wpAny _ _ (pure []) Q E s;exact wpAny_pure (by simpa using hQ s.heap s.toks hit hl fun _ _ _ e=>e)
 | n + 1,i,s,Q,hit,hl,hle,hQ=>by
  have hlt:i < items.size:=by omega
  show wpAny _ _ (pyNext (.ref it) >>= _) Q E s;refine wpAny_bind ((Walks.list hh it l hne items).item i s _ _ hlt ⟨hit,hl⟩ fun v h₁ tk₁ hP hst hk₁=>?_);refine wpAny_bind (wpAny_holding (uU hh hne n (i + 1) _ _ hst.1 hst.2 (by omega) fun h₂ tk₂ hit₂ hl₂ hk₂=>wpAny_pure ?_));have hv:items[i] = v:=by
   have:=hP;rw [Array.getElem?_eq_getElem hlt] at this;exact Option.some.inj this
  have hd:items.toList.drop i = v :: items.toList.drop (i + 1):=by
   rw [<- hv];simp [List.drop_eq_getElem_cons,hlt]
  have:=hQ h₂ tk₂ (by rw [show i + (n + 1) = i + 1 + n by omega]; exact hit₂) hl₂ fun b o hb e=>hk₂ b o hb (hk₁ b o (by simpa using hb) e);rw [hd,List.take_succ_cons] at this;exact this
theorem pE {s:Shared} {l:Addr} {items:Array Value} {Q:List Value->Shared->Prop} (hh:A.handled = none) (hl:s.heap.IsList l items)
  (hQ:∀ h' tk,(∀ b o,s.heap.get? b = some o->h'.get? b = some o)->Q items.toList { s with heap:=h',toks:=tk }):wpAny (model prog w) A (unpackItems (.ref l) items.size none) Q E s:=by
 have hlt:l ≠ s.heap.objs.size:=by obtain ⟨o,ho,_⟩:=hl; exact ne_of_lt (lt_size ho)
 unfold unpackItems;refine wpAny_bind ?_
 ·unfold notIterableAtAll;refine wpAny_bind (wpAny_specialOf hl.typeIs slot_list_iter.lookup ?_);refine wpAny_pure ?_;simp only [false_eq_true,if_false];refine wpAny_bind (wpAny_holding (wpAny_pyIter_list hl ?_));refine wpAny_bind (wpAny_holding (uU hh hlt items.size 0 _ _ ⟨_,get?_push_size _ rfl,rfl,rfl⟩ (hl.push _) (by omega) fun h₁ tk₁ hit₁ hl₁ hk₁=>?_));have hall:take items.size (drop 0 items.toList) = items.toList:=by
   rw [drop_zero]; exact take_of_length_le (by simp)
  rw [hall];rw [if_neg (by simp)];refine wpAny_bind (wpAny_holding ((Walks.list hh _ l hlt items).done _ _ _ ⟨by simpa using hit₁,hl₁⟩ fun h₂ tk₂ hk₂=>?_));simp only [Option.isSome_none,false_eq_true,if_false];refine wpAny_pure (hQ h₂ tk₂ fun b o e=>?_);have hb:b ≠ s.heap.objs.size:=ne_of_lt (lt_size e);exact hk₂ b o (by simpa using hb) (hk₁ b o hb (get?_push_of_some _ e))
theorem pA {s:Shared} {env:Env} {elts:List Expr} {x1} {pos:Pos} {l:Addr} {items:Array Value} {Q:Unit->Shared->Prop} (hh:A.handled = none) (hl:s.heap.IsList l items)
  (hn:(assignEach elts env).length = items.size) (hstar:(assignEach elts env).findIdx? (·.1) = none)
  (h:∀ h' tk,(∀ b o,s.heap.get? b = some o->h'.get? b = some o)->wpAny (model prog w) A (assignInOrder ((assignEach elts env).map (·.2)) items.toList) Q E { s with heap:=h',toks:=tk }) :
  wpAny (model prog w) A (assign (.Tuple elts x1 pos) env (.ref l)) Q E s:=by
 rw [assign_Tuple];refine wpAny_bind (wpAny_standAt ?_);unfold unpack;rw [hn,hstar];exact wpAny_bind (wpAny_holding (pE hh hl h))
end
def Wz (K:W.Frag) (n:Nat) (t:Hq):TG:=fun v σ H Q=>∃ a xs,v = .ref a/\SqL K H a xs/\xs.length = n/\t xs σ H Q
section
variable {X:Cx} {K:W.Frag}
theorem Al {es:List Expr} {k:Nat} {pos:Pos} {t:Hq} {n:Nat} (hK:X.K = K) (hc:X.calm = true) (h:PGs X es t)
  (hn:(assignEach es X.env).length = n:=by rfl) (hst:(assignEach es X.env).findIdx? (·.1) = none:=by rfl):PG X (.Tuple es k pos) (Wz K n t):=by
 subst hK;intro pins s σ H v u Q I r hw;obtain ⟨a,xs,e1,hq,hl,hw⟩:=hw;subst e1;cases r;obtain ⟨its,rv,pl,hz⟩:=I.list hq;refine pA (I.ok.hd hc) pl.isList (by simp [hn,<- hl,rv.length]) hst fun h' tk hx=>?_;exact h pins _ σ H xs _ Q (I.kept (t':=tk) hx) (by simpa using rv) hw
end
def Pb (n:Nat) (dgs:DGs) (d:PyData) (δ:bW) (Q:bW->Prop):Prop:=match d with
 | .list ds=>ds.length = n/\dgs ds δ Q
 | _=>False
section
variable {K:W.Frag} {H₀:Hp}
theorem Jo {H H':Hp} {a:Addr} {xs:List V} (e:Same H H') (h:SqL K H a xs):SqL K H' a xs:=by
 rcases h with (h | ⟨o,h⟩) | h
 ·exact .inl (.inl (e _ _ h))
 ·exact .inl (.inr ⟨o,e _ _ h⟩)
 ·exact .inr h
theorem mZ {n:Nat} {gs:Hq} {ns:List Nat} {dgs:DGs} (h:Rh K H₀ gs ns dgs):Bs K H₀ (Wz K n gs) ns (Pb n dgs):=fun v d δ σ G H Qd Q S hd q k=>by
 unfold Pb at q;split at q
 ·obtain ⟨a,vs,rfl,h1,h2⟩:=eJ hd;exact ⟨a,vs,rfl,Jo S.sub.same h1,by rw [h2.len]; exact q.1,h _ _ δ σ G H _ _ S h2 q.2 k⟩
 ·exact q.elim
end
def aGr:TS:=fun _ _ _=>False
theorem lI {X:Cx} {st:Stmt}:PS X st aGr:=fun _ _ _ _ _ _ h=>h.elim
def aJz:DS:=fun _ _=>False
theorem lF {K:W.Frag} {H₀:Hp} {E:XK}:jD K H₀ E aGr aJz:=fun _ _ _ _ _ _ _ _ q _=>q.elim
local macro_rules | `(tactic| walk_at "o") => `(tactic| first | omega | (refine (fun (h : @Eq Nat _ _) => ?_); omega))
theorem Gi (o:Option PyData) (δ:bW):iJ (o.map Sl.dat :: δ) = iJ δ:=by
 cases o <;> rfl
section
variable {K:W.Frag} {H₀:Hp} {E:XK} {te ta tb:TE} {da db de:DE} {ts:TS} {ds:DS}
def Xp (i:Nat) (d:DS) (e:DEnds) (δ:bW):Prop:=d { e with nx:=fun δ'=>e.nx (sN i δ') } δ
theorem Cd (i:Nat) (h:jD K H₀ E ts ds):jD K H₀ E ts (Xp i ds):=fun δ σ G H e D hx S q L =>
 h δ σ G H { e with nx:=fun δ'=>e.nx (sN i δ') } D hx S q ⟨fun δ' σ' G' H' t S' q'=>by
  change e.nx (sN i δ') at q'
  unfold sN at q'
  split at q'
  ·rename_i xs hs
   obtain ⟨G2,s2,S2⟩:=S'.frz hs
   exact L.nx _ σ' G2 H' (t.trans s2) S2 q'
  ·exact L.nx _ σ' G' H' t S' q',L.rt,L.bk,L.ct⟩
end
def d2 (dl dk:DL) (ex:DX) (δ:bW) (Q:List PyData->List PyData->Prop):Prop:=dl ex δ fun xs=>dk ex δ fun ys=>Q xs ys
theorem aL {c j pos es env}:starEach (.Constant c j pos :: es) env = (false,eval (.Constant c j pos) env) :: starEach es env:=rfl
theorem Zj {c j pos es env}:starEach (.Tuple c j pos :: es) env = (false,eval (.Tuple c j pos) env) :: starEach es env:=rfl
theorem eC {c pos es env}:starEach (.List c pos :: es) env = (false,eval (.List c pos) env) :: starEach es env:=rfl
theorem Zk {c j pos es env}:starEach (.Dict c j pos :: es) env = (false,eval (.Dict c j pos) env) :: starEach es env:=rfl
end Dl
namespace Lx
open PySem PySem.Spec PyProof.Rows L2
structure LcOk1 (X:Cx) (scope:Scope) (x:Str) (cl:List (Str × Addr)) (cap:List (Option Nat)) (NC:List Str):Prop where
 clos:closureFor scope X.env = pure cl
 kind:scope.kind = .function
 one:∀ n,cellsFrom n scope.names cl = (x,n) :: cl
 push:∀ h,pushCells h scope.names = h.push { cls:=.type "cell",data:=.cell none }
 fresh:cl.lookup x = none
 names:∀ x∈scope.names,x.2 = .local->scope.names.lookup x.1 = some .local
 caps:CapsOk X scope cl cap NC
 cells:∀ p∈cl,X.env.cells.lookup p.1 = some p.2
 has:∀ c:Addr,((relabel scope X.env).names.all fun p=>(p.2 != .cell && p.2 != .free) || (((x,c) :: cl).lookup p.1).isSome) = true
end Lx
namespace Dl
open PySem PySem.Spec PyProof.Rows L2 Lx
section
variable {K:W.Frag} {H₀:Hp} {E:XK} {te:TE} {de:DE} {dl:DL} {ta:TA}
def AvN (K:W.Frag) (H₀:Hp) (E:XK) (ta:TA) (n:Nat) (dl:DL):Prop:=∀ ex δ σ G H Qd Q,kY H₀ E ex->Sees K H₀ G δ σ H->dl ex δ Qd->(∀ vs ds G' H',Ext G H G' H'->DVs K H' vs ds->ds.length = n->Qd ds->Q vs H')->ta σ H Q
theorem hG:AvN K H₀ E jW 0 Vi:=fun ex δ σ G H Qd Q hx S q k=>k [] [] G H S.refl .nil rfl q
theorem cU {n:Nat} (h:kZ K H₀ E te de) (t:AvN K H₀ E ta n dl):AvN K H₀ E (eT te ta) (n + 1) (Et de dl):=fun ex δ σ G H Qd Q hx S q k =>
 h ex δ σ G H _ _ hx S q fun v d G1 H1 e1 hd q1=>t ex δ σ G1 H1 _ _ hx (S.ext e1) q1 fun vs ds G2 H2 e2 hds hn q2 =>
  k (v :: vs) (d :: ds) G2 H2 (e1.trans e2) (.cons (cL e2.h hd) hds) (by rw [length_cons,hn]) q2
end
abbrev IsZ (h:Heap) (z TI TO:Addr) (f0 f1:Value):Prop:=h.get? z = some { cls:=.type "zip",dict:=none,data:=.fields #[f0,f1,.bool false,.ref TI,.ref TO],slots:=#[] }
section
variable {prog:Program} {w:World} {A:Around} {E:Value->Shared->Prop} {s:Shared}
structure ZSt (h:Heap) (z TI TO i1 i2 l1 l2 base:Addr) (i:Nat) (xs ys:Array Value):Prop where
 z:IsZ h z TI TO .none (.bool false)\/∃ (T:Addr) (b:Bool) (o:Obj),IsZ h z TI TO (rawInt (T:Int)) (.bool b)/\base<=T/\h.get? T = some o
 ti:IsPair h TI (.ref i1) (.ref i2)
 to:∃ a b,IsPair h TO a b
 i1:h.IsListIter i1 l1 i
 i2:h.IsListIter i2 l2 i
 l1:h.IsList l1 xs
 l2:h.IsList l2 ys
end
section
variable {X:Cx} {K:W.Frag}
def Mv (K:W.Frag):R2:=fun x y H Q=>∃ l b xs zs,x = .ref l/\y = .ref b/\SqL K H l xs/\SqL K H b zs/\xs.length + zs.length<=sizeLine/\∀ p,H p = none->Q (.ref p) (cX H p (.lst (xs ++ zs)))
theorem Tu:kW X (binaryOp .Add) (Mv X.K):=by
 intro pins s σ H x y v u Q I rx ry h;obtain ⟨l,b,xs,zs,rfl,rfl,hH,hB,hz,q⟩:=h;cases rx;cases ry;obtain ⟨its,r,⟨⟨cls,dd,data,sl⟩,n,e,c1,c2,c3⟩,z⟩:=I.list hH;obtain ⟨its2,r2,⟨⟨cls2,dd2,data2,sl2⟩,n2,e2,d1,d2,d3⟩,z2⟩:=I.list hB;simp only at c1 c2 c3 d1 d2 d3;subst c1 c2 c3 d1 d2 d3;have hl:=r.length;have hl2:=r2.length;refine concat_meets ⟨_,e,rfl⟩ ⟨_,e2,rfl⟩ noFill_list_add seq_list_add F.slot_list_add F.entry_list_add (F.args_list_add_2 _ _) (list_addW l b its.toArray its2.toArray n n2 none none sl sl2 (by simp; omega)) ⟨e,e2,?_⟩;have ea:its.toArray ++ its2.toArray = (its ++ its2).toArray:=by simp
 rw [ea];exact ⟨.ref _,_,I.lnew (t':=s.toks) (r.append r2) (by rw [length_append]; omega),rfl,q _ I.fresh⟩
theorem Qu (h:X.K = K):kW X (binaryOp .Add) (Mv K):=by subst h; exact Tu
end
def okT (a b:Addr):bW->Prop
 | []=>True
 | none :: r=>okT a b r
 | some (.dat d) :: r=>oQ d = true/\okT a b r
 | some (.fz [m] (.list ds)) :: r=>m ≠ a/\m ≠ b/\fM ds = true/\okT a b r
 | _ :: _=>False
section
variable {K:W.Frag} {H₀:Hp} {E:XK} {ta tb:TE} {da db:DE}
def Xt (da db:DE) (ex:DX) (δ:bW) (Q:List PyData->Prop):Prop:=da ex δ fun x=>db ex δ fun y=>∃ xs ys,x = .list xs/\y = .list ys/\xs.length + ys.length<=1000/\Q (xs ++ ys)
theorem vY (h1:fW K H₀ E ta da) (h2:fW K H₀ E tb db):xG K H₀ E (xD (Mv K) ta tb) (Xt da db):=fun ex δ σ G H Qd Q hx S q k =>
 h1 ex δ σ G H _ _ hx S q fun x d1 G1 H1 e1 x1 q1=>h2 ex δ σ G1 H1 _ _ hx (S.ext e1) q1 fun y d2 G2 H2 e2 y1 q2=>by
  obtain ⟨xs,ys,rfl,rfl,l,q3⟩:=q2;obtain ⟨a,vs,rfl,s1,v1⟩:=eJ x1;obtain ⟨b,ws,rfl,s2,v2⟩:=eJ y1;refine ⟨a,b,vs,ws,rfl,rfl,e2.h.seq (e1.s.same.seq s1),e2.s.same.seq s2,le_of_lt (bT (by rw [v1.len,v2.len]; exact l)),fun p hp=>?_⟩;obtain ⟨e3,g3⟩:=eX (xs:=vs ++ ws) e2.s hp;have e0:=e1.trans e2;exact k p _ _ _ _ (e0.trans e3) (e0.h.free hp) g3 bJ (DVs.append (bQ e2.g v1) v2) q3
end
section
variable {K:W.Frag} {H₀:Hp} {E:XK} {ta tb tc:TE} {da db dc:DE} {f g:Int->Int->Bool}
def Ql (f g:Int->Int->Bool) (da db dc:DE) (ex:DX) (δ:bW) (Q:PyData->Prop):Prop:=da ex δ fun x=>db ex δ fun y=>match x,y with
 | .int i,.int j=>if f i j = true then dc ex δ fun z=>(match z with
  | .int l=>Q (.bool (g j l))
  | _=>False) else Q (.bool false)
 | _,_=>False
theorem Pj (ha:kZ K H₀ E ta da) (hb:kZ K H₀ E tb db) (hc:kZ K H₀ E tc dc):fW K H₀ E (Ji (Mu fun i j=>.bl (f i j)) (Mu fun i j=>.bl (g i j)) ta tb tc) (Ql f g da db dc):=fun ex δ σ G H Qd Q hx S q k =>
 ha ex δ σ G H _ _ hx S q fun v d1 G1 H1 e1 h1 q1=>hb ex δ σ G1 H1 _ _ hx (S.ext e1) q1 fun u d2 G2 H2 e2 h2 q2=>by
  have e0:=e1.trans e2;split at q2
  ·rename_i i j
   refine ⟨i,j,cK h1,cK h2,f i j,rfl,?_⟩;split at q2
   ·rename_i c
    rw [if_pos c];refine hc ex δ σ G2 H2 _ _ hx (S.ext e0) q2 fun z d3 G3 H3 e3 h3 q3=>?_;split at q3
    ·rename_i l
     exact ⟨j,l,cK h2,cK h3,k _ _ G3 H3 (e0.trans e3) (.bl _) q3⟩
    ·exact q3.elim
   ·rename_i c
    rw [if_neg c];exact k _ _ G2 H2 e0 (.bl _) q2
  ·exact q2.elim
end
theorem gF {l op r pos es env}:starEach (.BinOp l op r pos :: es) env = (false,eval (.BinOp l op r pos) env) :: starEach es env:=rfl
section
variable {K:W.Frag} {H₀:Hp} {E:XK} {te:TE} {de:DE} {ta:TA} {dl:DL} {ts:TS} {ds:DS} {g:TG} {dg:DG} {ns:List Nat}
def Xm (dl:DL) (ex:DX) (δ:bW) (Q:PyData->Prop):Prop:=dl ex δ fun ds=>Q (.list ds)
theorem gZ {n:Nat} (h:AvN K H₀ E ta n dl) (hn:n<=1000):kZ K H₀ E (Za ta) (Xm dl):=fun ex δ σ G H Qd Q hx S q k =>
 h ex δ σ G H _ _ hx S q fun vs ds G1 H1 e1 hd q0 q1=>⟨le_of_lt (bT (by rw [hd.len,q0]; exact hn)),fun p hp=>by
  obtain ⟨e2,hg⟩:=eX (xs:=vs) e1.s hp
  exact k (.ref p) (.list ds) _ _ (e1.trans e2) (.lst (SqL.of bJ) (bQ e2.h hd)) q1⟩
end
theorem boot_str:bootBuiltins "str" = some (.type "str"):=by decide +kernel
theorem vF {n:Nat} (h:n<=100000):n < sizeLine:=lt_of_le_of_lt h (by decide)
section
variable {X:Cx}
def aHo:V->Option Int->Option Int->Hp->VK->Prop:=fun x lo hi H Q=>∃ z,x = .str z/\z.length<=sizeLine/\Q (.str (PySem.Txt.slice z lo hi)) H
theorem Jv:SlR X aHo:=by
 intro pins s σ H x v vl vu lo hi sl Q I rx hs pl pu h;obtain ⟨z,rfl,hz,q⟩:=h;obtain ⟨t,rfl⟩:=rx;refine ⟨"str",_,slot_str_getitem.lookup,typeIs_str _ _ _,?_⟩;cases pl with
 | none =>
  cases pu with
  | none=>exact wpAny_getItem_str_slice (l:=none) (u:=none) (st:=none) hs rfl (post_val_or_str ⟨le_trans (PySem.Txt.slice_le z none none) hz,fun t' k=>⟨.str _,H,I.tok _,⟨_,rfl⟩,q⟩⟩)
  | int j uj=>exact wpAny_getItem_str_slice (l:=none) (u:=some (j,uj)) (st:=none) hs rfl (post_val_or_str ⟨le_trans (PySem.Txt.slice_le z none (some j)) hz,fun t' k=>⟨.str _,H,I.tok _,⟨_,rfl⟩,q⟩⟩)
 | int i ui =>
  cases pu with
  | none=>exact wpAny_getItem_str_slice (l:=some (i,ui)) (u:=none) (st:=none) hs rfl (post_val_or_str ⟨le_trans (PySem.Txt.slice_le z (some i) none) hz,fun t' k=>⟨.str _,H,I.tok _,⟨_,rfl⟩,q⟩⟩)
  | int j uj=>exact wpAny_getItem_str_slice (l:=some (i,ui)) (u:=some (j,uj)) (st:=none) hs rfl (post_val_or_str ⟨le_trans (PySem.Txt.slice_le z (some i) (some j)) hz,fun t' k=>⟨.str _,H,I.tok _,⟨_,rfl⟩,q⟩⟩)
def rQ:V->List V->Hp->VK->Prop:=fun x vs H Q=>∃ z y,x = .str z/\vs = [.str y]/\z.length<=sizeLine/\(y.length == 0) = false /\
 ∀ p,H p = none->Q (.ref p) (cX H p (.tup [.str (PySem.Txt.partition z y).1,.str (PySem.Txt.partition z y).2.1,.str (PySem.Txt.partition z y).2.2]))
theorem kI:MtR X "str.partition" rQ:=by
 intro pins s σ H x xs v us Q I rx rs h;obtain ⟨z,y,rfl,rfl,hz,hy,q⟩:=h;obtain ⟨t,rfl⟩:=rx;obtain ⟨u,rfl,t',rfl⟩:=iR rs;refine call_meets F.slot_str_partition (typeIs_str _ _ _) F.entry_str_partition (F.args_str_partition_2 _ _) (meets_str_partition z y t t' hy hz) ?_;have q':=q _ (I.hok.fresh (le_refl _));unfold PySem.Txt.partition at q';revert q';cases Builtin.Str.occurrences z y 0 z.length 1 with
 | nil =>
  intro q'
  exact ⟨.ref s.heap.objs.size,_,I.laid (t':=s.toks + 1) (o:=.tup [.str z,.str Str.empty,.str Str.empty]) (fun b ob q=>get?_push_of_some _ q) (le_refl _)
   ⟨le_of_lt (bT (show 3<=1000 by decide)),_,.cons ⟨_,rfl⟩ (.cons ⟨_,rfl⟩ (.cons ⟨_,rfl⟩ .nil)),IsTup.new _ _⟩,rfl,q'⟩
 | cons i r =>
  intro q'
  exact ⟨.ref s.heap.objs.size,_,I.laid (t':=s.toks + 1 + 1) (o:=.tup [.str (Builtin.Str.strSub z 0 i),.str y,.str (Builtin.Str.strSub z (i + y.length) z.length)]) (fun b ob q=>get?_push_of_some _ q) (le_refl _)
   ⟨le_of_lt (bT (show 3<=1000 by decide)),_,.cons ⟨_,rfl⟩ (.cons ⟨_,rfl⟩ (.cons ⟨_,rfl⟩ .nil)),IsTup.new _ _⟩,rfl,q'⟩
theorem Hl:gC X (.type "int") (fun xs H Q=>∃ z n,xs = [.str z]/\z.length<=640/\PySem.intText? z = some n/\Q (.int n) H):=by
 intro pins s σ H xs us Q I r h;obtain ⟨z,n,rfl,hl,hn,q⟩:=h;obtain ⟨u,rfl,t,rfl⟩:=iR r;exact W.KIN.call_text hn hl ⟨.int n,H,I.tok _,⟨_,rfl⟩,q⟩
def Its (z:Str):It:=⟨fun i _=>i < z.cps.size,fun i H x H'=>H' = H/\∃ c,z.cps[i]? = some c/\x = .str ⟨#[c]⟩,fun i _=>z.cps.size<=i⟩
theorem xP {P:Program} {w:World} {K:W.Frag} {tg:Expr} (it:Addr) (z:Str) (t:Tok) (ty:String) (hty:ty = "str_ascii_iterator"\/ty = "str_iterator") :
  Turn P w K tg (Its z) [it] it (fun i h=>h.IsStrIter it ty z t i) where
 mem:=by simp
 obj:=fun i h st b hb=>by
  have e:b = it:=by simpa using hb
  subst e;obtain ⟨o,e,c,d⟩:=st;exact ⟨o,e,fun v z=>by rw [d] at z; cases z⟩
 keep:=fun i h h' st k=>let ⟨o,ho,r⟩:=st; ⟨o,k it (by simp) o ho,r⟩
 item:=by
  intro X hP hw hK hc i pins s σ H E I hf st hg;subst hP hw hK;obtain ⟨f0,f1,f2,f3,f4,f5⟩:=hf it (by simp);obtain ⟨c,hx⟩:∃ c,z.cps[i]? = some c:=⟨_,Array.getElem?_eq_getElem hg⟩;rcases hty with rfl | rfl
  ·refine wpAny_pyNext_ascii_item st hx fun h' st' sb=>?_;have I1:Inv X pins σ H { s with heap:=h',toks:=s.toks + 1 }:=I.turned (fun b o hb e=>(sb.2 b hb).trans e) f0 f1 f3 f4 f5;obtain ⟨o,e,c',d⟩:=id st';exact ⟨_,rfl,Dy (s:={ s with heap:=h',toks:=s.toks + 1 }) e c' d (by decide) ⟨.str ⟨#[c]⟩,H,I1,⟨_,rfl⟩,⟨rfl,c,hx,rfl⟩,st',fun b hb=>(hf b hb).1⟩⟩
  ·refine wpAny_pyNext_wide_item st hx fun h' st' sb=>?_;have I1:Inv X pins σ H { s with heap:=h',toks:=s.toks + 1 }:=I.turned (fun b o hb e=>(sb.2 b hb).trans e) f0 f1 f3 f4 f5;obtain ⟨o,e,c',d⟩:=id st';exact ⟨_,rfl,Dy (s:={ s with heap:=h',toks:=s.toks + 1 }) e c' d (by decide) ⟨.str ⟨#[c]⟩,H,I1,⟨_,rfl⟩,⟨rfl,c,hx,rfl⟩,st',fun b hb=>(hf b hb).1⟩⟩
 done:=by
  intro X hP hw hK hc i pins s σ H E I hf st hg;subst hP hw hK;obtain ⟨f0,f1,f2,f3,f4,f5⟩:=hf it (by simp);have hx:z.cps[i]? = none:=Array.getElem?_eq_none hg;rcases hty with rfl | rfl
  ·exact wpAny_pyNext_ascii_end (I.ok.hd hc) st hx fun h' eb=>⟨rfl,I.turned (t':=s.toks) (fun b o hb e=>eb b o hb e) f0 f1 f3 f4 f5⟩
  ·exact wpAny_pyNext_wide_end (I.ok.hd hc) st hx fun h' eb=>⟨rfl,I.turned (t':=s.toks) (fun b o hb e=>eb b o hb e) f0 f1 f3 f4 f5⟩
 self:=fun _ _ _ _ _ st h=>by
  rcases hty with rfl | rfl
  ·exact wpAny_pyIter_striter_ascii st h
  ·exact wpAny_pyIter_striter_wide st h
def aIw (tl:TE):TI:=fun σ H R=>tl σ H fun x H1=>∃ z,x = .str z/\R (Its z) H1
theorem Nc {tg l:Expr} {tl:TE} (hl:PE X l tl):PI X tg l (aIw tl):=by
 intro pins s σ H R I h;refine dO (hl pins s σ H _ I h) fun v s1 ⟨x,H1,I1,r1,q1⟩=>?_;obtain ⟨z,e,q⟩:=q1;subst e;obtain ⟨t,rfl⟩:=r1;have fp:∀ b∈[s1.heap.objs.size],kX X pins H1 b:=fun b hb=>by
  have e:b = s1.heap.objs.size:=by simpa using hb
  subst e;exact I1.fpOk (le_refl _) (I1.hok.fresh (le_refl _))
 cases ha:z.cps.all (· < 128)
 ·refine wpAny_pyIter_wide ha ?_;exact ⟨s1.heap.objs.size,[s1.heap.objs.size],_,_,H1,rfl,I1.kept (t':=s1.toks) fun b o e=>get?_push_of_some _ e,xP _ z t _ (.inr rfl),⟨_,get?_push_size _ rfl,rfl,rfl⟩,fp,q⟩
 ·refine wpAny_pyIter_ascii ha ?_;exact ⟨s1.heap.objs.size,[s1.heap.objs.size],_,_,H1,rfl,I1.kept (t':=s1.toks) fun b o e=>get?_push_of_some _ e,xP _ z t _ (.inl rfl),⟨_,get?_push_size _ rfl,rfl,rfl⟩,fp,q⟩
end
section
variable {K:W.Frag} {H₀:Hp} {E:XK} {te ta tb:TE} {de da db:DE} {t1 t2:TO} {d1 d2:DO}
def sgD (c:Nat):PyData:=.str ⟨#[c]⟩
def aEp (de:DE) (ex:DX) (δ:bW) (Q:List PyData->Prop):Prop:=de ex δ fun d=>match d with
 | .str z=>Q (z.cps.toList.map sgD)
 | _=>False
theorem Ov (h:fW K H₀ E te de):IvS K H₀ E (aIw te) (aEp de):=fun ex δ σ G H Qd R hx S q k =>
 h ex δ σ G H _ _ hx S q fun v d G' H' e hd qd=>by
  cases d with
  | str z =>
   cases cS hd;refine ⟨z,rfl,k _ _ G' H' e (fun G2 H2 s1 s2 i=>⟨fun d hi=>?_,fun hi=>?_⟩) qd⟩
   ·rw [getElem?_map] at hi;obtain ⟨c,hc,rfl⟩:=map_eq_some_iff.mp hi;rw [Array.getElem?_toList] at hc;refine ⟨(Array.getElem?_eq_some_iff.mp hc).1,fun x H3 ⟨z1,c',h1,h2⟩=>?_⟩;subst z1;rw [hc] at h1;cases h1;subst h2;exact ⟨G2,.refl s2,.str _⟩
   ·show z.cps.size<=i;simpa using hi
  | _=>exact qd.elim
def aCt (x y:PyData) (Q:PyData->Prop):Prop:=match x,y with
 | .str z,.int i=>z.length<=100000/\∃ c,lA z.cps.toList i = some c/\Q (.str ⟨#[c]⟩)
 | _,_=>False
theorem pJ:zV K aHq aCt:=by
 intro G H x y dx dy Qd Q hx hy q k;unfold aCt at q;split at q
 ·cases cS hx; cases cK hy;obtain ⟨hl,c,hc,q⟩:=q;exact ⟨_,_,c,rfl,rfl,le_of_lt (vF hl),hc,k _ _ (.str _) q⟩
 ·exact q.elim
def Ny (x y:PyData) (Q:PyData->Prop):Prop:=match x,y with
 | .str a,.str b=>a.length + b.length<=100000/\Q (.str (a ++ b))
 | _,_=>False
theorem bU:zV K (fun x y H Q=>∃ i j,x = .str i/\y = .str j/\i.length + j.length<=sizeLine/\Q (.str (i ++ j)) H) Ny:=by
 intro G H x y dx dy Qd Q hx hy q k;unfold Ny at q;split at q
 ·cases cS hx; cases cS hy;exact ⟨_,_,rfl,rfl,le_of_lt (vF q.1),k _ _ (.str _) q.2⟩
 ·exact q.elim
def Tw (x y:PyData) (Q:PyData->Prop):Prop:=match x,y with
 | .str a,.str b=>Q (.bool (PySem.Txt.contains b a))
 | _,_=>False
def Nw (x y:PyData) (Q:PyData->Prop):Prop:=match x,y with
 | .str a,.str b=>Q (.bool (!PySem.Txt.contains b a))
 | _,_=>False
theorem Lz:zV K (fun x y H Q=>∃ i j,x = .str i/\y = .str j/\Q (.bl (!(Builtin.Str.occurrences j i 0 j.length 1).isEmpty)) H) Tw:=by
 intro G H x y dx dy Qd Q hx hy q k;unfold Tw at q;split at q
 ·cases cS hx; cases cS hy;exact ⟨_,_,rfl,rfl,k _ _ (.bl _) q⟩
 ·exact q.elim
theorem Fu:zV K (fun x y H Q=>∃ i j,x = .str i/\y = .str j/\Q (.bl (!(!(Builtin.Str.occurrences j i 0 j.length 1).isEmpty))) H) Nw:=by
 intro G H x y dx dy Qd Q hx hy q k;unfold Nw at q;split at q
 ·cases cS hx; cases cS hy;exact ⟨_,_,rfl,rfl,k _ _ (.bl _) q⟩
 ·exact q.elim
def Qy (ds:List PyData) (Q:PyData->Prop):Prop:=match ds with
 | [.str z]=>z.length<=100000/\Q (.int z.length)
 | _=>False
theorem kB:Rp K (fun xs H Q=>∃ z,xs = [.str z]/\z.length<=sizeLine/\Q (.int z.length) H) Qy:=by
 intro G H xs ds Qd Q hx q k;unfold Qy at q;split at q
 ·obtain ⟨x,rfl,h1⟩:=tL hx;cases cS h1;exact ⟨_,rfl,le_of_lt (vF q.1),k _ _ (.int _) q.2⟩
 ·exact q.elim
def Qz (ds:List PyData) (Q:PyData->Prop):Prop:=match ds with
 | [.str z]=>z.length<=640/\∃ n,PySem.intText? z = some n/\Q (.int n)
 | _=>False
theorem Tf:Rp K (fun xs H Q=>∃ z n,xs = [.str z]/\z.length<=640/\PySem.intText? z = some n/\Q (.int n) H) Qz:=by
 intro G H xs ds Qd Q hx q k;unfold Qz at q;split at q
 ·obtain ⟨x,rfl,h1⟩:=tL hx;cases cS h1;obtain ⟨hl,n,hn,q⟩:=q;exact ⟨_,n,rfl,hl,hn,k _ _ (.int _) q⟩
 ·exact q.elim
def aEv (ds:List PyData) (Q:PyData->Prop):Prop:=match ds with
 | [.int i]=>i.natAbs.log2 < 1920/\Q (.str (toString i))
 | _=>False
theorem fJ:Rp K (fun xs H Q=>∃ i,xs = [.int i]/\i.natAbs.log2 < 1920/\Q (.str (toString i)) H) aEv:=by
 intro G H xs ds Qd Q hx q k;unfold aEv at q;split at q
 ·obtain ⟨x,rfl,h1⟩:=tL hx;cases cK h1;exact ⟨_,rfl,q.1,k _ _ (.str _) q.2⟩
 ·exact q.elim
def aJu (de:DE) (d1 d2:DO) (ex:DX) (δ:bW) (Q:PyData->Prop):Prop:=de ex δ fun d=>d1 ex δ fun lo=>d2 ex δ fun hi=>match d with
 | .str z=>z.length<=100000/\Q (.str (PySem.Txt.slice z lo hi))
 | _=>False
theorem Pg (ha:kZ K H₀ E te de) (h1:OvP K H₀ E t1 d1) (h2:OvP K H₀ E t2 d2):fW K H₀ E (tSl aHo te t1 t2) (aJu de d1 d2):=fun ex δ σ G H Qd Q hx S q k =>
 ha ex δ σ G H _ _ hx S q fun v d G1 H1 e1 hv q1=>h1 ex δ σ G1 H1 _ _ hx (S.ext e1) q1 fun lo G2 H2 e2 q2=>h2 ex δ σ G2 H2 _ _ hx (S.ext (e1.trans e2)) q2 fun hi G3 H3 e3 q3=>by
  split at q3
  ·cases cS hv;exact ⟨_,rfl,le_of_lt (vF q3.1),k _ _ G3 H3 ((e1.trans e2).trans e3) (.str _) q3.2⟩
  ·exact q3.elim
def Qe (da db:DE) (ex:DX) (δ:bW) (Q:PyData->Prop):Prop:=da ex δ fun x=>match x with
 | .str z=>db ex δ fun y=>match y with
  | .str y=>z.length<=100000/\(y.length == 0) = false/\Q (.tuple [.str (PySem.Txt.partition z y).1,.str (PySem.Txt.partition z y).2.1,.str (PySem.Txt.partition z y).2.2])
  | _=>False
 | _=>False
theorem sS (h1:kZ K H₀ E ta da) (h2:kZ K H₀ E tb db):fW K H₀ E (tBM K "str" rQ ta (eT tb jW)) (Qe da db):=fun ex δ σ G H Qd Q hx S q k =>
 h1 ex δ σ G H _ _ hx S q fun x d1 G1 H1 e1 hx1 q1=>by
  split at q1
  ·rename_i z
   cases cS hx1;refine ⟨rfl,h2 ex δ σ G1 H1 _ _ hx (S.ext e1) q1 fun y d2 G2 H2 e2 hy q2=>?_⟩;split at q2
   ·rename_i y2
    cases cS hy;refine ⟨_,_,rfl,rfl,le_of_lt (vF q2.1),q2.2.1,fun p hp=>?_⟩;have e4:=qW (xs:=[.str (PySem.Txt.partition z y2).1,.str (PySem.Txt.partition z y2).2.1,.str (PySem.Txt.partition z y2).2.2]) e2.s hp;exact k _ _ _ _ ((e1.trans e2).trans e4) (.tup (SqT.of bJ) (.cons (.str _) (.cons (.str _) (.cons (.str _) .nil)))) q2.2.2
   ·exact q2.elim
  ·exact q1.elim
end
section
variable {K:W.Frag} {G H G' H':Hp}
theorem Rws.len:∀ {bs:List Addr} {dss:List (List PyData)},Rws K G H bs dss->bs.length = dss.length
 | _,_,.nil=>rfl
 | _,_,.cons _ _ r=>congrArg (· + 1) r.len
theorem Rws.at:∀ {bs:List Addr} {dss:List (List PyData)} {j:Nat} {ds:List PyData},Rws K G H bs dss->dss[j]? = some ds->∃ b vs,bs[j]? = some b/\H b = some (.lst vs)/\DVs K G vs ds
 | _,_,_,_,.nil,e=>by simp at e
 | _,_,0,_,.cons h1 h2 _,e=>by
  simp at e;subst e;exact ⟨_,_,rfl,h1,h2⟩
 | _,_,j + 1,_,.cons _ _ r,e=>by
  obtain ⟨b,vs,e1,h⟩:=r.at (j:=j) (by simpa using e);exact ⟨b,vs,by simpa using e1,h⟩
end
structure Gst (K:W.Frag) (H₀ G:Hp) (t:Nat) (δ:bW) (σ:L2.St) (H:Hp) (a:Addr) (bs:List Addr) (dss:List (List PyData)):Prop where
 un:Sees K H₀ G (put none t δ) σ H
 dt:∀ i s,slot δ i = some s->(∃ d,s = .dat d)\/∃ xs c,s = .own xs/\σ[i]? = some (some (.ref c))/\c ∉ a :: bs
 sl:slot δ t = some (.dat (.list (dss.map PyData.list)))
 pl:σ[t]? = some (some (.ref a))
 ga:∀ c∈a :: bs,G c = none
 nd:(a :: bs).Nodup
 ha:H a = some (.lst (bs.map V.ref))
 rw:Rws K G H bs dss
def Ri (K:W.Frag) (H₀ G:Hp) (t:Nat) (δ:bW) (σ:L2.St) (H:Hp):Prop:=∃ a bs dss,Gst K H₀ G t δ σ H a bs dss
structure LkG (K:W.Frag) (H₀ G:Hp) (t:Nat) (e:DEnds) (D:Ends):Prop where
 nx:∀ δ σ G' H,Same G G'->Ri K H₀ G' t δ σ H->e.nx δ->D.nx σ H
 rt:∀ v s H,Same H₀ H->mM K H₀ H v s->e.rt s->D.rt v H
 bk:∀ δ σ G' H,Same G G'->Ri K H₀ G' t δ σ H->e.bk δ->D.bk σ H
 ct:∀ δ σ G' H,Same G G'->Ri K H₀ G' t δ σ H->e.ct δ->D.ct σ H
section
variable {K:W.Frag} {H₀:Hp} {E:XK} {te1 te2 te3 te4:TE} {dl d1 d2 d4:DL} {d3:DE}
structure RwI (K:W.Frag) (H₀:Hp) (tb:Nat) (δ:bW) (σ:L2.St) (G H:Hp) (a:Addr) (cs:List Addr) (dss:List (List PyData)):Prop where
 sl:slot δ tb = some (.own (dss.map PyData.list))
 rw:Rws K G G cs dss
 pl:σ[tb]? = some (some (.ref a))
 ha:H a = some (.lst (cs.map V.ref))
 nd:cs.Nodup
 fr:∀ c∈cs,H₀ c = none/\∃ zs,G c = some (.lst zs)
end
section
variable {K:W.Frag} {H₀:Hp} {E:XK} {t:TA} {teA teB teC teD teX:TE} {dl dA:DL} {dB dC:DX->bW->(List (List PyData)->Prop)->Prop} {dD dX:DE} {tz:TS} {dz:DS} {w:DW}
theorem Sees.nil {G H:Hp} {δ:bW} {σ σ':L2.St} (S:Sees K H₀ G δ σ H):Sees K H₀ G [] σ' H:=⟨S.old,S.sub,zero_le _,(fun i s h=>by cases h),(fun i j xs ys a h=>by cases h)⟩
end
theorem tP:∀ {zs:List Str} {its:List Value},Vals (zs.map V.str) its->∃ ps:List (Str × Tok),ps.map (·.1) = zs/\its = strValues ps
 | [],_,.nil=>⟨[],rfl,rfl⟩
 | z :: zs,_,.cons h t=>by
  obtain ⟨tk,rfl⟩:=h;obtain ⟨ps,e1,e2⟩:=tP t;exact ⟨(z,tk) :: ps,by rw [map_cons,e1],by rw [e2]; rfl⟩
theorem tR:∀ (tk:Nat) (zs:List Str),Vals (zs.map V.str) (strsFrom tk zs)
 | _,[]=>.nil
 | tk,z :: zs=>.cons ⟨tk,rfl⟩ (tR (tk + 1) zs)
section
variable {X:Cx}
def Mr (K:W.Frag):V->List V->Hp->VK->Prop:=fun x vs H Q=>∃ (sep:Str) (l:Addr) (zs:List Str),x = .str sep/\vs = [.ref l]/\SqL K H l (zs.map V.str)/\Builtin.Str.tooLong (zs.toArray.foldl (· + ·.length + sep.length) 0) = false/\Q (.str (Txt.join sep zs)) H
theorem Ua:MtR X "str.join" (Mr X.K):=by
 intro pins s σ H x xs v us Q I rx rs h;obtain ⟨sep,l,zs,rfl,rfl,hS,hl,q⟩:=h;obtain ⟨t,rfl⟩:=rx;obtain ⟨u,rfl,ru⟩:=iR rs;cases ru;obtain ⟨its,r,pl,hz⟩:=I.list hS;obtain ⟨ps,e1,e2⟩:=tP r;subst e1 e2;refine call_meets F.slot_str_join (typeIs_str _ _ _) F.entry_str_join (F.args_str_join_2 _ _) (meets_str_join_list sep t l ps hl) ⟨pl.isList,?_⟩;have hlen:=joinFit_length hl
 match ps,q,hlen with
 | [],q,hlen=>exact ⟨hlen,.str _,H,I.tok _,⟨_,rfl⟩,q⟩
 | [p],q,hlen=>exact ⟨.str _,H,I,⟨_,rfl⟩,q⟩
 | p :: p2 :: ps,q,hlen=>exact ⟨hlen,.str _,H,I.tok _,⟨_,rfl⟩,q⟩
def Mo:V->List V->Hp->VK->Prop:=fun x vs H Q=>∃ z y,x = .str z/\vs = [.str y]/\z.length<=sizeLine/\(y.length == 0) = false/\(Txt.split z y).length<=sizeLine/\∀ l,H l = none->Q (.ref l) (cX H l (.lst ((Txt.split z y).map V.str)))
theorem Of:MtR X "str.split" Mo:=by
 intro pins s σ H x xs v us Q I rx rs h;obtain ⟨z,y,rfl,rfl,hz,hy,hn,q⟩:=h;obtain ⟨t,rfl⟩:=rx;obtain ⟨u,rfl,t',rfl⟩:=iR rs;have self:Txt.split z y = [z]->EP X pins σ Q (.ref s.heap.objs.size) { s with heap:=s.heap.push { cls:=.type "list",data:=.seq [Value.str z t].toArray } }:=fun e=>by
  rw [e] at q;refine ⟨.ref s.heap.objs.size,_,I.laid (t':=s.toks) (o:=.lst [.str z]) (fun b ob q=>get?_push_of_some _ q) (le_refl _) ?_,rfl,q _ (I.hok.fresh (le_refl _))⟩;exact ⟨le_of_lt (bT (show 1<=1000 by decide)),_,0,.cons ⟨_,rfl⟩ .nil,get?_push_size _ rfl⟩
 cases h1:(decide (z.length < y.length) || decide (Builtin.Str.strKind z < Builtin.Str.strKind y)) with
 | true =>
  refine call_meets F.slot_str_split (typeIs_str _ _ _) F.entry_str_split (F.args_str_split_2 _ _) (meets_str_split_cannot_occur z y t t' h1) (self ?_);unfold Txt.split;rw [if_pos h1]
 | false =>
  cases h2:(Builtin.Str.occurrences z y 0 z.length (z.length + 1)).isEmpty with
  | true =>
   refine call_meets F.slot_str_split (typeIs_str _ _ _) F.entry_str_split (F.args_str_split_2 _ _) (meets_str_split_not_found z y t t' h1 hy h2) (self ?_);unfold Txt.split;rw [if_neg (by rw [h1]; decide),if_pos h2]
  | false =>
   have e:Txt.split z y = Builtin.Str.partsBetween z (Builtin.Str.occurrences z y 0 z.length (z.length + 1)) y.length:=by
    unfold Txt.split;rw [if_neg (by rw [h1]; decide),if_neg (by rw [h2]; decide)]
   rw [e] at q hn;refine call_meets F.slot_str_split (typeIs_str _ _ _) F.entry_str_split (F.args_str_split_2 _ _) (meets_str_split_sep z y t t' h1 hy h2 hz hn) ?_;refine ⟨.ref s.heap.objs.size,_,I.laid (t':=s.toks + _) (o:=.lst ((Builtin.Str.partsBetween z (Builtin.Str.occurrences z y 0 z.length (z.length + 1)) y.length).map V.str)) (fun b ob q=>get?_push_of_some _ q) (le_refl _) ?_,rfl,q _ (I.hok.fresh (le_refl _))⟩;exact ⟨by rw [length_map]; exact hn,_,0,tR _ _,get?_push_size _ rfl⟩
end
theorem fD {X:Cx} {K:W.Frag} (hK:X.K = K):MtR X "str.join" (Mr K):=by subst hK; exact Ua
theorem Gr {sep:Str} {zs:List Str} (h:(zs.map (·.length)).sum + zs.length * sep.length<=100000):Builtin.Str.tooLong (zs.toArray.foldl (· + ·.length + sep.length) 0) = false:=by
 rw [StrLaws.joinTotal];unfold Builtin.Str.tooLong;exact decide_eq_false (by have:=vF h; omega)
theorem zK {K:W.Frag} {H:Hp}:∀ {vs:List V} {zs:List Str},DVs K H vs (zs.map PyData.str)->vs = zs.map V.str
 | _,[],.nil=>rfl
 | _,z :: zs,.cons h t=>by
  cases cS h;rw [zK t];rfl
theorem rF {K:W.Frag} {H:Hp}:∀ zs:List Str,DVs K H (zs.map V.str) (zs.map PyData.str)
 | []=>.nil
 | z :: zs=>.cons (.str z) (rF zs)
section
variable {K:W.Frag} {H₀:Hp} {E:XK} {ta tb:TE} {da db:DE} {dl:DL}
def Xn (da:DE) (dl:DL) (ex:DX) (δ:bW) (Q:PyData->Prop):Prop:=da ex δ fun x=>match x with
 | .str sep=>dl ex δ fun ds=>∃ zs:List Str,ds = zs.map PyData.str/\(zs.map (·.length)).sum + zs.length * sep.length<=100000/\Q (.str (Txt.join sep zs))
 | _=>False
theorem gN (h1:kZ K H₀ E ta da) (h2:Rq K H₀ E tb dl):fW K H₀ E (tBM K "str" (Mr K) ta (eT tb jW)) (Xn da dl):=fun ex δ σ G H Qd Q hx S q k =>
 h1 ex δ σ G H _ _ hx S q fun x d1 G1 H1 e1 hx1 q1=>by
  split at q1
  ·cases cS hx1;refine ⟨rfl,h2 ex δ σ G1 H1 _ _ hx (S.ext e1) q1 fun a vs ds G2 H2 e2 hl hd q2=>?_⟩;obtain ⟨zs,rfl,hn,q3⟩:=q2;have:=zK hd;subst this;exact ⟨_,a,zs,rfl,rfl,hl,Gr hn,k _ _ G2 H2 (e1.trans e2) (.str _) q3⟩
  ·exact q1.elim
def Py (da db:DE) (ex:DX) (δ:bW) (Q:List PyData->Prop):Prop:=da ex δ fun x=>match x with
 | .str z=>db ex δ fun y=>match y with
  | .str y=>z.length<=90000/\(y.length == 0) = false/\Q ((Txt.split z y).map PyData.str)
  | _=>False
 | _=>False
theorem Nm (h1:kZ K H₀ E ta da) (h2:kZ K H₀ E tb db):xG K H₀ E (tBM K "str" Mo ta (eT tb jW)) (Py da db):=fun ex δ σ G H Qd Q hx S q k =>
 h1 ex δ σ G H _ _ hx S q fun x d1 G1 H1 e1 hx1 q1=>by
  split at q1
  ·rename_i z
   cases cS hx1;refine ⟨rfl,h2 ex δ σ G1 H1 _ _ hx (S.ext e1) q1 fun y d2 G2 H2 e2 hy q2=>?_⟩;split at q2
   ·rename_i y2
    cases cS hy;have hl:=split_le z y2;refine ⟨_,_,rfl,rfl,le_of_lt (vF (by omega)),q2.2.1,le_of_lt (vF (by omega)),fun p hp=>?_⟩;obtain ⟨e3,hg⟩:=eX (xs:=(Txt.split z y2).map V.str) e2.s hp;have e0:=e1.trans e2;exact k p _ _ _ _ (e0.trans e3) (e0.h.free hp) hg bJ (rF _) q2.2.2
   ·exact q2.elim
  ·exact q1.elim
end
end Dl
namespace Lx
open PySem PySem.Spec PyProof.Rows L2
def aFj (h₀ h:Heap) (H:Hp) (x:Addr) (C:Value):Prop :=
 ∃ oe vs,h.get? x = some oe/\oe.cls = C/\oe.data = .fields vs/\H x = none/\h₀.get? x = none /\
  (vs[1]? = some Value.none\/∃ T oT ts,vs[1]? = some (Value.ref T)/\T ≠ x/\h.get? T = some oT/\oT.data = .fields ts/\3 < ts.size/\H T = none/\h₀.get? T = none)
def ExcF (h₀ h:Heap) (H:Hp) (x:Addr) (C:Value):Prop :=
 ∃ oe vs T oT ts,h.get? x = some oe/\oe.cls = C/\oe.data = .fields vs/\H x = none/\h₀.get? x = none /\
  vs[1]? = some (Value.ref T)/\T ≠ x/\h.get? T = some oT/\oT.data = .fields ts/\3 < ts.size/\H T = none/\h₀.get? T = none
theorem ExcAt.g {h₀ h:Heap} {H:Hp} {x:Addr} {C:Value} (e:ExcAt h₀ h H x C):aFj h₀ h H x C:=by
 obtain ⟨oe,vs,h1,h2,h3,h4,h5,h6⟩:=e;refine ⟨oe,vs,h1,h2,h3,h4,h5,?_⟩;rcases h6 with h6 | ⟨T,oT,ts,g1,g2,g3,g4,g5,g6,g7⟩
 ·exact .inl h6
 ·exact .inr ⟨T,oT,ts,g1,g2,g3,g4,(Array.getElem?_eq_some_iff.mp g5).1,g6,g7⟩
theorem ExcF.g {h₀ h:Heap} {H:Hp} {x:Addr} {C:Value} (e:ExcF h₀ h H x C):aFj h₀ h H x C:=by
 obtain ⟨oe,vs,T,oT,ts,h1,h2,h3,h4,h5,g1,g2,g3,g4,g5,g6,g7⟩:=e;exact ⟨oe,vs,h1,h2,h3,h4,h5,.inr ⟨T,oT,ts,g1,g2,g3,g4,g5,g6,g7⟩⟩
theorem ExcF.older {h₀ h₁ h:Heap} {H:Hp} {x:Addr} {C:Value} (e:ExcF h₁ h H x C) (k:∀ b,h₁.get? b = none->h₀.get? b = none):ExcF h₀ h H x C:=by
 obtain ⟨oe,vs,T,oT,ts,h1,h2,h3,h4,h5,g1,g2,g3,g4,g5,g6,g7⟩:=e;exact ⟨oe,vs,T,oT,ts,h1,h2,h3,h4,k _ h5,g1,g2,g3,g4,g5,g6,k _ g7⟩
def KeptO (h₀:Heap) (H:Hp) (fs:List Addr) (h h':Heap):Prop :=
 (∀ b o,h.get? b = some o->(h₀.get? b ≠ none\/H b ≠ none)->b ∉ fs->h'.get? b = some o)/\∀ b o,h.get? b = some o->b∈fs->∃ sl,h'.get? b = some { o with slots:=sl }
theorem KeptO.trans {h₀ h h1 h2:Heap} {H:Hp} {fs:List Addr} (x:KeptO h₀ H fs h h1) (y:KeptO h₀ H fs h1 h2):KeptO h₀ H fs h h2 :=
 ⟨fun b o e n f=>y.1 b o (x.1 b o e n f) n f,fun b o e f=>by
  obtain ⟨s1,e1⟩:=x.2 b o e f
  obtain ⟨s2,e2⟩:=y.2 b _ e1 f
  exact ⟨s2,e2⟩⟩
theorem KeptO.there {h₀ h h1:Heap} {H:Hp} {fs:List Addr} (x:KeptO h₀ H fs h h1) {b:Addr} {o:Obj} (e:h.get? b = some o) (n:h₀.get? b ≠ none\/H b ≠ none):∃ u,h1.get? b = some u:=by
 by_cases f:b∈fs
 ·obtain ⟨s1,e1⟩:=x.2 b o e f;exact ⟨_,e1⟩
 ·exact ⟨o,x.1 b o e n f⟩
theorem oO {h h' base:Heap}:∀ {l:List Env},h.FunFrames base l->(∀ b o,h.get? b = some o->b∈iQ l->∃ sl,h'.get? b = some { o with slots:=sl })->h'.FunFrames base l
 | [],_,_=>trivial
 | env :: l,⟨hk,⟨L,o,hf,hn,ho,hd⟩,hr⟩,k=>by
  obtain ⟨sl,e⟩:=k L o ho (kJ mem_cons_self hf);refine ⟨hk,⟨L,_,hf,hn,e,hd⟩,oO hr fun b o e hb=>k b o e ?_⟩;obtain ⟨env',h1,h2⟩:=mem_filterMap.mp hb;exact kJ (mem_cons_of_mem _ h1) h2
theorem KeptO.touch {h₀ h:Heap} {H:Hp} {fs:List Addr} {T:Addr} {f:Obj->Obj} (n0:h₀.get? T = none) (n1:H T = none) (nf:T ∉ fs):KeptO h₀ H fs h (h.update T f):=by
 have oth:∀ b,b ≠ T->(h.update T f).get? b = h.get? b:=fun b nb=>get?_update_other _ _ (Ne.symm nb);refine ⟨fun b o e n _=>(oth b ?_).trans e,fun b o e hb=>⟨o.slots,(oth b ?_).trans e⟩⟩
 ·rintro rfl;rcases n with z | z
  ·exact z n0
  ·exact z n1
 ·rintro rfl;exact nf hb
section
variable {M:Model} {A:Around} {E:Value->Shared->Prop} {s:Shared} {base h₀:Heap} {env:Env} {outer:List Env} {L x:Addr} {C:Value} {H:Hp} {Q:Unit->Shared->Prop}
theorem sO (hl:s.heap.FunFrames base (env :: outer)) {T:Addr} {oT:Obj} {ts:Array Value} (h:s.heap.get? T = some oT) (hd:oT.data = .fields ts):T ∉ iQ (env :: outer):=fun hm=>by
 obtain ⟨_,o,e,nf⟩:=hl.mem hm;rw [h] at e; cases e;exact nf ts hd
theorem Hf {oe:Obj} {vs:Array Value} {head:Value} {bn:Bool}
  (hfr:A.frames = some (env :: outer)) (hl:s.heap.FunFrames base (env :: outer)) (hf:env.frame = some L) (hx:s.heap.get? x = some oe) (hd:oe.data = .fields vs) (hz:1 < vs.size)
  (h:∀ (h':Heap) (T:Addr) (oT:Obj) (ts:Array Value),(∀ b o,b ≠ x->b ∉ iQ (env :: outer)->s.heap.get? b = some o->h'.get? b = some o) ->
   (∀ b o,s.heap.get? b = some o->b∈iQ (env :: outer)->∃ sl,h'.get? b = some { o with slots:=sl }) ->
   h'.get? x = some (Obj.mapFields (·.setIfInBounds 1 (Value.ref T)) oe)->s.heap.get? T = none->h'.get? T = some oT->oT.data = .fields ts->3 < ts.size->Q () { s with heap:=h' }) :
  wpAny M A (do let a <- frameOf env; let q <- entryPlaceOf L bn; let e <- EntryCells.newEntry head a .none (rawInt L) .none q; setField (.ref x) 1 e) Q E s:=by
 have nx:x ∉ iQ (env :: outer):=sO hl hx hd;refine wpAny_bind (wpAny_frameOf_fun hfr hl hf fun h1 s1=>wpAny_bind (wpAny_entryPlaceOf fun q hq=>?_));unfold EntryCells.newEntry newFields;refine wpAny_bind (wpAny_newObj_type ?_ (hq.sizeOk5 _ _ _ _ _));have x1:h1.get? x = some oe:=(s1.2.1 x nx).trans hx;refine wpAny_setField (get?_push_of_some _ x1) hd hz ?_;have ne:h1.objs.size ≠ x:=ne_of_gt (lt_size x1);refine h _ h1.objs.size _ _ (fun b o nb hb e=>?_) (fun b o e hb=>?_) (get?_update_self _ (get?_push_of_some _ x1) (Obj.isFreed_of_fields (Obj.data_mapFields hd _))) ?_ ((get?_update_other _ _ (Ne.symm ne)).trans (get?_push_size h1 rfl)) rfl ?_
 ·exact (get?_update_other _ _ (Ne.symm nb)).trans (get?_push_of_some _ ((s1.2.1 b hb).trans e))
 ·obtain ⟨sl,e1⟩:=s1.2.2 b o e;refine ⟨sl,(get?_update_other _ _ fun z=>nx ?_).trans (get?_push_of_some _ e1)⟩;rw [z]; exact hb
 ·cases e:s.heap.get? h1.objs.size with
  | none=>rfl
  | some o =>
   obtain ⟨sl,e1⟩:=s1.2.2 _ o e;exact absurd (lt_size e1) (lt_irrefl _)
 ·simp only [size_toArray,length_append,length_cons,length_nil];omega
theorem yQ (hfr:A.frames = some (env :: outer)) (hl:s.heap.FunFrames base (env :: outer)) (hf:env.frame = some L) (hx:aFj h₀ s.heap H x C)
  (h0:∀ b o,h₀.get? b = some o->∃ u,s.heap.get? b = some u) (hH:∀ b o,H b = some o->∃ u,s.heap.get? b = some u)
  (h:∀ h',KeptO h₀ H (iQ (env :: outer)) s.heap h'->ExcF h₀ h' H x C->Q () { s with heap:=h' }):wpAny M A (noteFrame (.ref x) env) Q E s:=by
 obtain ⟨oe,vs,he,hc,hd,hHx,h0x,htr⟩:=hx;have fin:∀ (h1:Heap) (head:Value) (bn:Bool),KeptO h₀ H (iQ (env :: outer)) s.heap h1->h1.get? x = some oe->1 < vs.size ->
   wpAny M A (do let a <- frameOf env; let q <- entryPlaceOf L bn; let e <- EntryCells.newEntry head a .none (rawInt L) .none q; setField (.ref x) 1 e) Q E { s with heap:=h1 }:=by
  intro h1 head bn k1 e1 hz;refine Hf (s:={ s with heap:=h1 }) hfr (oO hl k1.2) hf e1 hd hz fun h' T oT ts a1 a2 a3 a4 a5 a6 a7=>?_;have nT:∀ {b:Addr},h1.get? b = none->(h₀.get? b ≠ none\/H b ≠ none)->False:=fun {b} q n=>by
   obtain ⟨u,hu⟩:∃ u,s.heap.get? b = some u:=by
    rcases n with z | z
    ·cases e:h₀.get? b with
     | none=>exact absurd e z
     | some o=>exact h0 b o e
    ·cases e:H b with
     | none=>exact absurd e z
     | some o=>exact hH b o e
   obtain ⟨v,hv⟩:=k1.there hu n;rw [q] at hv; cases hv
  refine h h' (k1.trans ⟨fun b o q n f=>a1 b o ?_ f q,a2⟩) ⟨_,_,T,oT,ts,a3,(Obj.cls_mapFields _ _).trans hc,Obj.data_mapFields hd _,hHx,h0x,by simp [hz],?_,a5,a6,a7,?_,?_⟩
  ·rintro rfl;rcases n with z | z
   ·exact z h0x
   ·exact z hHx
  ·rintro rfl;have a4':h1.get? T = none:=a4;rw [e1] at a4'; cases a4'
  ·cases e:H T with
   | none=>rfl
   | some o=>exact (nT a4 (.inr (by rw [e]; simp))).elim
  ·cases e:h₀.get? T with
   | none=>rfl
   | some o=>exact (nT a4 (.inl (by rw [e]; simp))).elim
 unfold noteFrame;simp only [hf];rcases htr with h1 | ⟨T,oT,ts,h1,hTx,hT,hdT,h3,hHT,h0T⟩
 ·refine wpAny_bind (wpAny_field (s:=s) he hd h1 ?_);rw [if_neg (by decide:¬ ((Value.none != Value.none) = true))];exact fin s.heap _ _ ⟨fun _ _ e _ _=>e,fun _ o e _=>⟨o.slots,e⟩⟩ he (Array.getElem?_eq_some_iff.mp h1).1
 ·refine wpAny_bind (wpAny_field (s:=s) he hd h1 ?_);rw [if_pos (by simp:(Value.ref T != Value.none) = true)];obtain ⟨v,hv⟩:∃ v,ts[3]? = some v:=⟨_,Array.getElem?_eq_getElem h3⟩;refine wpAny_bind (wpAny_field (s:=s) hT hdT hv ?_);by_cases hb:(v == rawInt L) = true
  ·rw [if_pos hb];refine wpAny_pure ?_;exact h s.heap ⟨fun _ _ e _ _=>e,fun _ o e _=>⟨o.slots,e⟩⟩ ⟨oe,vs,T,oT,ts,he,hc,hd,hHx,h0x,h1,hTx,hT,hdT,h3,hHT,h0T⟩
  ·rw [if_neg hb];refine wpAny_bind (wpAny_setField (s:=s) hT hdT h3 ?_);exact fin _ _ _ (.touch h0T hHT (sO hl hT hdT)) ((get?_update_other _ _ hTx).trans he) (Array.getElem?_eq_some_iff.mp h1).1
theorem yY {m:Option Addr} (hl:s.heap.FunFrames base (env :: outer)) (hx:ExcF h₀ s.heap H x C)
  (h:∀ h',KeptO h₀ H (iQ (env :: outer)) s.heap h'->ExcF h₀ h' H x C->(m = none->ExcAt h₀ h' H x C)->Q () { s with heap:=h' }):wpAny M A (setFlight (.ref x) m) Q E s:=by
 obtain ⟨oe,vs,T,oT,ts,he,hc,hd,hHx,h0x,h1,hTx,hT,hdT,h3,hHT,h0T⟩:=hx;unfold setFlight;refine wpAny_bind (wpAny_field (s:=s) he hd h1 ?_);rw [if_pos (by simp:(Value.ref T != Value.none) = true)];refine wpAny_setField (s:=s) hT hdT h3 ?_;have e1:(s.heap.update T (Obj.mapFields (·.setIfInBounds 3 (m.elim Value.none fun f=>rawInt f)))).get? x = some oe:=(get?_update_other _ _ hTx).trans he;have e2:=get?_update_self (Obj.mapFields (·.setIfInBounds 3 (m.elim Value.none fun f=>rawInt f))) hT (Obj.isFreed_of_fields (Obj.data_mapFields hdT _));refine h _ (.touch h0T hHT (sO hl hT hdT)) ⟨oe,vs,T,_,_,e1,hc,hd,hHx,h0x,h1,hTx,e2,Obj.data_mapFields hdT _,by simpa using h3,hHT,h0T⟩ fun z=>?_;subst z;exact ⟨oe,vs,e1,hc,hd,hHx,h0x,.inr ⟨T,_,_,h1,hTx,e2,Obj.data_mapFields hdT _,by simp [h3],hHT,h0T⟩⟩
end
def zT (X:Cx) (E:XK):Prop:=∀ (pins:List (Addr × Obj)) (σ:L2.St) (H':Hp) (s':Shared) (x:Addr) (C:Value),Inv X pins σ H' s'->ExcF X.s₀.heap s'.heap H' x C->E C none H'->X.xe (.ref x) s'
theorem uH {P:Program} {w:World} {K:W.Frag} {mg:Str->Option Value} {base:Heap} {N:List Str} {qual:Str} {scope:Scope} {f:Addr} {cdv:Value} {A:Around} {outer:List Env} {s₀:Shared} {H₀:Hp} {E:XK} :
  zT (nE (eA P w) P w K mg base N qual scope f cdv A outer s₀ H₀ E) E:=by
 intro pins σ H' s' x C I' hx hE;have noex:∀ b:Addr,b ∉ (nE (eA P w) P w K mg base N qual scope f cdv A outer s₀ H₀ E).ex:=fun b z=>absurd (show b∈([]:List Addr) from z) (by simp);have there:∀ b o,s₀.heap.get? b = some o->∃ o',s'.heap.get? b = some o':=fun b o e=>I'.base.there b o e (noex b);show wpAny (model P w) _ (leaving _ (.ref x)) _ _ s';unfold leaving;refine wpAny_bind (yQ (h₀:=s₀.heap) (H:=H') (base:=base) I'.ok.frames I'.stack rfl hx.g there (fun b o e=>nY (I'.hok b o e)) fun h1 k1 x1=>?_);refine yY (s:={ s' with heap:=h1 }) (base:=base) (oO I'.stack k1.2) x1 fun h2 k2 _ x2=>?_;obtain ⟨kp,sl⟩:=k1.trans k2;have neL:∀ b o,s₀.heap.get? b = some o->b ∉ iQ outer->b ∉ iQ (envOfC qual scope s₀.heap.objs.size f cdv :: outer):=fun b o e hb hm=>by
  rcases mem_cons.mp (I'.stkSub b hm) with z | z
  ·exact absurd (z ▸ lt_size e) (not_lt.mpr I'.ok.above)
  ·exact hb z
 refine ⟨x,C,H',rfl,I'.os,I'.bare,⟨fun b o e n hb _=>?_,fun b o e n hb _=>?_,fun b o e n _=>I'.base.free b o e n (noex b),fun b o e _=>?_,I'.base.tups,I'.base.frzs,I'.base.tbls⟩,wG I' kp,x2 rfl,hE⟩
 ·exact kp b o (I'.base.keep b o e n hb (noex b)) (.inl (by rw [e]; simp)) (neL b o e hb)
 ·obtain ⟨sl1,e1⟩:=I'.base.slot b o e n hb (noex b)
  obtain ⟨sl2,e2⟩:=sl b _ e1 (by
   obtain ⟨env,h1,h2⟩:=mem_filterMap.mp hb
   exact kJ (mem_cons_of_mem _ h1) h2)
  exact ⟨sl2,e2⟩
 ·obtain ⟨o1,e1⟩:=there b o e;exact KeptO.there ⟨kp,sl⟩ e1 (.inl (by rw [e]; simp))
section
variable {prog:Program} {w:World} {A:Around} {R:Result->Shared->Prop} {s:Shared}
theorem Oo {elt target iter:Expr} {ifs:List Expr} {scope:Scope} {pos:Pos} {it acc:Value} {cenv:Env} (J:Nat->Shared->Prop) (E':Value->Shared->Prop) (hE:∀ e s',E' e s'->notedBy (model prog w) A cenv (fun e s'=>R (.error e) s') e s')
  (turn:∀ n s,J n s->wpAny (model prog w) A (pyNext it) (fun r sa=>match r with
   | none=>R (.ok .next) sa
   | some v=>wpAny (model prog w) A (letOwnedTupleGo target it v) (fun _ sb=>wpAny (model prog w) A (assign target cenv v) (fun _ sc =>
     wpAny (model prog w) A (forIn ifs true fun c r=>if r = true then do let ok <- isTrue c cenv (eval c cenv); pure (ForInStep.yield ok) else pure (ForInStep.yield r)) (fun ok sd =>
      if ok = true then wpAny (model prog w) A (eval elt cenv) (fun x se =>
       wpAny (model prog w) A (call (.builtin "list.append") [acc,x]) (fun _ sf=>∃ m,m < n/\J m sf) E' se) E' sd
      else ∃ m,m < n/\J m sd) E' sc) E' sb) E' sa) E' s)
  (n:Nat) (h:J n s):codeAny (model prog w) A (.compLoop (.ListComp elt [⟨target,iter,ifs,0⟩] scope pos) 0 it acc cenv) R s:=by
 refine codeAny_loop rfl J (fun k sk hJ=>?_) n h;show wpAny _ A ((compTurn (.ListComp elt [⟨target,iter,ifs,0⟩] scope pos) 0 it acc cenv).onRaise (fun y=>do noteFrame y cenv; theTreesLotGoes y)) _ _ sk;refine wpAny_noted (wpAny_mono (E:=E') ?_ (fun _ _ z=>z) hE);rw [compTurn_list];refine wpAny_bind (wpAny_standAt (wpAny_bind (wpAny_mono (turn k sk hJ) (fun r sa ha=>?_) fun _ _ z=>z)));cases r with
 | none=>exact wpAny_pure ha
 | some v =>
  refine wpAny_bind (wpAny_mono ha (fun _ sb hb=>wpAny_bind (wpAny_mono hb (fun _ sc hc=>wpAny_bind (wpAny_mono hc (fun ok sd hd=>?_) fun _ _ z=>z)) fun _ _ z=>z)) fun _ _ z=>z);cases ok with
  | false=>exact wpAny_pure ⟨rfl,hd⟩
  | true=>exact wpAny_bind (wpAny_bind (wpAny_mono hd (fun x se he=>wpAny_bind (wpAny_mono he (fun _ sf hf=>wpAny_pure (wpAny_pure ⟨rfl,hf⟩)) fun _ _ z=>z)) fun _ _ z=>z))
end
def Op (X:Cx) (E:XK) (scope:Scope) (cl:List (Str × Addr)) (NC:List Str) (C:Addr) (s₀:Shared) (H₀:Hp) (fp:List Addr):Value->Shared->Prop:=fun e s' =>
 ∃ (pins:List (Addr × Obj)) (σ:L2.St) (H':Hp) (x:Addr) (CC:Value) (h₁:Heap),e = .ref x/\Inv (mY X scope cl NC C s₀ H₀ fp) pins σ H' s'/\ExcAt h₁ s'.heap H' x CC/\(∀ b o,h₁.get? b = some o->∃ u,s'.heap.get? b = some u) /\
  (∀ b o,s₀.heap.get? b = some o->b ∉ fp->∃ u,h₁.get? b = some u)/\(∃ u,h₁.get? C = some u)/\E CC none H'
def iL (X:Cx) (E:XK) (scope:Scope) (cl:List (Str × Addr)) (NC:List Str) (C:Addr) (s₀:Shared) (H₀:Hp) (fp:List Addr):Cx :=
 { mY X scope cl NC C s₀ H₀ fp with xe:=Op X E scope cl NC C s₀ H₀ fp }
section
variable {X:Cx} {E:XK} {scope:Scope} {cl:List (Str × Addr)} {NC:List Str} {C:Addr} {s₀:Shared} {H₀:Hp} {fp:List Addr} {pins:List (Addr × Obj)} {σ:L2.St} {H:Hp} {s:Shared}
theorem Wv (I:Inv (iL X E scope cl NC C s₀ H₀ fp) pins σ H s):Inv (mY X scope cl NC C s₀ H₀ fp) pins σ H s :=
 have ok:=I.ok
 ⟨⟨ok.mod,ok.kind,ok.glob,ok.blt,ok.above,ok.inj,ok.has,ok.cab,ok.hd,ok.frames,ok.stk,ok.exf,ok.bs,ok.bsz,ok.noex,ok.exfs,ok.funs,ok.frf⟩,I.os,I.bare,I.base,I.loc,I.cell,I.free,I.freeC,I.pin,I.hok,I.len⟩
theorem Cz {P:Program} {w:World} (hP:X.prog = P) (hw:X.w = w):jE (eA P w) (iL X E scope cl NC C s₀ H₀ fp) E:=by
 subst hP hw;intro pins σ H s e s' I hc;obtain ⟨x,CC,H',rfl,ho,hg,u,hok,hx,hE⟩:=hc;have I':Inv (iL X E scope cl NC C s₀ H₀ fp) pins σ H' s':=I.call' ho u hok hg (fun b z=>absurd z (by simp));refine ⟨pins,σ,H',x,CC,s.heap,rfl,Wv I',hx,fun b o e=>u.there b o e (by simp),fun b o e hb=>I.base.there b o e hb,?_,hE⟩;obtain ⟨m,⟨o,_,_,ho,_⟩,_⟩:=I.loc;exact ⟨o,ho⟩
end
section
variable {X:Cx} {E:XK} {elt target iter:Expr} {ifs:List Expr} {scope:Scope} {pos:Pos} {wi:TI} {cap:List (Option Nat)} {NC:List Str} {cl:List (Str × Addr)} {g:TG} {tt:TT} {te:TE}
theorem Nh (hc:X.calm = true) (hst:X.stack = X.env :: X.outer) (hfm:X.env.frame = some X.env.locals) (hex:X.ex = []) (hlv:zT X E) (L:LcOk X scope cl cap NC) (hi:PI X target iter wi) (hg:∀ C s₀ H₀ fp,PG (iL X E scope cl NC C s₀ H₀ fp) target g) (ht:∀ C s₀ H₀ fp,PTs (iL X E scope cl NC C s₀ H₀ fp) ifs tt) (he:∀ C s₀ H₀ fp,PE (iL X E scope cl NC C s₀ H₀ fp) elt te)
  (hs:∀ x,foldedSetIterable iter X.env x = pure x:=by intro _; rfl):PE X (.ListComp elt [⟨target,iter,ifs,0⟩] scope pos) (tLC wi cap g tt te):=by
 intro pins s σ H Q I h;rw [eval_ListComp];refine wpAny_comprehension_free (use:=none) rfl hs L.clos L.kind L.names (dO (hi pins s σ H _ I h) fun xv s₁ h₁=>dO h₁ fun itv s₂ h₂=>?_);obtain ⟨it,fp,tn,J,H2,rfl,I2,T,st2,f2,hW⟩:=h₂;refine wpAny_newObj_type (wpAny_newFunctionEnv L.nocell (by intro y hy; simp at hy) (fun h₁ hns₁ hsb₁=>?_) L.kind);dsimp only at hns₁ hsb₁ ⊢;have nD:H2 s₂.heap.objs.size = none:=I2.hok.fresh (le_refl _);have I3:Inv X pins σ (cX H2 s₂.heap.objs.size (.lst [])) { s₂ with heap:=s₂.heap.push { cls:=.type "list",dict:=none,data:=.seq ([]:List Value).toArray } }:=by
  refine I2.laid (t':=s₂.toks) (fun b u e=>get?_push_of_some _ e) (le_refl _) ?_;exact ⟨zero_le _,[],0,.nil,get?_push_size _ rfl⟩
 obtain ⟨W,⟨m0,w0⟩,turn⟩:=hW s₂.heap.objs.size nD;generalize hD:s₂.heap.objs.size = D at nD I3 turn w0 ⊢;generalize hH:s₂.heap.push { cls:=.type "list",dict:=none,data:=.seq ([]:List Value).toArray } = h₀ at hns₁ hsb₁ I3 ⊢;have hpush:∀ b o,s₂.heap.get? b = some o->h₀.get? b = some o:=fun b o e=>by rw [<- hH]; exact get?_push_of_some _ e
 generalize hC:h₀.objs.size = C at hns₁ hsb₁ ⊢;have belowC:∀ b o,h₀.get? b = some o->b ≠ C:=fun b o e z=>by
  have:=lt_size e;rw [hC,<- z] at this;exact lt_irrefl _ this
 have old:∀ b o,h₀.get? b = some o->h₁.get? b = some o:=fun b o e=>hsb₁.extBut b o (belowC b o e) (get?_push_of_some _ e);have f3:∀ b∈fp,kX X pins (cX H2 D (.lst [])) b:=fun b hb=>by
  obtain ⟨x1,x2⟩:=f2 b hb;obtain ⟨o,e,_⟩:=T.obj 0 _ st2 b hb;refine ⟨?_,x2⟩;rw [bD (fun z=>by have:=lt_size e; rw [z,<- hD] at this; exact lt_irrefl _ this)];exact x1
 have fpC:∀ b∈fp,b ≠ C:=fun b hb=>by
  obtain ⟨o,e,_⟩:=T.obj 0 _ st2 b hb;exact belowC b o (hpush b o e)
 have clC:∀ x c,cl.lookup x = some c->c ≠ C:=fun x c e=>by
  obtain ⟨v,o,ho,_⟩:=I3.cell x c (eO L e);exact belowC c o ho
 have noC:(cX H2 D (.lst [])) C = none:=I3.hok.fresh (by show h₀.objs.size<=C; rw [hC]; exact le_refl _);have okZ:(mY X scope cl NC C { s₂ with heap:=h₀ } (cX H2 D (.lst [])) fp).Ok:=by
  refine ⟨I3.ok.mod,by show (relabel scope X.env).kind = _; exact L.kind,I3.ok.glob,I3.ok.blt,by show h₀.objs.size<=C; rw [hC]; exact le_refl _,fun x y c e1 e2=>I3.ok.inj x y c (eO L e1) (eO L e2),fun x hx=>?_,fun x c z=>(by cases z),I3.ok.hd,I3.ok.frames,.inl rfl,fun b hb=>⟨fpC b hb,fun x c e=>(f3 b hb).2.2.2.2.1 x c (eO L e)⟩,I3.bs,le_trans I3.ok.bsz I3.sz,fun b o e hb=>?_,fun b hb hm=>?_,I3.stack,I3.stkFree⟩
  ·have mem:∃ k,(x,k)∈(relabel scope X.env).names/\(k = .cell\/k = .free):=by
    rcases hx with z | z
    ·exact ⟨_,PySem.mem_of_lookup z,.inl rfl⟩
    ·exact ⟨_,PySem.mem_of_lookup z,.inr rfl⟩
   obtain ⟨k,hk,hk2⟩:=mem;have q:=all_eq_true.mp L.has (x,k) hk;have q2:(cl.lookup x).isSome = true:=by
    rcases hk2 with z | z
    ·subst z; simpa using q
    ·subst z; simpa using q
   exact isSome_iff_exists.mp q2
  ·rcases (f3 b hb).2.2.2.1 with z | z
   ·exact I3.ok.noex b o e z
   ·exact absurd (lt_of_lt_of_le (lt_size e) (le_trans I3.ok.bsz z)) (lt_irrefl _)
  ·rcases mem_cons.mp (I3.stkSub b hm) with z | z
   ·exact (f3 b hb).2.1 z
   ·exact (f3 b hb).2.2.1 z
 have okY:(iL X E scope cl NC C { s₂ with heap:=h₀ } (cX H2 D (.lst [])) fp).Ok :=
  ⟨okZ.mod,okZ.kind,okZ.glob,okZ.blt,okZ.above,okZ.inj,okZ.has,okZ.cab,okZ.hd,okZ.frames,okZ.stk,okZ.exf,okZ.bs,okZ.bsz,okZ.noex,okZ.exfs,okZ.funs,okZ.frf⟩
 have stat:∀ {Hc:Hp},(∀ b∈fp,Hc b = none)->∀ b∈fp,kX (iL X E scope cl NC C { s₂ with heap:=h₀ } (cX H2 D (.lst [])) fp) [] Hc b:=fun hn b hb =>
  ⟨hn b hb,fpC b hb,okY.exfs b hb,.inl hb,fun x c e=>(okY.exf b hb).2 x c e,fun p hp=>absurd (show p∈([] ++ []:List (Addr × Obj)) from hp) (by simp)⟩
 have back:∀ {σc:L2.St} {Hc:Hp} {s':Shared} {pn:List (Addr × Obj)},Inv (mY X scope cl NC C { s₂ with heap:=h₀ } (cX H2 D (.lst [])) fp) pn σc Hc s'->∀ h',SameBut C s'.heap h'->∀ t',Inv X pins σ Hc { s' with heap:=h',toks:=t' }:=fun {σc Hc s' pn} I' h' sb t'=>by
  have u:=I'.base;have nC:Hc C = none:=I'.free;refine I3.call' (s':={ s' with heap:=h',toks:=t' }) (ch:=fp) I'.os ⟨fun b o e n hb hx=>?_,fun b o e n hb hx=>?_,u.free,fun b o e hx=>?_,u.tups,u.frzs,u.tbls⟩ (fun b o e=>?_) I'.bare (fun b hb=>⟨(f3 b hb).2.2.2.1,(f3 b hb).2.1,(f3 b hb).2.2.2.2.1,(f3 b hb).2.2.2.2.2⟩)
  ·exact (sb.2 b (belowC b o e)).trans (u.keep b o e n hb hx)
  ·obtain ⟨sl,q⟩:=u.slot b o e n hb hx;exact ⟨sl,(sb.2 b (belowC b o e)).trans q⟩
  ·obtain ⟨o',q⟩:=u.there b o e hx;exact ⟨o',(sb.2 b (belowC b o e)).trans q⟩
  ·refine (I'.hok b o e).stay (fun c v hcb q=>(sb.2 c ?_).trans q) (fun _ q=>q) fun _ _ q=>q;rintro rfl;rcases hcb with z | z
   ·subst z;rw [nC] at e; cases e
   ·rw [nC] at z; cases z
 have Ist:∀ t',Inv (iL X E scope cl NC C { s₂ with heap:=h₀ } (cX H2 D (.lst [])) fp) [] (capσ cap σ) (cX H2 D (.lst [])) { s₂ with heap:=h₁,toks:=t' }:=fun t'=>by
  refine ⟨okY,rfl,I3.bare,⟨fun b o e _ _ _=>old b o e,fun b o e _ _ _=>⟨o.slots,old b o e⟩,fun _ _ _ n _=>n,fun b o e _=>⟨o,old b o e⟩,fun _ _ e=>e,fun _ _ _ e=>e,fun b ps e=>⟨#[],by rw [show (cX H2 D (.lst [])) b = _ from e]; simp⟩⟩,⟨_,hns₁,fun j y v e1 e2 e3=>?_⟩,fun y c e=>?_,noC,fun y c e=>I3.freeC y c (eO L e),fun p hp=>absurd (show p∈([] ++ []:List (Addr × Obj)) from hp) (by simp),I3.hok.kept old,by
   show (cap.map _).length = NC.length
   rw [length_map]; exact L.caps.len⟩
  ·have e2':(cap.map fun o=>o.bind fun i=>(σ[i]?).bind id)[j]? = some (some v):=e2;rw [getElem?_map] at e2';cases hq:cap[j]? with
   | none=>rw [hq] at e2'; cases e2'
   | some o =>
    rw [hq] at e2';cases o with
    | none=>cases e2'
    | some i =>
     have e4:(σ[i]?).bind id = some v:=by simpa using e2'
     have e5:σ[i]? = some (some v):=by
      cases hs:σ[i]? with
      | none=>rw [hs] at e4; cases e4
      | some z=>rw [hs] at e4; simpa using e4
     obtain ⟨c,x1,x2,x3,x4,x5⟩:=L.caps.at hq e1;obtain ⟨m,hn,hl⟩:=I3.loc;obtain ⟨u,r,l⟩:=hl i y v x1 e5 (.inr (.inl x2));refine ⟨u,r,.inr ⟨.inl x5,c,x3,?_⟩⟩;rcases l with ⟨k,_⟩ | ⟨_,c',x6,z⟩
     ·have k':X.env.scope.names.lookup y = some .local:=k;rw [x2] at k'; cases k'
     ·rw [x4] at x6; cases x6;obtain ⟨o,ho,hd⟩:=z;exact ⟨o,old _ _ ho,hd⟩
  ·obtain ⟨v,o,ho,hd⟩:=I3.cell y c (eO L e);exact ⟨v,o,old _ _ ho,hd⟩
 have fail:∀ e s',Op X E scope cl NC C { s₂ with heap:=h₀ } (cX H2 D (.lst [])) fp e s'->notedBy (model X.prog X.w) X.A (compEnvC scope cl C X.env) (fun e s'=>compPost (model X.prog X.w) X.A X.xe none (EP X pins σ Q) (.ref D) C (.error e) s') e s':=by
  rintro e s' ⟨pn,σc,H',x,CC,hk,rfl,I',hx,k0,k1,⟨uC,kC⟩,hE⟩;have IX:Inv X pins σ H' s':=back I' s'.heap ⟨rfl,fun _ _=>rfl⟩ s'.toks;have nC:H' C = none:=I'.free;have frX:X.A.frames = some (X.env :: X.outer):=by rw [<- hst]; exact I2.ok.frames
  have stX:s'.heap.FunFrames X.base (X.env :: X.outer):=by rw [<- hst]; exact IX.stack
  have Cfr:C ∉ iQ (X.env :: X.outer):=fun hm=>by
   rw [<- hst] at hm;rcases mem_cons.mp (I3.stkSub C hm) with z | z
   ·have:=I3.lt;rw [<- z] at this;exact absurd this (by show ¬ C < h₀.objs.size; rw [hC]; exact lt_irrefl _)
   ·exact I3.nofs (by show h₀.objs.size<=C; rw [hC]; exact le_refl _) z
  have O:Old X pins (PySem.W.hideAll s₂.heap fp):=by
   have hid:∀ {b:Addr} {o:Obj},s₂.heap.get? b = some o->b ∉ fp->∃ u,(PySem.W.hideAll s₂.heap fp).get? b = some u:=fun e n=>⟨_,PySem.W.hideAll_get _ e n⟩;refine ⟨fun b o e hx=>?_,?_,fun p hp=>hid (I2.pin p hp).1 fun z=>(f2 _ z).2.2.2.2.2 p hp rfl,fun y c e=>?_⟩
   ·obtain ⟨o',e'⟩:=I2.base.there b o e hx;refine hid e' fun z=>?_;rcases (f2 b z).2.2.2.1 with q | q
    ·exact hx q
    ·exact absurd (lt_size e) (not_lt.mpr q)
   ·obtain ⟨m,⟨o,_,_,ho,_⟩,_⟩:=I2.loc;exact hid ho fun z=>(f2 _ z).2.1 rfl
   ·obtain ⟨v,o,ho,_⟩:=I2.cell y c e;exact hid ho fun z=>(f2 c z).2.2.2.2.1 y c e rfl
  have toK:∀ b,(PySem.W.hideAll s₂.heap fp).get? b ≠ none->hk.get? b ≠ none/\b ≠ C:=fun b z=>by
   cases q:(PySem.W.hideAll s₂.heap fp).get? b with
   | none=>exact absurd q z
   | some o =>
    have q2:=hpush b o (PySem.W.of_hideAll _ q);have nf:b ∉ fp:=fun hb=>by rw [PySem.W.hideAll_none _ hb] at q; cases q
    obtain ⟨u,hu⟩:=k1 b o q2 nf;exact ⟨by rw [hu]; simp,belowC b o q2⟩
  show wpAny (model X.prog X.w) X.A (noteFrame (.ref x) X.env) _ _ s';refine yQ (base:=X.base) (outer:=X.outer) (H:=H') (h₀:=hk) frX stX hfm hx.g k0 (fun b o e=>nY (I'.hok b o e)) fun h1 kp1 x1=>?_;obtain ⟨m,hn,_⟩:=id I'.loc;obtain ⟨oC,c1,c2,c3,c4⟩:=hn;have c5:h1.get? C = some oC:=kp1.1 C oC c3 (.inl (by rw [kC]; simp)) Cfr;refine ⟨m,⟨oC,c1,c2,c5,c4⟩,fun h2 sb cenv' _=>?_⟩;have x2:ExcF hk h2 H' x CC:=by
   obtain ⟨oe,vs,T,oT,ts,g1,g2,g3,g4,g5,g6,g7,g8,g9,g10,g11,g12⟩:=x1;refine ⟨oe,vs,T,oT,ts,(sb.2 x fun z=>?_).trans g1,g2,g3,g4,g5,g6,g7,(sb.2 T fun z=>?_).trans g8,g9,g10,g11,g12⟩
   ·rw [z,kC] at g5; cases g5
   ·rw [z,kC] at g12; cases g12
  have st2:h2.FunFrames X.base (X.env :: X.outer):=oO stX fun b o e hb=>by
   obtain ⟨sl,e1⟩:=kp1.2 b o e hb;exact ⟨sl,(sb.2 b fun z=>Cfr (z ▸ hb)).trans e1⟩
  unfold PySem.passOn;obtain ⟨oe,vs,T,oT,ts,g1,g2,g3,g4,g5,g6,g7,g8,g9,g10,g11,g12⟩:=id x2;refine wpAny_bind (wpAny_field (s:={ s' with heap:=h2 }) g1 g3 g6 ?_);rw [if_neg (by simp:¬ ((Value.ref T == Value.none) = true))];refine wpAny_bind (yY (s:={ s' with heap:=h2 }) (base:=X.base) (env:=X.env) (outer:=X.outer) (h₀:=hk) (H:=H') st2 x2 fun h3 kp3 x3 _=>?_);refine wpAny_throw ?_;have I3':Inv X pins σ H' { s' with heap:=h3 }:=sJ (t':=s'.toks) hst hfm IX O (fun b o e hb hf=>?_) fun b o e hb=>?_
  ·refine hlv pins σ H' { s' with heap:=h3 } x CC I3' (x3.older fun b q=>?_) hE;cases q2:X.s₀.heap.get? b with
   | none=>rfl
   | some o =>
    obtain ⟨u,hu⟩:=O.s0 b o q2 (by rw [hex]; simp);exact absurd q (toK b (by rw [hu]; simp)).1
  ·rw [hst] at hf;have hb':hk.get? b ≠ none\/H' b ≠ none:=hb.imp (fun z=>(toK b z).1) id;have nb:b ≠ C:=by
    rcases hb with z | z
    ·exact (toK b z).2
    ·rintro rfl; exact z nC
   exact kp3.1 b o ((sb.2 b nb).trans (kp1.1 b o e hb' hf)) hb' hf
  ·rw [hst] at hb;obtain ⟨s1,e1⟩:=kp1.2 b o e hb;obtain ⟨s2,e2⟩:=kp3.2 b _ ((sb.2 b fun z=>Cfr (z ▸ hb)).trans e1) hb;exact ⟨s2,e2⟩
 have loop:∀ s₃:Shared,s₃ = { s₂ with heap:=h₁,toks:=s₂.toks + ([]:List (Str × Value)).length } ->
   codeAny (model X.prog X.w) X.A (.compLoop (.ListComp elt [⟨target,iter,ifs,0⟩] scope pos) 0 (.ref it) (.ref D) (compEnvC scope cl C X.env)) (compPost (model X.prog X.w) X.A X.xe none (EP X pins σ Q) (.ref D) C) s₃:=by
  rintro s₃ rfl;refine Oo (fun n s'=>∃ i σc Hc,Inv (iL X E scope cl NC C { s₂ with heap:=h₀ } (cX H2 D (.lst [])) fp) [] σc Hc s'/\tn i s'.heap/\(∀ b∈fp,Hc b = none)/\W i n σc Hc) (Op X E scope cl NC C { s₂ with heap:=h₀ } (cX H2 D (.lst [])) fp) fail ?_ m0 ⟨0,capσ cap σ,_,Ist _,T.keep _ _ _ st2 (fun b hb o e=>old b o (hpush b o e)),fun b hb=>(f3 b hb).1,w0⟩;rintro n s5 ⟨i,σc,Hc,I5,st5,fr5,w5⟩;rcases turn i n σc Hc w5 with ⟨stop,qn⟩ | ⟨go,N,hN,step⟩
  ·refine wpAny_mono (T.done (iL X E scope cl NC C { s₂ with heap:=h₀ } (cX H2 D (.lst [])) fp) rfl rfl rfl hc i [] s5 σc Hc (Op X E scope cl NC C { s₂ with heap:=h₀ } (cX H2 D (.lst [])) fp) I5 (stat fr5) st5 stop) (fun r s6 ⟨hr,I6⟩=>?_) fun _ _ z=>z;subst hr;obtain ⟨m,hn,_⟩:=id I6.loc;exact ⟨m,hn,fun h' sb=>⟨.ref D,Hc,back (Wv I6) h' sb _,rfl,qn⟩⟩
  ·refine wpAny_mono (T.item (iL X E scope cl NC C { s₂ with heap:=h₀ } (cX H2 D (.lst [])) fp) rfl rfl rfl hc i [] s5 σc Hc (Op X E scope cl NC C { s₂ with heap:=h₀ } (cX H2 D (.lst [])) fp) I5 (stat fr5) st5 go) (fun r s6 ⟨u,hr,h6⟩=>?_) fun _ _ z=>z;subst hr;refine wpAny_mono h6 (fun _ s7 ⟨x,H7,I7,r7,y7,st7,fr7⟩=>?_) fun _ _ z=>z;have I7':=I7.pinned (stat fr7) (T.obj _ _ st7);refine wpAny_mono (hg C _ _ fp _ s7 σc H7 x u _ I7' r7 (step x H7 y7)) (fun _ s8 ⟨σ8,H8,I8,q8⟩=>?_) fun _ _ z=>z;have again:∀ {σ9:L2.St} {H9:Hp} {s9:Shared},Inv (iL X E scope cl NC C { s₂ with heap:=h₀ } (cX H2 D (.lst [])) fp) ([] ++ pK fp s7.heap) σ9 H9 s9->N σ9 H9->∃ m,m < n/\∃ i σ' H',Inv (iL X E scope cl NC C { s₂ with heap:=h₀ } (cX H2 D (.lst [])) fp) [] σ' H' s9/\tn i s9.heap/\(∀ b∈fp,H' b = none)/\W i m σ' H':=fun {σ9 H9 s9} I9 n9=>by
    obtain ⟨m',hm,w9⟩:=hN σ9 H9 n9;refine ⟨m',hm,i + 1,σ9,H9,I9.unpinned,T.keep _ _ _ st7 fun b hb o e=>(I9.pin (b,o) (mem_append_right _ (mem_append_right _ (gG hb e)))).1,fun b hb=>?_,w9⟩;obtain ⟨o,e,d⟩:=T.obj _ _ st7 b hb;exact (I9.pin (b,o) (mem_append_right _ (mem_append_right _ (gG hb e)))).2.1
   refine wpAny_mono (ht C _ _ fp _ s8 σ8 H8 _ I8 q8) (fun ok s9 ⟨H9,I9,q9⟩=>?_) fun _ _ z=>z;cases ok with
   | false =>
    rw [if_neg Bool.false_ne_true] at q9 ⊢;exact again I9 q9
   | true =>
    rw [if_pos rfl] at q9 ⊢;refine wpAny_mono (he C _ _ fp _ s9 σ8 H9 _ I9 q9) (fun v sa ⟨y,Ha,Ia,ra,ys,hy,hl,na⟩=>?_) fun _ _ z=>z;have app:=jS (X:=iL X E scope cl NC C { s₂ with heap:=h₀ } (cX H2 D (.lst [])) fp) _ sa σ8 Ha (.ref D) [y] (.ref D) [v] (fun _ Hb=>N σ8 Hb) Ia rfl (.cons ra .nil) ⟨D,ys,y,rfl,rfl,hy,hl,na⟩;exact wpAny_mono app (fun _ sb ⟨_,Hb,Ib,_,nb⟩=>again Ib nb) fun _ _ z=>z
 exact codeAny_compStart_list (loop _ rfl) (T.self _ 0 _ _ _ (T.keep _ _ _ st2 fun b hb o e=>old b o (hpush b o e)) (loop _ rfl))
end
end Lx
namespace Dl
open PySem PySem.Spec PyProof.Rows L2 Lx
section
variable {K:W.Frag} {H₀:Hp} {E:XK} {te ta tb:TE} {da db de:DE} {dl:DL} {tt:TT} {dt:DT} {g:TG} {dg:DG} {ns:List Nat}
def aKd (dl:DL) (cap:List (Option Nat)) (dg:DG) (dt:DT) (de:DE) (ex:DX) (δ:bW) (Q:List PyData->Prop):Prop:=dl ex δ fun ds=>ds.length<=100000/\∃ I:Nat->List PyData->Prop,I 0 [] /\
 (∀ i d acc,ds[i]? = some d->I i acc->dg d (oX cap δ) fun δ2=>dt ex δ2 fun b=>if b = true then de ex δ2 fun y=>I (i + 1) (acc ++ [y]) else I (i + 1) acc)/\∀ acc,I ds.length acc->Q acc
theorem Np {wi:TI} {cap:List (Option Nat)} (hi:IvE K H₀ E wi dl) (hg:Bs K H₀ g ns dg) (ht:xF K H₀ E tt dt) (he:fW K H₀ E te de) (hn:(cap.filterMap id).Nodup) (hns:ns.all (fun j=>(cap[j]?.bind id).isNone) = true):xG K H₀ E (tLC wi cap g tt te) (aKd dl cap dg dt de):=fun ex δ σ G H Qd Q hx S q k =>
 hi ex δ σ G H _ _ hx S q fun J xs G1 H1 e1 it ⟨hlen,I,i0,step,fin⟩=>by
  intro D hD;obtain ⟨eD,gD⟩:=eX (xs:=[]) e1.s hD
  refine ⟨fun i m σc Hc=>m = xs.length - i/\i<=xs.length/\qL cap σ σc/\∃ G' acc ys,Ext G1 H1 G' Hc/\G' D = none/\Hc D = some (.lst ys)/\DVs K G' ys acc/\acc.length<=i/\I i acc,
   ⟨_,rfl,zero_le _,Qv,G1,[],[],eD,gD,bJ,.nil,le_refl _,i0⟩,?_⟩
  rintro i m σc Hc ⟨rfl,hil,cs,G',acc,ys,e',gd,hd,hv,hal,hI⟩;obtain ⟨t1,t2⟩:=it G' Hc e' i;by_cases hlt:i < xs.length
  ·obtain ⟨g1,g2⟩:=t1 _ (getElem?_eq_getElem hlt);refine .inr ⟨g1,fun σ2 H2=>qL cap σ σ2/\∃ G' acc ys,Ext G1 H1 G' H2/\G' D = none/\H2 D = some (.lst ys)/\DVs K G' ys acc/\acc.length<=i + 1/\I (i + 1) acc,fun σ2 H2 z=>⟨_,by omega,rfl,hlt,z⟩,fun x H2 y=>?_⟩;obtain ⟨G2,e2,hx2⟩:=g2 x H2 y;have S2:Sees K H₀ G2 (oX cap δ) σc H2:=Ez S (e1.trans (e'.trans e2)) hn cs;refine hg x _ _ σc G2 H2 _ _ S2 hx2 (step i _ acc (getElem?_eq_getElem hlt) hI) fun δ3 σ3 S3 kp q3=>?_
   have cs3:qL cap σ σ3:=⟨kp.1.trans cs.1,fun j z hj=>by
    rw [kp.2 j (fun hm=>by
     have:=all_eq_true.mp hns j hm
     rw [hj] at this
     cases this)]
    exact cs.2 j z hj⟩
   refine ht ex δ3 σ3 G2 H2 _ _ hx S3 q3 fun b G4 H4 e4 q4=>?_;cases b with
   | true =>
    refine he ex δ3 σ3 G4 H4 _ _ hx (S3.ext e4) q4 fun y dy G5 H5 e5 hy q5=>?_;have e25:Ext G' Hc G5 H5:=e2.trans (e4.trans e5);have gd5:G5 D = none:=e25.keep gd hd;have hd5:H5 D = some (.lst ys):=e25.h _ _ hd;have e15:Ext G1 H1 G5 H5:=e'.trans e25;refine ⟨ys,hd5,vF (by rw [hv.len]; omega),cs3,G5,acc ++ [dy],ys ++ [y],⟨e15.g,fun b o z=>?_,fun b=>?_,e15.n⟩,gd5,bJ,(bQ e25.g hv).append (.cons hy .nil),by rw [length_append]; simp; exact hal,q5⟩
    ·rw [bD (bZ z hD)]; exact e15.h b o z
    ·by_cases w:b = D
     ·subst w; exact .inr ⟨gd5,_,bJ⟩
     ·rw [bD w]; exact e15.s b
   | false =>
    have e24:Ext G' Hc G4 H4:=e2.trans e4;exact ⟨cs3,G4,acc,ys,e'.trans e24,e24.keep gd hd,e24.h _ _ hd,bQ e24.g hv,Nat.le_succ_of_le hal,q4⟩
  ·have:i = xs.length:=by omega
   subst this;exact .inl ⟨t2 (le_refl _),k D ys acc G' Hc (e1.trans e') (e1.h.free hD) gd hd hv (fin acc hI)⟩
theorem Du {α β:Type} {cap:List (Option Nat)} {ex:DX} {δ:bW} {Q:List PyData->Prop} (f:α->PyData) (g:β->PyData) (F:α->List β) (P:α->Prop) (xs:List α) (hlen:xs.length<=100000) (hl:∀ Q,Q (xs.map f)->dl ex δ Q)
  (hs:∀ x∈xs,∀ N:List PyData->Prop,∀ acc,(P x->N (acc ++ (F x).map g))->dg (f x) (oX cap δ) fun δ2=>dt ex δ2 fun b=>if b = true then de ex δ2 fun y=>N (acc ++ [y]) else N acc)
  (hd:(∀ x∈xs,P x)->Q ((xs.flatMap F).map g)):aKd dl cap dg dt de ex δ Q :=
 hl _ ⟨by rw [length_map]; exact hlen,fun i acc=>acc = ((xs.take i).flatMap F).map g/\∀ x∈xs.take i,P x,⟨by simp,by simp⟩,fun i d acc hi hI=>by
  rw [getElem?_map] at hi
  cases q:xs[i]? with
  | none=>rw [q] at hi; cases hi
  | some x =>
   rw [q] at hi
   cases hi
   obtain ⟨rfl,hP⟩:=hI
   have e:xs.take (i + 1) = xs.take i ++ [x]:=by
    rw [take_add_one,q]; rfl
   refine hs x (mem_of_getElem? q) (fun acc=>acc = ((xs.take (i + 1)).flatMap F).map g/\∀ x∈xs.take (i + 1),P x) _ fun px=>?_
   rw [e]
   refine ⟨by simp,fun z hz=>?_⟩
   rcases mem_append.mp hz with h | h
   ·exact hP z h
   ·rw [mem_singleton.mp h]; exact px,fun acc hI=>by
  obtain ⟨rfl,hP⟩:=hI
  rw [length_map,take_of_length_le (le_refl _)] at hP ⊢
  exact hd hP⟩
end
mutual
def nZ:PyData->Bool
 | .dict _=>false
 | .list ds=>mV ds
 | .tuple ds=>mV ds
 | _=>true
def mV:List PyData->Bool
 | []=>true
 | d :: ds=>nZ d && mV ds
end
mutual
theorem Bl {K:W.Frag} {G H:Hp} (s:∀ b o,H b = some o->(∀ kvs,o ≠ .dK kvs)->G b = some o):∀ {x:V} {d:PyData},DV K H x d->nZ d = true->DV K G x d
 | _,_,.non,_=>.non
 | _,_,.bl b,_=>.bl b
 | _,_,.int i,_=>.int i
 | _,_,.str x,_=>.str x
 | _,_,.tup h hs,f=>.tup (by
   rcases h with (h | ⟨o,h⟩) | h
   ·exact .inl (.inl (s _ _ h (by intro xs z; cases z)))
   ·exact .inl (.inr ⟨o,s _ _ h (by intro xs z; cases z)⟩)
   ·exact .inr h) (qX s hs f)
 | _,_,.lst h hs,f=>.lst (by
   rcases h with (h | ⟨o,h⟩) | h
   ·exact .inl (.inl (s _ _ h (by intro xs z; cases z)))
   ·exact .inl (.inr ⟨o,s _ _ h (by intro xs z; cases z)⟩)
   ·exact .inr h) (qX s hs f)
 | _,_,.dct h,f=>by cases f
 | _,_,.dc0 h,f=>by cases f
theorem qX {K:W.Frag} {G H:Hp} (s:∀ b o,H b = some o->(∀ kvs,o ≠ .dK kvs)->G b = some o):∀ {xs:List V} {ds:List PyData},DVs K H xs ds->mV ds = true->DVs K G xs ds
 | _,_,.nil,_=>.nil
 | _,_,.cons h t,f=>by
  simp only [mV,and_eq_true] at f;exact .cons (Bl s h f.1) (qX s t f.2)
end
abbrev DKs (K:W.Frag) (G:Hp) (kvs:List (dS × V)) (kv:List (Str × PyData)):Prop:=Paired (fun (p:dS × V) (q:Str × PyData)=>p.1 = Sum.inr q.1/\DV K G p.2 q.2) kvs kv
theorem DKs.same {K:W.Frag} {G G':Hp} (s:Same G G') {kvs:List (dS × V)} {kv:List (Str × PyData)} (h:DKs K G kvs kv):DKs K G' kvs kv:=Paired.mapP h fun _ _ z=>⟨z.1,cL s z.2⟩
def dskP (C:Addr) (f:Str) (kv:List (Str × PyData)):W.Frag->Hp->V->Prop:=fun K G v=>∃ p dx d kvs,v = .ref p/\G p = some (.ins C dx [(f,V.ref d)])/\G d = some (.dK kvs)/\DKs K G kvs kv
theorem dskP.same {C:Addr} {f:Str} {kv:List (Str × PyData)} {K:W.Frag} {G G':Hp} {v:V} (s:Same G G') (h:dskP C f kv K G v):dskP C f kv K G' v:=by
 obtain ⟨p,dx,d,kvs,h1,h2,h3,h4⟩:=h;exact ⟨p,dx,d,kvs,h1,s _ _ h2,s _ _ h3,h4.same s⟩
def zU (p:Addr):W.Frag->Hp->V->Prop:=fun _ _ v=>v = .ref p
theorem nH {K:W.Frag} {G:Hp} {x:Str} {d:PyData}:∀ {kvs:List (dS × V)} {kv:List (Str × PyData)},DKs K G kvs kv->kv.lookup x = some d->∃ v,lD kvs (Sum.inr x:dS) = some v/\DV K G v d
 | _,_,.nil,h=>by simp at h
 | p :: kvs,q :: kv,.cons hp t,h=>by
  obtain ⟨k,v⟩:=p;obtain ⟨y,e⟩:=q;obtain ⟨h1,h2⟩:=hp;dsimp only at h1 h2;subst h1;by_cases hx:x = y
  ·subst hx;rw [lookup_cons,beq_self_eq_true] at h;cases h;exact ⟨v,lC rfl,h2⟩
  ·rw [lookup_cons,beq_eq_false_iff_ne.mpr hx] at h;obtain ⟨w,h3,h4⟩:=nH t h;exact ⟨w,by rw [jH (by intro z; injection z with z; exact hx z.symm)]; exact h3,h4⟩
def vM (C:Addr) (f:Str):Sp:=fun vs H Q _=>∃ (p dx:Addr),vs = [.ref p]/\H p = some (.ins C dx [])/\∀ (d:Addr) (H':Hp),H d = none->H' p = some (.ins C dx [(f,V.ref d)])->H' d = some (.dK [])->(∀ b o,H b = some o->b ≠ p->H' b = some o)->Q .non H'
abbrev DWK:=List (Str × PyData)->DW
def Ze (K:W.Frag) (C:Addr) (f:Str) (w:DWK):Sp:=fun vs H Q E=>∃ (v0:V) (vs':List V) (kv:List (Str × PyData)) (ds:List PyData) (Qd:Sl->Prop) (Ed:DX),vs = v0 :: vs'/\dskP C f kv K H v0/\DVs K H vs' ds/\w kv ds Qd Ed /\
 (∀ v s H',Same H H'->mM K H H' v s->Qd s->Q v H')/\(∀ C H',Same H H'->Ed C->E (.ref C) none H')
section
variable {K:W.Frag} {H₀:Hp} {E:XK} {te ta tb:TE} {da db de:DE} {dl:DL} {t:TA} {g:TG} {dg:DG} {ns:List Nat} {ts tz:TS} {ds dz:DS} {C:Addr} {f m:Str} {w:DWK}
theorem wF {f m:Str} (h:f ≠ m) {v:V}:([(f,v)]:List (Str × V)).lookup m = none:=by
 rw [lookup_cons,beq_eq_false_iff_ne.mpr (Ne.symm h)];rfl
theorem qD {H:Hp} {N:List Str} {x:Str} {v0:V} {φ:W.Frag->Hp->V->Prop} {vs:List V} {ds:List PyData} (h0:∀ G',Same H G'->φ K G' v0) (h:DVs K H vs ds):Sees K H H (some (.mon φ) :: iZ N ds) (L2.start (x :: N) (v0 :: vs)) H:=by
 have S:=rJ (K:=K) (N:=N) h;have e:L2.start (x :: N) (v0 :: vs) = some v0 :: L2.start N vs:=by
  simp [L2.start]
 refine ⟨S.old,S.sub,?_,fun i s hi=>?_,fun i j xs ys a hi hj=>?_⟩
 ·rw [e];exact Nat.succ_le_succ S.len
 ·rw [e];cases i with
  | zero=>cases hi; exact ⟨v0,rfl,h0⟩
  | succ i=>exact S.has i s hi
 ·intro e1 e2;rw [e] at e1 e2;cases i with
  | zero=>cases hi
  | succ i =>
   cases j with
   | zero=>cases hj
   | succ j=>exact congrArg (· + 1) (S.sep i j xs ys a hi hj e1 e2)
end
theorem hu1 {n m:Nat} (h:n + 64 < m):n + 1 < m:=by omega
abbrev Rn:=List (Str × V × PyData)
def tD (w:World) (K:W.Frag) (g:Addr) (tb:Rn):Prop:=(g == sysModules) = false/\∃ (es:Array DictEntry) (n:Nat),K.lookup g = some ⟨.type "dict",none,.dict es n,#[]⟩/\W.KeysLit w.params es.toList /\
 Paired (fun (e:DictEntry) (p:Str × V × PyData)=>(∃ t,e.key = .str p.1 t)/\RelV p.2.1 e.val) es.toList tb/\∀ p∈tb,∀ H,DV K H p.2.1 p.2.2
theorem rC {x:Str}:∀ {es:List DictEntry} {tb:Rn},Paired (fun (e:DictEntry) (p:Str × V × PyData)=>(∃ t,e.key = .str p.1 t)/\RelV p.2.1 e.val) es tb->RelO ((tb.lookup x).map (·.1)) ((es.find? fun e=>Value.isStrOf x e.key).map (·.val))
 | _,_,.nil=>trivial
 | e :: es,(y,v,d) :: tb,.cons ⟨⟨t,ht⟩,hv⟩ r=>by
  have ih:=rC (x:=x) r;dsimp only at ht hv;by_cases h:x = y
  ·subst h;rw [lookup_cons,beq_self_eq_true,List.find?_cons_of_pos (by rw [ht]; simp [Value.isStrOf])];exact hv
  ·rw [lookup_cons,beq_eq_false_iff_ne.mpr h,List.find?_cons_of_neg (by rw [ht]; simp [Value.isStrOf]; exact fun z=>h z.symm)];exact ih
theorem sC {α:Type} {x:Str} {y:α}:∀ {l:List (Str × α)},l.lookup x = some y->(x,y)∈l
 | [],h=>by simp at h
 | (z,u) :: l,h=>by
  by_cases e:x = z
  ·subst e;rw [lookup_cons,beq_self_eq_true] at h;cases h;exact mem_cons_self
  ·rw [lookup_cons,beq_eq_false_iff_ne.mpr e] at h;exact mem_cons_of_mem _ (sC h)
section
variable {X:Cx} {g:Addr} {tb:Rn}
def uB (g:Addr) (tb:Rn):R2:=fun x y H Q=>∃ s,x = .str s/\y = .ref g/\Q (.bl (!(tb.lookup s).isSome)) H
def Ms (g:Addr) (tb:Rn):R2:=fun x y H Q=>∃ s p,x = .ref g/\y = .str s/\tb.lookup s = some p/\Q p.1 H
theorem yN {K:W.Frag} {w:World} (hK:X.K = K) (hw:X.w = w) (c:tD w K g tb):kW X (compareOp .NotIn) (uB g tb):=by
 rintro pins s σ H x y v u Q I rx ry ⟨a,rfl,rfl,q⟩;subst hK;subst hw;obtain ⟨t,rfl⟩:=(show ∃ t,v = Value.str a t from rx);cases (show u = Value.ref g from ry);obtain ⟨lo,es,n,hl,hk,hp,_⟩:=c;have r:=rC (x:=a) hp;refine wpAny_notIn_of (strKind_is X.prog X.w a t) lo (W.mapOf_K (prog:=X.prog) I.kIn hl hk) ?_;have e:=RelO.isSome_eq r;rw [isSome_map] at e;have e2:findBy Value.isStrOf es a = (es.toList.find? fun e=>Value.isStrOf a e.key).map (·.val):=by
  obtain ⟨l⟩:=es;unfold findBy;rw [List.find?_toArray]
 rw [e2,<- e];exact ⟨.bl _,H,I.tok _,rfl,q⟩
theorem aDp {K:W.Frag} {w:World} (hK:X.K = K) (hw:X.w = w) (c:tD w K g tb):IxR X (Ms g tb):=by
 rintro value slice pins s σ H x y v u Q I rx ry ⟨a,p,rfl,rfl,hp0,q⟩ hs;subst hK;subst hw;cases (show v = Value.ref g from rx);obtain ⟨t,rfl⟩:=(show ∃ t,u = Value.str a t from ry);obtain ⟨lo,es,n,hl,hk,hp,_⟩:=c;have r:=rC (x:=a) hp;rw [hp0] at r;have hm:=W.mapOf_K (prog:=X.prog) I.kIn hl hk;have e2:findBy Value.isStrOf es a = (es.toList.find? fun e=>Value.isStrOf a e.key).map (·.val):=by
  obtain ⟨l⟩:=es;unfold findBy;rw [List.find?_toArray]
 obtain ⟨w',hw,rw'⟩:=RelO.some_of r;exact tail_any hm.typeIs slot_dict_getitem.lookup (wpAny_getItem_of (strKind_is X.prog X.w a t) hm (e2.trans hw) ⟨p.1,H,I.tok _,rw',q⟩) hs
end
section
variable {K:W.Frag} {w:World} {H₀:Hp} {E:XK} {te ta tb:TE} {da db de:DE} {g:Addr} {T:Rn}
def uW (T:Rn) (da:DE) (ex:DX) (δ:bW) (Q:PyData->Prop):Prop:=da ex δ fun x=>match x with
 | .str s=>Q (.bool (!(T.lookup s).isSome))
 | _=>False
theorem zI (ha:kZ K H₀ E ta da):fW K H₀ E (xD (uB g T) ta (tC (.ref g))) (uW T da):=fun ex δ σ G H Qd Q hx S q k =>
 ha ex δ σ G H _ _ hx S q fun x dx G1 H1 e1 h1 q1=>by
  cases dx with
  | str s=>cases cS h1; exact ⟨_,rfl,rfl,k _ _ G1 H1 e1 (.bl _) q1⟩
  | _=>exact q1.elim
def Qh (T:Rn) (da:DE) (ex:DX) (δ:bW) (Q:PyData->Prop):Prop:=da ex δ fun x=>match x with
 | .str s=>∃ p,T.lookup s = some p/\Q p.2
 | _=>False
theorem Ph (c:tD w K g T) (ha:kZ K H₀ E ta da):fW K H₀ E (xD (Ms g T) (tC (.ref g)) ta) (Qh T da):=fun ex δ σ G H Qd Q hx S q k =>
 ha ex δ σ G H _ _ hx S q fun x dx G1 H1 e1 h1 q1=>by
  cases dx with
  | str s =>
   cases cS h1;obtain ⟨p,hp,q1⟩:=q1;obtain ⟨_,_,_,_,_,_,hv⟩:=c;exact ⟨s,p,rfl,rfl,hp,k _ _ G1 H1 e1 (hv _ (sC hp) G1) q1⟩
  | _=>exact q1.elim
end
section
variable {P:Program} {w:World} {K:W.Frag} {mg:Str->Option Value} {base:Heap} {C:Addr} {f:Str}
theorem okR {x qual s0:Str} {st:Stmt} {a:Addr} {fd:FuncData} {N ps:List Str} {k:Nat} {W:DWK} (F:Fun K x qual st a fd) (S:FnScope (s0 :: N) ps (aT st)) (len:∀ kv ds Q E,W kv ds Q E->ds.length + 1 = ps.length)
  (hbody:∀ (cdv:Value) (A:Around) (outer:List Env) (s:Shared) (H:Hp) (E:XK),Room k (A.deeper (envOfC qual (aT st) s.heap.objs.size a cdv)) ->
   ∃ t,Br (nE (eA P w) P w K mg base (s0 :: N) qual (aT st) a cdv A outer s H E) (fH st) t/\∃ d,jD K H E t d/\∀ kv ds Q X,W kv ds Q X->d { nx:=fun _=>Q (.dat .none),rt:=Q,ex:=X } (some (.mon (dskP C f kv)) :: iZ N ds)) :
  FnOk P w K mg base (eA P w) (k + 1) a fd ps (Ze K C f W):=by
 refine okE F S (fun vs H Q E h=>?_) (fun cdv A outer s H vs Q E hr h=>?_)
 ·obtain ⟨v0,vs',kv,ds,Qd,Ed,rfl,h0,h1,h2,_⟩:=h;rw [length_cons,h1.len]; exact len _ _ _ _ h2
 ·obtain ⟨v0,vs',kv,ds,Qd,Ed,rfl,h0,h1,h2,h3,h4⟩:=h;obtain ⟨t,ht,d,hd,hq⟩:=hbody cdv A outer s H E hr;refine ⟨t,ht,hd _ _ H H { nx:=fun _=>Qd (.dat .none),rt:=Qd,ex:=Ed } _ h4 (qD (fun G' sm=>h0.same sm) h1) (hq kv ds Qd Ed h2) ⟨fun δ σ G H' _ S q=>?_,fun v s H' sm r q=>h3 v s H' sm r q,fun _ _ _ _ _ _ z=>z.elim,fun _ _ _ _ _ _ z=>z.elim⟩⟩;exact h3 .non (.dat .none) H' S.oldH .non q
def Er (C:Addr) (f:Str) (i:Nat) (da:DE) (ex:DX) (δ:bW) (Q:Bool->Prop):Prop:=∃ kv,slot δ i = some (.mon (dskP C f kv))/\da ex δ fun x=>match x with
 | .str s=>Q (!(kv.lookup s).isSome)
 | _=>False
theorem tT {K:W.Frag} {G:Hp} {x:Str}:∀ {kvs:List (dS × V)} {kv:List (Str × PyData)},DKs K G kvs kv->kv.lookup x = none->lD kvs (Sum.inr x:dS) = none
 | _,_,.nil,h=>rfl
 | p :: kvs,q :: kv,.cons hp t,h=>by
  obtain ⟨k,v⟩:=p;obtain ⟨y,e⟩:=q;obtain ⟨h1,h2⟩:=hp;dsimp only at h1 h2;subst h1;by_cases hx:x = y
  ·subst hx;rw [lookup_cons,beq_self_eq_true] at h;cases h
  ·rw [lookup_cons,beq_eq_false_iff_ne.mpr hx] at h;rw [jH (by intro z; injection z with z; exact hx z.symm)];exact tT t h
theorem xL {K:W.Frag} {G:Hp} {x:Str} {kvs:List (dS × V)} {kv:List (Str × PyData)} (h:DKs K G kvs kv):(lD kvs (Sum.inr x:dS)).isSome = (kv.lookup x).isSome:=by
 cases e:kv.lookup x with
 | none=>rw [tT h e]; rfl
 | some d=>obtain ⟨v,h1,_⟩:=nH h e; rw [h1]; rfl
variable {H₀:Hp} {E:XK} {te ta tb:TE} {da db de:DE} {dl:DL} {t:TA} {tt:TT} {dt:DT} {ts tz:TS} {ds dz:DS}
theorem Fk (i:Nat) (hc:Cls K C) (hn:NoAttr K C f) (ha:kZ K H₀ E ta da):xF K H₀ E (tB (Cc ta (Sh K (iG i) f))) (Er C f i da):=fun ex δ σ G H Qd Q hx S ⟨kv,hs,q⟩ k =>
 ha ex δ σ G H _ _ hx S q fun x dx G1 H1 e1 h1 q1=>by
  obtain ⟨v,hv,h2⟩:=S.has i _ hs;obtain ⟨p,dx0,d,kvs,rfl,g2,g3,g4⟩:=h2 G1 e1.g;cases dx with
  | str s =>
   cases cS h1;refine ⟨_,hv,p,C,dx0,_,_,rfl,e1.s.same _ _ g2,hc,hn,by rw [lookup_cons,beq_self_eq_true],d,_,rfl,DGet.k (k:=Sum.inr s) (e1.s.same _ _ g3),_,rfl,k _ G1 H1 e1 ?_⟩;rw [xL g4];exact q1
  | _=>exact q1.elim
def Xo (C:Addr) (f:Str) (i:Nat) (da:DE) (ex:DX) (δ:bW) (Q:PyData->Prop):Prop:=∃ kv,slot δ i = some (.mon (dskP C f kv))/\da ex δ fun x=>match x with
 | .str s=>∃ d,kv.lookup s = some d/\Q d
 | _=>False
theorem Vm (i:Nat) (hc:Cls K C) (hn:NoAttr K C f) (ha:kZ K H₀ E ta da):fW K H₀ E (Wb (Sh K (iG i) f) ta) (Xo C f i da):=fun ex δ σ G H Qd Q hx S ⟨kv,hs,q⟩ k=>by
 obtain ⟨v,hv,h2⟩:=S.has i _ hs;obtain ⟨p,dx0,d,kvs,rfl,g2,g3,g4⟩:=h2 G (Same.refl _);refine ⟨_,hv,p,C,dx0,_,_,rfl,S.sub.same _ _ g2,hc,hn,by rw [lookup_cons,beq_self_eq_true],?_⟩;refine ha ex δ σ G H _ _ hx S q fun x dx G1 H1 e1 h1 q1=>?_;cases dx with
 | str s =>
  cases cS h1;obtain ⟨r,hr,q1⟩:=q1;obtain ⟨u,hu,du⟩:=nH g4 hr;exact ⟨d,u,rfl,hu ▸ DGet.k (k:=Sum.inr s) (e1.h _ _ (S.sub.same _ _ g3)),k u r G1 H1 e1 (cL e1.g du) q1⟩
 | _=>exact q1.elim
structure EndM (K:W.Frag) (H₀:Hp) (d:Addr) (R:Str->List PyData->Prop) (D:Ends):Prop where
 rt:∀ (x:Str) (ms:List PyData) (a:Addr) (us:List V) (H':Hp),R x ms->fM ms = true->(∀ b o,b ≠ d->H₀ b = some o->H' b = some o)->H' d = some (.dK [(Sum.inr x,V.ref a)])->H₀ a = none->H' a = some (.lst us)->DVs K H' us ms->D.rt (.str "ok") H'
abbrev DMS:=(Str->List PyData->Prop)->DX->bW->Prop
variable {p dx d:Addr} {dm dm2:DMS}
theorem aCs {x qual:Str} {st:Stmt} {a:Addr} {fd:FuncData} {ps:List Str} {k:Nat} (F:Fun K x qual st a fd) (S:FnScope ["self"] ps (aT st)) (hl:ps.length = 1) (hc:Cls K C) (hn:NoAttr K C f)
  (hbody:∀ (cdv:Value) (A:Around) (outer:List Env) (s:Shared) (H:Hp) (E:XK),Room k (A.deeper (envOfC qual (aT st) s.heap.objs.size a cdv)) ->
   Br (nE (eA P w) P w K mg base ["self"] qual (aT st) a cdv A outer s H E) (fH st) (aHm K (iG 0) zZ f)) :
  FnOk P w K mg base (eA P w) (k + 1) a fd ps (vM C f):=by
 refine okE F S (fun vs H Q E h=>?_) (fun cdv A outer s H vs Q E hr h=>?_)
 ·obtain ⟨p,dx,rfl,_⟩:=h;rw [hl]; rfl
 ·obtain ⟨p,dx,rfl,hp,h3⟩:=h;refine ⟨_,hbody cdv A outer s H E hr,fun d hd=>?_⟩;have pd:p ≠ d:=fun z=>by rw [z,hd] at hp; cases hp
  refine ⟨_,rfl,p,C,dx,[],rfl,by rw [bD pd]; exact hp,hc,hn,by decide,?_⟩;refine h3 d _ hd (by rw [bJ]; rfl) (by rw [bD (Ne.symm pd),bJ]) fun b o eb nb=>?_;rw [bD nb,bD (bZ eb hd)];exact eb
end
section
variable {X:Cx} {K:W.Frag}
def Mp:List V->Hp->VK->Prop:=fun xs H Q=>∃ (p:Addr) (kvs:List (dS × V)) (ks:List Str),xs = [.ref p]/\H p = some (.dK kvs)/\kvs.map (·.1) = ks.map Sum.inr/\ks.length < 64 /\
 ∀ ms:List Str,ms.Perm ks->sortedS ms = true->∀ l,H l = none->Q (.ref l) (cX H l (.lst (ms.map V.str)))
theorem Ce {P:Program} {w:World}:∀ {vs:List Value} {ks:List Str},vs.length = ks.length->(∀ (j:Nat) (v:Value),vs[j]? = some v->∃ k,ks[j]? = some k/\(dJ P w).is (Sum.inr k) v = true)->StrsAre vs ks
 | [],[],_,_=>.nil
 | [],_ :: _,h,_=>nomatch h
 | _ :: _,[],h,_=>nomatch h
 | v :: vs,k :: ks,h,q=>by
  obtain ⟨k',e,hk⟩:=q 0 v rfl;cases e;have hs:∃ t,v = .str k t:=by
   cases v <;> first | exact ⟨_,by have:(_:Str) = _:=of_decide_eq_true hk; rw [this]⟩ | (exact absurd hk (by decide)) | (exact absurd hk Bool.false_ne_true)
  obtain ⟨t,rfl⟩:=hs;exact .cons k t (Ce (Nat.succ.inj h) fun j u hu=>q (j + 1) u hu)
theorem xJ:∀ {us:List Value} {ks:List Str},StrsAre us ks->Vals (ks.map V.str) us
 | _,_,.nil=>.nil
 | _,_,.cons _ _ t=>.cons ⟨_,rfl⟩ (xJ t)
theorem Zf (hc:X.calm = true):gC X (.builtin "sorted") Mp:=by
 intro pins s σ H xs us Q I r h;obtain ⟨p,kvs,ks,rfl,hd,hks,hn,q⟩:=h;obtain ⟨u,rfl,rx⟩:=iR r;cases rx;obtain ⟨hz,hsys,vs,rel,dd⟩:=Ek I.hok hd;obtain ⟨ep,hat⟩:=dd.dictAt;have hkl:vs.map (·.1) = ks.map Sum.inr:=rel.keys.symm.trans hks;have hvl:vs.length = ks.length:=by have:=congrArg length hkl; rwa [length_map,length_map] at this
 refine Calls.call_function_entry kind_sorted plain_sorted entry_sorted (args_sorted1 _) ?_; unfold Builtin.«sorted»; refine wpAny_bind (m:=checkCount "sorted" 1 1 _) (wpAny_pure ?_);refine wpAny_bind (W.kdu_collect (A:=X.A.in1) (W.kdl_dict (knd:=dJ X.prog X.w) (kvs:=vs) (ep:=ep) hsys) (I.ok.hd hc) hat (by rw [rel.length] at hz; exact hz) fun h' tk acc hk hacc=>?_);have hl:acc.toList.length = ks.length:=by rw [length_toList,hacc.1,hvl]
 have hS:StrsAre acc.toList ks:=Ce (P:=X.prog) (w:=X.w) hl fun j v e=>by
  obtain ⟨k,x,e2,e3⟩:=hacc.2 j v (by rw [<- Array.getElem?_toList]; exact e);have e4:(vs.map (·.1))[j]? = some k:=by rw [getElem?_map,e2]; rfl
  rw [hkl,getElem?_map] at e4;obtain ⟨k2,e5,e6⟩:=map_eq_some_iff.mp e4;exact ⟨k2,e5,by rw [e6]; exact e3⟩
 have hsl:acc.toList.length<=sizeLine:=by rw [hl]; exact le_trans (le_of_lt hn) (by decide)
 refine wpAny_bind (wpAny_newList ?_ hsl);have hoL:(h'.push (seqObj "list" acc.toList.toArray 0)).get? h'.objs.size = some (seqObj "list" acc.toList.toArray 0):=get?_push_size _ rfl;show wpAny _ _ _ _ _ { s with heap:=h'.push (seqObj "list" acc.toList.toArray 0),toks:=tk };refine wpAny_bind (wpAny_holding (wpAny_call_entry slot_list_sort ⟨_,hoL,rfl⟩ entry_list_sort (list_sort_treeK strKind_oneLt hoL hS.keysOf (fun v₁ v₂ rest e=>keyKind_strs (by rw [<- e]; exact hS)) (by rw [hl]; exact hn) fun st' a1 a2=>⟨_,rfl,?_⟩) (args_list_sort _)));obtain ⟨ms,b1,b2,b3⟩:=sorted_out_str hS a1 a2;obtain ⟨e,he⟩:=sortedHeap_at (out:=(arrOf st').map (·.2)) hoL;have I1:Inv X pins σ H { s with heap:=h',toks:=tk }:=I.kept hk;have old:∀ b o,h'.get? b = some o->(sortedHeap (h'.push (seqObj "list" acc.toList.toArray 0)) h'.objs.size acc.toList ((arrOf st').map (·.2))).get? b = some o:=fun b o g=>by
  have hb:=lt_size g;rw [sortedHeap_old (ne_of_lt hb) (by rw [size_push']; exact Nat.lt_succ_of_lt hb),Heap.get?_push_ne _ _ _ (ne_of_lt hb)];exact g
 have hl0:H h'.objs.size = none:=I1.hok.fresh (le_refl _);refine wpAny_pure ⟨_,rfl,.ref _,cX H h'.objs.size (.lst (ms.map V.str)),?_,rfl,q ms b2 b3 _ hl0⟩;exact I1.laid old (le_refl _) ⟨by rw [length_map,b2.length_eq]; exact le_trans (le_of_lt hn) (by decide),_,e,xJ b1,he⟩
end
abbrev dU:=List (Str × PyData)
def putP (kv:dU) (x:Str) (e:PyData):dU:=if (kv.any fun q=>decide (q.1 = x)) = true then kv.map (fun q=>if q.1 = x then (q.1,e) else q) else kv ++ [(x,e)]
def dropP (kv:dU) (x:Str):dU:=kv.filter fun q=>decide (q.1 ≠ x)
section
variable {K:W.Frag} {G H H':Hp} {kvs:List (dS × V)} {kv:dU} {x:Str} {v:V} {e:PyData}
theorem rT {α β:Type} {R:α->β->Prop}:∀ {xs xs':List α} {ys ys':List β},Paired R xs ys->Paired R xs' ys'->Paired R (xs ++ xs') (ys ++ ys')
 | _,_,_,_,.nil,h=>h
 | _,_,_,_,.cons a t,h=>.cons a (rT t h)
theorem Ej:∀ {kvs:List (dS × V)} {kv:dU},DKs K G kvs kv->(kvs.any fun q=>decide (q.1 = (Sum.inr x:dS))) = kv.any fun q=>decide (q.1 = x)
 | _,_,.nil=>rfl
 | p :: kvs,q :: kv,.cons h t=>by
  rw [any_cons,any_cons,Ej t]
  congr 1
  rw [h.1];by_cases z:q.1 = x
  ·rw [z]; simp
  ·rw [decide_eq_false z,decide_eq_false (by intro w; injection w with w; exact z w)]
theorem Ei:∀ {kvs:List (dS × V)} {kv:dU},DKs K G kvs kv->DV K G v e->DKs K G (kvs.map fun q=>if q.1 = (Sum.inr x:dS) then (q.1,v) else q) (kv.map fun q=>if q.1 = x then (q.1,e) else q)
 | _,_,.nil,_=>.nil
 | p :: kvs,q :: kv,.cons h t,he=>by
  refine .cons ?_ (Ei t he);by_cases z:q.1 = x
  ·have e1:p.1 = (Sum.inr x:dS):=by rw [h.1,z]
   dsimp only;rw [if_pos e1,if_pos z]; exact ⟨h.1,he⟩
  ·have e1:¬ p.1 = (Sum.inr x:dS):=by rw [h.1]; intro w; injection w with w; exact z w
   dsimp only;rw [if_neg e1,if_neg z]; exact h
theorem DKs.putP (h:DKs K G kvs kv) (he:DV K G v e):DKs K G (hV kvs (Sum.inr x:dS) v) (Dl.putP kv x e):=by
 unfold hV Dl.putP;rw [Ej h];split
 ·exact Ei h he
 ·exact rT h (.cons ⟨rfl,he⟩ .nil)
theorem DKs.dropP:∀ {kvs:List (dS × V)} {kv:dU},DKs K G kvs kv->DKs K G (mL kvs (Sum.inr x:dS)) (Dl.dropP kv x)
 | _,_,.nil=>.nil
 | p :: kvs,q :: kv,.cons h t=>by
  have ih:=DKs.dropP t;unfold mL Dl.dropP at ih ⊢;by_cases z:q.1 = x
  ·rw [List.filter_cons_of_neg (by rw [h.1,z]; simp),List.filter_cons_of_neg (by rw [z]; simp)]; exact ih
  ·rw [List.filter_cons_of_pos (by rw [decide_eq_true_eq,h.1]; intro w; injection w with w; exact z w),List.filter_cons_of_pos (by rw [decide_eq_true_eq]; exact z)];exact .cons h ih
abbrev NdP (kv:dU):Prop:=∀ q∈kv,nZ q.2 = true
theorem NdP.put {kv:dU} {x:Str} {e:PyData} (h:NdP kv) (he:nZ e = true):NdP (putP kv x e):=by
 intro q hq;unfold putP at hq;split at hq
 ·obtain ⟨r,hr,rfl⟩:=mem_map.mp hq;split
  ·exact he
  ·exact h r hr
 ·rcases mem_append.mp hq with hq | hq
  ·exact h q hq
  ·rw [mem_singleton.mp hq]; exact he
theorem NdP.drop {kv:dU} {x:Str} (h:NdP kv):NdP (dropP kv x):=fun q hq=>h q (mem_filter.mp hq).1
theorem DKs.noD (s:∀ b o,H b = some o->(∀ kvs,o ≠ .dK kvs)->H' b = some o):∀ {kvs:List (dS × V)} {kv:dU},DKs K H kvs kv->NdP kv->DKs K H' kvs kv
 | _,_,.nil,_=>.nil
 | _,q :: _,.cons h t,n=>.cons ⟨h.1,Bl s h.2 (n q (mem_cons_self ..))⟩ (DKs.noD s t fun q hq=>n q (mem_cons_of_mem _ hq))
structure IsK (K:W.Frag) (H:Hp) (d:Addr) (kv:dU):Prop where
 at_:∃ kvs,H d = some (.dK kvs)/\DKs K H kvs kv
 nd:NdP kv
theorem IsK.same {d:Addr} (s:Same H H') (h:IsK K H d kv):IsK K H' d kv:=let ⟨kvs,a,b⟩:=h.at_; ⟨⟨kvs,s _ _ a,b.same s⟩,h.nd⟩
theorem IsK.other {d c:Addr} (n:c ≠ d) (s:∀ b o,b ≠ d->H b = some o->H' b = some o) (hd:∃ kvs,H d = some (.dK kvs)) (h:IsK K H c kv):IsK K H' c kv:=by
 obtain ⟨kvs,a,b⟩:=h.at_;obtain ⟨k2,hk⟩:=hd;exact ⟨⟨kvs,s _ _ n a,b.noD (fun b o eb no=>s b o (by rintro rfl; rw [hk] at eb; cases eb; exact no _ rfl) eb) h.nd⟩,h.nd⟩
structure Chg (K:W.Frag) (H:Hp) (d:Addr) (kv':dU) (H':Hp):Prop where
 keep:∀ b o,b ≠ d->H b = some o->H' b = some o
 is:IsK K H' d kv'
theorem Chg.of_same {d:Addr} (s:Same H H') (h:IsK K H d kv):Chg K H d kv H':=⟨fun b o _ e=>s b o e,h.same s⟩
theorem Chg.pre {H0:Hp} {d:Addr} {kv':dU} (s:Same H0 H) (c:Chg K H d kv' H'):Chg K H0 d kv' H':=⟨fun b o n e=>c.keep b o n (s b o e),c.is⟩
theorem Chg.post {H2:Hp} {d:Addr} {kv':dU} (c:Chg K H d kv' H') (s:Same H' H2):Chg K H d kv' H2:=⟨fun b o n e=>s b o (c.keep b o n e),c.is.same s⟩
theorem Chg.dv {d:Addr} {kv':dU} {y:V} {t:PyData} (c:Chg K H d kv' H') (hd:∃ kvs,H d = some (.dK kvs)) (h:DV K H y t) (n:nZ t = true):DV K H' y t :=
 Bl (fun b o eb no=>c.keep b o (by obtain ⟨k2,hk⟩:=hd; rintro rfl; rw [hk] at eb; cases eb; exact no _ rfl) eb) h n
end
def sG:Option Sl->Option Sl
 | some (.dat d)=>if nZ d = true then some (.dat d) else none
 | _=>none
def oH:bW->bW
 | []=>[]
 | s :: δ=>sG s :: oH δ
theorem uJ:∀ δ:bW,(oH δ).length = δ.length
 | []=>rfl
 | _ :: δ=>congrArg (· + 1) (uJ δ)
theorem mR:∀ (δ:bW) (i:Nat) (s:Sl),slot (oH δ) i = some s->∃ d,s = .dat d/\nZ d = true/\slot δ i = some (.dat d)
 | [],_,_,h=>by cases h
 | s0 :: δ,0,s,h=>by
  have hs:sG s0 = some s:=h
  match s0,hs with
  | some (.dat t), hs => by_cases n : nZ t = true
                         ·rw [show sG (some (.dat t)) = some (.dat t) from if_pos n] at hs;cases hs;exact ⟨t,rfl,n,rfl⟩
                         ·rw [show sG (some (.dat t)) = none from if_neg n] at hs;cases hs
  | none,hs=>cases hs
  | some (.own _),hs=>cases hs
  | some (.exc _),hs=>cases hs
  | some (.two _ _),hs=>cases hs
  | some (.fz _ _),hs=>cases hs
  | some (.mon _),hs=>cases hs
 | _ :: δ,i + 1,s,h=>mR δ i s h
section
variable {K:W.Frag} {H₀:Hp} {E:XK}
theorem Sees.chg {G H H':Hp} {δ:bW} {σ:L2.St} {d:Addr} {kv':dU} (S:Sees K H₀ G δ σ H) (c:Chg K H d kv' H') (hd:∃ kvs,H d = some (.dK kvs)):Sees K H' H' (oH δ) σ H':=by
 refine ⟨Same.refl _,Sub.refl _,by rw [uJ]; exact S.len,fun i s hi=>?_,fun i j xs ys a hi=>?_⟩
 ·obtain ⟨t,rfl,n,h⟩:=mR δ i s hi;obtain ⟨v,hv,h2⟩:=S.has i _ h;exact ⟨v,hv,c.dv hd (cL S.sub.same h2) n⟩
 ·obtain ⟨t,z,_⟩:=mR δ i _ hi;cases z
abbrev RG:=dU->PyData->Prop
structure EndG (K:W.Frag) (H₀:Hp) (d:Addr) (R:RG) (D:Ends):Prop where
 rt:∀ (v:V) (t:PyData) (kv':dU) (H':Hp),R kv' t->Chg K H₀ d kv' H'->DV K H' v t->D.rt v H'
abbrev DMG:=RG->DX->bW->Prop
def Rg (K:W.Frag) (H₀:Hp) (E:XK) (i0:Nat) (φ:W.Frag->Hp->V->Prop) (d:Addr) (kv:dU) (ts:TS) (dm:DMG):Prop:=∀ R ex δ σ G H D,kY H₀ E ex->Sees K H₀ G δ σ H->slot δ i0 = some (.mon φ)->dm R ex δ->EndG K H₀ d R D->ts D σ H
variable {i0:Nat} {φ:W.Frag->Hp->V->Prop} {p d dx C:Addr} {f:Str} {kv:dU} {ts tz tw:TS} {ds dz:DS} {dm dm2:DMG} {tt:TT} {dt:DT} {te ta tb td:TE} {da db:DE} {dl:DL}
def Pu (kv:dU) (ds:DS) (R:RG) (ex:DX) (δ:bW):Prop:=ds { nx:=fun _=>False,rt:=mC (R kv),ex:=ex } δ
theorem wE (hk:IsK K H₀ d kv) (h:jD K H₀ E ts ds):Rg K H₀ E i0 φ d kv ts (Pu kv ds):=fun R ex δ σ G H D hx S _ q L =>
 h δ σ G H _ D hx S q ⟨fun _ _ _ _ _ _ z=>z.elim,fun v s H' sm r z=>by
  obtain ⟨t,ht,hR⟩:=gK r z
  exact L.rt v t kv H' hR (Chg.of_same sm hk) ht,fun _ _ _ _ _ _ z=>z.elim,fun _ _ _ _ _ _ z=>z.elim⟩
def Xd (i0:Nat) (kv:dU) (ds:DS) (dm:DMG) (R:RG) (ex:DX) (δ:bW):Prop:=ds { nx:=fun δ'=>slot δ' i0 = slot δ i0/\dm R ex δ',rt:=mC (R kv),ex:=ex } δ
theorem rZ (hk:IsK K H₀ d kv) (h1:jD K H₀ E ts ds) (h2:Rg K H₀ E i0 φ d kv tz dm):Rg K H₀ E i0 φ d kv (rD ts tz) (Xd i0 kv ds dm):=fun R ex δ σ G H D hx S h0 q L =>
 h1 δ σ G H _ { D with nx:=tz D } hx S q ⟨fun δ' σ' G' H' s S' q'=>h2 R ex δ' σ' G' H' D hx S' (q'.1.trans h0) q'.2 L,fun v s H' sm r z=>by
  obtain ⟨t,ht,hR⟩:=gK r z
  exact L.rt v t kv H' hR (Chg.of_same sm hk) ht,fun _ _ _ _ _ _ z=>z.elim,fun _ _ _ _ _ _ z=>z.elim⟩
def aJp (dt:DT) (dm dm2:DMG) (R:RG) (ex:DX) (δ:bW):Prop:=dt ex δ fun b=>if b = true then dm R ex δ else dm2 R ex δ
theorem Dm (h:xF K H₀ E tt dt) (h1:Rg K H₀ E i0 φ d kv ts dm) (h2:Rg K H₀ E i0 φ d kv tz dm2):Rg K H₀ E i0 φ d kv (rD (Sg tt ts Ca) tz) (aJp dt dm dm2):=fun R ex δ σ G H D hx S h0 q L =>
 h ex δ σ G H _ _ hx S q fun b G1 H1 e1 q1=>by
  cases b with
  | true=>exact aIs (h1 R ex δ σ G1 H1 _ hx (S.ext e1) h0 q1 ⟨L.rt⟩)
  | false=>exact aIt (h2 R ex δ σ G1 H1 D hx (S.ext e1) h0 q1 L)
def Fc (K:W.Frag) (H₀:Hp) (i0:Nat) (φ:W.Frag->Hp->V->Prop) (d:Addr) (td:TE):Prop:=∀ (G H:Hp) (δ:bW) (σ:L2.St) (Q:VK),Sees K H₀ G δ σ H->slot δ i0 = some (.mon φ)->Q (.ref d) H->td σ H Q
theorem wR (hφ:∀ G v,φ K G v->v = .ref p) (hp:H₀ p = some (.ins C dx [(f,V.ref d)])) (hc:Cls K C) (hn:NoAttr K C f):Fc K H₀ i0 φ d (Sh K (iG i0) f):=fun G H δ σ Q S h0 q=>by
 obtain ⟨v,hv,hv2⟩:=S.has i0 _ h0;cases hφ G v (hv2 G (Same.refl _));exact ⟨_,hv,p,C,dx,_,_,rfl,S.oldH _ _ hp,hc,hn,by rw [lookup_cons,beq_self_eq_true],q⟩
def Xe (kv:dU) (i:Nat) (dl:DL) (dz:DS) (R:RG) (ex:DX) (δ:bW):Prop:=∃ x,slot δ i = some (.dat (.str x))/\dl ex δ fun ms=>mV ms = true/\kv.length < 1000/\dz { nx:=fun _=>False,rt:=mC (R (putP kv x (.list ms))),ex:=fun _=>False } (oH δ)
theorem aCv (i:Nat) (hk:IsK K H₀ d kv) (hd:Fc K H₀ i0 φ d td) (ho:xG K H₀ E te dl) (hz:∀ H,jD K H E tz dz):Rg K H₀ E i0 φ d kv (rD (Wf td (iG i) te) tz) (Xe kv i dl dz):=fun R ex δ σ G H D hx S h0 ⟨x,hi,q⟩ L =>
 ho ex δ σ G H _ _ hx S q fun a us ms G1 H1 e1 hn1 hg hh hD ⟨nd,hl,q1⟩=>by
  have S1:=S.ext e1;refine hd G1 H1 δ σ _ S1 h0 ?_;obtain ⟨y,hy,hy2⟩:=S1.has i _ hi;cases cS hy2;obtain ⟨kvs,g1,g2⟩:=(hk.same S1.oldH).at_;have ad:a ≠ d:=by
   rintro rfl;rw [g1] at hh; cases hh
  have hlen:kvs.length = kv.length:=Paired.length g2;refine ⟨_,hy,d,_,rfl,DPut.k (k:=Sum.inr x) g1 (by rw [hlen]; exact bT (le_of_lt hl)),?_⟩;have kp:∀ b o,b ≠ d->H1 b = some o->cX H1 d (.dK (hV kvs (Sum.inr x:dS) (.ref a))) b = some o:=fun b o nb eb=>by rw [bD nb]; exact eb
  have kn:∀ b o,H1 b = some o->(∀ kvs,o ≠ .dK kvs)->cX H1 d (.dK (hV kvs (Sum.inr x:dS) (.ref a))) b = some o:=fun b o eb no=>kp b o (by rintro rfl; rw [g1] at eb; cases eb; exact no _ rfl) eb;have dvl:DV K (cX H1 d (.dK (hV kvs (Sum.inr x:dS) (.ref a)))) (.ref a) (.list ms):=.lst (SqL.of (by rw [bD ad]; exact hh)) (qX kn (bQ e1.s.same hD) nd);have c:Chg K H1 d (putP kv x (.list ms)) (cX H1 d (.dK (hV kvs (Sum.inr x:dS) (.ref a)))) :=
   ⟨kp,⟨⟨_,bJ,(g2.noD kn hk.nd).putP dvl⟩,hk.nd.put nd⟩⟩
  refine hz _ _ _ _ _ { nx:=fun _=>False,rt:=mC (R (putP kv x (.list ms))),ex:=fun _=>False } _ (fun _ _ _ z=>z.elim) (S1.chg c ⟨_,g1⟩) q1 ⟨fun _ _ _ _ _ _ z=>z.elim,fun v s H' sm r z=>?_,fun _ _ _ _ _ _ z=>z.elim,fun _ _ _ _ _ _ z=>z.elim⟩;obtain ⟨t,ht,hR⟩:=gK r z;exact L.rt v t _ H' hR ((c.post sm).pre S1.oldH) ht
def Xf (kv:dU) (da:DE) (dz:DS) (R:RG) (ex:DX) (δ:bW):Prop:=da ex δ fun y=>match y with
 | .str x=>(kv.lookup x).isSome = true/\dz { nx:=fun _=>False,rt:=mC (R (dropP kv x)),ex:=fun _=>False } (oH δ)
 | _=>False
theorem aCw (hk:IsK K H₀ d kv) (hd:Fc K H₀ i0 φ d td) (ha:kZ K H₀ E ta da) (hz:∀ H,jD K H E tz dz):Rg K H₀ E i0 φ d kv (rD (xS (Jg td ta)) tz) (Xf kv da dz):=fun R ex δ σ G H D hx S h0 q L=>by
 obtain ⟨kvs0,a1,_⟩:=(hk.same S.oldH).at_;refine hd G H δ σ _ S h0 ⟨d,rfl,.inl ⟨_,.inl a1⟩,ha ex δ σ G H _ _ hx S q fun y dy G1 H1 e1 h1 q1=>?_⟩;have S1:=S.ext e1;cases dy with
 | str x =>
  cases cS h1;obtain ⟨kvs,g1,g2⟩:=(hk.same S1.oldH).at_;obtain ⟨hl,q2⟩:=q1;obtain ⟨t0,ht0⟩:=isSome_iff_exists.mp hl;obtain ⟨v0,hv0,_⟩:=nH g2 ht0;refine ⟨kvs,Sum.inr x,v0,g1,rfl,hv0,?_⟩;have kp:∀ b o,b ≠ d->H1 b = some o->cX H1 d (.dK (mL kvs (Sum.inr x:dS))) b = some o:=fun b o nb eb=>by rw [bD nb]; exact eb
  have kn:∀ b o,H1 b = some o->(∀ kvs,o ≠ .dK kvs)->cX H1 d (.dK (mL kvs (Sum.inr x:dS))) b = some o:=fun b o eb no=>kp b o (by rintro rfl; rw [g1] at eb; cases eb; exact no _ rfl) eb;have c:Chg K H1 d (dropP kv x) (cX H1 d (.dK (mL kvs (Sum.inr x:dS)))):=⟨kp,⟨⟨_,bJ,(g2.noD kn hk.nd).dropP⟩,hk.nd.drop⟩⟩;refine hz _ _ _ _ _ { nx:=fun _=>False,rt:=mC (R (dropP kv x)),ex:=fun _=>False } _ (fun _ _ _ z=>z.elim) (S1.chg c ⟨_,g1⟩) q2 ⟨fun _ _ _ _ _ _ z=>z.elim,fun v s H' sm r z=>?_,fun _ _ _ _ _ _ z=>z.elim,fun _ _ _ _ _ _ z=>z.elim⟩;obtain ⟨t,ht,hR⟩:=gK r z;exact L.rt v t _ H' hR ((c.post sm).pre S1.oldH) ht
 | _=>exact q1.elim
abbrev LG:=dU->List PyData->RG->DX->Prop
def Ss (K:W.Frag) (C:Addr) (f:Str) (L:LG):Sp:=fun vs H Q E=>∃ (p dx d:Addr) (vs':List V) (ds:List PyData) (kv:dU) (R:RG) (ex:DX),vs = .ref p :: vs'/\H p = some (.ins C dx [(f,V.ref d)])/\IsK K H d kv/\DVs K H vs' ds/\L kv ds R ex /\
 (∀ (v:V) (t:PyData) (kv':dU) (H':Hp),R kv' t->Chg K H d kv' H'->DV K H' v t->Q v H')/\(∀ C' H',Same H H'->ex C'->E (.ref C') none H')
def Pv (kv:dU) (L:LG) (dl:DL) (R:RG) (ex:DX) (δ:bW):Prop:=dl ex δ fun ds=>L kv ds R ex
theorem Ud {L:LG} {m:Str} {t:TA} (hφ:∀ G v,φ K G v->v = .ref p) (hp:H₀ p = some (.ins C dx [(f,V.ref d)])) (hk:IsK K H₀ d kv) (hf:f ≠ m) (ha:xC K H₀ E t dl):Rg K H₀ E i0 φ d kv (Fq (Cb C m (Ss K C f L) [] E (iG i0) t)) (Pv kv L dl):=fun R ex δ σ G H D hx S h0 q LK=>by
 obtain ⟨v,hv,hv2⟩:=S.has i0 _ h0;cases hφ G v (hv2 G (Same.refl _));refine ⟨_,hv,p,dx,_,rfl,S.oldH _ _ hp,wF hf,ha ex δ σ G H _ _ hx S q fun vs ds G1 H1 e1 hv1 q1=>?_⟩;have o1:=(S.ext e1).oldH;exact ⟨p,dx,d,vs,ds,kv,R,ex,by rw [append_nil],o1 _ _ hp,hk.same o1,hv1,q1,fun v t kv' H' hR c hv=>LK.rt v t kv' H' hR (c.pre o1) hv,fun C' H' sm hc=>hx C' H' (o1.trans sm) hc⟩
def wP (p C:Addr) (f:Str) (kv:dU):W.Frag->Hp->V->Prop:=fun K G v=>v = .ref p/\dskP C f kv K G v
variable {P:Program} {w:World} {mg:Str->Option Value} {base:Heap}
theorem okG {x qual s0:Str} {st:Stmt} {a:Addr} {fd:FuncData} {N ps:List Str} {k:Nat} {L:LG} (F:Fun K x qual st a fd) (S:FnScope (s0 :: N) ps (aT st)) (len:∀ kv ds R ex,L kv ds R ex->ds.length + 1 = ps.length)
  (hbody:∀ (cdv:Value) (A:Around) (outer:List Env) (s:Shared) (H:Hp) (E:XK),Room k (A.deeper (envOfC qual (aT st) s.heap.objs.size a cdv)) ->
   ∃ t,Br (nE (eA P w) P w K mg base (s0 :: N) qual (aT st) a cdv A outer s H E) (fH st) t/\∀ p dx d kv,H p = some (.ins C dx [(f,V.ref d)])->IsK K H d kv->∃ dm,Rg K H E 0 (wP p C f kv) d kv t dm/\∀ ds R ex,L kv ds R ex->dm R ex (some (.mon (wP p C f kv)) :: iZ N ds)) :
  FnOk P w K mg base (eA P w) (k + 1) a fd ps (Ss K C f L):=by
 refine okE F S (fun vs H Q E h=>?_) (fun cdv A outer s H vs Q E hr h=>?_)
 ·obtain ⟨p,dx,d,vs',ds,kv,R,ex,rfl,_,_,h1,h2,_⟩:=h;rw [length_cons,h1.len]; exact len _ _ _ _ h2
 ·obtain ⟨p,dx,d,vs',ds,kv,R,ex,rfl,hp,hd,h1,h2,h3,h4⟩:=h;obtain ⟨t,ht,hb⟩:=hbody cdv A outer s H E hr;obtain ⟨dm,hdm,hq⟩:=hb p dx d kv hp hd;obtain ⟨kvs,k1,k2⟩:=hd.at_;exact ⟨t,ht,hdm R ex _ _ H H _ h4 (qD (φ:=wP p C f kv) (fun G' sm=>⟨rfl,p,dx,d,kvs,rfl,sm _ _ hp,sm _ _ k1,k2.same sm⟩) h1) rfl (hq ds R ex h2) ⟨fun v t kv' H' hR c hv=>h3 v t kv' H' hR c hv⟩⟩
def Pz (i0:Nat) (φ:W.Frag->Hp->V->Prop) (kv:dU) (_ex:DX) (δ:bW) (Q:List PyData->Prop):Prop:=slot δ i0 = some (.mon φ)/\kv.length < 64/\∀ ms:List Str,ms.Perm (kv.map (·.1))->sortedS ms = true->Q (ms.map PyData.str)
theorem zL:∀ {kvs:List (dS × V)} {kv:dU} {G:Hp},DKs K G kvs kv->kvs.map (·.1) = (kv.map (·.1)).map Sum.inr
 | _,_,_,.nil=>rfl
 | _,_,_,.cons h t=>by rw [map_cons,map_cons,map_cons,zL t,h.1]
theorem Nn (hk:IsK K H₀ d kv) (hd:Fc K H₀ i0 φ d td):xG K H₀ E (Zb Mp (eT td jW)) (Pz i0 φ kv):=fun ex δ σ G H Qd Q hx S ⟨h0,hl,q⟩ k=>by
 obtain ⟨kvs,g1,g2⟩:=(hk.same S.oldH).at_;refine hd G H δ σ _ S h0 ⟨d,kvs,kv.map (·.1),rfl,g1,zL g2,by rw [length_map]; exact hl,fun ms po so l hl0=>?_⟩;obtain ⟨e3,g3⟩:=eX (xs:=ms.map V.str) (p:=l) S.sub hl0;exact k l _ _ _ _ e3 hl0 g3 bJ (rF ms) (q ms po so)
def Qq (i0:Nat) (φ:W.Frag->Hp->V->Prop) (kv:dU) (w:DWK) (dl:DL) (dg:DG) (e:DEnds) (δ:bW):Prop:=slot δ i0 = some (.mon φ)/\dl e.ex δ fun ds=>iJ δ = true/\w kv ds (mC fun t=>dg t δ e.nx) e.ex
theorem Jl {w:DWK} {m:Str} {t:TA} {g:TG} {dg:DG} {ns:List Nat} (hφ:∀ G v,φ K G v->dskP C f kv K G v) (hf:f ≠ m) (ha:xC K H₀ E t dl) (hg:Bs K H₀ g ns dg):jD K H₀ E (pF (Cb C m (Ze K C f w) [] E (iG i0) t) g) (Qq i0 φ kv w dl dg):=fun δ σ G H e D hx S ⟨hs,q⟩ L=>by
 obtain ⟨v,h1,h2⟩:=S.has i0 _ hs;obtain ⟨p,dx,d,kvs,rfl,g2,g3,g4⟩:=hφ G v (h2 G (Same.refl _));refine ⟨_,h1,p,dx,_,rfl,S.sub.same _ _ g2,wF hf,ha e.ex δ σ G H _ _ hx S q fun vs ds G1 H1 e1 hd ⟨no,q1⟩=>?_⟩;refine ⟨.ref p,vs,kv,ds,_,e.ex,by rw [append_nil],(dskP.same (e1.g.trans e1.s.same) ⟨p,dx,d,kvs,rfl,g2,g3,g4⟩),hd,q1,fun v s H2 sm r qs=>?_,fun C' H2 sm hc=>hx C' H2 ((S.ext e1).oldH.trans sm) hc⟩;obtain ⟨d2,hd2,q2⟩:=gK r qs;exact hg v d2 δ σ H2 H2 _ _ ((S.ext e1).all2 no sm) hd2 q2 fun δ' σ' S' _ q'=>L.nx δ' σ' H2 H2 ((S.ext e1).sub.same.trans sm |> fun z=>e1.g.trans z) S' q'
end
section
variable {K:W.Frag} {H₀:Hp} {E:XK}
def Qi (i:Nat) (M:Addr->Bool->Prop) (_ex:DX) (δ:bW) (Q:PyData->Prop):Prop:=match slot δ i with
 | some (.exc C')=>∃ b,M C' b/\Q (.bool b)
 | _=>False
theorem iB {i:Nat} {c:V} {cv:Value} {M:Addr->Bool->Prop} (hc:∀ u,RelV c u->u = cv) (hM:∀ C b,M C b->∃ bmB newId,W.excIn K C bmB newId = true/\ExcK K C/\W.kitOne K (.ref C) cv = some b) :
  fW K H₀ E (Zb (fun xs H Q=>∃ x C c cv b bmB newId,xs = [.ref x,c]/\(∀ u,RelV c u->u = cv)/\H x = some (.ext (pC x C))/\W.excIn K C bmB newId = true/\ExcK K C/\W.kitOne K (.ref C) cv = some b/\Q (.bl b) H) (eT (iG i) (eT (tC c) jW))) (Qi i M):=fun ex δ σ G H Qd Q hxx S q k=>by
 unfold Qi at q;split at q
 ·rename_i C' hs
  obtain ⟨b,hb,q⟩:=q;obtain ⟨bmB,newId,m1,m2,m3⟩:=hM C' b hb;obtain ⟨v,h1,x,rfl,h2⟩:=S.has i _ hs;exact ⟨_,h1,x,C',c,cv,b,bmB,newId,rfl,hc,S.sub.same _ _ h2,m1,m2,m3,k _ _ G H S.refl (.bl b) q⟩
 ·exact q.elim
end
section
variable {X:Cx} {k:Nat} {f C:Addr} {fd:FuncData} {ps:List Str} {sp:Sp} {m x:Str} {apos pos spos pos':Pos} {o e:Expr} {es:List Expr} {ta:TE} {t:TA} {i:Nat}
theorem Tc {pins:List (Addr × Obj)} {s:Shared} {σ:L2.St} {H:Hp} {Q:VK} {E:XS} {us:List Value} {vs:List V} (F:FnOk X.prog X.w X.K X.mg X.base (eA X.prog X.w) k f fd ps sp) (hr:Room k X.A) (hb:Binds X.K fd ps []) (I:Inv X pins σ H s) (r:Vals vs us) (h:sp vs H Q (E σ)) :
  wpAny (model X.prog X.w) X.A (call (.ref f) us) (EP X pins σ Q) (Up X pins E) s:=by
 have hl:(us ++ []).length = ps.length:=by rw [append_nil,<- r.length]; exact F.len _ _ _ _ h
 have hb1:=hb s us I.kIn hl;rw [append_nil] at hb1;refine wpAny_call (codeAny_mono (F.run X.A X.stack s H ⟨us,[]⟩ us vs Q (E σ) hr I.env0 hb1 r h) fun r s' hq=>?_)
 match r,hq with
 | .error e,hq=>exact aGm I hq
 | .ok (.ret u),hq=>exact I.after hq
end
section
variable {K:W.Frag} {H₀:Hp} {E:XK} {i0 i j:Nat} {φ:W.Frag->Hp->V->Prop} {p d dx C:Addr} {f m:Str} {kv:dU} {th tz:TS} {dh dz:DS} {t:TA} {dl:DL} {L:LG} {cv:Value}
abbrev Pk (R:RG) (kv:dU):DEnds:={ nx:=fun _=>False,rt:=mC (R kv),ex:=fun _=>False }
end
structure Store (K:W.Frag) (as:List Addr) (ks:List dU) (H:Hp):Prop where
 len:as.length = ks.length
 is:∀ (i:Nat) (a:Addr) (kv:dU),as[i]? = some a->ks[i]? = some kv->IsK K H a kv
theorem Store.same {K:W.Frag} {as:List Addr} {ks:List dU} {H H':Hp} (s:Same H H') (h:Store K as ks H):Store K as ks H':=⟨h.len,fun i a kv e1 e2=>(h.is i a kv e1 e2).same s⟩
theorem Store.chg {K:W.Frag} {as:List Addr} {ks:List dU} {H H':Hp} {j:Nat} {d:Addr} {kv':dU} (nd:as.Nodup) (h:Store K as ks H) (hj:as[j]? = some d) (c:Chg K H d kv' H'):Store K as (ks.set j kv') H':=by
 obtain ⟨kv0,hk0⟩:∃ kv0,ks[j]? = some kv0:=by
  have:j < ks.length:=by rw [<- h.len]; exact (List.getElem?_eq_some_iff.mp hj).1
  exact ⟨_,getElem?_eq_getElem this⟩
 obtain ⟨kvs0,d0,_⟩:=(h.is j d kv0 hj hk0).at_;refine ⟨by rw [length_set]; exact h.len,fun i a kv e1 e2=>?_⟩;by_cases z:i = j
 ·subst z;rw [hj] at e1; cases e1;rw [getElem?_set_self (by rw [<- h.len]; exact (List.getElem?_eq_some_iff.mp hj).1)] at e2;cases e2;exact c.is
 ·rw [getElem?_set_ne (Ne.symm z)] at e2;have ad:a ≠ d:=by
   rintro rfl;obtain ⟨l1,g1⟩:=List.getElem?_eq_some_iff.mp e1;obtain ⟨l2,g2⟩:=List.getElem?_eq_some_iff.mp hj;have pw:=List.pairwise_iff_getElem.mp nd;rcases Nat.lt_or_gt_of_ne z with q | q
   ·exact pw i j l1 l2 q (g1.trans g2.symm)
   ·exact pw j i l2 l1 q (g2.trans g1.symm)
  exact (h.is i a kv e1 e2).other ad c.keep ⟨_,d0⟩
def uI (ms:List (Nat × Addr)) (δ:bW):bW:=ms.foldl (fun δ m=>put (some (.mon (zU m.2))) m.1 δ) (oH δ)
structure WEnds where
 nx:bW->List dU->Prop
 rt:PyData->Prop
section
variable {K:W.Frag} {as:List Addr} {Fx:Hp->Prop} {ts tz tb:TS} {ds:DS}
structure LkW (K:W.Frag) (as:List Addr) (Fx:Hp->Prop) (e:WEnds) (D:Ends):Prop where
 nx:∀ δ ks σ H,Sees K H H δ σ H->Fx H->Store K as ks H->e.nx δ ks->D.nx σ H
 rt:∀ v t H,Fx H->DV K H v t->e.rt t->D.rt v H
abbrev Rj:=WEnds->bW->List dU->Prop
def zS (K:W.Frag) (as:List Addr) (Fx:Hp->Prop) (ts:TS) (dw:Rj):Prop:=∀ e δ ks σ H D,Sees K H H δ σ H->Fx H->Store K as ks H->dw e δ ks->LkW K as Fx e D->ts D σ H
variable {dw dw2:Rj}
def Xb (dw dw2:Rj) (e:WEnds) (δ:bW) (ks:List dU):Prop:=dw { e with nx:=dw2 e } δ ks
theorem gY (h1:zS K as Fx ts dw) (h2:zS K as Fx tz dw2):zS K as Fx (rD ts tz) (Xb dw dw2):=fun e δ ks σ H D S hF hS q L =>
 h1 { e with nx:=dw2 e } δ ks σ H { D with nx:=tz D } S hF hS q ⟨fun δ' ks' σ' H' S' F' T' q'=>h2 e δ' ks' σ' H' D S' F' T' q' L,L.rt⟩
def Pn (ds:DS) (e:WEnds) (δ:bW) (ks:List dU):Prop:=ds { nx:=fun δ'=>iJ δ' = true/\e.nx δ' ks,rt:=mC e.rt,ex:=fun _=>False } δ
theorem Sees.fresh {H₀ H:Hp} {δ:bW} {σ:L2.St} (S:Sees K H₀ H δ σ H):Sees K H H δ σ H:=⟨Same.refl _,S.sub,S.len,S.has,S.sep⟩
theorem fG (hm:∀ H H',Same H H'->Fx H->Fx H') (h:∀ H,jD K H E0 ts ds):zS K as Fx ts (Pn ds):=fun e δ ks σ H D S hF hS q L =>
 h H δ σ H H _ D gT S q ⟨fun δ' σ' G' H' s S' ⟨no,z⟩=>L.nx δ' ks σ' H' (S'.all2 no (Same.refl _)).fresh (hm H H' S'.oldH hF) (hS.same S'.oldH) z,fun v s H' sm r z=>by
  obtain ⟨t,ht,hR⟩:=gK r z
  exact L.rt v t H' (hm H H' sm hF) ht hR,fun _ _ _ _ _ _ z=>z.elim,fun _ _ _ _ _ _ z=>z.elim⟩
structure GoodF (K:W.Frag) (as:List Addr) (Fx:Hp->Prop):Prop where
 mono:∀ H H',Same H H'->Fx H->Fx H'
 chg:∀ H H' d kv',d∈as->(∃ kvs,H d = some (.dK kvs))->Chg K H d kv' H'->Fx H->Fx H'
theorem GoodF.dat {a:Addr} {t:PyData} (h:GoodF K as Fx) (n:nZ t = true):GoodF K as (fun H=>Fx H/\DV K H (.ref a) t) :=
 ⟨fun H H' s q=>⟨h.mono H H' s q.1,cL s q.2⟩,fun H H' d kv' hd hk c q=>⟨h.chg H H' d kv' hd hk c q.1,c.dv hk q.2 n⟩⟩
theorem Jx {σ:L2.St} {i:Nat} {v:V} (h:σ[i]? = some (some v)):σ.set i (some v) = σ:=by
 refine List.ext_getElem? fun j=>?_;by_cases z:j = i
 ·subst z;rw [getElem?_set_self (List.getElem?_eq_some_iff.mp h).1,h]
 ·rw [getElem?_set_ne (Ne.symm z)]
theorem rK {H:Hp} {σ:L2.St}:∀ (ms:List (Nat × Addr)) {δ:bW},(∀ m∈ms,σ[m.1]? = some (some (.ref m.2)))->Sees K H H δ σ H->Sees K H H (ms.foldl (fun δ m=>put (some (.mon (zU m.2))) m.1 δ) δ) σ H
 | [],_,_,S=>S
 | m :: ms,δ,h,S=>by
  refine rK ms (fun q hq=>h q (mem_cons_of_mem _ hq)) ?_;have S2:=S.setS (v:=.ref m.2) (s:=.mon (zU m.2)) m.1 (fun _ _=>rfl) fun _ _ _ _ z=>nomatch z;rw [Jx (h m (mem_cons_self ..))] at S2;exact S2
theorem Sees.chgM {H₀ G H H':Hp} {δ:bW} {σ:L2.St} {d:Addr} {kv':dU} {ms:List (Nat × Addr)} (S:Sees K H₀ G δ σ H) (c:Chg K H d kv' H') (hd:∃ kvs,H d = some (.dK kvs)) (hm:∀ m∈ms,slot δ m.1 = some (.mon (zU m.2))):Sees K H' H' (uI ms δ) σ H' :=
 rK ms (fun m h=>by
  obtain ⟨v,hv,h2⟩:=S.has m.1 _ (hm m h)
  cases (show v = .ref m.2 from h2 G (Same.refl _))
  exact hv) (S.chg c hd)
variable {g:TG} {ns:List Nat} {dg:DG} {t:TA} {dl:DL} {ta:TE} {da:DE}
def Ec (lo:Int) (n:Nat) (dg:DG) (dw:Rj) (e:WEnds) (δ:bW) (ks:List dU):Prop:=∃ I:Nat->bW->List dU->Prop,I 0 δ ks /\
 (∀ i δ' ks',i < n->I i δ' ks'->dg (.int (lo + i)) δ' fun δ2=>dw { e with nx:=I (i + 1) } δ2 ks')/\∀ δ' ks',I n δ' ks'->e.nx δ' ks'
theorem Om {lo:Int} {n:Nat} {e:WEnds} {δ:bW} {ks:List dU} {σ:L2.St} {H:Hp} {D:Ends} (hg:∀ H,Bs K H g ns dg) (hb:zS K as Fx tb dw) (S:Sees K H H δ σ H) (hf:Fx H) (hS:Store K as ks H) (q:Ec lo n dg dw e δ ks) (L:LkW K as Fx e D) :
  ∃ W:Nat->Nat->L2.St->Hp->Prop,(∃ m,W 0 m σ H)/\∀ i m σ H,W i m σ H->((Xy lo n).stop i H/\D.nx σ H)\/((Xy lo n).go i H/\∃ N:L2.St->Hp->Prop,(∀ σ' H',N σ' H'->∃ m',m' < m/\W (i + 1) m' σ' H')/\∀ x H',(Xy lo n).yld i H x H'->g x σ H' fun σ2 H2=>tb { D with nx:=N,ct:=N,bk:=D.nx } σ2 H2):=by
 obtain ⟨I,i0,step,fin⟩:=q;refine ⟨fun i m σ H=>m = n - i/\i<=n/\∃ δ' ks',Sees K H H δ' σ H/\Fx H/\Store K as ks' H/\I i δ' ks',⟨_,rfl,zero_le _,δ,ks,S,hf,hS,i0⟩,?_⟩;rintro i m σ' H' ⟨rfl,hin,δ',ks',S',f',t',hI⟩;by_cases hlt:i < n
 ·refine .inr ⟨hlt,fun σ H=>∃ δ' ks',Sees K H H δ' σ H/\Fx H/\Store K as ks' H/\I (i + 1) δ' ks',fun σ2 H2 z=>⟨_,by omega,rfl,hlt,z⟩,fun x H2 y=>?_⟩;obtain ⟨rfl,rfl⟩:=y;refine hg H2 _ _ δ' σ' H2 H2 _ _ S' (.int _) (step i δ' ks' hlt hI) fun δ3 σ3 S3 _ q3=>?_;exact hb { e with nx:=I (i + 1) } δ3 ks' σ3 H2 _ S3 f' t' q3 ⟨fun δ4 ks4 σ4 H4 S4 f4 t4 q4=>⟨δ4,ks4,S4,f4,t4,q4⟩,L.rt⟩
 ·have:i = n:=by omega
  subst this;exact .inl ⟨le_refl _,L.nx δ' ks' σ' H' S' f' t' (fin δ' ks' hI)⟩
theorem qY {H:Hp}:∀ {vs:List V} {ds:List PyData},DVs K H vs ds->∀ {i:Nat} {v:V},vs[i]? = some v->∃ x,ds[i]? = some x/\DV K H v x
 | _,_,.nil,i,v,h=>by simp at h
 | _ :: vs,_ :: ds,.cons h t,i,v,e=>by
  cases i with
  | zero=>cases e; exact ⟨_,rfl,h⟩
  | succ i=>exact qY t (i:=i) (v:=v) e
theorem Vb {H:Hp} {vs:List V} {a b:PyData} (h:DVs K H vs [a,b]):∃ x y,vs = [x,y]/\DV K H x a/\DV K H y b:=by
 cases h with
 | cons h t=>cases t with
  | cons h2 t2=>cases t2; exact ⟨_,_,rfl,h,h2⟩
def aEd (dl:DL) (dg:DG) (dw:Rj) (e:WEnds) (δ:bW) (ks:List dU):Prop:=iJ δ = true/\dl (fun _=>False) δ fun ds=>∃ a b:Int,ds = [.int a,.int b]/\(-(2 ^ 62)<=a/\a < 2 ^ 62/\-(2 ^ 62)<=b/\b < 2 ^ 62)/\Ec a (b - a).toNat dg dw e δ ks
theorem Ui (hF:GoodF K as Fx) (hl:∀ H,xC K H E0 t dl) (hg:∀ H,Bs K H g ns dg) (hb:zS K as Fx tb dw):zS K as Fx (Jf (Ww t) g tb) (aEd dl dg dw):=fun e δ ks σ H D S hf hS ⟨no,q⟩ L =>
 hl H _ δ σ H H _ _ gT S q fun vs ds G1 H1 e1 hvs ⟨a,b,e0,bd,q1⟩=>by
  subst e0;obtain ⟨x,y,rfl,hx,hy⟩:=Vb hvs;cases cK hx;cases cK hy;have S1:=S.ext e1;exact ⟨a,b,rfl,bd,Om hg hb (S1.all2 no (Same.refl _)).fresh (hF.mono H H1 S1.oldH hf) (hS.same S1.oldH) q1 L⟩
theorem Sees.all2' {H H':Hp} {δ:bW} {σ:L2.St} (S:Sees K H H δ σ H) (s:Same H H'):Sees K H' H' δ σ H':=⟨Same.refl _,Sub.refl _,S.len,fun i u e=>by
 obtain ⟨v,h1,h2⟩:=S.has i u e
 refine ⟨v,h1,?_⟩
 have x:Ext H H H' H':=⟨s,s,Sub.refl _,fun b o eb=>by
  cases q:H b with
  | none=>exact .inr rfl
  | some w=>exact .inl ((s b w q).symm.trans eb)⟩
 exact h2.ext x,S.sep⟩
theorem Ub {C:Addr} {f:Str} {σ:L2.St} {H:Hp} {Q:VK} (k:∀ (x dx d:Addr) (H':Hp),Same H H'->H d = none->H' x = some (.ins C dx [(f,V.ref d)])->H' d = some (.dK [])->Q (.ref x) H'):Je C (vM C f) [] E0 jW σ H Q:=by
 intro x dx hxn hdn hne;refine ⟨x,dx,rfl,bJ,fun d H1 hd0 h1 h2 h3=>⟨rfl,?_⟩⟩;have xd:x ≠ d:=by
  rintro rfl;rw [bJ] at hd0; cases hd0
 have hdn':H d = none:=by
  have:cX (cX H dx (.own x)) x (.ins C dx []) d = none:=hd0;rw [bD (Ne.symm xd)] at this;by_cases z:d = dx
  ·rw [z,bJ] at this; cases this
  ·rw [bD z] at this; exact this
 exact k x dx d H1 (fun b o eb=>h3 b o (by rw [bD (bZ eb hxn),bD (bZ eb hdn)]; exact eb) (bZ eb hxn)) hdn' h1 h2
theorem upd_same' {H:Hp} {a:Addr} {o:HO} (h:H a = none):Same H (cX H a o):=fun b u e=>by rw [bD (bZ e h)]; exact e
structure Begun (K:W.Frag) (C:Addr) (f:Str) (as ps es:List Addr) (aD aK:Addr) (Fx:Hp->Prop):Prop where
 good:GoodF K as Fx
 nd:as.Nodup
 lp:ps.length = 2
 le:es.length = 2
 hD:∀ H,Fx H->H aD = some (.lst (ps.map V.ref))
 hp:∀ H,Fx H->∀ w p,ps[w]? = some p->∃ dx d,H p = some (.ins C dx [(f,V.ref d)])/\as[0 + w]? = some d
 hK:∀ H,Fx H->H aK = some (.lst (es.map V.ref))
 he:∀ w d,es[w]? = some d->as[2 + w]? = some d
end
def kR (x:Str) (n:Nat):Str:=⟨(replicate n x.cps).foldl (· ++ ·) #[]⟩
theorem Ml (x:Str):kR x 1 = x:=by
 unfold kR;simp [replicate]
theorem uO {α:Type}:∀ (n:Nat) (a b:Array α),((replicate n a).foldl (· ++ ·) b).size = b.size + n * a.size
 | 0,a,b=>by simp
 | n + 1,a,b=>by
  rw [replicate_succ,foldl_cons,uO n a (b ++ a),Array.size_append,Nat.succ_mul];omega
theorem nR (x:Str) (n:Nat):(kR x n).length = n * x.length:=by
 show ((replicate n x.cps).foldl (· ++ ·) #[]).size = n * x.cps.size;rw [uO];simp
section
variable {X:Cx}
def Wj:R2:=fun x y H Q=>∃ (i:Str) (n:Int),x = .str i/\y = .int n/\0<=n/\n<=1000/\i.length = 1/\Q (.str (kR i n.toNat)) H
theorem rV:kW X (binaryOp .Mult) Wj:=by
 intro pins s σ H x y v u Q I rx ry h;obtain ⟨i,n,rfl,rfl,h0,h1,hz,q⟩:=h;obtain ⟨t,rfl⟩:=rx;obtain ⟨t',rfl⟩:=ry;have fin:∀ tk:Nat,EP X pins σ Q (.str (kR i n.toNat) s.toks) { s with toks:=tk }:=fun tk=>⟨.str _,H,I.tok tk,⟨_,rfl⟩,q⟩;refine PySem.P.mul_str ?_ (fun a b=>?_) (fun a b=>?_) ?_
 ·rw [decide_eq_false (by omega),decide_eq_false (by omega)]; rfl
 ·rw [hz];have:(1:Int)<=(2 ^ 63 - 1) / n:=by
   refine Int.le_ediv_of_mul_le (by omega) ?_;omega
  omega
 ·rw [hz];exact decide_eq_false (by have:=bT (n:=1 * n.toNat) (by omega); omega)
 ·by_cases c1:n < 1
  ·rw [if_pos c1];have e:n.toNat = 0:=by omega
   rw [e] at fin;exact ⟨by decide,fin _⟩
  ·rw [if_neg c1];by_cases c2:(n == 1 || i.length == 0) = true
   ·rw [if_pos c2];have e:n.toNat = 1:=by
     rw [hz] at c2;simp at c2;omega
    refine ⟨.str _,H,I,⟨_,rfl⟩,?_⟩;rw [e,Ml] at q;exact q
   ·rw [if_neg c2];exact ⟨by have h2:=nR i n.toNat; rw [hz] at h2; have:=bT (n:=n.toNat) (by omega); unfold kR at h2; rw [h2]; omega,fin _⟩
end
section
variable {K:W.Frag}
def Nx (x y:PyData) (Q:PyData->Prop):Prop:=match x,y with
 | .str a,.int n=>0<=n/\n<=1000/\a.length = 1/\Q (.str (kR a n.toNat))
 | _,_=>False
theorem Cp:zV K Wj Nx:=by
 intro G H x y dx dy Qd Q hx hy q k;unfold Nx at q;split at q
 ·cases cS hx; cases cK hy;exact ⟨_,_,rfl,rfl,q.1,q.2.1,q.2.2.1,k _ _ (.str _) q.2.2.2⟩
 ·exact q.elim
end
section
variable {K:W.Frag} {H₀:Hp} {E:XK} {i0:Nat} {φ:W.Frag->Hp->V->Prop} {d:Addr} {kv:dU} {ts tz:TS} {ds:DS} {dm:DMG}
theorem lT {p C:Addr} {f:Str}:∀ G v,wP p C f kv K G v->v = .ref p:=fun _ _ h=>h.1
theorem aEf {p C:Addr} {f:Str}:∀ G v,wP p C f kv K G v->dskP C f kv K G v:=fun _ _ h=>h.2
end
abbrev xB:=List (Str × Str)
def tG (tab:xB):List (dS × V):=tab.map fun p=>((Sum.inr p.1:dS),V.str p.2)
def Pq (tab:xB):W.Frag->Hp->V->Prop:=fun _ G v=>∃ p,v = .ref p/\G p = some (.dK (tG tab))
theorem sA:∀ (more acc:List (dS × V)),((acc ++ more).map (·.1)).Nodup->lN acc more = acc ++ more
 | [],acc,_=>by rw [append_nil]; rfl
 | p :: r,acc,h=>by
  have h1:(acc.any fun q=>decide (q.1 = p.1)) = false:=by
   rw [List.any_eq_false];intro q hq;rw [decide_eq_true_eq];intro e;rw [map_append,List.nodup_append] at h;exact h.2.2 q.1 (mem_map.mpr ⟨q,hq,rfl⟩) p.1 (by simp) e
  show lN (hV acc p.1 p.2) r = _;have e:hV acc p.1 p.2 = acc ++ [p]:=by
   unfold hV;rw [h1];rfl
  rw [e,sA r (acc ++ [p]) (by rw [append_assoc]; exact h),append_assoc];rfl
theorem rE {σ:L2.St} {H:Hp}:∀ (tab:xB) (Q:List (V × V)->Hp->Prop),Q (tab.map fun p=>(V.str p.1,V.str p.2)) H->vJ (tab.map fun p=>(tC (.str p.1),tC (.str p.2))) σ H Q
 | [],_,h=>h
 | p :: r,Q,h=>rE r (fun ps H3=>Q ((V.str p.1,V.str p.2) :: ps) H3) h
theorem xK (s:Str):∀ tab:xB,lD (tG tab) (Sum.inr s:dS) = (tab.lookup s).map V.str
 | []=>rfl
 | p :: r=>by
  obtain ⟨x,y⟩:=p;by_cases h:s = x
  ·subst h;rw [lookup_cons,beq_self_eq_true];exact lC rfl
  ·rw [lookup_cons,beq_eq_false_iff_ne.mpr h,<- xK s r];exact jH (by intro z; injection z with z; exact h z.symm)
section
variable {K:W.Frag} {H₀:Hp} {E:XK} {ta tb:TE} {da db:DE}
def Xs (i:Nat) (tab:xB) (e:DEnds) (δ:bW):Prop:=e.nx (put (some (.mon (Pq tab))) i δ)
theorem Si (i:Nat) (tab:xB) (hn:decide ((tab.map (·.1)).Nodup) = true) (hl:decide (tab.length<=15) = true):jD K H₀ E (pF (Wa (tab.map fun p=>(tC (.str p.1),tC (.str p.2)))) (mJ i)) (Xs i tab):=fun δ σ G H e D hx S q L p hp=>by
 refine rE tab _ ⟨bJ,tG tab,?_,?_,?_⟩
 ·unfold tG;rw [map_map];rfl
 ·unfold tG;rw [length_map]; exact of_decide_eq_true hl
 ·have em:lN [] (tG tab) = tG tab:=by
   have:=sA (tG tab) [] (by
    rw [nil_append]
    unfold tG
    rw [map_map]
    have h:=of_decide_eq_true hn
    rw [nodup_iff_pairwise_ne,pairwise_map] at h
    rw [nodup_iff_pairwise_ne,pairwise_map]
    exact h.imp fun {a b} l e=>l (by injection e))
   rwa [nil_append] at this
  rw [em,Sa];have e2:=sR (o:=.dK (tG tab)) S.sub hp;exact L.nx _ _ _ _ e2.g ((S.ext e2).setS (v:=.ref p) (s:=.mon (Pq tab)) i (fun G' s'=>⟨p,rfl,s' _ _ bJ⟩) fun _ _ _ _ z=>nomatch z) q
def Qk (i:Nat) (tab:xB) (da db:DE) (ex:DX) (δ:bW) (Q:PyData->Prop):Prop:=slot δ i = some (.mon (Pq tab))/\da ex δ fun x=>db ex δ fun z=>match x with
 | .str s=>Q (((tab.lookup s).map PyData.str).getD z)
 | _=>False
theorem Pi {i:Nat} {tab:xB} (ha:kZ K H₀ E ta da) (hb:fW K H₀ E tb db):fW K H₀ E (Jh (iG i) ta tb) (Qk i tab da db):=fun ex δ σ G H Qd Q hx S ⟨h0,q⟩ k=>by
 obtain ⟨v,hv,hv2⟩:=S.has i _ h0;obtain ⟨p,rfl,hp⟩:=hv2 G (Same.refl _);refine ⟨_,hv,p,rfl,.inl ⟨_,.inl (S.sub.same _ _ hp)⟩,ha ex δ σ G H _ _ hx S q fun x dx G1 H1 e1 h1 q1=>hb ex δ σ G1 H1 _ _ hx (S.ext e1) q1 fun z dz G2 H2 e2 h2 q2=>?_⟩;have o2:=(e1.trans e2).h _ _ (S.sub.same _ _ hp);cases dx with
 | str s =>
  cases cS h1;refine ⟨_,DGet.k (k:=Sum.inr s) o2,?_⟩;rw [xK];have q2:Qd (((tab.lookup s).map PyData.str).getD dz):=q2;cases hl:tab.lookup s with
  | none =>
   rw [hl] at q2;exact k z dz G2 H2 (e1.trans e2) h2 q2
  | some r =>
   rw [hl] at q2;exact k (.str r) (.str r) G2 H2 (e1.trans e2) (.str r) q2
 | _=>exact q2.elim
end
section
variable {X:Cx} {k:Nat} {f C:Addr} {fd:FuncData} {ps:List Str} {sp:Sp} {m:Str} {apos pos epos:Pos} {o e:Expr} {es:List Expr} {ta:TE} {t:TA}
def Hz (C:Addr) (m:Str) (sp:Sp) (ta:TE) (t:TA):TSX:=fun D E σ H=>ta σ H fun x H1=>∃ a dx fs,x = .ref a/\H1 a = some (.ins C dx fs)/\fs.lookup m = none/\t σ H1 fun vs H2=>sp (x :: vs) H2 (fun _ H3=>D.nx σ H3) (E σ)
theorem Fy {pl:Sem Bool} (ho:PE X.nox o ta) (c:Cls X.K C) (hm:Meth X.K C m f) (F:FnOk X.prog X.w X.K X.mg X.base (eA X.prog X.w) k f fd ps sp) (hr:Room k X.A) (hb:Binds X.K fd ps []) (ha:PA X.nox (e :: es) t)
  (hs:swapsWith (.Call (.Attribute o m apos) (e :: es) [] pos) none epos.line X.env = pure false:=by rfl)
  (hst:starEach (e :: es) X.env = (false,eval e X.env) :: starEach es X.env:=by rfl) (hpl:(backTo pos (starEach es X.env)).any (·.1) = false:=by rfl)
  (ht:eval (.Call (.Attribute o m apos) (e :: es) [] pos) X.env = (do
   let ov <- eval o X.env
   standAt apos.atName
   let (f,first) <- holding [ov] (getMethod ov m pl)
   callWith pos f first (backTo pos (starEach (e :: es) X.env)) (backToKw pos (keywordEach [] X.env))):=by rfl) :
  PSX X (.Expr (.Call (.Attribute o m apos) (e :: es) [] pos) epos) (Hz C m sp ta t):=by
 intro pins s σ H D E I h;have main:wpAny (model X.prog X.w) X.A (eval (.Call (.Attribute o m apos) (e :: es) [] pos) X.env) (EP X pins σ fun _ H3=>D.nx σ H3) (Up X pins E) s:=by
  have ho':=wpAny_mono (ho pins s σ H _ (I.wish _) h) (Q':=EP X pins σ fun x H1=>∃ a dx fs,x = .ref a/\H1 a = some (.ins C dx fs)/\fs.lookup m = none/\t σ H1 fun vs H2=>sp (x :: vs) H2 (fun _ H3=>D.nx σ H3) (E σ)) (E':=Up X pins E)
   (fun _ _ ⟨y,H',I',r,q⟩=>⟨y,H',I'.unwish,r,q⟩) fun _ _ z=>False.elim z
  refine W.methodCall_KW (pl:=pl) (dO ho' fun u s1 ⟨y,H1,I1,rx,a,dx,fs,ey,ea,l,q⟩=>?_) ht;subst ey;obtain rfl:u = Value.ref a:=rx;refine sM I1 ea c hm l ?_;have ha':=wpAny_mono (ha pos pins s1 σ H1 _ (I1.wish _) q) (Q':=AP X pins σ fun vs H2=>sp (.ref a :: vs) H2 (fun _ H3=>D.nx σ H3) (E σ)) (E':=Up X pins E) (fun _ _ ⟨vs,H',I',r,q⟩=>⟨vs,H',I'.unwish,r,q⟩) fun _ _ z=>False.elim z;refine W.callWith_K (first:=[.ref a]) (h₀:=X.base) I.ok.mod.kin hm.kp (dO ha' fun us s2 ⟨vs,H2,I2,r,q2⟩=>⟨I2.kIn,?_⟩) hst hpl;exact Tc (us:=.ref a :: us) (vs:=.ref a :: vs) F hr hb I2 (.cons rfl r) q2
 exact wpAny_Expr_any (dO main fun v s1 ⟨y,H1,I1,r1,q1⟩=>⟨σ,H1,I1,q1⟩) I.quiet hs
end
section
variable {K:W.Frag} {H₀:Hp} {E:XK} {i0 j:Nat} {φ:W.Frag->Hp->V->Prop} {p d dx C:Addr} {f m:Str} {kv:dU} {th tz:TS} {dh dz:DS} {t:TA} {dl:DL} {L:LG} {cv:Value}
def Pt (K:W.Frag) (cv:Value) (j:Nat) (kv:dU) (L:LG) (dl:DL) (dh dz:DS) (R:RG) (_ex:DX) (δ:bW):Prop:=dl (fun _=>False) δ fun ds=>L kv ds (fun kv' t=>dz (Pk R kv') (oH δ))
 (fun C'=>W.exmOne K (.ref C') cv = some true/\dh (Bh j { nx:=fun δ'=>dz (Pk R kv) δ',rt:=mC (R kv),ex:=fun _=>False }) (put (some (.exc C')) j δ))
theorem Uc (hφ:∀ G v,φ K G v->v = .ref p) (hp:H₀ p = some (.ins C dx [(f,V.ref d)])) (hk:IsK K H₀ d kv) (hf:f ≠ m) (ha:xC K H₀ E0 t dl) (hh:jD K H₀ E0 th dh) (hz:∀ H,jD K H E0 tz dz) :
  Rg K H₀ E i0 φ d kv (rD (Jb K cv (Hz C m (Ss K C f L) (iG i0) t) j th) tz) (Pt K cv j kv L dl dh dz):=fun R ex δ σ G H D hx S h0 q LK=>by
 obtain ⟨v,hv,hv2⟩:=S.has i0 _ h0;cases hφ G v (hv2 G (Same.refl _));refine ⟨_,hv,p,dx,_,rfl,S.oldH _ _ hp,wF hf,ha (fun _=>False) δ σ G H _ _ gT S q fun vs ds G1 H1 e1 hv1 q1=>?_⟩;have S1:=S.ext e1;have o1:=S1.oldH;obtain ⟨kvs,k1,_⟩:=(hk.same o1).at_;refine ⟨p,dx,d,vs,ds,kv,_,_,rfl,o1 _ _ hp,hk.same o1,hv1,q1,fun v t kv' H' hR c hvd=>?_,fun C' H' sm ⟨hM,hH⟩=>⟨hM,C',rfl,fun x hx0=>?_⟩⟩
 ·exact hz H' _ _ _ _ (Pk R kv') D gT (S1.chg c ⟨_,k1⟩) hR ⟨fun _ _ _ _ _ _ z=>z.elim,fun v s H2 sm r z=>by
   obtain ⟨t,ht,hR⟩:=gK r z
   exact LK.rt v t kv' H2 hR ((c.post sm).pre o1) ht,fun _ _ _ _ _ _ z=>z.elim,fun _ _ _ _ _ _ z=>z.elim⟩
 ·have e2:=e1.trans (oR e1.s sm);have S3:=S.ext e2;have e4:=sR (o:=.ext (pC x C')) S3.sub hx0;have S4:=(S3.ext e4).setS (v:=.ref x) (s:=.exc C') j ⟨x,rfl,bJ⟩ fun _ _ _ _ z=>nomatch z;have fin:∀ (v:V) (s:Sl) (H':Hp),Same H₀ H'->mM K H₀ H' v s->mC (R kv) s->D.rt v H':=fun v s H2 sm r z=>by
   obtain ⟨t,ht,hR⟩:=gK r z;exact LK.rt v t kv H2 hR (Chg.of_same sm hk) ht
  refine hh _ _ _ _ (Bh j { nx:=fun δ'=>dz (Pk R kv) δ',rt:=mC (R kv),ex:=fun _=>False }) _ gT S4 hH ⟨fun δ4 σ4 G4 H4 s4 S5 q4=>?_,fin,fun _ _ _ _ _ _ z=>z.elim,fun _ _ _ _ _ _ z=>z.elim⟩;exact hz H₀ _ _ _ _ (Pk R kv) D gT (S5.unset j) q4 ⟨fun _ _ _ _ _ _ z=>z.elim,fin,fun _ _ _ _ _ _ z=>z.elim,fun _ _ _ _ _ _ z=>z.elim⟩
end
section
variable {K:W.Frag} {as:List Addr} {Fx F:Hp->Prop} {tt tu:TT} {ts tz tb:TS} {ds:DS} {dt:DT}
abbrev DTW:=bW->List dU->(Bool->bW->List dU->Prop)->Prop
def Xx (K:W.Frag) (as:List Addr) (Fx:Hp->Prop) (tt:TT) (d:DTW):Prop:=∀ δ ks σ H Qd Q,Sees K H H δ σ H->Fx H->Store K as ks H->d δ ks Qd->(∀ b δ' ks' H',Sees K H' H' δ' σ H'->Fx H'->Store K as ks' H'->Qd b δ' ks'->Q b H')->tt σ H Q
variable {d1 d2:DTW} {dw dw2:Rj}
def aJm (d1 d2:DTW) (δ:bW) (ks:List dU) (Q:Bool->bW->List dU->Prop):Prop:=d1 δ ks fun b δ' ks'=>if b = true then Q true δ' ks' else d2 δ' ks' Q
theorem Iv (h1:Xx K as Fx tt d1) (h2:Xx K as Fx tu d2):Xx K as Fx (tOr tt tu) (aJm d1 d2):=fun δ ks σ H Qd Q S hF hS q k =>
 h1 δ ks σ H _ _ S hF hS q fun b δ' ks' H' S' F' T' q'=>by
  cases b with
  | true=>exact k true δ' ks' H' S' F' T' q'
  | false=>exact h2 δ' ks' σ H' Qd Q S' F' T' q' k
def Xc (d1:DTW) (δ:bW) (ks:List dU) (Q:Bool->bW->List dU->Prop):Prop:=d1 δ ks fun b δ' ks'=>Q (!b) δ' ks'
theorem Iw (h1:Xx K as Fx tt d1):Xx K as Fx (Yz tt) (Xc d1):=fun δ ks σ H Qd Q S hF hS q k =>
 h1 δ ks σ H _ _ S hF hS q fun b δ' ks' H' S' F' T' q'=>k (!b) δ' ks' H' S' F' T' q'
def aJi (d1:DTW) (dw dw2:Rj) (e:WEnds) (δ:bW) (ks:List dU):Prop:=d1 δ ks fun b δ' ks'=>if b = true then dw e δ' ks' else dw2 e δ' ks'
theorem qG (h:Xx K as Fx tt d1) (h1:zS K as Fx ts dw) (h2:zS K as Fx tz dw2):zS K as Fx (Sg tt ts tz) (aJi d1 dw dw2):=fun e δ ks σ H D S hF hS q L =>
 h δ ks σ H _ _ S hF hS q fun b δ' ks' H' S' F' T' q'=>by
  cases b with
  | true=>exact aIs (h1 e δ' ks' σ H' D S' F' T' q' L)
  | false=>exact aIt (h2 e δ' ks' σ H' D S' F' T' q' L)
def Po (e:WEnds) (δ:bW) (ks:List dU):Prop:=e.nx δ ks
theorem iX:zS K as Fx Ca Po:=fun e δ ks σ H D S hF hS q L=>L.nx δ ks σ H S hF hS q
structure Beg1 (K:W.Frag) (C:Addr) (f:Str) (as:List Addr) (p:Addr) (Fx:Hp->Prop):Prop where
 good:GoodF K as Fx
 nd:as.Nodup
 hp:∀ H,Fx H->∃ dx d,H p = some (.ins C dx [(f,V.ref d)])/\as[0]? = some d
theorem Beg1.sub {C:Addr} {f:Str} {p:Addr} (bg:Beg1 K C f as p Fx) (hF:GoodF K as F) (h:∀ H,F H->Fx H):Beg1 K C f as p F:=⟨hF,bg.nd,fun H z=>bg.hp H (h H z)⟩
variable {C p:Addr} {f m:Str} {t:TA} {dl:DL} {te:TE} {de:DE} {L:LG} {iO:Nat}
def aJn (iO:Nat) (p:Addr) (ms:List (Nat × Addr)) (L:LG) (dl:DL) (de:DE) (δ:bW) (ks:List dU) (Q:Bool->bW->List dU->Prop):Prop:=slot δ iO = some (.mon (zU p))/\(∀ m∈ms,slot δ m.1 = some (.mon (zU m.2)))/\dl (fun _=>False) δ fun ds=>∃ kv,ks[0]? = some kv /\
 L kv ds (fun kv' t=>∃ a,t = .str a/\iJ (uI ms δ) = true/\de (fun _=>False) (uI ms δ) fun z=>∃ b,z = .str b/\Q (!decide (a = b)) (uI ms δ) (ks.set 0 kv')) (fun _=>False)
theorem Sk {a b:Str}:decide (V.str a = V.str b) = decide (a = b):=by
 by_cases h:a = b
 ·rw [h]; simp
 ·rw [decide_eq_false h,decide_eq_false (fun z=>h (by injection z))]
theorem nI (ms:List (Nat × Addr)) (bg:Beg1 K C f as p Fx) (hf:f ≠ m) (hl:∀ H,xC K H E0 t dl) (he:∀ H,fW K H E0 te de):Xx K as Fx (Jc (xD rNe (Cb C m (Ss K C f L) [] E0 (iG iO) t) te)) (aJn iO p ms L dl de):=fun δ ks σ H Qd Q S hF hS ⟨h1,h2,q⟩ k=>by
 obtain ⟨v,hv,hv2⟩:=S.has iO _ h1;cases (show v = .ref p from hv2 H (Same.refl _));obtain ⟨dx,d,hp,hj⟩:=bg.hp H hF;refine ⟨_,hv,p,dx,_,rfl,hp,wF hf,hl H _ δ σ H H _ _ gT S q fun vs ds G1 H1 e1 hvs ⟨kv,hkv,q1⟩=>?_⟩;have S1:=S.ext e1;have o1:=S1.oldH;have f1:=bg.good.mono H H1 o1 hF;have st1:=hS.same o1;have ik:=st1.is _ _ _ hj hkv;obtain ⟨kvs0,k0,_⟩:=ik.at_;refine ⟨p,dx,d,vs,ds,kv,_,_,by rw [append_nil],o1 _ _ hp,ik,hvs,q1,fun v t kv' H' ⟨a,et,no,qe⟩ c hvd=>?_,fun _ _ _ z=>z.elim⟩;subst et;cases cS hvd;have S2:=S1.chgM c ⟨_,k0⟩ h2;have f2:=bg.good.chg H1 H' _ kv' (mem_of_getElem? hj) ⟨_,k0⟩ c f1;have st2:=st1.chg bg.nd hj c;refine he H' _ _ σ H' H' _ _ gT S2 qe fun y dy G3 H3 e3 hy ⟨b,ey,qb⟩=>?_;subst ey;cases cS hy;have S3:=S2.ext e3;refine ⟨rfl,_,rfl,?_⟩;rw [Sk];exact k _ _ _ H3 (S3.all2 no (Same.refl _)).fresh (bg.good.mono H' H3 S3.oldH f2) (st2.same S3.oldH) qb
def Pr (iO:Nat) (p:Addr) (ms:List (Nat × Addr)) (L:LG) (dl:DL) (δ:bW) (ks:List dU) (Q:Bool->bW->List dU->Prop):Prop:=slot δ iO = some (.mon (zU p))/\(∀ m∈ms,slot δ m.1 = some (.mon (zU m.2)))/\dl (fun _=>False) δ fun ds=>∃ kv,ks[0]? = some kv /\
 L kv ds (fun kv' t=>∃ b,t = .bool b/\Q b (uI ms δ) (ks.set 0 kv')) (fun _=>False)
theorem Bw (ms:List (Nat × Addr)) (bg:Beg1 K C f as p Fx) (hl:∀ H,xC K H E0 t dl):Xx K as Fx (tB (lE (Ss K C f L) [] E0 (eT (iG iO) t))) (Pr iO p ms L dl):=fun δ ks σ H Qd Q S hF hS ⟨h1,h2,q⟩ k=>by
 obtain ⟨v,hv,hv2⟩:=S.has iO _ h1;cases (show v = .ref p from hv2 H (Same.refl _));obtain ⟨dx,d,hp,hj⟩:=bg.hp H hF;refine ⟨_,hv,hl H _ δ σ H H _ _ gT S q fun vs ds G1 H1 e1 hvs ⟨kv,hkv,q1⟩=>?_⟩;have S1:=S.ext e1;have o1:=S1.oldH;have f1:=bg.good.mono H H1 o1 hF;have st1:=hS.same o1;have ik:=st1.is _ _ _ hj hkv;obtain ⟨kvs0,k0,_⟩:=ik.at_;refine ⟨p,dx,d,vs,ds,kv,_,_,by rw [append_nil],o1 _ _ hp,ik,hvs,q1,fun v t kv' H' ⟨b,et,qb⟩ c hvd=>?_,fun _ _ _ z=>z.elim⟩;subst et;cases kQ hvd;exact ⟨b,rfl,k b _ _ H' (S1.chgM c ⟨_,k0⟩ h2) (bg.good.chg H1 H' _ kv' (mem_of_getElem? hj) ⟨_,k0⟩ c f1) (st1.chg bg.nd hj c) qb⟩
def Pm (iO:Nat) (p:Addr) (L:LG) (dl:DL) (e:WEnds) (δ:bW) (ks:List dU):Prop:=slot δ iO = some (.mon (zU p))/\dl (fun _=>False) δ fun ds=>∃ kv,ks[0]? = some kv/\L kv ds (fun _ t=>e.rt t) (fun _=>False)
theorem Uf (bg:Beg1 K C f as p Fx) (hl:∀ H,xC K H E0 t dl):zS K as Fx (Fq (lE (Ss K C f L) [] E0 (eT (iG iO) t))) (Pm iO p L dl):=fun e δ ks σ H D S hF hS ⟨h1,q⟩ LK=>by
 obtain ⟨v,hv,hv2⟩:=S.has iO _ h1;cases (show v = .ref p from hv2 H (Same.refl _));obtain ⟨dx,d,hp,hj⟩:=bg.hp H hF;refine ⟨_,hv,hl H _ δ σ H H _ _ gT S q fun vs ds G1 H1 e1 hvs ⟨kv,hkv,q1⟩=>?_⟩;have S1:=S.ext e1;have o1:=S1.oldH;have f1:=bg.good.mono H H1 o1 hF;have st1:=hS.same o1;have ik:=st1.is _ _ _ hj hkv;obtain ⟨kvs0,k0,_⟩:=ik.at_;exact ⟨p,dx,d,vs,ds,kv,_,_,by rw [append_nil],o1 _ _ hp,ik,hvs,q1,fun v t kv' H' qb c hvd=>LK.rt v t H' (bg.good.chg H1 H' _ kv' (mem_of_getElem? hj) ⟨_,k0⟩ c f1) hvd qb,fun _ _ _ z=>z.elim⟩
def Qj (iO:Nat) (dwA:Addr->Rj) (e:DEnds) (δ:bW):Prop:=iJ δ = true/\∀ p,dwA p { nx:=fun _ _=>False,rt:=fun t=>e.rt (.dat t) } (put (some (.mon (zU p))) iO δ) [[]]
theorem Jj {H₀:Hp} {E:XK} {dwA:Addr->Rj} (hb:∀ as p Fx,Beg1 K C f as p Fx->zS K as Fx tz (dwA p)):jD K H₀ E (rD (pF (Je C (vM C f) [] E0 jW) (mJ iO)) tz) (Qj iO dwA):=fun δ σ G H e D hx S ⟨no,q⟩ L=>by
 have S0:=(S.all2 no (Same.refl _)).fresh;unfold rD pF;refine Ub fun x dx d H1 s1 n0 hx0 hd0=>?_
 let Fx:Hp->Prop:=fun H'=>Same H H'/\H' x = some (.ins C dx [(f,V.ref d)])
 have keepo:∀ {H H':Hp} {d:Addr} {kv':dU} {b:Addr} {o:HO},Chg K H d kv' H'->(∃ kvs,H d = some (.dK kvs))->(∀ kvs,o ≠ .dK kvs)->H b = some o->H' b = some o:=fun c hk no eb=>c.keep _ _ (by rintro rfl; obtain ⟨k2,hk⟩:=hk; rw [hk] at eb; cases eb; exact no _ rfl) eb
 have bg:Beg1 K C f [d] x Fx:={
  good:=⟨fun H H' s z=>⟨z.1.trans s,s _ _ z.2⟩,fun Ha Hb d' kv' hd hk c z=>⟨fun b o eb=>c.keep b o (bZ eb (by rw [mem_singleton.mp hd]; exact n0)) (z.1 b o eb),keepo c hk (by intro _ w; cases w) z.2⟩⟩
  nd:=pairwise_singleton _ _
  hp:=fun H' z=>⟨dx,d,z.2,rfl⟩ }
 have SS:=(S0.all2' s1).setS (v:=.ref x) (s:=.mon (zU x)) iO (fun _ _=>rfl) fun _ _ _ _ z=>nomatch z;refine hb _ _ _ bg { nx:=fun _ _=>False,rt:=fun t=>e.rt (.dat t) } _ [[]] _ _ D SS ⟨s1,hx0⟩ ⟨rfl,fun i a kv e1 e2=>?_⟩ (q x) ⟨fun _ _ _ _ _ _ _ z=>z.elim,fun v t H' f hv hr=>L.rt v (.dat t) H' (S.oldH.trans f.1) hv hr⟩
 match i,e1,e2 with
 | 0,e1,e2=>cases e1; cases e2; exact ⟨⟨[],hd0,.nil⟩,fun _ h=>nomatch h⟩
 | i + 1,e1,e2=>simp at e1
variable {g:TG} {ns:List Nat} {dg:DG} {ta tb':TE} {da db:DE}
def aEc (de:DE) (dg:DG) (dw:Rj) (e:WEnds) (δ:bW) (ks:List dU):Prop:=iJ δ = true/\de (fun _=>False) δ fun d=>∃ ds:List PyData,d = .list ds/\mV ds = true/\∃ I:Nat->bW->List dU->Prop,I 0 δ ks /\
 (∀ i x δ' ks',ds[i]? = some x->I i δ' ks'->dg x δ' fun δ2=>dw { e with nx:=I (i + 1) } δ2 ks')/\∀ δ' ks',I ds.length δ' ks'->e.nx δ' ks'
theorem Uh (hF:GoodF K as Fx) (he:∀ H,fW K H E0 te de) (hg:∀ H,Bs K H g ns dg) (hb:∀ F,GoodF K as F->(∀ H,F H->Fx H)->zS K as F tb dw):zS K as Fx (Jf (zD K te) g tb) (aEc de dg dw):=fun e δ ks σ H D S hf hS ⟨no,q⟩ L =>
 he H _ δ σ H H _ _ gT S q fun v d0 G1 H1 e1 hv ⟨ds,ed,nd,I,i0,step,fin⟩=>by
  subst ed;have S1:=S.ext e1;have hv2:DV K H1 v (.list ds):=cL e1.s.same hv;obtain ⟨a,vs,rfl,hsq,hvs⟩:=eJ hv2;have hF2:=hF.dat (a:=a) (t:=.list ds) nd;refine ⟨a,rfl,⟨vs,hsq⟩,fun i m σ H=>m = ds.length - i/\i<=ds.length/\∃ δ' ks',Sees K H H δ' σ H/\(Fx H/\DV K H (.ref a) (.list ds))/\Store K as ks' H/\I i δ' ks',⟨_,rfl,zero_le _,δ,ks,(S1.all2 no (Same.refl _)).fresh,⟨hF.mono H H1 S1.oldH hf,hv2⟩,hS.same S1.oldH,i0⟩,?_⟩;rintro i m σ' H' ⟨rfl,hin,δ',ks',S',f',t',hI⟩;obtain ⟨a2,vs2,ea,hsq2,hvs2⟩:=eJ f'.2;cases ea;have hlen:vs2.length = ds.length:=hvs2.len;by_cases hlt:i < ds.length
  ·have hlt2:i < vs2.length:=by omega
   refine .inr ⟨⟨vs2,_,hsq2,getElem?_eq_getElem hlt2⟩,fun σ H=>∃ δ' ks',Sees K H H δ' σ H/\(Fx H/\DV K H (.ref a) (.list ds))/\Store K as ks' H/\I (i + 1) δ' ks',fun σ2 H2 z=>⟨_,by omega,rfl,hlt,z⟩,fun x H2 y=>?_⟩;obtain ⟨rfl,hy⟩:=y;have hx:=hy vs2 hsq2;obtain ⟨dx,hdx,hdv⟩:=qY hvs2 hx;refine hg H2 _ _ δ' σ' H2 H2 _ _ S' hdv (step i dx δ' ks' hdx hI) fun δ3 σ3 S3 _ q3=>?_;exact hb _ hF2 (fun _ z=>z.1) { e with nx:=I (i + 1) } δ3 ks' σ3 H2 _ S3 f' t' q3 ⟨fun δ4 ks4 σ4 H4 S4 f4 t4 q4=>⟨δ4,ks4,S4,f4,t4,q4⟩,fun v t H f=>L.rt v t H f.1⟩
  ·have:i = ds.length:=by omega
   subst this;exact .inl ⟨⟨vs2,hsq2,by omega⟩,L.nx δ' ks' σ' H' S' f'.1 t' (fin δ' ks' hI)⟩
def aEb (da db:DE) (dg:DG) (dw:Rj) (e:WEnds) (δ:bW) (ks:List dU):Prop:=iJ δ = true/\da (fun _=>False) δ fun d1=>∃ xs:List PyData,d1 = .list xs/\db (fun _=>False) δ fun d2=>∃ ys:List PyData,d2 = .list ys/\mV xs = true/\mV ys = true/\xs.length = ys.length/\∃ I:Nat->bW->List dU->Prop,I 0 δ ks /\
 (∀ i x y δ' ks',xs[i]? = some x->ys[i]? = some y->I i δ' ks'->dg (.tuple [x,y]) δ' fun δ2=>dw { e with nx:=I (i + 1) } δ2 ks')/\∀ δ' ks',I xs.length δ' ks'->e.nx δ' ks'
theorem Ug (hF:GoodF K as Fx) (h1:∀ H,fW K H E0 ta da) (h2:∀ H,fW K H E0 tb' db) (hg:∀ H,Bs K H g ns dg) (hb:∀ F,GoodF K as F->(∀ H,F H->Fx H)->zS K as F tb dw):zS K as Fx (Jf (aDw K (eT ta (eT tb' jW))) g tb) (aEb da db dg dw):=fun e δ ks σ H D S hf hS ⟨no,q⟩ L =>
 h1 H _ δ σ H H _ _ gT S q fun v d0 G1 H1 e1 hv ⟨xs,ed,q1⟩=>h2 H _ δ σ G1 H1 _ _ gT (S.ext e1) q1 fun v' d0' G2 H2 e2 hv' ⟨ys,ed',nd1,nd2,hl,I,i0,step,fin⟩=>by
  subst ed ed';have S1:=(S.ext e1).ext e2;have hva:DV K H2 v (.list xs):=cL (e2.g.trans e2.s.same) hv;have hvb:DV K H2 v' (.list ys):=cL e2.s.same hv';obtain ⟨a,vs,rfl,hsq,hvs⟩:=eJ hva;obtain ⟨b,ws,rfl,hsq',hvs'⟩:=eJ hvb;have hF2:=(hF.dat (a:=a) (t:=.list xs) nd1).dat (a:=b) (t:=.list ys) nd2;refine ⟨a,b,rfl,⟨vs,hsq⟩,⟨ws,hsq'⟩,fun i m σ H=>m = xs.length - i/\i<=xs.length/\∃ δ' ks',Sees K H H δ' σ H/\((Fx H/\DV K H (.ref a) (.list xs))/\DV K H (.ref b) (.list ys))/\Store K as ks' H/\I i δ' ks',⟨_,rfl,zero_le _,δ,ks,(S1.all2 no (Same.refl _)).fresh,⟨⟨hF.mono H H2 S1.oldH hf,hva⟩,hvb⟩,hS.same S1.oldH,i0⟩,?_⟩;rintro i m σ' H' ⟨rfl,hin,δ',ks',S',f',t',hI⟩;obtain ⟨a2,vs2,ea,hsq2,hvs2⟩:=eJ f'.1.2;cases ea;obtain ⟨b2,ws2,eb,hsq3,hvs3⟩:=eJ f'.2;cases eb;have hlen:vs2.length = xs.length:=hvs2.len;have hlen3:ws2.length = ys.length:=hvs3.len;by_cases hlt:i < xs.length
  ·have hlt2:i < vs2.length:=by omega
   have hlt3:i < ws2.length:=by omega
   refine .inr ⟨⟨vs2,ws2,hsq2,hsq3,hlt2,hlt3⟩,fun σ H=>∃ δ' ks',Sees K H H δ' σ H/\((Fx H/\DV K H (.ref a) (.list xs))/\DV K H (.ref b) (.list ys))/\Store K as ks' H/\I (i + 1) δ' ks',fun σ2 H2 z=>⟨_,by omega,rfl,hlt,z⟩,fun x H3 y=>?_⟩;obtain ⟨T,u,w,rfl,hT,rfl,hu,hw⟩:=y;have sm:=upd_same' (o:=.tup [u,w]) hT;obtain ⟨dx,hdx,hdv⟩:=qY hvs2 (hu vs2 hsq2);obtain ⟨dy,hdy,hdv2⟩:=qY hvs3 (hw ws2 hsq3);have dvT:DV K (cX H' T (.tup [u,w])) (.ref T) (.tuple [dx,dy]):=.tup (.inl (.inl bJ)) (.cons (cL sm hdv) (.cons (cL sm hdv2) .nil));have f3:=hF2.mono H' _ sm f';refine hg _ _ _ δ' σ' _ _ _ _ (S'.all2' sm) dvT (step i dx dy δ' ks' hdx hdy hI) fun δ3 σ3 S3 _ q3=>?_;exact hb _ hF2 (fun _ z=>z.1.1) { e with nx:=I (i + 1) } δ3 ks' σ3 _ _ S3 f3 (t'.same sm) q3 ⟨fun δ4 ks4 σ4 H4 S4 f4 t4 q4=>⟨δ4,ks4,S4,f4,t4,q4⟩,fun v t H f=>L.rt v t H f.1.1⟩
  ·have:i = xs.length:=by omega
   subst this;exact .inl ⟨⟨vs2,ws2,hsq2,hsq3,.inl (by omega)⟩,L.nx δ' ks' σ' H' S' f'.1.1 t' (fin δ' ks' hI)⟩
end
theorem lH {a b pos es env}:starEach (.Subscript a b pos :: es) env = (false,eval (.Subscript a b pos) env) :: starEach es env:=rfl
theorem nN {f a k pos es env}:starEach (.Call f a k pos :: es) env = (false,eval (.Call f a k pos) env) :: starEach es env:=rfl
theorem bP {x pos es env}:starEach (.Name x pos :: es) env = (false,eval (.Name x pos) env) :: starEach es env:=rfl
section
variable {X:Cx}
def Mq:R2:=fun x y H Q=>∃ (i:Str) (n:Int),x = .str i/\y = .int n/\2<=n/\n<=400/\i.length = 2/\Q (.str (kR i n.toNat)) H
theorem yO:kW X (binaryOp .Mult) Mq:=by
 intro pins s σ H x y v u Q I rx ry h;obtain ⟨i,n,rfl,rfl,h0,h1,hz,q⟩:=h;obtain ⟨t,rfl⟩:=rx;obtain ⟨t',rfl⟩:=ry;have fin:∀ tk:Nat,EP X pins σ Q (.str (kR i n.toNat) s.toks) { s with toks:=tk }:=fun tk=>⟨.str _,H,I.tok tk,⟨_,rfl⟩,q⟩;refine PySem.P.mul_str ?_ (fun a b=>?_) (fun a b=>?_) ?_
 ·rw [decide_eq_false (by omega),decide_eq_false (by omega)]; rfl
 ·rw [hz];have:(2:Int)<=(2 ^ 63 - 1) / n:=by
   refine Int.le_ediv_of_mul_le (by omega) ?_;omega
  omega
 ·rw [hz];exact decide_eq_false (by have:=bT (n:=2 * n.toNat) (by omega); omega)
 ·rw [if_neg (by omega),if_neg (by rw [hz]; simp; omega)];exact ⟨by have h2:=nR i n.toNat; rw [hz] at h2; have:=bT (n:=n.toNat * 2) (by omega); unfold kR at h2; rw [h2]; omega,fin _⟩
end
section
variable {K:W.Frag}
def Ap (x y:PyData) (Q:PyData->Prop):Prop:=match x,y with
 | .str a,.int n=>2<=n/\n<=400/\a.length = 2/\Q (.str (kR a n.toNat))
 | _,_=>False
theorem Ly:zV K Mq Ap:=by
 intro G H x y dx dy Qd Q hx hy q k;unfold Ap at q;split at q
 ·cases cS hx; cases cK hy;exact ⟨_,_,rfl,rfl,q.1,q.2.1,q.2.2.1,k _ _ (.str _) q.2.2.2⟩
 ·exact q.elim
end
section
variable {K:W.Frag} {H₀:Hp} {E:XK}
theorem Va:fW K H₀ E zZ (dC (.dict [])):=fun ex δ σ G H Qd Q hx S q k p hp =>
 k (.ref p) _ _ _ (sR (o:=.dK []) S.sub hp) (.dc0 bJ) q
variable {t:TA} {dl:DL} {g:TG} {ns:List Nat} {dg:DG}
def Qo (w:DW) (dl:DL) (m:Nat) (dg:DG) (e:DEnds) (δ:bW):Prop:=dl e.ex δ fun ds=>iJ δ = true/\w ds (mC fun d=>match d with
 | .tuple xs=>(match nth xs m with
  | some d=>dg d δ e.nx
  | none=>False)
 | _=>False) e.ex
theorem Jk {w:DW} (m:Nat) (ha:xC K H₀ E t dl) (hg:Bs K H₀ g ns dg):jD K H₀ E (pF (xD (Mt K) (lE (fO K w) [] E t) (tC (.int (m:Int)))) g) (Qo w dl m dg):=fun δ σ G H e D hx S q L =>
 ha e.ex δ σ G H _ _ hx S q fun vs ds G1 H1 e1 h1 ⟨no,q1⟩=>by
  refine ⟨ds,_,e.ex,by rw [append_nil]; exact h1,q1,fun v s H2 sm r qs=>?_,fun C H2 sm hc=>hx C H2 ((S.ext e1).oldH.trans sm) hc⟩;obtain ⟨d,hd,q2⟩:=gK r qs;have S2:=(S.ext e1).all2 no sm;cases d with
  | tuple xs =>
   dsimp only at q2;split at q2
   ·rename_i d' z
    obtain ⟨a,us,rfl,hs,hv⟩:=oV hd;obtain ⟨u,z1,z2⟩:=wO hv (cW (Au z));refine ⟨a,us,_,u,rfl,rfl,hs,z1,?_⟩;exact hg u d' δ σ H2 H2 _ _ S2 z2 q2 fun δ' σ' S' _ q'=>L.nx δ' σ' H2 H2 ((S.ext e1).sub.same.trans sm |> fun z=>e1.g.trans z) S' q'
   ·exact q2.elim
  | _=>exact q2.elim
end
end Dl
namespace My
open PySem PySem.Spec PyProof.Rows L2 Lx Dl
local macro_rules | `(tactic| walk_at "c") => `(tactic| exact ⟨rfl, rfl, rfl, by decide +kernel, rfl, by decide +kernel, by decide +kernel⟩)
structure Fg (K:W.Frag) (n:Str) (st:Stmt) (f:Addr) (d:FuncData):Prop where
 a:W.nsIn K mainGlobals n = some (some (.ref f))
 F:Fun K n n st f d
theorem fg_mk {K:W.Frag} {x:Str} {st:Stmt} {f:Addr} {oc:Value} {od an:Option Addr} {osl:Array (Option Value)} {kV doc pm cdv ct:Value} (a:W.nsIn K mainGlobals x = some (some (.ref f))) (l:K.lookup f = some ⟨oc,od,.func (W.fnOf x x (kK st) (fH st) (aT st) .none kV doc pm an cdv ct),osl⟩) (c:W.codeIn K cdv x = true) (k:W.keepIn K (.ref f) = true):Fg K x st f (W.fnOf x x (kK st) (fH st) (aT st) .none kV doc pm an cdv ct):=⟨a,fun_mk l c k⟩
structure Fd (K:W.Frag) (mg:Str->Option Value) (n:Str) (st:Stmt) (a:Addr) (d:FuncData) (ps:List Str):Prop where
 F:Fun K n n st a d
 m:mg n = some (.ref a)
 b:Binds K d ps []
theorem Fg.fd {K:W.Frag} {mg:Str->Option Value} {n:Str} {st:Stmt} {f:Addr} {d:FuncData} {ps:List Str} {h:Heap} (F:Fg K n st f d) (X:K.In h) (G:h.Ns mainGlobals mg) (b:∀ (kV doc pm:Value) (an:Option Addr) (cdv ct:Value) (us:List Value),us.length = ps.length->bindArgs (W.fnOf n n (kK st) (fH st) (aT st) .none kV doc pm an cdv ct) ⟨us,[]⟩ = pure (ps.zip us)):Fd K mg n st f d ps:=⟨F.F,W.mg_of X G F.a,F.F.binds b⟩
theorem dQ {X:Cx} {CX:Hs} {k k':Nat} {f:Addr} {fd:FuncData} {ps:List Str} {sp:Sp} {x:Str} {p pos:Pos} {st:Stmt} {e:Expr} {es:List Expr} {t:TA} {E:XK} (F:FnOk X.prog X.w X.K X.mg X.base CX k f fd ps sp) (hr:Room k' X.A) (T:Fd X.K X.mg x st f fd ps) (hx:jE CX X E)
  (ha:PA X (e :: es) t) (hk:k<=k':=by decide) (hg:Gl X x:=by exact rfl) (hdb:(x == ("__debug__":Str)) = false:=by decide) (he:starEach (e :: es) X.env = (false,eval e X.env) :: starEach es X.env:=by rfl) (hpl:(backTo pos (starEach es X.env)).any (·.1) = false:=by rfl) :
  PE X (.Call (.Name x p) (e :: es) [] pos) (lE sp [] E t):=Tp F (hr.mono hk) hg T.m T.F.kp T.b .nil hx ha hdb he hpl
def top (i:Nat):Stmt:=PySem.Challenge.pw_leastmiss_k75_desk_refused.main.body.getD i (.Pass ⟨0,0,0,0⟩)
abbrev aAz:Stmt:=top 12
theorem Co:FnScope ["one","other","rest"] ["one","other"] (aT aAz):=by walk_at "c"
abbrev aAy:Stmt:=top 13
theorem Ki:FnScope ["top","bottom","divisor"] ["top","bottom"] (aT aAy):=by walk_at "c"
abbrev aAx:Stmt:=top 14
theorem yE:FnScope ["one","other","shared","rest","top","divisor"] ["one","other"] (aT aAx):=by walk_at "c"
abbrev aAw:Stmt:=top 15
theorem aHl:FnScope ["one","other"] ["one","other"] (aT aAw):=by walk_at "c"
abbrev aAv:Stmt:=top 16
theorem Kg:FnScope ["one","other","left","right"] ["one","other"] (aT aAv):=by walk_at "c"
abbrev aAu:Stmt:=top 17
theorem aHk:FnScope ["one","other"] ["one","other"] (aT aAu):=by walk_at "c"
abbrev aAt:Stmt:=top 18
theorem aHj:FnScope ["one","other"] ["one","other"] (aT aAt):=by walk_at "c"
abbrev aAs:Stmt:=top 19
theorem aHi:FnScope ["one"] ["one"] (aT aAs):=by walk_at "c"
abbrev aAr:Stmt:=top 20
theorem Cn:FnScope ["some","total","one"] ["some"] (aT aAr):=by walk_at "c"
abbrev aAq:Stmt:=top 21
theorem Cl:FnScope ["some","greatest","one"] ["some"] (aT aAq):=by walk_at "c"
abbrev aAp:Stmt:=top 37
theorem aHh:FnScope ["marks","place"] ["marks","place"] (aT aAp):=by walk_at "c"
abbrev aAo:Stmt:=top 38
theorem Ck:FnScope ["some","marks","mark","spot"] ["some"] (aT aAo):=by walk_at "c"
abbrev aAn:Stmt:=top 39
theorem aHg:FnScope ["marks","row"] ["marks","row"] (aT aAn):=by walk_at "c"
abbrev aAm:Stmt:=top 42
theorem aHf:FnScope ["kind"] ["kind"] (aT aAm):=by walk_at "c"
abbrev aAl:Stmt:=top 43
theorem aHe:FnScope ["marks","row"] ["marks","row"] (aT aAl):=by walk_at "c"
abbrev aAk:Stmt:=top 44
theorem Kc:FnScope ["kind","marks","row","misses","weighed"] ["kind","marks","row"] (aT aAk):=by walk_at "c"
abbrev aAj:Stmt:=top 46
theorem sc_qq:FnScope ["kind","marks","heights","weights","weighed"] ["kind","marks"] (aT aAj):=by walk_at "c"
abbrev aAi:Stmt:=top 57
theorem aHd:FnScope ["kind","marks","bend"] ["kind","marks","bend"] (aT aAi):=by walk_at "c"
abbrev aAh:Stmt:=top 58
theorem aHc:FnScope ["bend"] ["bend"] (aT aAh):=by walk_at "c"
abbrev aAg:Stmt:=top 74
theorem We:FnScope ["kind","marks","first","last","stretch"] ["kind","marks","first","last"] (aT aAg):=by walk_at "c"
abbrev aAf:Stmt:=top 78
theorem aHb:FnScope ["kind","marks","last"] ["kind","marks","last"] (aT aAf):=by walk_at "c"
abbrev aAe:Stmt:=top 79
theorem aHa:FnScope ["kind","marks"] ["kind","marks"] (aT aAe):=by walk_at "c"
abbrev aAd:Stmt:=top 81
theorem sc_qw:FnScope ["kind","marks","k","costs","table","starts","entries","spot","found"] ["kind","marks","k"] (aT aAd):=by walk_at "c"
abbrev aAc:Stmt:=top 82
theorem yD:FnScope ["kind","costs","entries_ahead","best","start","spot","one"] ["kind","costs","entries_ahead"] (aT aAc):=by walk_at "c"
abbrev aAb:Stmt:=top 83
theorem nO:FnScope ["kind","marks","starts","row","count","spot","first","stretch"] ["kind","marks","starts"] (aT aAb):=by walk_at "c"
abbrev aAa:Stmt:=top 87
theorem aGz:FnScope ["text"] ["text"] (aT aAa):=by walk_at "c"
abbrev Lr:Stmt:=top 88
theorem Zy:FnScope ["text"] ["text"] (aT Lr):=by walk_at "c"
abbrev Lp:Stmt:=top 89
theorem Kh:FnScope ["text","figures"] ["text"] (aT Lp):=by walk_at "c"
abbrev Ln:Stmt:=top 90
theorem vQ:FnScope ["text","parts","top","bottom"] ["text"] (aT Ln):=by walk_at "c"
abbrev Ll:Stmt:=top 91
theorem pI:FnScope ["text","parts","others","place","height","weight"] ["text"] (aT Ll):=by walk_at "c"
abbrev Li:Stmt:=top 92
theorem Kf:FnScope ["x"] ["x"] (aT Li):=by walk_at "c"
abbrev Lg:Stmt:=top 93
theorem Zu:FnScope ["some"] ["some"] (aT Lg):=by walk_at "c"
abbrev Le:Stmt:=top 94
theorem Zt:FnScope ["mark"] ["mark"] (aT Le):=by walk_at "c"
abbrev Ld:Stmt:=top 95
theorem Zs:FnScope ["some"] ["some"] (aT Ld):=by walk_at "c"
abbrev Lc:Stmt:=top 100
theorem Ag:FnScope ["row","words","bounds"] ["row"] (aT Lc):=by walk_at "c"
abbrev Lb:Stmt:=top 101
theorem Zr:FnScope ["word"] ["word"] (aT Lb):=by walk_at "c"
abbrev La:Stmt:=top 102
theorem Zq:FnScope ["kind","marks","bend"] ["kind","marks","bend"] (aT La):=by walk_at "c"
abbrev Kz:Stmt:=top 103
theorem Zp:FnScope ["parts"] ["parts"] (aT Kz):=by walk_at "c"
abbrev Ky:Stmt:=top 104
theorem Ke:FnScope ["kind","marks","bend","fit","measure"] ["kind","marks","bend"] (aT Ky):=by walk_at "c"
abbrev Kx:Stmt:=top 106
theorem Kd:FnScope ["kind","marks","k","row"] ["kind","marks","k"] (aT Kx):=by walk_at "c"
abbrev Kw:Stmt:=top 107
theorem Zo:FnScope ["kind","marks","words"] ["kind","marks","words"] (aT Kw):=by walk_at "c"
abbrev Ku:Stmt:=top 108
theorem Kb:FnScope ["words","marks","kind"] ["words","marks"] (aT Ku):=by walk_at "c"
abbrev Kt:Stmt:=top 111
theorem Zn:FnScope ["script","k"] ["script","k"] (aT Kt):=by walk_at "c"
abbrev Ks:Stmt:=top 112
theorem Zm:FnScope ["cell","k"] ["cell","k"] (aT Ks):=by walk_at "c"
abbrev Kr:Stmt:=top 113
theorem rM:FnScope ["cell","size","place","names","k"] ["cell"] (aT Kr):=by walk_at "c"
abbrev Kq:Stmt:=top 114
theorem sc_qt1:FnScope ["number","names","n","a","b","c","last","forms"] ["number","names","n"] (aT Kq):=by walk_at "c"
abbrev Ko:Stmt:=top 115
theorem sc_qu1:FnScope ["words","kinds"] ["words"] (aT Ko):=by walk_at "c"
abbrev Kn:Stmt:=top 116
theorem sc_qv1:FnScope ["kind","number","great","marks"] ["kind","number"] (aT Kn):=by walk_at "c"
abbrev Km:Stmt:=top 117
theorem sc_qw1:FnScope ["words","number","kinds","at","later","word","due"] ["words","number"] (aT Km):=by walk_at "c"
abbrev Kl:Stmt:=top 118
theorem Zl:FnScope ["words","number"] ["words","number"] (aT Kl):=by walk_at "c"
abbrev Kk:Stmt:=top 119
theorem sc_qy1:FnScope ["names","number","n","a","b","c","last","k","rows","dues"] ["names","number","n"] (aT Kk):=by walk_at "c"
abbrev Kj:Stmt:=top 120
theorem sc_qz1:FnScope ["names","number","n","way","words","first","due"] ["names","number","n"] (aT Kj):=by walk_at "c"
abbrev Lq:Stmt:=top 121
theorem sc_qa2:FnScope ["desk","row","due","some","plain","e"] ["desk","row","due"] (aT Lq):=by walk_at "c"
abbrev Lo:Stmt:=qU (top 109) 0
theorem Zx:FnScope ["self"] ["self"] (aT Lo):=by walk_at "c"
abbrev Lm:Stmt:=qU (top 109) 1
theorem Ah:FnScope ["self","row","words","marks"] ["self","row"] (aT Lm):=by walk_at "c"
abbrev Lj:Stmt:=qU (top 109) 2
theorem Zw:FnScope ["self","name","words"] ["self","name","words"] (aT Lj):=by walk_at "c"
abbrev Lh:Stmt:=qU (top 109) 3
theorem Zv:FnScope ["self","name"] ["self","name"] (aT Lh):=by walk_at "c"
abbrev Lf:Stmt:=top 122
theorem fR:FnScope ["script","names","cell","texts","desk","name","text","k","number","new","row","due","place","n"] ["script"] (aT Lf):=by walk_at "c"
theorem fY {X:Cx} {K:W.Frag} {a:Expr} {ta:TE} {i j p pos} (h:X.K = K) (ha:PE X a ta):PE X (.Subscript a (.Constant (.int i) j p) pos) (xD (Mt K) ta (tC (.int i))):=dH (aMw h) ha aS (fun _ _=>rfl)
theorem xE {X:Cx} {K:W.Frag} {a:Expr} {ta:TE} {i j p pos} (h:X.K = K) (ha:PE X a ta):PE X (.Subscript a (.Constant (.int i) j p) pos) (xD (Tg K) ta (tC (.int i))):=dH (gH h) ha aS (fun _ _=>rfl)
theorem eY {X:Cx} {ps:List Str} {sc:Scope} {x:Str} {e:Expr} {te:TE} {pos pos':Pos} (i:Nat) (S:FnScope X.N ps sc) (he:PE X e te) (hi:X.N[i]? = some x:=by exact rfl) (hx:Loc X.env.scope x:=by exact Or.inl rfl) (hs:swapsWith e (some (.Name x pos')) pos.line X.env = pure false:=by rfl) (hf:X.fn x = true\/X.env.scope.names.lookup x = some .local:=by first | exact .inl rfl | exact .inr rfl | assumption):PS X (.Assign [.Name x pos'] e pos) (pF te (mJ i)):=dG S.nd hi hx he hs hf
theorem pM {X:Cx} {ps:List Str} {sc:Scope} {x:Str} {pos:Pos} (i:Nat) (S:FnScope X.N ps sc) (hi:X.N[i]? = some x:=by exact rfl) (hx:Loc X.env.scope x:=by exact Or.inl rfl) (hf:X.fn x = true\/X.env.scope.names.lookup x = some .local:=by first | exact .inl rfl | exact .inr rfl | assumption):PG X (.Name x pos) (mJ i):=Cw S.nd hi hx hf
theorem pD {X:Cx} {x:Str} {pos:Pos} (i:Nat) (N:List Str) (e:X.N = N:=by exact rfl) (hN:N.Nodup:=by decide) (hi:X.N[i]? = some x:=by exact rfl) (hx:Loc X.env.scope x:=by exact Or.inl rfl) (hf:X.fn x = true\/X.env.scope.names.lookup x = some .local:=by first | exact .inl rfl | exact .inr rfl | assumption):PG X (.Name x pos) (mJ i):=Cw (e ▸ hN) hi hx hf
theorem wH {X:Cx} {scope:Scope} {cl:List (Str × Addr)} {cap:List (Option Nat)} {NC:List Str} (a:closureFor scope X.env = pure cl) (b:scope.kind = .function:=by exact rfl) (c:∀ x∈scope.names,x.2 ≠ .cell:=by decide +kernel) (d:∀ x∈scope.names,x.2 = .local->scope.names.lookup x.1 = some .local:=by decide +kernel) (e:CapsOk X scope cl cap NC:=by exact trivial) (f:∀ p∈cl,X.env.cells.lookup p.1 = some p.2:=by exact fun _ h=>nomatch h) (g:((relabel scope X.env).names.all fun p=>(p.2 != .cell && p.2 != .free) || (cl.lookup p.1).isSome) = true:=by exact rfl):LcOk X scope cl cap NC:=⟨a,b,c,d,e,f,g⟩
local macro_rules | `(tactic| walk_at "l") => `(tactic| (intro _ _ _ h; repeat (first | (obtain ⟨e, _⟩ := h; subst e; rfl) | obtain ⟨_, h⟩ := h)))
set_option genInjectivity false in
structure Adr where
 a_qa:Addr
 d_qa:FuncData
 a_qb:Addr
 d_qb:FuncData
 a_qc:Addr
 d_qc:FuncData
 a_qd:Addr
 d_qd:FuncData
 a_qe:Addr
 d_qe:FuncData
 a_qf:Addr
 d_qf:FuncData
 a_qg:Addr
 d_qg:FuncData
 a_qh:Addr
 d_qh:FuncData
 a_qi:Addr
 d_qi:FuncData
 a_qj:Addr
 d_qj:FuncData
 a_qk:Addr
 d_qk:FuncData
 a_ql:Addr
 d_ql:FuncData
 a_qm:Addr
 d_qm:FuncData
 a_qn:Addr
 d_qn:FuncData
 a_qo:Addr
 d_qo:FuncData
 a_qp:Addr
 d_qp:FuncData
 a_qq:Addr
 d_qq:FuncData
 a_qr:Addr
 d_qr:FuncData
 a_qs:Addr
 d_qs:FuncData
 a_qt:Addr
 d_qt:FuncData
 a_qu:Addr
 d_qu:FuncData
 a_qv:Addr
 d_qv:FuncData
 a_qw:Addr
 d_qw:FuncData
 a_qx:Addr
 d_qx:FuncData
 a_qy:Addr
 d_qy:FuncData
 a_qz:Addr
 d_qz:FuncData
 a_qa1:Addr
 d_qa1:FuncData
 a_qb1:Addr
 d_qb1:FuncData
 a_qc1:Addr
 d_qc1:FuncData
 a_qd1:Addr
 d_qd1:FuncData
 a_qe1:Addr
 d_qe1:FuncData
 a_qf1:Addr
 d_qf1:FuncData
 a_qg1:Addr
 d_qg1:FuncData
 a_qh1:Addr
 d_qh1:FuncData
 a_qi1:Addr
 d_qi1:FuncData
 a_qj1:Addr
 d_qj1:FuncData
 a_qk1:Addr
 d_qk1:FuncData
 a_ql1:Addr
 d_ql1:FuncData
 a_qm1:Addr
 d_qm1:FuncData
 a_qn1:Addr
 d_qn1:FuncData
 a_qo1:Addr
 d_qo1:FuncData
 a_qp1:Addr
 d_qp1:FuncData
 a_qq1:Addr
 d_qq1:FuncData
 a_qr1:Addr
 d_qr1:FuncData
 a_qs1:Addr
 d_qs1:FuncData
 a_qt1:Addr
 d_qt1:FuncData
 a_qu1:Addr
 d_qu1:FuncData
 a_qv1:Addr
 d_qv1:FuncData
 a_qw1:Addr
 d_qw1:FuncData
 a_qx1:Addr
 d_qx1:FuncData
 a_qy1:Addr
 d_qy1:FuncData
 a_qz1:Addr
 d_qz1:FuncData
 a_qa2:Addr
 d_qa2:FuncData
 a_qb2:Addr
 d_qb2:FuncData
 a_qc2:Addr
 d_qc2:FuncData
 a_qd2:Addr
 d_qd2:FuncData
 a_qe2:Addr
 d_qe2:FuncData
 a_qf2:Addr
 d_qf2:FuncData
 x_MissError:Addr
 x_NoNumber:Addr
 x_NoMarks:Addr
 x_NoKind:Addr
 x_NoBend:Addr
 x_NoAnswer:Addr
 x_NoText:Addr
 x_NoName:Addr
 x_NoRow:Addr
 g_KINDS:Addr
 g_NOUGHT:Addr
 c_Desk:Addr
 g_COUNTS:Addr
 g_COUNTS_0:Addr
 g_COUNTS_1:Addr
 g_COUNTS_2:Addr
 g_COUNTS_3:Addr
 g_COUNTS_4:Addr
 g_COUNTS_5:Addr
 g_COUNTS_6:Addr
 g_COUNTS_7:Addr
def gE (A:Adr):Rn:=[("marks",.ref A.g_COUNTS_0,(.tuple [(.int 3),(.int 62)])),("drop",.ref A.g_COUNTS_1,(.tuple [(.int 2),(.int 2)])),("names",.ref A.g_COUNTS_2,(.tuple [(.int 1),(.int 1)])),("show",.ref A.g_COUNTS_3,(.tuple [(.int 2),(.int 2)])),("bend",.ref A.g_COUNTS_4,(.tuple [(.int 4),(.int 4)])),("rise",.ref A.g_COUNTS_5,(.tuple [(.int 3),(.int 3)])),("steps",.ref A.g_COUNTS_6,(.tuple [(.int 4),(.int 4)])),("judge",.ref A.g_COUNTS_7,(.tuple [(.int 4),(.int 63)]))]
structure Txt (K:W.Frag) (mg:Str->Option Value) (A:Adr):Prop where
 F_qa:Fd K mg "common_divisor" aAz A.a_qa A.d_qa ["one","other"]
 F_qb:Fd K mg "fraction" aAy A.a_qb A.d_qb ["top","bottom"]
 F_qc:Fd K mg "plus" aAx A.a_qc A.d_qc ["one","other"]
 F_qd:Fd K mg "minus" aAw A.a_qd A.d_qd ["one","other"]
 F_qe:Fd K mg "product" aAv A.a_qe A.d_qe ["one","other"]
 F_qf:Fd K mg "quotient" aAu A.a_qf A.d_qf ["one","other"]
 F_qg:Fd K mg "is_less" aAt A.a_qg A.d_qg ["one","other"]
 F_qh:Fd K mg "size_of" aAs A.a_qh A.d_qh ["one"]
 F_qi:Fd K mg "total_of" aAr A.a_qi A.d_qi ["some"]
 F_qj:Fd K mg "greatest_of" aAq A.a_qj A.d_qj ["some"]
 F_qk:Fd K mg "count_ahead" aAp A.a_qk A.d_qk ["marks","place"]
 F_ql:Fd K mg "marks_of" aAo A.a_ql A.d_ql ["some"]
 F_qm:Fd K mg "misses_of" aAn A.a_qm A.d_qm ["marks","row"]
 F_qn:Fd K mg "check_kind" aAm A.a_qn A.d_qn ["kind"]
 F_qo:Fd K mg "weighed_misses" aAl A.a_qo A.d_qo ["marks","row"]
 F_qp:Fd K mg "measured" aAk A.a_qp A.d_qp ["kind","marks","row"]
 F_qq:Fd K mg "least_level" aAj A.a_qq A.d_qq ["kind","marks"]
 F_qr:Fd K mg "bend_least" aAi A.a_qr A.d_qr ["kind","marks","bend"]
 F_qs:Fd K mg "is_bend" aAh A.a_qs A.d_qs ["bend"]
 F_qt:Fd K mg "stretch_cost" aAg A.a_qt A.d_qt ["kind","marks","first","last"]
 F_qu:Fd K mg "costs_to" aAf A.a_qu A.d_qu ["kind","marks","last"]
 F_qv:Fd K mg "all_costs" aAe A.a_qv A.d_qv ["kind","marks"]
 F_qw:Fd K mg "step_least" aAd A.a_qw A.d_qw ["kind","marks","k"]
 F_qx:Fd K mg "best_entry" aAc A.a_qx A.d_qx ["kind","costs","entries_ahead"]
 F_qy:Fd K mg "laid_row" aAb A.a_qy A.d_qy ["kind","marks","starts"]
 F_qz:Fd K mg "check_text" aAa A.a_qz A.d_qz ["text"]
 F_qa1:Fd K mg "is_figures" Lr A.a_qa1 A.d_qa1 ["text"]
 F_qb1:Fd K mg "read_whole" Lp A.a_qb1 A.d_qb1 ["text"]
 F_qc1:Fd K mg "read_fraction" Ln A.a_qc1 A.d_qc1 ["text"]
 F_qd1:Fd K mg "read_mark" Ll A.a_qd1 A.d_qd1 ["text"]
 F_qe1:Fd K mg "show_fraction" Li A.a_qe1 A.d_qe1 ["x"]
 F_qf1:Fd K mg "show_fractions" Lg A.a_qf1 A.d_qf1 ["some"]
 F_qg1:Fd K mg "show_mark" Le A.a_qg1 A.d_qg1 ["mark"]
 F_qh1:Fd K mg "show_marks" Ld A.a_qh1 A.d_qh1 ["some"]
 F_qi1:Fd K mg "words_of" Lc A.a_qi1 A.d_qi1 ["row"]
 F_qj1:Fd K mg "check_name" Lb A.a_qj1 A.d_qj1 ["word"]
 F_qk1:Fd K mg "bent_fit" La A.a_qk1 A.d_qk1 ["kind","marks","bend"]
 F_ql1:Fd K mg "parted" Kz A.a_ql1 A.d_ql1 ["parts"]
 F_qm1:Fd K mg "bend_answer" Ky A.a_qm1 A.d_qm1 ["kind","marks","bend"]
 F_qn1:Fd K mg "steps_answer" Kx A.a_qn1 A.d_qn1 ["kind","marks","k"]
 F_qo1:Fd K mg "judge_answer" Kw A.a_qo1 A.d_qo1 ["kind","marks","words"]
 F_qp1:Fd K mg "asked" Ku A.a_qp1 A.d_qp1 ["words","marks"]
 F_qq1:Fd K mg "_law_cell" Kt A.a_qq1 A.d_qq1 ["script","k"]
 F_qr1:Fd K mg "_law_mixed" Ks A.a_qr1 A.d_qr1 ["cell","k"]
 F_qs1:Fd K mg "_law_names" Kr A.a_qs1 A.d_qs1 ["cell"]
 F_qt1:Fd K mg "_law_form" Kq A.a_qt1 A.d_qt1 ["number","names","n"]
 F_qu1:Fd K mg "_law_kinds" Ko A.a_qu1 A.d_qu1 ["words"]
 F_qv1:Fd K mg "_law_bad" Kn A.a_qv1 A.d_qv1 ["kind","number"]
 F_qw1:Fd K mg "_law_spoilt" Km A.a_qw1 A.d_qw1 ["words","number"]
 F_qx1:Fd K mg "_law_counted" Kl A.a_qx1 A.d_qx1 ["words","number"]
 F_qy1:Fd K mg "_law_deed" Kk A.a_qy1 A.d_qy1 ["names","number","n"]
 F_qz1:Fd K mg "_law_drawn" Kj A.a_qz1 A.d_qz1 ["names","number","n"]
 F_qa2:Fd K mg "_law_refused" Lq A.a_qa2 A.d_qa2 ["desk","row","due"]
 F_qb2:Fun K "__init__" "Desk.__init__" Lo A.a_qb2 A.d_qb2
 M_qb2:Meth K A.c_Desk "__init__" A.a_qb2
 b_qb2:Binds K A.d_qb2 ["self"] []
 F_qc2:Fun K "say" "Desk.say" Lm A.a_qc2 A.d_qc2
 M_qc2:Meth K A.c_Desk "say" A.a_qc2
 b_qc2:Binds K A.d_qc2 ["self","row"] []
 F_qd2:Fun K "lay" "Desk.lay" Lj A.a_qd2 A.d_qd2
 M_qd2:Meth K A.c_Desk "lay" A.a_qd2
 b_qd2:Binds K A.d_qd2 ["self","name","words"] []
 F_qe2:Fun K "marks_by" "Desk.marks_by" Lh A.a_qe2 A.d_qe2
 M_qe2:Meth K A.c_Desk "marks_by" A.a_qe2
 b_qe2:Binds K A.d_qe2 ["self","name"] []
 F_qf2:Fd K mg "law" Lf A.a_qf2 A.d_qf2 ["script"]
 x_MissError:ExcCl K mg "MissError" A.x_MissError
 x_NoNumber:ExcCl K mg "NoNumber" A.x_NoNumber
 x_NoMarks:ExcCl K mg "NoMarks" A.x_NoMarks
 x_NoKind:ExcCl K mg "NoKind" A.x_NoKind
 x_NoBend:ExcCl K mg "NoBend" A.x_NoBend
 x_NoAnswer:ExcCl K mg "NoAnswer" A.x_NoAnswer
 x_NoText:ExcCl K mg "NoText" A.x_NoText
 x_NoName:ExcCl K mg "NoName" A.x_NoName
 x_NoRow:ExcCl K mg "NoRow" A.x_NoRow
 xk_NoRow:ExcK K A.x_NoRow
 xk_NoName:ExcK K A.x_NoName
 xk_NoText:ExcK K A.x_NoText
 xk_NoMarks:ExcK K A.x_NoMarks
 xk_NoNumber:ExcK K A.x_NoNumber
 xk_NoKind:ExcK K A.x_NoKind
 xk_NoBend:ExcK K A.x_NoBend
 e_NoRow_MissError:W.exmOne K (.ref A.x_NoRow) (.ref A.x_MissError) = some true
 e_NoName_MissError:W.exmOne K (.ref A.x_NoName) (.ref A.x_MissError) = some true
 e_NoText_MissError:W.exmOne K (.ref A.x_NoText) (.ref A.x_MissError) = some true
 e_NoMarks_MissError:W.exmOne K (.ref A.x_NoMarks) (.ref A.x_MissError) = some true
 e_NoNumber_MissError:W.exmOne K (.ref A.x_NoNumber) (.ref A.x_MissError) = some true
 e_NoKind_MissError:W.exmOne K (.ref A.x_NoKind) (.ref A.x_MissError) = some true
 e_NoBend_MissError:W.exmOne K (.ref A.x_NoBend) (.ref A.x_MissError) = some true
 k_NoRow_NoRow:W.kitOne K (.ref A.x_NoRow) (.ref A.x_NoRow) = some true
 k_NoRow_NoName:W.kitOne K (.ref A.x_NoRow) (.ref A.x_NoName) = some false
 k_NoRow_NoText:W.kitOne K (.ref A.x_NoRow) (.ref A.x_NoText) = some false
 k_NoRow_NoMarks:W.kitOne K (.ref A.x_NoRow) (.ref A.x_NoMarks) = some false
 k_NoRow_NoNumber:W.kitOne K (.ref A.x_NoRow) (.ref A.x_NoNumber) = some false
 k_NoRow_NoKind:W.kitOne K (.ref A.x_NoRow) (.ref A.x_NoKind) = some false
 k_NoRow_NoBend:W.kitOne K (.ref A.x_NoRow) (.ref A.x_NoBend) = some false
 k_NoRow_NoAnswer:W.kitOne K (.ref A.x_NoRow) (.ref A.x_NoAnswer) = some false
 k_NoName_NoRow:W.kitOne K (.ref A.x_NoName) (.ref A.x_NoRow) = some false
 k_NoName_NoName:W.kitOne K (.ref A.x_NoName) (.ref A.x_NoName) = some true
 k_NoName_NoText:W.kitOne K (.ref A.x_NoName) (.ref A.x_NoText) = some false
 k_NoName_NoMarks:W.kitOne K (.ref A.x_NoName) (.ref A.x_NoMarks) = some false
 k_NoName_NoNumber:W.kitOne K (.ref A.x_NoName) (.ref A.x_NoNumber) = some false
 k_NoName_NoKind:W.kitOne K (.ref A.x_NoName) (.ref A.x_NoKind) = some false
 k_NoName_NoBend:W.kitOne K (.ref A.x_NoName) (.ref A.x_NoBend) = some false
 k_NoName_NoAnswer:W.kitOne K (.ref A.x_NoName) (.ref A.x_NoAnswer) = some false
 k_NoText_NoRow:W.kitOne K (.ref A.x_NoText) (.ref A.x_NoRow) = some false
 k_NoText_NoName:W.kitOne K (.ref A.x_NoText) (.ref A.x_NoName) = some false
 k_NoText_NoText:W.kitOne K (.ref A.x_NoText) (.ref A.x_NoText) = some true
 k_NoText_NoMarks:W.kitOne K (.ref A.x_NoText) (.ref A.x_NoMarks) = some false
 k_NoText_NoNumber:W.kitOne K (.ref A.x_NoText) (.ref A.x_NoNumber) = some false
 k_NoText_NoKind:W.kitOne K (.ref A.x_NoText) (.ref A.x_NoKind) = some false
 k_NoText_NoBend:W.kitOne K (.ref A.x_NoText) (.ref A.x_NoBend) = some false
 k_NoText_NoAnswer:W.kitOne K (.ref A.x_NoText) (.ref A.x_NoAnswer) = some false
 k_NoMarks_NoRow:W.kitOne K (.ref A.x_NoMarks) (.ref A.x_NoRow) = some false
 k_NoMarks_NoName:W.kitOne K (.ref A.x_NoMarks) (.ref A.x_NoName) = some false
 k_NoMarks_NoText:W.kitOne K (.ref A.x_NoMarks) (.ref A.x_NoText) = some false
 k_NoMarks_NoMarks:W.kitOne K (.ref A.x_NoMarks) (.ref A.x_NoMarks) = some true
 k_NoMarks_NoNumber:W.kitOne K (.ref A.x_NoMarks) (.ref A.x_NoNumber) = some false
 k_NoMarks_NoKind:W.kitOne K (.ref A.x_NoMarks) (.ref A.x_NoKind) = some false
 k_NoMarks_NoBend:W.kitOne K (.ref A.x_NoMarks) (.ref A.x_NoBend) = some false
 k_NoMarks_NoAnswer:W.kitOne K (.ref A.x_NoMarks) (.ref A.x_NoAnswer) = some false
 k_NoNumber_NoRow:W.kitOne K (.ref A.x_NoNumber) (.ref A.x_NoRow) = some false
 k_NoNumber_NoName:W.kitOne K (.ref A.x_NoNumber) (.ref A.x_NoName) = some false
 k_NoNumber_NoText:W.kitOne K (.ref A.x_NoNumber) (.ref A.x_NoText) = some false
 k_NoNumber_NoMarks:W.kitOne K (.ref A.x_NoNumber) (.ref A.x_NoMarks) = some false
 k_NoNumber_NoNumber:W.kitOne K (.ref A.x_NoNumber) (.ref A.x_NoNumber) = some true
 k_NoNumber_NoKind:W.kitOne K (.ref A.x_NoNumber) (.ref A.x_NoKind) = some false
 k_NoNumber_NoBend:W.kitOne K (.ref A.x_NoNumber) (.ref A.x_NoBend) = some false
 k_NoNumber_NoAnswer:W.kitOne K (.ref A.x_NoNumber) (.ref A.x_NoAnswer) = some false
 k_NoKind_NoRow:W.kitOne K (.ref A.x_NoKind) (.ref A.x_NoRow) = some false
 k_NoKind_NoName:W.kitOne K (.ref A.x_NoKind) (.ref A.x_NoName) = some false
 k_NoKind_NoText:W.kitOne K (.ref A.x_NoKind) (.ref A.x_NoText) = some false
 k_NoKind_NoMarks:W.kitOne K (.ref A.x_NoKind) (.ref A.x_NoMarks) = some false
 k_NoKind_NoNumber:W.kitOne K (.ref A.x_NoKind) (.ref A.x_NoNumber) = some false
 k_NoKind_NoKind:W.kitOne K (.ref A.x_NoKind) (.ref A.x_NoKind) = some true
 k_NoKind_NoBend:W.kitOne K (.ref A.x_NoKind) (.ref A.x_NoBend) = some false
 k_NoKind_NoAnswer:W.kitOne K (.ref A.x_NoKind) (.ref A.x_NoAnswer) = some false
 k_NoBend_NoRow:W.kitOne K (.ref A.x_NoBend) (.ref A.x_NoRow) = some false
 k_NoBend_NoName:W.kitOne K (.ref A.x_NoBend) (.ref A.x_NoName) = some false
 k_NoBend_NoText:W.kitOne K (.ref A.x_NoBend) (.ref A.x_NoText) = some false
 k_NoBend_NoMarks:W.kitOne K (.ref A.x_NoBend) (.ref A.x_NoMarks) = some false
 k_NoBend_NoNumber:W.kitOne K (.ref A.x_NoBend) (.ref A.x_NoNumber) = some false
 k_NoBend_NoKind:W.kitOne K (.ref A.x_NoBend) (.ref A.x_NoKind) = some false
 k_NoBend_NoBend:W.kitOne K (.ref A.x_NoBend) (.ref A.x_NoBend) = some true
 k_NoBend_NoAnswer:W.kitOne K (.ref A.x_NoBend) (.ref A.x_NoAnswer) = some false
 k_NoRow_ValueError:W.kitOne K (.ref A.x_NoRow) (.type "ValueError") = some true
 k_NoName_ValueError:W.kitOne K (.ref A.x_NoName) (.type "ValueError") = some true
 k_NoText_ValueError:W.kitOne K (.ref A.x_NoText) (.type "ValueError") = some true
 k_NoMarks_ValueError:W.kitOne K (.ref A.x_NoMarks) (.type "ValueError") = some true
 k_NoNumber_ValueError:W.kitOne K (.ref A.x_NoNumber) (.type "ValueError") = some true
 k_NoKind_ValueError:W.kitOne K (.ref A.x_NoKind) (.type "ValueError") = some true
 k_NoBend_ValueError:W.kitOne K (.ref A.x_NoBend) (.type "ValueError") = some true
 n_ValueError:mg "ValueError" = none
 n_abs:mg "abs" = none
 n_all:mg "all" = none
 n_bool:mg "bool" = none
 n_enumerate:mg "enumerate" = none
 n_int:mg "int" = none
 n_isinstance:mg "isinstance" = none
 n_len:mg "len" = none
 n_list:mg "list" = none
 n_max:mg "max" = none
 n_min:mg "min" = none
 n_range:mg "range" = none
 n_sorted:mg "sorted" = none
 n_str:mg "str" = none
 n_zip:mg "zip" = none
 m_Desk:mg "Desk" = some (.ref A.c_Desk)
 cl_Desk:Cls K A.c_Desk
 mk_Desk:Mk K A.c_Desk A.a_qb2
 nA_Desk:NoAttr K A.c_Desk "kept"
 c_COUNTS:mg "COUNTS" = some (.ref A.g_COUNTS)
 c_FIGURES:∃ t,mg "FIGURES" = some (.str "0123456789" t)
 c_KINDS:mg "KINDS" = some (.ref A.g_KINDS)
 k_KINDS:∀ H:Hp,DV K H (.ref A.g_KINDS) (.tuple [(.str "far"),(.str "sum"),(.str "square")])
 c_LETTERS:∃ t,mg "LETTERS" = some (.str "abcdefghijklmnopqrstuvwxyz" t)
 c_MOST_BEND:∃ t,mg "MOST_BEND" = some (.int 3 t)
 c_MOST_FIGURES:∃ t,mg "MOST_FIGURES" = some (.int 40 t)
 c_MOST_LETTERS:∃ t,mg "MOST_LETTERS" = some (.int 8 t)
 c_MOST_MARKS:∃ t,mg "MOST_MARKS" = some (.int 60 t)
 c_MOST_NUMBERS:∃ t,mg "MOST_NUMBERS" = some (.int 4 t)
 c_MOST_STEPS:∃ t,mg "MOST_STEPS" = some (.int 59 t)
 c_NOUGHT:mg "NOUGHT" = some (.ref A.g_NOUGHT)
 k_NOUGHT:∀ H:Hp,DV K H (.ref A.g_NOUGHT) (.tuple [(.int 0),(.int 1)])
abbrev wY:=PyProof.Rows.boot_abs
abbrev cC:=PyProof.Rows.boot_isinstance
abbrev Bo:=PyProof.Rows.boot_int
abbrev Vo:=PyProof.Rows.boot_bool
abbrev Vn:=PyProof.Rows.boot_list
abbrev Hn:=Dl.boot_sorted
abbrev Qw:=PyProof.Rows.boot_min
abbrev aEs:=PyProof.Rows.boot_max
theorem tO:bootBuiltins "ValueError" = some (.type "ValueError"):=by decide +kernel
local macro_rules | `(tactic| walk_at "d") => `(tactic| (try simp only [Nx, Ap, Qo, Xs, Qk, Pt, aJm, Xc, aJi, Po, aJn, Pr, Pm, Qj, Pz, Qq, Pu, Xd, aJp, Xe, Xf, Pv, oH, sG, uI, Qi, Xb, Pn, uW, Qh, Er, Xo, iZ, slot, put, Vh, Ev, Qg, dC, dFz, Vj, Vi, Et, aJt, aKc, dOp, oI, oI0, oB0, oEq, oNe, aKb, aKf, nth, aEl, aCt, Ny, Tw, Nw, Qy, Qz, aEv, aJu, Qe, aEp, dCb, aFb, aEw, aEx, aEy, aEz, Es, Xn, Py, aKa, Xj, dSl, Xm, aEq, aKm, dOr, aJy, Xv, Xk, aKi, Xu, Qn, Qm, Eu, Xl, aJw, Xi, Qa, Xr, aKh, Bc, Pa, Be, Oz, aKl, Xg, Qp, iJ, sN, aEn, Qb, aEr, Qc, Xh, oX, aEj, aKg, isD, Bv, aKk, Qf, aKe, nox, aJs, Xq, aEm, aJx, Bh, Pb, Xp, d2, Xt, Ql, Gi, aFa, aJz, sP, Ts, mC, oQ, fM, Bool.and_true, Bool.true_and, Bool.and_self, Bool.not_true, Bool.not_false, true_and, and_true, decide_eq_true_eq, not_eq_true', decide_eq_false_iff_not, if_true, if_false, ite_true, ite_false, false_eq_true, Bool.true_eq_false, not_true_eq_false, not_false_eq_true, reduceCtorEq, length_cons, length_nil, length_map]))
local macro_rules | `(tactic| walk_at "s") => `(tactic| (walk_at "d"; refine jA ?_; walk_at "d"))
theorem wX:bootBuiltins "str" = some (.type "str"):=by decide +kernel
abbrev fr (q:Rat):PyData:=.tuple [.int q.num,.int (q.den:Int)]
theorem Rt {g:Nat} {b:Int} (h:g<=b.natAbs) (hb:Wee b):Wee (g:Int):=by
 unfold Wee at *
 omega
theorem Bt {b:Int} (hb:Wee b):Wee (-b):=by
 unfold Wee at *
 omega
theorem aKn {i j:Int} (h:decide (0<=j/\j<=1000000/\i.natAbs < 2 ^ 64) = true):aLc i j:=(of_decide_eq_true h:0<=j/\j<=1000000/\i.natAbs < 2 ^ 64)
theorem Ic {i:Int} (h:decide (i.natAbs < 2 ^ 8000) = true):Wee i:=(of_decide_eq_true h:i.natAbs < 2 ^ 8000)
theorem jG {i:Int} {n:Nat} (h:i.natAbs<=n) (hn:decide (n < 2 ^ 8000) = true):Wee i:=lt_of_le_of_lt h (of_decide_eq_true hn)
theorem sU {i j:Int} (h:decide (0 < j/\j.natAbs < 2 ^ 8000) = true):Fe i j:=(of_decide_eq_true h:0 < j/\j.natAbs < 2 ^ 8000)
theorem Ve (t:Int):divInt t 1 = (t:Rat):=(Fm.eq_divInt (by decide) (by simp)).symm
structure Ok (q:Rat):Prop where
 n:Wee q.num
 d:Wee (q.den:Int)
theorem iD {g b:Nat} (h:g<=b) (hb:Wee (b:Int)):Wee (g:Int):=by
 unfold Wee at *
 omega
theorem aEh (q:Rat):(0:Int) < (q.den:Int):=by have:=q.den_nz; omega
theorem okS {q:Rat} {N:Nat} (h:Fm.Sz N q) (hN:decide (N < 2 ^ 8000) = true):Ok q:=⟨jG h.n hN,jG (n:=N) (by have:=h.d; omega) hN⟩
theorem Ux (q:Rat):oQ (fr q) = true:=rfl
theorem oP:∀ qs:List Rat,fM (qs.map fr) = true
 | []=>rfl
 | q :: qs=>by
  have:=oP qs;simp only [map_cons,fM,Ux,this,Bool.and_self]
variable {P:Program} {w:World} {K:W.Frag} {mg:Str->Option Value} {base:Heap} {A:Adr}
def aLr:DW:=fun ds Q _=>∃ a b:Int,ds = [.int a,.int b]/\0<=a/\0<=b/\Q (.dat (.int ((Int.gcd a b:Nat):Int)))
theorem Nv (T:Txt K mg A):FnOk P w K mg base (eA P w) 1 A.a_qa A.d_qa ["one","other"] (fO K aLr):=by
 refine gM T.F_qa.F Co (by walk_at "l") fun cdv Ar outer s H E hr=>?_
 refine ⟨_,(aJ (yK PassesOwn.leaving (aX kN (pv 1) aS (bK _)) (aJ (eY 2 Co (aU cQ (pv 0) (pv 1)))
   (aJ (eY 0 Co (pv 1))
   (aM (eY 1 Co (pv 2))))))
   (aM (aY (pv 0)))),_,(aR (xT (bB (aB (aQ Lw (aG 1) (aB aP)))) (aR (bO (aQ gP (aG 0) (aG 1)) (aO 2))
   (aR (bO (aV 1) (aO 0))
   (bO (aV 2) (aO 1)))))
   (jX 0)),?_⟩
 rintro ds Q X ⟨a,b,rfl,ha,hb,k⟩;walk_at "s";refine ⟨fun m δ=>∃ x y r,δ = [some (.dat (.int x)),some (.dat (.int y)),r]/\m = y.toNat/\0<=x/\0<=y/\Int.gcd x y = Int.gcd a b,⟨_,a,b,none,rfl,rfl,ha,hb,rfl⟩,?_⟩;rintro m δ ⟨x,y,r,rfl,rfl,hx,hy,hg⟩;walk_at "d";refine bS (fun c=>?_) (fun c=>?_)
 ·have hy0:y ≠ 0:=c;have hp:0 < y:=by omega
  walk_at "s";refine ⟨hp,?_⟩;walk_at "s";walk_at "d";refine ⟨_,?_,y,x % y,_,rfl,rfl,hy,emod_nonneg _ hy0,?_⟩
  ·have:=emod_lt_of_pos x hp;have:=emod_nonneg x hy0;omega
  ·rw [Fm.gcd_step x y hp,hg]
 ·have hy0:y = 0:=Decidable.not_not.mp c;subst hy0;rw [<- hg,Fm.gcd_zero hx] at k;exact k
def Fh (C:Addr):DW:=fun ds Q X=>∃ t b:Int,ds = [.int t,.int b]/\Wee b/\(b = 0->X C)/\(b ≠ 0->Q (.dat (fr (divInt t b))))
theorem Di (T:Txt K mg A):FnOk P w K mg base (eA P w) 2 A.a_qb A.d_qb ["top","bottom"] (fO K (Fh A.x_NoNumber)):=by
 refine gM T.F_qb.F Ki (by walk_at "l") fun cdv Ar outer s H E hr=>?_
 refine ⟨_,(aJ (bV (aX cZ (pv 1) aS (bK _)) (aM (cP T.x_NoNumber hr.hd bM rfl (aA aF aE))) bA)
   (aJ (eY 2 Ki (dQ (Nv T) hr T.F_qa bF (aA (bI oZ rfl T.n_abs wY (aA (pv 0) aE)) (aA (bI oZ rfl T.n_abs wY (aA (pv 1) aE)) aE))))
   (aJ (bV (aX mG (pv 1) aS (bK _)) (aM (eY 2 Ki (Cy vE (pv 2)))) bA)
   (aM (aY (fK (aA (aU yP (pv 0) (pv 2)) (aA (aU yP (pv 1) (pv 2)) aE)))))))),_,(aR (cD (bB (aB (aQ cY (aG 1) (aB aP)))) (cN (aC aI aW) (by decide)) bL)
   (aR (bO (bE (aH (aB (cI vS (aH (aG 0) aN))) (aH (aB (cI vS (aH (aG 1) aN))) aN))) (aO 2))
   (cO (cD (bB (aB (aQ fX (aG 1) (aB aP)))) (bO (wN (aG 2)) (aO 2)) bL)
   (bG (aB (fN (aC (aQ gP (aG 0) (aG 2)) (aC (aQ gP (aG 1) (aG 2)) aW)) (by decide))))))),?_⟩
 rintro ds Q X ⟨t,b,rfl,hw,k0,k1⟩;walk_at "s";refine bS (fun c=>?_) (fun c=>?_)
 ·exact k0 c
 have hb:b ≠ 0:=c;have kq:=k1 hb;walk_at "s";refine ⟨_,_,rfl,by rw [Fm.abs_if]; omega,by rw [Fm.abs_if]; omega,?_⟩;have eg:Int.gcd (if t < 0 then -t else t) (if b < 0 then -b else b) = Int.gcd t b:=by
  rw [Fm.abs_if,Fm.abs_if];simp [Int.gcd]
 rw [eg];walk_at "d";refine ?_;have h1:=Fm.gcd_pos_right (a:=t) hb;have h2:=Rt (Fm.gcd_le_right (a:=t) hb) hw;refine cT (fun δ=>δ = [some (.dat (.int t)),some (.dat (.int b)),some (.dat (.int (if b < 0 then -((Int.gcd t b:Nat):Int) else ((Int.gcd t b:Nat):Int))))]) ?_ ?_
 ·walk_at "d";refine bS (fun c2=>?_) (fun c2=>?_)
  ·rw [if_pos c2]
  ·rw [if_neg c2]
 ·rintro δ rfl;walk_at "d";have hg:(if b < 0 then -((Int.gcd t b:Nat):Int) else ((Int.gcd t b:Nat):Int)) ≠ 0:=by split <;> omega
  have hg2:Wee (if b < 0 then -((Int.gcd t b:Nat):Int) else ((Int.gcd t b:Nat):Int)):=by
   split
   ·exact Bt h2
   ·exact h2
  refine ⟨⟨hg,hg2⟩,⟨hg,hg2⟩,?_⟩;rw [Fm.fr_num hb,Fm.fr_den hb];exact kq
def Yd (f:Rat->Rat->Rat):DW:=fun ds Q _=>∃ a b:Rat,ds = [fr a,fr b]/\Ok a/\Ok b/\Q (.dat (fr (f a b)))
theorem Wr (T:Txt K mg A):FnOk P w K mg base (eA P w) 2 A.a_qc A.d_qc ["one","other"] (fO K (Yd (· + ·))):=by
 refine gM T.F_qc.F yE (by walk_at "l") fun cdv Ar outer s H E hr=>?_
 refine ⟨_,(aJ (eY 2 yE (dQ (Nv T) hr T.F_qa bF (aA (fY (K:=K) rfl (pv 0)) (aA (fY (K:=K) rfl (pv 1)) aE))))
   (aJ (eY 3 yE (aU dN (fY (K:=K) rfl (pv 0)) (pv 2)))
   (aJ (eY 4 yE (aU fL (aU eI (fY (K:=K) rfl (pv 0)) (aU dN (fY (K:=K) rfl (pv 1)) (pv 2))) (aU eI (fY (K:=K) rfl (pv 1)) (pv 3))))
   (aJ (eY 5 yE (dQ (Nv T) hr T.F_qa bF (aA (pv 2) (aA (bI oZ rfl T.n_abs wY (aA (pv 4) aE)) aE))))
   (aM (aY (fK (aA (aU dN (pv 4) (pv 5)) (aA (aU eI (pv 3) (aU dN (fY (K:=K) rfl (pv 1)) (pv 5))) aE))))))))),_,(aR (bO (bE (aH (aB (bR 1 (aV 0))) (aH (aB (bR 1 (aV 1))) aN))) (aO 2))
   (aR (bO (aQ gP (aB (bR 1 (aV 0))) (aG 2)) (aO 3))
   (aR (bO (aQ eU (aB (aQ gP (aB (bR 0 (aV 0))) (aB (aQ gP (aB (bR 1 (aV 1))) (aG 2))))) (aB (aQ gP (aB (bR 0 (aV 1))) (aG 3)))) (aO 4))
   (aR (bO (bE (aH (aG 2) (aH (aB (cI vS (aH (aG 4) aN))) aN))) (aO 5))
   (bG (aB (fN (aC (aQ gP (aG 4) (aG 5)) (aC (aQ gP (aG 3) (aB (aQ gP (aB (bR 1 (aV 1))) (aG 5)))) aW)) (by decide)))))))),?_⟩
 rintro ds Q X ⟨a,b,rfl,oa,ob,k⟩;have s0:0 < a.den.gcd b.den:=gcd_pos_of_pos_left _ (pos_of_ne_zero a.den_nz);have sw:Wee ((a.den.gcd b.den:Nat):Int):=iD (le_of_dvd (pos_of_ne_zero a.den_nz) (gcd_dvd_left _ _)) oa.d;walk_at "s";refine ⟨_,_,rfl,by omega,by omega,?_⟩;rw [Int.gcd_natCast_natCast];generalize hs:a.den.gcd b.den = sh at s0 sw ⊢;walk_at "d";refine ?_;walk_at "s";refine ⟨⟨by omega,sw⟩,?_⟩;rw [<- natCast_ediv];walk_at "s";refine ⟨⟨by omega,sw⟩,?_⟩;rw [<- natCast_ediv];refine ⟨iV oa.n (iD (div_le_self _ _) ob.d),iV ob.n (iD (div_le_self _ _) oa.d),?_⟩;generalize ht:a.num * ((b.den / sh:Nat):Int) + b.num * ((a.den / sh:Nat):Int) = tp;walk_at "s";refine ⟨_,_,rfl,by omega,by rw [Fm.abs_if]; omega,?_⟩;rw [Fm.abs_if,Int.gcd_natCast_natCast];generalize hg:sh.gcd tp.natAbs = g;have g0:0 < g:=by rw [<- hg]; exact gcd_pos_of_pos_left _ s0
 have gw:Wee (g:Int):=iD (by rw [<- hg]; exact le_of_dvd s0 (gcd_dvd_left _ _)) sw;walk_at "d";refine ?_;obtain ⟨e1,e2⟩:=Fm.add_parts a b sh hs.symm tp ht.symm g hg.symm;walk_at "d";refine ⟨⟨by omega,gw⟩,⟨by omega,gw⟩,iV (iD (div_le_self _ _) oa.d) (by rw [<- natCast_ediv]; exact iD (div_le_self _ _) ob.d),?_⟩;rw [<- natCast_ediv,<- Int.natCast_mul,<- e1,<- e2];exact k
theorem aIj (T:Txt K mg A):FnOk P w K mg base (eA P w) 3 A.a_qd A.d_qd ["one","other"] (fO K (Yd (· - ·))):=by
 refine gM T.F_qd.F aHl (by walk_at "l") fun cdv Ar outer s H E hr=>?_;refine ⟨_,(aM (aY (dQ (Wr T) hr T.F_qc bF (aA (pv 0) (aA (fK (aA (Cy vE (fY (K:=K) rfl (pv 1))) (aA (fY (K:=K) rfl (pv 1)) aE))) aE))))),_,(bG (aB (bE (aH (aG 0) (aH (aB (fN (aC (wN (aB (bR 0 (aV 1)))) (aC (bR 1 (aV 1)) aW)) (by decide))) aN))))),?_⟩;rintro ds Q X ⟨a,b,rfl,oa,ob,k⟩;walk_at "d";refine ⟨a,-b,rfl,oa,⟨Bt ob.n,ob.d⟩,rfl,?_⟩;dsimp only;rw [<- Rat.sub_eq_add_neg];exact k
theorem Dh (T:Txt K mg A):FnOk P w K mg base (eA P w) 3 A.a_qe A.d_qe ["one","other"] (fO K (Yd (· * ·))):=by
 refine gM T.F_qe.F Kg (by walk_at "l") fun cdv Ar outer s H E hr=>?_
 refine ⟨_,(aJ (eY 2 Kg (dQ (Di T) hr T.F_qb bF (aA (fY (K:=K) rfl (pv 0)) (aA (fY (K:=K) rfl (pv 1)) aE))))
   (aJ (eY 3 Kg (dQ (Di T) hr T.F_qb bF (aA (fY (K:=K) rfl (pv 1)) (aA (fY (K:=K) rfl (pv 0)) aE))))
   (aM (aY (fK (aA (aU eI (fY (K:=K) rfl (pv 2)) (fY (K:=K) rfl (pv 3))) (aA (aU eI (fY (K:=K) rfl (pv 2)) (fY (K:=K) rfl (pv 3))) aE))))))),_,(aR (bO (bE (aH (aB (bR 0 (aV 0))) (aH (aB (bR 1 (aV 1))) aN))) (aO 2))
   (aR (bO (bE (aH (aB (bR 0 (aV 1))) (aH (aB (bR 1 (aV 0))) aN))) (aO 3))
   (bG (aB (fN (aC (aQ gP (aB (bR 0 (aV 2))) (aB (bR 0 (aV 3)))) (aC (aQ gP (aB (bR 1 (aV 2))) (aB (bR 1 (aV 3)))) aW)) (by decide)))))),?_⟩
 rintro ds Q X ⟨a,b,rfl,oa,ob,k⟩;have z1:((b.den:Nat):Int) ≠ 0:=by have:=b.den_nz; omega
 have z2:((a.den:Nat):Int) ≠ 0:=by have:=a.den_nz; omega
 obtain ⟨e1,e2⟩:=Fm.mul_parts a b;walk_at "s";refine ⟨_,_,rfl,ob.d,fun z=>absurd z z1,fun _=>?_⟩;walk_at "s";refine ⟨_,_,rfl,oa.d,fun z=>absurd z z2,fun _=>?_⟩;have n1:=Fm.num_le a.num z1;have n2:=Fm.den_le a.num z1;have n3:=Fm.num_le b.num z2;have n4:=Fm.den_le b.num z2;have w1:=oa.n; have w2:=oa.d; have w3:=ob.n; have w4:=ob.d
 walk_at "d";refine ⟨iV (by unfold Wee at *; omega) (by unfold Wee at *; omega),iV (by unfold Wee at *; omega) (by unfold Wee at *; omega),?_⟩;rw [<- Int.natCast_mul,<- e1,<- e2];exact k
def aGd:DW:=fun ds Q _=>∃ a b:Rat,ds = [fr a,fr b]/\Ok a/\Ok b/\Q (.dat (.bool (decide (a < b))))
theorem Wq (T:Txt K mg A):FnOk P w K mg base (eA P w) 1 A.a_qg A.d_qg ["one","other"] (fO K aGd):=by
 refine gM T.F_qg.F aHj (by walk_at "l") fun cdv Ar outer s H E hr=>?_;refine ⟨_,(aM (aY (nV mG (aU eI (fY (K:=K) rfl (pv 0)) (fY (K:=K) rfl (pv 1))) (aU eI (fY (K:=K) rfl (pv 1)) (fY (K:=K) rfl (pv 0))) (bK _)))),_,(bG (aB (aQ fX (aB (aQ gP (aB (bR 0 (aV 0))) (aB (bR 1 (aV 1))))) (aB (aQ gP (aB (bR 0 (aV 1))) (aB (bR 1 (aV 0)))))))),?_⟩;rintro ds Q X ⟨a,b,rfl,oa,ob,k⟩;walk_at "d";refine ⟨iV oa.n ob.d,iV ob.n oa.d,?_⟩;have e:decide (a.num * (b.den:Int) < b.num * (a.den:Int)) = decide (a < b):=by
  rw [decide_eq_decide]; exact Fm.less_iff a b
 rw [e];exact k
def aFz (C:Addr):DW:=fun ds Q X=>∃ a b:Rat,ds = [fr a,fr b]/\Ok a/\Ok b/\(b = 0->X C)/\(b ≠ 0->Q (.dat (fr (a / b))))
theorem aIi (T:Txt K mg A):FnOk P w K mg base (eA P w) 4 A.a_qf A.d_qf ["one","other"] (fO K (aFz A.x_NoNumber)):=by
 refine gM T.F_qf.F aHk (by walk_at "l") fun cdv Ar outer s H E hr=>?_
 refine ⟨_,(aJ (bV (aX cZ (fY (K:=K) rfl (pv 1)) aS (bK _)) (aM (cP T.x_NoNumber hr.hd bM rfl (aA aF aE))) bA)
   (aM (aY (dQ (Dh T) hr T.F_qe bF (aA (pv 0) (aA (dQ (Di T) hr T.F_qb bF (aA (fY (K:=K) rfl (pv 1)) (aA (fY (K:=K) rfl (pv 1)) aE))) aE)))))),_,(aR (cD (bB (aB (aQ cY (aB (bR 0 (aV 1))) (aB aP)))) (cN (aC aI aW) (by decide)) bL)
   (bG (aB (bE (aH (aG 0) (aH (aB (bE (aH (aB (bR 1 (aV 1))) (aH (aB (bR 0 (aV 1))) aN)))) aN)))))),?_⟩
 rintro ds Q X ⟨a,b,rfl,oa,ob,k0,k1⟩;walk_at "s";refine bS (fun c=>?_) (fun c=>?_)
 ·exact k0 (Rat.num_eq_zero.mp c)
 ·have c2:b.num ≠ 0:=c;have hb:b ≠ 0:=fun z=>c2 (by rw [z]; rfl);walk_at "d";refine ⟨_,_,rfl,ob.n,fun z=>absurd z c2,fun _=>⟨rfl,a,b⁻¹,?_,oa,?_,rfl,?_⟩⟩
  ·rw [Fm.div_inv]
  ·rw [<- Fm.div_inv];have n1:=Fm.num_le (b.den:Int) c2;have n2:=Fm.den_le (b.den:Int) c2;have w3:=ob.n; have w4:=ob.d
   exact ⟨by unfold Wee at *; omega,by unfold Wee at *; omega⟩
  ·dsimp only;rw [<- Rat.div_def];exact k1 hb
theorem Vr {α β:Type} (f:α->β) (xs:List α) (i:Int):lA (xs.map f) i = (lA xs i).map f:=by
 unfold lA;rw [length_map];cases Hv xs.length i with
 | none=>rfl
 | some j=>exact getElem?_map
theorem aKo {α:Type} [Inhabited α] {xs:List α} {k:Int} (h0:0<=k) (h1:k < (xs.length:Int)):lA xs k = some (xs.getD k.toNat default):=by
 have e:k = ((k.toNat:Nat):Int):=by omega
 have hl:k.toNat < xs.length:=by omega
 conv=>lhs; rw [e]
 refine cW ?_;rw [getElem?_eq_getElem hl];simp [getD,hl]
theorem aFd {α β:Type} [Inhabited α] (f:α->β) {xs:List α} {k:Int} (h0:0<=k) (h1:k < (xs.length:Int)):lA (xs.map f) k = some (f (xs.getD k.toNat default)):=by
 rw [Vr,aKo h0 h1]; rfl
theorem getD_mem' {α:Type} [Inhabited α] {xs:List α} {j:Nat} (h:j < xs.length):xs.getD j default∈xs:=by
 have e:xs.getD j default = xs[j]:=by simp [getD,h]
 rw [e]; exact getElem_mem h
theorem Pd {α:Type} [Inhabited α] {xs:List α} {j:Nat} {p:α->Prop} (h:∀ v∈xs,p v) (h0:p default):p (xs.getD j default):=by
 by_cases hj:j < xs.length
 ·exact h _ (getD_mem' hj)
 ·have e:xs.getD j default = default:=by simp [getD,hj]
  rw [e]; exact h0
def Ff (C:Addr):DW:=fun ds Q X=>∃ qs:List Rat,ds = [.list (qs.map fr)]/\(∀ q∈qs,Ok q)/\(qs = []->X C)/\∀ q∈qs,(∀ r∈qs,r<=q)->Q (.dat (fr q))
theorem aIh (T:Txt K mg A):FnOk P w K mg base (eA P w) 2 A.a_qj A.d_qj ["some"] (fO K (Ff A.x_NoNumber)):=by
 refine gM T.F_qj.F Cl (by walk_at "l") fun cdv Ar outer s H E hr=>?_
 refine ⟨_,(aJ (bV (aX cZ (bI (lQ (K:=K) rfl) rfl T.n_len boot_len (aA (pv 0) aE)) aS (bK _)) (aM (cP T.x_NoNumber hr.hd bM rfl (aA aF aE))) bA)
   (aJ (eY 1 Cl (xE (K:=K) rfl (pv 0)))
   (aJ (kE PassesOwn.leaving rfl (kS (K:=K) rfl (pv 0)) (pM 2 Cl)
    (aM (bV (gU (dQ (Wq T) hr T.F_qg bF (aA (pv 1) (aA (pv 2) aE)))) (aM (eY 1 Cl (pv 2))) bA)))
   (aM (aY (pv 1)))))),_,(aR (cD (bB (aB (aQ cY (aB (cI eV (aH (aG 0) aN))) (aB aP)))) (cN (aC aI aW) (by decide)) bL)
   (aR (bO (cB (bN 0) (aB aP)) (aO 1))
   (aR (pG (wI (aV 0)) (aO 2)
    (cD (tF (aB (bE (aH (aG 1) (aH (aG 2) aN))))) (bO (aV 2) (aO 1)) bL))
   (jX 1)))),?_⟩
 rintro ds Q X ⟨qs,rfl,ho,k0,k⟩;walk_at "s";rcases qs with _ | ⟨q0,qs⟩
 ·rw [if_pos (by simp)];exact k0 rfl
 rw [if_neg (by simp; omega)];walk_at "s";refine ⟨fr q0,cW (j:=0) rfl,jA (qV fr (q0 :: qs) (fun Q h=>h) (fun i δ=>∃ q r,δ = [some (.dat (.list ((q0 :: qs).map fr))),some (.dat (fr q)),r]/\q∈q0 :: qs/\∀ j r,j < i->(q0 :: qs)[j]? = some r->r<=q) ⟨q0,none,rfl,mem_cons_self,fun j r hj=>absurd hj (Nat.not_lt_zero _)⟩ ?_ ?_)⟩
 ·rintro i q1 δ hi ⟨q,r,rfl,hq,hle⟩;walk_at "d";refine ⟨q,q1,rfl,ho q hq,ho q1 (mem_of_getElem? hi),?_⟩;walk_at "d";have up:∀ z,q<=z->q1<=z->∀ j r,j < i + 1->(q0 :: qs)[j]? = some r->r<=z:=fun z h1 h2 j r hj e=>by
   by_cases hji:j = i
   ·subst hji;rw [hi] at e;cases e;exact h2
   ·exact Rat.le_trans (hle j r (by omega) e) h1
  refine bS (fun c=>?_) (fun c=>?_)
  ·exact ⟨q1,_,rfl,mem_of_getElem? hi,up q1 (by grind) Rat.le_refl⟩
  ·exact ⟨q,_,rfl,hq,up q Rat.le_refl (Rat.not_lt.mp c)⟩
 ·rintro δ ⟨q,r,rfl,hq,hle⟩;walk_at "d";refine k q hq fun r hr'=>?_;obtain ⟨j,hj⟩:=List.getElem?_of_mem hr';exact hle j r (List.getElem?_eq_some_iff.mp hj).1 hj
def tot:List Rat->Rat
 | []=>0
 | q :: qs=>q + tot qs
theorem Bx:∀ (a b:List Rat),tot (a ++ b) = tot a + tot b
 | [],b=>by simp [tot,Rat.zero_add]
 | q :: a,b=>by
  show q + tot (a ++ b) = q + tot a + tot b;rw [Bx a b,Rat.add_assoc]
theorem Iy (qs:List Rat) (q:Rat):tot (qs ++ [q]) = tot qs + q:=by
 rw [Bx];simp [tot,add_zero]
theorem Fp {α:Type} {xs:List α} {i:Nat} {x:α} (h:xs[i]? = some x):xs.take (i + 1) = xs.take i ++ [x]:=by
 rw [take_add_one,h]; rfl
def Ye:DW:=fun ds Q _=>∃ qs:List Rat,ds = [.list (qs.map fr)]/\(∀ q∈qs,Ok q)/\(∀ i,Ok (tot (qs.take i)))/\Q (.dat (fr (tot qs)))
theorem Df (T:Txt K mg A):FnOk P w K mg base (eA P w) 3 A.a_qi A.d_qi ["some"] (fO K Ye):=by
 refine gM T.F_qi.F Cn (by walk_at "l") fun cdv Ar outer s H E hr=>?_
 refine ⟨_,(aJ (eY 1 Cn (dL rfl T.c_NOUGHT (show RelV (.ref _) (.ref _) from rfl)))
   (aJ (kE PassesOwn.leaving rfl (kS (K:=K) rfl (pv 0)) (pM 2 Cn)
    (aM (eY 1 Cn (dQ (Wr T) hr T.F_qc bF (aA (pv 1) (aA (pv 2) aE))))))
   (aM (aY (pv 1))))),_,(aR (bO (He T.k_NOUGHT) (aO 1))
   (aR (pG (wI (aV 0)) (aO 2)
    (bO (bE (aH (aG 1) (aH (aG 2) aN))) (aO 1)))
   (jX 1))),?_⟩
 rintro ds Q X ⟨qs,rfl,ho,ht,k⟩;walk_at "s";refine ?_;refine jA (qV fr qs (fun Q h=>h) (fun i δ=>∃ r,δ = [some (.dat (.list (qs.map fr))),some (.dat (fr (tot (qs.take i)))),r]) ⟨none,rfl⟩ ?_ ?_)
 ·rintro i q δ hi ⟨r,rfl⟩;walk_at "d";refine ⟨_,q,rfl,ht i,ho q (mem_of_getElem? hi),?_⟩;walk_at "d";exact ⟨_,by rw [Fp hi,Iy]⟩
 ·rintro δ ⟨r,rfl⟩;walk_at "d";rw [take_of_length_le (le_refl _)];exact k
theorem cE {α β:Type} (f:α->β):∀ xs:List α,xs.flatMap (fun x=>[f x]) = xs.map f
 | []=>rfl
 | x :: xs=>by simp [cE f xs]
abbrev Mk:=Rat × Rat × Int
abbrev eF (m:Mk):PyData:=.tuple [fr m.1,fr m.2.1,.int m.2.2]
theorem yT:∀ ms:List Mk,fM (ms.map eF) = true
 | []=>rfl
 | m :: ms=>by
  have:=yT ms;simp only [map_cons,fM,oQ,this,Bool.and_self]
def Bg (n:Nat) (v:Int):Prop:=v.natAbs < 2 ^ n
theorem Bg.bits {n:Nat} {v:Int} (h:Bg n v):Builtin.Int.intBits v<=n:=Fa h
theorem Bg.of {n:Nat} {v:Int} (h:Builtin.Int.intBits v<=n):Bg (n + 1) v:=by
 unfold Bg;by_cases h0:v = 0
 ·subst h0; exact Nat.two_pow_pos _
 ·unfold Builtin.Int.intBits at h;rw [if_neg (by simpa using h0)] at h;exact (log2_lt (by omega)).mp (by omega)
theorem Bg.mono {n m:Nat} {v:Int} (h:Bg n v) (l:n<=m):Bg m v:=lt_of_lt_of_le h (pow_le_pow_right (by decide) l)
theorem Bg.add {n:Nat} {a b:Int} (ha:Bg n a) (hb:Bg n b):Bg (n + 1) (a + b):=by
 unfold Bg at *
 rw [pow_succ];have:=Int.natAbs_add_le a b;omega
theorem Bg.small {n:Nat} {a:Int} (h:a.natAbs < 2 ^ 64) (hn:64<=n):Bg n a:=lt_of_lt_of_le h (pow_le_pow_right (by decide) hn)
open Fm
theorem zO {n:Nat} {q:Rat} (h:Dg n q) (l:n<=2400):Ok q:=okS (h.mono l) (by decide +kernel)
theorem Yy {n:Nat} {i:Int} (h:i.natAbs<=10 ^ n) (l:n<=2400):Wee i:=jG (le_trans h (Iz l)) (by decide +kernel)
theorem jP {α β:Type} (f:α->PyData) (g:β->PyData):∀ (xs:List α) (ys:List β),pairD (xs.map f) (ys.map g) = (xs.zip ys).map fun p=>PyData.tuple [f p.1,g p.2]
 | [],_=>by simp [Dl.pairD]
 | x :: xs,[]=>by simp [Dl.pairD]
 | x :: xs,y :: ys=>by
  have:=jP f g xs ys;simp [Dl.pairD,this]
theorem nG {α β γ:Type} (f:α->β->γ):∀ (xs:List α) (ys:List β),((xs.zip ys).map fun p=>f p.1 p.2) = zipWith f xs ys
 | [],_=>by simp
 | x :: xs,[]=>by simp
 | x :: xs,y :: ys=>by simp [nG f xs ys]
theorem qP {α β:Type} {p:α->Prop} {q:β->Prop}:∀ {xs:List α} {ys:List β},(∀ x∈xs,p x)->(∀ y∈ys,q y)->∀ z∈xs.zip ys,p z.1/\q z.2:=fun {xs ys} h1 h2 z hz=>by
 have:=of_mem_zip (a:=z.1) (b:=z.2) hz;exact ⟨h1 _ this.1,h2 _ this.2⟩
theorem lB {α β γ:Type} {f:α->β->γ} {p:α->Prop} {q:β->Prop} {r:γ->Prop} {xs:List α} {ys:List β} (h1:∀ x∈xs,p x) (h2:∀ y∈ys,q y) (h:∀ x y,p x->q y->r (f x y)):∀ z∈zipWith f xs ys,r z:=fun z hz=>by
 rw [<- nG] at hz;obtain ⟨w,hw,rfl⟩:=mem_map.mp hz;have:=qP h1 h2 w hw;exact h _ _ this.1 this.2
def iW (ms:List Mk) (row:List Rat):List Rat:=zipWith (fun (m:Mk) h=>m.2.1 - h) ms row
def fB (ms:List Mk) (row:List Rat):List Rat:=zipWith (fun (m:Mk) x=>(m.2.2:Rat) * x) ms (iW ms row)
def Ht (ms:List Mk) (row:List Rat):List Rat:=zipWith (fun a b=>a * b) (fB ms row) (iW ms row)
def qM:List Rat->Rat
 | []=>0
 | x :: xs=>if qM xs < x then x else qM xs
theorem Dp:∀ xs:List Rat,0<=qM xs
 | []=>Rat.le_refl
 | x :: xs=>by
  have:=Dp xs;unfold qM;split
  ·grind
  ·exact this
theorem Dq:∀ {xs:List Rat},∀ x∈xs,x<=qM xs
 | y :: xs,x,h=>by
  have ih:=@Dq xs;unfold qM;rcases mem_cons.mp h with rfl | h
  ·split
   ·exact Rat.le_refl
   ·exact Rat.not_lt.mp ‹_›
  ·have:=ih x h;split
   ·grind
   ·exact this
theorem sB:∀ {xs:List Rat},qM xs = 0\/qM xs∈xs
 | []=>.inl rfl
 | x :: xs=>by
  unfold qM;split
  ·exact .inr mem_cons_self
  ·rcases @sB xs with h | h
   ·exact .inl h
   ·exact .inr (mem_cons_of_mem _ h)
theorem Ue {xs:List Rat} {m:Rat} (h0:0<=m) (h1:m = 0\/m∈xs) (h2:∀ x∈xs,x<=m):m = qM xs:=by
 refine Rat.le_antisymm ?_ ?_
 ·rcases h1 with rfl | h1
  ·exact Dp xs
  ·exact Dq m h1
 ·rcases @sB xs with h | h
  ·rw [h]; exact h0
  ·exact h2 _ h
def mB (kd:Str) (ms:List Mk) (row:List Rat):Rat:=if kd = "far" then qM ((iW ms row).map iC) else if kd = "sum" then tot ((fB ms row).map iC) else tot (Ht ms row)
theorem Cm.tot {L B:Nat}:∀ {qs:List Rat},(∀ q∈qs,Cm L B q)->Cm L (qs.length * B) (tot qs)
 | [],_=>Cm.zero
 | q :: qs,h=>by
  have h1:=h q mem_cons_self;have h2:=Cm.tot (qs:=qs) fun x hx=>h x (mem_cons_of_mem _ hx);exact (h1.add h2).mono (Nat.dvd_refl _) (by rw [length_cons,add_mul]; omega)
theorem fQ {B b:Nat} (h:B<=10 ^ b):B + B<=10 ^ (b + 1):=by rw [pow_succ]; omega
theorem fF {B b C c:Nat} (h:B<=10 ^ b) (h2:C<=10 ^ c):B * C<=10 ^ (b + c):=by rw [pow_add]; exact mul_le_mul h h2
theorem lW {n B b:Nat} (hn:n<=60) (h:B<=10 ^ b):n * B<=10 ^ (b + 2):=by
 have:n * B<=60 * 10 ^ b:=mul_le_mul hn h;rw [pow_add];omega
structure MSz (L B W l b wd:Nat) (ms:List Mk) (row:List Rat):Prop where
 len:ms.length<=60
 pos:0 < L
 pL:L<=10 ^ l
 pB:B<=10 ^ b
 pW:W<=10 ^ wd
 h:∀ m∈ms,Cm L B m.2.1
 r:∀ q∈row,Cm L B q
 w:∀ m∈ms,m.2.2.natAbs<=W
 fit:2 * l + 2 * b + wd + 6<=2400
section
variable {L B W l b wd:Nat} {ms:List Mk} {row:List Rat}
theorem MSz.miss (z:MSz L B W l b wd ms row):∀ x∈iW ms row,Cm L (B + B) x:=lB z.h z.r fun _ _ h1 h2=>h1.sub h2
theorem MSz.wmiss (z:MSz L B W l b wd ms row):∀ x∈fB ms row,Cm L (W * (B + B)) x:=lB z.w z.miss fun _ _ h1 h2=>((Cm.int h1).mul h2).mono (by rw [Nat.one_mul]; exact Nat.dvd_refl _) (le_refl _)
theorem MSz.sq (z:MSz L B W l b wd ms row):∀ x∈Ht ms row,Cm (L * L) (W * (B + B) * (B + B)) x:=lB z.wmiss z.miss fun _ _ h1 h2=>h1.mul h2
theorem MSz.missOk (z:MSz L B W l b wd ms row):∀ x∈iW ms row,Ok x:=fun x hx=>zO ((z.miss x hx).dg z.pos z.pL (fQ z.pB)) (by have:=z.fit; omega)
theorem MSz.wmissOk (z:MSz L B W l b wd ms row):∀ x∈fB ms row,Ok x:=fun x hx=>zO ((z.wmiss x hx).dg z.pos z.pL (fF z.pW (fQ z.pB))) (by have:=z.fit; omega)
theorem MSz.sqOk (z:MSz L B W l b wd ms row):∀ x∈Ht ms row,Ok x:=fun x hx=>zO ((z.sq x hx).dg (mul_pos z.pos z.pos) (fF z.pL z.pL) (fF (fF z.pW (fQ z.pB)) (fQ z.pB))) (by have:=z.fit; omega)
theorem jV:(fB ms row).length<=ms.length:=by unfold fB; rw [length_zipWith]; omega
theorem Cf:(Ht ms row).length<=ms.length:=by unfold Ht; rw [length_zipWith]; have:=jV (ms:=ms) (row:=row); omega
theorem MSz.sumOk (z:MSz L B W l b wd ms row) (i:Nat):Ok (tot (((fB ms row).map iC).take i)):=by
 have h:=Cm.tot (qs:=((fB ms row).map iC).take i) (L:=L) (B:=W * (B + B)) fun q hq=>by
  obtain ⟨x,hx,rfl⟩:=mem_map.mp (mem_of_mem_take hq);exact (z.wmiss x hx).abs
 have hl:(((fB ms row).map iC).take i).length<=60:=by
  rw [length_take,length_map]; have:=jV (ms:=ms) (row:=row); have:=z.len; omega
 exact zO (h.dg z.pos z.pL (lW hl (fF z.pW (fQ z.pB)))) (by have:=z.fit; omega)
theorem MSz.sqsOk (z:MSz L B W l b wd ms row) (i:Nat):Ok (tot ((Ht ms row).take i)):=by
 have h:=Cm.tot (qs:=(Ht ms row).take i) (L:=L * L) (B:=W * (B + B) * (B + B)) fun q hq=>z.sq q (mem_of_mem_take hq);have hl:((Ht ms row).take i).length<=60:=by
  rw [length_take]; have:=Cf (ms:=ms) (row:=row); have:=z.len; omega
 exact zO (h.dg (mul_pos z.pos z.pos) (fF z.pL z.pL) (lW hl (fF (fF z.pW (fQ z.pB)) (fQ z.pB)))) (by have:=z.fit; omega)
theorem MSz.hOk (z:MSz L B W l b wd ms row):∀ m∈ms,Ok m.2.1:=fun m hm=>zO ((z.h m hm).dg z.pos z.pL z.pB) (by have:=z.fit; omega)
theorem MSz.rOk (z:MSz L B W l b wd ms row):∀ q∈row,Ok q:=fun m hm=>zO ((z.r m hm).dg z.pos z.pL z.pB) (by have:=z.fit; omega)
theorem MSz.wOk (z:MSz L B W l b wd ms row) {m:Mk} (hm:m∈ms):Ok (m.2.2:Rat):=⟨Yy (le_trans (z.w m hm) z.pW) (by have:=z.fit; omega),show Wee ((1:Nat):Int) from Ic (by decide +kernel)⟩
end
def aFx:DW:=fun ds Q _=>∃ q:Rat,ds = [fr q]/\Q (.dat (fr (iC q)))
theorem Wp (T:Txt K mg A):FnOk P w K mg base (eA P w) 1 A.a_qh A.d_qh ["one"] (fO K aFx):=by
 refine gM T.F_qh.F aHi (by walk_at "l") fun cdv Ar outer s H E hr=>?_;refine ⟨_,(aM (aY (fK (aA (bI oZ rfl T.n_abs wY (aA (fY (K:=K) rfl (pv 0)) aE)) (aA (fY (K:=K) rfl (pv 0)) aE))))),_,(bG (aB (fN (aC (cI vS (aH (aB (bR 0 (aV 0))) aN)) (aC (bR 1 (aV 0)) aW)) (by decide)))),?_⟩;rintro ds Q X ⟨q,rfl,k⟩;walk_at "d";rw [Fm.abs_if];exact k
def Ry:DW:=fun ds Q _=>∃ (ms:List Mk) (row:List Rat),ds = [.list (ms.map eF),.list (row.map fr)]/\ms.length<=1000/\(∀ m∈ms,Ok m.2.1)/\(∀ q∈row,Ok q)/\Q (.own ((iW ms row).map fr))
theorem Wo (T:Txt K mg A):FnOk P w K mg base (eA P w) 4 A.a_qm A.d_qm ["marks","row"] (fO K Ry):=by
 refine gM T.F_qm.F aHg (by walk_at "l") fun cdv Ar outer s H E hr=>?_;refine ⟨_,(aM (aY (gQ (cap:=[none,none]) (NC:=["mark","height"]) rfl (wH rfl) (rR (K:=K) rfl rfl T.n_zip (aA (pv 0) (aA (pv 1) aE))) (fun _ _ _ _=>(Gb (K:=K) (n:=2) rfl rfl (bX (pD 0 ["mark","height"]) (bX (pD 1 ["mark","height"]) eZ)))) (fun _ _ _ _=>dE) (fun _ _ _ _=>(dQ (aIj T) hr T.F_qd bF (aA (fY (K:=K) rfl (pv 0)) (aA (pv 1) aE))))))),_,(qQ (fC (wL (bN 0) (bN 1)) (pV (cH (aO 0) (cH (aO 1) gI))) dW (bE (aH (aB (bR 1 (aV 0))) (aH (aG 1) aN))) (by decide) (by decide))),?_⟩;rintro ds Q X ⟨ms,row,rfl,hl,hm,hr',k⟩;walk_at "d"
 refine dY (fun p:Mk × Rat=>PyData.tuple [eF p.1,fr p.2]) fr (fun p:Mk × Rat=>[p.1.2.1 - p.2]) (ms.zip row) (by rw [length_zip]; omega) (fun Q h=>by
   walk_at "d"
   rw [jP]; exact h) (fun p hp N acc hN=>?_) ?_
 ·have:=qP hm hr' p hp;walk_at "d";refine ⟨p.1.2.1,p.2,rfl,this.1,this.2,?_⟩;walk_at "d";exact hN
 ·rw [cE,nG (fun (m:Mk) h=>m.2.1 - h)];exact k
def Ie:DW:=fun ds Q _=>∃ (ms:List Mk) (row:List Rat) (L B W l b wd:Nat),ds = [.list (ms.map eF),.list (row.map fr)]/\MSz L B W l b wd ms row/\Q (.own ((fB ms row).map fr))
theorem aIe (T:Txt K mg A):FnOk P w K mg base (eA P w) 5 A.a_qo A.d_qo ["marks","row"] (fO K Ie):=by
 refine gM T.F_qo.F aHe (by walk_at "l") fun cdv Ar outer s H E hr=>?_;refine ⟨_,(aM (aY (gQ (cap:=[none,none]) (NC:=["mark","miss"]) rfl (wH rfl) (rR (K:=K) rfl rfl T.n_zip (aA (pv 0) (aA (dQ (Wo T) hr T.F_qm bF (aA (pv 0) (aA (pv 1) aE))) aE))) (fun _ _ _ _=>(Gb (K:=K) (n:=2) rfl rfl (bX (pD 0 ["mark","miss"]) (bX (pD 1 ["mark","miss"]) eZ)))) (fun _ _ _ _=>dE) (fun _ _ _ _=>(dQ (Dh T) hr T.F_qe bF (aA (fK (aA (fY (K:=K) rfl (pv 0)) (aA aS aE))) (aA (pv 1) aE))))))),_,(qQ (fC (wL (bN 0) (gA (jQ (aH (aG 0) (aH (aG 1) aN))))) (pV (cH (aO 0) (cH (aO 1) gI))) dW (bE (aH (aB (fN (aC (bR 2 (aV 0)) (aC aP aW)) (by decide))) (aH (aG 1) aN))) (by decide) (by decide))),?_⟩;rintro ds Q X ⟨ms,row,L,B,W,l,b,wd,rfl,z,k⟩;walk_at "d"
 refine dY (fun p:Mk × Rat=>PyData.tuple [eF p.1,fr p.2]) fr (fun p:Mk × Rat=>[(p.1.2.2:Rat) * p.2]) (ms.zip (iW ms row)) (by rw [length_zip]; have:=z.len; omega) (fun Q h=>by
   walk_at "d"
   refine ⟨ms,row,rfl,by have:=z.len; omega,z.hOk,z.rOk,?_⟩
   walk_at "d"
   refine ⟨oP _,?_⟩
   rw [jP]; exact h) (fun p hp N acc hN=>?_) ?_
 ·have:=qP (p:=fun m=>m∈ms) (fun _ h=>h) z.missOk p hp;walk_at "d";refine ⟨(p.1.2.2:Rat),p.2,rfl,z.wOk this.1,this.2,?_⟩;walk_at "d";exact hN
 ·rw [cE,nG (fun (m:Mk) x=>(m.2.2:Rat) * x)];exact k
def dZ:List Str:=["far","sum","square"]
def aDm:List { x:Str // PyData.strOk x = true }:=[⟨"far",by decide +kernel⟩,⟨"sum",by decide +kernel⟩,⟨"square",by decide +kernel⟩]
theorem Uo {kd:Str} (h:PyData.strOk kd = true):(⟨kd,h⟩:{ x:Str // PyData.strOk x = true })∈aDm ↔ kd∈dZ:=by
 simp [aDm,dZ,Subtype.ext_iff]
def Yq (C:Addr):DW:=fun ds Q X=>∃ d:PyData,ds = [d]/\(∀ kd:Str,d = .str kd->PyData.strOk kd = true)/\((∃ kd:Str,d = .str kd/\kd∈dZ)->Q (.dat .none))/\((∀ kd:Str,d = .str kd->kd ∉ dZ)->X C)
theorem De (T:Txt K mg A):FnOk P w K mg base (eA P w) 1 A.a_qn A.d_qn ["kind"] (fO K (Yq A.x_NoKind)):=by
 refine gM T.F_qn.F aHf (by walk_at "l") fun cdv Ar outer s H E hr=>?_;refine ⟨_,(aM (bV (PW.pt (kL (kD (gU (bI (uL (K:=K) rfl) rfl T.n_isinstance cC (aA (pv 0) (aA (kF rfl T.n_str wX (show RelV (.ty "str") (.type "str") from rfl)) aE))))) (iH (aX (Dj (K:=K) rfl hr.units) (pv 0) (dL rfl T.c_KINDS (show RelV (.ref _) (.ref _) from rfl)) rfl)))) (aM (cP T.x_NoKind hr.hd bM rfl (aA aF aE))) bA)),_,(cD (nJ (mP (tF (aB (pZ (by decide) (aG 0))))) (bB (aB (aQ tZ (aG 0) (aB (He T.k_KINDS)))))) (cN (aC aI aW) (by decide)) bL),?_⟩;rintro ds Q X ⟨d,rfl,ok,k1,k2⟩;have no:(∀ kd:Str,d ≠ .str kd)->X A.x_NoKind:=fun h=>k2 fun kd e=>absurd e (h kd);cases d with
 | str kd =>
  walk_at "d";refine ⟨_,Pl,⟨kd,ok kd rfl⟩,aDm,rfl,rfl,fun b hb=>?_⟩;rw [Uo] at hb;cases b with
  | true =>
   walk_at "d";exact k1 ⟨kd,rfl,hb.mp rfl⟩
  | false =>
   walk_at "d";refine k2 fun kd' e h=>?_;cases e;exact absurd (hb.mpr h) (by decide)
 | _=>exact no fun _=>by simp
def aGb (C:Addr):DW:=fun ds Q X=>∃ (d:PyData) (ms:List Mk) (row:List Rat) (L B W l b wd:Nat),ds = [d,.list (ms.map eF),.list (row.map fr)]/\MSz L B W l b wd ms row/\ms ≠ []/\row.length = ms.length/\(∀ kd:Str,d = .str kd->PyData.strOk kd = true) /\
 (∀ kd:Str,d = .str kd->kd∈dZ->Q (.dat (fr (mB kd ms row))))/\((∀ kd:Str,d = .str kd->kd ∉ dZ)->X C)
theorem Nt (T:Txt K mg A):FnOk P w K mg base (eA P w) 6 A.a_qp A.d_qp ["kind","marks","row"] (fO K (aGb A.x_NoKind)):=by
 refine gM T.F_qp.F Kc (by walk_at "l") fun cdv Ar outer s H E hr=>?_
 refine ⟨_,(aJ (fE (dQ (De T) hr T.F_qn bM (aA (pv 0) aE)))
   (aJ (eY 3 Kc (dQ (Wo T) hr T.F_qm bF (aA (pv 1) (aA (pv 2) aE))))
   (aJ (bV (aX cZ (pv 0) aF (bK _)) (aM (aY (dQ (aIh T) hr T.F_qj bF (aA (gQ (cap:=[none]) (NC:=["miss"]) rfl (wH rfl) (kS (K:=K) rfl (pv 3)) (fun _ _ _ _=>(pD 0 ["miss"])) (fun _ _ _ _=>dE) (fun _ _ _ _=>(dQ (Wp T) hr T.F_qh bF (aA (pv 0) aE)))) aE)))) bA)
   (aJ (eY 4 Kc (dQ (aIe T) hr T.F_qo bF (aA (pv 1) (aA (pv 2) aE))))
   (aJ (bV (aX cZ (pv 0) aF (bK _)) (aM (aY (dQ (Df T) hr T.F_qi bF (aA (gQ (cap:=[none]) (NC:=["one"]) rfl (wH rfl) (kS (K:=K) rfl (pv 4)) (fun _ _ _ _=>(pD 0 ["one"])) (fun _ _ _ _=>dE) (fun _ _ _ _=>(dQ (Wp T) hr T.F_qh bF (aA (pv 0) aE)))) aE)))) bA)
   (aM (aY (dQ (Df T) hr T.F_qi bF (aA (gQ (cap:=[none,none]) (NC:=["one","miss"]) rfl (wH rfl) (rR (K:=K) rfl rfl T.n_zip (aA (pv 4) (aA (pv 3) aE))) (fun _ _ _ _=>(Gb (K:=K) (n:=2) rfl rfl (bX (pD 0 ["one","miss"]) (bX (pD 1 ["one","miss"]) eZ)))) (fun _ _ _ _=>dE) (fun _ _ _ _=>(dQ (Dh T) hr T.F_qe bF (aA (pv 0) (aA (pv 1) aE))))) aE))))))))),_,(aR (jY (aB (dF (aH (aG 0) aN))))
   (aR (cA 3 (jQ (aH (aG 1) (aH (aG 2) aN))))
   (aR (cD (bB (aB (aQ cY (aG 0) (aB aI)))) (bG (aB (bE (aH (aB (bY (fC (eS (bN 3)) (aO 0) dW (bE (aH (aG 0) aN)) (by decide) (by decide)))) aN)))) bL)
   (aR (cA 4 (jQ (aH (aG 1) (aH (aG 2) aN))))
   (aR (cD (bB (aB (aQ cY (aG 0) (aB aI)))) (bG (aB (bE (aH (aB (bY (fC (eS (bN 4)) (aO 0) dW (bE (aH (aG 0) aN)) (by decide) (by decide)))) aN)))) bL)
   (bG (aB (bE (aH (aB (bY (fC (wL (bN 4) (bN 3)) (pV (cH (aO 0) (cH (aO 1) gI))) dW (bE (aH (aG 0) (aH (aG 1) aN))) (by decide) (by decide)))) aN))))))))),?_⟩
 rintro ds Q X ⟨d,ms,row,L,B,W,l,b,wd,rfl,z,hne,hlr,ok,k,kx⟩;have zl:=z.len;walk_at "s";refine ⟨d,rfl,ok,?_,kx⟩;rintro ⟨kd,rfl,hkd⟩;have kq:=k kd rfl hkd;walk_at "s";refine ⟨ms,row,rfl,by omega,z.hOk,z.rOk,?_⟩;walk_at "d";refine ⟨oP _,?_⟩;walk_at "s";have hml:(iW ms row).length = ms.length:=by unfold iW; rw [length_zipWith]; omega
 refine bS (fun c=>?_) (fun c=>?_)
 ·have ek:kd = "far":=c;subst ek;have e:mB "far" ms row = qM ((iW ms row).map iC):=by unfold mB; rw [if_pos rfl]
  rw [e] at kq;walk_at "d";refine dY fr fr (fun q:Rat=>[iC q]) (iW ms row) (by omega) (fun Q h=>h) (fun q hq N acc hN=>?_) ?_
  ·walk_at "d";refine ⟨q,rfl,?_⟩;walk_at "d";exact hN
  rw [cE];refine ⟨(iW ms row).map iC,rfl,fun q hq=>?_,fun h0=>?_,fun q hq hle=>?_⟩
  ·obtain ⟨x,hx,rfl⟩:=mem_map.mp hq;have:=z.missOk x hx;exact ⟨by rw [jU]; have:=this.n; unfold Wee at *; omega,this.d⟩
  ·have:=congrArg length h0;rw [length_map,hml] at this;exact absurd (length_eq_zero_iff.mp this) hne
  ·have hq0:0<=q:=by
    obtain ⟨x,_,rfl⟩:=mem_map.mp hq;exact Vt x
   rw [Ue hq0 (.inr hq) hle];walk_at "d";exact kq
 have nk:kd ≠ "far":=c;walk_at "s";refine ⟨ms,row,L,B,W,l,b,wd,rfl,z,?_⟩;walk_at "d";refine ⟨oP _,?_⟩;walk_at "s";have hwl:=jV (ms:=ms) (row:=row);refine bS (fun c=>?_) (fun c=>?_)
 ·have ek:kd = "sum":=c;subst ek;have e:mB "sum" ms row = tot ((fB ms row).map iC):=by unfold mB; rw [if_neg (by decide),if_pos rfl]
  rw [e] at kq;walk_at "d";refine dY fr fr (fun q:Rat=>[iC q]) (fB ms row) (by omega) (fun Q h=>h) (fun q hq N acc hN=>?_) ?_
  ·walk_at "d";refine ⟨q,rfl,?_⟩;walk_at "d";exact hN
  rw [cE];refine ⟨(fB ms row).map iC,rfl,fun q hq=>?_,z.sumOk,?_⟩
  ·obtain ⟨x,hx,rfl⟩:=mem_map.mp hq;have:=z.wmissOk x hx;exact ⟨by rw [jU]; have:=this.n; unfold Wee at *; omega,this.d⟩
  ·walk_at "d";exact kq
 ·have nk2:kd ≠ "sum":=c;have e:mB kd ms row = tot (Ht ms row):=by unfold mB; rw [if_neg nk,if_neg nk2]
  rw [e] at kq;walk_at "d"
  refine dY (fun p:Rat × Rat=>PyData.tuple [fr p.1,fr p.2]) fr (fun p:Rat × Rat=>[p.1 * p.2]) ((fB ms row).zip (iW ms row)) (by rw [length_zip]; omega) (fun Q h=>by
    walk_at "d"
    rw [jP]; exact h) (fun p hp N acc hN=>?_) ?_
  ·have:=qP z.wmissOk z.missOk p hp;walk_at "d";refine ⟨p.1,p.2,rfl,this.1,this.2,?_⟩;walk_at "d";exact hN
  rw [cE,nG (fun a b:Rat=>a * b)];refine ⟨Ht ms row,rfl,z.sqOk,z.sqsOk,?_⟩;walk_at "d";exact kq
def zR (ns:List Int) (k:Int):Int:=if k < (ns.length:Int) then ns.getD k.toNat default else 5 * k * k + 11 * k + 2
theorem Qt {ns:List Int} (h:∀ v∈ns,Builtin.Int.intBits v<=1048576) {k:Int} (h0:0<=k) (h1:k<=1000):Bg 1048577 (zR ns k):=by
 unfold zR;split
 ·exact Bg.of (Pd (p:=fun v=>Builtin.Int.intBits v<=1048576) h (by decide))
 ·refine Bg.small ?_ (by decide);have h2:5 * k * k<=5000 * 1000:=Int.mul_le_mul (by omega) h1 h0 (by omega);have h3:0<=5 * k * k:=Int.mul_nonneg (by omega) h0;omega
def aGk:DW:=fun ds Q _=>∃ (ns:List Int) (k:Int),ds = [.list (ns.map .int),.int k]/\0<=k/\k<=1000/\Q (.dat (.int (zR ns k)))
theorem An (T:Txt K mg A):FnOk P w K mg base (eA P w) 1 A.a_qq1 A.d_qq1 ["script","k"] (fO K aGk):=by
 refine gM T.F_qq1.F Zn (by walk_at "l") fun cdv Ar outer s H E hr=>?_
 refine ⟨_,(aJ (bV (aX mG (pv 1) (bI (lQ (K:=K) rfl) rfl T.n_len boot_len (aA (pv 0) aE)) (bK _)) (aM (aY (dH (gH (K:=K) rfl) (pv 0) (pv 1) (fun _ _=>rfl)))) bA)
   (aM (aY (aU fL (aU fL (aU eI (aU eI aS (pv 1)) (pv 1)) (aU eI aS (pv 1))) aS)))),_,(aR (cD (bB (aB (aQ fX (aG 1) (aB (cI eV (aH (aG 0) aN)))))) (bG (aB (cB (bN 0) (aG 1)))) bL)
   (bG (aB (aQ eU (aB (aQ eU (aB (aQ gP (aB (aQ gP (aB aP) (aG 1))) (aG 1))) (aB (aQ gP (aB aP) (aG 1))))) (aB aP))))),?_⟩
 rintro ds Q X ⟨ns,k,rfl,h0,h1,kq⟩;unfold zR at kq;walk_at "s";refine bS (fun c=>?_) (fun c=>?_)
 ·rw [if_pos c] at kq;exact ⟨_,aFd PyData.int h0 c,kq⟩
 ·rw [if_neg c] at kq;walk_at "d";exact ⟨iV (Ic (by decide +kernel)) (jG (n:=1000) (by omega) (by decide +kernel)),iV (jG (n:=5000) (by omega) (by decide +kernel)) (jG (n:=1000) (by omega) (by decide +kernel)),iV (Ic (by decide +kernel)) (jG (n:=1000) (by omega) (by decide +kernel)),kq⟩
theorem pT {kd:Str} (h:kd∈dZ):PyData.strOk kd = true:=by
 have:kd = "far"\/kd = "sum"\/kd = "square":=by simpa [dZ] using h
 rcases this with rfl | rfl | rfl <;> decide +kernel
theorem dg0 (n:Nat):Dg n 0:=by
 refine ⟨?_,?_⟩
 ·show natAbs 0<=_; simp
 ·show (1:Nat)<=_; exact pow_pos (by decide:0 < 10)
theorem aJq {n:Nat} {q:Rat} (h:Dg n q):Dg n (iC q):=by
 rcases sZ q with ⟨_,e⟩ | ⟨_,e⟩ <;> rw [e]
 ·exact h
 ·exact h.neg
theorem MSz.measDg {L B W l b wd:Nat} {ms:List Mk} {row:List Rat} (z:MSz L B W l b wd ms row) (kd:Str):Dg (2 * l + 2 * b + wd + 6) (mB kd ms row):=by
 unfold mB;split
 ·rcases @sB ((iW ms row).map iC) with h | h
  ·rw [h]; exact dg0 _
  ·obtain ⟨x,hx,e⟩:=mem_map.mp h;rw [<- e];exact (aJq ((z.miss x hx).dg z.pos z.pL (fQ z.pB))).mono (by omega)
 ·split
  ·have h:=Cm.tot (qs:=(fB ms row).map iC) (L:=L) (B:=W * (B + B)) fun q hq=>by
    obtain ⟨x,hx,rfl⟩:=mem_map.mp hq;exact (z.wmiss x hx).abs
   have hl:((fB ms row).map iC).length<=60:=by
    rw [length_map]; have:=jV (ms:=ms) (row:=row); have:=z.len; omega
   exact (h.dg z.pos z.pL (lW hl (fF z.pW (fQ z.pB)))).mono (by omega)
  ·have h:=Cm.tot (qs:=Ht ms row) (L:=L * L) (B:=W * (B + B) * (B + B)) fun q hq=>z.sq q hq;have hl:(Ht ms row).length<=60:=by
    have:=Cf (ms:=ms) (row:=row); have:=z.len; omega
   exact (h.dg (mul_pos z.pos z.pos) (fF z.pL z.pL) (lW hl (fF (fF z.pW (fQ z.pB)) (fQ z.pB)))).mono (by omega)
abbrev Ro (q:Rat):Prop:=Cm 12 (10 ^ 12) q
theorem Ro.dg {q:Rat} (h:Ro q):Dg 15 q:=Cm.dg h (by decide) (show 12<=10 ^ 2 by decide) (le_refl (10 ^ 12))
theorem Mc {t b:Int} (h1:1<=b) (h2:b<=4) (ht:t.natAbs<=10 ^ 12):Ro (divInt t b):=by
 have hd:b.toNat ∣ 12:=by
  have:b.toNat = 1\/b.toNat = 2\/b.toNat = 3\/b.toNat = 4:=by omega
  rcases this with e | e | e | e <;> rw [e] <;> decide
 have c:=Cm.div (t:=t) (b:=b.toNat) (L:=12) (B:=10 ^ 12) (by omega) hd (le_trans ht (Nat.le_mul_of_pos_right _ (by omega)));rw [show ((b.toNat:Nat):Int) = b by omega] at c;exact c
structure Gd (m:Mk):Prop where
 p:Cm 6 100 m.1
 h:Ro m.2.1
 w:1<=m.2.2/\m.2.2<=9
structure MkT (ms:List Mk):Prop where
 n1:1<=ms.length
 n10:ms.length<=60
 gd:∀ m∈ms,Gd m
theorem MkT.ms {ms:List Mk} {row:List Rat} (M:MkT ms) (hr:∀ q∈row,Ro q):MSz 12 (10 ^ 12) 9 2 12 1 ms row :=
 ⟨by exact M.n10,by decide,by decide,le_refl _,by decide,fun m h=>(M.gd m h).h,hr,fun m h=>by have:=(M.gd m h).w; omega,by decide⟩
theorem MkT.dg {ms:List Mk} {row:List Rat} (M:MkT ms) (hr:∀ q∈row,Ro q) (kd:Str):Dg 79 (mB kd ms row):=((M.ms hr).measDg kd).mono (by decide)
def eT2 {α β:Type} (a:Enc α) (b:Enc β) (h:a.dep<=50) (h':b.dep<=50):Enc (α × β) where
 d:=fun p=>.tuple [a.d p.1,b.d p.2]
 dep:=a.dep + b.dep + 1 - min a.dep b.dep
 small:=by omega
 lay:=fun p=>by
  show ((a.d p.1).canLay0 && ((b.d p.2).canLay0 && true)) = true;rw [a.lay,b.lay]; rfl
 depth:=fun p=>by
  have h1:=a.depth p.1;have h2:=b.depth p.2;simp only [PyData.depth,PyData.depthAll];omega
 eqv:=fun p q=>by
  show PyData.eqvAll [a.d p.1,b.d p.2] [a.d q.1,b.d q.2] = true ↔ p = q;have h1:=a.eqv p.1 q.1;have h2:=b.eqv p.2 q.2;simp only [PyData.eqvAll,and_eq_true,h1,h2,and_true];exact ⟨fun ⟨x,y⟩=>Prod.ext x y,fun e=>by rw [e]; exact ⟨rfl,rfl⟩⟩
open PySem.NumText (AllDigits digitsVal)
theorem eG {x y:Str} (h:x.cps.toList = y.cps.toList):x = y:=by
 cases x; cases y;simp only at h;rw [Array.toList_inj.mp h]
theorem dI (x:Str):x.cps.toList.length = x.length:=by simp [Str.length]
theorem Zg (x:Str):(PySem.Txt.slice x none (some 1)).cps.toList = x.cps.toList.take 1:=by
 have hl:=dI x;by_cases h:1<=x.length
 ·have e:=slice_closes_to (x:=x) (j:=1) ⟨by decide,by omega⟩;rw [eq_of_beq e];simp
 ·have e:=PySem.Txt.slice_le x none (some 1);have e1:(PySem.Txt.slice x none (some 1)).cps.toList = []:=length_eq_zero_iff.mp (by rw [dI]; omega);have e2:x.cps.toList = []:=length_eq_zero_iff.mp (by omega);rw [e1,e2]; rfl
theorem Su (x:Str):(PySem.Txt.slice x (some 1) none).cps.toList = x.cps.toList.drop 1:=by
 have hl:=dI x;by_cases h:1<=x.length
 ·have e:=slice_closes_from (x:=x) (i:=1) ⟨by decide,by omega⟩;rw [eq_of_beq e];have e2:((x.cps.toList.length:Int) - 1).toNat = (x.cps.toList.drop 1).length:=by rw [length_drop]; omega
  rw [e2];show take _ (x.cps.toList.drop (toNat 1)) = _;exact List.take_length
 ·have e:=PySem.Txt.slice_le x (some 1) none;have e1:(PySem.Txt.slice x (some 1) none).cps.toList = []:=length_eq_zero_iff.mp (by rw [dI]; omega);have e2:x.cps.toList = []:=length_eq_zero_iff.mp (by omega);rw [e1,e2]; rfl
theorem tM (x y:Str):PySem.Txt.contains x y = decide (0<=PySem.Txt.find x y):=by
 unfold PySem.Txt.contains PySem.Txt.find;cases Builtin.Str.occurrences x y 0 x.length 1 with
 | nil=>rfl
 | cons i r=>simp
theorem nW {x y:Str} (h:PySem.Txt.contains x y = false):PySem.Txt.partition x y = (x,Str.empty,Str.empty):=by
 unfold PySem.Txt.contains at h;unfold PySem.Txt.partition;cases e:Builtin.Str.occurrences x y 0 x.length 1 with
 | nil=>rfl
 | cons i r=>rw [e] at h; cases h
theorem Db {x y:Str} (h:PySem.Txt.contains x y = true):(PySem.Txt.partition x y).2.1 = y:=by
 unfold PySem.Txt.contains at h;unfold PySem.Txt.partition;cases e:Builtin.Str.occurrences x y 0 x.length 1 with
 | nil=>rw [e] at h; cases h
 | cons i r=>rfl
def oN (c:Nat):Bool:=decide (48<=c) && decide (c<=57)
theorem isDig_iff {c:Nat}:oN c = true ↔ 48<=c/\c<=57:=by simp [oN]
theorem aDy:("0123456789":Str).cps.toList = [48,49,50,51,52,53,54,55,56,57]:=by decide +kernel
theorem Pe (c:Nat):PySem.Txt.find "0123456789" ⟨#[c]⟩ = if oN c = true then (c:Int) - 48 else -1:=by
 have key:∀ i:Nat,StrLaws.At "0123456789" ⟨#[c]⟩ ("0123456789":Str).length i ↔ i < 10/\c = 48 + i:=by
  intro i;unfold StrLaws.At;have hl:("0123456789":Str).length = 10:=by decide +kernel
  have h1:(⟨#[c]⟩:Str).length = 1:=rfl;rw [StrLaws.subAt_eq,aDy,hl,h1];constructor
  ·rintro ⟨h2,h3⟩;have h4:i < 10:=by omega
   refine ⟨h4,?_⟩;have h5:=eq_of_beq h3;have h6:∀ i:Nat,i < 10->([48,49,50,51,52,53,54,55,56,57].drop i).take 1 = [48 + i]:=by decide
   rw [h6 i h4] at h5;have h7:[48 + i] = [c]:=h5;injection h7 with h7
   omega
  ·rintro ⟨h4,rfl⟩;refine ⟨by omega,?_⟩;have h6:∀ i:Nat,i < 10->([48,49,50,51,52,53,54,55,56,57].drop i).take 1 = [48 + i]:=by decide
   rw [h6 i h4];exact beq_self_eq_true _
 rcases find_whole "0123456789" ⟨#[c]⟩ with ⟨h,hn⟩ | ⟨i,h,hi,_⟩
 ·rw [h,if_neg];intro hc;have hc:=isDig_iff.mp hc;exact hn (c - 48) ((key _).mpr ⟨by omega,by omega⟩)
 ·obtain ⟨h1,h2⟩:=(key i).mp hi;rw [h,if_pos (isDig_iff.mpr ⟨by omega,by omega⟩)];omega
theorem aDv (c:Nat):PySem.Txt.contains "0123456789" ⟨#[c]⟩ = oN c:=by
 rw [tM,Pe];cases h:oN c with
 | true =>
  have:=isDig_iff.mp h;rw [if_pos rfl];exact decide_eq_true (by omega)
 | false =>
  rw [if_neg Bool.false_ne_true];rfl
def nA (cs:List Nat):List Nat:=if cs.head? = some 45 then cs.drop 1 else cs
def nB (cs:List Nat):Bool:=decide (1<=cs.length) && decide (cs.length<=40) && !(decide (cs.head? = some 48) && decide (1 < cs.length)) && cs.all oN
def eN (cs:List Nat):Option Int:=if (!decide (cs = [45,48]) && nB (nA cs)) = true then some (if cs.head? = some 45 then -((digitsVal (nA cs):Nat):Int) else ((digitsVal (nA cs):Nat):Int)) else none
def zG (x:Str):Str:=if x.cps.toList.head? = some 45 then PySem.Txt.slice x (some 1) none else x
theorem Hd (x:Str):(zG x).cps.toList = nA x.cps.toList:=by
 unfold zG nA;split
 ·exact Su x
 ·rfl
theorem Pf (x:Str):(zG x).length<=x.length:=by
 unfold zG;split
 ·exact PySem.Txt.slice_le x _ _
 ·exact le_refl _
theorem mW:("-":Str).cps.toList = [45]:=by decide +kernel
theorem qF:("-0":Str).cps.toList = [45,48]:=by decide +kernel
theorem qJ (x:Str):PySem.Txt.slice x none (some 1) = "-" ↔ x.cps.toList.head? = some 45:=by
 have e:=Zg x;constructor
 ·intro h;rw [h,mW] at e;cases hx:x.cps.toList with
  | nil=>rw [hx] at e; cases e
  | cons c r=>rw [hx] at e; injection e with e1; rw [List.head?_cons,<- e1]
 ·intro h;apply eG;rw [e,mW];cases hx:x.cps.toList with
  | nil=>rw [hx] at h; cases h
  | cons c r=>rw [hx] at h; injection h with h1; rw [h1]; rfl
theorem uQ (x:Str):x = "-0" ↔ x.cps.toList = [45,48]:=⟨fun h=>by rw [h,qF],fun h=>eG (by rw [h,qF])⟩
theorem sQ {cs:List Nat} (h:nB cs = true):1<=cs.length/\cs.length<=40/\AllDigits cs/\(cs.head? = some 48->cs.length = 1):=by
 simp only [nB,and_eq_true,decide_eq_true_eq,not_eq_true',and_eq_false_iff,decide_eq_false_iff_not,all_eq_true] at h;obtain ⟨⟨⟨h1,h2⟩,h3⟩,h4⟩:=h;exact ⟨h1,h2,fun c hc=>isDig_iff.mp (h4 c hc),fun e=>by rcases h3 with h3 | h3; exact absurd e h3; omega⟩
theorem pR {cs:List Nat} {n:Int} (h:eN cs = some n):nB (nA cs) = true/\cs ≠ [45,48]/\n = if cs.head? = some 45 then -((digitsVal (nA cs):Nat):Int) else ((digitsVal (nA cs):Nat):Int):=by
 unfold eN at h;split at h
 ·rename_i hc
  simp only [and_eq_true,not_eq_true',decide_eq_false_iff_not] at hc;cases h;exact ⟨hc.2,hc.1,rfl⟩
 ·cases h
theorem Tx {x:Str} {n:Int} (h:eN x.cps.toList = some n):x.length<=41/\PySem.intText? x = some n:=by
 obtain ⟨h1,h2,h3⟩:=pR h;obtain ⟨l1,l2,hd,_⟩:=sQ h1;have hl:=dI x;unfold nA at l1 l2 hd h3;split at l1
 ·rename_i hc
  rw [if_pos hc] at l2 hd h3;cases hx:x.cps.toList with
  | nil=>rw [hx] at hc; cases hc
  | cons c r =>
   rw [hx] at hc l1 l2 hd h3 hl;injection hc with hc
   subst hc;have hlen:x.length<=41:=by
    rw [length_drop] at l2;omega
   refine ⟨hlen,?_⟩;rw [PySem.intText_neg hx (show AllDigits r from hd) (fun e=>by rw [e] at l1; exact absurd l1 (by decide)) (by omega),h3];rfl
 ·rename_i hc
  rw [if_neg hc] at l2 hd h3;refine ⟨by omega,?_⟩;rw [PySem.intText_digits hd (fun e=>by rw [e] at l1; exact absurd l1 (by decide)) (by omega),h3,if_neg hc]
theorem wB (a b:String):(Str.ofString (a ++ b)).cps.toList = (Str.ofString a).cps.toList ++ (Str.ofString b).cps.toList:=by
 rw [signs_ofString,signs_ofString,signs_ofString];simp
theorem aJk {cs:List Nat} (h:AllDigits cs):digitsVal cs < 10 ^ cs.length:=by
 have key:∀ (cs:List Nat) (a:Nat),AllDigits cs->cs.foldl (fun acc c=>acc * 10 + (c - 48)) a < (a + 1) * 10 ^ cs.length:=by
  intro cs
  induction cs with
  | nil=>intro a _; simp
  | cons c r ih =>
   intro a h;have hc:=h c (by simp);have h1:=ih (a * 10 + (c - 48)) fun d hd=>h d (by simp [hd]);rw [foldl_cons,length_cons,pow_succ];refine lt_of_lt_of_le h1 ?_;have e:(a + 1) * (10 ^ r.length * 10) = (a * 10 + 10) * 10 ^ r.length:=by
    rw [mul_comm (10 ^ r.length) 10,<- mul_assoc,add_mul a 1 10,Nat.one_mul]
   rw [e];exact mul_le_mul_right _ (by omega)
 have:=key cs 0 h;simpa [digitsVal] using this
theorem Gh {cs:List Nat} {n:Int} (h:eN cs = some n):n.natAbs < 10 ^ 40:=by
 obtain ⟨h1,h2,h3⟩:=pR h;obtain ⟨l1,l2,hd,hz⟩:=sQ h1;have h4:=aJk hd;have h5:(10:Nat) ^ (nA cs).length<=10 ^ 40:=pow_le_pow_right (by decide) l2;have h6:n.natAbs = digitsVal (nA cs):=by
  rw [h3]; split <;> omega
 omega
theorem Dt {i:Int} (h:i.natAbs < 10 ^ 50):i.natAbs.log2 < 1920:=by
 by_cases h0:i.natAbs = 0
 ·rw [h0]; decide
 ·exact (log2_lt h0).mpr (lt_of_lt_of_le h (by decide +kernel))
theorem fP {n:Int} (h:n.natAbs < 10 ^ 50):(Str.ofString (toString n)).length<=51:=by
 by_cases h0:0<=n
 ·have:=toString_length_le (k:=50) h0 (by decide) (by omega);omega
 ·rw [len_text_neg (by omega)];have:=toString_length_le (k:=50) (v:=0 - n) (by omega) (by decide) (by omega);omega
def gO (x:Str):Option (Int × Int) :=
 match eN (PySem.Txt.partition x "/").1.cps.toList with
 | none=>none
 | some t=>if (PySem.Txt.partition x "/").2.1 = Str.empty then some (t,1) else
  match eN (PySem.Txt.partition x "/").2.2.cps.toList with
  | none=>none
  | some b=>if b < 2\/Int.gcd t b ≠ 1 then none else some (t,b)
theorem jL:(Str.ofString "/").length = 1:=by decide +kernel
theorem Ju:(Str.ofString "/") ≠ Str.empty:=by decide +kernel
theorem kG (x:Str):(PySem.Txt.partition x "/").2.1 = Str.empty ↔ PySem.Txt.contains x "/" = false:=by
 constructor
 ·intro h;cases hc:PySem.Txt.contains x "/" with
  | false=>rfl
  | true=>exact absurd ((Db hc).symm.trans h) Ju
 ·intro h;rw [nW h]
theorem Fj {x:Str} {t b:Int} (h:gO x = some (t,b)):eN (PySem.Txt.partition x "/").1.cps.toList = some t /\
  ((PySem.Txt.contains x "/" = false/\b = 1)\/(PySem.Txt.contains x "/" = true/\eN (PySem.Txt.partition x "/").2.2.cps.toList = some b/\2<=b/\Int.gcd t b = 1)):=by
 unfold gO at h;split at h
 ·cases h
 ·rename_i t' h1
  split at h
  ·rename_i h2
   cases h;exact ⟨h1,.inl ⟨(kG x).mp h2,rfl⟩⟩
  ·rename_i h2
   split at h
   ·cases h
   ·rename_i b' h3
    split at h
    ·cases h
    ·rename_i h4
     cases h;refine ⟨h1,.inr ⟨?_,h3,?_,?_⟩⟩
     ·cases hc:PySem.Txt.contains x "/" with
      | true=>rfl
      | false=>exact absurd ((kG x).mpr hc) h2
     ·exact Int.not_lt.mp fun z=>h4 (.inl z)
     ·exact Decidable.not_not.mp fun z=>h4 (.inr z)
theorem nX (x y:Str):(PySem.Txt.partition x y).1.length<=x.length/\(PySem.Txt.partition x y).2.1.length<=x.length/\(PySem.Txt.partition x y).2.2.length<=x.length:=fact_partition x y
theorem mO {x:Str} (hc:PySem.Txt.contains x "/" = false):gO x = (eN x.cps.toList).map (fun t=>(t,1)):=by
 unfold gO;rw [nW hc];cases eN x.cps.toList with
 | none=>rfl
 | some t=>simp
theorem tU {x:Str} (hc:PySem.Txt.contains x "/" = true) {t b:Int} (h1:eN (PySem.Txt.partition x "/").1.cps.toList = some t) (h2:eN (PySem.Txt.partition x "/").2.2.cps.toList = some b) :
  gO x = if b < 2\/Int.gcd t b ≠ 1 then none else some (t,b):=by
 unfold gO;rw [h1,h2];simp only;rw [if_neg fun z=>by rw [(kG x).mp z] at hc; cases hc]
theorem Il {x:Str} (h1:eN (PySem.Txt.partition x "/").1.cps.toList = none):gO x = none:=by
 unfold gO;rw [h1]
theorem xN {x:Str} (hc:PySem.Txt.contains x "/" = true) (h2:eN (PySem.Txt.partition x "/").2.2.cps.toList = none):gO x = none:=by
 unfold gO;split
 ·rfl
 ·rw [h2];simp only;rw [if_neg fun z=>by rw [(kG x).mp z] at hc; cases hc]
theorem Ds {t b:Int} (hb:2<=b):((divInt t b).num = t/\((divInt t b).den:Int) = b) ↔ Int.gcd t b = 1:=by
 obtain ⟨e1,e2⟩:=Fm.fr_pos (t:=t) (b:=b) (by omega);rw [<- e1,<- e2];constructor
 ·rintro ⟨_,h⟩;have hd:((Int.gcd t b:Nat):Int) ∣ b:=Int.gcd_dvd_right ..;have hm:=Int.mul_ediv_cancel' hd;rw [h] at hm;have h1:((Int.gcd t b:Nat):Int) * b = 1 * b:=by rw [hm,one_mul]
  have h2:=Int.eq_of_mul_eq_mul_right (by omega) h1;omega
 ·intro h;rw [h];simp
open PySem.StrLaws (At ChainG partsFrom occ_tight partsBetween_eq)
open PySem.Builtin.Str (occurrences partsBetween strSub subAt)
theorem nK (x:Str) (i j:Nat):(strSub x i j).cps.toList = (x.cps.toList.drop i).take (j - i):=StrLaws.strSub_toList x i j
theorem Bq (x y:Str) (i:Nat):At x y x.length i ↔ i + y.length<=x.length/\(x.cps.toList.drop i).take y.length = y.cps.toList:=by
 unfold StrLaws.At;rw [StrLaws.subAt_eq];exact ⟨fun h=>⟨h.1,eq_of_beq h.2⟩,fun h=>⟨h.1,beq_iff_eq.mpr h.2⟩⟩
structure Sp1 (y:Str) (c:Nat) (pre post:List Nat):Prop where
 is:y.cps.toList = pre ++ c :: post
 no:c ∉ pre
theorem Sp1.len {y:Str} {c:Nat} {pre post:List Nat} (s:Sp1 y c pre post):y.length = pre.length + 1 + post.length:=by
 rw [<- dI,s.is,length_append,length_cons]; omega
theorem zF {x y:Str} {c:Nat} {pre post u v:List Nat} {a:Nat} (s:Sp1 y c pre post) (hx:x.cps.toList.drop a = u ++ y.cps.toList ++ v) (ha:a<=x.length) (hu:c ∉ u) :
  At x y x.length (a + u.length)/\∀ k,a<=k->k < a + u.length->¬ At x y x.length k:=by
 have hl:=dI x;have hly:=dI y;have hlen:x.length - a = u.length + y.length + v.length:=by
  have:=congrArg length hx;simp only [length_drop,length_append] at this;omega
 refine ⟨(Bq x y _).mpr ⟨by omega,?_⟩,fun k h1 h2 h3=>?_⟩
 ·rw [<- drop_drop,hx,append_assoc,drop_left,List.take_append_of_le_length (by omega),take_of_length_le (by omega)]
 ·obtain ⟨h4,h5⟩:=(Bq x y k).mp h3;obtain ⟨j,rfl⟩:∃ j,k = a + j:=⟨k - a,by omega⟩;rw [<- drop_drop,hx] at h5;have e1:(take y.length (drop j (u ++ y.cps.toList ++ v)))[pre.length]? = some c:=by
   rw [h5,s.is,getElem?_append_right (le_refl _),sub_self]; rfl
  rw [getElem?_take_of_lt (by rw [s.len]; omega),List.getElem?_drop,append_assoc] at e1;by_cases h6:j + pre.length < u.length
  ·rw [getElem?_append_left h6] at e1;exact hu (mem_of_getElem? e1)
  ·rw [getElem?_append_right (by omega),s.is,append_assoc,getElem?_append_left (by omega)] at e1;exact s.no (mem_of_getElem? e1)
theorem Ty {x y:Str} {c:Nat} {pre post:List Nat} {a:Nat} (s:Sp1 y c pre post) (hu:c ∉ x.cps.toList.drop a):∀ k,a<=k->¬ At x y x.length k:=fun k h1 h3=>by
 obtain ⟨h4,h5⟩:=(Bq x y k).mp h3;obtain ⟨j,rfl⟩:∃ j,k = a + j:=⟨k - a,by omega⟩;rw [<- drop_drop] at h5;have e1:(take y.length (drop j (x.cps.toList.drop a)))[pre.length]? = some c:=by
  rw [h5,s.is,getElem?_append_right (le_refl _),sub_self]; rfl
 rw [getElem?_take_of_lt (by rw [s.len]; omega),List.getElem?_drop] at e1;exact hu (mem_of_getElem? e1)
def lS (y:List Nat):List (List Nat)->List Nat
 | []=>[]
 | [w]=>w
 | w :: r=>w ++ y ++ lS y r
theorem gS (y w z:List Nat) (r:List (List Nat)):lS y (w :: z :: r) = w ++ y ++ lS y (z :: r):=rfl
theorem iE (y:Str):∀ ws:List Str,(Txt.join y ws).cps.toList = lS y.cps.toList (ws.map fun w=>w.cps.toList):=by
 intro ws;show (Builtin.Str.glued y ws).cps.toList = _;rw [StrLaws.glued_eq_join]
 induction ws with
 | nil=>rfl
 | cons w r ih =>
  cases r with
  | nil=>rfl
  | cons z r =>
   show (w ++ y ++ Str.join y (z :: r)).cps.toList = _;rw [map_cons,map_cons,gS,<- map_cons (f:=fun w:Str=>w.cps.toList),<- ih];simp only [Str.cps_append,toList_append]
theorem xX {x y:Str} {c:Nat} {pre post:List Nat} (s:Sp1 y c pre post):∀ (ws:List (List Nat)) (a f:Nat) (cuts:List Nat),ws ≠ []->a<=x.length->x.cps.toList.drop a = lS y.cps.toList ws->(∀ w∈ws,c ∉ w) ->
  ChainG x y x.length a cuts f->(∀ k,f<=k->¬ At x y x.length k)->(partsFrom x y.length a cuts).map (fun p=>p.cps.toList) = ws
 | [],_,_,_,h,_,_,_,_,_=>absurd rfl h
 | [w],a,f,cuts,_,ha,hx,hw,hc,hn=>by
  have no:=Ty s (a:=a) (by rw [hx]; exact hw w (by simp));cases cuts with
  | nil =>
   show [(strSub x a x.length).cps.toList] = [w];have hl:=dI x;rw [nK,take_of_length_le (by rw [length_drop]; omega),hx];rfl
  | cons d r=>exact absurd hc.2.1 (no d hc.1)
 | w :: z :: r,a,f,cuts,_,ha,hx,hw,hc,hn=>by
  rw [gS] at hx;obtain ⟨h1,h2⟩:=zF s hx ha (hw w (by simp));have hl:=dI x;have hly:=dI y;have hlen:x.length - a = w.length + y.length + (lS y.cps.toList (z :: r)).length:=by
   have:=congrArg length hx;simp only [length_drop,length_append] at this;omega
  cases cuts with
  | nil =>
   have e:f = a:=hc;exact absurd h1 (hn _ (by omega))
  | cons d q =>
   obtain ⟨c1,c2,c3,c4⟩:=hc;have e:d = a + w.length:=by
    rcases Nat.lt_trichotomy d (a + w.length) with z1 | z1 | z1
    ·exact absurd c2 (h2 d c1 z1)
    ·exact z1
    ·exact absurd h1 (c3 _ (by omega) z1)
   subst e;show (strSub x a (a + w.length)).cps.toList :: (partsFrom x y.length (a + w.length + y.length) q).map (fun p=>p.cps.toList) = _;rw [nK,hx,show a + w.length - a = w.length by omega,append_assoc,List.take_left]
   congr 1
   refine xX s (z :: r) _ f q (by simp) (by omega) ?_ (fun u hu=>hw u (mem_cons_of_mem _ hu)) c4 hn;have e3:x.cps.toList.drop (a + w.length + y.length) = drop (w.length + y.length) (x.cps.toList.drop a):=by
    rw [drop_drop]; congr 1; omega
   rw [e3,hx,append_assoc,<- drop_drop,drop_left,<- hly,drop_left]
theorem Jq {x y:Str} (hy:1<=y.length) (hk:Builtin.Str.strKind y<=Builtin.Str.strKind x):Txt.split x y = partsFrom x y.length 0 (occurrences x y 0 x.length (x.length + 1)):=by
 unfold PySem.Txt.split;by_cases h1:x.length < y.length
 ·rw [if_pos (by simp [h1])];obtain ⟨f,h2,_⟩:=occ_tight x y hy;cases e:occurrences x y 0 x.length (x.length + 1) with
  | nil =>
   show [x] = [strSub x 0 x.length];rw [StrLaws.sub_whole]
  | cons c r =>
   rw [e] at h2;have:=h2.2.1.1;omega
 ·rw [if_neg (by simp; omega)];split
  ·rename_i h2
   rw [List.isEmpty_iff.mp h2];show [x] = [strSub x 0 x.length];rw [StrLaws.sub_whole]
  ·exact partsBetween_eq x _ _
theorem Ot {y:Str} (h:∀ c∈y.cps.toList,c < 128) (x:Str):Builtin.Str.strKind y<=Builtin.Str.strKind x:=by
 have h1:Builtin.Str.strKind y = 1:=by
  unfold Builtin.Str.strKind;rw [if_pos];rw [<- all_toList];exact all_eq_true.mpr fun c hc=>decide_eq_true (lt_trans (h c hc) (by decide))
 rw [h1];unfold Builtin.Str.strKind;split
 ·exact le_refl _
 ·split <;> decide
theorem Ac {y:Str} {c:Nat} {pre post:List Nat} (s:Sp1 y c pre post) (hy:∀ d∈y.cps.toList,d < 128) {ws:List Str} (hne:ws ≠ []) (hw:∀ w∈ws,c ∉ w.cps.toList):Txt.split (Txt.join y ws) y = ws:=by
 have hyl:1<=y.length:=by rw [s.len]; omega
 rw [Jq hyl (Ot hy _)];obtain ⟨f,h1,h2⟩:=occ_tight (Txt.join y ws) y hyl;have h:=xX s (ws.map fun w=>w.cps.toList) 0 f _ (by simpa using hne) (zero_le _) (by rw [drop_zero,iE]) (by simpa using hw) h1 h2;have inj:∀ (a b:List Str),a.map (fun w=>w.cps.toList) = b.map (fun w=>w.cps.toList)->a = b:=by
  intro a
  induction a with
  | nil=>intro b hb; cases b with | nil=>rfl | cons _ _=>simp at hb
  | cons w r ih =>
   intro b hb;cases b with
   | nil=>simp at hb
   | cons z q =>
    simp only [map_cons,List.cons.injEq] at hb;rw [eG hb.1,ih q hb.2]
 exact inj _ _ h
theorem vW {y:Str} {c:Nat} {pre post:List Nat} (s:Sp1 y c pre post) {a b:Str} (ha:c ∉ a.cps.toList):PySem.Txt.partition (a ++ y ++ b) y = (a,y,b):=by
 obtain ⟨x,hx⟩:∃ x,a ++ y ++ b = x:=⟨_,rfl⟩;have hxl:x.cps.toList = a.cps.toList ++ y.cps.toList ++ b.cps.toList:=by
  rw [<- hx]; simp only [Str.cps_append,toList_append]
 have hl:=dI x;have la:=dI a;have ly:=dI y;obtain ⟨h1,h2⟩:=zF (a:=0) s (by rw [drop_zero]; exact hxl) (zero_le _) ha;rw [Nat.zero_add] at h1 h2;have hw:=find_whole x y;unfold PySem.Txt.find at hw;rw [hx];unfold PySem.Txt.partition;cases e:occurrences x y 0 x.length 1 with
 | nil =>
  rw [e] at hw;rcases hw with ⟨_,hn⟩ | ⟨i,hi,_⟩
  ·exact absurd h1 (hn _)
  ·simp at hi
 | cons i r =>
  rw [e] at hw;have hi:At x y x.length i/\∀ k,k < i->¬ At x y x.length k:=by
   rcases hw with ⟨z,_⟩ | ⟨j,hj,h3,h4⟩
   ·simp at z
   ·have:i = j:=by have:(i:Int) = (j:Int):=hj; omega
    subst this;exact ⟨h3,h4⟩
  have ei:i = a.cps.toList.length:=by
   rcases Nat.lt_trichotomy i a.cps.toList.length with z1 | z1 | z1
   ·exact absurd hi.1 (h2 i (zero_le _) z1)
   ·exact z1
   ·exact absurd h1 (hi.2 _ z1)
  subst ei;show (strSub x 0 a.cps.toList.length,y,strSub x (a.cps.toList.length + y.length) x.length) = (a,y,b);have e1:strSub x 0 a.cps.toList.length = a:=by
   apply eG;rw [nK,hxl,drop_zero,sub_zero,append_assoc,List.take_left]
  have e2:strSub x (a.cps.toList.length + y.length) x.length = b:=by
   apply eG;rw [nK,take_of_length_le (by rw [length_drop]; omega),hxl,append_assoc,<- drop_drop,drop_left,<- ly,drop_left]
  rw [e1,e2]
abbrev Hr:=(Int × Int) × (Int × Int) × Int
def mD (m:Hr):PyData:=.tuple [.tuple [.int m.1.1,.int m.1.2],.tuple [.int m.2.1.1,.int m.2.1.2],.int m.2.2]
def tE (t b:Int):Str:=if b = 1 then Str.ofString (toString t) else Str.ofString (toString t) ++ Str.ofString "/" ++ Str.ofString (toString b)
def Hu (m:Hr):Str:=tE m.1.1 m.1.2 ++ Str.ofString ":" ++ tE m.2.1.1 m.2.1.2 ++ Str.ofString "*" ++ Str.ofString (toString m.2.2)
def Sm7 (m:Hr):Prop:=m.1.1.natAbs < 10 ^ 50/\m.1.2.natAbs < 10 ^ 50/\m.2.1.1.natAbs < 10 ^ 50/\m.2.1.2.natAbs < 10 ^ 50/\m.2.2.natAbs < 10 ^ 50
theorem qR {t b:Int} (ht:t.natAbs < 10 ^ 50) (hb:b.natAbs < 10 ^ 50):(tE t b).length<=103:=by
 have l1:=fP ht;have l2:=fP hb;have sl:=jL;unfold tE;split
 ·omega
 ·rw [Str.length_append,Str.length_append]; omega
theorem qB:(Str.ofString ":").length = 1:=by decide +kernel
theorem rH:(Str.ofString "*").length = 1:=by decide +kernel
theorem dR:(Str.ofString " ").length = 1:=by decide +kernel
theorem Sx {m:Hr} (h:Sm7 m):1<=(Hu m).length/\(Hu m).length<=259:=by
 have l1:=qR h.1 h.2.1;have l2:=qR h.2.2.1 h.2.2.2.1;have l3:=fP h.2.2.2.2;have:=qB;have:=rH;unfold Hu;rw [Str.length_append,Str.length_append,Str.length_append,Str.length_append];omega
def hU (x:Str):Option Hr :=
 match gO (PySem.Txt.partition x ":").1 with
 | none=>none
 | some a=>match gO (PySem.Txt.partition (PySem.Txt.partition x ":").2.2 "*").1 with
  | none=>none
  | some b=>match eN (PySem.Txt.partition (PySem.Txt.partition x ":").2.2 "*").2.2.cps.toList with
   | none=>none
   | some n=>if n < 1 then none else some (a,b,n)
def xW (x:Str):Hr:=(hU x).getD ((0,1),(0,1),1)
theorem xV {x:Str} {m:Hr} (h:hU x = some m):xW x = m:=by
 unfold xW;rw [h]; rfl
theorem lL:eN Str.empty.cps.toList = none:=by decide +kernel
theorem Sn:(Str.ofString "*") ≠ Str.empty:=by decide +kernel
theorem tJ {y:Str} (hy:y ≠ Str.empty):(PySem.Txt.partition Str.empty y).2.2 = Str.empty:=by
 have h:=(nX Str.empty y).2.2;have e:Str.empty.length = 0:=by decide +kernel
 apply eG;have:(PySem.Txt.partition Str.empty y).2.2.cps.toList = []:=length_eq_zero_iff.mp (by rw [dI]; omega);rw [this]; rfl
structure Digs (k n:Nat) (cs:List Nat):Prop where
 al:AllDigits cs
 l1:1<=cs.length
 l2:cs.length<=k
 hd:cs.head? = some 48->cs.length = 1
 vl:digitsVal cs = n
theorem Eg (cs:List Nat) (c:Nat):digitsVal (cs ++ [c]) = digitsVal cs * 10 + (c - 48):=by
 unfold NumText.digitsVal;rw [List.foldl_append]; rfl
theorem wQ:∀ (k n:Nat),n < 10 ^ (k + 1)->∃ cs,Digs (k + 1) n cs
 | 0,n,h=>⟨[48 + n],fun c hc=>by rw [mem_singleton.mp hc]; omega,by simp,by simp,fun _=>rfl,by have:=Eg [] (48 + n); rw [nil_append] at this; rw [this]; show 0 * 10 + _ = n; omega⟩
 | k + 1,n,h=>by
  by_cases h1:n < 10
  ·obtain ⟨cs,d⟩:=wQ k n (by rw [pow_succ]; have:=pow_pos (n:=k) (show 0 < 10 by decide); omega);exact ⟨cs,d.al,d.l1,by have:=d.l2; omega,d.hd,d.vl⟩
  ·obtain ⟨cs,d⟩:=wQ k (n / 10) (by rw [pow_succ] at h; omega);have l1:=d.l1;have l2:=d.l2;refine ⟨cs ++ [48 + n % 10],fun c hc=>?_,by simp,by simp; omega,fun e=>?_,?_⟩
   ·rcases mem_append.mp hc with z | z
    ·exact d.al c z
    ·rw [mem_singleton.mp z]; omega
   ·have e2:cs.head? = some 48:=by
     cases cs with
     | nil=>simp at l1
     | cons a r=>simpa using e
    have l3:=d.hd e2;obtain ⟨a,ha⟩:∃ a,cs = [a]:=List.length_eq_one_iff.mp l3;rw [ha] at e2;have ea:a = 48:=by simpa using e2
    have v:=d.vl;rw [ha,ea] at v;have:digitsVal [48] = 0:=rfl;omega
   ·rw [Eg,d.vl]; omega
theorem Vf {k n:Nat} {cs:List Nat} (d:Digs k n cs):(Str.ofString (toString ((n:Nat):Int))).cps.toList = cs:=by
 have key:∀ c:Nat,c < 58->(Char.ofNat c).toNat = c:=by decide
 have l1:=d.l1;rw [<- d.vl,W.KIN.signs_num,NumText.toDigits_digitsVal (cs.length - 1) cs (by omega) d.al ?_,map_map]
 ·refine (map_congr_left (g:=id) fun c hc=>?_).trans (List.map_id _);have:=d.al c hc;exact key c (by omega)
 ·cases cs with
  | nil=>exact absurd l1 (by decide)
  | cons c r =>
   by_cases hc:c = 48
   ·left;have:=d.hd (by rw [hc]; rfl);omega
   ·right;have:=d.al c (by simp);exact ⟨c,r,rfl,by omega⟩
theorem pO {k:Nat} {n:Int} (h:n.natAbs < 10 ^ (k + 1)):∃ cs,Digs (k + 1) n.natAbs cs/\(Str.ofString (toString n)).cps.toList = if n < 0 then 45 :: cs else cs:=by
 obtain ⟨cs,d⟩:=wQ k n.natAbs h;refine ⟨cs,d,?_⟩;have e:=Vf d;by_cases hn:n < 0
 ·rw [if_pos hn,toString_neg hn,wB];have e3:(0:Int) - n = ((n.natAbs:Nat):Int):=by omega
  rw [e3,e];show ("-":Str).cps.toList ++ cs = 45 :: cs;rw [mW]; rfl
 ·rw [if_neg hn];have e3:n = ((n.natAbs:Nat):Int):=by omega
  rw [e3];exact e
theorem pQ {n:Int} (h:n.natAbs < 10 ^ 40):eN (Str.ofString (toString n)).cps.toList = some n:=by
 obtain ⟨cs,d,e⟩:=pO (k:=39) h;have l1:=d.l1;have l2:=d.l2;have fb:nB cs = true:=by
  unfold nB;rw [decide_eq_true l1,decide_eq_true (show cs.length<=40 by omega)];have e2:(decide (cs.head? = some 48) && decide (1 < cs.length)) = false:=by
   rw [and_eq_false_iff];by_cases h0:cs.head? = some 48
   ·right; exact decide_eq_false (by have:=d.hd h0; omega)
   ·left; exact decide_eq_false h0
  rw [e2];simp only [Bool.not_false,Bool.and_true,Bool.true_and,all_eq_true];exact fun c hc=>isDig_iff.mpr (d.al c hc)
 have hv:=d.vl;have h45:cs.head? ≠ some 45:=fun z=>by
  cases cs with
  | nil=>simp at z
  | cons a r =>
   have:=d.al a (by simp);have:a = 45:=by simpa using z
   omega
 rw [e];unfold eN;by_cases hn:n < 0
 ·rw [if_pos hn];have ef:nA (45 :: cs) = cs:=rfl;rw [ef,fb];have ne:(45 :: cs) ≠ [45,48]:=fun z=>by
   have:cs = [48]:=by simpa using z
   rw [this] at hv;have:digitsVal [48] = 0:=rfl;omega
  rw [decide_eq_false ne];simp only [Bool.not_false,Bool.and_true,if_true,List.head?_cons,hv]
  congr 1; omega
 ·rw [if_neg hn];have ef:nA cs = cs:=if_neg h45;rw [ef,fb];have ne:cs ≠ [45,48]:=fun z=>by rw [z] at h45; exact h45 rfl
  rw [decide_eq_false ne,if_neg h45];simp only [Bool.not_false,Bool.and_true,if_true,hv]
  congr 1; omega
def Oa (c:Nat):Prop:=c = 45\/(48<=c/\c<=57)
theorem pP {n:Int} {k:Nat} (h:n.natAbs < 10 ^ (k + 1)):∀ c∈(Str.ofString (toString n)).cps.toList,Oa c:=by
 obtain ⟨cs,d,e⟩:=pO h;rw [e];intro c hc;split at hc
 ·rcases mem_cons.mp hc with z | z
  ·exact .inl z
  ·exact .inr (d.al c z)
 ·exact .inr (d.al c hc)
theorem kA:(Str.ofString "/").cps.toList = [47]:=by decide +kernel
theorem nF:(Str.ofString ":").cps.toList = [58]:=by decide +kernel
theorem pH:(Str.ofString "*").cps.toList = [42]:=by decide +kernel
theorem gJ:(Str.ofString " ").cps.toList = [32]:=by decide +kernel
theorem Jr:Sp1 (Str.ofString "/") 47 [] []:=⟨kA,by simp⟩
theorem Js:Sp1 (Str.ofString ":") 58 [] []:=⟨nF,by simp⟩
theorem Sr:Sp1 (Str.ofString "*") 42 [] []:=⟨pH,by simp⟩
theorem Jt:Sp1 (Str.ofString " ") 32 [] []:=⟨gJ,by simp⟩
theorem cF (a b:Str):(a ++ b).cps.toList = a.cps.toList ++ b.cps.toList:=by simp only [Str.cps_append,toList_append]
theorem vO {t b:Int} {k:Nat} (ht:t.natAbs < 10 ^ (k + 1)) (hb:b.natAbs < 10 ^ (k + 1)):∀ c∈(tE t b).cps.toList,Oa c\/c = 47:=by
 intro c hc;unfold tE at hc;split at hc
 ·exact .inl (pP ht c hc)
 ·rw [cF,cF,kA] at hc;simp only [mem_append,mem_singleton] at hc;rcases hc with (z | z) | z
  ·exact .inl (pP ht c z)
  ·exact .inr z
  ·exact .inl (pP hb c z)
theorem Zh {m:Hr} (h:Sm7 m):∀ c∈(Hu m).cps.toList,Oa c\/c = 47\/c = 58\/c = 42:=by
 intro c hc;unfold Hu at hc;rw [cF,cF,cF,cF,nF,pH] at hc;simp only [mem_append,mem_singleton] at hc;rcases hc with (((z | z) | z) | z) | z
 ·rcases vO (k:=49) h.1 h.2.1 c z with y | y
  ·exact .inl y
  ·exact .inr (.inl y)
 ·exact .inr (.inr (.inl z))
 ·rcases vO (k:=49) h.2.2.1 h.2.2.2.1 c z with y | y
  ·exact .inl y
  ·exact .inr (.inl y)
 ·exact .inr (.inr (.inr z))
 ·exact .inl (pP (k:=49) h.2.2.2.2 c z)
theorem jC {x:Str} {c:Nat} {y:Str} (hy:y = ⟨#[c]⟩):PySem.Txt.contains x y = decide (c∈x.cps.toList):=by
 rw [hy]; exact StrLaws.found_one x c
theorem yA:(Str.ofString "/") = ⟨#[47]⟩:=by decide +kernel
theorem zW {t b:Int} (ht:t.natAbs < 10 ^ 40) (hb:b.natAbs < 10 ^ 40) (h1:1<=b) (hg:Int.gcd t b = 1):gO (tE t b) = some (t,b):=by
 have sg:=pP (k:=39) ht;have no:47 ∉ (Str.ofString (toString t)).cps.toList:=fun z=>by
  rcases sg 47 z with y | y
  ·exact absurd y (by decide)
  ·omega
 unfold tE;by_cases e:b = 1
 ·rw [if_pos e,mO (by rw [jC yA]; exact decide_eq_false no),pQ ht,e]; rfl
 ·rw [if_neg e];have hp:=vW Jr (b:=Str.ofString (toString b)) no;have hc:PySem.Txt.contains (Str.ofString (toString t) ++ Str.ofString "/" ++ Str.ofString (toString b)) "/" = true:=by
   refine (jC (x:=Str.ofString (toString t) ++ Str.ofString "/" ++ Str.ofString (toString b)) yA).trans (decide_eq_true ?_);rw [cF,cF,kA]; simp
  rw [tU hc (t:=t) (b:=b) (by rw [hp]; exact pQ ht) (by rw [hp]; exact pQ hb),if_neg];rintro (z | z)
  ·omega
  ·exact z hg
structure Lw7 (m:Hr):Prop where
 a:m.1.1.natAbs < 10 ^ 40
 b:m.1.2.natAbs < 10 ^ 40
 c:m.2.1.1.natAbs < 10 ^ 40
 d:m.2.1.2.natAbs < 10 ^ 40
 e:m.2.2.natAbs < 10 ^ 40
 b1:1<=m.1.2
 d1:1<=m.2.1.2
 e1:1<=m.2.2
 g1:Int.gcd m.1.1 m.1.2 = 1
 g2:Int.gcd m.2.1.1 m.2.1.2 = 1
theorem Lw7.sm {m:Hr} (h:Lw7 m):Sm7 m:=⟨lt_trans h.a (by decide),lt_trans h.b (by decide),lt_trans h.c (by decide),lt_trans h.d (by decide),lt_trans h.e (by decide)⟩
theorem Cg {m:Hr} (h:Lw7 m):hU (Hu m) = some m:=by
 have n1:58 ∉ (tE m.1.1 m.1.2).cps.toList:=fun z=>by
  rcases vO (k:=39) h.a h.b 58 z with (y | y) | y
  ·exact absurd y (by decide)
  ·omega
  ·exact absurd y (by decide)
 have n2:42 ∉ (tE m.2.1.1 m.2.1.2).cps.toList:=fun z=>by
  rcases vO (k:=39) h.c h.d 42 z with (y | y) | y
  ·exact absurd y (by decide)
  ·omega
  ·exact absurd y (by decide)
 have e0:Hu m = tE m.1.1 m.1.2 ++ Str.ofString ":" ++ (tE m.2.1.1 m.2.1.2 ++ Str.ofString "*" ++ Str.ofString (toString m.2.2)):=by
  apply eG;unfold Hu;simp only [cF,append_assoc]
 have p1:=vW Js (b:=tE m.2.1.1 m.2.1.2 ++ Str.ofString "*" ++ Str.ofString (toString m.2.2)) n1;have p2:=vW Sr (b:=Str.ofString (toString m.2.2)) n2;have p1':PySem.Txt.partition (Hu m) ":" = (tE m.1.1 m.1.2,(":":Str),tE m.2.1.1 m.2.1.2 ++ Str.ofString "*" ++ Str.ofString (toString m.2.2)):=by rw [e0]; exact p1
 have p2':PySem.Txt.partition (tE m.2.1.1 m.2.1.2 ++ Str.ofString "*" ++ Str.ofString (toString m.2.2)) "*" = (tE m.2.1.1 m.2.1.2,("*":Str),Str.ofString (toString m.2.2)):=p2;unfold hU;rw [p1',p2'];dsimp only;rw [zW h.a h.b h.b1 h.g1,zW h.c h.d h.d1 h.g2,pQ h.e];dsimp only;rw [if_neg (by have:=h.e1; omega)]
def aGj (C:Addr):DW:=fun ds Q X=>∃ d,ds = [d]/\((∃ x,d = .str x)->Q (.dat .none))/\((∀ x,d ≠ .str x)->X C)
theorem Wm (T:Txt K mg A):FnOk P w K mg base (eA P w) 1 A.a_qz A.d_qz ["text"] (fO K (aGj A.x_NoText)):=by
 refine gM T.F_qz.F aGz (by walk_at "l") fun cdv Ar outer s H E hr=>?_;refine ⟨_,(aM (bV (kD (gU (bI (uL (K:=K) rfl) rfl T.n_isinstance cC (aA (pv 0) (aA (kF rfl T.n_str wX (show RelV (.ty "str") (.type "str") from rfl)) aE))))) (aM (cP T.x_NoText hr.hd bM rfl (aA aF aE))) bA)),_,(cD (mP (tF (aB (pZ (by decide) (aG 0))))) (cN (aC aI aW) (by decide)) bL),?_⟩;rintro ds Q X ⟨d,rfl,k1,k2⟩;cases d with
 | str x =>
  walk_at "d";exact k1 ⟨x,rfl⟩
 | _ =>
  walk_at "d";exact k2 (fun x e=>nomatch e)
def aGg:DW:=fun ds Q _=>∃ x:Str,ds = [.str x]/\x.length<=100000/\Q (.dat (.bool (nB x.cps.toList)))
theorem aCr (T:Txt K mg A):FnOk P w K mg base (eA P w) 1 A.a_qa1 A.d_qa1 ["text"] (fO K aGg):=by
 refine gM T.F_qa1.F Zy (by walk_at "l") fun cdv Ar outer s H E hr=>?_
 refine ⟨_,(aJ (bV (PW.pt (kL (aX cZ (bI eK rfl T.n_len boot_len (aA (pv 0) aE)) aS (bK _)) (iH (aX qE (bI eK rfl T.n_len boot_len (aA (pv 0) aE)) (dL rfl T.c_MOST_FIGURES.choose_spec (show RelV (.int 40) _ from ⟨_,rfl⟩)) (bK _))))) (aM (aY kM)) bA)
   (aJ (bV (PW.pt (Ak (aX cZ (dH pU (pv 0) aS (fun _ _=>rfl)) aF (bK _)) (vT (aX qE (bI eK rfl T.n_len boot_len (aA (pv 0) aE)) aS (bK _))))) (aM (aY kM)) bA)
   (aM (aY (bI (aKp (K:=K) rfl rfl) rfl T.n_all Dl.boot_all (aA (gQ (cap:=[none]) (NC:=["sign"]) rfl (wH rfl) (Nc (pv 0)) (fun _ _ _ _=>(pD 0 ["sign"])) (fun _ _ _ _=>dE) (fun _ _ _ _=>(nV uE (pv 0) (dL rfl T.c_FIGURES.choose_spec (show RelV (.str "0123456789") _ from ⟨_,rfl⟩)) rfl))) aE)))))),_,(aR (cD (nJ (bB (aB (aQ cY (aB (cI kB (aH (aG 0) aN))) (aB aP)))) (bB (aB (aQ fX (aB (cI kB (aH (aG 0) aN))) (aB aP))))) (bG (aB kP)) bL)
   (aR (cD (zX (bB (aB (aQ cY (aB (aQ pJ (aG 0) (aB aP))) (aB aI)))) (bB (aB (aQ fX (aB (cI kB (aH (aG 0) aN))) (aB aP))))) (bG (aB kP)) bL)
   (bG (aB (cI Mn (aH (aB (bY (fC (IvS.e (Ov (aV 0))) (aO 0) dW (aQ Lz (aG 0) (aB aI)) (by decide) (by decide)))) aN)))))),?_⟩
 rintro ds Q X ⟨x,rfl,hx,k⟩;have hl:=dI x;walk_at "s";refine ⟨hx,bS (fun c=>?_) (fun c=>?_)⟩
 ·have e:nB x.cps.toList = false:=by
   unfold nB;rw [decide_eq_false (show ¬ 1<=x.cps.toList.length by omega)]; rfl
  rw [e] at k;exact k
 refine ⟨hx,bS (fun c2=>?_) (fun c2=>?_)⟩
 ·have e:nB x.cps.toList = false:=by
   unfold nB;rw [decide_eq_false (show ¬ x.cps.toList.length<=40 by omega)];simp
  rw [e] at k;exact k
 obtain ⟨c0,r,hxr⟩:∃ c0 r,x.cps.toList = c0 :: r:=by
  cases h:x.cps.toList with
  | nil=>rw [h] at hl; simp at hl; omega
  | cons c0 r=>exact ⟨c0,r,rfl⟩
 walk_at "s";refine ⟨hx,c0,?_,?_⟩
 ·rw [hxr]; exact cW (j:=0) rfl
 have ez:((⟨#[c0]⟩:Str) = "0") ↔ c0 = 48:=by
  constructor
  ·intro h;have h2:=congrArg (fun z:Str=>z.cps.toList) h;have h3:("0":Str).cps.toList = [48]:=by decide +kernel
   rw [h3] at h2;injection h2
  ·rintro rfl;apply eG;decide +kernel
 rw [hxr] at hl k;have fin:¬ (c0 = 48/\1 < x.length)->dLC (aEp (Vh 0)) [none] (Bc 0) aEj (dOp Tw (Ev 0) (dC (PyData.str (Str.ofString "0123456789")))) X
     [some (Sl.dat (PyData.str x))] (fun ds=>∃ ks,ds = List.map PyData.bool ks/\Q (Sl.dat (PyData.bool (ks.all id)))):=by
  intro hn
  refine dY sgD PyData.bool (fun c=>[oN c]) x.cps.toList (by rw [hxr]; omega) (fun Q h=>by
   walk_at "d"
   exact h) (fun c hc N acc hN=>?_) ?_
  ·unfold sgD;walk_at "d";rw [aDv];exact hN
  refine ⟨x.cps.toList.flatMap fun c=>[oN c],rfl,?_⟩;have e:nB (c0 :: r) = (x.cps.toList.flatMap fun c=>[oN c]).all id:=by
   rw [hxr,cE,List.all_map];unfold nB;rw [decide_eq_true (show 1<=(c0 :: r).length by simp),decide_eq_true (show (c0 :: r).length<=40 by omega)];have e2:(decide ((c0 :: r).head? = some 48) && decide (1 < (c0 :: r).length)) = false:=by
    rw [and_eq_false_iff];by_cases h:c0 = 48
    ·right; exact decide_eq_false fun z=>hn ⟨h,by omega⟩
    ·left; exact decide_eq_false fun z=>h (by injection z)
   rw [e2];rfl
  rw [e] at k;exact k
 refine bS (fun c3=>?_) (fun c3=>fin fun z=>c3 (ez.mpr z.1));refine ⟨hx,bS (fun c4=>?_) (fun c4=>fin fun z=>c4 (by omega))⟩;have e:nB (c0 :: r) = false:=by
  unfold nB;rw [decide_eq_true (show (c0 :: r).head? = some 48 by rw [ez.mp c3]; rfl),decide_eq_true (show 1 < (c0 :: r).length by omega)];simp
 rw [e] at k;exact k
def Yc (C:Addr):DW:=fun ds Q X=>∃ x:Str,ds = [.str x]/\x.length<=100000/\(∀ n,eN x.cps.toList = some n->Q (.dat (.int n)))/\(eN x.cps.toList = none->X C)
theorem pN (T:Txt K mg A):FnOk P w K mg base (eA P w) 2 A.a_qb1 A.d_qb1 ["text"] (fO K (Yc A.x_NoText)):=by
 refine gM T.F_qb1.F Kh (by walk_at "l") fun cdv Ar outer s H E hr=>?_
 refine ⟨_,(aJ (eY 1 Kh (Ni (aX cZ (eM Jv (pv 0) gL (eQ aS)) aF (bK _)) (eM Jv (pv 0) (eQ aS) gL) (pv 0)))
   (aJ (bV (PW.pt (kL (aX cZ (pv 0) aF (bK _)) (iH (kD (gU (dQ (aCr T) hr T.F_qa1 bF (aA (pv 1) aE))))))) (aM (cP T.x_NoText hr.hd bM rfl (aA aF aE))) bA)
   (aM (aY (cM Hl rfl T.n_int Bo (aA (pv 0) aE)))))),_,(cO (bO (aJf (bB (aB (aQ cY (aB (Pg (aG 0) mF (eR (aB aP)))) (aB aI)))) (Pg (aG 0) (eR (aB aP)) mF) (aV 0)) (aO 1))
   (aR (cD (nJ (bB (aB (aQ cY (aG 0) (aB aI)))) (mP (tF (aB (bE (aH (aG 1) aN)))))) (cN (aC aI aW) (by decide)) bL)
   (bG (aB (cI Tf (aH (aG 0) aN)))))),?_⟩
 rintro ds Q X ⟨x,rfl,hx,k1,k2⟩;refine cT (fun δ=>δ = [some (.dat (.str x)),some (.dat (.str (zG x)))]) ?_ ?_
 ·walk_at "d";refine ⟨hx,bS (fun c=>⟨hx,?_⟩) (fun c=>?_)⟩
  ·unfold zG;rw [if_pos ((qJ x).mp c)]
  ·unfold zG;rw [if_neg fun z=>c ((qJ x).mpr z)]
 rintro δ rfl;refine jA ?_;walk_at "d";have hfl:=Pf x;refine bS (fun c=>?_) (fun c=>?_)
 ·refine k2 ?_;unfold eN;rw [decide_eq_true ((uQ x).mp c)];rfl
 refine ⟨zG x,rfl,by omega,?_⟩;walk_at "d";rw [Hd];refine bS (fun c2=>?_) (fun c2=>?_)
 ·refine k2 ?_;unfold eN;rw [c2];simp
 have hs:∃ n,eN x.cps.toList = some n:=by
  unfold eN;rw [if_pos]
  ·exact ⟨_,rfl⟩
  ·rw [decide_eq_false fun z=>c ((uQ x).mpr z)];simpa using c2
 obtain ⟨n,hn⟩:=hs;obtain ⟨hl,hi⟩:=Tx hn;walk_at "d";exact ⟨by omega,n,hi,k1 n hn⟩
def aFy (C:Addr):DW:=fun ds Q X=>(∃ x:Str,ds = [.str x]/\x.length<=100000/\(∀ t b,gO x = some (t,b)->Q (.dat (.tuple [.int t,.int b])))/\(gO x = none->X C))\/(∃ d,ds = [d]/\(∀ x,d ≠ .str x)/\X C)
theorem Ao (T:Txt K mg A):FnOk P w K mg base (eA P w) 3 A.a_qc1 A.d_qc1 ["text"] (fO K (aFy A.x_NoText)):=by
 refine gM T.F_qc1.F vQ (fun ds Q E h=>?_) (fun cdv Ar outer s H E hr=>?_)
 ·rcases h with ⟨_,rfl,_⟩ | ⟨_,rfl,_⟩ <;> rfl
 refine ⟨_,(aJ (fE (dQ (Wm T) hr T.F_qz bM (aA (pv 0) aE)))
   (aJ (bV (aX wA aF (pv 0) rfl) (aM (aY (fK (aA (dQ (pN T) hr T.F_qb1 bM (aA (pv 0) aE)) (aA aS aE))))) bA)
   (aJ (eY 1 vQ (fZ F.plainAttrs_str F.slot_str_partition F.type_str_partition kI (pv 0) (aA aF aE)))
   (aJ (eY 2 vQ (dQ (pN T) hr T.F_qb1 bM (aA (fY (K:=K) rfl (pv 1)) aE)))
   (aJ (eY 3 vQ (dQ (pN T) hr T.F_qb1 bM (aA (fY (K:=K) rfl (pv 1)) aE)))
   (aJ (bV (PW.pt (kL (aX mG (pv 3) aS (bK _)) (iH (aX (neK (K:=K) rfl hr.units) (dQ (Di T) hr T.F_qb bF (aA (pv 2) (aA (pv 3) aE))) (fK (aA (pv 2) (aA (pv 3) aE))) (bK _))))) (aM (cP T.x_NoText hr.hd bM rfl (aA aF aE))) bA)
   (aM (aY (fK (aA (pv 2) (aA (pv 3) aE))))))))))),_,(aR (jY (aB (dF (aH (aG 0) aN))))
   (aR (cD (bB (aB (aQ Fu (aB aI) (aG 0)))) (bG (aB (fN (aC (dF (aH (aG 0) aN)) (aC aP aW)) (by decide)))) bL)
   (aR (bO (sS (aG 0) (aB aI)) (aO 1))
   (aR (bO (dF (aH (aB (bR 0 (aV 1))) aN)) (aO 2))
   (aR (bO (dF (aH (aB (bR 2 (aV 1))) aN)) (aO 3))
   (aR (cD (nJ (bB (aB (aQ fX (aG 3) (aB aP)))) (bB (aB (aQ aBa (aB (bE (aH (aG 2) (aH (aG 3) aN)))) (aB (fN (aC (aV 2) (aC (aV 3) aW)) (by decide))))))) (cN (aC aI aW) (by decide)) bL)
   (bG (aB (fN (aC (aV 2) (aC (aV 3) aW)) (by decide)))))))))),?_⟩
 rintro ds Q X (⟨x,rfl,hx,k1,k2⟩ | ⟨d,rfl,hd,k⟩)
 ·walk_at "s";refine ⟨.str x,rfl,fun _=>?_,fun z=>absurd rfl (z x)⟩;walk_at "s";refine bS (fun c=>?_) (fun c=>?_)
  ·have e:=mO c;refine ⟨x,rfl,hx,fun n hn=>?_,fun hn=>k2 (by rw [e,hn]; rfl)⟩;walk_at "d";exact k1 n 1 (by rw [e,hn]; rfl)
  have hc:PySem.Txt.contains x "/" = true:=by simpa using c
  obtain ⟨l1,_,l3⟩:=nX x "/";walk_at "s";refine ⟨hx,by rw [jL]; rfl,?_⟩;walk_at "s";refine ⟨_,rfl,by omega,fun t ht=>?_,fun hn=>k2 (Il hn)⟩;walk_at "s";refine ⟨_,rfl,by omega,fun b hb=>?_,fun hn=>k2 (xN hc hn)⟩;have e:=tU hc ht hb;have hbs:=Gh hb;walk_at "s";refine bS (fun c2=>k2 (by rw [e,if_pos (.inl c2)])) (fun c2=>?_);walk_at "d";refine ⟨t,b,rfl,jG (n:=10 ^ 40) (by omega) (by decide +kernel),fun z=>absurd z (by omega),fun _=>?_⟩;walk_at "d";refine ⟨Int × Int,eT2 aJh aJh (by decide) (by decide),((divInt t b).num,((divInt t b).den:Int)),(t,b),rfl,rfl,fun v hv=>?_⟩;have hv2:v = true ↔ Int.gcd t b = 1:=by
   rw [hv,Prod.mk.injEq,Ds (by omega)]
  walk_at "d";cases v with
  | true =>
   rw [if_neg (by simp)];walk_at "d";exact k1 t b (by rw [e,if_neg (by rintro (z | z); omega; exact z (hv2.mp rfl))])
  | false =>
   rw [if_pos rfl];exact k2 (by rw [e,if_pos (.inr fun z=>nomatch hv2.mpr z)])
 ·walk_at "s";exact ⟨d,rfl,fun ⟨x,e⟩=>absurd e (hd x),fun _=>k⟩
def gB (ms:List Mk) (p:Rat):Nat:=(ms.flatMap fun m=>if m.1 < p then [m] else []).length
def Yp:DW:=fun ds Q _=>∃ (ms:List Mk) (p:Rat),ds = [.list (ms.map eF),fr p]/\(∀ m∈ms,Ok m.1)/\Ok p/\ms.length<=1000/\Q (.dat (.int (gB ms p:Int)))
theorem aIg (T:Txt K mg A):FnOk P w K mg base (eA P w) 2 A.a_qk A.d_qk ["marks","place"] (fO K Yp):=by
 refine gM T.F_qk.F aHh (by walk_at "l") fun cdv Ar outer s H E hr=>?_;refine ⟨_,(aM (aY (bI (lQ (K:=K) rfl) rfl T.n_len boot_len (aA (gQ (cap:=[none,some 1]) (NC:=["mark","place"]) rfl ⟨rfl,rfl,by decide +kernel,by decide +kernel,⟨⟨_,rfl,rfl,rfl,rfl,rfl⟩,trivial⟩,(forall_mem_cons.2 ⟨rfl,(fun _ h=>nomatch h)⟩),rfl⟩ (kS (K:=K) rfl (pv 0)) (fun _ _ _ _=>(pD 0 ["mark","place"])) (fun _ _ _ _=>(Cv (gU (dQ (Wq T) hr T.F_qg bF (aA (fY (K:=K) rfl (pv 0)) (aA (pv 1) aE)))))) (fun _ _ _ _=>(pv 0))) aE)))),_,(bG (aB (cI eV (aH (aB (bY (fC (eS (bN 0)) (aO 0) (tF (aB (bE (aH (aB (bR 0 (aV 0))) (aH (aG 1) aN))))) (aV 0) (by decide) (by decide)))) aN)))),?_⟩;rintro ds Q X ⟨ms,p,rfl,hm,hp,hl,k⟩;walk_at "d";refine dY eF eF (fun m:Mk=>if m.1 < p then [m] else []) ms hl (fun Q h=>h) (fun m h N acc hN=>?_) ?_
 ·walk_at "d";refine ⟨m.1,p,rfl,hm m h,hp,?_⟩;walk_at "d";by_cases c:m.1 < p
  ·rw [if_pos c];rw [if_pos c] at hN;exact hN
  ·rw [if_neg c];rw [if_neg c] at hN;simpa using hN
 ·walk_at "d";exact k
def Up (ms:List Mk):Prop:=ms.Pairwise fun a b=>a.1 < b.1
theorem wT (a b:List Mk) (p:Rat):gB (a ++ b) p = gB a p + gB b p:=by
 unfold gB;rw [List.flatMap_append,length_append]
theorem Vl {a:List Mk} {p:Rat} (h:∀ m∈a,m.1 < p):gB a p = a.length:=by
 induction a with
 | nil=>rfl
 | cons m a ih =>
  have e:gB (m :: a) p = gB [m] p + gB a p:=wT [m] a p;have e1:gB [m] p = 1:=by unfold gB; simp [h m mem_cons_self]
  rw [e,e1,ih fun x hx=>h x (mem_cons_of_mem _ hx),length_cons];omega
theorem Qs {a:List Mk} {p:Rat} (h:∀ m∈a,¬ m.1 < p):gB a p = 0:=by
 induction a with
 | nil=>rfl
 | cons m a ih =>
  have e:gB (m :: a) p = gB [m] p + gB a p:=wT [m] a p;have e1:gB [m] p = 0:=by unfold gB; simp [h m mem_cons_self]
  rw [e,e1,ih fun x hx=>h x (mem_cons_of_mem _ hx)]
theorem xO (p:Rat):∀ {ms:List Mk},Up ms->∃ a b,ms = a ++ b/\(∀ m∈a,m.1 < p)/\(∀ m∈b,¬ m.1 < p)
 | [],_=>⟨[],[],rfl,(fun _ h=>nomatch h),fun _ h=>nomatch h⟩
 | m :: ms,h=>by
  have h1:=pairwise_cons.mp h;by_cases c:m.1 < p
  ·obtain ⟨a,b,e,h2,h3⟩:=xO p h1.2;refine ⟨m :: a,b,by rw [e]; rfl,fun x hx=>?_,h3⟩;rcases mem_cons.mp hx with rfl | hx
   ·exact c
   ·exact h2 x hx
  ·refine ⟨[],m :: ms,rfl,(fun _ h=>nomatch h),fun x hx=>?_⟩;rcases mem_cons.mp hx with rfl | hx
   ·exact c
   ·have:=h1.1 x hx;grind
theorem Vx:∀ {a b:List Mk},Up a->Up b->a.Perm b->a = b
 | [],b,_,_,h=>by rw [List.nil_perm.mp h]
 | x :: a,[],_,_,h=>absurd h.length_eq (by simp)
 | x :: a,y :: b,ha,hb,h=>by
  have h1:=pairwise_cons.mp ha;have h2:=pairwise_cons.mp hb;have e:x = y:=by
   have m1:x∈y :: b:=h.mem_iff.mp mem_cons_self;have m2:y∈x :: a:=h.mem_iff.mpr mem_cons_self;rcases mem_cons.mp m1 with z | z
   ·exact z
   ·rcases mem_cons.mp m2 with z2 | z2
    ·exact z2.symm
    ·have l1:=h2.1 x z;have l2:=h1.1 y z2;grind
  subst e;rw [Vx h1.2 h2.2 (List.perm_cons x |>.mp h)]
theorem Io {ms:List Mk} (h:Up ms):(ms.map (·.1)).Nodup:=by
 unfold Up at h;rw [nodup_iff_pairwise_ne,pairwise_map];exact h.imp fun {a b} l e=>by rw [e] at l; exact absurd l Rat.lt_irrefl
def Ig (C:Addr):DW:=fun ds Q X=>∃ ms:List Mk,ds = [.list (ms.map eF)]/\(∀ m∈ms,Ok m.1)/\(ms = []->X C)/\(60 < ms.length->X C)/\(¬ (ms.map (·.1)).Nodup->X C) /\
 (ms ≠ []->ms.length<=60->(ms.map (·.1)).Nodup->∀ res:List Mk,res.Perm ms->Up res->Q (.own (res.map eF)))
theorem aIf (T:Txt K mg A):FnOk P w K mg base (eA P w) 3 A.a_ql A.d_ql ["some"] (fO K (Ig A.x_NoMarks)):=by
 refine gM T.F_ql.F Ck (by walk_at "l") fun cdv Ar outer s H E hr=>?_
 refine ⟨_,(aJ (bV (aX cZ (bI (lQ (K:=K) rfl) rfl T.n_len boot_len (aA (pv 0) aE)) aS (bK _)) (aM (cP T.x_NoMarks hr.hd bM rfl (aA aF aE))) bA)
   (aJ (bV (aX qE (bI (lQ (K:=K) rfl) rfl T.n_len boot_len (aA (pv 0) aE)) (dL rfl T.c_MOST_MARKS.choose_spec (show RelV (.int 60) _ from ⟨_,rfl⟩)) (bK _)) (aM (cP T.x_NoMarks hr.hd bM rfl (aA aF aE))) bA)
   (aJ (eY 1 Ck (aZ aE))
   (aJ (kE PassesOwn.leaving rfl (kS (K:=K) rfl (pv 0)) (pM 2 Ck)
    (aJ (eY 3 Ck (dQ (aIg T) hr T.F_qk bF (aA (pv 1) (aA (fY (K:=K) rfl (pv 2)) aE))))
   (aJ (bV (PW.pt (Ak (aX mG (pv 3) (bI (lQ (K:=K) rfl) rfl T.n_len boot_len (aA (pv 1) aE)) (bK _)) (vT (aX (eqK (K:=K) rfl hr.units) (fY (K:=K) rfl (dH (gH (K:=K) rfl) (pv 1) (pv 3) (fun _ _=>rfl))) (fY (K:=K) rfl (pv 2)) (bK _))))) (aM (cP T.x_NoMarks hr.hd bM rfl (aA aF aE))) bA)
   (aM (fE (fZ F.plainAttrs_list F.slot_list_insert F.type_list_insert Gk (pv 1) (aA (pv 3) (aA (pv 2) aE))))))))
   (aM (aY (pv 1))))))),_,(aR (cD (bB (aB (aQ cY (aB (cI eV (aH (aG 0) aN))) (aB aP)))) (cN (aC aI aW) (by decide)) bL)
   (aR (cD (bB (aB (aQ fX (aB (cI eV (aH (aG 0) aN))) (aB aP)))) (cN (aC aI aW) (by decide)) bL)
   (aR (cA 1 (bH aW (by decide)))
   (aR (pG (wI (aV 0)) (aO 2)
    (aR (bO (bE (aH (aG 1) (aH (aB (bR 0 (aV 2))) aN))) (aO 3))
   (aR (cD (zX (bB (aB (aQ fX (aG 3) (aB (cI eV (aH (aG 1) aN)))))) (bB (aB (aQ Mb (aB (bR 0 (cB (bN 1) (aG 3)))) (aB (bR 0 (aV 2))))))) (cN (aC aI aW) (by decide)) bL)
   (Zc 1 (aG 3) (aV 2)))))
   (jX 1))))),?_⟩
 rintro ds Q X ⟨ms,rfl,ho,k0,k1,k2,k⟩;walk_at "s";refine bS (fun c=>k0 (List.eq_nil_of_length_eq_zero (by omega))) (fun c=>?_);walk_at "s";refine bS (fun c1=>k1 (by omega)) (fun c1=>?_);walk_at "s";refine jA (qV eF ms (fun Q h=>h) (fun i δ=>∃ (res:List Mk) (r1 r2:Option Sl),δ = [some (.dat (.list (ms.map eF))),some (.own (res.map eF)),r1,r2]/\Up res/\res.Perm (ms.take i)) ⟨[],_,_,rfl,List.Pairwise.nil,by simp⟩ ?_ ?_)
 ·rintro i m δ hi ⟨res,r1,r2,rfl,hu,hp⟩;have hil:i < ms.length:=(List.getElem?_eq_some_iff.mp hi).1;have hrl:res.length = i:=by rw [hp.length_eq,length_take]; omega
  have hsub:∀ x∈res,x∈ms:=fun x hx=>mem_of_mem_take (hp.mem_iff.mp hx);obtain ⟨a,b,rfl,ha,hb⟩:=xO m.1 hu;have hc:gB (a ++ b) m.1 = a.length:=by rw [wT,Vl ha,Qs hb]; rfl
  walk_at "s";refine ⟨_,m.1,rfl,fun x hx=>ho x (hsub x hx),ho m (mem_of_getElem? hi),by omega,?_⟩;rw [hc];have tk:ms.take (i + 1) = ms.take i ++ [m]:=by rw [take_add_one,hi]; rfl
  have ins:(∀ x∈b,m.1 < x.1)->∃ (res:List Mk) (r1 r2:Option Sl),[some (Sl.dat (.list (ms.map eF))),some (.own (((a ++ b).map eF).take a.length ++ eF m :: ((a ++ b).map eF).drop a.length)),some (.dat (eF m)),some (.dat (.int (a.length:Int)))] = [some (.dat (.list (ms.map eF))),some (.own (res.map eF)),r1,r2]/\Up res/\res.Perm (ms.take (i + 1)):=fun hb2=>by
   refine ⟨a ++ m :: b,some (.dat (eF m)),some (.dat (.int (a.length:Int))),?_,?_,?_⟩
   ·rw [map_append,map_append,List.take_left' (length_map _),List.drop_left' (length_map _)];rfl
   ·have h1:=pairwise_append.mp hu;refine pairwise_append.mpr ⟨h1.1,pairwise_cons.mpr ⟨hb2,h1.2.1⟩,fun x hx y hy=>?_⟩;rcases mem_cons.mp hy with rfl | hy
    ·exact ha x hx
    ·exact h1.2.2 x hx y hy
   ·rw [tk];refine List.perm_middle.trans ?_;exact (hp.cons m).trans (List.perm_append_singleton m _).symm
  walk_at "d";have fin:(∀ x∈b,m.1 < x.1)->(0<=(a.length:Int)/\(a.length:Int)<=((a ++ b).length:Int)/\(a ++ b).length < 1000/\∃ (res:List Mk) (r1 r2:Option Sl),[some (Sl.dat (.list (ms.map eF))),some (.own (((a ++ b).map eF).take (a.length:Int).toNat ++ eF m :: ((a ++ b).map eF).drop (a.length:Int).toNat)),some (.dat (eF m)),some (.dat (.int (a.length:Int)))] = [some (.dat (.list (ms.map eF))),some (.own (res.map eF)),r1,r2]/\Up res/\res.Perm (ms.take (i + 1))):=fun hb2 =>
   ⟨by omega,by rw [length_append]; omega,by omega,by rw [toNat_natCast]; exact ins hb2⟩
  refine jA ?_;walk_at "d";rcases b with _ | ⟨y,b⟩
  ·rw [if_neg (by simp)];walk_at "d";exact fin fun _ h=>nomatch h
  rw [if_pos (by rw [length_append,length_cons]; omega)];have hy:lA ((a ++ y :: b).map eF) (a.length:Int) = some (eF y):=by
   refine cW ?_;rw [map_append,map_cons,getElem?_append_right (by rw [length_map]; exact le_refl _),length_map,sub_self];rfl
  refine ⟨_,hy,?_⟩;walk_at "d";refine ⟨Rat,aMx,y.1,m.1,rfl,rfl,fun e he=>?_⟩;cases e with
  | true =>
   walk_at "d";have e1:=he.mp rfl;refine k2 fun nd=>?_;have hym:y∈ms.take i:=hp.mem_iff.mp (mem_append_right _ mem_cons_self);have nd2:((ms.take (i + 1)).map (·.1)).Nodup:=nd.sublist ((List.take_sublist _ _).map _);rw [tk,map_append,List.nodup_append] at nd2;exact nd2.2.2 y.1 (mem_map.mpr ⟨y,hym,rfl⟩) m.1 (by simp) e1
  | false =>
   have ne:y.1 ≠ m.1:=fun z=>by have:=he.mpr z; cases this
   walk_at "d";refine fin fun x hx=>?_;have h1:=(pairwise_append.mp hu).2.1;have h2:=pairwise_cons.mp h1;have h3:=hb y mem_cons_self;rcases mem_cons.mp hx with rfl | hx
   ·grind
   ·have:=h2.1 x hx;grind
 ·rintro δ ⟨res,r1,r2,rfl,hu,hp⟩;walk_at "d";rw [take_of_length_le (le_refl _)] at hp;refine k (fun z=>c (by rw [z]; rfl)) (by omega) ?_ res hp hu;exact (hp.map (·.1)).nodup_iff.mp (Io hu)
def Yi:DW:=fun ds Q _=>∃ t b:Int,ds = [.tuple [.int t,.int b]]/\t.natAbs < 10 ^ 50/\b.natAbs < 10 ^ 50/\Q (.dat (.str (tE t b)))
theorem iU (T:Txt K mg A):FnOk P w K mg base (eA P w) 1 A.a_qe1 A.d_qe1 ["x"] (fO K Yi):=by
 refine gM T.F_qe1.F Kf (by walk_at "l") fun cdv Ar outer s H E hr=>?_
 refine ⟨_,(aJ (bV (aX cZ (fY (K:=K) rfl (pv 0)) aS (bK _)) (aM (aY (cM cG rfl T.n_str Dl.boot_str (aA (fY (K:=K) rfl (pv 0)) aE)))) bA)
   (aM (aY (aU bC (aU bC (cM cG rfl T.n_str Dl.boot_str (aA (fY (K:=K) rfl (pv 0)) aE)) aF) (cM cG rfl T.n_str Dl.boot_str (aA (fY (K:=K) rfl (pv 0)) aE)))))),_,(aR (cD (bB (aB (aQ cY (aB (bR 1 (aV 0))) (aB aP)))) (bG (aB (cI fJ (aH (aB (bR 0 (aV 0))) aN)))) bL)
   (bG (aB (aQ bU (aB (aQ bU (aB (cI fJ (aH (aB (bR 0 (aV 0))) aN))) (aB aI))) (aB (cI fJ (aH (aB (bR 1 (aV 0))) aN))))))),?_⟩
 rintro ds Q X ⟨t,b,rfl,ht,hb,k⟩;have l1:=fP ht;have l2:=fP hb;have sl:=jL;unfold tE at k;walk_at "s";refine bS (fun c=>⟨Dt ht,?_⟩) (fun c=>⟨Dt ht,by omega,Dt hb,by rw [Str.length_append]; omega,?_⟩)
 ·rw [if_pos c] at k; exact k
 ·rw [if_neg c] at k; exact k
def Yf:DW:=fun ds Q _=>∃ m:Hr,ds = [mD m]/\Sm7 m/\Q (.dat (.str (Hu m)))
theorem Ab {α:Type} (f:α->Nat) (n:Nat):∀ xs:List α,(∀ x∈xs,f x<=n)->(xs.map f).sum<=xs.length * n
 | [],_=>by simp
 | x :: xs,h=>by
  have h1:=h x (by simp);have h2:=Ab f n xs fun y hy=>h y (by simp [hy]);rw [map_cons,List.sum_cons,length_cons,add_mul];omega
def aGc (C:Addr):DW:=fun ds Q X=>(∃ x:Str,ds = [.str x]/\x.length<=100000/\(∀ m,hU x = some m->Q (.dat (mD m)))/\(hU x = none->X C))\/(∃ d,ds = [d]/\(∀ x,d ≠ .str x)/\X C)
theorem aCo (T:Txt K mg A):FnOk P w K mg base (eA P w) 4 A.a_qd1 A.d_qd1 ["text"] (fO K (aGc A.x_NoText)):=by
 refine gM T.F_qd1.F pI (fun ds Q E h=>?_) (fun cdv Ar outer s H E hr=>?_)
 ·rcases h with ⟨_,rfl,_⟩ | ⟨_,rfl,_⟩ <;> rfl
 refine ⟨_,(aJ (fE (dQ (Wm T) hr T.F_qz bM (aA (pv 0) aE)))
   (aJ (eY 1 pI (fZ F.plainAttrs_str F.slot_str_partition F.type_str_partition kI (pv 0) (aA aF aE)))
   (aJ (eY 2 pI (fZ F.plainAttrs_str F.slot_str_partition F.type_str_partition kI (fY (K:=K) rfl (pv 1)) (aA aF aE)))
   (aJ (eY 3 pI (dQ (Ao T) hr T.F_qc1 bM (aA (fY (K:=K) rfl (pv 1)) aE)))
   (aJ (eY 4 pI (dQ (Ao T) hr T.F_qc1 bM (aA (fY (K:=K) rfl (pv 2)) aE)))
   (aJ (eY 5 pI (dQ (pN T) hr T.F_qb1 bM (aA (fY (K:=K) rfl (pv 2)) aE)))
   (aJ (bV (aX mG (pv 5) aS (bK _)) (aM (cP T.x_NoText hr.hd bM rfl (aA aF aE))) bA)
   (aM (aY (fK (aA (pv 3) (aA (pv 4) (aA (pv 5) aE))))))))))))),_,(aR (jY (aB (dF (aH (aG 0) aN))))
   (aR (bO (sS (aG 0) (aB aI)) (aO 1))
   (aR (bO (sS (aB (bR 2 (aV 1))) (aB aI)) (aO 2))
   (aR (bO (dF (aH (aB (bR 0 (aV 1))) aN)) (aO 3))
   (aR (bO (dF (aH (aB (bR 0 (aV 2))) aN)) (aO 4))
   (aR (bO (dF (aH (aB (bR 2 (aV 2))) aN)) (aO 5))
   (aR (cD (bB (aB (aQ fX (aG 5) (aB aP)))) (cN (aC aI aW) (by decide)) bL)
   (bG (aB (fN (aC (aV 3) (aC (aV 4) (aC (aV 5) aW))) (by decide))))))))))),?_⟩
 rintro ds Q X (⟨x,rfl,hx,k1,k2⟩ | ⟨d,rfl,hd,k⟩)
 ·walk_at "s";refine ⟨.str x,rfl,fun _=>?_,fun z=>absurd rfl (z x)⟩;obtain ⟨l1,_,l3⟩:=nX x ":";obtain ⟨l4,_,l6⟩:=nX (PySem.Txt.partition x ":").2.2 "*";unfold hU at k1 k2;walk_at "s";refine ⟨hx,by rw [qB]; rfl,?_⟩;walk_at "s";refine ⟨by omega,by rw [rH]; rfl,?_⟩;walk_at "s";refine .inl ⟨_,rfl,by omega,fun a b hv=>?_,fun hn=>k2 ?_⟩
  ·rw [hv] at k1 k2;dsimp only at k1 k2;walk_at "s";refine .inl ⟨_,rfl,by omega,fun c d hv2=>?_,fun hn=>k2 ?_⟩
   ·rw [hv2] at k1 k2;dsimp only at k1 k2;walk_at "s";refine ⟨_,rfl,by omega,fun n hn=>?_,fun hn=>k2 ?_⟩
    ·rw [hn] at k1 k2;dsimp only at k1 k2;walk_at "s";refine bS (fun c3=>?_) (fun c3=>?_)
     ·exact k2 (if_pos c3)
     ·walk_at "d";exact k1 ((a,b),(c,d),n) (if_neg c3)
    ·rw [hn]
   ·rw [hn]
  ·rw [hn]
 ·walk_at "s";exact ⟨d,rfl,fun ⟨x,e⟩=>absurd e (hd x),fun _=>k⟩
def cntL:List (Str × Int × Int):=[("marks",3,62),("drop",2,2),("names",1,1),("show",2,2),("bend",4,4),("rise",3,3),("steps",4,4),("judge",4,63)]
def iM (ws:List Str):Prop:=∃ w0 r lo hi,ws = w0 :: r/\cntL.lookup w0 = some (lo,hi)/\lo<=(ws.length:Int)/\(ws.length:Int)<=hi
theorem xR (x:Str):∀ {tb:Rn} {cl:List (Str × Int × Int)},Paired (fun (p:Str × V × PyData) (q:Str × Int × Int)=>p.1 = q.1/\p.2.2 = .tuple [.int q.2.1,.int q.2.2]) tb cl->(cl.lookup x = none->tb.lookup x = none)/\∀ lo hi,cl.lookup x = some (lo,hi)->∃ v,tb.lookup x = some (v,.tuple [.int lo,.int hi])
 | _,_,.nil=>⟨fun _=>rfl,fun _ _ z=>by simp at z⟩
 | (px,pv,pd) :: _,(qx,ql,qh) :: _,.cons ⟨e1,e2⟩ t=>by
  have ih:=xR x t;dsimp only at e1 e2;subst e1 e2;by_cases hx:x = px
  ·subst hx;simp only [lookup_cons,beq_self_eq_true];refine ⟨(fun z=>by cases z),fun lo hi z=>?_⟩;cases z;exact ⟨pv,rfl⟩
  ·simp only [lookup_cons,beq_eq_false_iff_ne.mpr hx];exact ih
theorem Sf (A:Adr) (x:Str):(cntL.lookup x = none->(gE A).lookup x = none)/\∀ lo hi,cntL.lookup x = some (lo,hi)->∃ v,(gE A).lookup x = some (v,.tuple [.int lo,.int hi]) :=
 xR x (.cons ⟨rfl,rfl⟩ (.cons ⟨rfl,rfl⟩ (.cons ⟨rfl,rfl⟩ (.cons ⟨rfl,rfl⟩ (.cons ⟨rfl,rfl⟩ (.cons ⟨rfl,rfl⟩ (.cons ⟨rfl,rfl⟩ (.cons ⟨rfl,rfl⟩ .nil))))))))
theorem Jp (x y:Str):Txt.split x y ≠ []:=by
 unfold PySem.Txt.split;split
 ·simp
 ·split
  ·simp
  ·rw [StrLaws.partsBetween_eq];obtain ⟨p,r,e⟩:=StrLaws.partsFrom_ne x y.length 0 (Builtin.Str.occurrences x y 0 x.length (x.length + 1));rw [e]; simp
def Yb (C:Addr):DW:=fun ds Q X=>(∃ (x:Str) (ws:List Str),ds = [.str x]/\x.length<=90000/\Txt.split x (Str.ofString " ") = ws/\(iM ws->Q (.own (ws.map .str)))/\(¬ iM ws->X C))\/(∃ d,ds = [d]/\(∀ x,d ≠ .str x)/\X C)
theorem aCh (T:Txt K mg A) (CT_COUNTS:tD w K A.g_COUNTS (gE A)):FnOk P w K mg base (eA P w) 1 A.a_qi1 A.d_qi1 ["row"] (fO K (Yb A.x_NoRow)):=by
 refine gM T.F_qi1.F Ag (fun ds Q E h=>?_) (fun cdv Ar outer s H E hr=>?_)
 ·rcases h with ⟨_,_,rfl,_⟩ | ⟨_,rfl,_⟩ <;> rfl
 refine ⟨_,(aJ (bV (kD (gU (bI (uL (K:=K) rfl) rfl T.n_isinstance cC (aA (pv 0) (aA (kF rfl T.n_str wX (show RelV (.ty "str") (.type "str") from rfl)) aE))))) (aM (cP T.x_NoRow hr.hd bM rfl (aA aF aE))) bA)
   (aJ (eY 1 Ag (fZ F.plainAttrs_str F.slot_str_split F.type_str_split Of (pv 0) (aA aF aE)))
   (aJ (bV (aX (yN (K:=K) rfl rfl CT_COUNTS) (xE (K:=K) rfl (pv 1)) (dL rfl T.c_COUNTS (show RelV (.ref _) (.ref _) from rfl)) rfl) (aM (cP T.x_NoRow hr.hd bM rfl (aA aF aE))) bA)
   (aJ (eY 2 Ag (dH (aDp (K:=K) rfl rfl CT_COUNTS) (dL rfl T.c_COUNTS (show RelV (.ref _) (.ref _) from rfl)) (xE (K:=K) rfl (pv 1)) (fun _ _=>rfl)))
   (aJ (bV (PW.pt (kL (aX mG (bI (lQ (K:=K) rfl) rfl T.n_len boot_len (aA (pv 1) aE)) (fY (K:=K) rfl (pv 2)) (bK _)) (iH (aX qE (bI (lQ (K:=K) rfl) rfl T.n_len boot_len (aA (pv 1) aE)) (fY (K:=K) rfl (pv 2)) (bK _))))) (aM (cP T.x_NoRow hr.hd bM rfl (aA aF aE))) bA)
   (aM (aY (pv 1)))))))),_,(aR (cD (mP (tF (aB (pZ (by decide) (aG 0))))) (cN (aC aI aW) (by decide)) bL)
   (aR (cA 1 (Nm (aG 0) (aB aI)))
   (aR (cD (bB (aB (zI (aB (cB (bN 1) (aB aP)))))) (cN (aC aI aW) (by decide)) bL)
   (aR (bO (Ph CT_COUNTS (aB (cB (bN 1) (aB aP)))) (aO 2))
   (aR (cD (nJ (bB (aB (aQ fX (aB (cI eV (aH (aG 1) aN))) (aB (bR 0 (aV 2)))))) (bB (aB (aQ fX (aB (cI eV (aH (aG 1) aN))) (aB (bR 1 (aV 2))))))) (cN (aC aI aW) (by decide)) bL)
   (jX 1)))))),?_⟩
 rintro ds Q X (⟨x,ws,rfl,hx,hws,k1,k2⟩ | ⟨d,rfl,hd,k⟩)
 ·walk_at "s";refine bS (fun c=>absurd c (by decide)) (fun _=>?_);walk_at "s";refine ⟨hx,by rw [dR]; rfl,?_⟩;rw [hws];obtain ⟨w0,r,rfl⟩:∃ w0 r,ws = w0 :: r:=by
   cases ws with
   | nil=>exact absurd hws (Jp x _)
   | cons w0 r=>exact ⟨w0,r,rfl⟩
  have a0:lA ((w0 :: r).map PyData.str) 0 = some (.str w0):=cW (j:=0) rfl;obtain ⟨t1,t2⟩:=Sf A w0;walk_at "s";refine ⟨_,a0,?_⟩;walk_at "d";cases hc:cntL.lookup w0 with
  | none =>
   rw [t1 hc];refine bS (fun _=>?_) (fun c=>absurd rfl c);exact k2 fun ⟨w1,r1,lo,hi,e,h1,_⟩=>by
    injection e with e1 e2
    rw [<- e1,hc] at h1;cases h1
  | some p =>
   obtain ⟨lo,hi⟩:=p;obtain ⟨v,hv⟩:=t2 lo hi hc;rw [hv];refine bS (fun c=>absurd c (by simp)) (fun _=>?_);walk_at "s";refine ⟨_,a0,?_⟩;walk_at "d";refine ⟨_,hv,?_⟩;walk_at "s";refine bS (fun c=>?_) (fun c=>bS (fun c2=>?_) (fun c2=>?_))
   ·exact k2 fun ⟨w1,r1,lo1,hi1,e,h1,h2,h3⟩=>by
     injection e with e1 e2
     rw [<- e1,hc] at h1;cases h1;rw [length_cons] at h2;omega
   ·exact k2 fun ⟨w1,r1,lo1,hi1,e,h1,h2,h3⟩=>by
     injection e with e1 e2
     rw [<- e1,hc] at h1;cases h1;rw [length_cons] at h3;omega
   ·walk_at "d";exact k1 ⟨w0,r,lo,hi,rfl,hc,by rw [length_cons]; omega,by rw [length_cons]; omega⟩
 ·cases d with
  | str x=>exact absurd rfl (hd x)
  | _ =>
   walk_at "s";exact k
def fA (x:Str):Bool:=decide (1<=x.length) && decide (x.length<=8) && x.cps.toList.all fun c=>decide (97<=c) && decide (c<=122)
theorem Gn:("abcdefghijklmnopqrstuvwxyz":Str).cps.toList = (range 26).map (· + 97):=by decide +kernel
theorem aDu (c:Nat):PySem.Txt.contains "abcdefghijklmnopqrstuvwxyz" ⟨#[c]⟩ = (decide (97<=c) && decide (c<=122)):=by
 rw [jC rfl,Gn];rw [Bool.eq_iff_iff];simp only [decide_eq_true_eq,and_eq_true,mem_map,mem_range];constructor
 ·rintro ⟨a,h1,rfl⟩; omega
 ·rintro ⟨h1,h2⟩; exact ⟨c - 97,by omega,by omega⟩
def aGa (C:Addr):DW:=fun ds Q X=>∃ x:Str,ds = [.str x]/\x.length<=100000/\(fA x = true->Q (.dat .none))/\(fA x = false->X C)
theorem aCg (T:Txt K mg A):FnOk P w K mg base (eA P w) 1 A.a_qj1 A.d_qj1 ["word"] (fO K (aGa A.x_NoName)):=by
 refine gM T.F_qj1.F Zr (by walk_at "l") fun cdv Ar outer s H E hr=>?_;refine ⟨_,(aM (bV (PW.pt (kL (aX cZ (bI eK rfl T.n_len boot_len (aA (pv 0) aE)) aS (bK _)) (kL (aX qE (bI eK rfl T.n_len boot_len (aA (pv 0) aE)) (dL rfl T.c_MOST_LETTERS.choose_spec (show RelV (.int 8) _ from ⟨_,rfl⟩)) (bK _)) (iH (kD (gU (bI (aKp (K:=K) rfl rfl) rfl T.n_all Dl.boot_all (aA (gQ (cap:=[none]) (NC:=["sign"]) rfl (wH rfl) (Nc (pv 0)) (fun _ _ _ _=>(pD 0 ["sign"])) (fun _ _ _ _=>dE) (fun _ _ _ _=>(nV uE (pv 0) (dL rfl T.c_LETTERS.choose_spec (show RelV (.str "abcdefghijklmnopqrstuvwxyz") _ from ⟨_,rfl⟩)) rfl))) aE)))))))) (aM (cP T.x_NoName hr.hd bM rfl (aA aF aE))) bA)),_,(cD (nJ (bB (aB (aQ cY (aB (cI kB (aH (aG 0) aN))) (aB aP)))) (nJ (bB (aB (aQ fX (aB (cI kB (aH (aG 0) aN))) (aB aP)))) (mP (tF (aB (cI Mn (aH (aB (bY (fC (IvS.e (Ov (aV 0))) (aO 0) dW (aQ Lz (aG 0) (aB aI)) (by decide) (by decide)))) aN))))))) (cN (aC aI aW) (by decide)) bL),?_⟩;rintro ds Q X ⟨x,rfl,hx,k1,k2⟩;have hl:=dI x;walk_at "d";refine ⟨hx,bS (fun c=>?_) (fun c=>⟨hx,bS (fun c2=>?_) (fun c2=>?_)⟩)⟩
 ·refine k2 ?_;unfold fA;rw [decide_eq_false (show ¬ 1<=x.length by omega)]; rfl
 ·refine k2 ?_;unfold fA;rw [decide_eq_false (show ¬ x.length<=8 by omega)];simp
 refine dY sgD PyData.bool (fun c=>[decide (97<=c) && decide (c<=122)]) x.cps.toList (by omega) (fun Q h=>by
  walk_at "d"
  exact h) (fun c hc N acc hN=>?_) ?_
 ·unfold sgD;walk_at "d";rw [aDu];exact hN
 refine ⟨x.cps.toList.flatMap fun c=>[decide (97<=c) && decide (c<=122)],rfl,?_⟩;have e:fA x = (x.cps.toList.flatMap fun c=>[decide (97<=c) && decide (c<=122)]).all id:=by
  rw [cE,List.all_map];unfold fA;rw [decide_eq_true (show 1<=x.length by omega),decide_eq_true (show x.length<=8 by omega)];rfl
 rw [<- e];walk_at "d";cases hn:fA x with
 | true=>exact bS (fun c=>absurd c (by decide)) (fun _=>k1 hn)
 | false=>exact bS (fun _=>k2 hn) (fun c=>absurd rfl c)
def Ae (q:Rat):Str:=tE q.num (q.den:Int)
theorem oE {i:Int} (h:i.natAbs < 10 ^ 90):i.natAbs.log2 < 1920:=by
 by_cases h0:i.natAbs = 0
 ·rw [h0]; decide
 ·exact (log2_lt h0).mpr (lt_of_lt_of_le h (by decide +kernel))
theorem Sc {n:Int} (h:n.natAbs < 10 ^ 90):(Str.ofString (toString n)).length<=91:=by
 obtain ⟨cs,d,e⟩:=pO (k:=89) h;have l2:=d.l2;rw [<- dI,e];split
 ·rw [length_cons]; omega
 ·omega
theorem dg9 {q:Rat} (h:Dg 89 q):q.num.natAbs < 10 ^ 90/\((q.den:Nat):Int).natAbs < 10 ^ 90:=by
 have h1:=h.n;have h2:=h.d;exact ⟨lt_of_le_of_lt h1 (by decide +kernel),by rw [natAbs_natCast]; exact lt_of_le_of_lt h2 (by decide +kernel)⟩
theorem Ci {q:Rat} (h:Dg 89 q):(Ae q).length<=183:=by
 obtain ⟨h1,h2⟩:=dg9 h;have l1:=Sc h1;have l2:=Sc h2;have sl:=jL;unfold Ae tE;split
 ·omega
 ·rw [Str.length_append,Str.length_append]; omega
def shL (qs:List Rat):Str:=Txt.join (Str.ofString " ") (qs.map Ae)
theorem oJ (y:Str) {ws:List Str} {n:Nat} (h:∀ w∈ws,w.length<=n):(Txt.join y ws).length<=ws.length * (n + y.length):=by
 unfold Txt.join;rw [size_glued];have:=Ab (fun z:Str=>z.length) n ws h;have h2:(ws.length - 1) * y.length<=ws.length * y.length:=mul_le_mul_right _ (by omega);rw [Nat.mul_add];omega
theorem Sy {qs:List Rat} (h:∀ q∈qs,Dg 89 q):(shL qs).length<=qs.length * 184:=by
 have:=oJ (Str.ofString " ") (ws:=qs.map Ae) (n:=183) fun w hw=>by
  obtain ⟨q,hq,rfl⟩:=mem_map.mp hw;exact Ci (h q hq)
 rw [dR,length_map] at this;exact this
theorem Gy {ws:List Str} {y:Str} {n:Nat} (h:∀ w∈ws,w.length<=n) (hb:ws.length * (n + y.length)<=100000):(ws.map (·.length)).sum + ws.length * y.length<=100000:=by
 have:=Ab (fun z:Str=>z.length) n ws h;rw [Nat.mul_add] at hb;omega
def shP (rows:List (List Rat)):Str:=Txt.join (Str.ofString " | ") (rows.map shL)
theorem Vp:(Str.ofString " | ").length = 3:=by decide +kernel
def Yh:DW:=fun ds Q _=>∃ q:Rat,ds = [fr q]/\Dg 89 q/\Q (.dat (.str (Ae q)))
theorem iT (T:Txt K mg A):FnOk P w K mg base (eA P w) 1 A.a_qe1 A.d_qe1 ["x"] (fO K Yh):=by
 refine gM T.F_qe1.F Kf (by walk_at "l") fun cdv Ar outer s H E hr=>?_
 refine ⟨_,(aJ (bV (aX cZ (fY (K:=K) rfl (pv 0)) aS (bK _)) (aM (aY (cM cG rfl T.n_str Dl.boot_str (aA (fY (K:=K) rfl (pv 0)) aE)))) bA)
   (aM (aY (aU bC (aU bC (cM cG rfl T.n_str Dl.boot_str (aA (fY (K:=K) rfl (pv 0)) aE)) aF) (cM cG rfl T.n_str Dl.boot_str (aA (fY (K:=K) rfl (pv 0)) aE)))))),_,(aR (cD (bB (aB (aQ cY (aB (bR 1 (aV 0))) (aB aP)))) (bG (aB (cI fJ (aH (aB (bR 0 (aV 0))) aN)))) bL)
   (bG (aB (aQ bU (aB (aQ bU (aB (cI fJ (aH (aB (bR 0 (aV 0))) aN))) (aB aI))) (aB (cI fJ (aH (aB (bR 1 (aV 0))) aN))))))),?_⟩
 rintro ds Q X ⟨q,rfl,hq,k⟩;obtain ⟨h1,h2⟩:=dg9 hq;have l1:=Sc h1;have l2:=Sc h2;have sl:=jL;unfold Ae tE at k;walk_at "s";refine bS (fun c=>⟨oE h1,?_⟩) (fun c=>⟨oE h1,by omega,oE h2,by rw [Str.length_append]; omega,?_⟩)
 ·rw [if_pos c] at k; exact k
 ·rw [if_neg c] at k; exact k
def Yg:DW:=fun ds Q _=>∃ qs:List Rat,ds = [.list (qs.map fr)]/\qs.length<=100/\(∀ q∈qs,Dg 89 q)/\Q (.dat (.str (shL qs)))
theorem aCl (T:Txt K mg A):FnOk P w K mg base (eA P w) 2 A.a_qf1 A.d_qf1 ["some"] (fO K Yg):=by
 refine gM T.F_qf1.F Zu (by walk_at "l") fun cdv Ar outer s H E hr=>?_;refine ⟨_,(aM (aY (fZ F.plainAttrs_str F.slot_str_join F.type_str_join (fD (K:=K) rfl) aF (aA (gQ (cap:=[none]) (NC:=["x"]) rfl (wH rfl) (kS (K:=K) rfl (pv 0)) (fun _ _ _ _=>(pD 0 ["x"])) (fun _ _ _ _=>dE) (fun _ _ _ _=>(dQ (iT T) hr T.F_qe1 bF (aA (pv 0) aE)))) aE)))),_,(bG (aB (gN (aB aI) (gA (fC (eS (bN 0)) (aO 0) dW (bE (aH (aG 0) aN)) (by decide) (by decide)))))),?_⟩;rintro ds Q X ⟨qs,rfl,hl,hq,k⟩;walk_at "d"
 refine dY fr PyData.str (fun q=>[Ae q]) qs (by omega) (fun Q h=>by
   walk_at "d"
   exact h) (fun q hm N acc hN=>?_) ?_
 ·walk_at "d";refine ⟨q,rfl,hq q hm,?_⟩;walk_at "d";exact hN
 ·rw [cE];refine ⟨qs.map Ae,rfl,Gy (n:=183) (fun w hw=>?_) (by rw [length_map,dR]; omega),k⟩;obtain ⟨q,hq2,rfl⟩:=mem_map.mp hw;exact Ci (hq q hq2)
def lsD (rows:List (List Rat)):List PyData:=rows.map fun r=>PyData.list (r.map fr)
def Rx:DW:=fun ds Q _=>∃ rows:List (List Rat),ds = [.list (lsD rows)]/\rows.length<=4/\(∀ r∈rows,r.length<=100/\∀ q∈r,Dg 89 q)/\Q (.dat (.str (shP rows)))
theorem aCe (T:Txt K mg A):FnOk P w K mg base (eA P w) 3 A.a_ql1 A.d_ql1 ["parts"] (fO K Rx):=by
 refine gM T.F_ql1.F Zp (by walk_at "l") fun cdv Ar outer s H E hr=>?_;refine ⟨_,(aM (aY (fZ F.plainAttrs_str F.slot_str_join F.type_str_join (fD (K:=K) rfl) aF (aA (gQ (cap:=[none]) (NC:=["some"]) rfl (wH rfl) (kS (K:=K) rfl (pv 0)) (fun _ _ _ _=>(pD 0 ["some"])) (fun _ _ _ _=>dE) (fun _ _ _ _=>(dQ (aCl T) hr T.F_qf1 bF (aA (pv 0) aE)))) aE)))),_,(bG (aB (gN (aB aI) (gA (fC (eS (bN 0)) (aO 0) dW (bE (aH (aG 0) aN)) (by decide) (by decide)))))),?_⟩;rintro ds Q X ⟨rows,rfl,hl,hq,k⟩;walk_at "d"
 refine dY (fun r:List Rat=>PyData.list (r.map fr)) PyData.str (fun r=>[shL r]) rows (by omega) (fun Q h=>by
   walk_at "d"
   exact h) (fun r hm N acc hN=>?_) ?_
 ·walk_at "d";refine ⟨r,rfl,(hq r hm).1,(hq r hm).2,?_⟩;walk_at "d";exact hN
 ·rw [cE];refine ⟨rows.map shL,rfl,Gy (n:=18400) (fun w hw=>?_) (by rw [length_map,Vp]; omega),k⟩;obtain ⟨r,hr2,rfl⟩:=mem_map.mp hw;have:=Sy (hq r hr2).2;have:=(hq r hr2).1;omega
def m7 (m:Mk):Hr:=((m.1.num,(m.1.den:Int)),(m.2.1.num,(m.2.1.den:Int)),m.2.2)
def jM (m:Mk):Str:=Hu (m7 m)
theorem Gd.lw {m:Mk} (h:Gd m):Lw7 (m7 m):=by
 have h1:=h.p.num;have h2:=h.p.den (by decide);have h3:=(Ro.dg h.h).n;have h4:=(Ro.dg h.h).d;have h5:=h.w;have h6:100 * m.1.den<=100 * 6:=Nat.mul_le_mul_left _ h2;have e4:(1000:Nat) < 10 ^ 40:=by decide +kernel
 have e5:(10:Nat) ^ 15 < 10 ^ 40:=by decide +kernel
 refine ⟨?_,?_,?_,?_,?_,aEh _,aEh _,h5.1,m.1.reduced,m.2.1.reduced⟩
 ·show m.1.num.natAbs < 10 ^ 40; omega
 ·show ((m.1.den:Nat):Int).natAbs < 10 ^ 40; rw [natAbs_natCast]; omega
 ·show m.2.1.num.natAbs < 10 ^ 40; omega
 ·show ((m.2.1.den:Nat):Int).natAbs < 10 ^ 40; rw [natAbs_natCast]; omega
 ·show m.2.2.natAbs < 10 ^ 40; omega
theorem Sw {m:Mk} (h:Gd m):32 ∉ (jM m).cps.toList:=fun z=>by
 rcases Zh h.lw.sm 32 z with (y | y) | y | y | y <;> omega
theorem nM {m:Mk} (h:Gd m):(jM m).length<=259:=(Sx h.lw.sm).2
def mS (ms:List Mk):Str:=Txt.join (Str.ofString " ") (ms.map jM)
theorem Jw {ms:List Mk} (hl:ms.length<=60) (h:∀ m∈ms,Gd m):(mS ms).length<=60000:=by
 have:=oJ (Str.ofString " ") (ws:=ms.map jM) (n:=259) fun w hw=>by
  obtain ⟨m,hm,rfl⟩:=mem_map.mp hw;exact nM (h m hm)
 rw [dR,length_map] at this;unfold mS;omega
theorem aCj (T:Txt K mg A):FnOk P w K mg base (eA P w) 2 A.a_qg1 A.d_qg1 ["mark"] (fO K Yf):=by
 refine gM T.F_qg1.F Zt (by walk_at "l") fun cdv Ar outer s H E hr=>?_;refine ⟨_,(aM (aY (aU bC (aU bC (aU bC (aU bC (dQ (iU T) hr T.F_qe1 bF (aA (fY (K:=K) rfl (pv 0)) aE)) aF) (dQ (iU T) hr T.F_qe1 bF (aA (fY (K:=K) rfl (pv 0)) aE))) aF) (cM cG rfl T.n_str Dl.boot_str (aA (fY (K:=K) rfl (pv 0)) aE))))),_,(bG (aB (aQ bU (aB (aQ bU (aB (aQ bU (aB (aQ bU (aB (bE (aH (aB (bR 0 (aV 0))) aN))) (aB aI))) (aB (bE (aH (aB (bR 1 (aV 0))) aN))))) (aB aI))) (aB (cI fJ (aH (aB (bR 2 (aV 0))) aN)))))),?_⟩;rintro ds Q X ⟨⟨⟨a,b⟩,⟨c,d⟩,e⟩,rfl,⟨h1,h2,h3,h4,h5⟩,k⟩;have l1:=qR h1 h2;have l2:=qR h3 h4;have l3:=fP h5;have c1:=qB;have c2:=rH;unfold mD;unfold Hu at k;dsimp only at h1 h2 h3 h4 h5 l1 l2 l3 k ⊢;walk_at "d";refine ⟨a,b,rfl,h1,h2,?_⟩;walk_at "d";refine ⟨by omega,c,d,rfl,h3,h4,?_⟩;walk_at "d";exact ⟨by rw [Str.length_append]; omega,by rw [Str.length_append,Str.length_append]; omega,Dt h5,by rw [Str.length_append,Str.length_append,Str.length_append]; omega,k⟩
def Rw:DW:=fun ds Q _=>∃ ms:List Mk,ds = [.list (ms.map eF)]/\ms.length<=60/\(∀ m∈ms,Gd m)/\Q (.dat (.str (mS ms)))
theorem aCi (T:Txt K mg A):FnOk P w K mg base (eA P w) 3 A.a_qh1 A.d_qh1 ["some"] (fO K Rw):=by
 refine gM T.F_qh1.F Zs (by walk_at "l") fun cdv Ar outer s H E hr=>?_;refine ⟨_,(aM (aY (fZ F.plainAttrs_str F.slot_str_join F.type_str_join (fD (K:=K) rfl) aF (aA (gQ (cap:=[none]) (NC:=["mark"]) rfl (wH rfl) (kS (K:=K) rfl (pv 0)) (fun _ _ _ _=>(pD 0 ["mark"])) (fun _ _ _ _=>dE) (fun _ _ _ _=>(dQ (aCj T) hr T.F_qg1 bF (aA (pv 0) aE)))) aE)))),_,(bG (aB (gN (aB aI) (gA (fC (eS (bN 0)) (aO 0) dW (bE (aH (aG 0) aN)) (by decide) (by decide)))))),?_⟩;rintro ds Q X ⟨ms,rfl,hl,hg,k⟩;walk_at "d"
 refine dY eF PyData.str (fun m=>[jM m]) ms (by omega) (fun Q h=>by
   walk_at "d"
   exact h) (fun m hm N acc hN=>?_) ?_
 ·walk_at "d";refine ⟨m7 m,rfl,(hg m hm).lw.sm,?_⟩;walk_at "d";exact hN
 ·rw [cE];refine ⟨ms.map jM,rfl,Gy (n:=259) (fun w hw=>?_) (by rw [length_map,dR]; omega),k⟩;obtain ⟨m,hm,rfl⟩:=mem_map.mp hw;exact nM (hg m hm)
theorem eL {ws:List Str} {j:Nat} {x:Str} (h:ws[j]? = some x):lA (ws.map PyData.str) (j:Int) = some (.str x):=cW (by rw [getElem?_map,h]; rfl)
structure One (m:Mk):Prop where
 g:Gd m
 w1:m.2.2 = 1
theorem One.ok {m:Mk} (h:One m):Ok m.2.1:=zO (Ro.dg h.g.h) (by decide)
theorem ok1:Ok (1:Rat):=⟨Ic (by decide +kernel),Ic (by decide +kernel)⟩
theorem ok0:Ok (0:Rat):=⟨Ic (by decide +kernel),Ic (by decide +kernel)⟩
theorem vH (q:Rat):tot [q] = q:=by show q + 0 = q; exact add_zero q
theorem xQ {q:Rat} (h:Ok q):∀ i,Ok (tot ([q].take i)):=fun i=>by
 cases i with
 | zero=>exact ok0
 | succ i=>rw [take_of_length_le (by simp),vH]; exact h
theorem uG (m:Mk):mB "square" [m] [m.2.1] = 0:=by
 unfold mB;rw [if_neg (by decide +kernel),if_neg (by decide +kernel)];show (m.2.2:Rat) * (m.2.1 - m.2.1) * (m.2.1 - m.2.1) + 0 = 0;rw [Rat.sub_self,Rat.mul_zero,add_zero]
theorem One.sz {m:Mk} (h:One m):MSz 12 (10 ^ 12) 9 2 12 1 [m] [m.2.1] :=
 ⟨by simp,by decide,by decide,le_refl _,by decide,fun z hz=>by rw [mem_singleton.mp hz]; exact h.g.h,fun q hq=>by rw [mem_singleton.mp hq]; exact h.g.h,fun z hz=>by rw [mem_singleton.mp hz,h.w1]; decide,by decide⟩
def sqS:Str:="square"
theorem jZ:sqS∈dZ:=by simp [dZ,sqS]
def Yl:DW:=fun ds Q _=>∃ m:Mk,ds = [.str "square",.list [eF m]]/\One m/\Q (.dat (fr m.2.1))
theorem Wn (T:Txt K mg A):FnOk P w K mg base (eA P w) 5 A.a_qq A.d_qq ["kind","marks"] (fO K Yl):=by
 refine gM T.F_qq.F sc_qq (by walk_at "l") fun cdv Ar outer s H E hr=>?_
 refine ⟨_,(aJ (nU (i:=2) (cap:=[none]) (NC:=["mark"]) sc_qq.nd rfl rfl rfl (wH rfl) (kS (K:=K) rfl (pv 1)) (fun _ _ _ _=>(pD 0 ["mark"])) (fun _ _ _ _=>dE) (fun _ _ _ _=>(fY (K:=K) rfl (pv 0))))
   (aJ (bV (aX cZ (pv 0) aF (bK _)) (aM lI) bA)
   (aJ (nU (i:=3) (cap:=[none]) (NC:=["mark"]) sc_qq.nd rfl rfl rfl (wH rfl) (kS (K:=K) rfl (pv 1)) (fun _ _ _ _=>(pD 0 ["mark"])) (fun _ _ _ _=>dE) (fun _ _ _ _=>(fK (aA (fY (K:=K) rfl (pv 0)) (aA aS aE)))))
   (aJ (bV (aX cZ (pv 0) aF (bK _)) (aM lI) bA)
   (aJ (nU (i:=4) (cap:=[none,none]) (NC:=["weight","height"]) sc_qq.nd rfl rfl rfl (wH rfl) (rR (K:=K) rfl rfl T.n_zip (aA (pv 3) (aA (pv 2) aE))) (fun _ _ _ _=>(Gb (K:=K) (n:=2) rfl rfl (bX (pD 0 ["weight","height"]) (bX (pD 1 ["weight","height"]) eZ)))) (fun _ _ _ _=>dE) (fun _ _ _ _=>(dQ (Dh T) hr T.F_qe bF (aA (pv 0) (aA (pv 1) aE)))))
   (aM (aY (dQ (aIi T) hr T.F_qf bF (aA (dQ (Df T) hr T.F_qi bF (aA (pv 4) aE)) (aA (dQ (Df T) hr T.F_qi bF (aA (pv 3) aE)) aE)))))))))),_,(aR (cA 2 (fC (eS (bN 1)) (aO 0) dW (bR 1 (aV 0)) (by decide) (by decide)))
   (aR (cD (bB (aB (aQ cY (aG 0) (aB aI)))) lF bL)
   (aR (cA 3 (fC (eS (bN 1)) (aO 0) dW (fN (aC (bR 2 (aV 0)) (aC aP aW)) (by decide)) (by decide) (by decide)))
   (aR (cD (bB (aB (aQ cY (aG 0) (aB aI)))) lF bL)
   (aR (cA 4 (fC (wL (bN 3) (bN 2)) (pV (cH (aO 0) (cH (aO 1) gI))) dW (bE (aH (aG 0) (aH (aG 1) aN))) (by decide) (by decide)))
   (bG (aB (bE (aH (aB (bE (aH (aG 4) aN))) (aH (aB (bE (aH (aG 3) aN))) aN)))))))))),?_⟩
 rintro ds Q X ⟨m,rfl,o,k⟩;have e1:((m.2.2:Int):Rat) = 1:=by rw [o.w1]; rfl
 walk_at "s";refine dY eF fr (fun m:Mk=>[m.2.1]) [m] (by simp) (fun Q h=>h) (fun m h N acc hN=>?_) ?_
 ·walk_at "d";exact hN
 rw [cE];walk_at "s";refine bS (fun c=>absurd c (by decide +kernel)) (fun _=>?_);walk_at "s";refine dY eF fr (fun m:Mk=>[(m.2.2:Rat)]) [m] (by simp) (fun Q h=>h) (fun m h N acc hN=>?_) ?_
 ·walk_at "d";exact hN
 rw [cE];walk_at "s";refine bS (fun c=>absurd c (by decide +kernel)) (fun _=>?_);walk_at "s"
 refine dY (fun p:Rat × Rat=>PyData.tuple [fr p.1,fr p.2]) fr (fun p:Rat × Rat=>[p.1 * p.2]) ([((m.2.2:Int):Rat)].zip [m.2.1]) (by simp) (fun Q h=>by
   walk_at "d"
   rw [jP]; exact h) (fun p hp N acc hN=>?_) ?_
 ·have:p = (((m.2.2:Int):Rat),m.2.1):=by simpa using hp
  subst this;walk_at "d";refine ⟨_,_,rfl,by rw [e1]; exact ok1,o.ok,?_⟩;walk_at "d";exact hN
 rw [cE];have e2:([((m.2.2:Int):Rat)].zip [m.2.1]).map (fun p=>p.1 * p.2) = [m.2.1]:=by
  show [((m.2.2:Int):Rat) * m.2.1] = [m.2.1];rw [e1,Rat.one_mul]
 rw [e2];walk_at "d";refine ⟨[m.2.1],rfl,fun q hq=>by rw [mem_singleton.mp hq]; exact o.ok,xQ o.ok,?_⟩;walk_at "d";refine ⟨[((m.2.2:Int):Rat)],rfl,fun q hq=>by rw [mem_singleton.mp hq,e1]; exact ok1,by rw [e1]; exact xQ ok1,?_⟩;walk_at "d";rw [vH,vH,e1];refine ⟨m.2.1,1,rfl,o.ok,ok1,fun z=>absurd z (by decide),fun _=>?_⟩;rw [Rat.div_def,show ((1:Rat))⁻¹ = 1 by decide +kernel,Rat.mul_one];walk_at "d";exact k
def aGi:DW:=fun ds Q _=>∃ m:Mk,ds = [.str "square",.list [eF m],.int 0,.int 0]/\One m/\Q (.dat (fr 0))
theorem aIb (T:Txt K mg A):FnOk P w K mg base (eA P w) 7 A.a_qt A.d_qt ["kind","marks","first","last"] (fO K aGi):=by
 refine gM T.F_qt.F We (by walk_at "l") fun cdv Ar outer s H E hr=>?_
 refine ⟨_,(aJ (fE (dQ (De T) hr T.F_qn bF (aA (pv 0) aE)))
   (aJ (eY 4 We (eM (tH (K:=K) rfl) (pv 1) (eQ (pv 2)) (eQ (aU fL (pv 3) aS))))
   (aM (aY (dQ (Nt T) hr T.F_qp bF (aA (pv 0) (aA (pv 4) (aA (aU vZ (aZ (aA (dQ (Wn T) hr T.F_qq bF (aA (pv 0) (aA (pv 4) aE))) aE)) (bI (lQ (K:=K) rfl) rfl T.n_len boot_len (aA (pv 4) aE))) aE)))))))),_,(aR (jY (aB (bE (aH (aG 0) aN))))
   (aR (cA 4 (mE (bN 1) (eR (aG 2)) (eR (aB (aQ eU (aG 3) (aB aP))))))
   (bG (aB (bE (aH (aG 0) (aH (aG 4) (aH (aB (bY (vX (fU (bH (aC (bE (aH (aG 0) (aH (aG 4) aN))) aW) (by decide))) (aB (cI eV (aH (aG 4) aN)))))) aN)))))))),?_⟩
 rintro ds Q X ⟨m,rfl,o,k⟩;walk_at "s";refine ⟨_,rfl,(fun k' e=>by cases e; exact pT jZ),fun _=>?_,fun h=>absurd jZ (h _ rfl)⟩;have ec:lU [eF m] (some 0) (some (0 + 1)) = [eF m]:=rfl;walk_at "s";rw [ec];refine ⟨m,rfl,o,?_⟩;walk_at "d";refine ⟨⟨by decide,by decide⟩,by decide,?_⟩;refine ⟨_,[m],[m.2.1],_,_,_,_,_,_,rfl,o.sz,by simp,rfl,(fun k' e=>by cases e; exact pT jZ),fun k' e hk'=>?_,fun h=>absurd jZ (h _ rfl)⟩;cases e;have em:mB (Str.ofString "square") [m] [m.2.1] = 0:=uG m;rw [em];walk_at "d";exact k
def Ij:DW:=fun ds Q _=>∃ m:Mk,ds = [.str "square",.list [eF m],.int 0]/\One m/\Q (.own [fr 0])
theorem aIa (T:Txt K mg A):FnOk P w K mg base (eA P w) 8 A.a_qu A.d_qu ["kind","marks","last"] (fO K Ij):=by
 refine gM T.F_qu.F aHb (by walk_at "l") fun cdv Ar outer s H E hr=>?_;refine ⟨_,(aM (aY (gQ (cap:=[none,some 0,some 1,some 2]) (NC:=["first","kind","marks","last"]) rfl ⟨rfl,rfl,by decide +kernel,by decide +kernel,⟨⟨_,rfl,rfl,rfl,rfl,rfl⟩,⟨⟨_,rfl,rfl,rfl,rfl,rfl⟩,⟨⟨_,rfl,rfl,rfl,rfl,rfl⟩,trivial⟩⟩⟩,(forall_mem_cons.2 ⟨rfl,(forall_mem_cons.2 ⟨rfl,(forall_mem_cons.2 ⟨rfl,(fun _ h=>nomatch h)⟩)⟩)⟩),rfl⟩ (jO rfl T.n_range (aA (aU fL (pv 2) aS) aE)) (fun _ _ _ _=>(pD 0 ["first","kind","marks","last"])) (fun _ _ _ _=>dE) (fun _ _ _ _=>(dQ (aIb T) hr T.F_qt bF (aA (pv 1) (aA (pv 2) (aA (pv 0) (aA (pv 3) aE))))))))),_,(qQ (fC (IvS.e (oM (aH (aB (aQ eU (aG 2) (aB aP))) aN))) (aO 0) dW (bE (aH (aG 1) (aH (aG 2) (aH (aG 0) (aH (aG 3) aN))))) (by decide) (by decide))),?_⟩;rintro ds Q X ⟨m,rfl,o,k⟩;walk_at "d"
 refine dY PyData.int fr (fun _=>[(0:Rat)]) [(0:Int)] (by simp) (fun Q h=>by
   walk_at "d"
   exact ⟨⟨by decide,by decide⟩,h⟩) (fun f hf N acc hN=>?_) ?_
 ·rw [mem_singleton.mp hf];walk_at "d";refine ⟨m,rfl,o,?_⟩;walk_at "d";exact hN
 ·exact k
def Fi:DW:=fun ds Q _=>∃ m:Mk,ds = [.str "square",.list [eF m]]/\One m/\Q (.own [.list [fr 0]])
theorem aHz (T:Txt K mg A):FnOk P w K mg base (eA P w) 9 A.a_qv A.d_qv ["kind","marks"] (fO K Fi):=by
 refine gM T.F_qv.F aHa (by walk_at "l") fun cdv Ar outer s H E hr=>?_;refine ⟨_,(aM (aY (gQ (cap:=[none,some 0,some 1]) (NC:=["last","kind","marks"]) rfl ⟨rfl,rfl,by decide +kernel,by decide +kernel,⟨⟨_,rfl,rfl,rfl,rfl,rfl⟩,⟨⟨_,rfl,rfl,rfl,rfl,rfl⟩,trivial⟩⟩,(forall_mem_cons.2 ⟨rfl,(forall_mem_cons.2 ⟨rfl,(fun _ h=>nomatch h)⟩)⟩),rfl⟩ (jO rfl T.n_range (aA (bI (lQ (K:=K) rfl) rfl T.n_len boot_len (aA (pv 1) aE)) aE)) (fun _ _ _ _=>(pD 0 ["last","kind","marks"])) (fun _ _ _ _=>dE) (fun _ _ _ _=>(dQ (aIa T) hr T.F_qu bF (aA (pv 1) (aA (pv 2) (aA (pv 0) aE)))))))),_,(qQ (fC (IvS.e (oM (aH (aB (cI eV (aH (aG 1) aN))) aN))) (aO 0) dW (bY (jQ (aH (aG 1) (aH (aG 2) (aH (aG 0) aN))))) (by decide) (by decide))),?_⟩;rintro ds Q X ⟨m,rfl,o,k⟩;walk_at "d"
 refine dY PyData.int (fun l:List Rat=>PyData.list (l.map fr)) (fun _=>[[(0:Rat)]]) [(0:Int)] (by simp) (fun Q h=>by
   walk_at "d"
   exact ⟨⟨by decide,by decide⟩,h⟩) (fun f hf N acc hN=>?_) ?_
 ·rw [mem_singleton.mp hf];walk_at "d";refine ⟨m,rfl,o,?_⟩;walk_at "d";exact hN
 ·exact k
def aGl:DW:=fun ds Q _=>∃ a:List Rat,ds = [.str "square",.list [fr 0],.list (a.map fr)]/\a.length<=60/\Q (.dat (.tuple [fr 0,.int 0]))
theorem aHx (T:Txt K mg A):FnOk P w K mg base (eA P w) 1 A.a_qx A.d_qx ["kind","costs","entries_ahead"] (fO K aGl):=by
 refine gM T.F_qx.F yD (by walk_at "l") fun cdv Ar outer s H E hr=>?_
 refine ⟨_,(aJ (eY 3 yD (xE (K:=K) rfl (pv 1)))
   (aJ (eY 4 yD aS)
   (aJ (kE PassesOwn.leaving rfl (vU (K:=K) rfl rfl T.n_enumerate (aA (eM (tH (K:=K) rfl) (pv 2) gL (eQ (aU lK (bI (lQ (K:=K) rfl) rfl T.n_len boot_len (aA (pv 1) aE)) aS))) aE)) (Gb (K:=K) (n:=2) rfl rfl (bX (pM 5 yD) (bX (pM 6 yD) eZ)))
    (aM lI))
   (aM (aY (fK (aA (pv 3) (aA (pv 4) aE)))))))),_,(aR (bO (cB (bN 1) (aB aP)) (aO 3))
   (aR (bO aP (aO 4))
   (aR (pG (Ut (bY (mE (bN 2) mF (eR (aB (aQ eU (aB (cI eV (aH (aG 1) aN))) (aB aP))))))) (pV (cH (aO 5) (cH (aO 6) gI)))
    lF)
   (bG (aB (fN (aC (aV 3) (aC (aV 4) aW)) (by decide))))))),?_⟩
 rintro ds Q X ⟨a,rfl,al,k⟩;have e0:lA [fr 0] 0 = some (fr 0):=cW (j:=0) rfl;have ec:lU (a.map fr) none (some (((0 + 1:Nat):Int) - 1)) = []:=by
  show lU (a.map fr) none (some ((0:Nat):Int)) = [];rw [rA]; rfl
 walk_at "s";refine ⟨_,e0,?_⟩;walk_at "s"
 refine jA (qV (fun p:PyData=>p) [] (fun Q h=>by
   walk_at "d"
   rw [ec]
   exact h) (fun i δ=>∃ (s5 s6:Option Sl),δ = [some (.dat (.str "square")),some (.dat (.list [fr 0])),some (.dat (.list (a.map fr))),some (.dat (fr 0)),some (.dat (.int 0)),s5,s6]) ⟨none,none,rfl⟩ (fun i x δ hi=>by simp at hi) ?_)
 rintro δ ⟨s5,s6,rfl⟩;walk_at "d";exact k
def Jn (n:Nat):List PyData:=replicate n (.list [.int 0])
def tbT (n:Nat):List PyData:=replicate n (.list [fr 0])
def enT:Nat->List Rat
 | 0=>[]
 | _ + 1=>[0]
def Ym:DW:=fun ds Q _=>∃ m:Mk,ds = [.str "square",.list [eF m],.list (Jn 60)]/\One m/\Q (.own [fr m.2.1])
theorem aHw (T:Txt K mg A):FnOk P w K mg base (eA P w) 6 A.a_qy A.d_qy ["kind","marks","starts"] (fO K Ym):=by
 refine gM T.F_qy.F nO (by walk_at "l") fun cdv Ar outer s H E hr=>?_
 refine ⟨_,(aJ (eY 3 nO (aZ aE))
   (aJ (eY 4 nO (bI (lQ (K:=K) rfl) rfl T.n_len boot_len (aA (pv 1) aE)))
   (aJ (eY 5 nO (aU lK (bI (lQ (K:=K) rfl) rfl T.n_len boot_len (aA (pv 2) aE)) aS))
   (aJ (yK PassesOwn.leaving (aX qE (pv 4) aS (bK _)) (aJ (eY 6 nO (dH (gH (K:=K) rfl) (dH (gH (K:=K) rfl) (pv 2) (pv 5) (fun _ _=>rfl)) (aU lK (pv 4) aS) (fun _ _=>rfl)))
   (aJ (eY 7 nO (eM (tH (K:=K) rfl) (pv 1) (eQ (pv 6)) (eQ (pv 4))))
   (aJ (eY 3 nO (aU gX (aU vZ (aZ (aA (dQ (Wn T) hr T.F_qq bF (aA (pv 0) (aA (pv 7) aE))) aE)) (bI (lQ (K:=K) rfl) rfl T.n_len boot_len (aA (pv 7) aE))) (pv 3)))
   (aJ (eY 4 nO (pv 6))
   (aM (eY 5 nO (aU lK (pv 5) aS))))))))
   (aM (aY (pv 3))))))),_,(aR (cA 3 (bH aW (by decide)))
   (aR (bO (cI eV (aH (aG 1) aN)) (aO 4))
   (aR (bO (aQ eU (aB (cI eV (aH (aG 2) aN))) (aB aP)) (aO 5))
   (aR (xT (bB (aB (aQ fX (aG 4) (aB aP)))) (aR (bO (cB (aIp (cB (bN 2) (aG 5))) (aB (aQ eU (aG 4) (aB aP)))) (aO 6))
   (aR (cA 7 (mE (bN 1) (eR (aG 6)) (eR (aG 4))))
   (aR (cA 3 (gW (fU (vX (fU (bH (aC (bE (aH (aG 0) (aH (aG 7) aN))) aW) (by decide))) (aB (cI eV (aH (aG 7) aN))))) (kH 3)))
   (aR (bO (aV 6) (aO 4))
   (bO (aQ eU (aG 5) (aB aP)) (aO 5)))))))
   (jX 3))))),?_⟩
 rintro ds Q X ⟨m,rfl,o,k⟩;have sl:(Jn 60).length = 60:=by simp [Jn]
 have a59:lA (Jn 60) 59 = some (.list [.int 0]):=cW (j:=59) rfl;have a0:lA [PyData.int 0] 0 = some (.int 0):=cW (j:=0) rfl;walk_at "s";walk_at "s";walk_at "s";rw [sl];refine jA ⟨fun n δ=>∃ (s6 s7:Option Sl),(n = 1/\δ = [some (.dat (.str "square")),some (.dat (.list [eF m])),some (.dat (.list (Jn 60))),some (.own []),some (.dat (.int 1)),some (.dat (.int 59)),s6,s7])\/(n = 0/\δ = [some (.dat (.str "square")),some (.dat (.list [eF m])),some (.dat (.list (Jn 60))),some (.own [fr m.2.1]),some (.dat (.int 0)),some (.dat (.int 58)),s6,s7]),⟨1,none,none,.inl ⟨rfl,rfl⟩⟩,?_⟩;rintro n δ ⟨s6,s7,⟨rfl,rfl⟩ | ⟨rfl,rfl⟩⟩
 ·walk_at "d";refine bS (fun _=>?_) (fun c=>absurd (by decide) c);walk_at "s";refine ⟨_,a59,_,a0,?_⟩;walk_at "s";have ec:lU [eF m] (some 0) (some 1) = [eF m]:=rfl;rw [ec];walk_at "s";refine ⟨m,rfl,o,?_⟩;walk_at "d";refine ⟨⟨by decide,by decide⟩,by decide,(show (1:Nat) + 0<=1000 by decide),?_⟩;walk_at "s";walk_at "d";exact ⟨0,by decide,_,_,.inr ⟨rfl,rfl⟩⟩
 ·walk_at "d";refine bS (fun c=>absurd c (by decide)) (fun _=>?_);exact k
def aFw (A:Adr):DW:=fun ds Q X=>(∃ (kd:Str) (d:PyData) (k:Int),ds = [.str kd,d,.int k]/\kd∈dZ/\¬ (0<=k/\k<=59)/\X A.x_NoNumber)\/(∃ m:Mk,ds = [.str "square",.list [eF m],.int 59]/\One m/\Q (.dat (.tuple [.list [fr m.2.1],.list (tbT 60)])))
theorem aHy (T:Txt K mg A):FnOk P w K mg base (eA P w) 10 A.a_qw A.d_qw ["kind","marks","k"] (fO K (aFw A)):=by
 refine gM T.F_qw.F sc_qw (fun ds Q E h=>?_) (fun cdv Ar outer s H E hr=>?_)
 ·rcases h with ⟨_,_,_,rfl,_⟩ | ⟨_,rfl,_⟩ <;> rfl
 refine ⟨_,(aJ (fE (dQ (De T) hr T.F_qn bF (aA (pv 0) aE)))
   (aJ (bV (PW.pt (kL (aX mG (pv 2) aS (bK _)) (iH (aX qE (pv 2) (dL rfl T.c_MOST_STEPS.choose_spec (show RelV (.int 59) _ from ⟨_,rfl⟩)) (bK _))))) (aM (cP T.x_NoNumber hr.hd bM rfl (aA aF aE))) bA)
   (aJ (eY 3 sc_qw (dQ (aHz T) hr T.F_qv bF (aA (pv 0) (aA (pv 1) aE))))
   (aJ (eY 4 sc_qw (aZ aE))
   (aJ (eY 5 sc_qw (aZ aE))
   (aJ (dG (i:=6) sc_qw.nd rfl (Or.inr rfl) (aZ aE))
   (aJ (kE PassesOwn.leaving rfl (jO rfl T.n_range (aA (aU fL (pv 2) aS) aE)) (pM 7 sc_qw)
    (aJ (nU (i:=8) (cap:=[none,some 0,some 6]) (NC:=["some","kind","entries"]) sc_qw.nd rfl rfl rfl ⟨rfl,rfl,by decide +kernel,by decide +kernel,⟨⟨_,rfl,rfl,rfl,rfl,rfl⟩,⟨⟨_,rfl,rfl,rfl,rfl,rfl⟩,trivial⟩⟩,(forall_mem_cons.2 ⟨rfl,(forall_mem_cons.2 ⟨rfl,(fun _ h=>nomatch h)⟩)⟩),rfl⟩ (kS (K:=K) rfl (pv 3)) (fun _ _ _ _=>(pD 0 ["some","kind","entries"])) (fun _ _ _ _=>dE) (fun _ _ _ _=>(dQ (aHx T) hr T.F_qx bF (aA (pv 1) (aA (pv 0) (aA (pv 2) aE))))))
   (aJ (dG (i:=6) sc_qw.nd rfl (Or.inr rfl) (gQ (cap:=[none]) (NC:=["one"]) rfl (wH rfl) (kS (K:=K) rfl (pv 8)) (fun _ _ _ _=>(pD 0 ["one"])) (fun _ _ _ _=>dE) (fun _ _ _ _=>(fY (K:=K) rfl (pv 0)))))
   (aJ (fE (fZ F.plainAttrs_list F.slot_list_append F.type_list_append jS (pv 4) (aA (pv 6) aE)))
   (aM (fE (fZ F.plainAttrs_list F.slot_list_append F.type_list_append jS (pv 5) (aA (gQ (cap:=[none]) (NC:=["one"]) rfl (wH rfl) (kS (K:=K) rfl (pv 8)) (fun _ _ _ _=>(pD 0 ["one"])) (fun _ _ _ _=>dE) (fun _ _ _ _=>(fY (K:=K) rfl (pv 0)))) aE))))))))
   (aM (aY (fK (aA (dQ (aHw T) hr T.F_qy bF (aA (pv 0) (aA (pv 1) (aA (pv 5) aE)))) (aA (pv 4) aE)))))))))))),_,(aR (jY (aB (bE (aH (aG 0) aN))))
   (aR (cD (nJ (bB (aB (aQ fX (aG 2) (aB aP)))) (bB (aB (aQ fX (aG 2) (aB aP))))) (cN (aC aI aW) (by decide)) bL)
   (aR (jI (aH (aG 0) (aH (aG 1) aN)) (aO 3))
   (aR (cA 4 (bH aW (by decide)))
   (aR (cA 5 (bH aW (by decide)))
   (aR (cA 6 (bH aW (by decide)))
   (aR (vK 6 (pG (oM (aH (aB (aQ eU (aG 2) (aB aP))) aN)) (aO 7)
    (aR (cA 8 (fC (eS (bN 3)) (aO 0) dW (bE (aH (aG 1) (aH (aG 0) (aH (aG 2) aN)))) (by decide) (by decide)))
   (aR (cA 6 (fC (eS (bN 8)) (aO 0) dW (bR 0 (aV 0)) (by decide) (by decide)))
   (aR (vK 6 (Aa 4 (aV 6)))
   (Aa 5 (bY (fC (eS (bN 8)) (aO 0) dW (bR 1 (aV 0)) (by decide) (by decide)))))))))
   (vK 4 (bG (aB (fN (aC (bY (jQ (aH (aG 0) (aH (aG 1) (aH (aG 5) aN))))) (aC (aV 4) aW)) (by decide)))))))))))),?_⟩
 rintro ds Q X (⟨kd,d,k,rfl,hk,hn,kx⟩ | ⟨m,rfl,o,k⟩)
 ·walk_at "s";refine ⟨.str kd,rfl,fun k' e=>by cases e; exact pT hk,fun _=>?_,fun h=>absurd hk (h _ rfl)⟩;walk_at "s";refine bS (fun _=>kx) (fun c=>bS (fun _=>kx) (fun c2=>absurd ⟨by omega,by omega⟩ hn))
 walk_at "s";refine ⟨_,rfl,(fun k' e=>by cases e; exact pT jZ),fun _=>?_,fun h=>absurd jZ (h _ rfl)⟩;walk_at "s";refine bS (fun c=>absurd c (by omega)) (fun _=>bS (fun c=>absurd c (by omega)) (fun _=>?_));walk_at "s";refine ⟨m,rfl,o,?_⟩;walk_at "d";walk_at "s";walk_at "s";walk_at "s";refine jA ?_;walk_at "d"
 refine Eb (lo:=0) (st:=1) (n:=60) (fun Q h=>by
   walk_at "d"
   exact ⟨⟨by decide,by decide⟩,h⟩)
  (fun i δ=>∃ s7 s8:Option Sl,δ = [some (.dat (.str "square")),some (.dat (.list [eF m])),some (.dat (.int 59)),some (.dat (.list [.list [fr 0]])),some (.own (tbT i)),some (.own (Jn i)),some (.dat (.list ((enT i).map fr))),s7,s8]) ⟨none,none,rfl⟩ ?_ ?_
 ·rintro i δ hi ⟨s7,s8,rfl⟩;have el:(enT i).length<=60:=by cases i <;> simp [enT]
  walk_at "s";refine dY (fun _:Unit=>PyData.list [fr 0]) (fun _:Unit=>PyData.tuple [fr 0,.int 0]) (fun _=>[()]) [()] (by simp) (fun Q h=>h) (fun l hl N acc hN=>?_) ?_
  ·walk_at "d";refine ⟨enT i,rfl,el,?_⟩;walk_at "d";exact hN
  walk_at "s";refine dY (fun _:Unit=>PyData.tuple [fr 0,.int 0]) fr (fun _=>[(0:Rat)]) [()] (by simp) (fun Q h=>h) (fun p hp N acc hN=>?_) ?_
  ·walk_at "d";exact hN
  have e1:tbT i ++ [PyData.list [fr 0]] = tbT (i + 1):=by simp [tbT,List.replicate_succ']
  have e2:Jn i ++ [PyData.list [PyData.int 0]] = Jn (i + 1):=by simp [Jn,List.replicate_succ']
  walk_at "s";refine ⟨by simp [tbT]; omega,?_⟩;refine dY (fun _:Unit=>PyData.tuple [fr 0,.int 0]) PyData.int (fun _=>[(0:Int)]) [()] (by simp) (fun Q h=>h) (fun p hp N acc hN=>?_) ?_
  ·walk_at "d";exact hN
  walk_at "d";refine ⟨by simp [Jn]; omega,some (.dat (.int (0 + (i:Int) * 1))),some (.own [PyData.tuple [fr 0,.int 0]]),?_⟩;rw [<- e1,<- e2];rfl
 ·rintro δ ⟨s7,s8,rfl⟩;walk_at "d";refine ⟨m,rfl,o,?_⟩;walk_at "d";exact k
def Ru (A:Adr):DW:=fun ds Q X=>(∃ (kd:Str) (d:PyData) (k:Int),ds = [.str kd,d,.int k]/\kd∈dZ/\¬ (0<=k/\k<=59)/\X A.x_NoNumber)\/(∃ m:Mk,ds = [.str "square",.list [eF m],.int 59]/\One m/\Q (.dat (.str (shP [[0],[m.2.1]]))))
theorem aCc (T:Txt K mg A):FnOk P w K mg base (eA P w) 11 A.a_qn1 A.d_qn1 ["kind","marks","k"] (fO K (Ru A)):=by
 refine gM T.F_qn1.F Kd (fun ds Q E h=>?_) (fun cdv Ar outer s H E hr=>?_)
 ·rcases h with ⟨_,_,_,rfl,_⟩ | ⟨_,rfl,_⟩ <;> rfl
 refine ⟨_,(aJ (eY 3 Kd (fY (K:=K) rfl (dQ (aHy T) hr T.F_qw bM (aA (pv 0) (aA (pv 1) (aA (pv 2) aE))))))
   (aM (aY (dQ (aCe T) hr T.F_ql1 bF (aA (aZ (aA (aZ (aA (dQ (Nt T) hr T.F_qp bF (aA (pv 0) (aA (pv 1) (aA (pv 3) aE)))) aE)) (aA (pv 3) aE))) aE))))),_,(aR (Jk 0 (aH (aG 0) (aH (aG 1) (aH (aG 2) aN))) (aO 3))
   (bG (aB (bE (aH (aB (bY (bH (aC (bY (bH (aC (bE (aH (aG 0) (aH (aG 1) (aH (aG 3) aN)))) aW) (by decide))) (aC (aV 3) aW)) (by decide)))) aN))))),?_⟩
 rintro ds Q X (⟨kd,d,k,rfl,hk,hn,kx⟩ | ⟨m,rfl,o,k⟩)
 ·walk_at "s";exact .inl ⟨kd,d,k,rfl,hk,hn,kx⟩
 walk_at "s";refine .inr ⟨m,rfl,o,?_⟩;have em:mB (Str.ofString "square") [m] [m.2.1] = 0:=uG m;walk_at "d";refine ⟨_,[m],[m.2.1],_,_,_,_,_,_,rfl,o.sz,by simp,rfl,(fun k' e=>by cases e; exact pT jZ),fun k' e hk'=>?_,fun h=>absurd jZ (h _ rfl)⟩;cases e;rw [em];walk_at "d";refine ⟨[[0],[m.2.1]],rfl,by simp,fun r hr=>?_,?_⟩
 ·simp only [mem_cons,not_mem_nil,or_false] at hr;rcases hr with rfl | rfl
  ·exact ⟨by simp,fun q hq=>by rw [mem_singleton.mp hq]; exact dg0 _⟩
  ·exact ⟨by simp,fun q hq=>by rw [mem_singleton.mp hq]; exact (Ro.dg o.g.h).mono (by decide)⟩
 ·walk_at "d";exact k
theorem Vw {q:Rat} (h:Ro q):gO (Ae q) = some (q.num,(q.den:Int)):=by
 have d:=Ro.dg h;have h1:=d.n;have h2:=d.d;refine zW (lt_of_le_of_lt h1 (by decide +kernel)) (by rw [natAbs_natCast]; exact lt_of_le_of_lt h2 (by decide +kernel)) (aEh q) ?_;exact q.reduced
def Im (x:Str):Rat:=((gO x).map fun p=>divInt p.1 p.2).getD 0
theorem Ik {x:Str} {t b:Int} (h:gO x = some (t,b)):fr (Im x) = .tuple [.int t,.int b]:=by
 obtain ⟨_,hc⟩:=Fj h;have e:Im x = divInt t b:=by unfold Im; rw [h]; rfl
 rw [e];have hb:1<=b/\Int.gcd t b = 1:=by
  rcases hc with ⟨_,rfl⟩ | ⟨_,_,h2,h3⟩
  ·exact ⟨by decide,by simp⟩
  ·exact ⟨by omega,h3⟩
 by_cases b1:b = 1
 ·subst b1;rw [Ve];rfl
 ·obtain ⟨e1,e2⟩:=(Ds (t:=t) (b:=b) (by omega)).mpr hb.2;show PyData.tuple [.int (divInt t b).num,.int ((divInt t b).den:Int)] = _;rw [e1,e2]
def vD (A:Adr):DW:=fun ds Q X=>∃ (kd:Str) (ms:List Mk) (ws:List Str),ds = [.str kd,.list (ms.map eF),.list (ws.map .str)]/\kd∈dZ/\ws.length<=60/\ms.length<=60/\(∀ w∈ws,w.length<=1000) /\
 ((ws.length ≠ ms.length/\X A.x_NoRow)\/(ws.length = ms.length/\(∃ w∈ws,gO w = none)/\X A.x_NoText)\/(MkT ms/\∃ row:List Rat,ws = row.map Ae/\row.length = ms.length/\(∀ q∈row,Ro q)/\Q (.dat (.str (Ae (mB kd ms row))))))
theorem aCb (T:Txt K mg A):FnOk P w K mg base (eA P w) 7 A.a_qo1 A.d_qo1 ["kind","marks","words"] (fO K (vD A)):=by
 refine gM T.F_qo1.F Zo (by walk_at "l") fun cdv Ar outer s H E hr=>?_
 refine ⟨_,(aJ (bV (aX kN (bI (lQ (K:=K) rfl) rfl T.n_len boot_len (aA (pv 2) aE)) (bI (lQ (K:=K) rfl) rfl T.n_len boot_len (aA (pv 1) aE)) (bK _)) (aM (cP T.x_NoRow hr.hd bM rfl (aA aF aE))) bA)
   (aM (aY (dQ (iT T) hr T.F_qe1 bF (aA (dQ (Nt T) hr T.F_qp bF (aA (pv 0) (aA (pv 1) (aA (Nh (E:=E) (cap:=[none]) (NC:=["word"]) rfl rfl rfl rfl uH (wH rfl) (kS (K:=K) rfl (pv 2)) (fun _ _ _ _=>(pD 0 ["word"])) (fun _ _ _ _=>dE) (fun _ _ _ _=>(dQ (Ao T) hr T.F_qc1 (Cz rfl rfl) (aA (pv 0) aE)))) aE)))) aE))))),_,(aR (cD (bB (aB (aQ Lw (aB (cI eV (aH (aG 2) aN))) (aB (cI eV (aH (aG 1) aN)))))) (cN (aC aI aW) (by decide)) bL)
   (bG (aB (bE (aH (aB (bE (aH (aG 0) (aH (aG 1) (aH (aB (bY (Np (eS (bN 2)) (aO 0) dW (dF (aH (aG 0) aN)) (by decide) (by decide)))) aN))))) aN))))),?_⟩
 rintro ds Q X ⟨kd,ms,ws,rfl,hk,w60,m60,hwl,hc⟩;walk_at "s";refine bS (fun c=>?_) (fun c=>?_)
 ·rcases hc with ⟨_,kx⟩ | ⟨e,_⟩ | ⟨_,row,rfl,e,_⟩
  ·exact kx
  ·exact absurd (by omega) c
  ·exact absurd (by rw [length_map]; omega) c
 have hl:ws.length = ms.length:=by omega
 have hno:(∃ w∈ws,gO w = none)->X A.x_NoText:=fun ⟨w,hw,hn⟩=>by
  rcases hc with ⟨ne,_⟩ | ⟨_,_,kx⟩ | ⟨_,row,rfl,_,hro,_⟩
  ·exact absurd hl ne
  ·exact kx
  ·obtain ⟨q,hq,rfl⟩:=mem_map.mp hw;rw [Vw (hro q hq)] at hn; cases hn
 refine Du PyData.str fr (fun x:Str=>[Im x]) (fun x=>gO x ≠ none) ws (by omega) (fun Q h=>by
   walk_at "d"
   exact h) (fun x hx N acc hN=>?_) fun hall=>?_
 ·have hxl:=hwl x hx;walk_at "d";refine .inl ⟨_,rfl,by omega,fun t b hv=>?_,fun hn=>hno ⟨x,hx,hn⟩⟩;have h2:=hN (by rw [hv]; simp);simp only [map_cons,map_nil,Ik hv] at h2;walk_at "d";exact h2
 ·rw [cE];rcases hc with ⟨ne,_⟩ | ⟨_,⟨w,hw,hn⟩,_⟩ | ⟨M,row,rfl,e,hro,kq⟩
  ·exact absurd hl ne
  ·exact absurd hn (hall w hw)
  ·have n1:=M.n1;have er:(row.map Ae).map Im = row:=by
    rw [map_map];refine (map_congr_left (g:=id) fun q hq=>?_).trans (List.map_id _);show ((gO (Ae q)).map fun p=>divInt p.1 p.2).getD 0 = q;rw [Vw (hro q hq)];exact num_divInt_den q
   rw [er];refine ⟨_,ms,row,_,_,_,_,_,_,rfl,M.ms hro,(fun e=>by rw [e] at n1; simp at n1),e,(fun k2 e=>by cases e; exact pT hk),(fun k2 e hk2=>?_),fun z=>absurd hk (z kd rfl)⟩;cases e;walk_at "d";refine ⟨_,rfl,(M.dg hro kd).mono (by decide),?_⟩;walk_at "d";exact kq
def Rz:DW:=fun ds Q _=>∃ k:Int,ds = [.int k]/\Q (.dat (.bool (decide (0<=k) && decide (k<=3))))
theorem aIc (T:Txt K mg A):FnOk P w K mg base (eA P w) 1 A.a_qs A.d_qs ["bend"] (fO K Rz):=by
 refine gM T.F_qs.F aHc (by walk_at "l") fun cdv Ar outer s H E hr=>?_;refine ⟨_,(aM (aY (Am (bI (uL (K:=K) rfl) rfl T.n_isinstance cC (aA (pv 0) (aA (kF rfl T.n_int Bo (show RelV (.ty "int") (.type "int") from rfl)) aE))) (Am (aBm (bI (uL (K:=K) rfl) rfl T.n_isinstance cC (aA (pv 0) (aA (kF rfl T.n_bool Vo (show RelV (.ty "bool") (.type "bool") from rfl)) aE)))) (Nf (Nl Wl Wl aS (pv 0) (dL rfl T.c_MOST_BEND.choose_spec (show RelV (.int 3) _ from ⟨_,rfl⟩)))))))),_,(bG (aB (Bk (aB (pZ (by decide) (aG 0))) (Bk (aB (aDz (aB (pZ (by decide) (aG 0))))) (Pj (aB aP) (aG 0) (aB aP)))))),?_⟩;rintro ds Q X ⟨k,rfl,kq⟩;walk_at "d";refine bS (fun _=>bS (fun _=>bS (fun c=>?_) (fun c=>?_)) (fun c=>absurd (by decide) c)) (fun c=>absurd (by decide) c)
 ·rw [decide_eq_true c,Bool.true_and] at kq; exact kq
 ·rw [decide_eq_false c,Bool.false_and] at kq; exact kq
def Iq:List { x:Str // PyData.strOk x = true }:=[⟨"far",by decide +kernel⟩,⟨"square",by decide +kernel⟩]
def Yr (A:Adr):DW:=fun ds _ X=>∃ (kd:Str) (d:PyData) (k:Int),ds = [.str kd,d,.int k]/\(kd = "far"\/kd = "square")/\¬ (0<=k/\k<=3)/\X A.x_NoBend
theorem aId (T:Txt K mg A):FnOk P w K mg base (eA P w) 2 A.a_qr A.d_qr ["kind","marks","bend"] (fO K (Yr A)):=by
 refine gM T.F_qr.F aHd (by walk_at "l") fun cdv Ar outer s H E hr=>?_
 refine ⟨_,(aJ (bV (PW.pt (kL (kD (gU (bI (uL (K:=K) rfl) rfl T.n_isinstance cC (aA (pv 0) (aA (kF rfl T.n_str wX (show RelV (.ty "str") (.type "str") from rfl)) aE))))) (iH (aX (Dj (K:=K) rfl hr.units) (pv 0) (fK (aA aF (aA aF aE))) rfl)))) (aM (cP T.x_NoKind hr.hd bM rfl (aA aF aE))) bA)
   (aJ (bV (kD (gU (dQ (aIc T) hr T.F_qs bF (aA (pv 2) aE)))) (aM (cP T.x_NoBend hr.hd bM rfl (aA aF aE))) bA)
   (aJ lI
   (aJ lI
   (aM lI))))),_,(aR (cD (nJ (mP (tF (aB (pZ (by decide) (aG 0))))) (bB (aB (aQ tZ (aG 0) (aB (fN (aC aI (aC aI aW)) (by decide))))))) (cN (aC aI aW) (by decide)) bL)
   (aR (cD (mP (tF (aB (bE (aH (aG 2) aN))))) (cN (aC aI aW) (by decide)) bL)
   (aR lF
   (aR lF
   lF)))),?_⟩
 rintro ds Q X ⟨kd,d,k,rfl,hk,hn,kx⟩;have hok:PyData.strOk kd = true:=by rcases hk with rfl | rfl <;> decide +kernel
 walk_at "s";refine bS (fun c=>absurd c (by decide)) (fun _=>?_);refine ⟨_,Pl,⟨kd,hok⟩,Iq,rfl,rfl,fun b hb=>?_⟩;have hm:(⟨kd,hok⟩:{ x:Str // PyData.strOk x = true })∈Iq:=by
  rcases hk with rfl | rfl <;> simp [Iq]
 rw [hb.mpr hm];walk_at "s";refine ⟨k,rfl,?_⟩;have hf:(decide (0<=k) && decide (k<=3)) = false:=by
  rw [and_eq_false_iff];by_cases h:0<=k
  ·right; exact decide_eq_false fun z=>hn ⟨h,z⟩
  ·left; exact decide_eq_false h
 rw [hf];walk_at "d";exact kx
theorem tV (zs:List Str):fM (zs.map PyData.str) = true:=by
 induction zs with
 | nil=>rfl
 | cons m r ih=>rw [map_cons]; show (oQ (PyData.str m) && fM (r.map PyData.str)) = true; rw [ih]; rfl
theorem Og:∀ ms:List Mk,mV (ms.map eF) = true
 | []=>rfl
 | m :: r=>by rw [map_cons]; show (nZ (eF m) && mV (r.map eF)) = true; rw [Og r]; rfl
theorem aCp (T:Txt K mg A):FnOk P w K mg base (eA P w) 1 A.a_qb2 A.d_qb2 ["self"] (vM A.c_Desk "kept") :=
 aCs T.F_qb2 Zx rfl T.cl_Desk T.nA_Desk fun cdv Ar outer s H E hr=>aM (aBi (pv 0) yL rfl)
def Ih (C:Addr):DWK:=fun kv ds Q X=>∃ x:Str,ds = [.str x]/\(∀ d,kv.lookup x = some d->Q (.dat d))/\(kv.lookup x = none->X C)
theorem aCm (T:Txt K mg A):FnOk P w K mg base (eA P w) 1 A.a_qe2 A.d_qe2 ["self","name"] (Ze K A.c_Desk "kept" (Ih A.x_NoName)):=by
 refine okR T.F_qe2 Zv (fun kv ds Q E h=>?_) (fun cdv Ar outer s H E hr=>?_)
 ·obtain ⟨_,rfl,_⟩:=h; rfl
 refine ⟨_,(aJ (bV (aBh (Gc (hu1 hr.units) (pv 1) (rS (pv 0) rfl))) (aM (cP T.x_NoName hr.hd bM rfl (aA aF aE))) bA)
   (aM (aY (Tn (hu1 hr.units) (rS (pv 0) rfl) (pv 1) (fun _ _=>rfl))))),_,(aR (cD (Fk 0 T.cl_Desk T.nA_Desk (aG 1)) (cN (aC aI aW) (by decide)) bL)
   (bG (aB (Vm 0 T.cl_Desk T.nA_Desk (aG 1))))),?_⟩
 rintro kv ds Q X ⟨x,rfl,k1,k2⟩;walk_at "s";refine ⟨kv,rfl,?_⟩;cases e:kv.lookup x with
 | none=>exact bS (fun _=>k2 e) (fun c=>absurd rfl c)
 | some d =>
  refine bS (fun c=>absurd c (by simp)) (fun _=>?_);walk_at "d";exact ⟨kv,rfl,d,e,k1 d e⟩
def aDf (A:Adr):LG:=fun kv ds R ex=>∃ (nm:Str) (ws:List Str),ds = [.str nm,.list (ws.map .str)]/\nm.length<=100000/\ws.length<=60/\(∀ w∈ws,w.length<=1000) /\
 ((fA nm = false /\ ex A.x_NoName) \/ (fA nm = true /\ (∃ w ∈ ws, hU w = none) /\ ex A.x_NoText) \/
  (∃ ms : List Mk, ws = ms.map jM /\ fA nm = true /\ ms ≠ [] /\ (∀ m ∈ ms, Gd m) /\ kv.length < 1000 /\ (¬ (ms.map (·.1)).Nodup -> ex A.x_NoMarks) /\
   ((ms.map (·.1)).Nodup->∀ res:List Mk,res.Perm ms->Up res->R (putP kv nm (.list (res.map eF))) (.str "ok"))))
theorem aCn (T:Txt K mg A):FnOk P w K mg base (eA P w) 5 A.a_qd2 A.d_qd2 ["self","name","words"] (Ss K A.c_Desk "kept" (aDf A)):=by
 refine okG T.F_qd2 Zw (fun kv ds R ex h=>?_) (fun cdv Ar outer s H E hr=>?_)
 ·obtain ⟨_,_,rfl,_⟩:=h; rfl
 refine ⟨_,(aJ (fE (dQ (aCg T) hr T.F_qj1 bM (aA (pv 1) aE)))
   (aJ (Th (hu1 hr.units) (rS (pv 0) rfl) (pv 1) (dQ (aIf T) hr T.F_ql bM (aA (Nh (E:=E) (cap:=[none]) (NC:=["word"]) rfl rfl rfl rfl uH (wH rfl) (kS (K:=K) rfl (pv 2)) (fun _ _ _ _=>(pD 0 ["word"])) (fun _ _ _ _=>dE) (fun _ _ _ _=>(dQ (aCo T) hr T.F_qd1 (Cz rfl rfl) (aA (pv 0) aE)))) aE)) rfl)
   (aM (aY aF)))),fun p_ dx_ d_ kv_ hp_ hk_=>⟨_,(rZ hk_ (jY (aB (dF (aH (aG 1) aN))))
   (aCv 1 hk_ (wR (lT (kv:=kv_) (C:=A.c_Desk) (f:="kept")) hp_ T.cl_Desk T.nA_Desk) (Dc (aH (aB (bY (Np (eS (bN 2)) (aO 0) dW (dF (aH (aG 0) aN)) (by decide) (by decide)))) aN)) (fun H_=>(bG (aB aI))))),?_⟩⟩
 rintro ds R ex ⟨nm,ws,rfl,hnl,w60,hwl,hc⟩;walk_at "d";refine ⟨nm,rfl,hnl,fun hnm=>?_,fun hnm=>?_⟩
 ·have hno:(∃ w∈ws,hU w = none)->ex A.x_NoText:=fun ⟨w,hw,hn⟩=>by
   rcases hc with ⟨e,_⟩ | ⟨_,_,kx⟩ | ⟨ms,rfl,_,_,hg,_⟩
   ·rw [hnm] at e; cases e
   ·exact kx
   ·obtain ⟨m,hm,rfl⟩:=mem_map.mp hw;rw [show hU (jM m) = some (m7 m) from Cg (hg m hm).lw] at hn; cases hn
  walk_at "d";refine ⟨nm,rfl,?_⟩
  refine Du PyData.str mD (fun z=>[xW z]) (fun z=>hU z ≠ none) ws (by omega) (fun Q h=>by
    walk_at "d"
    exact h) (fun z hz N acc hN=>?_) fun hall=>?_
  ·have hzl:=hwl z hz;walk_at "d";refine .inl ⟨z,rfl,by omega,fun m hm=>?_,fun hn=>hno ⟨z,hz,hn⟩⟩;walk_at "d";have:=hN (by rw [hm]; simp);rw [xV hm] at this;exact ⟨rfl,this⟩
  ·rw [cE];rcases hc with ⟨e,_⟩ | ⟨_,⟨w,hw,hn⟩,_⟩ | ⟨ms,rfl,_,hne,hg,hkl,kx,k⟩
   ·rw [hnm] at e; cases e
   ·exact absurd hn (hall w hw)
   ·have e:((ms.map jM).map xW).map mD = ms.map eF:=by
     rw [map_map,map_map];refine map_congr_left fun m hm=>?_;show mD (xW (jM m)) = eF m;rw [xV (show hU (jM m) = some (m7 m) from Cg (hg m hm).lw)]; rfl
    rw [e];rw [length_map] at w60;refine ⟨ms,rfl,fun m hm=>?_,fun z=>absurd z hne,fun z=>absurd w60 (by omega),kx,fun _ _ nd res hp hu=>?_⟩
    ·have l:=(hg m hm).lw;exact ⟨jG (n:=10 ^ 40) (le_of_lt l.a) (by decide +kernel),jG (n:=10 ^ 40) (le_of_lt l.b) (by decide +kernel)⟩
    ·walk_at "d";exact ⟨yT _,Og _,hkl,k nd res hp hu⟩
 ·rcases hc with ⟨_,kx⟩ | ⟨e,_⟩ | ⟨_,_,e,_⟩
  ·exact kx
  ·rw [hnm] at e; cases e
  ·rw [hnm] at e; cases e
def Fb (A:Adr) (kd:Str) (k:Int) (X:DX):Prop:=(kd ≠ "sum"/\¬ (0<=k/\k<=3)/\X A.x_NoBend)\/(kd = "sum"/\k ≠ 0/\k ≠ 1/\X A.x_NoKind)
def aGf (A:Adr):DW:=fun ds _ X=>∃ (kd:Str) (d:PyData) (k:Int),ds = [.str kd,d,.int k]/\kd∈dZ/\Fb A kd k X
theorem aCf (T:Txt K mg A):FnOk P w K mg base (eA P w) 3 A.a_qk1 A.d_qk1 ["kind","marks","bend"] (fO K (aGf A)):=by
 refine gM T.F_qk1.F Zq (by walk_at "l") fun cdv Ar outer s H E hr=>?_
 refine ⟨_,(aJ (bV (aX kN (pv 0) aF (bK _)) (aM (aY (dQ (aId T) hr T.F_qr bM (aA (pv 0) (aA (pv 1) (aA (pv 2) aE)))))) bA)
   (aJ (bV (aX cZ (pv 2) aS (bK _)) (aM lI) bA)
   (aJ (bV (aX cZ (pv 2) aS (bK _)) (aM lI) bA)
   (aM (cP T.x_NoKind hr.hd bM rfl (aA aF aE)))))),_,(aR (cD (bB (aB (aQ Lw (aG 0) (aB aI)))) (bG (aB (dF (aH (aG 0) (aH (aG 1) (aH (aG 2) aN)))))) bL)
   (aR (cD (bB (aB (aQ cY (aG 2) (aB aP)))) lF bL)
   (aR (cD (bB (aB (aQ cY (aG 2) (aB aP)))) lF bL)
   (cN (aC aI aW) (by decide))))),?_⟩
 rintro ds Q X ⟨kd,d,k,rfl,hk,hx⟩;have hk3:kd = "far"\/kd = "sum"\/kd = "square":=by simpa [dZ] using hk
 walk_at "s";rcases hx with ⟨ns,hn,kx⟩ | ⟨rfl,h0,h1,kx⟩
 ·refine bS (fun _=>?_) (fun c=>absurd ns c);exact ⟨kd,d,k,rfl,by rcases hk3 with e | e | e; exact .inl e; exact absurd e ns; exact .inr e,hn,kx⟩
 ·refine bS (fun c=>absurd rfl c) (fun _=>?_);walk_at "s";refine bS (fun c=>absurd c h0) (fun _=>?_);walk_at "s";refine bS (fun c=>absurd c h1) (fun _=>?_);walk_at "d";exact kx
theorem aCd (T:Txt K mg A):FnOk P w K mg base (eA P w) 7 A.a_qm1 A.d_qm1 ["kind","marks","bend"] (fO K (aGf A)):=by
 refine gM T.F_qm1.F Ke (by walk_at "l") fun cdv Ar outer s H E hr=>?_
 refine ⟨_,(aJ (eY 3 Ke (dQ (aCf T) hr T.F_qk1 bM (aA (pv 0) (aA (pv 1) (aA (pv 2) aE)))))
   (aJ lI
   (aM lI))),_,(aR (bO (dF (aH (aG 0) (aH (aG 1) (aH (aG 2) aN)))) (aO 3))
   (aR lF
   lF)),?_⟩
 rintro ds Q X ⟨kd,d,k,rfl,hk,hx⟩;walk_at "s";exact ⟨kd,d,k,rfl,hk,hx⟩
def Ra (A:Adr) (w0 kd:Str) (rest:List Str) (ms:List Mk) (Q:PyData->Prop) (X:DX):Prop :=
 (kd ∉ dZ/\X A.x_NoKind)\/(kd∈dZ /\
  ((∃ w3, w0 = "bend" /\ rest = [w3] /\ w3.length <= 1000 /\ ((eN w3.cps.toList = none /\ X A.x_NoText) \/ ∃ k, eN w3.cps.toList = some k /\ Fb A kd k X)) \/
   (∃ w3,w0 = "steps"/\rest = [w3]/\w3.length<=1000/\((eN w3.cps.toList = none/\X A.x_NoText)\/(∃ k,eN w3.cps.toList = some k/\¬ (0<=k/\k<=59)/\X A.x_NoNumber)\/(eN w3.cps.toList = some 59/\kd = "square"/\∃ m,ms = [m]/\One m/\Q (.str (shP [[0],[m.2.1]]))))) \/
   (w0 = "judge"/\vD A [.str kd,.list (ms.map eF),.list (rest.map .str)] (sP Q) X)))
def aLt (A:Adr):DW:=fun ds Q X=>∃ (w0 nm kd:Str) (rest:List Str) (ms:List Mk),ds = [.list ((w0 :: nm :: kd :: rest).map .str),.list (ms.map eF)]/\PyData.strOk kd = true/\Ra A w0 kd rest ms (fun t=>Q (.dat t)) X
theorem aCa (T:Txt K mg A):FnOk P w K mg base (eA P w) 12 A.a_qp1 A.d_qp1 ["words","marks"] (fO K (aLt A)):=by
 refine gM T.F_qp1.F Kb (by walk_at "l") fun cdv Ar outer s H E hr=>?_
 refine ⟨_,(aJ (eY 2 Kb (xE (K:=K) rfl (pv 0)))
   (aJ (fE (dQ (De T) hr T.F_qn bM (aA (pv 2) aE)))
   (aJ (bV (aX cZ (xE (K:=K) rfl (pv 0)) aF (bK _)) (aM (aY (dQ (aCd T) hr T.F_qm1 bM (aA (pv 2) (aA (pv 1) (aA (dQ (pN T) hr T.F_qb1 bM (aA (xE (K:=K) rfl (pv 0)) aE)) aE)))))) bA)
   (aJ (bV (aX cZ (xE (K:=K) rfl (pv 0)) aF (bK _)) (aM lI) bA)
   (aJ (bV (aX cZ (xE (K:=K) rfl (pv 0)) aF (bK _)) (aM (aY (dQ (aCc T) hr T.F_qn1 bM (aA (pv 2) (aA (pv 1) (aA (dQ (pN T) hr T.F_qb1 bM (aA (xE (K:=K) rfl (pv 0)) aE)) aE)))))) bA)
   (aM (aY (dQ (aCb T) hr T.F_qo1 bM (aA (pv 2) (aA (pv 1) (aA (eM (tH (K:=K) rfl) (pv 0) (eQ aS) gL) aE))))))))))),_,(aR (bO (cB (bN 0) (aB aP)) (aO 2))
   (aR (jY (aB (dF (aH (aG 2) aN))))
   (aR (cD (bB (aB (aQ cY (aB (cB (bN 0) (aB aP))) (aB aI)))) (bG (aB (dF (aH (aG 2) (aH (aG 1) (aH (aB (dF (aH (aB (cB (bN 0) (aB aP))) aN))) aN)))))) bL)
   (aR (cD (bB (aB (aQ cY (aB (cB (bN 0) (aB aP))) (aB aI)))) lF bL)
   (aR (cD (bB (aB (aQ cY (aB (cB (bN 0) (aB aP))) (aB aI)))) (bG (aB (dF (aH (aG 2) (aH (aG 1) (aH (aB (dF (aH (aB (cB (bN 0) (aB aP))) aN))) aN)))))) bL)
   (bG (aB (dF (aH (aG 2) (aH (aG 1) (aH (aB (bY (mE (bN 0) (eR (aB aP)) mF))) aN))))))))))),?_⟩
 rintro ds Q X ⟨w0,nm,kd,rest,ms,rfl,hok,hc⟩;obtain ⟨ws,hws⟩:∃ ws,w0 :: nm :: kd :: rest = ws:=⟨_,rfl⟩;have a0:=eL (ws:=ws) (j:=0) (x:=w0) (by rw [<- hws]; rfl);have a2:=eL (ws:=ws) (j:=2) (x:=kd) (by rw [<- hws]; rfl);have a3:∀ w3,rest = [w3]->lA (ws.map PyData.str) 3 = some (.str w3):=fun w3 e=>eL (ws:=ws) (j:=3) (by rw [<- hws,e]; rfl);have e3:lU (ws.map PyData.str) (some 3) none = rest.map .str:=by
  rw [show (3:Int) = ((3:Nat):Int) from rfl,wS,<- hws]; rfl
 rw [hws];clear hws;walk_at "s";refine ⟨_,a2,?_⟩;walk_at "s";refine ⟨_,rfl,(fun k2 e=>by cases e; exact hok),fun hin=>?_,fun hno=>?_⟩
 ·have hk:kd∈dZ:=by obtain ⟨kd',e,h⟩:=hin; cases e; exact h
  rcases hc with ⟨hn,_⟩ | ⟨_,hc⟩
  ·exact absurd hk hn
  rcases hc with ⟨w3,rfl,er,l3,hc⟩ | ⟨w3,rfl,er,l3,hc⟩ | ⟨rfl,hj⟩
  ·walk_at "s";refine ⟨_,a0,?_⟩;walk_at "d";refine ⟨_,a3 w3 er,w3,rfl,by omega,fun k hk2=>?_,fun hn=>?_⟩
   ·rcases hc with ⟨e,_⟩ | ⟨k',e,hx⟩
    ·rw [hk2] at e; cases e
    ·rw [hk2] at e; cases e;walk_at "d";exact ⟨kd,_,k,rfl,hk,hx⟩
   ·rcases hc with ⟨_,kx⟩ | ⟨k',e,hx⟩
    ·exact kx
    ·rw [hn] at e; cases e
  ·walk_at "s";refine ⟨_,a0,?_⟩;walk_at "d";refine bS (fun c=>absurd c (by decide +kernel)) (fun _=>?_);walk_at "s";refine ⟨_,a0,?_⟩;walk_at "d";refine bS (fun c=>absurd c (by decide +kernel)) (fun _=>?_);walk_at "s";refine ⟨_,a0,?_⟩;walk_at "d";refine ⟨_,a3 w3 er,w3,rfl,by omega,fun k hk2=>?_,fun hn=>?_⟩
   ·walk_at "d";rcases hc with ⟨e,_⟩ | ⟨k',e,hx,kx⟩ | ⟨e,ek,m,em,o,kq⟩
    ·rw [hk2] at e; cases e
    ·rw [hk2] at e; cases e;exact .inl ⟨kd,_,k,rfl,hk,hx,kx⟩
    ·rw [hk2] at e; cases e;subst ek em;refine .inr ⟨m,rfl,o,?_⟩;walk_at "d";exact kq
   ·rcases hc with ⟨_,kx⟩ | ⟨k',e,_⟩ | ⟨e,_⟩
    ·exact kx
    ·rw [hn] at e; cases e
    ·rw [hn] at e; cases e
  ·walk_at "s";refine ⟨_,a0,?_⟩;walk_at "d";refine bS (fun c=>absurd c (by decide +kernel)) (fun _=>?_);walk_at "s";refine ⟨_,a0,?_⟩;walk_at "d";refine bS (fun c=>absurd c (by decide +kernel)) (fun _=>?_);walk_at "s";refine ⟨_,a0,?_⟩;walk_at "d";refine bS (fun c=>absurd c (by decide +kernel)) (fun _=>?_);rw [e3];exact hj
 ·rcases hc with ⟨_,kx⟩ | ⟨hk,_⟩
  ·exact kx
  ·exact absurd hk (hno kd rfl)
def Zz (A:Adr) (kv:dU) (ws:List Str) (R:RG) (ex:DX):Prop :=
 (¬ iM ws/\ex A.x_NoRow)\/(iM ws /\
 ((∃ (nm : Str) (rest : List Str), ws = Str.ofString "marks" :: nm :: rest /\ aDf A kv [.str nm, .list (rest.map .str)] R ex) \/
  (ws = [Str.ofString "names"]/\kv.length < 64/\(∀ p∈kv,p.1.length<=8)/\∀ ss:List Str,ss.Perm (kv.map (·.1))->sortedS ss = true->R kv (.str (Txt.join (Str.ofString " ") ss))) \/
  (∃ nm,ws = [Str.ofString "drop",nm]/\(kv.lookup nm = none->ex A.x_NoName)/\((kv.lookup nm).isSome = true->R (dropP kv nm) (.str "ok"))) \/
  (∃ nm,ws = [Str.ofString "show",nm]/\(kv.lookup nm = none->ex A.x_NoName)/\∀ d,kv.lookup nm = some d->∃ ms:List Mk,d = .list (ms.map eF)/\ms.length<=60/\(∀ m∈ms,Gd m)/\R kv (.str (mS ms))) \/
  (∃ (w0 nm kd:Str) (rest:List Str),ws = w0 :: nm :: kd :: rest/\(w0 = "bend"\/w0 = "rise"\/w0 = "steps"\/w0 = "judge")/\PyData.strOk kd = true/\(kv.lookup nm = none->ex A.x_NoName)/\∀ d,kv.lookup nm = some d->∃ ms:List Mk,d = .list (ms.map eF)/\Ra A w0 kd rest ms (fun t=>oQ t = true/\R kv t) ex)))
def aDe (A:Adr):LG:=fun kv ds R ex=>(∃ d,ds = [d]/\(∀ x,d ≠ .str x)/\ex A.x_NoRow)\/(∃ (x:Str) (ws:List Str),ds = [.str x]/\x.length<=90000/\Txt.split x (Str.ofString " ") = ws/\Zz A kv ws R ex)
theorem xI {ds:List PyData} {Q Q':Sl->Prop} {X X':DX} (h1:∀ s,Q s->Q' s) (h2:∀ C,X C->X' C) (h:vD A ds Q X):vD A ds Q' X':=by
 obtain ⟨kd,ms,ws,a1,a2,a3,a4,a5,hc⟩:=h;refine ⟨kd,ms,ws,a1,a2,a3,a4,a5,?_⟩;rcases hc with ⟨b1,b2⟩ | ⟨b1,b2,b3⟩ | ⟨b1,row,b2,b3,b4,b5⟩
 ·exact .inl ⟨b1,h2 _ b2⟩
 ·exact .inr (.inl ⟨b1,b2,h2 _ b3⟩)
 ·exact .inr (.inr ⟨b1,row,b2,b3,b4,h1 _ b5⟩)
theorem Bp {kd:Str} {k:Int} {X X':DX} (h2:∀ C,X C->X' C) (h:Fb A kd k X):Fb A kd k X':=by
 rcases h with ⟨a,b,c⟩ | ⟨a,b,c,d⟩
 ·exact .inl ⟨a,b,h2 _ c⟩
 ·exact .inr ⟨a,b,c,h2 _ d⟩
theorem Bj {Q Q':PyData->Prop} (h1:∀ t,Q t->Q' t):∀ s,sP Q s->sP Q' s
 | .dat _,z=>⟨z.1,h1 _ z.2⟩
 | .own _,z=>⟨z.1,h1 _ z.2⟩
 | .exc _,z=>z
 | .mon _,z=>z
 | .fz _ _,z=>z
 | .two _ _,z=>z
theorem Ho {w0 kd:Str} {rest:List Str} {ms:List Mk} {Q Q':PyData->Prop} {X X':DX} (h1:∀ t,Q t->Q' t) (h2:∀ C,X C->X' C) (h:Ra A w0 kd rest ms Q X):Ra A w0 kd rest ms Q' X':=by
 rcases h with ⟨a,b⟩ | ⟨a,hc⟩
 ·exact .inl ⟨a,h2 _ b⟩
 refine .inr ⟨a,?_⟩;rcases hc with ⟨w3,b1,b2,b3,hc⟩ | ⟨w3,b1,b2,b3,hc⟩ | ⟨b1,hj⟩
 ·refine .inl ⟨w3,b1,b2,b3,?_⟩;rcases hc with ⟨c1,c2⟩ | ⟨k,c1,c2⟩
  ·exact .inl ⟨c1,h2 _ c2⟩
  ·exact .inr ⟨k,c1,Bp h2 c2⟩
 ·refine .inr (.inl ⟨w3,b1,b2,b3,?_⟩);rcases hc with ⟨c1,c2⟩ | ⟨k,c1,c2,c3⟩ | ⟨c1,c2,m,c3,c4,c5⟩
  ·exact .inl ⟨c1,h2 _ c2⟩
  ·exact .inr (.inl ⟨k,c1,c2,h2 _ c3⟩)
  ·exact .inr (.inr ⟨c1,c2,m,c3,c4,h1 _ c5⟩)
 ·exact .inr (.inr ⟨b1,xI (Bj h1) h2 hj⟩)
theorem Nu (T:Txt K mg A) (CT_COUNTS:tD w K A.g_COUNTS (gE A)):FnOk P w K mg base (eA P w) 13 A.a_qc2 A.d_qc2 ["self","row"] (Ss K A.c_Desk "kept" (aDe A)):=by
 have G_qi1:=aCh (P:=P) (w:=w) (base:=base) T CT_COUNTS;have G_qd2:=aCn (P:=P) (w:=w) (base:=base) T;have G_qe2:=aCm (P:=P) (w:=w) (base:=base) T;refine okG T.F_qc2 Ah (fun kv ds R ex h=>?_) (fun cdv Ar outer s H E hr=>?_)
 ·rcases h with ⟨_,rfl,_⟩ | ⟨_,_,rfl,_⟩ <;> rfl
 refine ⟨_,(aJ (eY 2 Ah (dQ G_qi1 hr T.F_qi1 bM (aA (pv 1) aE)))
   (aJ (bV (aX cZ (xE (K:=K) rfl (pv 2)) aF (bK _)) (aM (aY (fZ F.plainAttrs_str F.slot_str_join F.type_str_join (fD (K:=K) rfl) aF (aA (bI (Zf rfl) rfl T.n_sorted Hn (aA (rS (pv 0) rfl) aE)) aE)))) bA)
   (aJ (bV (aX cZ (xE (K:=K) rfl (pv 2)) aF (bK _)) (aM (aY (fS (pv 0) T.cl_Desk T.M_qd2 G_qd2 (hr.mono (by decide)) T.b_qd2 .nil bM (aA (xE (K:=K) rfl (pv 2)) (aA (eM (tH (K:=K) rfl) (pv 2) (eQ aS) gL) aE))))) bA)
   (aJ (eY 3 Ah (fS (pv 0) T.cl_Desk T.M_qe2 G_qe2 (hr.mono (by decide)) T.b_qe2 .nil bM (aA (xE (K:=K) rfl (pv 2)) aE)))
   (aJ (bV (aX cZ (xE (K:=K) rfl (pv 2)) aF (bK _)) (aJ (fE (Nj (rS (pv 0) rfl) (xE (K:=K) rfl (pv 2)) ⟨rfl,rfl,rfl,rfl⟩))
   (aM (aY aF))) bA)
   (aJ (bV (aX cZ (xE (K:=K) rfl (pv 2)) aF (bK _)) (aM (aY (dQ (aCi T) hr T.F_qh1 bF (aA (pv 3) aE)))) bA)
   (aM (aY (dQ (aCa T) hr T.F_qp1 bM (aA (pv 2) (aA (pv 3) aE))))))))))),fun p_ dx_ d_ kv_ hp_ hk_=>⟨_,(rZ hk_ (cA 2 (Dc (aH (aG 1) aN)))
   (Dm (bB (aB (aQ cY (aB (cB (bN 2) (aB aP))) (aB aI)))) (wE hk_ (bG (aB (gN (aB aI) (gA (Nn hk_ (wR (lT (kv:=kv_) (C:=A.c_Desk) (f:="kept")) hp_ T.cl_Desk T.nA_Desk)))))))
   (Dm (bB (aB (aQ cY (aB (cB (bN 2) (aB aP))) (aB aI)))) (Ud (lT (kv:=kv_) (C:=A.c_Desk) (f:="kept")) hp_ hk_ (by decide) (aH (aB (cB (bN 2) (aB aP))) (aH (aB (bY (mE (bN 2) (eR (aB aP)) mF))) aN)))
   (rZ hk_ (vK 2 (Jl (aEf (p:=p_) (kv:=kv_) (C:=A.c_Desk) (f:="kept")) (by decide) (aH (aB (cB (bN 2) (aB aP))) aN) (aO 3)))
   (Dm (bB (aB (aQ cY (aB (cB (bN 2) (aB aP))) (aB aI)))) (aCw hk_ (wR (lT (kv:=kv_) (C:=A.c_Desk) (f:="kept")) hp_ T.cl_Desk T.nA_Desk) (aB (cB (bN 2) (aB aP))) (fun H_=>(bG (aB aI))))
   (Dm (bB (aB (aQ cY (aB (cB (bN 2) (aB aP))) (aB aI)))) (wE hk_ (bG (aB (bE (aH (aG 3) aN)))))
   (wE hk_ (bG (aB (dF (aH (aG 2) (aH (aG 3) aN)))))))))))),?_⟩⟩
 rintro ds R ex (⟨d,rfl,hd,kx⟩ | ⟨x,ws,rfl,hx,hsp,hc⟩)
 ·walk_at "d";exact .inr ⟨d,rfl,hd,kx⟩
 walk_at "d";refine .inl ⟨x,ws,rfl,hx,hsp,fun gd=>?_,fun ngd=>?_⟩
 rotate_left
 ·rcases hc with ⟨_,kx⟩ | ⟨gd,_⟩
  ·exact kx
  ·exact absurd gd ngd
 rcases hc with ⟨ng,_⟩ | ⟨_,hc⟩
 ·exact absurd gd ng
 walk_at "d";refine ⟨tV ws,?_⟩;rcases hc with ⟨nm,rest,e,hl⟩ | ⟨e,h64,h8,k⟩ | ⟨nm,e,k1,k2⟩ | ⟨nm,e,k1,k2⟩ | ⟨w0,nm,kd,rest,e,h0,hok,k1,k2⟩
 ·have a0:=eL (ws:=ws) (j:=0) (x:=Str.ofString "marks") (by rw [e]; rfl);have a1:=eL (ws:=ws) (j:=1) (x:=nm) (by rw [e]; rfl);have e2:lU (ws.map PyData.str) (some 2) none = rest.map .str:=by
   rw [show (2:Int) = ((2:Nat):Int) from rfl,wS,e]; rfl
  refine ⟨_,a0,?_⟩;walk_at "d";refine bS (fun c=>absurd c (by decide +kernel)) (fun _=>?_);refine ⟨_,a0,?_⟩;walk_at "d";refine ⟨_,a1,?_⟩;walk_at "d";rw [e2];exact hl
 ·have a0:=eL (ws:=ws) (j:=0) (x:=Str.ofString "names") (by rw [e]; rfl);refine ⟨_,a0,?_⟩;walk_at "d";refine ⟨h64,fun ss po so=>?_⟩;walk_at "d";refine ⟨ss,rfl,Gy (n:=8) (fun w hw=>?_) ?_,k ss po so⟩
  ·obtain ⟨p,hp,rfl⟩:=mem_map.mp (po.mem_iff.mp hw);exact h8 p hp
  ·rw [po.length_eq,length_map,dR]; omega
 ·have a0:=eL (ws:=ws) (j:=0) (x:=Str.ofString "drop") (by rw [e]; rfl);have a1:=eL (ws:=ws) (j:=1) (x:=nm) (by rw [e]; rfl);refine ⟨_,a0,?_⟩;walk_at "d";refine bS (fun c=>absurd c (by decide +kernel)) (fun _=>?_);refine ⟨_,a0,?_⟩;walk_at "d";refine bS (fun c=>absurd c (by decide +kernel)) (fun _=>?_);refine ⟨_,a1,nm,rfl,fun d hd=>?_,k1⟩;walk_at "d";refine ⟨_,a0,?_⟩;walk_at "d";refine ⟨_,a1,?_⟩;walk_at "d";have hs:(List.lookup nm kv_).isSome = true:=by rw [hd]; rfl
  exact ⟨hs,k2 hs⟩
 ·have a0:=eL (ws:=ws) (j:=0) (x:=Str.ofString "show") (by rw [e]; rfl);have a1:=eL (ws:=ws) (j:=1) (x:=nm) (by rw [e]; rfl);refine ⟨_,a0,?_⟩;walk_at "d";refine bS (fun c=>absurd c (by decide +kernel)) (fun _=>?_);refine ⟨_,a0,?_⟩;walk_at "d";refine bS (fun c=>absurd c (by decide +kernel)) (fun _=>?_);refine ⟨_,a1,nm,rfl,fun d hd=>?_,k1⟩;obtain ⟨ms,rfl,ml,mg,kq⟩:=k2 d hd;walk_at "d";refine ⟨_,a0,?_⟩;walk_at "d";refine bS (fun c=>absurd c (by decide +kernel)) (fun _=>?_);refine ⟨_,a0,?_⟩;walk_at "d";refine ⟨ms,rfl,ml,mg,?_⟩;walk_at "d";exact kq
 ·have hn:w0 ≠ "names"/\w0 ≠ "marks"/\w0 ≠ "drop"/\w0 ≠ "show":=by
   rcases h0 with rfl | rfl | rfl | rfl <;> decide +kernel
  have a0:=eL (ws:=ws) (j:=0) (x:=w0) (by rw [e]; rfl);have a1:=eL (ws:=ws) (j:=1) (x:=nm) (by rw [e]; rfl);refine ⟨_,a0,?_⟩;walk_at "d";refine bS (fun c=>absurd c hn.1) (fun _=>?_);refine ⟨_,a0,?_⟩;walk_at "d";refine bS (fun c=>absurd c hn.2.1) (fun _=>?_);refine ⟨_,a1,nm,rfl,fun d hd=>?_,k1⟩;obtain ⟨ms,rfl,ka⟩:=k2 d hd;walk_at "d";refine ⟨_,a0,?_⟩;walk_at "d";refine bS (fun c=>absurd c hn.2.2.1) (fun _=>?_);refine ⟨_,a0,?_⟩;walk_at "d";refine bS (fun c=>absurd c hn.2.2.2) (fun _=>?_);refine ⟨w0,nm,kd,rest,ms,by rw [e],hok,?_⟩;exact Ho (fun t z=>z) (fun C z=>z) ka
def qO (A:Adr):List Addr:=[A.x_NoRow,A.x_NoName,A.x_NoText,A.x_NoMarks,A.x_NoNumber,A.x_NoKind,A.x_NoBend]
def Wu (A:Adr) (n:Nat):Addr->Bool->Prop:=fun C b=>∃ j,(qO A)[j]? = some C/\b = decide (j = n)
def isV (A:Adr):Addr->Bool->Prop:=fun C b=>C∈qO A/\b = true
theorem tN {A:Adr} {j:Nat} {C:Addr} (h:(qO A)[j]? = some C):(j = 0/\C = A.x_NoRow)\/(j = 1/\C = A.x_NoName)\/(j = 2/\C = A.x_NoText)\/(j = 3/\C = A.x_NoMarks)\/(j = 4/\C = A.x_NoNumber)\/(j = 5/\C = A.x_NoKind)\/(j = 6/\C = A.x_NoBend):=by
 match j,h with
 | 0,h=>cases h; simp
 | 1,h=>cases h; simp
 | 2,h=>cases h; simp
 | 3,h=>cases h; simp
 | 4,h=>cases h; simp
 | 5,h=>cases h; simp
 | 6,h=>cases h; simp
 | j + 7,h=>simp [qO] at h
theorem Gs (T:Txt K mg A):∀ C b,Wu A 0 C b->∃ bmB newId,W.excIn K C bmB newId = true/\ExcK K C/\W.kitOne K (.ref C) (.ref A.x_NoRow) = some b:=fun C b ⟨j,hj,e⟩=>by
 subst e;rcases tN hj with ⟨rfl,rfl⟩ | ⟨rfl,rfl⟩ | ⟨rfl,rfl⟩ | ⟨rfl,rfl⟩ | ⟨rfl,rfl⟩ | ⟨rfl,rfl⟩ | ⟨rfl,rfl⟩
 ·exact ⟨_,_,T.x_NoRow.ex,T.xk_NoRow,T.k_NoRow_NoRow⟩
 ·exact ⟨_,_,T.x_NoName.ex,T.xk_NoName,T.k_NoName_NoRow⟩
 ·exact ⟨_,_,T.x_NoText.ex,T.xk_NoText,T.k_NoText_NoRow⟩
 ·exact ⟨_,_,T.x_NoMarks.ex,T.xk_NoMarks,T.k_NoMarks_NoRow⟩
 ·exact ⟨_,_,T.x_NoNumber.ex,T.xk_NoNumber,T.k_NoNumber_NoRow⟩
 ·exact ⟨_,_,T.x_NoKind.ex,T.xk_NoKind,T.k_NoKind_NoRow⟩
 ·exact ⟨_,_,T.x_NoBend.ex,T.xk_NoBend,T.k_NoBend_NoRow⟩
theorem Az (T:Txt K mg A):∀ C b,Wu A 1 C b->∃ bmB newId,W.excIn K C bmB newId = true/\ExcK K C/\W.kitOne K (.ref C) (.ref A.x_NoName) = some b:=fun C b ⟨j,hj,e⟩=>by
 subst e;rcases tN hj with ⟨rfl,rfl⟩ | ⟨rfl,rfl⟩ | ⟨rfl,rfl⟩ | ⟨rfl,rfl⟩ | ⟨rfl,rfl⟩ | ⟨rfl,rfl⟩ | ⟨rfl,rfl⟩
 ·exact ⟨_,_,T.x_NoRow.ex,T.xk_NoRow,T.k_NoRow_NoName⟩
 ·exact ⟨_,_,T.x_NoName.ex,T.xk_NoName,T.k_NoName_NoName⟩
 ·exact ⟨_,_,T.x_NoText.ex,T.xk_NoText,T.k_NoText_NoName⟩
 ·exact ⟨_,_,T.x_NoMarks.ex,T.xk_NoMarks,T.k_NoMarks_NoName⟩
 ·exact ⟨_,_,T.x_NoNumber.ex,T.xk_NoNumber,T.k_NoNumber_NoName⟩
 ·exact ⟨_,_,T.x_NoKind.ex,T.xk_NoKind,T.k_NoKind_NoName⟩
 ·exact ⟨_,_,T.x_NoBend.ex,T.xk_NoBend,T.k_NoBend_NoName⟩
theorem Ay (T:Txt K mg A):∀ C b,Wu A 2 C b->∃ bmB newId,W.excIn K C bmB newId = true/\ExcK K C/\W.kitOne K (.ref C) (.ref A.x_NoText) = some b:=fun C b ⟨j,hj,e⟩=>by
 subst e;rcases tN hj with ⟨rfl,rfl⟩ | ⟨rfl,rfl⟩ | ⟨rfl,rfl⟩ | ⟨rfl,rfl⟩ | ⟨rfl,rfl⟩ | ⟨rfl,rfl⟩ | ⟨rfl,rfl⟩
 ·exact ⟨_,_,T.x_NoRow.ex,T.xk_NoRow,T.k_NoRow_NoText⟩
 ·exact ⟨_,_,T.x_NoName.ex,T.xk_NoName,T.k_NoName_NoText⟩
 ·exact ⟨_,_,T.x_NoText.ex,T.xk_NoText,T.k_NoText_NoText⟩
 ·exact ⟨_,_,T.x_NoMarks.ex,T.xk_NoMarks,T.k_NoMarks_NoText⟩
 ·exact ⟨_,_,T.x_NoNumber.ex,T.xk_NoNumber,T.k_NoNumber_NoText⟩
 ·exact ⟨_,_,T.x_NoKind.ex,T.xk_NoKind,T.k_NoKind_NoText⟩
 ·exact ⟨_,_,T.x_NoBend.ex,T.xk_NoBend,T.k_NoBend_NoText⟩
theorem zC (T:Txt K mg A):∀ C b,Wu A 3 C b->∃ bmB newId,W.excIn K C bmB newId = true/\ExcK K C/\W.kitOne K (.ref C) (.ref A.x_NoMarks) = some b:=fun C b ⟨j,hj,e⟩=>by
 subst e;rcases tN hj with ⟨rfl,rfl⟩ | ⟨rfl,rfl⟩ | ⟨rfl,rfl⟩ | ⟨rfl,rfl⟩ | ⟨rfl,rfl⟩ | ⟨rfl,rfl⟩ | ⟨rfl,rfl⟩
 ·exact ⟨_,_,T.x_NoRow.ex,T.xk_NoRow,T.k_NoRow_NoMarks⟩
 ·exact ⟨_,_,T.x_NoName.ex,T.xk_NoName,T.k_NoName_NoMarks⟩
 ·exact ⟨_,_,T.x_NoText.ex,T.xk_NoText,T.k_NoText_NoMarks⟩
 ·exact ⟨_,_,T.x_NoMarks.ex,T.xk_NoMarks,T.k_NoMarks_NoMarks⟩
 ·exact ⟨_,_,T.x_NoNumber.ex,T.xk_NoNumber,T.k_NoNumber_NoMarks⟩
 ·exact ⟨_,_,T.x_NoKind.ex,T.xk_NoKind,T.k_NoKind_NoMarks⟩
 ·exact ⟨_,_,T.x_NoBend.ex,T.xk_NoBend,T.k_NoBend_NoMarks⟩
theorem wJ (T:Txt K mg A):∀ C b,Wu A 4 C b->∃ bmB newId,W.excIn K C bmB newId = true/\ExcK K C/\W.kitOne K (.ref C) (.ref A.x_NoNumber) = some b:=fun C b ⟨j,hj,e⟩=>by
 subst e;rcases tN hj with ⟨rfl,rfl⟩ | ⟨rfl,rfl⟩ | ⟨rfl,rfl⟩ | ⟨rfl,rfl⟩ | ⟨rfl,rfl⟩ | ⟨rfl,rfl⟩ | ⟨rfl,rfl⟩
 ·exact ⟨_,_,T.x_NoRow.ex,T.xk_NoRow,T.k_NoRow_NoNumber⟩
 ·exact ⟨_,_,T.x_NoName.ex,T.xk_NoName,T.k_NoName_NoNumber⟩
 ·exact ⟨_,_,T.x_NoText.ex,T.xk_NoText,T.k_NoText_NoNumber⟩
 ·exact ⟨_,_,T.x_NoMarks.ex,T.xk_NoMarks,T.k_NoMarks_NoNumber⟩
 ·exact ⟨_,_,T.x_NoNumber.ex,T.xk_NoNumber,T.k_NoNumber_NoNumber⟩
 ·exact ⟨_,_,T.x_NoKind.ex,T.xk_NoKind,T.k_NoKind_NoNumber⟩
 ·exact ⟨_,_,T.x_NoBend.ex,T.xk_NoBend,T.k_NoBend_NoNumber⟩
theorem Ba (T:Txt K mg A):∀ C b,Wu A 5 C b->∃ bmB newId,W.excIn K C bmB newId = true/\ExcK K C/\W.kitOne K (.ref C) (.ref A.x_NoKind) = some b:=fun C b ⟨j,hj,e⟩=>by
 subst e;rcases tN hj with ⟨rfl,rfl⟩ | ⟨rfl,rfl⟩ | ⟨rfl,rfl⟩ | ⟨rfl,rfl⟩ | ⟨rfl,rfl⟩ | ⟨rfl,rfl⟩ | ⟨rfl,rfl⟩
 ·exact ⟨_,_,T.x_NoRow.ex,T.xk_NoRow,T.k_NoRow_NoKind⟩
 ·exact ⟨_,_,T.x_NoName.ex,T.xk_NoName,T.k_NoName_NoKind⟩
 ·exact ⟨_,_,T.x_NoText.ex,T.xk_NoText,T.k_NoText_NoKind⟩
 ·exact ⟨_,_,T.x_NoMarks.ex,T.xk_NoMarks,T.k_NoMarks_NoKind⟩
 ·exact ⟨_,_,T.x_NoNumber.ex,T.xk_NoNumber,T.k_NoNumber_NoKind⟩
 ·exact ⟨_,_,T.x_NoKind.ex,T.xk_NoKind,T.k_NoKind_NoKind⟩
 ·exact ⟨_,_,T.x_NoBend.ex,T.xk_NoBend,T.k_NoBend_NoKind⟩
theorem Bb (T:Txt K mg A):∀ C b,Wu A 6 C b->∃ bmB newId,W.excIn K C bmB newId = true/\ExcK K C/\W.kitOne K (.ref C) (.ref A.x_NoBend) = some b:=fun C b ⟨j,hj,e⟩=>by
 subst e;rcases tN hj with ⟨rfl,rfl⟩ | ⟨rfl,rfl⟩ | ⟨rfl,rfl⟩ | ⟨rfl,rfl⟩ | ⟨rfl,rfl⟩ | ⟨rfl,rfl⟩ | ⟨rfl,rfl⟩
 ·exact ⟨_,_,T.x_NoRow.ex,T.xk_NoRow,T.k_NoRow_NoBend⟩
 ·exact ⟨_,_,T.x_NoName.ex,T.xk_NoName,T.k_NoName_NoBend⟩
 ·exact ⟨_,_,T.x_NoText.ex,T.xk_NoText,T.k_NoText_NoBend⟩
 ·exact ⟨_,_,T.x_NoMarks.ex,T.xk_NoMarks,T.k_NoMarks_NoBend⟩
 ·exact ⟨_,_,T.x_NoNumber.ex,T.xk_NoNumber,T.k_NoNumber_NoBend⟩
 ·exact ⟨_,_,T.x_NoKind.ex,T.xk_NoKind,T.k_NoKind_NoBend⟩
 ·exact ⟨_,_,T.x_NoBend.ex,T.xk_NoBend,T.k_NoBend_NoBend⟩
theorem wK (T:Txt K mg A):∀ C b,Wu A 7 C b->∃ bmB newId,W.excIn K C bmB newId = true/\ExcK K C/\W.kitOne K (.ref C) (.ref A.x_NoAnswer) = some b:=fun C b ⟨j,hj,e⟩=>by
 subst e;rcases tN hj with ⟨rfl,rfl⟩ | ⟨rfl,rfl⟩ | ⟨rfl,rfl⟩ | ⟨rfl,rfl⟩ | ⟨rfl,rfl⟩ | ⟨rfl,rfl⟩ | ⟨rfl,rfl⟩
 ·exact ⟨_,_,T.x_NoRow.ex,T.xk_NoRow,T.k_NoRow_NoAnswer⟩
 ·exact ⟨_,_,T.x_NoName.ex,T.xk_NoName,T.k_NoName_NoAnswer⟩
 ·exact ⟨_,_,T.x_NoText.ex,T.xk_NoText,T.k_NoText_NoAnswer⟩
 ·exact ⟨_,_,T.x_NoMarks.ex,T.xk_NoMarks,T.k_NoMarks_NoAnswer⟩
 ·exact ⟨_,_,T.x_NoNumber.ex,T.xk_NoNumber,T.k_NoNumber_NoAnswer⟩
 ·exact ⟨_,_,T.x_NoKind.ex,T.xk_NoKind,T.k_NoKind_NoAnswer⟩
 ·exact ⟨_,_,T.x_NoBend.ex,T.xk_NoBend,T.k_NoBend_NoAnswer⟩
theorem sI (T:Txt K mg A):∀ C b,isV A C b->∃ bmB newId,W.excIn K C bmB newId = true/\ExcK K C/\W.kitOne K (.ref C) (.type "ValueError") = some b:=fun C b ⟨hm,e⟩=>by
 subst e;obtain ⟨j,hj⟩:=List.mem_iff_getElem?.mp hm;rcases tN hj with ⟨rfl,rfl⟩ | ⟨rfl,rfl⟩ | ⟨rfl,rfl⟩ | ⟨rfl,rfl⟩ | ⟨rfl,rfl⟩ | ⟨rfl,rfl⟩ | ⟨rfl,rfl⟩
 ·exact ⟨_,_,T.x_NoRow.ex,T.xk_NoRow,T.k_NoRow_ValueError⟩
 ·exact ⟨_,_,T.x_NoName.ex,T.xk_NoName,T.k_NoName_ValueError⟩
 ·exact ⟨_,_,T.x_NoText.ex,T.xk_NoText,T.k_NoText_ValueError⟩
 ·exact ⟨_,_,T.x_NoMarks.ex,T.xk_NoMarks,T.k_NoMarks_ValueError⟩
 ·exact ⟨_,_,T.x_NoNumber.ex,T.xk_NoNumber,T.k_NoNumber_ValueError⟩
 ·exact ⟨_,_,T.x_NoKind.ex,T.xk_NoKind,T.k_NoKind_ValueError⟩
 ·exact ⟨_,_,T.x_NoBend.ex,T.xk_NoBend,T.k_NoBend_ValueError⟩
theorem Uy (T:Txt K mg A) {j:Nat} {C:Addr} (hj:(qO A)[j]? = some C):W.exmOne K (.ref C) (.ref A.x_MissError) = some true:=by
 rcases tN hj with ⟨rfl,rfl⟩ | ⟨rfl,rfl⟩ | ⟨rfl,rfl⟩ | ⟨rfl,rfl⟩ | ⟨rfl,rfl⟩ | ⟨rfl,rfl⟩ | ⟨rfl,rfl⟩
 ·exact T.e_NoRow_MissError
 ·exact T.e_NoName_MissError
 ·exact T.e_NoText_MissError
 ·exact T.e_NoMarks_MissError
 ·exact T.e_NoNumber_MissError
 ·exact T.e_NoKind_MissError
 ·exact T.e_NoBend_MissError
def oW:List Str:=["NoRow","NoName","NoText","NoMarks","NoNumber","NoKind","NoBend"]
def Rf (A:Adr) (kv:dU) (d:PyData) (j:Nat):Prop:=∀ (C:Addr) (R:RG) (ex:DX),(qO A)[j]? = some C->ex C->aDe A kv [d] R ex
def aMt (A:Adr):LG:=fun kv ds R _=>∃ (d:PyData) (y:Str) (j:Nat),ds = [d,.str y]/\oW[j]? = some y/\Rf A kv d j/\R kv (.bool true)
theorem Pp {j:Nat} {y:Str} (h:oW[j]? = some y):PyData.strOk y = true:=by
 have:y∈oW:=mem_of_getElem? h;simp only [oW,mem_cons,not_mem_nil,or_false] at this;rcases this with rfl | rfl | rfl | rfl | rfl | rfl | rfl <;> decide +kernel
def tl (x:Str) (b:Bool):PyData:=.list [.str x,.bool b]
def Yx (j:Nat):List (Str × Nat)->List PyData
 | []=>[]
 | (x,n) :: r=>tl x (decide (j = n)) :: Yx j r
theorem aCq (T:Txt K mg A) (CT_COUNTS:tD w K A.g_COUNTS (gE A)):FnOk P w K mg base (eA P w) 14 A.a_qa2 A.d_qa2 ["desk","row","due"] (Ss K A.c_Desk "kept" (aMt A)):=by
 have G_qc2:=Nu (P:=P) (w:=w) (base:=base) T CT_COUNTS;refine okG T.F_qa2.F sc_qa2 (fun kv ds R ex h=>?_) (fun cdv Ar outer s H E hr=>?_)
 ·obtain ⟨_,_,_,rfl,_⟩:=h; rfl
 refine ⟨_,(aJ (eY 3 sc_qa2 (aZ aE))
   (aJ (eY 4 sc_qa2 kM)
   (aJ (Nb (i:=5) rfl rfl sc_qa2.nd rfl rfl rfl (Na (Fy (pv 0) T.cl_Desk T.M_qc2 G_qc2 (hr.mono (by decide)) T.b_qc2 (aA (pv 1) aE))) (Or.inl ⟨rfl,T.x_MissError.mgx⟩) (fun x=>(aJ (eY 4 sc_qa2 (bI (oK (K:=K) rfl) rfl T.n_isinstance cC (aA (pv 5) (aA (kF rfl T.n_ValueError tO (show RelV (.ty "ValueError") (.type "ValueError") from rfl)) aE))))
   (aJ (eY 3 sc_qa2 (aZ (aA (aZ (aA aF (aA (bI (oK (K:=K) rfl) rfl T.n_isinstance cC (aA (pv 5) (aA (dL rfl T.x_NoRow.mgx (show RelV (.ref _) (.ref _) from rfl)) aE))) aE))) (aA (aZ (aA aF (aA (bI (oK (K:=K) rfl) rfl T.n_isinstance cC (aA (pv 5) (aA (dL rfl T.x_NoName.mgx (show RelV (.ref _) (.ref _) from rfl)) aE))) aE))) (aA (aZ (aA aF (aA (bI (oK (K:=K) rfl) rfl T.n_isinstance cC (aA (pv 5) (aA (dL rfl T.x_NoText.mgx (show RelV (.ref _) (.ref _) from rfl)) aE))) aE))) aE)))))
   (aJ (eY 3 sc_qa2 (aU gX (pv 3) (aZ (aA (aZ (aA aF (aA (bI (oK (K:=K) rfl) rfl T.n_isinstance cC (aA (pv 5) (aA (dL rfl T.x_NoMarks.mgx (show RelV (.ref _) (.ref _) from rfl)) aE))) aE))) (aA (aZ (aA aF (aA (bI (oK (K:=K) rfl) rfl T.n_isinstance cC (aA (pv 5) (aA (dL rfl T.x_NoNumber.mgx (show RelV (.ref _) (.ref _) from rfl)) aE))) aE))) aE)))))
   (aJ (eY 3 sc_qa2 (aU gX (pv 3) (aZ (aA (aZ (aA aF (aA (bI (oK (K:=K) rfl) rfl T.n_isinstance cC (aA (pv 5) (aA (dL rfl T.x_NoKind.mgx (show RelV (.ref _) (.ref _) from rfl)) aE))) aE))) (aA (aZ (aA aF (aA (bI (oK (K:=K) rfl) rfl T.n_isinstance cC (aA (pv 5) (aA (dL rfl T.x_NoBend.mgx (show RelV (.ref _) (.ref _) from rfl)) aE))) aE))) aE)))))
   (aM (eY 3 sc_qa2 (aU gX (pv 3) (aZ (aA (aZ (aA aF (aA (bI (oK (K:=K) rfl) rfl T.n_isinstance cC (aA (pv 5) (aA (dL rfl T.x_NoAnswer.mgx (show RelV (.ref _) (.ref _) from rfl)) aE))) aE))) aE)))))))))))
   (aM (aY (Am (pv 4) (Nf (nV (eqK (K:=K) rfl hr.units) (gQ (cap:=[none,none]) (NC:=["word","held"]) rfl (wH rfl) (kS (K:=K) rfl (pv 3)) (fun _ _ _ _=>(Al (K:=K) (n:=2) rfl rfl (bX (pD 0 ["word","held"]) (bX (pD 1 ["word","held"]) eZ)))) (fun _ _ _ _=>(Cv (gU (pv 1)))) (fun _ _ _ _=>(pv 0))) (aZ (aA (pv 2) aE)) (bK _))))))))),fun p_ dx_ d_ kv_ hp_ hk_=>⟨_,(rZ hk_ (cA 3 (bH aW (by decide)))
   (rZ hk_ (bO kP (aO 4))
   (Uc (j:=5) (lT (kv:=kv_) (C:=A.c_Desk) (f:="kept")) hp_ hk_ (by decide) (aH (aG 1) aN)
   (cO (bO (iB aDs (sI T)) (aO 4))
   (cO (cA 3 (bH (aC (bY (bH (aC aI (aC (iB iY (Gs T)) aW)) (by decide))) (aC (bY (bH (aC aI (aC (iB iY (Az T)) aW)) (by decide))) (aC (bY (bH (aC aI (aC (iB iY (Ay T)) aW)) (by decide))) aW))) (by decide)))
   (cO (cA 3 (gW (kH 3) (fU (bH (aC (bY (bH (aC aI (aC (iB iY (zC T)) aW)) (by decide))) (aC (bY (bH (aC aI (aC (iB iY (wJ T)) aW)) (by decide))) aW)) (by decide)))))
   (cO (cA 3 (gW (kH 3) (fU (bH (aC (bY (bH (aC aI (aC (iB iY (Ba T)) aW)) (by decide))) (aC (bY (bH (aC aI (aC (iB iY (Bb T)) aW)) (by decide))) aW)) (by decide)))))
   (cA 3 (gW (kH 3) (fU (bH (aC (bY (bH (aC aI (aC (iB iY (wK T)) aW)) (by decide))) aW) (by decide)))))))))
   (fun H_=>(bG (aB (Bk (aG 4) (aQ Mb (aB (bY (fC (eS (bN 3)) (mZ (cH (aO 0) (cH (aO 1) gI))) (tF (aG 1)) (aV 0) (by decide) (by decide)))) (aB (bY (bH (aC (aV 2) aW) (by decide)))))))))))),?_⟩⟩
 rintro ds R ex ⟨d,y,j,rfl,hy,hrf,hR⟩;have j7:j < 7:=by have:=(List.getElem?_eq_some_iff.mp hy).1; simpa [oW] using this
 obtain ⟨C,hC⟩:∃ C,(qO A)[j]? = some C:=⟨_,getElem?_eq_getElem (by simpa [qO] using j7)⟩;walk_at "d";refine hrf C _ _ hC ?_;walk_at "d";refine ⟨Uy T hC,?_⟩;refine cT (fun δ=>δ = [some (.mon (wP p_ A.c_Desk "kept" kv_)),some (.dat d),some (.dat (.str y)),some (.own []),some (.dat (.bool true)),some (.exc C)]) ?_ ?_
 ·walk_at "d";exact ⟨true,⟨mem_of_getElem? hC,rfl⟩,rfl⟩
 rintro δ rfl;refine cT (fun δ=>δ = [some (.mon (wP p_ A.c_Desk "kept" kv_)),some (.dat d),some (.dat (.str y)),some (.own (Yx j [("NoRow",0),("NoName",1),("NoText",2)])),some (.dat (.bool true)),some (.exc C)]) ?_ ?_
 ·walk_at "d";exact ⟨_,⟨j,hC,rfl⟩,_,⟨j,hC,rfl⟩,_,⟨j,hC,rfl⟩,rfl⟩
 rintro δ rfl;refine cT (fun δ=>δ = [some (.mon (wP p_ A.c_Desk "kept" kv_)),some (.dat d),some (.dat (.str y)),some (.own (Yx j [("NoRow",0),("NoName",1),("NoText",2),("NoMarks",3),("NoNumber",4)])),some (.dat (.bool true)),some (.exc C)]) ?_ ?_
 ·walk_at "d";exact ⟨_,⟨j,hC,rfl⟩,_,⟨j,hC,rfl⟩,(by simp [Yx]),rfl⟩
 rintro δ rfl;refine cT (fun δ=>δ = [some (.mon (wP p_ A.c_Desk "kept" kv_)),some (.dat d),some (.dat (.str y)),some (.own (Yx j [("NoRow",0),("NoName",1),("NoText",2),("NoMarks",3),("NoNumber",4),("NoKind",5),("NoBend",6)])),some (.dat (.bool true)),some (.exc C)]) ?_ ?_
 ·walk_at "d";exact ⟨_,⟨j,hC,rfl⟩,_,⟨j,hC,rfl⟩,(by simp [Yx]),rfl⟩
 rintro δ rfl;walk_at "d";refine ⟨_,⟨j,hC,rfl⟩,?_⟩;walk_at "d";refine ⟨by simp [Yx],?_⟩
 refine dY (fun p:Str × Nat=>PyData.list [.str p.1,.bool (decide (j = p.2))]) PyData.str (fun p:Str × Nat=>if j = p.2 then [p.1] else []) [("NoRow",0),("NoName",1),("NoText",2),("NoMarks",3),("NoNumber",4),("NoKind",5),("NoBend",6),("NoAnswer",7)] (by simp) (fun Q h=>by
   walk_at "d"
   exact h) (fun p hp N acc hN=>?_) ?_
 ·walk_at "d";refine bS (fun c=>?_) (fun c=>?_)
  ·rw [if_pos c] at hN; exact hN
  ·rw [if_neg c] at hN; simpa using hN
 ·have e:([((Str.ofString "NoRow"),0),(Str.ofString "NoName",1),(Str.ofString "NoText",2),(Str.ofString "NoMarks",3),(Str.ofString "NoNumber",4),(Str.ofString "NoKind",5),(Str.ofString "NoBend",6),(Str.ofString "NoAnswer",7)]:List (Str × Nat)).flatMap (fun p:Str × Nat=>if j = p.2 then [p.1] else []) = [y]:=by
   have h7:j = 0\/j = 1\/j = 2\/j = 3\/j = 4\/j = 5\/j = 6:=by omega
   rcases h7 with rfl | rfl | rfl | rfl | rfl | rfl | rfl <;> (cases hy; rfl)
  rw [e];refine ⟨_,aJg Pl (by decide),[⟨y,Pp hy⟩],[⟨y,Pp hy⟩],rfl,rfl,fun b hb=>?_⟩;rw [hb.mpr rfl];exact hR
theorem uP:∀ (n:Nat) (a b:Array Nat),((replicate n a).foldl (· ++ ·) b).toList = b.toList ++ (replicate n a.toList).flatten
 | 0,a,b=>by simp
 | n + 1,a,b=>by
  rw [replicate_succ,foldl_cons,uP n a (b ++ a),replicate_succ,flatten_cons,toList_append,append_assoc]
theorem Mj (x:Str) (n:Nat):(kR x n).cps.toList = (replicate n x.cps.toList).flatten:=by
 show ((replicate n x.cps).foldl (· ++ ·) #[]).toList = _;rw [uP]; rfl
theorem Ya:(Str.ofString "x").cps.toList = [120]:=by decide +kernel
theorem aFv:(Str.ofString "x").length = 1:=by decide +kernel
theorem Wg (n:Nat):(kR (Str.ofString "x") n).cps.toList = replicate n 120:=by
 rw [Mj,Ya]
 induction n with
 | zero=>rfl
 | succ n ih=>rw [replicate_succ,flatten_cons,ih,replicate_succ]; rfl
def cJ (p r c:Nat):Str:=kR (Str.ofString "x") p ++ (⟨#[c]⟩:Str) ++ kR (Str.ofString "x") r
theorem lX (p r c:Nat):(cJ p r c).cps.toList = replicate p 120 ++ c :: replicate r 120:=by
 unfold cJ;rw [cF,cF,Wg,Wg,append_assoc];rfl
theorem lM (p r c:Nat):(cJ p r c).length = p + r + 1:=by
 rw [<- dI,lX];simp;omega
theorem wD {p r c z:Nat} (h:z∈(cJ p r c).cps.toList):z = 120\/z = c:=by
 rw [lX] at h;rcases mem_append.mp h with y | y
 ·exact .inl (eq_of_mem_replicate y)
 ·rcases mem_cons.mp y with y | y
  ·exact .inr y
  ·exact .inl (eq_of_mem_replicate y)
theorem yS {p r c:Nat} (h:p + r<=6) (h1:97<=c) (h2:c<=122):fA (cJ p r c) = true:=by
 unfold fA;rw [decide_eq_true (show 1<=(cJ p r c).length by rw [lM]; omega),decide_eq_true (show (cJ p r c).length<=8 by rw [lM]; omega),Bool.true_and,Bool.true_and,all_eq_true];intro z hz;rcases wD hz with rfl | rfl <;> simp <;> omega
theorem aCu {p r c c':Nat} (h:cJ p r c = cJ p r c'):c = c':=by
 have e:=congrArg (fun z:Str=>z.cps.toList) h;simp only [lX] at e;have:=List.append_cancel_left e;injection this
theorem Oc:∀ (p:Nat) {c c':Nat} {t t':List Nat},c < c'->¬ (replicate p 120 ++ c' :: t' < replicate p 120 ++ c :: t)
 | 0,c,c',t,t',h=>by
  intro z;have z2:(c' :: t') < (c :: t):=z;rw [List.cons_lt_cons_iff] at z2;rcases z2 with y | y
  ·omega
  ·omega
 | p + 1,c,c',t,t',h=>by
  intro z;rw [replicate_succ,cons_append,cons_append,List.cons_lt_cons_iff] at z;rcases z with y | y
  ·omega
  ·exact Oc p h y.2
theorem Gj (p r:Nat):sortedS [cJ p r 97,cJ p r 98,cJ p r 99] = true:=by
 show (!ltCps (cJ p r 98).cps.toList (cJ p r 97).cps.toList && (!ltCps (cJ p r 99).cps.toList (cJ p r 98).cps.toList && true)) = true;rw [ltCps_eq,ltCps_eq,lX,lX,lX,decide_eq_false (Oc p (by decide)),decide_eq_false (Oc p (by decide))];rfl
def nnB (w:Str):Bool:=decide (w.length = 0) || decide (7 < w.length) || w.cps.toList.any fun c=>!(decide (c = 120) || (decide (97<=c) && decide (c<=100)))
theorem aIl {w:Str} {p r c:Nat} (h:nnB w = true) (hp:p + r<=6) (h1:97<=c) (h2:c<=100):w ≠ cJ p r c:=by
 rintro rfl;unfold nnB at h;rw [or_eq_true,or_eq_true,decide_eq_true_eq,decide_eq_true_eq,lM,List.any_eq_true] at h;rcases h with (h | h) | ⟨z,hz,h⟩
 ·omega
 ·omega
 ·rcases wD hz with rfl | rfl
  ·simp at h
  ·simp at h; omega
def kU (c:Nat) (w:Str):Bool:=if c = 110 then !fA w else if c = 111 then nnB w else if c = 109 then !decide (w∈dZ) else if c = 107 then (eN w.cps.toList).isNone else if c = 102 then (gO w).isNone else (hU w).isNone
def Xw (c:Nat) (w:Str):Bool:=kU c w && decide (w.length<=60) && !decide (32∈w.cps.toList) && PyData.strOk w
structure Wd (w:Str):Prop where
 l:w.length<=100
 n:32 ∉ w.cps.toList
 o:PyData.strOk w = true
structure Bd (c:Nat) (w:Str):Prop where
 b:kU c w = true
 w:Wd w
theorem vC {c:Nat} {w:Str} (h:Xw c w = true):Bd c w/\w.length<=60:=by
 unfold Xw at h;simp only [and_eq_true,decide_eq_true_eq,not_eq_true',decide_eq_false_iff_not] at h;exact ⟨⟨h.1.1.1,by omega,h.1.2,h.2⟩,h.1.1.2⟩
def Tl (w:Str):Prop:=∃ c,(c = 10\/c = 9)/\w.cps.toList.getLast? = some c
theorem sD {α:Type} {xs:List α} {c:α} (h:xs.getLast? = some c):c∈xs:=List.mem_of_getLast? h
theorem Gz {cs:List Nat} {c:Nat} (hc:c = 10\/c = 9) (h:cs.getLast? = some c):c∈nA cs:=by
 unfold nA;split
 ·rename_i h45
  cases cs with
  | nil=>cases h
  | cons a r =>
   have ea:a = 45:=by simpa using h45
   cases r with
   | nil =>
    have:a = c:=by simpa using h
    omega
   | cons b t =>
    rw [List.getLast?_cons_cons] at h;exact sD h
 ·exact sD h
theorem wC {cs:List Nat} {c:Nat} (hc:c = 10\/c = 9) (h:cs.getLast? = some c):eN cs = none:=by
 cases e:eN cs with
 | none=>rfl
 | some n =>
  obtain ⟨h1,_⟩:=pR e;have:=(sQ h1).2.2.1 c (Gz hc h);omega
theorem vV {x y:Str} {s c:Nat} (hy:y.cps.toList = [s]) (hs:s ≠ c) (hcx:PySem.Txt.contains x y = true) (h:x.cps.toList.getLast? = some c):(PySem.Txt.partition x y).2.2.cps.toList.getLast? = some c:=by
 have e:=congrArg (fun z:Str=>z.cps.toList) (StrLaws.partition_sum x y);simp only [cF] at e;rw [Db hcx,hy] at e;cases hp:(PySem.Txt.partition x y).2.2.cps.toList with
 | nil =>
  rw [hp,append_nil] at e;rw [<- e,List.getLast?_append] at h;have:s = c:=by simpa using h
  exact absurd this hs
 | cons a r =>
  rw [hp] at e;rw [<- e,List.getLast?_append] at h;rw [<- h];cases hl:(a :: r).getLast? with
  | none=>simp at hl
  | some z=>rfl
theorem Ys {x:Str} {c:Nat} (hc:c = 10\/c = 9) (h:x.cps.toList.getLast? = some c):gO x = none:=by
 cases hx:PySem.Txt.contains x "/" with
 | false=>rw [mO hx,wC hc h]; rfl
 | true=>exact xN hx (wC hc (vV kA (by omega) hx h))
theorem Sq {x:Str} {c:Nat} (hc:c = 10\/c = 9) (h:x.cps.toList.getLast? = some c):hU x = none:=by
 have key:eN (PySem.Txt.partition (PySem.Txt.partition x ":").2.2 "*").2.2.cps.toList = none:=by
  cases hx:PySem.Txt.contains x ":" with
  | false =>
   have e1:(PySem.Txt.partition x ":").2.2 = Str.empty:=by rw [nW hx]
   rw [e1,tJ Sn];exact lL
  | true =>
   have h2:=vV nF (by omega) hx h;generalize (PySem.Txt.partition x ":").2.2 = z at h2;cases hz:PySem.Txt.contains z "*" with
   | false =>
    rw [nW hz];exact lL
   | true=>exact wC hc (vV pH (by omega) hz h2)
 unfold hU;rw [key];split
 ·rfl
 ·split <;> rfl
theorem aEu {w:Str} (h:Tl w) (c:Nat):kU c w = true:=by
 obtain ⟨z,hz,hl⟩:=h;have hm:=sD hl;unfold kU;split
 ·have:fA w = false:=by
   cases e:fA w with
   | false=>rfl
   | true =>
    unfold fA at e;simp only [and_eq_true,decide_eq_true_eq,all_eq_true] at e;have:=e.2 z hm;omega
  rw [this]; rfl
 split
 ·unfold nnB;rw [or_eq_true];right;rw [List.any_eq_true];refine ⟨z,hm,?_⟩;rcases hz with rfl | rfl <;> rfl
 split
 ·have:w ∉ dZ:=fun hk=>by
   have h3:w = "far"\/w = "sum"\/w = "square":=by simpa [dZ] using hk
   have key:∀ v:Str,v∈dZ->v.cps.toList.getLast? ≠ some 10/\v.cps.toList.getLast? ≠ some 9:=by
    intro v hv;have h4:v = "far"\/v = "sum"\/v = "square":=by simpa [dZ] using hv
    rcases h4 with rfl | rfl | rfl <;> decide +kernel
   have:=key w hk;rcases hz with rfl | rfl
   ·exact this.1 hl
   ·exact this.2 hl
  rw [decide_eq_false this]; rfl
 split
 ·rw [wC hz hl]; rfl
 split
 ·rw [Ys hz hl]; rfl
 ·rw [Sq hz hl]; rfl
theorem Yw {w e:Str} (h:e = Str.ofString "\n"\/e = Str.ofString "\t"):Tl (w ++ e):=by
 rcases h with rfl | rfl
 ·exact ⟨10,.inl rfl,by rw [cF,show (Str.ofString "\n").cps.toList = [10] by decide +kernel]; simp⟩
 ·exact ⟨9,.inr rfl,by rw [cF,show (Str.ofString "\t").cps.toList = [9] by decide +kernel]; simp⟩
theorem Wd.tail {w e:Str} (hw:Wd w) (hl:w.length<=60) (h:e = Str.ofString "\n"\/e = Str.ofString "\t"):Wd (w ++ e):=by
 have h1:e.length = 1/\32 ∉ e.cps.toList/\∀ c∈e.cps.toList,c < 128:=by
  rcases h with rfl | rfl <;> decide +kernel
 refine ⟨by rw [Str.length_append]; omega,fun z=>?_,?_⟩
 ·rw [cF] at z;rcases mem_append.mp z with y | y
  ·exact hw.n y
  ·exact h1.2.1 y
 ·have o:=hw.o;unfold PyData.strOk at o ⊢;rw [<- all_toList,all_eq_true] at o ⊢;intro c hc;rw [cF] at hc;rcases mem_append.mp hc with y | y
  ·exact o c y
  ·exact decide_eq_true (by have:=h1.2.2 c y; omega)
def great:Str:="10000000000000000000000000000000000000000"
def oB (c:Nat):List Str :=
 if c = 110 then ["","abcdefghi","A","a1","a-","xZ",".","_","xxxxxxxxx","a,"]
 else if c = 111 then ["","abcdefghi","A","a1","xx-","y","xy","yx","xxxxxxxx","5"]
 else if c = 109 then ["","Far","sums","fa","squares","SUM","far,","1","least","summ"]
 else if c = 107 then ["","1.0","+1","01","-0","1/2","--1",great,"x",Str.ofString "-" ++ great]
 else if c = 102 then ["","2/4","1/0","1/","/2","01","-0",Str.ofString "1/" ++ great,"1/-2","0/1"]
 else ["","0:1","0*1","0:1*0","0:1*-1","1/1:0*1","0:2/4*1","0:1*1/2","0:1*1*1",":1*1","0::1*1"]
theorem aCz:(oB 110).all (Xw 110) = true:=by decide +kernel
theorem aCy:(oB 111).all (Xw 111) = true:=by decide +kernel
theorem aDa:(oB 109).all (Xw 109) = true:=by decide +kernel
theorem aDb:(oB 107).all (Xw 107) = true:=by decide +kernel
theorem aDc:(oB 102).all (Xw 102) = true:=by decide +kernel
theorem aCx:(oB 114).all (Xw 114) = true:=by decide +kernel
def KC (c:Nat):Prop:=c = 110\/c = 111\/c = 109\/c = 107\/c = 102\/c = 114
theorem yW {c:Nat} (hc:KC c) {w:Str} (hw:w∈oB c):Bd c w/\w.length<=60:=by
 rcases hc with rfl | rfl | rfl | rfl | rfl | rfl
 ·exact vC (all_eq_true.mp aCz w hw)
 ·exact vC (all_eq_true.mp aCy w hw)
 ·exact vC (all_eq_true.mp aDa w hw)
 ·exact vC (all_eq_true.mp aDb w hw)
 ·exact vC (all_eq_true.mp aDc w hw)
 ·exact vC (all_eq_true.mp aCx w hw)
theorem rB {ws:List Str} {i:Int} (h0:0<=i) (h1:i < (ws.length:Int)):∃ w∈ws,lA (ws.map PyData.str) i = some (.str w):=by
 obtain ⟨j,rfl⟩:∃ j:Nat,i = (j:Int):=⟨i.toNat,by omega⟩;have hj:j < ws.length:=by omega
 exact ⟨ws[j],getElem_mem hj,eL (getElem?_eq_getElem hj)⟩
theorem Vu {i:Nat} (h:i < 4):lA (Str.ofString "abcd").cps.toList (i:Int) = some (97 + i):=by
 have e:(Str.ofString "abcd").cps.toList = (range 4).map (97 + ·):=by decide +kernel
 rw [e];refine cW ?_;rw [getElem?_map,List.getElem?_range h]; rfl
theorem Re:(Str.ofString "abcd").length = 4:=by decide +kernel
def mU (p r n:Nat):List Str:=(range n).map fun k=>cJ p r (97 + k)
def ktab:xB:=[("marks","nrr"),("bend","omk"),("rise","om"),("steps","omk"),("judge","omff"),("drop","o"),("show","o")]
def dP (w0:Str):Str:=(ktab.lookup w0).getD ""
def Yk:DW:=fun ds Q _=>∃ c k:Int,ds = [.int c,.int k]/\Bg 1048577 c/\0<=k/\k<=1000/\∀ v:Int,0<=v->v < 2147483629->Q (.dat (.int v))
theorem aBz (T:Txt K mg A):FnOk P w K mg base (eA P w) 1 A.a_qr1 A.d_qr1 ["cell","k"] (fO K Yk):=by
 refine gM T.F_qr1.F Zm (by walk_at "l") fun cdv Ar outer s H E hr=>?_;refine ⟨_,(aM (aY (aU cQ (aU eI (aU cQ (aU fL (aU fL (aU fL (aU eI (pv 0) aS) (aU eI (aU eI aS (pv 1)) (pv 1))) (aU eI aS (pv 1))) aS) aS) aS) aS))),_,(bG (aB (cV (k:=2147483629) (by decide) (aB (aQ gP (aB (cV (k:=2147483647) (by decide) (aB (aQ eU (aB (aQ eU (aB (aQ eU (aB (aQ gP (aG 0) (aB aP))) (aB (aQ gP (aB (aQ gP (aB aP) (aG 1))) (aG 1))))) (aB (aQ gP (aB aP) (aG 1))))) (aB aP))) aP)) (aB aP))) aP))),?_⟩;rintro ds Q X ⟨c,k,rfl,hc,h0,h1,kq⟩;have w1:Wee (104729 * k):=jG (n:=10 ^ 9) (by omega) (by decide +kernel);have wk:Wee k:=jG (n:=1000) (by omega) (by decide +kernel);walk_at "d";refine ⟨Oe (le_trans hc.bits (by decide)) (Ic (by decide +kernel)),iV (Ic (by decide +kernel)) wk,iV w1 wk,iV (Ic (by decide +kernel)) wk,?_,kq _ (emod_nonneg _ (by decide)) (emod_lt_of_pos _ (by decide))⟩;exact iV (jG (n:=2147483647) (by omega) (by decide +kernel)) (Ic (by decide +kernel))
def Yj:DW:=fun ds Q _=>∃ n:Int,ds = [.int n]/\∀ p r,p + r<=6->Q (.own ((mU p r 4).map .str))
theorem aBy (T:Txt K mg A):FnOk P w K mg base (eA P w) 1 A.a_qs1 A.d_qs1 ["cell"] (fO K Yj):=by
 refine gM T.F_qs1.F rM (by walk_at "l") fun cdv Ar outer s H E hr=>?_
 refine ⟨_,(aJ (eY 1 rM (aU fL aS (aU cQ (pv 0) aS)))
   (aJ (eY 2 rM (aU cQ (aU dN (pv 0) aS) (pv 1)))
   (aJ (eY 3 rM (aZ aE))
   (aJ (kE PassesOwn.leaving rfl (jO rfl T.n_range (aA aS aE)) (pM 4 rM)
    (aM (fE (fZ F.plainAttrs_list F.slot_list_append F.type_list_append jS (pv 3) (aA (aU bC (aU bC (aU rV aF (pv 2)) (dH pU aF (pv 4) (fun _ _=>rfl))) (aU rV aF (aU lK (aU lK (pv 1) (pv 2)) aS))) aE)))))
   (aM (aY (pv 3))))))),_,(aR (bO (aQ eU (aB aP) (aB (cV (k:=7) (by decide) (aG 0) aP))) (aO 1))
   (aR (bO (aQ gP (aB (iN (k:=7) (sU (by decide +kernel)) (aG 0) aP)) (aG 1)) (aO 2))
   (aR (cA 3 (bH aW (by decide)))
   (aR (pG (oM (aH (aB aP) aN)) (aO 4)
    (Aa 3 (aQ bU (aB (aQ bU (aB (aQ Cp (aB aI) (aG 2))) (aB (aQ pJ (aB aI) (aG 4))))) (aB (aQ Cp (aB aI) (aB (aQ eU (aB (aQ eU (aG 1) (aG 2))) (aB aP))))))))
   (jX 3))))),?_⟩
 rintro ds Q X ⟨n,rfl,kq⟩;obtain ⟨sz,hsz,s1,s2⟩:∃ sz:Int,1 + n % 7 = sz/\1<=sz/\sz<=7:=⟨_,rfl,by omega,by omega⟩;obtain ⟨pl,hpl⟩:∃ pl:Int,n / 7 % sz = pl:=⟨_,rfl⟩;have p1:0<=pl:=by rw [<- hpl]; exact emod_nonneg _ (by omega)
 have p2:pl < sz:=by rw [<- hpl]; exact emod_lt_of_pos _ (by omega)
 obtain ⟨p,hp⟩:∃ p:Nat,pl = (p:Int):=⟨pl.toNat,by omega⟩;obtain ⟨r,hr0⟩:∃ r:Nat,sz - pl - 1 = (r:Int):=⟨(sz - pl - 1).toNat,by omega⟩;have pr6:p + r<=6:=by omega
 have al:=Re;have l1:=nR (Str.ofString "x") p;have l2:=nR (Str.ofString "x") r;have xl:=aFv;rw [xl] at l1 l2;walk_at "s";rw [hsz];walk_at "s";refine ⟨by omega,?_⟩;rw [hpl,hp];walk_at "s"
 refine jA (Eb (lo:=0) (st:=1) (n:=4) (fun Q h=>by
   walk_at "d"
   exact ⟨⟨by decide,by decide⟩,h⟩)
  (fun i δ=>∃ s4:Option Sl,δ = [some (.dat (.int n)),some (.dat (.int sz)),some (.dat (.int (p:Int))),some (.own ((mU p r i).map .str)),s4]) ⟨none,rfl⟩ ?_ ?_)
 ·rintro i δ hi ⟨s4,rfl⟩;have ei:(0:Int) + (i:Int) * 1 = (i:Int):=by omega
  rw [ei];have e0:sz - (p:Int) - 1 = (r:Int):=by omega
  have l3:(⟨#[97 + i]⟩:Str).length = 1:=rfl;have hl:(mU p r i).length = i:=by simp [mU]
  walk_at "d";rw [e0,toNat_natCast,toNat_natCast];refine ⟨by omega,by omega,xl,by omega,97 + i,Vu hi,by omega,by omega,by omega,xl,by rw [Str.length_append]; omega,by rw [hl]; omega,some (.dat (.int (i:Int))),?_⟩;have e:mU p r (i + 1) = mU p r i ++ [cJ p r (97 + i)]:=by simp [mU,List.range_succ]
  rw [e,map_append];rfl
 ·rintro δ ⟨s4,rfl⟩;walk_at "d";exact kq p r pr6
def Yn:DW:=fun ds Q _=>∃ (w0:Str) (r:List Str),ds = [.list ((w0 :: r).map .str)]/\Q (.dat (.str (dP w0)))
theorem aBw (T:Txt K mg A):FnOk P w K mg base (eA P w) 1 A.a_qu1 A.d_qu1 ["words"] (fO K Yn):=by
 refine gM T.F_qu1.F sc_qu1 (by walk_at "l") fun cdv Ar outer s H E hr=>?_
 refine ⟨_,(@aJ _ _ _ _ _ (@dG _ _ 1 _ _ _ _ sc_qu1.nd rfl (Or.inl rfl) (@Tk _ _ _ _ _ (iI aF aF (iI aF aF (iI aF aF (iI aF aF (iI aF aF (iI aF aF (iI aF aF Ti))))))) rfl rfl (by simp) (by decide)) (by rfl) (by first | exact .inl rfl | exact .inr rfl))
   (@aM _ _ _ (@aY _ _ _ _ (@Nk _ _ _ _ _ _ _ _ _ (hu1 hr.units) (pv 1) (@dH _ _ _ _ _ _ _ (gH (K:=K) rfl) (pv 0) aS (fun _ _=>rfl)) aF ⟨rfl,rfl,rfl,rfl⟩)))),_,(aR (Si 1 [("marks","nrr"),("bend","omk"),("rise","om"),("steps","omk"),("judge","omff"),("drop","o"),("show","o")] (by decide +kernel) (by decide))
   (bG (aB (Pi (tab:=[("marks","nrr"),("bend","omk"),("rise","om"),("steps","omk"),("judge","omff"),("drop","o"),("show","o")]) (aB (cB (bN 0) (aB aP))) aI)))),?_⟩
 rintro ds Q X ⟨w0,r,rfl,kq⟩;have a0:lA ((w0 :: r).map PyData.str) 0 = some (.str w0):=cW (j:=0) rfl;walk_at "s";refine ⟨_,a0,?_⟩;walk_at "d";have e:((ktab.lookup w0).map PyData.str).getD (.str (Str.ofString "")) = .str (dP w0):=by
  unfold dP;cases ktab.lookup w0 <;> rfl
 rw [<- e] at kq;exact kq
theorem pY:Str.ofString (toString (10000000000000000000000000000000000000000:Int)) = great:=by decide +kernel
theorem uM:great.length = 41:=by decide +kernel
def aLs:DW:=fun ds Q _=>∃ (c:Nat) (n:Int),ds = [.str ⟨#[c]⟩,.int n]/\KC c/\∀ w∈oB c,Q (.dat (.str w))
theorem Nr (T:Txt K mg A):FnOk P w K mg base (eA P w) 1 A.a_qv1 A.d_qv1 ["kind","number"] (fO K aLs):=by
 refine gM T.F_qv1.F sc_qv1 (by walk_at "l") fun cdv Ar outer s H E hr=>?_
 refine ⟨_,(@aJ _ _ _ _ _ (@bV _ _ _ _ _ _ _ _ (@aX _ _ _ _ _ _ _ _ cZ (pv 0) aF (bK _)) (@aM _ _ _ (@aY _ _ _ _ (@dH _ _ _ _ _ _ _ (gH (K:=K) rfl) (@aZ _ _ _ _ (@aA _ _ _ _ _ aF (@aA _ _ _ _ _ aF (@aA _ _ _ _ _ aF (@aA _ _ _ _ _ aF (@aA _ _ _ _ _ aF (@aA _ _ _ _ _ aF (@aA _ _ _ _ _ aF (@aA _ _ _ _ _ aF (@aA _ _ _ _ _ aF (@aA _ _ _ _ _ aF (@aE _) aL) aL) aL) aL) aL) aL) aL) aL) aL) aL)) (@aU _ _ _ _ _ _ _ _ cQ (pv 1) aS) (fun _ _=>rfl)))) bA)
   (@aJ _ _ _ _ _ (@bV _ _ _ _ _ _ _ _ (@aX _ _ _ _ _ _ _ _ cZ (pv 0) aF (bK _)) (@aM _ _ _ (@aY _ _ _ _ (@dH _ _ _ _ _ _ _ (gH (K:=K) rfl) (@aZ _ _ _ _ (@aA _ _ _ _ _ aF (@aA _ _ _ _ _ aF (@aA _ _ _ _ _ aF (@aA _ _ _ _ _ aF (@aA _ _ _ _ _ aF (@aA _ _ _ _ _ aF (@aA _ _ _ _ _ aF (@aA _ _ _ _ _ aF (@aA _ _ _ _ _ aF (@aA _ _ _ _ _ aF (@aE _) aL) aL) aL) aL) aL) aL) aL) aL) aL) aL)) (@aU _ _ _ _ _ _ _ _ cQ (pv 1) aS) (fun _ _=>rfl)))) bA)
   (@aJ _ _ _ _ _ (@bV _ _ _ _ _ _ _ _ (@aX _ _ _ _ _ _ _ _ cZ (pv 0) aF (bK _)) (@aM _ _ _ (@aY _ _ _ _ (@dH _ _ _ _ _ _ _ (gH (K:=K) rfl) (@aZ _ _ _ _ (@aA _ _ _ _ _ aF (@aA _ _ _ _ _ aF (@aA _ _ _ _ _ aF (@aA _ _ _ _ _ aF (@aA _ _ _ _ _ aF (@aA _ _ _ _ _ aF (@aA _ _ _ _ _ aF (@aA _ _ _ _ _ aF (@aA _ _ _ _ _ aF (@aA _ _ _ _ _ aF (@aE _) aL) aL) aL) aL) aL) aL) aL) aL) aL) aL)) (@aU _ _ _ _ _ _ _ _ cQ (pv 1) aS) (fun _ _=>rfl)))) bA)
   (@aJ _ _ _ _ _ (@dG _ _ 2 _ _ _ _ sc_qv1.nd rfl (Or.inl rfl) (cM cG rfl T.n_str Dl.boot_str (@aA _ _ _ _ _ (@aU _ _ _ _ _ _ _ _ Nq aS aS) (@aE _) gF)) (by rfl) (by first | exact .inl rfl | exact .inr rfl))
   (@aJ _ _ _ _ _ (@bV _ _ _ _ _ _ _ _ (@aX _ _ _ _ _ _ _ _ cZ (pv 0) aF (bK _)) (@aM _ _ _ (@aY _ _ _ _ (@dH _ _ _ _ _ _ _ (gH (K:=K) rfl) (@aZ _ _ _ _ (@aA _ _ _ _ _ aF (@aA _ _ _ _ _ aF (@aA _ _ _ _ _ aF (@aA _ _ _ _ _ aF (@aA _ _ _ _ _ aF (@aA _ _ _ _ _ aF (@aA _ _ _ _ _ aF (@aA _ _ _ _ _ (pv 2) (@aA _ _ _ _ _ aF (@aA _ _ _ _ _ (@aU _ _ _ _ _ _ _ _ bC aF (pv 2)) (@aE _) gF) aL) bP) aL) aL) aL) aL) aL) aL) aL)) (@aU _ _ _ _ _ _ _ _ cQ (pv 1) aS) (fun _ _=>rfl)))) bA)
   (@aJ _ _ _ _ _ (@bV _ _ _ _ _ _ _ _ (@aX _ _ _ _ _ _ _ _ cZ (pv 0) aF (bK _)) (@aM _ _ _ (@aY _ _ _ _ (@dH _ _ _ _ _ _ _ (gH (K:=K) rfl) (@aZ _ _ _ _ (@aA _ _ _ _ _ aF (@aA _ _ _ _ _ aF (@aA _ _ _ _ _ aF (@aA _ _ _ _ _ aF (@aA _ _ _ _ _ aF (@aA _ _ _ _ _ aF (@aA _ _ _ _ _ aF (@aA _ _ _ _ _ (@aU _ _ _ _ _ _ _ _ bC aF (pv 2)) (@aA _ _ _ _ _ aF (@aA _ _ _ _ _ aF (@aE _) aL) aL) gF) aL) aL) aL) aL) aL) aL) aL)) (@aU _ _ _ _ _ _ _ _ cQ (pv 1) aS) (fun _ _=>rfl)))) bA)
   (@aJ _ _ _ _ _ (@dG _ _ 3 _ _ _ _ sc_qv1.nd rfl (Or.inl rfl) (@aZ _ _ _ _ (@aA _ _ _ _ _ aF (@aA _ _ _ _ _ aF (@aA _ _ _ _ _ aF (@aA _ _ _ _ _ aF (@aA _ _ _ _ _ aF (@aA _ _ _ _ _ aF (@aA _ _ _ _ _ aF (@aA _ _ _ _ _ aF (@aA _ _ _ _ _ aF (@aA _ _ _ _ _ aF (@aA _ _ _ _ _ aF (@aE _) aL) aL) aL) aL) aL) aL) aL) aL) aL) aL) aL)) (by rfl) (by first | exact .inl rfl | exact .inr rfl))
   (@aM _ _ _ (@aY _ _ _ _ (@dH _ _ _ _ _ _ _ (gH (K:=K) rfl) (pv 3) (@aU _ _ _ _ _ _ _ _ cQ (pv 1) aS) (fun _ _=>rfl))))))))))),_,(aR (cD (bB (aB (aQ cY (aG 0) (aB aI)))) (bG (aB (cB (gA (bH (aC aI (aC aI (aC aI (aC aI (aC aI (aC aI (aC aI (aC aI (aC aI (aC aI aW)))))))))) (by decide))) (aB (cV (k:=10) (by decide) (aG 1) aP))))) bL)
   (aR (cD (bB (aB (aQ cY (aG 0) (aB aI)))) (bG (aB (cB (gA (bH (aC aI (aC aI (aC aI (aC aI (aC aI (aC aI (aC aI (aC aI (aC aI (aC aI aW)))))))))) (by decide))) (aB (cV (k:=10) (by decide) (aG 1) aP))))) bL)
   (aR (cD (bB (aB (aQ cY (aG 0) (aB aI)))) (bG (aB (cB (gA (bH (aC aI (aC aI (aC aI (aC aI (aC aI (aC aI (aC aI (aC aI (aC aI (aC aI aW)))))))))) (by decide))) (aB (cV (k:=10) (by decide) (aG 1) aP))))) bL)
   (aR (bO (cI fJ (aH (aB (Uz (v:=10000000000000000000000000000000000000000) (aQ gP (aB aP) (aB aP)) (fun ex δ Q h=>⟨aKn (by decide +kernel),Eq.mpr (congrArg (fun z=>Q (.int z)) (by decide +kernel:((10 ^ toNat 40):Int) = 10000000000000000000000000000000000000000)) h⟩))) aN)) (aO 2))
   (aR (cD (bB (aB (aQ cY (aG 0) (aB aI)))) (bG (aB (cB (gA (bH (aC aI (aC aI (aC aI (aC aI (aC aI (aC aI (aC aI (aC (aV 2) (aC aI (aC (aQ bU (aB aI) (aG 2)) aW)))))))))) (by decide))) (aB (cV (k:=10) (by decide) (aG 1) aP))))) bL)
   (aR (cD (bB (aB (aQ cY (aG 0) (aB aI)))) (bG (aB (cB (gA (bH (aC aI (aC aI (aC aI (aC aI (aC aI (aC aI (aC aI (aC (aQ bU (aB aI) (aG 2)) (aC aI (aC aI aW)))))))))) (by decide))) (aB (cV (k:=10) (by decide) (aG 1) aP))))) bL)
   (aR (cA 3 (bH (aC aI (aC aI (aC aI (aC aI (aC aI (aC aI (aC aI (aC aI (aC aI (aC aI (aC aI aW))))))))))) (by decide)))
   (bG (aB (cB (bN 3) (aB (cV (k:=11) (by decide) (aG 1) aP)))))))))))),?_⟩
 rintro ds Q X ⟨c,n,rfl,hc,kq⟩;have m10:∀ {ws:List Str},ws.length = 10->∃ w∈ws,lA (ws.map PyData.str) (n % 10) = some (.str w):=fun h=>rB (by omega) (by omega);rcases hc with rfl | rfl | rfl | rfl | rfl | rfl
 ·obtain ⟨w,hw,ha⟩:=m10 (ws:=oB 110) rfl;walk_at "s";refine bS (fun _=>?_) (fun c=>absurd (by decide +kernel) c);exact ⟨_,ha,kq w hw⟩
 ·obtain ⟨w,hw,ha⟩:=m10 (ws:=oB 111) rfl;walk_at "s";refine bS (fun c=>absurd c (by decide +kernel)) (fun _=>?_);walk_at "s";refine bS (fun _=>?_) (fun c=>absurd (by decide +kernel) c);exact ⟨_,ha,kq w hw⟩
 ·obtain ⟨w,hw,ha⟩:=m10 (ws:=oB 109) rfl;walk_at "s";refine bS (fun c=>absurd c (by decide +kernel)) (fun _=>?_);walk_at "s";refine bS (fun c=>absurd c (by decide +kernel)) (fun _=>?_);walk_at "s";refine bS (fun _=>?_) (fun c=>absurd (by decide +kernel) c);exact ⟨_,ha,kq w hw⟩
 ·obtain ⟨w,hw,ha⟩:=m10 (ws:=oB 107) rfl;walk_at "s";refine bS (fun c=>absurd c (by decide +kernel)) (fun _=>?_);walk_at "s";refine bS (fun c=>absurd c (by decide +kernel)) (fun _=>?_);walk_at "s";refine bS (fun c=>absurd c (by decide +kernel)) (fun _=>?_);walk_at "s";refine ⟨oE (by decide +kernel),?_⟩;walk_at "s";rw [pY];refine bS (fun _=>?_) (fun c=>absurd (by decide +kernel) c);exact ⟨by rw [uM]; decide +kernel,_,ha,kq w hw⟩
 ·obtain ⟨w,hw,ha⟩:=m10 (ws:=oB 102) rfl;walk_at "s";refine bS (fun c=>absurd c (by decide +kernel)) (fun _=>?_);walk_at "s";refine bS (fun c=>absurd c (by decide +kernel)) (fun _=>?_);walk_at "s";refine bS (fun c=>absurd c (by decide +kernel)) (fun _=>?_);walk_at "s";refine ⟨oE (by decide +kernel),?_⟩;walk_at "s";rw [pY];refine bS (fun c=>absurd c (by decide +kernel)) (fun _=>?_);walk_at "s";refine bS (fun _=>?_) (fun c=>absurd (by decide +kernel) c);exact ⟨by rw [uM]; decide +kernel,_,ha,kq w hw⟩
 ·obtain ⟨w,hw,ha⟩:=rB (ws:=oB 114) (i:=n % 11) (by omega) (show n % 11 < 11 by omega);walk_at "s";refine bS (fun c=>absurd c (by decide +kernel)) (fun _=>?_);walk_at "s";refine bS (fun c=>absurd c (by decide +kernel)) (fun _=>?_);walk_at "s";refine bS (fun c=>absurd c (by decide +kernel)) (fun _=>?_);walk_at "s";refine ⟨oE (by decide +kernel),?_⟩;walk_at "s";rw [pY];refine bS (fun c=>absurd c (by decide +kernel)) (fun _=>?_);walk_at "s";refine bS (fun c=>absurd c (by decide +kernel)) (fun _=>?_);walk_at "s";exact ⟨_,ha,kq w hw⟩
def forms (a b c n:Str):List (List Str):=[["marks",n,"0:1*2","1/2:3*1"],["bend",a,"far","1"],["rise",b,"sum"],["steps",a,"square","2"],["judge",c,"sum","1","2/3"],["drop",a],["show",b],["names"]]
def iP (ws:List Str):PyData:=.list (ws.map .str)
def oG (w0:Str):List Nat:=(dP w0).cps.toList
structure Sp (c at_:Nat) (args args':List Str):Prop where
 len:args'.length = args.length
 pre:∀ j,j < at_->args'[j]? = args[j]?
 bad:∃ w,args'[at_]? = some w/\Bd c w
 wd:∀ x∈args',Wd x
def Vd (c:Nat):Str:=if c = 110\/c = 111 then "NoName" else if c = 109 then "NoKind" else "NoText"
structure Fm (w0:Str) (args:List Str):Prop where
 len:(oG w0).length = args.length
 kc:∀ c∈oG w0,KC c
 wd:∀ x∈args,Wd x/\x.length<=60
 l5:args.length<=5
theorem Zi (x:Str):x.length = x.cps.toList.length:=(dI x).symm
def aGe:DW:=fun ds Q _=>∃ (n0:Int) (p r:Nat) (nm:Str),ds = [.int n0,.list ((mU p r 4).map .str),.str nm]/\∀ ws∈forms (cJ p r 97) (cJ p r 98) (cJ p r 99) nm,Q (.dat (iP ws))
theorem aBx (T:Txt K mg A):FnOk P w K mg base (eA P w) 1 A.a_qt1 A.d_qt1 ["number","names","n"] (fO K aGe):=by
 refine gM T.F_qt1.F sc_qt1 (by walk_at "l") fun cdv Ar outer s H E hr=>?_
 refine ⟨_,(@aJ _ _ _ _ _ (lJ (pv 1) (Al (K:=K) (n:=4) rfl rfl (bX (pM 3 sc_qt1) (bX (pM 4 sc_qt1) (bX (pM 5 sc_qt1) (bX (pM 6 sc_qt1) eZ))))))
   (@aJ _ _ _ _ _ (@dG _ _ 7 _ _ _ _ sc_qt1.nd rfl (Or.inl rfl) (@aZ _ _ _ _ (@aA _ _ _ _ _ (@aZ _ _ _ _ (@aA _ _ _ _ _ aF (@aA _ _ _ _ _ (pv 2) (@aA _ _ _ _ _ aF (@aA _ _ _ _ _ aF (@aE _) aL) aL) bP) aL)) (@aA _ _ _ _ _ (@aZ _ _ _ _ (@aA _ _ _ _ _ aF (@aA _ _ _ _ _ (pv 3) (@aA _ _ _ _ _ aF (@aA _ _ _ _ _ aF (@aE _) aL) aL) bP) aL)) (@aA _ _ _ _ _ (@aZ _ _ _ _ (@aA _ _ _ _ _ aF (@aA _ _ _ _ _ (pv 4) (@aA _ _ _ _ _ aF (@aE _) aL) bP) aL)) (@aE _) eC) eC) eC)) (by rfl) (by first | exact .inl rfl | exact .inr rfl))
   (@aJ _ _ _ _ _ (@dG _ _ 7 _ _ _ _ sc_qt1.nd rfl (Or.inl rfl) (@aU _ _ _ _ _ _ _ _ gX (pv 7) (@aZ _ _ _ _ (@aA _ _ _ _ _ (@aZ _ _ _ _ (@aA _ _ _ _ _ aF (@aA _ _ _ _ _ (pv 3) (@aA _ _ _ _ _ aF (@aA _ _ _ _ _ aF (@aE _) aL) aL) bP) aL)) (@aA _ _ _ _ _ (@aZ _ _ _ _ (@aA _ _ _ _ _ aF (@aA _ _ _ _ _ (pv 5) (@aA _ _ _ _ _ aF (@aA _ _ _ _ _ aF (@aA _ _ _ _ _ aF (@aE _) aL) aL) aL) bP) aL)) (@aA _ _ _ _ _ (@aZ _ _ _ _ (@aA _ _ _ _ _ aF (@aA _ _ _ _ _ (pv 3) (@aE _) bP) aL)) (@aA _ _ _ _ _ (@aZ _ _ _ _ (@aA _ _ _ _ _ aF (@aA _ _ _ _ _ (pv 4) (@aE _) bP) aL)) (@aA _ _ _ _ _ (@aZ _ _ _ _ (@aA _ _ _ _ _ aF (@aE _) aL)) (@aE _) eC) eC) eC) eC) eC))) (by rfl) (by first | exact .inl rfl | exact .inr rfl))
   (@aM _ _ _ (@aY _ _ _ _ (@dH _ _ _ _ _ _ _ (gH (K:=K) rfl) (pv 7) (@aU _ _ _ _ _ _ _ _ cQ (pv 0) aS) (fun _ _=>rfl))))))),_,(cO (bO (aV 1) (mZ (cH (aO 3) (cH (aO 4) (cH (aO 5) (cH (aO 6) gI))))))
   (cO (cA 7 (bH (aC (bY (bH (aC aI (aC (aV 2) (aC aI (aC aI aW)))) (by decide))) (aC (bY (bH (aC aI (aC (aV 3) (aC aI (aC aI aW)))) (by decide))) (aC (bY (bH (aC aI (aC (aV 4) (aC aI aW))) (by decide))) aW))) (by decide)))
   (cO (cA 7 (gW (kH 7) (fU (bH (aC (bY (bH (aC aI (aC (aV 3) (aC aI (aC aI aW)))) (by decide))) (aC (bY (bH (aC aI (aC (aV 5) (aC aI (aC aI (aC aI aW))))) (by decide))) (aC (bY (bH (aC aI (aC (aV 3) aW)) (by decide))) (aC (bY (bH (aC aI (aC (aV 4) aW)) (by decide))) (aC (bY (bH (aC aI aW) (by decide))) aW))))) (by decide)))))
   (bG (aB (cB (bN 7) (aB (cV (k:=8) (by decide) (aG 0) aP)))))))),?_⟩
 rintro ds Q X ⟨n0,p,r,nm,rfl,kq⟩;obtain ⟨i,hi,i8⟩:∃ i:Nat,n0 % 8 = (i:Int)/\i < 8:=⟨(n0 % 8).toNat,by omega,by omega⟩;have e4:(mU p r 4).map PyData.str = [.str (cJ p r 97),.str (cJ p r 98),.str (cJ p r 99),.str (cJ p r 100)]:=rfl;rw [e4];refine cT (fun δ=>δ = [some (.dat (.int n0)),some (.dat (.list [.str (cJ p r 97),.str (cJ p r 98),.str (cJ p r 99),.str (cJ p r 100)])),some (.dat (.str nm)),some (.dat (.str (cJ p r 97))),some (.dat (.str (cJ p r 98))),some (.dat (.str (cJ p r 99))),some (.dat (.str (cJ p r 100))),none]) ?_ ?_
 ·walk_at "d"
 rintro δ rfl;refine cT (fun δ=>δ = [some (.dat (.int n0)),some (.dat (.list [.str (cJ p r 97),.str (cJ p r 98),.str (cJ p r 99),.str (cJ p r 100)])),some (.dat (.str nm)),some (.dat (.str (cJ p r 97))),some (.dat (.str (cJ p r 98))),some (.dat (.str (cJ p r 99))),some (.dat (.str (cJ p r 100))),some (.own (((forms (cJ p r 97) (cJ p r 98) (cJ p r 99) nm).take 3).map iP))]) ?_ ?_
 ·walk_at "d";rfl
 rintro δ rfl;refine cT (fun δ=>δ = [some (.dat (.int n0)),some (.dat (.list [.str (cJ p r 97),.str (cJ p r 98),.str (cJ p r 99),.str (cJ p r 100)])),some (.dat (.str nm)),some (.dat (.str (cJ p r 97))),some (.dat (.str (cJ p r 98))),some (.dat (.str (cJ p r 99))),some (.dat (.str (cJ p r 100))),some (.own ((forms (cJ p r 97) (cJ p r 98) (cJ p r 99) nm).map iP))]) ?_ ?_
 ·walk_at "d";exact ⟨(show (3:Nat) + 5<=1000 by decide),rfl⟩
 rintro δ rfl;obtain ⟨fs,hfs⟩:∃ fs,forms (cJ p r 97) (cJ p r 98) (cJ p r 99) nm = fs:=⟨_,rfl⟩;have fl:fs.length = 8:=by rw [<- hfs]; rfl
 rw [hfs] at kq ⊢;have i8':i < fs.length:=by omega
 walk_at "d";rw [hi];exact ⟨iP fs[i],cW (by rw [getElem?_map,getElem?_eq_getElem i8']; rfl),kq _ (getElem_mem i8')⟩
theorem Dw {n j:Nat} {i:Int} (e:i = (j:Int)) (h:j < n):Hv n i = some j:=by
 subst e;unfold Hv;rw [if_pos (by omega),if_pos (by omega),toNat_natCast]
theorem vP {c k:Nat} {x:Str} (h:x = ⟨#[k]⟩):((⟨#[c]⟩:Str) = x) ↔ c = k:=by
 subst h;constructor
 ·intro e;have:=congrArg (fun z:Str=>z.cps.toList) e;simpa using this
 ·rintro rfl; rfl
theorem aMo:Str.ofString "n" = ⟨#[110]⟩:=by decide +kernel
theorem aMf:Str.ofString "o" = ⟨#[111]⟩:=by decide +kernel
theorem aIo:Str.ofString "m" = ⟨#[109]⟩:=by decide +kernel
def noL:List { x:Str // PyData.strOk x = true }:=[⟨"n",by decide +kernel⟩,⟨"o",by decide +kernel⟩]
theorem Wt {c:Nat} (h:KC c):PyData.strOk (⟨#[c]⟩:Str) = true:=by
 rcases h with rfl | rfl | rfl | rfl | rfl | rfl <;> decide +kernel
theorem yC {w0:Str} {args:List Str} {j:Nat} {v:Str}:((w0 :: args).map PyData.str).set (j + 1) (PyData.str v) = (w0 :: args.set j v).map PyData.str:=by
 rw [map_cons,map_cons,List.set_cons_succ,List.map_set]
def Rv:DW:=fun ds Q _=>∃ (w0:Str) (args:List Str) (n:Int),ds = [.list ((w0 :: args).map .str),.int n]/\0<=n/\Fm w0 args/\(dP w0 = ""->Q (.dat (.list [iP (w0 :: args ++ ([Str.ofString "a"]:List Str)),.str "NoRow"]))) /\
 (dP w0 ≠ ""->∀ at_ c args',(oG w0)[at_]? = some c->Sp c at_ args args'->Q (.dat (.list [iP (w0 :: args'),.str (Vd c)])))
theorem aBv (T:Txt K mg A):FnOk P w K mg base (eA P w) 2 A.a_qw1 A.d_qw1 ["words","number"] (fO K Rv):=by
 refine gM T.F_qw1.F sc_qw1 (by walk_at "l") fun cdv Ar outer s H E hr=>?_
 refine ⟨_,(@aJ _ _ _ _ _ (@dG _ _ 2 _ _ _ _ sc_qw1.nd rfl (Or.inl rfl) (dQ (aBw T) hr T.F_qu1 bF (@aA _ _ _ _ _ (pv 0) (@aE _) bP)) (by rfl) (by first | exact .inl rfl | exact .inr rfl))
   (@aJ _ _ _ _ _ (@bV _ _ _ _ _ _ _ _ (@aX _ _ _ _ _ _ _ _ cZ (pv 2) aF (bK _)) (@aM _ _ _ (@aY _ _ _ _ (@aZ _ _ _ _ (@aA _ _ _ _ _ (@aU _ _ _ _ _ _ _ _ (Qu (K:=K) rfl) (pv 0) (@aZ _ _ _ _ (@aA _ _ _ _ _ aF (@aE _) aL))) (@aA _ _ _ _ _ aF (@aE _) aL) gF)))) bA)
   (@aJ _ _ _ _ _ (@dG _ _ 3 _ _ _ _ sc_qw1.nd rfl (Or.inl rfl) (@aU _ _ _ _ _ _ _ _ cQ (pv 1) (bI eK rfl T.n_len boot_len (@aA _ _ _ _ _ (pv 2) (@aE _) bP))) (by rfl) (by first | exact .inl rfl | exact .inr rfl))
   (@aJ _ _ _ _ _ (@dG _ _ 4 _ _ _ _ sc_qw1.nd rfl (Or.inl rfl) (@aU _ _ _ _ _ _ _ _ fL (pv 3) (@aU _ _ _ _ _ _ _ _ cQ (@aU _ _ _ _ _ _ _ _ dN (pv 1) aS) aS)) (by rfl) (by first | exact .inl rfl | exact .inr rfl))
   (@aJ _ _ _ _ _ (@dG _ _ 0 _ _ _ _ sc_qw1.nd rfl (Or.inl rfl) (cM (aIq (K:=K) rfl) rfl T.n_list Vn (@aA _ _ _ _ _ (pv 0) (@aE _) bP)) (by rfl) (by first | exact .inl rfl | exact .inr rfl))
   (@aJ _ _ _ _ _ (@bV _ _ _ _ _ _ _ _ (@aX _ _ _ _ _ _ _ _ mG (pv 4) (bI eK rfl T.n_len boot_len (@aA _ _ _ _ _ (pv 2) (@aE _) bP)) (bK _)) (@aM _ _ _ (lJ (dQ (Nr T) hr T.F_qv1 bF (@aA _ _ _ _ _ (@dH _ _ _ _ _ _ _ pU (pv 2) (pv 4) (fun _ _=>rfl)) (@aA _ _ _ _ _ (@aU _ _ _ _ _ _ _ _ dN (pv 1) aS) (@aE _) gF) lH)) (Nd (pv 0) (@aU _ _ _ _ _ _ _ _ fL aS (pv 4)) yB))) bA)
   (@aJ _ _ _ _ _ (@dG _ _ 5 _ _ _ _ sc_qw1.nd rfl (Or.inl rfl) (@aU _ _ _ _ _ _ _ _ bC (@dH _ _ _ _ _ _ _ (gH (K:=K) rfl) (pv 0) (@aU _ _ _ _ _ _ _ _ fL aS (pv 3)) (fun _ _=>rfl)) (@dH _ _ _ _ _ _ _ (gH (K:=K) rfl) (@aZ _ _ _ _ (@aA _ _ _ _ _ aF (@aA _ _ _ _ _ aF (@aE _) aL) aL)) (@aU _ _ _ _ _ _ _ _ cQ (pv 1) aS) (fun _ _=>rfl))) (by rfl) (by first | exact .inl rfl | exact .inr rfl))
   (@aJ _ _ _ _ _ (@bV _ _ _ _ _ _ _ _ (@aX _ _ _ _ _ _ _ _ qE (@aU _ _ _ _ _ _ _ _ cQ (@aU _ _ _ _ _ _ _ _ dN (pv 1) aS) aS) aS (bK _)) (@aM _ _ _ (eY 5 sc_qw1 (dQ (Nr T) hr T.F_qv1 bF (@aA _ _ _ _ _ (@dH _ _ _ _ _ _ _ pU (pv 2) (pv 3) (fun _ _=>rfl)) (@aA _ _ _ _ _ (@aU _ _ _ _ _ _ _ _ dN (pv 1) aS) (@aE _) gF) lH)))) bA)
   (@aJ _ _ _ _ _ (lJ (pv 5) (Nd (pv 0) (@aU _ _ _ _ _ _ _ _ fL aS (pv 3)) yB))
   (@aJ _ _ _ _ _ (@dG _ _ 6 _ _ _ _ sc_qw1.nd rfl (Or.inl rfl) aF (by rfl) (by first | exact .inl rfl | exact .inr rfl))
   (@aJ _ _ _ _ _ (@bV _ _ _ _ _ _ _ _ (@aX _ _ _ _ _ _ _ _ (inK (K:=K) rfl hr.units) (@dH _ _ _ _ _ _ _ pU (pv 2) (pv 3) (fun _ _=>rfl)) (@aZ _ _ _ _ (@aA _ _ _ _ _ aF (@aA _ _ _ _ _ aF (@aE _) aL) aL)) rfl) (@aM _ _ _ (eY 6 sc_qw1 aF)) bA)
   (@aJ _ _ _ _ _ (@bV _ _ _ _ _ _ _ _ (@aX _ _ _ _ _ _ _ _ cZ (@dH _ _ _ _ _ _ _ pU (pv 2) (pv 3) (fun _ _=>rfl)) aF (bK _)) (@aM _ _ _ (eY 6 sc_qw1 aF)) bA)
   (@aM _ _ _ (@aY _ _ _ _ (@aZ _ _ _ _ (@aA _ _ _ _ _ (pv 0) (@aA _ _ _ _ _ (pv 6) (@aE _) bP) bP)))))))))))))))),_,(aR (bO (bE (aH (aG 0) aN)) (aO 2))
   (aR (cD (bB (aB (aQ cY (aG 2) (aB aI)))) (bG (gZ (cU (aB (bY (vY (aV 0) (bY (bH (aC aI aW) (by decide)))))) (cU (aB aI) hG)) (by decide))) bL)
   (cO (bO (aQ gP (aG 1) (aB (cI kB (aH (aG 2) aN)))) (aO 3))
   (cO (bO (aQ eU (aG 3) (aB (cV (k:=3) (by decide) (aB (iN (k:=8) (sU (by decide +kernel)) (aG 1) aP)) aP))) (aO 4))
   (cO (cA 0 (Tt (bN 0)))
   (cO (cD (bB (aB (aQ fX (aG 4) (aB (cI kB (aH (aG 2) aN)))))) (xU 0 (bE (aH (aB (aQ pJ (aG 2) (aG 4))) (aH (aB (iN (k:=288) (sU (by decide +kernel)) (aG 1) aP)) aN))) (aB (aQ eU (aB aP) (aG 4)))) bL)
   (cO (bO (aQ bU (aB (cB (bN 0) (aB (aQ eU (aB aP) (aG 3))))) (aB (cB (gA (bH (aC aI (aC aI aW)) (by decide))) (aB (cV (k:=2) (by decide) (aG 1) aP))))) (aO 5))
   (cO (cD (bB (aB (aQ fX (aB (cV (k:=5) (by decide) (aB (iN (k:=6912) (sU (by decide +kernel)) (aG 1) aP)) aP)) (aB aP)))) (bO (bE (aH (aB (aQ pJ (aG 2) (aG 3))) (aH (aB (iN (k:=24) (sU (by decide +kernel)) (aG 1) aP)) aN))) (aO 5)) bL)
   (cO (xU 0 (aV 5) (aB (aQ eU (aB aP) (aG 3))))
   (aR (bO aI (aO 6))
   (cO (cD (bB (aB (aQ Ma (aB (aQ pJ (aG 2) (aG 3))) (aB (bY (bH (aC aI (aC aI aW)) (by decide))))))) (bO aI (aO 6)) bL)
   (aR (cD (bB (aB (aQ cY (aB (aQ pJ (aG 2) (aG 3))) (aB aI)))) (bO aI (aO 6)) bL)
   (bG (gZ (cU (aG 0) (cU (aG 6) hG)) (by decide))))))))))))))),?_⟩
 rintro ds Q X ⟨w0,args,n,rfl,n0,F,k1,k2⟩;have l5:=F.l5;have fl:=F.len;have kl:(dP w0).length = (oG w0).length:=Zi _;walk_at "s";refine ⟨w0,args,rfl,?_⟩;walk_at "d";walk_at "s";refine bS (fun c=>?_) (fun c=>?_)
 ·have hl:((w0 :: args).map PyData.str).length + 1<=1000:=by simp; omega
  refine ⟨_,_,rfl,rfl,by simpa using hl,?_⟩;have:=k1 c;simpa [iP] using this
 have kp:0 < (oG w0).length:=by
  rcases eq_zero_or_pos (oG w0).length with z | z
  ·exact absurd (eG (by rw [show (dP w0).cps.toList = [] from length_eq_zero_iff.mp z]; rfl)) c
  ·exact z
 obtain ⟨at_,hat,at2⟩:∃ at_:Nat,n % ((dP w0).length:Int) = (at_:Int)/\at_ < (oG w0).length:=by
  have h0:=emod_nonneg n (show ((dP w0).length:Int) ≠ 0 by omega);have h1:=emod_lt_of_pos n (show (0:Int) < ((dP w0).length:Int) by omega);exact ⟨(n % ((dP w0).length:Int)).toNat,by omega,by omega⟩
 obtain ⟨la,hla,la1⟩:∃ la:Nat,(at_:Int) + n / 8 % 3 = (la:Int)/\at_<=la:=⟨((at_:Int) + n / 8 % 3).toNat,by omega,by omega⟩;obtain ⟨kc,hkc⟩:∃ kc,(oG w0)[at_]? = some kc:=⟨_,getElem?_eq_getElem at2⟩;have hKC:=F.kc kc (mem_of_getElem? hkc);have kl5:(dP w0).length<=5:=by omega
 have akc:lA (dP w0).cps.toList (at_:Int) = some kc:=cW hkc;refine cT (fun δ=>δ = [some (.dat (iP (w0 :: args))),some (.dat (.int n)),some (.dat (.str (dP w0))),some (.dat (.int (at_:Int))),none,none,none]) ?_ ?_
 ·walk_at "d";refine ⟨by omega,by omega,?_⟩;rw [hat];rfl
 rintro δ rfl;refine cT (fun δ=>δ = [some (.dat (iP (w0 :: args))),some (.dat (.int n)),some (.dat (.str (dP w0))),some (.dat (.int (at_:Int))),some (.dat (.int (la:Int))),none,none]) ?_ ?_
 ·walk_at "d";rw [hla]
 rintro δ rfl;refine cT (fun δ=>δ = [some (.own ((w0 :: args).map .str)),some (.dat (.int n)),some (.dat (.str (dP w0))),some (.dat (.int (at_:Int))),some (.dat (.int (la:Int))),none,none]) ?_ ?_
 ·unfold iP;walk_at "d"
 rintro δ rfl;refine cT (fun δ=>∃ args1:List Str,δ = [some (.own ((w0 :: args1).map .str)),some (.dat (.int n)),some (.dat (.str (dP w0))),some (.dat (.int (at_:Int))),some (.dat (.int (la:Int))),none,none]/\args1.length = args.length/\(∀ j,j < at_->args1[j]? = args[j]?)/\∀ x∈args1,Wd x/\x.length<=60) ?_ ?_
 ·walk_at "d";refine ⟨by omega,bS (fun c2=>?_) (fun c2=>⟨args,rfl,rfl,fun _ _=>rfl,F.wd⟩)⟩;have la2:la < (oG w0).length:=by omega
  obtain ⟨kc2,hkc2⟩:∃ kc2,(oG w0)[la]? = some kc2:=⟨_,getElem?_eq_getElem la2⟩;refine ⟨by omega,kc2,cW hkc2,kc2,_,rfl,F.kc kc2 (mem_of_getElem? hkc2),fun v hv=>?_⟩;obtain ⟨hb,hvl⟩:=yW (F.kc kc2 (mem_of_getElem? hkc2)) hv;walk_at "d";refine ⟨la + 1,Dw (by omega) (by omega),args.set la v,by rw [yC],by rw [length_set],fun j hj=>?_,fun x hx=>?_⟩
  ·rw [getElem?_set_ne (by omega)]
  ·rcases List.mem_or_eq_of_mem_set hx with y | rfl
   ·exact F.wd x y
   ·exact ⟨hb.w,hvl⟩
 rintro δ ⟨args1,rfl,al,apre,awd⟩;have at3:at_ < args1.length:=by omega
 obtain ⟨x0,hx0⟩:∃ x0,args1[at_]? = some x0:=⟨_,getElem?_eq_getElem at3⟩;have w0d:=awd x0 (mem_of_getElem? hx0);have a1:lA ((w0 :: args1).map PyData.str) (1 + (at_:Int)) = some (.str x0):=by
  rw [show (1:Int) + (at_:Int) = ((at_ + 1:Nat):Int) by omega];exact eL (by rw [List.getElem?_cons_succ]; exact hx0)
 obtain ⟨te,hte,ate⟩:∃ te:Str,(te = Str.ofString "\n"\/te = Str.ofString "\t")/\lA [PyData.str (Str.ofString "\n"),.str (Str.ofString "\t")] (n % 2) = some (.str te):=by
  have:n % 2 = 0\/n % 2 = 1:=by omega
  rcases this with e | e <;> rw [e]
  ·exact ⟨_,.inl rfl,cW (j:=0) rfl⟩
  ·exact ⟨_,.inr rfl,cW (j:=1) rfl⟩
 have tel:te.length = 1:=by rcases hte with rfl | rfl <;> decide +kernel
 refine cT (fun δ=>δ = [some (.own ((w0 :: args1).map .str)),some (.dat (.int n)),some (.dat (.str (dP w0))),some (.dat (.int (at_:Int))),some (.dat (.int (la:Int))),some (.dat (.str (x0 ++ te))),none]) ?_ ?_
 ·walk_at "d";refine ⟨_,a1,_,ate,?_⟩;walk_at "d";omega
 rintro δ rfl;refine cT (fun δ=>∃ v:Str,δ = [some (.own ((w0 :: args1).map .str)),some (.dat (.int n)),some (.dat (.str (dP w0))),some (.dat (.int (at_:Int))),some (.dat (.int (la:Int))),some (.dat (.str v)),none]/\Bd kc v) ?_ ?_
 ·walk_at "d";refine bS (fun _=>?_) (fun _=>⟨x0 ++ te,rfl,aEu (Yw hte) kc,w0d.1.tail w0d.2 hte⟩);refine ⟨by omega,kc,akc,kc,_,rfl,hKC,fun v hv=>?_⟩;walk_at "d";exact ⟨v,rfl,(yW hKC hv).1⟩
 rintro δ ⟨v,rfl,hb⟩;have S:Sp kc at_ args (args1.set at_ v):=by
  refine ⟨by rw [length_set]; exact al,fun j hj=>?_,⟨v,by rw [getElem?_set_self at3],hb⟩,fun x hx=>?_⟩
  ·rw [getElem?_set_ne (by omega)]; exact apre j hj
  ·rcases List.mem_or_eq_of_mem_set hx with y | rfl
   ·exact (awd x y).1
   ·exact hb.w
 have kq:=k2 c at_ kc _ hkc S;refine cT (fun δ=>δ = [some (.own ((w0 :: args1.set at_ v).map .str)),some (.dat (.int n)),some (.dat (.str (dP w0))),some (.dat (.int (at_:Int))),some (.dat (.int (la:Int))),some (.dat (.str v)),none]) ?_ ?_
 ·walk_at "d";exact ⟨at_ + 1,Dw (by omega) (by omega),by rw [yC]⟩
 rintro δ rfl;walk_at "s";refine cT (fun δ=>δ = [some (.own ((w0 :: args1.set at_ v).map .str)),some (.dat (.int n)),some (.dat (.str (dP w0))),some (.dat (.int (at_:Int))),some (.dat (.int (la:Int))),some (.dat (.str v)),some (.dat (.str (if kc = 110\/kc = 111 then Str.ofString "NoName" else Str.ofString "NoText")))]) ?_ ?_
 ·walk_at "d";refine ⟨by omega,kc,akc,?_⟩;walk_at "d";refine ⟨_,Pl,⟨⟨#[kc]⟩,Wt hKC⟩,noL,rfl,rfl,fun b hb=>?_⟩;have hm:(⟨⟨#[kc]⟩,Wt hKC⟩:{ x:Str // PyData.strOk x = true })∈noL ↔ kc = 110\/kc = 111:=by
   simp only [noL,mem_cons,not_mem_nil,or_false,Subtype.mk.injEq];rw [vP aMo,vP aMf]
  rw [hm] at hb;cases b with
  | true =>
   walk_at "d";rw [if_pos (hb.mp rfl)]
  | false =>
   walk_at "d";rw [if_neg (fun z=>absurd (hb.mpr z) (by decide))]
 rintro δ rfl;unfold Vd at kq;walk_at "s";refine ⟨by omega,kc,akc,?_⟩;walk_at "d";refine bS (fun c3=>?_) (fun c3=>?_)
 ·have e:=(vP aIo).mp c3;rw [if_neg (by omega),if_pos e] at kq;exact kq
 ·have e:kc ≠ 109:=fun z=>c3 ((vP aIo).mpr z);rw [if_neg e] at kq;exact kq
theorem xH {ws:List Str} (hne:ws ≠ []) (h:∀ w∈ws,32 ∉ w.cps.toList):Txt.split (Txt.join (Str.ofString " ") ws) (Str.ofString " ") = ws:=Ac Jt (by rw [gJ]; decide) hne h
abbrev jn (ws:List Str):Str:=Txt.join (Str.ofString " ") ws
theorem yH {A:Adr} {kv:dU} {ws:List Str} {j:Nat} (hne:ws ≠ []) (hw:∀ w∈ws,Wd w) (hl:ws.length<=80) (h:∀ (C:Addr) (R:RG) (ex:DX),(qO A)[j]? = some C->ex C->Zz A kv ws R ex):Rf A kv (.str (jn ws)) j:=fun C R ex hC hx=>by
 refine .inr ⟨_,ws,rfl,?_,xH hne fun w hw2=>(hw w hw2).n,h C R ex hC hx⟩;have:=oJ (Str.ofString " ") (ws:=ws) (n:=100) fun w hw2=>(hw w hw2).l;rw [dR] at this;have h2:ws.length * (100 + 1)<=80 * (100 + 1):=mul_le_mul_right _ hl;show (Txt.join (Str.ofString " ") ws).length<=90000;omega
theorem jN {A:Adr} {kv:dU} {ws:List Str} (hne:ws ≠ []) (hw:∀ w∈ws,Wd w) (hl:ws.length<=80) (h:¬ iM ws):Rf A kv (.str (jn ws)) 0 :=
 yH hne hw hl fun C R ex hC hx=>.inl ⟨h,by cases hC; exact hx⟩
theorem rW {w0:Str} {r:List Str} (h:∀ lo hi,cntL.lookup w0 = some (lo,hi)->¬ (lo<=((w0 :: r).length:Int)/\((w0 :: r).length:Int)<=hi)):¬ iM (w0 :: r):=fun ⟨w1,r1,lo,hi,e,h1,h2,h3⟩=>by
 injection e with e1 e2
 subst e1;exact h lo hi h1 ⟨h2,h3⟩
structure Kv (p r:Nat) (kv:dU):Prop where
 a:∃ ms:List Mk,kv.lookup (cJ p r 97) = some (.list (ms.map eF))
 b:∃ ms:List Mk,kv.lookup (cJ p r 98) = some (.list (ms.map eF))
 c:∃ ms:List Mk,kv.lookup (cJ p r 99) = some (.list (ms.map eF))/\ms.length = 2
 la:∃ ms:List Mk,kv.lookup (cJ p r 97) = some (.list (ms.map eF))/\ms.length = 3
 nn:∀ w,nnB w = true->kv.lookup w = none
 len:kv.length<=10
section
variable {A:Adr} {kv:dU}
theorem sL {nm:Str} {rest:List Str} (h1:1<=rest.length) (h2:rest.length<=60):iM (Str.ofString "marks" :: nm :: rest):=⟨_,_,3,62,rfl,by decide +kernel,by simp; omega,by simp; omega⟩
theorem rfm {nm:Str} {rest:List Str} {j:Nat} (h1:1<=rest.length) (h2:rest.length<=60) (hw:∀ w∈Str.ofString "marks" :: nm :: rest,Wd w) (h:∀ (C:Addr) (R:RG) (ex:DX),(qO A)[j]? = some C->ex C->aDf A kv [.str nm,.list (rest.map .str)] R ex):Rf A kv (.str (jn (Str.ofString "marks" :: nm :: rest))) j :=
 yH (by simp) hw (by simp; omega) fun C R ex hC hx=>.inr ⟨sL h1 h2,.inl ⟨nm,rest,rfl,h C R ex hC hx⟩⟩
theorem Me {nm:Str} {rest:List Str} (h1:1<=rest.length) (h2:rest.length<=60) (hw:∀ w∈Str.ofString "marks" :: nm :: rest,Wd w) (h:fA nm = false):Rf A kv (.str (jn (Str.ofString "marks" :: nm :: rest))) 1 :=
 rfm h1 h2 hw fun C R ex hC hx=>⟨nm,rest,rfl,by have:=(hw nm (by simp)).l; omega,h2,fun w hw2=>by have:=(hw w (by simp [hw2])).l; omega,.inl ⟨h,by cases hC; exact hx⟩⟩
theorem rN {nm:Str} {rest:List Str} (h1:1<=rest.length) (h2:rest.length<=60) (hw:∀ w∈Str.ofString "marks" :: nm :: rest,Wd w) (hn:fA nm = true) (h:∃ w∈rest,hU w = none):Rf A kv (.str (jn (Str.ofString "marks" :: nm :: rest))) 2 :=
 rfm h1 h2 hw fun C R ex hC hx=>⟨nm,rest,rfl,by have:=(hw nm (by simp)).l; omega,h2,fun w hw2=>by have:=(hw w (by simp [hw2])).l; omega,.inr (.inl ⟨hn,h,by cases hC; exact hx⟩)⟩
def W4 (w0:Str):Prop:=w0 = Str.ofString "bend"\/w0 = Str.ofString "rise"\/w0 = Str.ofString "steps"\/w0 = Str.ofString "judge"
theorem nP {w0 nm kd:Str} {rest:List Str} (h0:W4 w0) (hg:iM (w0 :: nm :: kd :: rest)) (hl:rest.length<=60) (hw:∀ w∈w0 :: nm :: kd :: rest,Wd w) (h:kv.lookup nm = none):Rf A kv (.str (jn (w0 :: nm :: kd :: rest))) 1 :=
 yH (by simp) hw (by simp; omega) fun C R ex hC hx=>.inr ⟨hg,.inr (.inr (.inr (.inr ⟨w0,nm,kd,rest,rfl,h0,(hw kd (by simp)).o,fun _=>by cases hC; exact hx,fun d hd=>by rw [h] at hd; cases hd⟩)))⟩
theorem rfa {w0 nm kd:Str} {rest:List Str} {ms:List Mk} {j:Nat} (h0:W4 w0) (hg:iM (w0 :: nm :: kd :: rest)) (hl:rest.length<=60) (hw:∀ w∈w0 :: nm :: kd :: rest,Wd w) (hm:kv.lookup nm = some (.list (ms.map eF))) (h:∀ (C:Addr) (Q:PyData->Prop) (ex:DX),(qO A)[j]? = some C->ex C->Ra A w0 kd rest ms Q ex):Rf A kv (.str (jn (w0 :: nm :: kd :: rest))) j :=
 yH (by simp) hw (by simp; omega) fun C R ex hC hx=>.inr ⟨hg,.inr (.inr (.inr (.inr ⟨w0,nm,kd,rest,rfl,h0,(hw kd (by simp)).o,(fun z=>by rw [hm] at z; cases z),fun d hd=>by rw [hm] at hd; cases hd; exact ⟨ms,rfl,h C _ ex hC hx⟩⟩)))⟩
theorem nQ {w0 nm kd:Str} {rest:List Str} {ms:List Mk} (h0:W4 w0) (hg:iM (w0 :: nm :: kd :: rest)) (hl:rest.length<=60) (hw:∀ w∈w0 :: nm :: kd :: rest,Wd w) (hm:kv.lookup nm = some (.list (ms.map eF))) (h:kd ∉ dZ):Rf A kv (.str (jn (w0 :: nm :: kd :: rest))) 5 :=
 rfa h0 hg hl hw hm fun C Q ex hC hx=>.inl ⟨h,by cases hC; exact hx⟩
theorem Mi {w0 nm:Str} (h0:w0 = Str.ofString "drop"\/w0 = Str.ofString "show") (hw:∀ w∈[w0,nm],Wd w) (h:kv.lookup nm = none):Rf A kv (.str (jn [w0,nm])) 1:=by
 refine yH (by simp) hw (by simp) fun C R ex hC hx=>?_;rcases h0 with rfl | rfl
 ·exact .inr ⟨⟨_,_,2,2,rfl,by decide +kernel,by simp,by simp⟩,.inr (.inr (.inl ⟨nm,rfl,fun _=>by cases hC; exact hx,fun z=>by rw [h] at z; cases z⟩))⟩
 ·exact .inr ⟨⟨_,_,2,2,rfl,by decide +kernel,by simp,by simp⟩,.inr (.inr (.inr (.inl ⟨nm,rfl,fun _=>by cases hC; exact hx,fun d hd=>by rw [h] at hd; cases hd⟩)))⟩
end
theorem fI {w:Str} (h:(decide (w.length<=60) && !decide (32∈w.cps.toList) && PyData.strOk w) = true):Wd w/\w.length<=60:=by
 simp only [and_eq_true,decide_eq_true_eq,not_eq_true',decide_eq_false_iff_not] at h;exact ⟨⟨by omega,h.1.2,h.2⟩,h.1.1⟩
theorem jR {p r c:Nat} (h:p + r<=6) (h1:97<=c) (h2:c<=122):Wd (cJ p r c)/\(cJ p r c).length<=60:=by
 have l:=lM p r c;refine ⟨⟨by omega,fun z=>?_,?_⟩,by omega⟩
 ·rcases wD z with e | e <;> omega
 ·unfold PyData.strOk;rw [<- all_toList,all_eq_true];intro z hz;refine decide_eq_true ?_;rcases wD hz with rfl | rfl <;> omega
def jK (c:Nat):Nat:=if c = 110\/c = 111 then 1 else if c = 109 then 5 else 2
theorem aEe (c:Nat):oW[jK c]? = some (Vd c):=by
 unfold jK Vd;split
 ·rfl
 ·split <;> rfl
def aNe (n:Str):Prop:=fA n = true/\Wd n/\n.length<=60
structure Env (p r:Nat) (kv:dU) (n:Str):Prop where
 pr:p + r<=6
 kv:Kv p r kv
 n:aNe n
section
variable {A:Adr} {p r:Nat} {kv:dU} {n:Str}
theorem Ea (E:Env p r kv n) {w0:Str} {args:List Str} (h:w0 :: args∈forms (cJ p r 97) (cJ p r 98) (cJ p r 99) n):Fm w0 args:=by
 have wa:=jR (p:=p) (r:=r) (c:=97) E.pr (by decide) (by decide);have wb:=jR (p:=p) (r:=r) (c:=98) E.pr (by decide) (by decide);have wc:=jR (p:=p) (r:=r) (c:=99) E.pr (by decide) (by decide);have wn:=E.n.2;have lit:∀ {w:Str},(decide (w.length<=60) && !decide (32∈w.cps.toList) && PyData.strOk w) = true->Wd w/\w.length<=60:=fI;simp only [forms,mem_cons,List.cons.injEq,not_mem_nil,or_false] at h;have k3:∀ {w:Str} {l:List Nat},oG w = l->(∀ c∈l,KC c)->∀ c∈oG w,KC c:=fun e h=>by rw [e]; exact h
 rcases h with ⟨rfl,rfl⟩ | ⟨rfl,rfl⟩ | ⟨rfl,rfl⟩ | ⟨rfl,rfl⟩ | ⟨rfl,rfl⟩ | ⟨rfl,rfl⟩ | ⟨rfl,rfl⟩ | ⟨rfl,rfl⟩
 ·exact ⟨(show (oG (Str.ofString "marks")).length = 3 by decide +kernel),k3 (l:=[110,114,114]) (by decide +kernel) (by simp [KC]),fun x hx=>by
   simp only [mem_cons,not_mem_nil,or_false] at hx
   rcases hx with rfl | rfl | rfl
   ·exact wn
   ·exact lit (by decide +kernel)
   ·exact lit (by decide +kernel),by simp⟩
 ·exact ⟨(show (oG (Str.ofString "bend")).length = 3 by decide +kernel),k3 (l:=[111,109,107]) (by decide +kernel) (by simp [KC]),fun x hx=>by
   simp only [mem_cons,not_mem_nil,or_false] at hx
   rcases hx with rfl | rfl | rfl
   ·exact wa
   ·exact lit (by decide +kernel)
   ·exact lit (by decide +kernel),by simp⟩
 ·exact ⟨(show (oG (Str.ofString "rise")).length = 2 by decide +kernel),k3 (l:=[111,109]) (by decide +kernel) (by simp [KC]),fun x hx=>by
   simp only [mem_cons,not_mem_nil,or_false] at hx
   rcases hx with rfl | rfl
   ·exact wb
   ·exact lit (by decide +kernel),by simp⟩
 ·exact ⟨(show (oG (Str.ofString "steps")).length = 3 by decide +kernel),k3 (l:=[111,109,107]) (by decide +kernel) (by simp [KC]),fun x hx=>by
   simp only [mem_cons,not_mem_nil,or_false] at hx
   rcases hx with rfl | rfl | rfl
   ·exact wa
   ·exact lit (by decide +kernel)
   ·exact lit (by decide +kernel),by simp⟩
 ·exact ⟨(show (oG (Str.ofString "judge")).length = 4 by decide +kernel),k3 (l:=[111,109,102,102]) (by decide +kernel) (by simp [KC]),fun x hx=>by
   simp only [mem_cons,not_mem_nil,or_false] at hx
   rcases hx with rfl | rfl | rfl | rfl
   ·exact wc
   ·exact lit (by decide +kernel)
   ·exact lit (by decide +kernel)
   ·exact lit (by decide +kernel),by simp⟩
 ·exact ⟨(show (oG (Str.ofString "drop")).length = 1 by decide +kernel),k3 (l:=[111]) (by decide +kernel) (by simp [KC]),fun x hx=>by
   rw [mem_singleton.mp hx]; exact wa,by simp⟩
 ·exact ⟨(show (oG (Str.ofString "show")).length = 1 by decide +kernel),k3 (l:=[111]) (by decide +kernel) (by simp [KC]),fun x hx=>by
   rw [mem_singleton.mp hx]; exact wb,by simp⟩
 ·exact ⟨(show (oG (Str.ofString "names")).length = 0 by decide +kernel),k3 (l:=[]) (by decide +kernel) (by simp),(fun x hx=>nomatch hx),by simp⟩
theorem eE {P:Str->Prop} {w0:Str} {args:List Str} (h0:P w0) (h:∀ x∈args,P x):∀ w∈w0 :: args,P w:=fun w hw=>by
 rcases mem_cons.mp hw with rfl | hw
 ·exact h0
 ·exact h w hw
theorem Mh (E:Env p r kv n) {w0 nm kd w3:Str} {ms:List Mk} {at_ c:Nat} {args':List Str} (h0:w0 = Str.ofString "bend"\/w0 = Str.ofString "steps") (hm:kv.lookup nm = some (.list (ms.map eF))) (hk:kd∈dZ) (hc:[111,109,107][at_]? = some c) (S:Sp c at_ [nm,kd,w3] args'):Rf A kv (.str (jn (w0 :: args'))) (jK c):=by
 have lit:∀ {w:Str},(decide (w.length<=60) && !decide (32∈w.cps.toList) && PyData.strOk w) = true->Wd w:=fun h=>(fI h).1;obtain ⟨v,hv,B⟩:=S.bad;have hb:=B.b;have hl:=S.len;have wd:=S.wd;obtain ⟨x1,x2,x3,rfl⟩:∃ x1 x2 x3,args' = [x1,x2,x3]:=by
  match args',hl with
  | [a,b,c],_=>exact ⟨a,b,c,rfl⟩
 have hw:=eE (P:=Wd) (w0:=w0) (by rcases h0 with rfl | rfl <;> exact lit (by decide +kernel)) wd;have h4:W4 w0:=by
  rcases h0 with rfl | rfl
  ·exact .inl rfl
  ·exact .inr (.inr (.inl rfl))
 have hg:iM [w0,x1,x2,x3]:=by
  rcases h0 with rfl | rfl
  ·exact ⟨_,_,4,4,rfl,by decide +kernel,by simp,by simp⟩
  ·exact ⟨_,_,4,4,rfl,by decide +kernel,by simp,by simp⟩
 match at_,hc with
 | 0,hc =>
  cases hc;cases hv;exact nP h4 hg (by simp) hw (E.kv.nn v (by simpa [kU] using hb))
 | 1,hc =>
  cases hc;cases hv;have e1:x1 = nm:=by have:=S.pre 0 (by decide); simpa using this
  subst e1;exact nQ h4 hg (by simp) hw hm (by simpa [kU] using hb)
 | 2,hc =>
  cases hc;cases hv;have e1:x1 = nm:=by have:=S.pre 0 (by decide); simpa using this
  have e2:x2 = kd:=by have:=S.pre 1 (by decide); simpa using this
  subst e1 e2;have hn:eN v.cps.toList = none:=by simpa [kU] using hb
  have vl:=B.w.l;refine rfa h4 hg (by simp) hw hm fun C Q ex hC hx=>.inr ⟨hk,?_⟩;rcases h0 with rfl | rfl
  ·exact .inl ⟨v,rfl,rfl,by omega,.inl ⟨hn,by cases hC; exact hx⟩⟩
  ·exact .inr (.inl ⟨v,rfl,rfl,by omega,.inl ⟨hn,by cases hC; exact hx⟩⟩)
theorem Fv (E:Env p r kv n) {w0:Str} {args:List Str} (h:w0 :: args∈forms (cJ p r 97) (cJ p r 98) (cJ p r 99) n) {at_ c:Nat} {args':List Str} (hc:(oG w0)[at_]? = some c) (S:Sp c at_ args args'):Rf A kv (.str (jn (w0 :: args'))) (jK c):=by
 have lit:∀ {w:Str},(decide (w.length<=60) && !decide (32∈w.cps.toList) && PyData.strOk w) = true->Wd w:=fun h=>(fI h).1;obtain ⟨v,hv,B⟩:=S.bad;have hb:=B.b;have hl:=S.len;have wd:=S.wd;obtain ⟨ma,hma⟩:=E.kv.a;obtain ⟨mb,hmb⟩:=E.kv.b;obtain ⟨mc,hmc,mc2⟩:=E.kv.c;simp only [forms,mem_cons,List.cons.injEq,not_mem_nil,or_false] at h;rcases h with ⟨rfl,rfl⟩ | ⟨rfl,rfl⟩ | ⟨rfl,rfl⟩ | ⟨rfl,rfl⟩ | ⟨rfl,rfl⟩ | ⟨rfl,rfl⟩ | ⟨rfl,rfl⟩ | ⟨rfl,rfl⟩
 ·obtain ⟨x1,x2,x3,rfl⟩:∃ x1 x2 x3,args' = [x1,x2,x3]:=by
   match args',hl with
   | [a,b,c],_=>exact ⟨a,b,c,rfl⟩
  have hw:=eE (P:=Wd) (w0:=Str.ofString "marks") (lit (by decide +kernel)) wd;have ek:oG (Str.ofString "marks") = [110,114,114]:=by decide +kernel
  rw [ek] at hc
  match at_,hc with
  | 0,hc =>
   cases hc;cases hv;exact Me (by simp) (by simp) hw (by simpa [kU] using hb)
  | 1,hc =>
   cases hc;cases hv;have e1:x1 = n:=by have:=S.pre 0 (by decide); simpa using this
   subst e1;exact rN (by simp) (by simp) hw E.n.1 ⟨v,by simp,by simpa [kU] using hb⟩
  | 2,hc =>
   cases hc;cases hv;have e1:x1 = n:=by have:=S.pre 0 (by decide); simpa using this
   subst e1;exact rN (by simp) (by simp) hw E.n.1 ⟨v,by simp,by simpa [kU] using hb⟩
 ·exact Mh E (.inl rfl) hma (by simp [dZ]) (by rw [show oG (Str.ofString "bend") = [111,109,107] by decide +kernel] at hc; exact hc) S
 ·obtain ⟨x1,x2,rfl⟩:∃ x1 x2,args' = [x1,x2]:=by
   match args',hl with
   | [a,b],_=>exact ⟨a,b,rfl⟩
  have hw:=eE (P:=Wd) (w0:=Str.ofString "rise") (lit (by decide +kernel)) wd;have hg:iM [Str.ofString "rise",x1,x2]:=⟨_,_,3,3,rfl,by decide +kernel,by simp,by simp⟩;rw [show oG (Str.ofString "rise") = [111,109] by decide +kernel] at hc
  match at_,hc with
  | 0,hc =>
   cases hc;cases hv;exact nP (.inr (.inl rfl)) hg (by simp) hw (E.kv.nn v (by simpa [kU] using hb))
  | 1,hc =>
   cases hc;cases hv;have e1:x1 = cJ p r 98:=by have:=S.pre 0 (by decide); simpa using this
   subst e1;exact nQ (.inr (.inl rfl)) hg (by simp) hw hmb (by simpa [kU] using hb)
 ·exact Mh E (.inr rfl) hma (by simp [dZ]) (by rw [show oG (Str.ofString "steps") = [111,109,107] by decide +kernel] at hc; exact hc) S
 ·obtain ⟨x1,x2,x3,x4,rfl⟩:∃ x1 x2 x3 x4,args' = [x1,x2,x3,x4]:=by
   match args',hl with
   | [a,b,c,d],_=>exact ⟨a,b,c,d,rfl⟩
  have hw:=eE (P:=Wd) (w0:=Str.ofString "judge") (lit (by decide +kernel)) wd;have hg:iM [Str.ofString "judge",x1,x2,x3,x4]:=⟨_,_,4,63,rfl,by decide +kernel,by simp,by simp⟩;have h4:W4 (Str.ofString "judge"):=.inr (.inr (.inr rfl));rw [show oG (Str.ofString "judge") = [111,109,102,102] by decide +kernel] at hc;have tx:x1 = cJ p r 99->x2 = Str.ofString "sum"->(gO x3 = none\/gO x4 = none)->Rf A kv (.str (jn [Str.ofString "judge",x1,x2,x3,x4])) 2:=fun e1 e2 hn=>by
   subst e1 e2;refine rfa h4 hg (by simp) hw hmc fun C Q ex hC hx=>.inr ⟨by simp [dZ],.inr (.inr ⟨rfl,_,mc,[x3,x4],rfl,by simp [dZ],by simp,by omega,fun w hw2=>?_,.inr (.inl ⟨by rw [mc2]; rfl,?_,by cases hC; exact hx⟩)⟩)⟩
   ·have:=(wd w (by simp at hw2 ⊢; rcases hw2 with h | h <;> simp [h])).l;omega
   ·rcases hn with h | h
    ·exact ⟨x3,by simp,h⟩
    ·exact ⟨x4,by simp,h⟩
  match at_,hc with
  | 0,hc =>
   cases hc;cases hv;exact nP h4 hg (by simp) hw (E.kv.nn v (by simpa [kU] using hb))
  | 1,hc =>
   cases hc;cases hv;have e1:x1 = cJ p r 99:=by have:=S.pre 0 (by decide); simpa using this
   subst e1;exact nQ h4 hg (by simp) hw hmc (by simpa [kU] using hb)
  | 2,hc =>
   cases hc;cases hv;exact tx (by have:=S.pre 0 (by decide); simpa using this) (by have:=S.pre 1 (by decide); simpa using this) (.inl (by simpa [kU] using hb))
  | 3,hc =>
   cases hc;cases hv;exact tx (by have:=S.pre 0 (by decide); simpa using this) (by have:=S.pre 1 (by decide); simpa using this) (.inr (by simpa [kU] using hb))
 ·obtain ⟨x1,rfl⟩:∃ x1,args' = [x1]:=by
   match args',hl with
   | [a],_=>exact ⟨a,rfl⟩
  have hw:=eE (P:=Wd) (w0:=Str.ofString "drop") (lit (by decide +kernel)) wd;rw [show oG (Str.ofString "drop") = [111] by decide +kernel] at hc
  match at_,hc with
  | 0,hc =>
   cases hc;cases hv;exact Mi (.inl rfl) hw (E.kv.nn v (by simpa [kU] using hb))
 ·obtain ⟨x1,rfl⟩:∃ x1,args' = [x1]:=by
   match args',hl with
   | [a],_=>exact ⟨a,rfl⟩
  have hw:=eE (P:=Wd) (w0:=Str.ofString "show") (lit (by decide +kernel)) wd;rw [show oG (Str.ofString "show") = [111] by decide +kernel] at hc
  match at_,hc with
  | 0,hc =>
   cases hc;cases hv;exact Mi (.inr rfl) hw (E.kv.nn v (by simpa [kU] using hb))
 ·rw [show oG (Str.ofString "names") = [] by decide +kernel] at hc;simp at hc
end
theorem ks_ok2:PyData.strOk "marks" = true/\PyData.strOk "judge" = true:=by decide +kernel
def mjL:List { x:Str // PyData.strOk x = true }:=[⟨"marks",ks_ok2.1⟩,⟨"judge",ks_ok2.2⟩]
def Dn:List Str:=["","a","0","far"]
def Cnt (w0:Str) (args ws':List Str) (y:Str):Prop :=
 (y = "NoRow"/\w0 = "marks"/\ws' = (w0 :: args).take 2)\/(y = "NoRow"/\w0 = "judge"/\ws' = (w0 :: args).take 3)\/(y = "NoRow"/\w0 ≠ "marks"/\w0 ≠ "judge"/\ws' = (w0 :: args).dropLast) \/
 (y = "NoText"/\w0 = "marks"/\ws' = w0 :: args ++ ([Str.ofString "a"]:List Str))\/(y = "NoRow"/\w0 ≠ "marks"/\∃ x∈Dn,ws' = w0 :: args ++ ([x]:List Str))
theorem Vk {α β:Type} (f:α->β) {xs:List α} (h:0 < xs.length):lU (xs.map f) none (some (-1)) = xs.dropLast.map f:=by
 unfold lU;rw [HT.sIx_none,drop_zero,sub_zero,length_map];have e:HT.sIx xs.length xs.length (some (-1)) = xs.length - 1:=by
  unfold HT.sIx;simp;omega
 rw [e,<- map_take,List.dropLast_eq_take]
def Ii:DW:=fun ds Q _=>∃ (w0:Str) (args:List Str) (n:Int),ds = [.list ((w0 :: args).map .str),.int n]/\args.length<=5/\PyData.strOk w0 = true/\∀ ws' y,Cnt w0 args ws' y->Q (.dat (.list [iP ws',.str y]))
theorem aBu (T:Txt K mg A):FnOk P w K mg base (eA P w) 1 A.a_qx1 A.d_qx1 ["words","number"] (fO K Ii):=by
 refine gM T.F_qx1.F Zl (by walk_at "l") fun cdv Ar outer s H E hr=>?_
 refine ⟨_,(@aJ _ _ _ _ _ (@bV _ _ _ _ _ _ _ _ (@PW.pt _ _ _ (@Ak _ _ _ _ _ _ _ (@aX _ _ _ _ _ _ _ _ cZ (@aU _ _ _ _ _ _ _ _ cQ (pv 1) aS) aS (bK _)) (@vT _ _ _ _ (@aX _ _ _ _ _ _ _ _ (inK (K:=K) rfl hr.units) (@dH _ _ _ _ _ _ _ (gH (K:=K) rfl) (pv 0) aS (fun _ _=>rfl)) (@aZ _ _ _ _ (@aA _ _ _ _ _ aF (@aA _ _ _ _ _ aF (@aE _) aL) aL)) rfl)))) (@aM _ _ _ (@aY _ _ _ _ (@aZ _ _ _ _ (@aA _ _ _ _ _ (@eM _ _ _ _ _ _ _ _ _ _ (tH (K:=K) rfl) (pv 0) gL (@eQ _ _ _ (@dH _ _ _ _ _ _ _ (gH (K:=K) rfl) (@aZ _ _ _ _ (@aA _ _ _ _ _ aS (@aA _ _ _ _ _ aS (@aE _) aL) aL)) (cM Hm rfl T.n_int Bo (@aA _ _ _ _ _ (@nV _ _ _ _ _ _ _ _ cZ (@dH _ _ _ _ _ _ _ (gH (K:=K) rfl) (pv 0) aS (fun _ _=>rfl)) aF (bK _)) (@aE _) rfl)) (fun _ _=>rfl)))) (@aA _ _ _ _ _ aF (@aE _) aL) lH)))) bA)
   (@aJ _ _ _ _ _ (@bV _ _ _ _ _ _ _ _ (@aX _ _ _ _ _ _ _ _ cZ (@aU _ _ _ _ _ _ _ _ cQ (pv 1) aS) aS (bK _)) (@aM _ _ _ (@aY _ _ _ _ (@aZ _ _ _ _ (@aA _ _ _ _ _ (@eM _ _ _ _ _ _ _ _ _ _ (tH (K:=K) rfl) (pv 0) gL (@eQ _ _ _ (Cy vE aS))) (@aA _ _ _ _ _ aF (@aE _) aL) lH)))) bA)
   (@aJ _ _ _ _ _ (@bV _ _ _ _ _ _ _ _ (@aX _ _ _ _ _ _ _ _ cZ (@dH _ _ _ _ _ _ _ (gH (K:=K) rfl) (pv 0) aS (fun _ _=>rfl)) aF (bK _)) (@aM _ _ _ (@aY _ _ _ _ (@aZ _ _ _ _ (@aA _ _ _ _ _ (@aU _ _ _ _ _ _ _ _ (Qu (K:=K) rfl) (pv 0) (@aZ _ _ _ _ (@aA _ _ _ _ _ aF (@aE _) aL))) (@aA _ _ _ _ _ aF (@aE _) aL) gF)))) bA)
   (@aM _ _ _ (@aY _ _ _ _ (@aZ _ _ _ _ (@aA _ _ _ _ _ (@aU _ _ _ _ _ _ _ _ (Qu (K:=K) rfl) (pv 0) (@aZ _ _ _ _ (@aA _ _ _ _ _ (@dH _ _ _ _ _ _ _ (gH (K:=K) rfl) (@aZ _ _ _ _ (@aA _ _ _ _ _ aF (@aA _ _ _ _ _ aF (@aA _ _ _ _ _ aF (@aA _ _ _ _ _ aF (@aE _) aL) aL) aL) aL)) (@aU _ _ _ _ _ _ _ _ cQ (@aU _ _ _ _ _ _ _ _ dN (pv 1) aS) aS) (fun _ _=>rfl)) (@aE _) lH))) (@aA _ _ _ _ _ aF (@aE _) aL) gF))))))),_,(aR (cD (zX (bB (aB (aQ cY (aB (cV (k:=2) (by decide) (aG 1) aP)) (aB aP)))) (bB (aB (aQ Ma (aB (cB (bN 0) (aB aP))) (aB (bY (bH (aC aI (aC aI aW)) (by decide)))))))) (bG (gZ (cU (aB (bY (mE (bN 0) mF (eR (aB (cB (gA (bH (aC aP (aC aP aW)) (by decide))) (aB (cI aBe (aH (aB (aQ cY (aB (cB (bN 0) (aB aP))) (aB aI))) aN))))))))) (cU (aB aI) hG)) (by decide))) bL)
   (aR (cD (bB (aB (aQ cY (aB (cV (k:=2) (by decide) (aG 1) aP)) (aB aP)))) (bG (gZ (cU (aB (bY (mE (bN 0) mF (eR (aB (Uz (v:=(-1)) (wN (aB aP)) (fun ex δ Q h=>Eq.mpr (congrArg (fun z=>Q (.int z)) (by decide +kernel:((-1):Int) = -1)) h))))))) (cU (aB aI) hG)) (by decide))) bL)
   (aR (cD (bB (aB (aQ cY (aB (cB (bN 0) (aB aP))) (aB aI)))) (bG (gZ (cU (aB (bY (vY (aV 0) (bY (bH (aC aI aW) (by decide)))))) (cU (aB aI) hG)) (by decide))) bL)
   (bG (gZ (cU (aB (bY (vY (aV 0) (bY (bH (aC (cB (gA (bH (aC aI (aC aI (aC aI (aC aI aW)))) (by decide))) (aB (cV (k:=4) (by decide) (aB (iN (k:=2) (sU (by decide +kernel)) (aG 1) aP)) aP))) aW) (by decide)))))) (cU (aB aI) hG)) (by decide)))))),?_⟩
 rintro ds Q X ⟨w0,args,n,rfl,l5,hok,kq⟩;have a0:lA ((w0 :: args).map PyData.str) 0 = some (.str w0):=cW (j:=0) rfl;have len1:((w0 :: args).map PyData.str).length + 1<=1000:=by simp; omega
 walk_at "s";refine bS (fun c=>?_) (fun c=>?_)
 ·refine ⟨_,a0,?_⟩;refine ⟨_,Pl,⟨w0,hok⟩,mjL,rfl,rfl,fun b hb=>?_⟩;have hm:(⟨w0,hok⟩:{ x:Str // PyData.strOk x = true })∈mjL ↔ w0 = "marks"\/w0 = "judge":=by
   simp only [mjL,mem_cons,not_mem_nil,or_false,Subtype.mk.injEq]
  rw [hm] at hb;cases b with
  | true =>
   walk_at "d";refine ⟨_,a0,?_⟩;walk_at "d";rcases hb.mp rfl with rfl | rfl
   ·refine ⟨.int 2,by rw [if_neg (by decide +kernel)]; exact cW (j:=0) rfl,?_⟩;dsimp only;rw [show (2:Int) = ((2:Nat):Int) from rfl,rA,<- map_take];exact kq _ _ (.inl ⟨rfl,rfl,rfl⟩)
   ·refine ⟨.int 3,by rw [if_pos rfl]; exact cW (j:=1) rfl,?_⟩;dsimp only;rw [show (3:Int) = ((3:Nat):Int) from rfl,rA,<- map_take];exact kq _ _ (.inr (.inl ⟨rfl,rfl,rfl⟩))
  | false =>
   have hn:¬ (w0 = "marks"\/w0 = "judge"):=fun z=>absurd (hb.mpr z) (by decide);walk_at "s";refine bS (fun _=>?_) (fun z=>absurd c z);rw [Vk PyData.str (by simp)];exact kq _ _ (.inr (.inr (.inl ⟨rfl,fun z=>hn (.inl z),fun z=>hn (.inr z),rfl⟩)))
 ·walk_at "s";refine bS (fun z=>absurd z c) (fun _=>?_);walk_at "s";refine ⟨_,a0,?_⟩;walk_at "d";refine bS (fun e=>?_) (fun e=>?_)
  ·refine ⟨_,_,rfl,rfl,by simpa using len1,?_⟩;have:=kq _ _ (.inr (.inr (.inr (.inl ⟨rfl,e,rfl⟩))));simpa [iP] using this
  ·obtain ⟨x,hx,ax⟩:=rB (ws:=Dn) (i:=n / 2 % 4) (by omega) (show n / 2 % 4 < 4 by omega);refine ⟨_,ax,?_⟩;walk_at "d";refine ⟨_,_,rfl,rfl,by simpa using len1,?_⟩;have:=kq _ _ (.inr (.inr (.inr (.inr ⟨rfl,e,x,hx,rfl⟩))));simpa [iP] using this
section
variable {A:Adr} {p r:Nat} {kv:dU} {n:Str}
theorem Oj {x:Str} (h:x∈Dn):Wd x:=by
 have h2:x = Str.ofString ""\/x = Str.ofString "a"\/x = Str.ofString "0"\/x = Str.ofString "far":=by simpa [Dn] using h
 rcases h2 with rfl | rfl | rfl | rfl <;> exact (fI (by decide +kernel)).1
theorem aDn:jn [] = jn [Str.ofString ""]:=by decide +kernel
theorem eB {w0:Str} {r:List Str} {lo hi:Int} (e:cntL.lookup w0 = some (lo,hi)) (h:¬ (lo<=((w0 :: r).length:Int)/\((w0 :: r).length:Int)<=hi)):¬ iM (w0 :: r):=rW fun l2 h2 e2=>by
 rw [e] at e2;cases e2;exact h
theorem Aj (E:Env p r kv n) {w0:Str} {args ws':List Str} {y:Str} (h:w0 :: args∈forms (cJ p r 97) (cJ p r 98) (cJ p r 99) n) (hc:Cnt w0 args ws' y):∃ j,oW[j]? = some y/\Rf A kv (.str (jn ws')) j:=by
 have F:=Ea E h;have wds:∀ x∈args,Wd x:=fun x hx=>(F.wd x hx).1;obtain ⟨mc,hmc,mc2⟩:=E.kv.c;have w0d:Wd w0:=by
  simp only [forms,mem_cons,List.cons.injEq,not_mem_nil,or_false] at h;rcases h with ⟨rfl,rfl⟩ | ⟨rfl,rfl⟩ | ⟨rfl,rfl⟩ | ⟨rfl,rfl⟩ | ⟨rfl,rfl⟩ | ⟨rfl,rfl⟩ | ⟨rfl,rfl⟩ | ⟨rfl,rfl⟩ <;> exact (fI (by decide +kernel)).1
 have all:=eE (P:=Wd) w0d wds;have app:∀ {x:Str},Wd x->∀ w∈w0 :: args ++ ([x]:List Str),Wd w:=fun {x} hx w hw=>by
  rcases mem_append.mp hw with z | z
  ·exact all w z
  ·rw [mem_singleton.mp z]; exact hx
 have l5:=F.l5;have sub:∀ {l:List Str},(∀ x∈l,x∈w0 :: args)->∀ w∈l,Wd w:=fun h w hw=>all w (h w hw);have key:∀ {l:List Str},l ≠ []->(∀ w∈l,Wd w)->l.length<=80->¬ iM l->∃ j,oW[j]? = some (Str.ofString "NoRow")/\Rf A kv (.str (jn l)) j:=fun a b c d=>⟨0,rfl,jN a b c d⟩;have lk:cntL.lookup (Str.ofString "marks") = some (3,62)/\cntL.lookup (Str.ofString "judge") = some (4,63)/\cntL.lookup (Str.ofString "bend") = some (4,4)/\cntL.lookup (Str.ofString "rise") = some (3,3)/\cntL.lookup (Str.ofString "steps") = some (4,4)/\cntL.lookup (Str.ofString "drop") = some (2,2)/\cntL.lookup (Str.ofString "show") = some (2,2)/\cntL.lookup (Str.ofString "names") = some (1,1):=by decide +kernel
 simp only [forms,mem_cons,List.cons.injEq,not_mem_nil,or_false] at h;rcases hc with ⟨rfl,e,rfl⟩ | ⟨rfl,e,rfl⟩ | ⟨rfl,e1,e2,rfl⟩ | ⟨rfl,e,rfl⟩ | ⟨rfl,e,x,hx,rfl⟩
 ·rcases h with ⟨rfl,rfl⟩ | ⟨rfl,rfl⟩ | ⟨rfl,rfl⟩ | ⟨rfl,rfl⟩ | ⟨rfl,rfl⟩ | ⟨rfl,rfl⟩ | ⟨rfl,rfl⟩ | ⟨rfl,rfl⟩
  ·exact key (l:=[Str.ofString "marks",n]) (by simp) (sub fun x hx=>by simp at hx ⊢; rcases hx with h | h <;> simp [h]) (by simp) (eB lk.1 (by simp))
  all_goals exact absurd e (by decide +kernel)
 ·rcases h with ⟨rfl,rfl⟩ | ⟨rfl,rfl⟩ | ⟨rfl,rfl⟩ | ⟨rfl,rfl⟩ | ⟨rfl,rfl⟩ | ⟨rfl,rfl⟩ | ⟨rfl,rfl⟩ | ⟨rfl,rfl⟩
  ·exact absurd e (by decide +kernel)
  ·exact absurd e (by decide +kernel)
  ·exact absurd e (by decide +kernel)
  ·exact absurd e (by decide +kernel)
  ·exact key (l:=[Str.ofString "judge",cJ p r 99,Str.ofString "sum"]) (by simp) (sub fun x hx=>by simp at hx ⊢; rcases hx with h | h | h <;> simp [h]) (by simp) (eB lk.2.1 (by simp))
  all_goals exact absurd e (by decide +kernel)
 ·rcases h with ⟨rfl,rfl⟩ | ⟨rfl,rfl⟩ | ⟨rfl,rfl⟩ | ⟨rfl,rfl⟩ | ⟨rfl,rfl⟩ | ⟨rfl,rfl⟩ | ⟨rfl,rfl⟩ | ⟨rfl,rfl⟩
  ·exact absurd rfl e1
  ·exact key (l:=[Str.ofString "bend",cJ p r 97,Str.ofString "far"]) (by simp) (sub fun x hx=>by simp at hx ⊢; rcases hx with h | h | h <;> simp [h]) (by simp) (eB lk.2.2.1 (by simp))
  ·exact key (l:=[Str.ofString "rise",cJ p r 98]) (by simp) (sub fun x hx=>by simp at hx ⊢; rcases hx with h | h <;> simp [h]) (by simp) (eB lk.2.2.2.1 (by simp))
  ·exact key (l:=[Str.ofString "steps",cJ p r 97,Str.ofString "square"]) (by simp) (sub fun x hx=>by simp at hx ⊢; rcases hx with h | h | h <;> simp [h]) (by simp) (eB lk.2.2.2.2.1 (by simp))
  ·exact absurd rfl e2
  ·exact key (l:=[Str.ofString "drop"]) (by simp) (sub fun x hx=>by simp at hx ⊢; simp [hx]) (by simp) (eB lk.2.2.2.2.2.1 (by simp))
  ·exact key (l:=[Str.ofString "show"]) (by simp) (sub fun x hx=>by simp at hx ⊢; simp [hx]) (by simp) (eB lk.2.2.2.2.2.2.1 (by simp))
  ·refine ⟨0,rfl,?_⟩;show Rf A kv (.str (jn [])) 0;rw [aDn];exact jN (by simp) (fun w hw=>by rw [mem_singleton.mp hw]; exact (fI (by decide +kernel)).1) (by simp) (rW fun lo hi e=>by rw [show cntL.lookup (Str.ofString "") = none by decide +kernel] at e; cases e)
 ·rcases h with ⟨rfl,rfl⟩ | ⟨rfl,rfl⟩ | ⟨rfl,rfl⟩ | ⟨rfl,rfl⟩ | ⟨rfl,rfl⟩ | ⟨rfl,rfl⟩ | ⟨rfl,rfl⟩ | ⟨rfl,rfl⟩
  ·exact ⟨2,rfl,rN (rest:=[Str.ofString "0:1*2",Str.ofString "1/2:3*1",Str.ofString "a"]) (by simp) (by simp) (app (fI (by decide +kernel)).1) E.n.1 ⟨Str.ofString "a",by simp,by decide +kernel⟩⟩
  all_goals exact absurd e (by decide +kernel)
 ·have xw:=Oj hx;rcases h with ⟨rfl,rfl⟩ | ⟨rfl,rfl⟩ | ⟨rfl,rfl⟩ | ⟨rfl,rfl⟩ | ⟨rfl,rfl⟩ | ⟨rfl,rfl⟩ | ⟨rfl,rfl⟩ | ⟨rfl,rfl⟩
  ·exact absurd rfl e
  ·exact key (l:=[Str.ofString "bend",cJ p r 97,Str.ofString "far",Str.ofString "1",x]) (by simp) (app xw) (by simp) (eB lk.2.2.1 (by simp))
  ·exact key (l:=[Str.ofString "rise",cJ p r 98,Str.ofString "sum",x]) (by simp) (app xw) (by simp) (eB lk.2.2.2.1 (by simp))
  ·exact key (l:=[Str.ofString "steps",cJ p r 97,Str.ofString "square",Str.ofString "2",x]) (by simp) (app xw) (by simp) (eB lk.2.2.2.2.1 (by simp))
  ·refine ⟨0,rfl,?_⟩;refine rfa (rest:=[Str.ofString "1",Str.ofString "2/3",x]) (.inr (.inr (.inr rfl))) ⟨_,_,4,63,rfl,lk.2.1,by simp,by simp⟩ (by simp) (app xw) hmc fun C Q ex hC hx=>.inr ⟨by simp [dZ],.inr (.inr ⟨rfl,_,mc,[Str.ofString "1",Str.ofString "2/3",x],rfl,by simp [dZ],by simp,by omega,fun w hw2=>?_,.inl ⟨by rw [mc2]; simp,by cases hC; exact hx⟩⟩)⟩;have:=(app xw w (by simp at hw2 ⊢; rcases hw2 with h | h | h <;> simp [h])).l;omega
  ·exact key (l:=[Str.ofString "drop",cJ p r 97,x]) (by simp) (app xw) (by simp) (eB lk.2.2.2.2.2.1 (by simp))
  ·exact key (l:=[Str.ofString "show",cJ p r 98,x]) (by simp) (app xw) (by simp) (eB lk.2.2.2.2.2.2.1 (by simp))
  ·exact key (l:=[Str.ofString "names",x]) (by simp) (app xw) (by simp) (eB lk.2.2.2.2.2.2.2 (by simp))
end
def Lv (a b c n k k2:Str):List (List Str):=[["marks",n,"1/2:3*1","0:1*2","1/2:4*5"],"marks" :: n :: replicate 61 "0:1*1",["bend",a,"far","4"],["bend",b,"square",k],["bend",a,"sum","2"],["bend",c,"sum",k],["steps",b,"far",k],["steps",a,"sum",k2],["judge",c,"far","1"],["judge",c,"far","1","2","3"],["judge",c,"square","1","2","x"],"judge" :: a :: "far" :: replicate 61 "0",["judge",c,"fur","1"]]
def duesD:List Str:=["NoMarks","NoRow","NoBend","NoBend","NoKind","NoKind","NoNumber","NoNumber","NoRow","NoRow","NoRow","NoRow","NoKind"]
def kT (n:Int):Str:=Str.ofString (toString (-1 - n % 1000000000))
def k2T (n:Int):Str:=Str.ofString (toString (60 + n))
theorem Cs (x:Str):(replicate (toNat 61) [PyData.str x]).flatten = (replicate 61 x).map PyData.str:=by
 show (replicate 61 [PyData.str x]).flatten = _;rw [List.map_replicate];have:∀ k:Nat,(replicate k [PyData.str x]).flatten = replicate k (PyData.str x):=fun k=>by
  induction k with
  | zero=>rfl
  | succ k ih=>rw [replicate_succ,flatten_cons,ih,replicate_succ]; rfl
 exact this 61
def aGh:DW:=fun ds Q _=>∃ (p r:Nat) (nm:Str) (n:Int),ds = [.list ((mU p r 4).map .str),.int n,.str nm]/\0<=n/\n<=10 ^ 10/\∀ (i:Nat) ws y,(Lv (cJ p r 97) (cJ p r 98) (cJ p r 99) nm (kT n) (k2T n))[i]? = some ws->duesD[i]? = some y->Q (.dat (.list [iP ws,.str y]))
theorem aBt (T:Txt K mg A):FnOk P w K mg base (eA P w) 1 A.a_qy1 A.d_qy1 ["names","number","n"] (fO K aGh):=by
 refine gM T.F_qy1.F sc_qy1 (by walk_at "l") fun cdv Ar outer s H E hr=>?_
 refine ⟨_,(@aJ _ _ _ _ _ (lJ (pv 0) (Al (K:=K) (n:=4) rfl rfl (bX (pM 3 sc_qy1) (bX (pM 4 sc_qy1) (bX (pM 5 sc_qy1) (bX (pM 6 sc_qy1) eZ))))))
   (@aJ _ _ _ _ _ (@dG _ _ 7 _ _ _ _ sc_qy1.nd rfl (Or.inl rfl) (cM cG rfl T.n_str Dl.boot_str (@aA _ _ _ _ _ (@aU _ _ _ _ _ _ _ _ lK (Cy vE aS) (@aU _ _ _ _ _ _ _ _ cQ (pv 1) (@aU _ _ _ _ _ _ _ _ Nq aS aS))) (@aE _) gF)) (by rfl) (by first | exact .inl rfl | exact .inr rfl))
   (@aJ _ _ _ _ _ (@dG _ _ 8 _ _ _ _ sc_qy1.nd rfl (Or.inl rfl) (@aZ _ _ _ _ (@aA _ _ _ _ _ (@aZ _ _ _ _ (@aA _ _ _ _ _ aF (@aA _ _ _ _ _ (pv 2) (@aA _ _ _ _ _ aF (@aA _ _ _ _ _ aF (@aA _ _ _ _ _ aF (@aE _) aL) aL) aL) bP) aL)) (@aA _ _ _ _ _ (@aU _ _ _ _ _ _ _ _ gX (@aZ _ _ _ _ (@aA _ _ _ _ _ aF (@aA _ _ _ _ _ (pv 2) (@aE _) bP) aL)) (@aU _ _ _ _ _ _ _ _ vZ (@aZ _ _ _ _ (@aA _ _ _ _ _ aF (@aE _) aL)) aS)) (@aA _ _ _ _ _ (@aZ _ _ _ _ (@aA _ _ _ _ _ aF (@aA _ _ _ _ _ (pv 3) (@aA _ _ _ _ _ aF (@aA _ _ _ _ _ aF (@aE _) aL) aL) bP) aL)) (@aE _) eC) gF) eC)) (by rfl) (by first | exact .inl rfl | exact .inr rfl))
   (@aJ _ _ _ _ _ (@dG _ _ 8 _ _ _ _ sc_qy1.nd rfl (Or.inl rfl) (@aU _ _ _ _ _ _ _ _ gX (pv 8) (@aZ _ _ _ _ (@aA _ _ _ _ _ (@aZ _ _ _ _ (@aA _ _ _ _ _ aF (@aA _ _ _ _ _ (pv 4) (@aA _ _ _ _ _ aF (@aA _ _ _ _ _ (pv 7) (@aE _) bP) aL) bP) aL)) (@aA _ _ _ _ _ (@aZ _ _ _ _ (@aA _ _ _ _ _ aF (@aA _ _ _ _ _ (pv 3) (@aA _ _ _ _ _ aF (@aA _ _ _ _ _ aF (@aE _) aL) aL) bP) aL)) (@aA _ _ _ _ _ (@aZ _ _ _ _ (@aA _ _ _ _ _ aF (@aA _ _ _ _ _ (pv 5) (@aA _ _ _ _ _ aF (@aA _ _ _ _ _ (pv 7) (@aE _) bP) aL) bP) aL)) (@aA _ _ _ _ _ (@aZ _ _ _ _ (@aA _ _ _ _ _ aF (@aA _ _ _ _ _ (pv 4) (@aA _ _ _ _ _ aF (@aA _ _ _ _ _ (pv 7) (@aE _) bP) aL) bP) aL)) (@aE _) eC) eC) eC) eC))) (by rfl) (by first | exact .inl rfl | exact .inr rfl))
   (@aJ _ _ _ _ _ (@dG _ _ 8 _ _ _ _ sc_qy1.nd rfl (Or.inl rfl) (@aU _ _ _ _ _ _ _ _ gX (pv 8) (@aZ _ _ _ _ (@aA _ _ _ _ _ (@aZ _ _ _ _ (@aA _ _ _ _ _ aF (@aA _ _ _ _ _ (pv 3) (@aA _ _ _ _ _ aF (@aA _ _ _ _ _ (cM cG rfl T.n_str Dl.boot_str (@aA _ _ _ _ _ (@aU _ _ _ _ _ _ _ _ fL aS (pv 1)) (@aE _) gF)) (@aE _) nN) aL) bP) aL)) (@aA _ _ _ _ _ (@aZ _ _ _ _ (@aA _ _ _ _ _ aF (@aA _ _ _ _ _ (pv 5) (@aA _ _ _ _ _ aF (@aA _ _ _ _ _ aF (@aE _) aL) aL) bP) aL)) (@aA _ _ _ _ _ (@aZ _ _ _ _ (@aA _ _ _ _ _ aF (@aA _ _ _ _ _ (pv 5) (@aA _ _ _ _ _ aF (@aA _ _ _ _ _ aF (@aA _ _ _ _ _ aF (@aA _ _ _ _ _ aF (@aE _) aL) aL) aL) aL) bP) aL)) (@aE _) eC) eC) eC))) (by rfl) (by first | exact .inl rfl | exact .inr rfl))
   (@aJ _ _ _ _ _ (@dG _ _ 8 _ _ _ _ sc_qy1.nd rfl (Or.inl rfl) (@aU _ _ _ _ _ _ _ _ gX (pv 8) (@aZ _ _ _ _ (@aA _ _ _ _ _ (@aZ _ _ _ _ (@aA _ _ _ _ _ aF (@aA _ _ _ _ _ (pv 5) (@aA _ _ _ _ _ aF (@aA _ _ _ _ _ aF (@aA _ _ _ _ _ aF (@aA _ _ _ _ _ aF (@aE _) aL) aL) aL) aL) bP) aL)) (@aA _ _ _ _ _ (@aU _ _ _ _ _ _ _ _ gX (@aZ _ _ _ _ (@aA _ _ _ _ _ aF (@aA _ _ _ _ _ (pv 3) (@aA _ _ _ _ _ aF (@aE _) aL) bP) aL)) (@aU _ _ _ _ _ _ _ _ vZ (@aZ _ _ _ _ (@aA _ _ _ _ _ aF (@aE _) aL)) aS)) (@aA _ _ _ _ _ (@aZ _ _ _ _ (@aA _ _ _ _ _ aF (@aA _ _ _ _ _ (pv 5) (@aA _ _ _ _ _ aF (@aA _ _ _ _ _ aF (@aE _) aL) aL) bP) aL)) (@aE _) eC) gF) eC))) (by rfl) (by first | exact .inl rfl | exact .inr rfl))
   (@aJ _ _ _ _ _ (@dG _ _ 9 _ _ _ _ sc_qy1.nd rfl (Or.inl rfl) (@aZ _ _ _ _ (@aA _ _ _ _ _ aF (@aA _ _ _ _ _ aF (@aA _ _ _ _ _ aF (@aA _ _ _ _ _ aF (@aA _ _ _ _ _ aF (@aA _ _ _ _ _ aF (@aA _ _ _ _ _ aF (@aA _ _ _ _ _ aF (@aA _ _ _ _ _ aF (@aA _ _ _ _ _ aF (@aE _) aL) aL) aL) aL) aL) aL) aL) aL) aL) aL)) (by rfl) (by first | exact .inl rfl | exact .inr rfl))
   (@aJ _ _ _ _ _ (@dG _ _ 9 _ _ _ _ sc_qy1.nd rfl (Or.inl rfl) (@aU _ _ _ _ _ _ _ _ gX (pv 9) (@aZ _ _ _ _ (@aA _ _ _ _ _ aF (@aA _ _ _ _ _ aF (@aA _ _ _ _ _ aF (@aE _) aL) aL) aL))) (by rfl) (by first | exact .inl rfl | exact .inr rfl))
   (@aM _ _ _ (@aY _ _ _ _ (@aZ _ _ _ _ (@aA _ _ _ _ _ (@dH _ _ _ _ _ _ _ (gH (K:=K) rfl) (pv 8) (@aU _ _ _ _ _ _ _ _ cQ (pv 1) aS) (fun _ _=>rfl)) (@aA _ _ _ _ _ (@dH _ _ _ _ _ _ _ (gH (K:=K) rfl) (pv 9) (@aU _ _ _ _ _ _ _ _ cQ (pv 1) aS) (fun _ _=>rfl)) (@aE _) lH) lH)))))))))))),_,(cO (bO (aV 0) (mZ (cH (aO 3) (cH (aO 4) (cH (aO 5) (cH (aO 6) gI))))))
   (cO (bO (cI fJ (aH (aB (aQ eU (aB (Uz (v:=(-1)) (wN (aB aP)) (fun ex δ Q h=>Eq.mpr (congrArg (fun z=>Q (.int z)) (by decide +kernel:((-1):Int) = -1)) h))) (aB (cV (k:=1000000000) (by decide) (aG 1) (Uz (v:=1000000000) (aQ gP (aB aP) (aB aP)) (fun ex δ Q h=>⟨aKn (by decide +kernel),Eq.mpr (congrArg (fun z=>Q (.int z)) (by decide +kernel:((10 ^ toNat 9):Int) = 1000000000)) h⟩)))))) aN)) (aO 7))
   (cO (cA 8 (bH (aC (bY (bH (aC aI (aC (aV 2) (aC aI (aC aI (aC aI aW))))) (by decide))) (aC (bY (gW (fU (bH (aC aI (aC (aV 2) aW)) (by decide))) (fU (vX (fU (bH (aC aI aW) (by decide))) (aB aP))))) (aC (bY (bH (aC aI (aC (aV 3) (aC aI (aC aI aW)))) (by decide))) aW))) (by decide)))
   (cO (cA 8 (gW (kH 8) (fU (bH (aC (bY (bH (aC aI (aC (aV 4) (aC aI (aC (aV 7) aW)))) (by decide))) (aC (bY (bH (aC aI (aC (aV 3) (aC aI (aC aI aW)))) (by decide))) (aC (bY (bH (aC aI (aC (aV 5) (aC aI (aC (aV 7) aW)))) (by decide))) (aC (bY (bH (aC aI (aC (aV 4) (aC aI (aC (aV 7) aW)))) (by decide))) aW)))) (by decide)))))
   (cO (cA 8 (gW (kH 8) (fU (bH (aC (bY (bH (aC aI (aC (aV 3) (aC aI (aC (cI fJ (aH (aB (aQ eU (aB aP) (aG 1))) aN)) aW)))) (by decide))) (aC (bY (bH (aC aI (aC (aV 5) (aC aI (aC aI aW)))) (by decide))) (aC (bY (bH (aC aI (aC (aV 5) (aC aI (aC aI (aC aI (aC aI aW)))))) (by decide))) aW))) (by decide)))))
   (cO (cA 8 (gW (kH 8) (fU (bH (aC (bY (bH (aC aI (aC (aV 5) (aC aI (aC aI (aC aI (aC aI aW)))))) (by decide))) (aC (bY (gW (fU (bH (aC aI (aC (aV 3) (aC aI aW))) (by decide))) (fU (vX (fU (bH (aC aI aW) (by decide))) (aB aP))))) (aC (bY (bH (aC aI (aC (aV 5) (aC aI (aC aI aW)))) (by decide))) aW))) (by decide)))))
   (cO (cA 9 (bH (aC aI (aC aI (aC aI (aC aI (aC aI (aC aI (aC aI (aC aI (aC aI (aC aI aW)))))))))) (by decide)))
   (aR (cA 9 (gW (kH 9) (fU (bH (aC aI (aC aI (aC aI aW))) (by decide)))))
   (bG (gZ (cU (aB (cB (bN 8) (aB (cV (k:=13) (by decide) (aG 1) aP)))) (cU (aB (cB (bN 9) (aB (cV (k:=13) (by decide) (aG 1) aP)))) hG)) (by decide))))))))))),?_⟩
 rintro ds Q X ⟨p,r,nm,n,rfl,n0,n1,kq⟩;have e4:(mU p r 4).map PyData.str = [.str (cJ p r 97),.str (cJ p r 98),.str (cJ p r 99),.str (cJ p r 100)]:=rfl;rw [e4];obtain ⟨a,ha⟩:∃ a,cJ p r 97 = a:=⟨_,rfl⟩;obtain ⟨b,hb⟩:∃ b,cJ p r 98 = b:=⟨_,rfl⟩;obtain ⟨c,hc⟩:∃ c,cJ p r 99 = c:=⟨_,rfl⟩;obtain ⟨l,hl⟩:∃ l,cJ p r 100 = l:=⟨_,rfl⟩;rw [ha,hb,hc] at kq;rw [ha,hb,hc,hl];clear ha hb hc hl e4;obtain ⟨st,hst⟩:∃ st:List (Option Sl),[some (Sl.dat (.list [.str a,.str b,.str c,.str l])),some (.dat (.int n)),some (.dat (.str nm)),some (.dat (.str a)),some (.dat (.str b)),some (.dat (.str c)),some (.dat (.str l))] = st:=⟨_,rfl⟩;obtain ⟨fs,hfs⟩:∃ fs,Lv a b c nm (kT n) (k2T n) = fs:=⟨_,rfl⟩;have lk:(-1 - n % 1000000000).natAbs < 10 ^ 90:=by
  have:(10:Nat) ^ 11 < 10 ^ 90:=by decide +kernel
  omega
 have lk2:(60 + n).natAbs < 10 ^ 90:=by
  have:(10:Nat) ^ 11 < 10 ^ 90:=by decide +kernel
  omega
 refine cT (fun δ=>δ = st ++ [none,none,none]) ?_ ?_
 ·rw [<- hst];walk_at "d";rfl
 rintro δ rfl;refine cT (fun δ=>δ = st ++ [some (.dat (.str (kT n))),none,none]) ?_ ?_
 ·rw [<- hst];dsimp only [cons_append,nil_append];walk_at "d";exact ⟨oE lk,rfl⟩
 rintro δ rfl;refine cT (fun δ=>δ = st ++ [some (.dat (.str (kT n))),some (.own ((fs.take 3).map iP)),none]) ?_ ?_
 ·rw [<- hst,<- hfs];dsimp only [cons_append,nil_append];walk_at "d";refine ⟨⟨by decide,by decide⟩,by decide,by rw [Cs,length_map,length_replicate]; decide,?_⟩;rw [Cs];rfl
 rintro δ rfl;have f3:(fs.take 3).length = 3:=by rw [<- hfs]; rfl
 have f7:(fs.take 7).length = 7:=by rw [<- hfs]; rfl
 have f10:(fs.take 10).length = 10:=by rw [<- hfs]; rfl
 have g3:(fs.take 7).map iP = (fs.take 3).map iP ++ [iP ["bend",b,"square",kT n],iP ["bend",a,"sum","2"],iP ["bend",c,"sum",kT n],iP ["steps",b,"far",kT n]]:=by rw [<- hfs]; rfl
 have g7:(fs.take 10).map iP = (fs.take 7).map iP ++ [iP ["steps",a,"sum",k2T n],iP ["judge",c,"far","1"],iP ["judge",c,"far","1","2","3"]]:=by rw [<- hfs]; rfl
 have g10:fs.map iP = (fs.take 10).map iP ++ [iP ["judge",c,"square","1","2","x"],iP ("judge" :: a :: "far" :: replicate 61 "0"),iP ["judge",c,"fur","1"]]:=by rw [<- hfs]; rfl
 obtain ⟨o3,h3⟩:∃ o3,(fs.take 3).map iP = o3:=⟨_,rfl⟩;obtain ⟨o7,h7⟩:∃ o7,(fs.take 7).map iP = o7:=⟨_,rfl⟩;obtain ⟨o10,h10⟩:∃ o10,(fs.take 10).map iP = o10:=⟨_,rfl⟩;obtain ⟨oA,hA⟩:∃ oA,fs.map iP = oA:=⟨_,rfl⟩;have l3:o3.length = 3:=by rw [<- h3,length_map,f3]
 have l7:o7.length = 7:=by rw [<- h7,length_map,f7]
 have l10:o10.length = 10:=by rw [<- h10,length_map,f10]
 rw [h3,h7] at g3;rw [h7,h10] at g7;rw [h10,hA] at g10;rw [h3];refine cT (fun δ=>δ = st ++ [some (.dat (.str (kT n))),some (.own o7),none]) ?_ ?_
 ·rw [<- hst,g3];dsimp only [cons_append,nil_append];walk_at "d";refine ⟨by rw [l3]; decide,?_⟩;rfl
 rintro δ rfl;refine cT (fun δ=>δ = st ++ [some (.dat (.str (kT n))),some (.own o10),none]) ?_ ?_
 ·rw [<- hst,g7];dsimp only [cons_append,nil_append];walk_at "d";refine ⟨oE lk2,by rw [l7]; decide,?_⟩;rfl
 rintro δ rfl;refine cT (fun δ=>δ = st ++ [some (.dat (.str (kT n))),some (.own oA),none]) ?_ ?_
 ·rw [<- hst,g10];dsimp only [cons_append,nil_append];walk_at "d";refine ⟨⟨by decide,by decide⟩,by decide,by rw [Cs,length_map,length_replicate]; decide,by rw [l10]; decide,?_⟩;rw [Cs];rfl
 rintro δ rfl;refine cT (fun δ=>δ = st ++ [some (.dat (.str (kT n))),some (.own oA),some (.own ((duesD.take 10).map .str))]) ?_ ?_
 ·rw [<- hst];dsimp only [cons_append,nil_append];walk_at "d";rfl
 rintro δ rfl;rw [<- hst];dsimp only [cons_append,nil_append];walk_at "s";refine ⟨by decide,?_⟩;obtain ⟨i,hi,i13⟩:∃ i:Nat,n % 13 = (i:Int)/\i < 13:=⟨(n % 13).toNat,by omega,by omega⟩;have fl:fs.length = 13:=by rw [<- hfs]; rfl
 have hws:fs[i]? = some fs[i]:=getElem?_eq_getElem (by omega);have dl:duesD.length = 13:=rfl;have hy:duesD[i]? = some duesD[i]:=getElem?_eq_getElem (by omega);have ed:(duesD.take 10).map PyData.str ++ [.str (Str.ofString "NoRow"),.str (Str.ofString "NoRow"),.str (Str.ofString "NoKind")] = duesD.map PyData.str:=rfl;walk_at "d";rw [ed,hi];refine ⟨iP fs[i],cW (by rw [<- hA,getElem?_map,hws]; rfl),_,eL hy,?_⟩;exact kq i _ _ (by rw [hfs]; exact hws) hy
theorem Nz {x:Int} (h:x.natAbs < 10 ^ 13):Wd (Str.ofString (toString x)):=by
 have l:=fP (n:=x) (lt_trans h (by decide +kernel));have s:=pP (n:=x) (k:=12) h;refine ⟨by omega,fun z=>?_,?_⟩
 ·rcases s 32 z with e | e <;> omega
 ·unfold PyData.strOk;rw [<- all_toList,all_eq_true];intro z hz;refine decide_eq_true ?_;rcases s z hz with e | e <;> omega
theorem aBj {t b:Int} (h1:1<=b) (h2:b<=3) (ht:t.natAbs<=100):_root_.Fm.Cm 6 100 (divInt t b):=by
 have hd:b.toNat ∣ 6:=by
  have:b.toNat = 1\/b.toNat = 2\/b.toNat = 3:=by omega
  rcases this with e | e | e <;> rw [e] <;> decide
 have c:=_root_.Fm.Cm.div (t:=t) (b:=b.toNat) (L:=6) (B:=100) (by omega) hd (le_trans ht (Nat.le_mul_of_pos_right _ (by omega)));rw [show ((b.toNat:Nat):Int) = b by omega] at c;exact c
theorem jB {a b t d w:Int} (h1:(1<=b/\b<=3)/\a.natAbs<=100) (h2:(1<=d/\d<=4)/\t.natAbs<=100) (h3:1<=w/\w<=9):Gd (divInt a b,divInt t d,w) :=
 ⟨aBj h1.1.1 h1.1.2 h1.2,Mc h2.1.1 h2.1.2 (le_trans h2.2 (by decide)),h3⟩
def twin3:List Mk:=[(divInt 1 2,divInt 3 1,1),(divInt 0 1,divInt 1 1,2),(divInt 1 2,divInt 4 1,5)]
theorem Ir:([Str.ofString "1/2:3*1",Str.ofString "0:1*2",Str.ofString "1/2:4*5"]:List Str) = twin3.map jM:=by decide +kernel
theorem Iu:¬ (twin3.map (·.1)).Nodup:=by decide +kernel
section
variable {A:Adr} {p r:Nat} {kv:dU} {n:Str}
theorem qS {nm kd w3:Str} {ms:List Mk} {k:Int} {j:Nat} (hm:kv.lookup nm = some (.list (ms.map eF))) (hk:kd∈dZ) (hw:∀ w∈[Str.ofString "bend",nm,kd,w3],Wd w) (hn:eN w3.cps.toList = some k) (hj:(kd ≠ Str.ofString "sum"/\¬ (0<=k/\k<=3)/\j = 6)\/(kd = Str.ofString "sum"/\k ≠ 0/\k ≠ 1/\j = 5)):Rf A kv (.str (jn [Str.ofString "bend",nm,kd,w3])) j:=by
 refine rfa (.inl rfl) ⟨_,_,4,4,rfl,by decide +kernel,by simp,by simp⟩ (by simp) hw hm fun C Q ex hC hx=>.inr ⟨hk,.inl ⟨w3,rfl,rfl,by have:=(hw w3 (by simp)).l; omega,.inr ⟨k,hn,?_⟩⟩⟩;rcases hj with ⟨a,b,rfl⟩ | ⟨a,b,c,rfl⟩
 ·exact .inl ⟨a,b,by cases hC; exact hx⟩
 ·exact .inr ⟨a,b,c,by cases hC; exact hx⟩
theorem yG {nm kd w3:Str} {ms:List Mk} {k:Int} (hm:kv.lookup nm = some (.list (ms.map eF))) (hk:kd∈dZ) (hw:∀ w∈[Str.ofString "steps",nm,kd,w3],Wd w) (hn:eN w3.cps.toList = some k) (hj:¬ (0<=k/\k<=59)):Rf A kv (.str (jn [Str.ofString "steps",nm,kd,w3])) 4 :=
 rfa (.inr (.inr (.inl rfl))) ⟨_,_,4,4,rfl,by decide +kernel,by simp,by simp⟩ (by simp) hw hm fun C Q ex hC hx=>.inr ⟨hk,.inr (.inl ⟨w3,rfl,rfl,by have:=(hw w3 (by simp)).l; omega,.inr (.inl ⟨k,hn,hj,by cases hC; exact hx⟩)⟩)⟩
theorem rO {nm kd:Str} {rest:List Str} {ms:List Mk} (hm:kv.lookup nm = some (.list (ms.map eF))) (hk:kd∈dZ) (h1:1<=rest.length) (h2:rest.length<=60) (ml:ms.length<=60) (hw:∀ w∈Str.ofString "judge" :: nm :: kd :: rest,Wd w) (hn:rest.length ≠ ms.length):Rf A kv (.str (jn (Str.ofString "judge" :: nm :: kd :: rest))) 0 :=
 rfa (.inr (.inr (.inr rfl))) ⟨_,_,4,63,rfl,by decide +kernel,by simp; omega,by simp; omega⟩ h2 hw hm fun C Q ex hC hx=>.inr ⟨hk,.inr (.inr ⟨rfl,kd,ms,rest,rfl,hk,h2,ml,fun w hw2=>by have:=(hw w (by simp [hw2])).l; omega,.inl ⟨hn,by cases hC; exact hx⟩⟩)⟩
theorem Te (E:Env p r kv n) {N:Int} (n0:0<=N) (n1:N<=10 ^ 10) {i:Nat} {ws:List Str} {y:Str} (hi:(Lv (cJ p r 97) (cJ p r 98) (cJ p r 99) n (kT N) (k2T N))[i]? = some ws) (hy:duesD[i]? = some y):∃ j,oW[j]? = some y/\Rf A kv (.str (jn ws)) j:=by
 have lit:∀ {w:Str},(decide (w.length<=60) && !decide (32∈w.cps.toList) && PyData.strOk w) = true->Wd w:=fun h=>(fI h).1;have wa:=(jR (p:=p) (r:=r) (c:=97) E.pr (by decide) (by decide)).1;have wb:=(jR (p:=p) (r:=r) (c:=98) E.pr (by decide) (by decide)).1;have wc:=(jR (p:=p) (r:=r) (c:=99) E.pr (by decide) (by decide)).1;have wn:=E.n.2.1;have wk:Wd (kT N):=Nz (by omega);have wk2:Wd (k2T N):=Nz (by omega)
 have nk:eN (kT N).cps.toList = some (-1 - N % 1000000000):=pQ (by
  have:(10:Nat) ^ 11 < 10 ^ 40:=by decide +kernel
  omega)
 have nk2:eN (k2T N).cps.toList = some (60 + N):=pQ (by
  have:(10:Nat) ^ 11 < 10 ^ 40:=by decide +kernel
  omega)
 have w4:∀ {a b c d:Str},Wd a->Wd b->Wd c->Wd d->∀ w∈[a,b,c,d],Wd w:=fun ha hb hc hd w hw=>by
  simp only [mem_cons,not_mem_nil,or_false] at hw;rcases hw with rfl | rfl | rfl | rfl <;> assumption
 have rep:∀ {x a b:Str} {l:List Str},Wd a->Wd b->Wd x->(∀ w∈l,w = x)->∀ w∈a :: b :: l,Wd w:=fun ha hb hx hl w hw=>by
  rcases mem_cons.mp hw with rfl | hw
  ·exact ha
  rcases mem_cons.mp hw with rfl | hw
  ·exact hb
  rw [hl w hw]; exact hx
 obtain ⟨ma,hma⟩:=E.kv.a;obtain ⟨mb,hmb⟩:=E.kv.b;obtain ⟨mc,hmc,mc2⟩:=E.kv.c;have far:Str.ofString "far"∈dZ:=by simp [dZ]
 have sum:Str.ofString "sum"∈dZ:=by simp [dZ]
 have sq:Str.ofString "square"∈dZ:=by simp [dZ]
 have wfar:Wd (Str.ofString "far"):=lit (by decide +kernel);have wsum:Wd (Str.ofString "sum"):=lit (by decide +kernel);have wsq:Wd (Str.ofString "square"):=lit (by decide +kernel);have wbend:Wd (Str.ofString "bend"):=lit (by decide +kernel);have wst:Wd (Str.ofString "steps"):=lit (by decide +kernel);have wju:Wd (Str.ofString "judge"):=lit (by decide +kernel);have wma:Wd (Str.ofString "marks"):=lit (by decide +kernel);have w1:Wd (Str.ofString "1"):=lit (by decide +kernel);have w2:Wd (Str.ofString "2"):=lit (by decide +kernel);have w3:Wd (Str.ofString "3"):=lit (by decide +kernel);have w44:Wd (Str.ofString "4"):=lit (by decide +kernel);have wx:Wd (Str.ofString "x"):=lit (by decide +kernel)
 match i,hi,hy with
 | 0,hi,hy =>
  cases hi; cases hy;refine ⟨3,rfl,?_⟩;have hw:∀ w∈Str.ofString "marks" :: n :: ([Str.ofString "1/2:3*1",Str.ofString "0:1*2",Str.ofString "1/2:4*5"]:List Str),Wd w:=fun w hw=>by
   simp only [mem_cons,not_mem_nil,or_false] at hw;rcases hw with rfl | rfl | rfl | rfl | rfl
   ·exact wma
   ·exact wn
   all_goals exact lit (by decide +kernel)
  refine rfm (rest:=[Str.ofString "1/2:3*1",Str.ofString "0:1*2",Str.ofString "1/2:4*5"]) (by simp) (by simp) hw fun C R ex hC hx=>?_;refine ⟨n,_,rfl,by have:=wn.l; omega,by simp,fun w hw2=>by have:=(hw w (by simp only [mem_cons]; simp only [mem_cons] at hw2; exact .inr (.inr hw2))).l; omega,.inr (.inr ⟨twin3,Ir,E.n.1,by simp [twin3],fun m hm=>?_,by have:=E.kv.len; omega,(fun _=>by cases hC; exact hx),fun z=>absurd z Iu⟩)⟩;simp only [twin3,mem_cons,not_mem_nil,or_false] at hm;rcases hm with rfl | rfl | rfl <;> exact jB (by decide) (by decide) (by decide)
 | 1,hi,hy =>
  cases hi; cases hy;exact ⟨0,rfl,jN (by simp) (rep wma wn (lit (w:=Str.ofString "0:1*1") (by decide +kernel)) fun w hw=>eq_of_mem_replicate hw) (by simp) (eB (lo:=3) (hi:=62) (by decide +kernel) (by simp))⟩
 | 2,hi,hy =>
  cases hi; cases hy;exact ⟨6,rfl,qS (k:=4) hma far (w4 wbend wa wfar w44) (by decide +kernel) (.inl ⟨by decide +kernel,by decide,rfl⟩)⟩
 | 3,hi,hy =>
  cases hi; cases hy;exact ⟨6,rfl,qS hmb sq (w4 wbend wb wsq wk) nk (.inl ⟨by decide +kernel,by omega,rfl⟩)⟩
 | 4,hi,hy =>
  cases hi; cases hy;exact ⟨5,rfl,qS (k:=2) hma sum (w4 wbend wa wsum w2) (by decide +kernel) (.inr ⟨rfl,by decide,by decide,rfl⟩)⟩
 | 5,hi,hy =>
  cases hi; cases hy;exact ⟨5,rfl,qS hmc sum (w4 wbend wc wsum wk) nk (.inr ⟨rfl,by omega,by omega,rfl⟩)⟩
 | 6,hi,hy =>
  cases hi; cases hy;exact ⟨4,rfl,yG hmb far (w4 wst wb wfar wk) nk (by omega)⟩
 | 7,hi,hy =>
  cases hi; cases hy;exact ⟨4,rfl,yG hma sum (w4 wst wa wsum wk2) nk2 (by omega)⟩
 | 8,hi,hy =>
  cases hi; cases hy;exact ⟨0,rfl,rO (rest:=[Str.ofString "1"]) hmc far (by simp) (by simp) (by omega) (w4 wju wc wfar w1) (by rw [mc2]; simp)⟩
 | 9,hi,hy =>
  cases hi; cases hy;exact ⟨0,rfl,rO (rest:=[Str.ofString "1",Str.ofString "2",Str.ofString "3"]) hmc far (by simp) (by simp) (by omega) (eE wju (eE wc (eE wfar (eE w1 (eE w2 (eE w3 fun w hw=>nomatch hw)))))) (by rw [mc2]; simp)⟩
 | 10,hi,hy =>
  cases hi; cases hy;exact ⟨0,rfl,rO (rest:=[Str.ofString "1",Str.ofString "2",Str.ofString "x"]) hmc sq (by simp) (by simp) (by omega) (eE wju (eE wc (eE wsq (eE w1 (eE w2 (eE wx fun w hw=>nomatch hw)))))) (by rw [mc2]; simp)⟩
 | 11,hi,hy =>
  cases hi; cases hy;exact ⟨0,rfl,jN (by simp) (eE wju (rep wa wfar (lit (w:=Str.ofString "0") (by decide +kernel)) fun w hw=>eq_of_mem_replicate hw)) (by simp) (eB (lo:=4) (hi:=63) (by decide +kernel) (by simp))⟩
 | 12,hi,hy =>
  cases hi; cases hy;exact ⟨5,rfl,nQ (rest:=[Str.ofString "1"]) (.inr (.inr (.inr rfl))) ⟨_,_,4,63,rfl,by decide +kernel,by simp,by simp⟩ (by simp) (w4 wju wc (lit (by decide +kernel)) w1) hmc (by decide +kernel)⟩
 | i + 13,hi,hy =>
  have:(duesD[i + 13]?) = none:=by rw [List.getElem?_eq_none_iff]; show 13<=i + 13; omega
  rw [this] at hy; cases hy
end
theorem aFc {l:List PyData} {i:Int} (h0:0<=i) (h1:i < l.length):∃ d,d∈l/\lA l i = some d:=by
 obtain ⟨j,rfl⟩:=Int.eq_ofNat_of_zero_le h0;have hj:j < l.length:=by omega
 exact ⟨l[j],getElem_mem hj,cW (getElem?_eq_getElem hj)⟩
def Oi:List Str:=["","mark","Marks","marks,","NAMES","name","bends","rises","0","show\n"]
theorem Oh {x:Str} (h:x∈Oi):Wd x/\cntL.lookup x = none:=by
 have h2:x = Str.ofString ""\/x = Str.ofString "mark"\/x = Str.ofString "Marks"\/x = Str.ofString "marks,"\/x = Str.ofString "NAMES"\/x = Str.ofString "name"\/x = Str.ofString "bends"\/x = Str.ofString "rises"\/x = Str.ofString "0"\/x = Str.ofString "show\n":=by simpa [Oi] using h
 rcases h2 with rfl | rfl | rfl | rfl | rfl | rfl | rfl | rfl | rfl | rfl <;> exact ⟨(fI (by decide +kernel)).1,by decide +kernel⟩
theorem vR {A:Adr} {kv:dU} {ws:List Str} {j:Nat} {y:Str} (hj:oW[j]? = some y) (h:Rf A kv (.str (jn ws)) j):(ws.map (·.length)).sum + ws.length * (Str.ofString " ").length<=100000:=by
 have j7:j < (qO A).length:=(List.getElem?_eq_some_iff.mp hj).1;have hl:(Txt.join (Str.ofString " ") ws).length<=90000:=by
  rcases h _ (fun _ _=>True) (fun _=>True) (getElem?_eq_getElem j7) trivial with ⟨d,e,hd,_⟩ | ⟨x,_,e,hx,_⟩
  ·cases e; exact absurd rfl (hd _)
  ·cases e; exact hx
 unfold Txt.join at hl;rw [size_glued] at hl;rw [dR] at hl ⊢;omega
def Yo (A:Adr):DW:=fun ds Q _=>∃ (p r:Nat) (kv:dU) (nm:Str) (n:Int),ds = [.list ((mU p r 4).map .str),.int n,.str nm]/\0<=n/\n<=10 ^ 10/\Env p r kv nm/\∀ d y j,Rf A kv d j->oW[j]? = some y->Q (.dat (.list [d,.str y]))
theorem aBs (T:Txt K mg A):FnOk P w K mg base (eA P w) 3 A.a_qz1 A.d_qz1 ["names","number","n"] (fO K (Yo A)):=by
 refine gM T.F_qz1.F sc_qz1 (by walk_at "l") fun cdv Ar outer s H E hr=>?_
 refine ⟨_,(@aJ _ _ _ _ _ (@dG _ _ 3 _ _ _ _ sc_qz1.nd rfl (Or.inl rfl) (@aU _ _ _ _ _ _ _ _ cQ (pv 1) aS) (by rfl) (by first | exact .inl rfl | exact .inr rfl))
   (@aJ _ _ _ _ _ (@dG _ _ 1 _ _ _ _ sc_qz1.nd rfl (Or.inl rfl) (@aU _ _ _ _ _ _ _ _ dN (pv 1) aS) (by rfl) (by first | exact .inl rfl | exact .inr rfl))
   (@aJ _ _ _ _ _ (@dG _ _ 4 _ _ _ _ sc_qz1.nd rfl (Or.inl rfl) (dQ (aBx T) hr T.F_qt1 bF (@aA _ _ _ _ _ (pv 1) (@aA _ _ _ _ _ (pv 0) (@aA _ _ _ _ _ (pv 2) (@aE _) bP) bP) bP)) (by rfl) (by first | exact .inl rfl | exact .inr rfl))
   (@aJ _ _ _ _ _ (@dG _ _ 1 _ _ _ _ sc_qz1.nd rfl (Or.inl rfl) (@aU _ _ _ _ _ _ _ _ dN (pv 1) aS) (by rfl) (by first | exact .inl rfl | exact .inr rfl))
   (@aJ _ _ _ _ _ (@bV _ _ _ _ _ _ _ _ (@aX _ _ _ _ _ _ _ _ cZ (pv 3) aS (bK _)) (@aM _ _ _ (@aY _ _ _ _ (@aZ _ _ _ _ (@aA _ _ _ _ _ (@dH _ _ _ _ _ _ _ (gH (K:=K) rfl) (@aZ _ _ _ _ (@aA _ _ _ _ _ aBn (@aA _ _ _ _ _ aS (@aA _ _ _ _ _ (@aZ _ _ _ _ (@aA _ _ _ _ _ aF (@aA _ _ _ _ _ aF (@aE _) aL) aL)) (@aA _ _ _ _ _ (@fK _ _ _ _ _ (@aA _ _ _ _ _ aF (@aE _) aL)) (@aA _ _ _ _ _ kM (@aA _ _ _ _ _ yL (@aE _) Zk) aL) Zj) eC) aL) aL)) (@aU _ _ _ _ _ _ _ _ cQ (pv 1) aS) (fun _ _=>rfl)) (@aA _ _ _ _ _ aF (@aE _) aL) lH)))) bA)
   (@aJ _ _ _ _ _ (@bV _ _ _ _ _ _ _ _ (@aX _ _ _ _ _ _ _ _ cZ (pv 3) aS (bK _)) (@aJ _ _ _ _ _ (@dG _ _ 5 _ _ _ _ sc_qz1.nd rfl (Or.inl rfl) (@dH _ _ _ _ _ _ _ (gH (K:=K) rfl) (@aZ _ _ _ _ (@aA _ _ _ _ _ aF (@aA _ _ _ _ _ aF (@aA _ _ _ _ _ aF (@aA _ _ _ _ _ aF (@aA _ _ _ _ _ aF (@aA _ _ _ _ _ aF (@aA _ _ _ _ _ aF (@aA _ _ _ _ _ aF (@aA _ _ _ _ _ aF (@aA _ _ _ _ _ aF (@aE _) aL) aL) aL) aL) aL) aL) aL) aL) aL) aL)) (@aU _ _ _ _ _ _ _ _ cQ (pv 1) aS) (fun _ _=>rfl)) (by rfl) (by first | exact .inl rfl | exact .inr rfl))
   (@aM _ _ _ (@aY _ _ _ _ (@aZ _ _ _ _ (@aA _ _ _ _ _ (fZ F.plainAttrs_str F.slot_str_join F.type_str_join (fD (K:=K) rfl) aF (@aA _ _ _ _ _ (@aU _ _ _ _ _ _ _ _ gX (@aZ _ _ _ _ (@aA _ _ _ _ _ (pv 5) (@aE _) bP)) (@eM _ _ _ _ _ _ _ _ _ _ (tH (K:=K) rfl) (pv 4) (@eQ _ _ _ aS) gL)) (@aE _) gF)) (@aA _ _ _ _ _ aF (@aE _) aL) nN))))) bA)
   (@aJ _ _ _ _ _ (@bV _ _ _ _ _ _ _ _ (@aX _ _ _ _ _ _ _ _ cZ (pv 3) aS (bK _)) (@aJ _ _ _ _ _ (lJ (dQ (aBu T) hr T.F_qx1 bF (@aA _ _ _ _ _ (pv 4) (@aA _ _ _ _ _ (pv 1) (@aE _) bP) bP)) (Al (K:=K) (n:=2) rfl rfl (bX (pM 4 sc_qz1) (bX (pM 6 sc_qz1) eZ))))
   (@aM _ _ _ (@aY _ _ _ _ (@aZ _ _ _ _ (@aA _ _ _ _ _ (fZ F.plainAttrs_str F.slot_str_join F.type_str_join (fD (K:=K) rfl) aF (@aA _ _ _ _ _ (pv 4) (@aE _) bP)) (@aA _ _ _ _ _ (pv 6) (@aE _) bP) nN))))) bA)
   (@aJ _ _ _ _ _ (@bV _ _ _ _ _ _ _ _ (@aX _ _ _ _ _ _ _ _ mG (pv 3) aS (bK _)) (@aJ _ _ _ _ _ (lJ (dQ (aBv T) hr T.F_qw1 bF (@aA _ _ _ _ _ (pv 4) (@aA _ _ _ _ _ (pv 1) (@aE _) bP) bP)) (Al (K:=K) (n:=2) rfl rfl (bX (pM 4 sc_qz1) (bX (pM 6 sc_qz1) eZ))))
   (@aM _ _ _ (@aY _ _ _ _ (@aZ _ _ _ _ (@aA _ _ _ _ _ (fZ F.plainAttrs_str F.slot_str_join F.type_str_join (fD (K:=K) rfl) aF (@aA _ _ _ _ _ (pv 4) (@aE _) bP)) (@aA _ _ _ _ _ (pv 6) (@aE _) bP) nN))))) bA)
   (@aJ _ _ _ _ _ (lJ (dQ (aBt T) hr T.F_qy1 bF (@aA _ _ _ _ _ (pv 0) (@aA _ _ _ _ _ (pv 1) (@aA _ _ _ _ _ (pv 2) (@aE _) bP) bP) bP)) (Al (K:=K) (n:=2) rfl rfl (bX (pM 4 sc_qz1) (bX (pM 6 sc_qz1) eZ))))
   (@aM _ _ _ (@aY _ _ _ _ (@aZ _ _ _ _ (@aA _ _ _ _ _ (fZ F.plainAttrs_str F.slot_str_join F.type_str_join (fD (K:=K) rfl) aF (@aA _ _ _ _ _ (pv 4) (@aE _) bP)) (@aA _ _ _ _ _ (pv 6) (@aE _) bP) nN))))))))))))),_,(cO (bO (cV (k:=8) (by decide) (aG 1) aP) (aO 3))
   (cO (bO (iN (k:=8) (sU (by decide +kernel)) (aG 1) aP) (aO 1))
   (cO (jI (aH (aG 1) (aH (aG 0) (aH (aG 2) aN))) (aO 4))
   (cO (bO (iN (k:=8) (sU (by decide +kernel)) (aG 1) aP) (aO 1))
   (aR (cD (bB (aB (aQ cY (aG 3) (aB aP)))) (bG (gZ (cU (aB (cB (gA (bH (aC aEa (aC aP (aC (bY (bH (aC aI (aC aI aW)) (by decide))) (aC (fN (aC aI aW) (by decide)) (aC kP (aC Va aW)))))) (by decide))) (aB (cV (k:=6) (by decide) (aG 1) aP)))) (cU (aB aI) hG)) (by decide))) bL)
   (aR (cD (bB (aB (aQ cY (aG 3) (aB aP)))) (cO (bO (cB (gA (bH (aC aI (aC aI (aC aI (aC aI (aC aI (aC aI (aC aI (aC aI (aC aI (aC aI aW)))))))))) (by decide))) (aB (cV (k:=10) (by decide) (aG 1) aP))) (aO 5))
   (bG (gZ (cU (aB (gN (aB aI) (gA (gW (fU (bH (aC (aV 5) aW) (by decide))) (fU (mE (bN 4) (eR (aB aP)) mF)))))) (cU (aB aI) hG)) (by decide)))) bL)
   (aR (cD (bB (aB (aQ cY (aG 3) (aB aP)))) (cO (jI (aH (aG 4) (aH (aG 1) aN)) (mZ (cH (aO 4) (cH (aO 6) gI))))
   (bG (gZ (cU (aB (gN (aB aI) (bN 4))) (cU (aG 6) hG)) (by decide)))) bL)
   (aR (cD (bB (aB (aQ fX (aG 3) (aB aP)))) (cO (jI (aH (aG 4) (aH (aG 1) aN)) (mZ (cH (aO 4) (cH (aO 6) gI))))
   (bG (gZ (cU (aB (gN (aB aI) (bN 4))) (cU (aG 6) hG)) (by decide)))) bL)
   (cO (jI (aH (aG 0) (aH (aG 1) (aH (aG 2) aN))) (mZ (cH (aO 4) (cH (aO 6) gI))))
   (bG (gZ (cU (aB (gN (aB aI) (bN 4))) (cU (aG 6) hG)) (by decide)))))))))))),?_⟩
 rintro ds Q X ⟨p,r,kv,nm,n,rfl,n0,n1,En,kq⟩;obtain ⟨nl,hnl⟩:∃ nl,PyData.list ((mU p r 4).map .str) = nl:=⟨_,rfl⟩;rw [hnl];refine cT (fun δ=>δ = [some (.dat nl),some (.dat (.int n)),some (.dat (.str nm)),some (.dat (.int (n % 8))),none,none,none]) ?_ ?_
 ·walk_at "d"
 rintro δ rfl;refine cT (fun δ=>δ = [some (.dat nl),some (.dat (.int (n / 8))),some (.dat (.str nm)),some (.dat (.int (n % 8))),none,none,none]) ?_ ?_
 ·walk_at "d"
 rintro δ rfl;refine cT (fun δ=>∃ ws∈forms (cJ p r 97) (cJ p r 98) (cJ p r 99) nm,δ = [some (.dat nl),some (.dat (.int (n / 8))),some (.dat (.str nm)),some (.dat (.int (n % 8))),some (.dat (iP ws)),none,none]) ?_ ?_
 ·walk_at "d";refine ⟨_,p,r,nm,by rw [hnl],fun ws hws=>?_⟩;walk_at "d";exact ⟨ws,hws,rfl⟩
 rintro δ ⟨ws,hws,rfl⟩;obtain ⟨w0,args,rfl⟩:∃ w0 args,ws = w0 :: args:=by
  simp only [forms,mem_cons,not_mem_nil,or_false] at hws;rcases hws with rfl | rfl | rfl | rfl | rfl | rfl | rfl | rfl <;> exact ⟨_,_,rfl⟩
 have F:=Ea En hws;have w0o:PyData.strOk w0 = true:=by
  simp only [forms,mem_cons,List.cons.injEq,not_mem_nil,or_false] at hws;rcases hws with ⟨rfl,_⟩ | ⟨rfl,_⟩ | ⟨rfl,_⟩ | ⟨rfl,_⟩ | ⟨rfl,_⟩ | ⟨rfl,_⟩ | ⟨rfl,_⟩ | ⟨rfl,_⟩ <;> decide +kernel
 obtain ⟨N,hN⟩:∃ N:Int,n / 8 / 8 = N:=⟨_,rfl⟩;have N0:0<=N:=by omega
 have N1:N<=10 ^ 10:=by omega
 refine cT (fun δ=>δ = [some (.dat nl),some (.dat (.int N)),some (.dat (.str nm)),some (.dat (.int (n % 8))),some (.dat (iP (w0 :: args))),none,none]) ?_ ?_
 ·rw [<- hN]; walk_at "d"
 rintro δ rfl;walk_at "s";refine bS (fun c=>?_) (fun c=>?_)
 ·obtain ⟨d,hd,ad⟩:=aFc (l:=[.none,.int 5,.list [.str (Str.ofString "show"),.str (Str.ofString "a")],.tuple [.str (Str.ofString "names")],.bool true,.dict []]) (i:=N % 6) (by omega) (show N % 6 < 6 by omega);refine ⟨d,ad,kq _ _ 0 (fun C R ex hC hx=>.inl ⟨d,rfl,fun x e=>?_,by cases hC; exact hx⟩) rfl⟩;subst e;simp at hd
 walk_at "s";refine bS (fun c=>?_) (fun c=>?_)
 ·obtain ⟨x,hx,ax⟩:=rB (ws:=Oi) (i:=N % 10) (by omega) (show N % 10 < 10 by omega);obtain ⟨xw,xl⟩:=Oh hx;refine cT (fun δ=>δ = [some (.dat nl),some (.dat (.int N)),some (.dat (.str nm)),some (.dat (.int (n % 8))),some (.dat (iP (w0 :: args))),some (.dat (.str x)),none]) ?_ ?_
  ·walk_at "d";exact ⟨_,ax,rfl⟩
  rintro δ rfl;have l5:=F.l5;have hrf:Rf A kv (.str (jn (x :: args))) 0:=jN (by simp) (eE xw fun z hz=>(F.wd z hz).1) (by simp; omega) (rW fun lo hi e=>by rw [xl] at e; cases e);have e1:lU (List.map PyData.str (w0 :: args)) (some 1) none = args.map .str:=by
   rw [show (1:Int) = ((1:Nat):Int) from rfl,wS]; rfl
  unfold iP;walk_at "d";rw [e1];exact ⟨by rw [length_map]; omega,x :: args,rfl,vR (y:=Str.ofString "NoRow") rfl hrf,kq _ _ 0 hrf rfl⟩
 walk_at "s";refine bS (fun c=>?_) (fun c=>?_)
 ·refine cT (fun δ=>∃ (ws':List Str) (y:Str) (j:Nat),δ = [some (.dat nl),some (.dat (.int N)),some (.dat (.str nm)),some (.dat (.int (n % 8))),some (.dat (iP ws')),none,some (.dat (.str y))]/\oW[j]? = some y/\Rf A kv (.str (jn ws')) j) ?_ ?_
  ·walk_at "d";refine ⟨w0,args,N,rfl,F.l5,w0o,fun ws' y hc=>⟨rfl,?_⟩⟩;obtain ⟨j,hj,hrf⟩:=Aj (A:=A) En hws hc;exact ⟨ws',y,j,rfl,hj,hrf⟩
  rintro δ ⟨ws',y,j,rfl,hy,hrf⟩;unfold iP;walk_at "d";exact ⟨ws',rfl,vR hy hrf,kq _ _ j hrf hy⟩
 walk_at "s";refine bS (fun c=>?_) (fun c=>?_)
 ·refine cT (fun δ=>∃ (ws':List Str) (y:Str) (j:Nat),δ = [some (.dat nl),some (.dat (.int N)),some (.dat (.str nm)),some (.dat (.int (n % 8))),some (.dat (iP ws')),none,some (.dat (.str y))]/\oW[j]? = some y/\Rf A kv (.str (jn ws')) j) ?_ ?_
  ·walk_at "d";refine ⟨w0,args,N,rfl,N0,F,fun ek=>⟨rfl,?_⟩,fun ek at_ c args' hc S=>⟨rfl,?_⟩⟩
   ·have:w0 = Str.ofString "names"/\args = []:=by
     simp only [forms,mem_cons,List.cons.injEq,not_mem_nil,or_false] at hws;rcases hws with ⟨rfl,rfl⟩ | ⟨rfl,rfl⟩ | ⟨rfl,rfl⟩ | ⟨rfl,rfl⟩ | ⟨rfl,rfl⟩ | ⟨rfl,rfl⟩ | ⟨rfl,rfl⟩ | ⟨rfl,rfl⟩
     iterate 7 exact absurd ek (by decide +kernel)
     exact ⟨rfl,rfl⟩
    obtain ⟨rfl,rfl⟩:=this;exact ⟨_,_,0,rfl,rfl,jN (ws:=[Str.ofString "names",Str.ofString "a"]) (by simp) (eE (fI (by decide +kernel)).1 (eE (fI (by decide +kernel)).1 fun w hw=>nomatch hw)) (by simp) (eB (lo:=1) (hi:=1) (by decide +kernel) (by simp))⟩
   ·exact ⟨_,_,jK c,rfl,aEe c,Fv En hws hc S⟩
  rintro δ ⟨ws',y,j,rfl,hy,hrf⟩;unfold iP;walk_at "d";exact ⟨ws',rfl,vR hy hrf,kq _ _ j hrf hy⟩
 refine cT (fun δ=>∃ (ws':List Str) (y:Str) (j:Nat),δ = [some (.dat nl),some (.dat (.int N)),some (.dat (.str nm)),some (.dat (.int (n % 8))),some (.dat (iP ws')),none,some (.dat (.str y))]/\oW[j]? = some y/\Rf A kv (.str (jn ws')) j) ?_ ?_
 ·walk_at "d";refine ⟨p,r,nm,N,by rw [hnl],N0,N1,fun i ws' y hi hy=>⟨rfl,?_⟩⟩;obtain ⟨j,hj,hrf⟩:=Te (A:=A) En N0 N1 hi hy;exact ⟨ws',y,j,rfl,hj,hrf⟩
 rintro δ ⟨ws',y,j,rfl,hy,hrf⟩;unfold iP;walk_at "d";exact ⟨ws',rfl,vR hy hrf,kq _ _ j hrf hy⟩
theorem Yu {a b ab:Str} {ws:List Str} (e:ab.cps.toList = a.cps.toList ++ [32] ++ (b.cps.toList ++ [32])) (h:ws ≠ []):ab ++ Txt.join (Str.ofString " ") ws = Txt.join (Str.ofString " ") (a :: b :: ws):=by
 apply eG;cases ws with
 | nil=>exact absurd rfl h
 | cons w r =>
  rw [cF,iE,iE,gJ,e];simp only [map_cons,gS,append_assoc]
theorem aMr {a:String} {b nm:Str} (e:(Str.ofString a).cps.toList = b.cps.toList ++ [32]):(Str.ofString a ++ nm ++ Str.ofString " ").cps.toList = b.cps.toList ++ [32] ++ (nm.cps.toList ++ [32]):=by
 rw [cF,cF,gJ,e];simp only [append_assoc]
theorem Uj {a:String} {b nm:Str} (e:(Str.ofString a).cps.toList = b.cps.toList ++ [32]):Str.ofString a ++ nm = jn [b,nm]:=by
 apply eG;rw [cF,iE,gJ,e];simp only [map_cons,map_nil,gS];rfl
theorem vG {a:String} {b nm y:Str} {rest:List Str} (e:(Str.ofString a).cps.toList = b.cps.toList ++ [32]) (ey:y.cps.toList = 32 :: lS [32] (rest.map fun w=>w.cps.toList)) (h:rest ≠ []):Str.ofString a ++ nm ++ y = jn (b :: nm :: rest):=by
 apply eG;cases rest with
 | nil=>exact absurd rfl h
 | cons w r =>
  rw [cF,cF,iE,gJ,e,ey];simp only [map_cons,gS,append_assoc];rfl
theorem qC (a b c:Str):a ++ b ++ c = a ++ (b ++ c):=by
 apply eG;rw [cF,cF,cF,cF,append_assoc]
theorem Dr:(Str.ofString "marks ").cps.toList = (Str.ofString "marks").cps.toList ++ [32]:=by decide +kernel
theorem Ur:(Str.ofString "judge ").cps.toList = (Str.ofString "judge").cps.toList ++ [32]:=by decide +kernel
theorem aEg:(Str.ofString "drop ").cps.toList = (Str.ofString "drop").cps.toList ++ [32]:=by decide +kernel
theorem Ad:(Str.ofString "show ").cps.toList = (Str.ofString "show").cps.toList ++ [32]:=by decide +kernel
theorem aBb:(Str.ofString "rise ").cps.toList = (Str.ofString "rise").cps.toList ++ [32]:=by decide +kernel
theorem Sm:(Str.ofString "steps ").cps.toList = (Str.ofString "steps").cps.toList ++ [32]:=by decide +kernel
theorem aJd:(Str.ofString " far").cps.toList = 32 :: lS [32] ([Str.ofString "far"].map fun w=>w.cps.toList):=by decide +kernel
theorem Zd:(Str.ofString " square 59").cps.toList = 32 :: lS [32] ([Str.ofString "square",Str.ofString "59"].map fun w=>w.cps.toList):=by decide +kernel
theorem Td (nm:Str):Str.ofString "rise " ++ nm ++ Str.ofString " far" = jn [Str.ofString "rise",nm,Str.ofString "far"]:=vG aBb aJd (by simp)
theorem Jm (nm:Str):Str.ofString "steps " ++ nm ++ Str.ofString " square 59" = jn [Str.ofString "steps",nm,Str.ofString "square",Str.ofString "59"]:=vG Sm Zd (by simp)
theorem yX (nm:Str) {ws:List Str} (h:ws ≠ []):Str.ofString "marks " ++ nm ++ Str.ofString " " ++ Txt.join (Str.ofString " ") ws = jn (Str.ofString "marks" :: nm :: ws):=Yu (aMr Dr) h
def Rm (d:Int):List Mk:=[(divInt 0 1,divInt d 1,1),(divInt 1 1,divInt 2 1,3),(divInt 2 1,divInt 1 2,1)]
def ms1:List Mk:=[(divInt (-1) 1,divInt 0 1,2),(divInt 5 1,divInt 7 1,1)]
def Rl (d:Int):List Mk:=[(divInt 0 1,divInt 1 1,1),(divInt 1 3,divInt d 1,4)]
def mT (d:Int):Mk:=(divInt 1 1,divInt d 1,1)
theorem Tz {d:Int} (h0:0<=d) (h1:d < 9):d = 0\/d = 1\/d = 2\/d = 3\/d = 4\/d = 5\/d = 6\/d = 7\/d = 8:=by omega
theorem tx0 {d:Int} (h0:0<=d) (h1:d < 9):Str.ofString "0:" ++ Str.ofString (toString d) ++ Str.ofString "*1 1:2*3 2:1/2*1" = mS (Rm d):=by
 rcases Tz h0 h1 with rfl | rfl | rfl | rfl | rfl | rfl | rfl | rfl | rfl <;> decide +kernel
theorem tx1:Str.ofString "-1:0*2 5:7*1" = mS ms1:=by decide +kernel
theorem tx2 {d:Int} (h0:0<=d) (h1:d < 9):Str.ofString "0:1*1 1/3:" ++ Str.ofString (toString d) ++ Str.ofString "*4" = mS (Rl d):=by
 rcases Tz h0 h1 with rfl | rfl | rfl | rfl | rfl | rfl | rfl | rfl | rfl <;> decide +kernel
theorem aGo {d:Int} (h0:0<=d) (h1:d < 9):(Str.ofString " 1:" ++ Str.ofString (toString d) ++ Str.ofString "*1").cps.toList = 32 :: lS [32] ([jM (mT d)].map fun w=>w.cps.toList):=by
 rcases Tz h0 h1 with rfl | rfl | rfl | rfl | rfl | rfl | rfl | rfl | rfl <;> decide +kernel
theorem txT {d:Int} (nm:Str) (h0:0<=d) (h1:d < 9):Str.ofString "marks " ++ nm ++ Str.ofString " 1:" ++ Str.ofString (toString d) ++ Str.ofString "*1" = jn (Str.ofString "marks" :: nm :: [mT d].map jM):=by
 rw [qC _ (Str.ofString " 1:") _,qC _ _ (Str.ofString "*1")];exact vG Dr (aGo h0 h1) (by simp)
theorem aGu {d:Int} (h0:0<=d) (h1:d < 9):Str.ofString "0 | " ++ Str.ofString (toString d) = shP [[0],[(mT d).2.1]]:=by
 rcases Tz h0 h1 with rfl | rfl | rfl | rfl | rfl | rfl | rfl | rfl | rfl <;> decide +kernel
structure MsOk (ms:List Mk):Prop where
 ne:ms ≠ []
 l:ms.length<=60
 g:∀ m∈ms,Gd m
 up:Up ms
theorem up3 {a b c:Rat} {x y z:Rat × Int} (h:a < b/\a < c/\b < c):Up [(a,x),(b,y),(c,z)]:=by
 unfold Up;simp only [pairwise_cons,mem_cons,not_mem_nil,or_false];refine ⟨fun q hq=>?_,fun q hq=>?_,(fun q hq=>nomatch hq),.nil⟩
 ·rcases hq with rfl | rfl
  ·exact h.1
  ·exact h.2.1
 ·rw [hq]; exact h.2.2
theorem up2 {a b:Rat} {x y:Rat × Int} (h:a < b):Up [(a,x),(b,y)]:=by
 unfold Up;simp only [pairwise_cons,mem_cons,not_mem_nil,or_false];exact ⟨fun q hq=>by rw [hq]; exact h,(fun q hq=>nomatch hq),.nil⟩
theorem aMd {d:Int} (h0:0<=d) (h1:d < 9):MsOk (Rm d):=⟨by simp [Rm],by simp [Rm],fun m hm=>by
 simp only [Rm,mem_cons,not_mem_nil,or_false] at hm
 rcases hm with rfl | rfl | rfl
 ·exact jB (by decide) ⟨by decide,by omega⟩ (by decide)
 ·exact jB (by decide) (by decide) (by decide)
 ·exact jB (by decide) (by decide) (by decide),up3 (by decide +kernel)⟩
theorem aMc:MsOk ms1:=⟨by simp [ms1],by simp [ms1],fun m hm=>by
 simp only [ms1,mem_cons,not_mem_nil,or_false] at hm
 rcases hm with rfl | rfl
 ·exact jB (by decide) (by decide) (by decide)
 ·exact jB (by decide) (by decide) (by decide),up2 (by decide +kernel)⟩
theorem aMb {d:Int} (h0:0<=d) (h1:d < 9):MsOk (Rl d):=⟨by simp [Rl],by simp [Rl],fun m hm=>by
 simp only [Rl,mem_cons,not_mem_nil,or_false] at hm
 rcases hm with rfl | rfl
 ·exact jB (by decide) (by decide) (by decide)
 ·exact jB (by decide) ⟨by decide,by omega⟩ (by decide),up2 (by decide +kernel)⟩
theorem aIy {d:Int} (h0:0<=d) (h1:d < 9):Gd (mT d):=jB (by decide) ⟨by decide,by omega⟩ (by decide)
theorem aMa {d:Int} (h0:0<=d) (h1:d < 9):MsOk [mT d]:=⟨by simp,by simp,fun m hm=>by rw [mem_singleton.mp hm]; exact aIy h0 h1,pairwise_singleton _ _⟩
def m60 (k:Nat):Mk:=(divInt k 1,divInt 2 1,1)
def ms60:List Mk:=(range 60).map fun k=>m60 (59 - k)
def up60:List Mk:=(range 60).map m60
theorem Ip:up60 = ms60.reverse:=by decide +kernel
theorem Sb:Up up60:=by unfold Up; decide +kernel
theorem aLv:((range 60).map fun k:Nat=>Str.ofString (toString (59 - (0 + (k:Int) * 1))) ++ Str.ofString ":2*1") = ms60.map jM:=by decide +kernel
theorem aIz (k:Nat) (h:k<=60):Gd (m60 k):=jB ⟨by decide,by omega⟩ (by decide) (by decide)
theorem Uw:∀ m∈up60,Gd m:=fun m hm=>by
 obtain ⟨k,hk,rfl⟩:=mem_map.mp hm;exact aIz k (by have:=mem_range.mp hk; omega)
theorem Dz:∀ m∈ms60,Gd m:=fun m hm=>by
 obtain ⟨k,hk,rfl⟩:=mem_map.mp hm;exact aIz _ (by have:=mem_range.mp hk; omega)
def row60:List Rat:=replicate 60 (divInt 2 1)
theorem aJe:Ae (mB (Str.ofString "far") up60 row60) = Str.ofString "0":=by decide +kernel
theorem row60_sh:row60.map Ae = replicate 60 (Str.ofString "2"):=by decide +kernel
def Sd (A:Adr) (kv:dU) (x:Str) (kv':dU) (t:Str):Prop:=∀ (R:RG) (ex:DX),R kv' (.str t)->aDe A kv [.str x] R ex
def Hw (w:Str):Prop:=w.length<=1000/\32 ∉ w.cps.toList
theorem Wd.m {w:Str} (h:Wd w):Hw w:=⟨by have:=h.l; omega,h.n⟩
theorem mH {w:Str} (h:(decide (w.length<=60) && !decide (32∈w.cps.toList) && PyData.strOk w) = true):Hw w:=(fI h).1.m
theorem aIx {m:Mk} (h:Gd m):Hw (jM m):=⟨by have:=nM h; omega,Sw h⟩
section
variable {A:Adr} {kv kv':dU} {t nm:Str}
theorem tY {ws:List Str} (hne:ws ≠ []) (hw:∀ w∈ws,Hw w) (hl:ws.length<=80) (h:∀ (R:RG) (ex:DX),R kv' (.str t)->Zz A kv ws R ex):Sd A kv (jn ws) kv' t:=fun R ex hR=>by
 refine .inr ⟨_,ws,rfl,?_,xH hne fun w hw2=>(hw w hw2).2,h R ex hR⟩;have:=oJ (Str.ofString " ") (ws:=ws) (n:=1000) fun w hw2=>(hw w hw2).1;rw [dR] at this;have h2:ws.length * (1000 + 1)<=80 * (1000 + 1):=mul_le_mul_right _ hl;show (Txt.join (Str.ofString " ") ws).length<=90000;omega
theorem aGn {res ms:List Mk} (pm:res.Perm ms) (up:Up res):(ms.map (·.1)).Nodup :=
 (Perm.nodup_iff (pm.map _)).mp (pairwise_map.mpr (up.imp fun {a b} l e=>by rw [e] at l; exact absurd l Rat.lt_irrefl))
theorem rL {ms res:List Mk} (wn:Hw nm) (hn:fA nm = true) (ne:ms ≠ []) (l:ms.length<=60) (g:∀ m∈ms,Gd m) (pm:res.Perm ms) (up:Up res) (kl:kv.length < 1000):Sd A kv (jn (Str.ofString "marks" :: nm :: ms.map jM)) (putP kv nm (.list (res.map eF))) (Str.ofString "ok"):=by
 have l1:1<=ms.length:=by
  cases ms with
  | nil=>exact absurd rfl ne
  | cons a r=>simp
 refine tY (by simp) (eE (mH (by decide +kernel)) (eE wn fun w hw=>?_)) (by simp; omega) fun R ex hR=>.inr ⟨sL (by rw [length_map]; omega) (by rw [length_map]; omega),.inl ⟨nm,_,rfl,nm,_,rfl,by have:=wn.1; omega,by rw [length_map]; exact l,fun w hw=>?_,.inr (.inr ⟨ms,rfl,hn,ne,g,kl,fun z=>absurd (aGn pm up) z,fun _ r2 p2 u2=>by rw [Vx u2 up (p2.trans pm.symm)]; exact hR⟩)⟩⟩
 ·obtain ⟨m,hm,rfl⟩:=mem_map.mp hw;exact aIx (g m hm)
 ·obtain ⟨m,hm,rfl⟩:=mem_map.mp hw;exact (aIx (g m hm)).1
theorem Cj {ms:List Mk} (wn:Hw nm) (hl:kv.lookup nm = some (.list (ms.map eF))) (l:ms.length<=60) (g:∀ m∈ms,Gd m):Sd A kv (jn [Str.ofString "show",nm]) kv (mS ms) :=
 tY (by simp) (eE (mH (by decide +kernel)) (eE wn fun w hw=>nomatch hw)) (by simp) fun R ex hR=>.inr ⟨⟨_,_,2,2,rfl,by decide +kernel,by simp,by simp⟩,.inr (.inr (.inr (.inl ⟨nm,rfl,(fun z=>by rw [hl] at z; cases z),fun d hd=>by rw [hl] at hd; cases hd; exact ⟨ms,rfl,l,g,hR⟩⟩)))⟩
theorem Tb (wn:Hw nm) (hl:(kv.lookup nm).isSome = true):Sd A kv (jn [Str.ofString "drop",nm]) (dropP kv nm) (Str.ofString "ok") :=
 tY (by simp) (eE (mH (by decide +kernel)) (eE wn fun w hw=>nomatch hw)) (by simp) fun R ex hR=>.inr ⟨⟨_,_,2,2,rfl,by decide +kernel,by simp,by simp⟩,.inr (.inr (.inl ⟨nm,rfl,(fun z=>by rw [z] at hl; cases hl),fun _=>hR⟩))⟩
theorem Jy {m:Mk} (wn:Hw nm) (hl:kv.lookup nm = some (.list [eF m])) (o:One m):Sd A kv (jn [Str.ofString "steps",nm,Str.ofString "square",Str.ofString "59"]) kv (shP [[0],[m.2.1]]) :=
 tY (by simp) (eE (mH (by decide +kernel)) (eE wn (eE (mH (by decide +kernel)) (eE (mH (by decide +kernel)) fun w hw=>nomatch hw)))) (by simp) fun R ex hR=>.inr ⟨⟨_,_,4,4,rfl,by decide +kernel,by simp,by simp⟩,.inr (.inr (.inr (.inr ⟨_,nm,_,_,rfl,.inr (.inr (.inl rfl)),by decide +kernel,(fun z=>by rw [hl] at z; cases z),fun d hd=>by
  rw [hl] at hd; cases hd
  exact ⟨[m],rfl,.inr ⟨jZ,.inr (.inl ⟨_,rfl,rfl,by decide +kernel,.inr (.inr ⟨by decide +kernel,rfl,m,rfl,o,rfl,hR⟩)⟩)⟩⟩⟩)))⟩
theorem Ka (wn:Hw nm) (hl:kv.lookup nm = some (.list (up60.map eF))):Sd A kv (jn (Str.ofString "judge" :: nm :: Str.ofString "far" :: replicate 60 (Str.ofString "2"))) kv (Str.ofString "0"):=by
 have w2:Hw (Str.ofString "2"):=mH (by decide +kernel);have l60:up60.length = 60:=by simp [up60]
 refine tY (by simp) (eE (mH (by decide +kernel)) (eE wn (eE (mH (by decide +kernel)) fun w hw=>by rw [eq_of_mem_replicate hw]; exact w2))) (by simp) fun R ex hR=>.inr ⟨⟨_,_,4,63,rfl,by decide +kernel,by simp,by simp⟩,.inr (.inr (.inr (.inr ⟨_,nm,_,_,rfl,.inr (.inr (.inr rfl)),by decide +kernel,(fun z=>by rw [hl] at z; cases z),fun d hd=>?_⟩)))⟩;rw [hl] at hd; cases hd;refine ⟨up60,rfl,.inr ⟨by simp [dZ],.inr (.inr ⟨rfl,_,up60,_,rfl,by simp [dZ],by simp,by omega,(fun w hw=>by rw [eq_of_mem_replicate hw]; exact w2.1),.inr (.inr ⟨⟨by omega,by omega,Uw⟩,row60,row60_sh.symm,by rw [l60]; rfl,fun q hq=>by rw [eq_of_mem_replicate hq]; exact Mc (by decide) (by decide) (by decide),?_⟩)⟩)⟩⟩;rw [aJe];exact ⟨rfl,rfl,hR⟩
end
theorem uA:∀ (l:List Str) (p:Str),risingS p l = true->(p :: l).Pairwise fun a b=>a.cps.toList<=b.cps.toList
 | [],p,_=>pairwise_singleton _ _
 | x :: r,p,h=>by
  have h2:(!ltCps x.cps.toList p.cps.toList && risingS x r) = true:=h;simp only [and_eq_true,not_eq_true',ltCps_eq,decide_eq_false_iff_not] at h2;have ih:=uA r x h2.2;have px:p.cps.toList<=x.cps.toList:=List.not_lt.mp h2.1;refine pairwise_cons.mpr ⟨fun y hy=>?_,ih⟩;rcases mem_cons.mp hy with rfl | hy
  ·exact px
  ·exact List.le_trans px ((pairwise_cons.mp ih).1 y hy)
theorem tX {l:List Str} (h:sortedS l = true):l.Pairwise fun a b=>a.cps.toList<=b.cps.toList:=by
 cases l with
 | nil=>exact .nil
 | cons x r=>exact uA r x h
theorem Wk:∀ {a b:List Str},a.Pairwise (fun a b=>a.cps.toList<=b.cps.toList)->b.Pairwise (fun a b=>a.cps.toList<=b.cps.toList)->a.Perm b->a = b
 | [],b,_,_,h=>by rw [List.nil_perm.mp h]
 | x :: a,[],_,_,h=>absurd h.length_eq (by simp)
 | x :: a,y :: b,ha,hb,h=>by
  have h1:=pairwise_cons.mp ha;have h2:=pairwise_cons.mp hb;have e:x = y:=by
   have m1:x∈y :: b:=h.mem_iff.mp mem_cons_self;have m2:y∈x :: a:=h.mem_iff.mpr mem_cons_self;rcases mem_cons.mp m1 with z | z
   ·exact z
   ·rcases mem_cons.mp m2 with z2 | z2
    ·exact z2.symm
    ·exact eG (List.le_antisymm (h1.1 y z2) (h2.1 x z))
  subst e;rw [Wk h1.2 h2.2 (List.perm_cons x |>.mp h)]
theorem Fr {a b ks:List Str} (ha:sortedS a = true) (hb:sortedS b = true) (pa:a.Perm ks) (pb:b.Perm ks):a = b:=Wk (tX ha) (tX hb) (pa.trans pb.symm)
def msT (d e:Int):List (List Mk):=[Rm d,ms1,Rl e]
def yR (p r:Nat):List Str:=[cJ p r 97,cJ p r 98,cJ p r 99]
def jF (p r:Nat) (d e:Int):dU:=[(cJ p r 97,.list ((Rm d).map eF)),(cJ p r 98,.list (ms1.map eF)),(cJ p r 99,.list ((Rl e).map eF))]
theorem gR {p r c c':Nat} (h:c ≠ c'):cJ p r c ≠ cJ p r c':=fun z=>h (aCu z)
section
variable {p r:Nat} {d e:Int} {A:Adr}
theorem iK {w x:Str} {v:PyData} {kv:dU} (h:w ≠ x):List.lookup w ((x,v) :: kv) = List.lookup w kv:=by
 rw [lookup_cons,show (w == x) = false from beq_eq_false_iff_ne.mpr h]
theorem lO {x:Str} {v:PyData} {kv:dU}:List.lookup x ((x,v) :: kv) = some v:=by
 rw [lookup_cons,show (x == x) = true from beq_self_eq_true x]
theorem zB {w:Str} (h:∀ c,97<=c->c<=99->w ≠ cJ p r c):(jF p r d e).lookup w = none:=by
 unfold jF;rw [iK (h 97 (by decide) (by decide)),iK (h 98 (by decide) (by decide)),iK (h 99 (by decide) (by decide))];rfl
theorem Ws (hp:p + r<=6) (d0:0<=d) (d1:d < 9) (e0:0<=e) (e1:e < 9) {i:Nat} (hi:i < 3):∃ nm ms,(yR p r)[i]? = some nm/\((msT d e).map mS)[i]? = some (mS ms)/\fA nm = true/\Hw nm/\nm.length<=8/\MsOk ms/\putP ((jF p r d e).take i) nm (.list (ms.map eF)) = (jF p r d e).take (i + 1)/\((jF p r d e).take (i + 1)).lookup nm = some (.list (ms.map eF))/\(jF p r d e).lookup nm = some (.list (ms.map eF)):=by
 have nb:cJ p r 98 ≠ cJ p r 97:=gR (by decide);have nc:cJ p r 99 ≠ cJ p r 97:=gR (by decide);have nc2:cJ p r 99 ≠ cJ p r 98:=gR (by decide);have ln:∀ c,(cJ p r c).length<=8:=fun c=>by rw [lM]; omega
 match i,hi with
 | 0,_=>exact ⟨_,Rm d,rfl,rfl,yS hp (by decide) (by decide),(jR hp (by decide) (by decide)).1.m,ln _,aMd d0 d1,rfl,lO,lO⟩
 | 1,_ =>
  refine ⟨_,ms1,rfl,rfl,yS hp (by decide) (by decide),(jR hp (by decide) (by decide)).1.m,ln _,aMc,?_,?_,?_⟩
  ·show putP [(cJ p r 97,_)] (cJ p r 98) _ = [(cJ p r 97,_),(cJ p r 98,_)];unfold putP;rw [if_neg (by simp only [any_cons,any_nil,Bool.or_false,decide_eq_true_eq]; exact fun z=>nb z.symm)];rfl
  ·show List.lookup (cJ p r 98) [(cJ p r 97,_),(cJ p r 98,_)] = _;rw [iK nb,lO]
  ·unfold jF; rw [iK nb,lO]
 | 2,_ =>
  refine ⟨_,Rl e,rfl,rfl,yS hp (by decide) (by decide),(jR hp (by decide) (by decide)).1.m,ln _,aMb e0 e1,?_,?_,?_⟩
  ·show putP [(cJ p r 97,_),(cJ p r 98,_)] (cJ p r 99) _ = [(cJ p r 97,_),(cJ p r 98,_),(cJ p r 99,_)];unfold putP;rw [if_neg (by simp only [any_cons,any_nil,Bool.or_false,or_eq_true,decide_eq_true_eq]; rintro (z | z); exact nc z.symm; exact nc2 z.symm)];rfl
  ·show List.lookup (cJ p r 99) [(cJ p r 97,_),(cJ p r 98,_),(cJ p r 99,_)] = _;rw [iK nc,iK nc2,lO]
  ·unfold jF; rw [iK nc,iK nc2,lO]
theorem aDg (hp:p + r<=6):Kv p r (jF p r d e):=by
 have nb:cJ p r 98 ≠ cJ p r 97:=gR (by decide);have nc:cJ p r 99 ≠ cJ p r 97:=gR (by decide);have nc2:cJ p r 99 ≠ cJ p r 98:=gR (by decide);exact ⟨⟨_,lO⟩,⟨ms1,by unfold jF; rw [iK nb,lO]⟩,⟨Rl e,by unfold jF; rw [iK nc,iK nc2,lO],rfl⟩,⟨Rm d,lO,rfl⟩,fun w hw=>zB fun c h1 h2=>aIl hw hp h1 (by omega),by simp [jF]⟩
theorem Um (hp:p + r<=6) {c:Nat} (h1:97<=c) (h2:c<=100):Env p r (jF p r d e) (cJ p r c):=⟨hp,aDg hp,yS hp h1 (by omega),jR hp h1 (by omega)⟩
theorem Yv (x:Str):jn [x] = x:=by
 apply eG;rw [iE]; rfl
theorem Jz (hp:p + r<=6):Sd A (jF p r d e) (Str.ofString "names") (jF p r d e) (jn (yR p r)):=by
 have key:Sd A (jF p r d e) (jn [Str.ofString "names"]) (jF p r d e) (jn (yR p r)):=by
  refine tY (by simp) (fun w hw=>by rw [mem_singleton.mp hw]; exact mH (by decide +kernel)) (by simp) fun R ex hR=>.inr ⟨⟨_,_,1,1,rfl,by decide +kernel,by simp,by simp⟩,.inr (.inl ⟨rfl,by simp [jF],fun q hq=>?_,fun ss po so=>?_⟩)⟩
  ·have:q.1.length = p + r + 1:=by
    simp only [jF,mem_cons,not_mem_nil,or_false] at hq;rcases hq with rfl | rfl | rfl <;> exact lM _ _ _
   omega
  ·have e2:ss = yR p r:=Fr so (Gj p r) po (Perm.refl _);rw [e2]; exact hR
 rwa [Yv] at key
abbrev rY (p r:Nat):Str:=cJ p r 100
theorem Dk (p r:Nat):(jF p r d e).lookup (rY p r) = none:=zB fun c h1 h2=>gR (by omega)
theorem Mz {v:PyData}:putP (jF p r d e) (rY p r) v = jF p r d e ++ [(rY p r,v)]:=by
 unfold putP;rw [if_neg];simp only [jF,any_cons,any_nil,Bool.or_false,or_eq_true,decide_eq_true_eq];rintro (z | z | z) <;> exact gR (by decide) z
theorem lk4 {v:PyData}:(jF p r d e ++ [(rY p r,v)]).lookup (rY p r) = some v:=by
 unfold jF;rw [cons_append,cons_append,cons_append,iK (gR (by decide)),iK (gR (by decide)),iK (gR (by decide)),nil_append,lO]
theorem Mx {v u:PyData}:putP (jF p r d e ++ [(rY p r,v)]) (rY p r) u = jF p r d e ++ [(rY p r,u)]:=by
 have h1:cJ p r 97 ≠ rY p r:=gR (by decide);have h2:cJ p r 98 ≠ rY p r:=gR (by decide);have h3:cJ p r 99 ≠ rY p r:=gR (by decide);unfold putP;rw [if_pos (by simp [jF])];simp [jF,h1,h2,h3]
theorem aJo {v:PyData}:dropP (jF p r d e ++ [(rY p r,v)]) (rY p r) = jF p r d e:=by
 have h1:cJ p r 97 ≠ rY p r:=gR (by decide);have h2:cJ p r 98 ≠ rY p r:=gR (by decide);have h3:cJ p r 99 ≠ rY p r:=gR (by decide);unfold dropP;simp [jF,h1,h2,h3]
theorem Mg (hp:p + r<=6):Rf A (jF p r d e) (.str (Str.ofString "rise " ++ rY p r ++ Str.ofString " far")) 1:=by
 rw [Td];exact nP (rest:=[]) (.inr (.inl rfl)) ⟨_,_,3,3,rfl,by decide +kernel,by simp,by simp⟩ (by simp) (eE (fI (by decide +kernel)).1 (eE (jR hp (by decide) (by decide)).1 (eE (fI (by decide +kernel)).1 fun w hw=>nomatch hw))) (Dk p r)
theorem Mf (hp:p + r<=6):Rf A (jF p r d e) (.str (Str.ofString "show " ++ rY p r)) 1:=by
 rw [Uj Ad];exact Mi (.inr rfl) (eE (fI (by decide +kernel)).1 (eE (jR hp (by decide) (by decide)).1 fun w hw=>nomatch hw)) (Dk p r)
end
theorem Uu (ns:List Int):mV (ns.map PyData.int) = true:=by
 induction ns with
 | nil=>rfl
 | cons a r ih=>rw [map_cons]; show (nZ (PyData.int a) && mV (r.map PyData.int)) = true; rw [ih]; rfl
theorem vL (ns:List Str):mV (ns.map PyData.str) = true:=by
 induction ns with
 | nil=>rfl
 | cons a r ih=>rw [map_cons]; show (nZ (PyData.str a) && mV (r.map PyData.str)) = true; rw [ih]; rfl
def kO (x:Option PyData):Option PyData:=x.bind fun d=>if nZ d = true then some d else none
theorem Gq (x:Option PyData):sG (x.map Sl.dat) = (kO x).map Sl.dat:=by
 cases x with
 | none=>rfl
 | some d =>
  show (if nZ d = true then some (Sl.dat d) else none) = (if nZ d = true then some d else none).map Sl.dat;split <;> rfl
theorem aMv (x:PyData):(if nZ x = true then some (Sl.dat x) else none) = (kO (some x)).map Sl.dat:=by
 show (if nZ x = true then some (Sl.dat x) else none) = (if nZ x = true then some x else none).map Sl.dat;split <;> rfl
theorem Uq:(Str.ofString " far" ++ kR (Str.ofString " 2") (toNat 60)).cps.toList = 32 :: lS [32] ((Str.ofString "far" :: replicate 60 (Str.ofString "2")).map fun w=>w.cps.toList):=by decide +kernel
theorem Ou (nm:Str):Str.ofString "judge " ++ nm ++ Str.ofString " far" ++ kR (Str.ofString " 2") (toNat 60) = jn (Str.ofString "judge" :: nm :: Str.ofString "far" :: replicate 60 (Str.ofString "2")):=by
 rw [qC _ (Str.ofString " far") _];exact vG Ur Uq (by simp)
theorem aHn:(kR (Str.ofString " 2") (toNat 60)).length = 120:=by decide +kernel
theorem aMs:(Str.ofString "rise ").length = 5/\(Str.ofString " far").length = 4/\(Str.ofString " 1:").length = 3/\(Str.ofString "*1").length = 2/\(Str.ofString "steps ").length = 6/\(Str.ofString " square 59").length = 10/\(Str.ofString "0 | ").length = 4/\(Str.ofString ":2*1").length = 4/\(Str.ofString "judge ").length = 6/\(Str.ofString "drop ").length = 5/\(Str.ofString " 2").length = 2:=by decide +kernel
theorem aIr:(Str.ofString "0:").length = 2/\(Str.ofString "*1 1:2*3 2:1/2*1").length = 16/\(Str.ofString "0:1*1 1/3:").length = 10/\(Str.ofString "*4").length = 2/\(Str.ofString "marks ").length = 6/\(Str.ofString " ").length = 1/\(Str.ofString "show ").length = 5:=by decide +kernel
theorem aCk (T:Txt K mg A) (CT_COUNTS:tD w K A.g_COUNTS (gE A)):FnOk P w K mg base (eA P w) 15 A.a_qf2 A.d_qf2 ["script"] (Ch K):=by
 have G_qb2:=aCp (P:=P) (w:=w) (base:=base) T;have G_qc2:=Nu (P:=P) (w:=w) (base:=base) T CT_COUNTS;have G_qa2:=aCq (P:=P) (w:=w) (base:=base) T CT_COUNTS;refine aDd (gM T.F_qf2.F fR (fun ds Q E h=>?_) (fun cdv Ar outer s H E hr=>?_))
 ·obtain ⟨a,rfl,_⟩:=h; rfl
 refine ⟨_,(aJ (eY 1 fR (dQ (aBy T) hr T.F_qs1 bF (aA (dQ (An T) hr T.F_qq1 bF (aA (pv 0) (aA aS aE))) aE)))
   (aJ (eY 2 fR (aU dN (dQ (An T) hr T.F_qq1 bF (aA (pv 0) (aA aS aE))) aS))
   (aJ (eY 3 fR (aZ (aA (aU bC (aU bC aF (cM cG rfl T.n_str Dl.boot_str (aA (aU cQ (pv 2) aS) aE))) aF) (aA aF (aA (aU bC (aU bC aF (cM cG rfl T.n_str Dl.boot_str (aA (aU cQ (aU dN (pv 2) aS) aS) aE))) aF) aE)))))
   (aJ (eY 4 fR (Ng T.mk_Desk G_qb2 (hr.mono (by decide)) rfl T.m_Desk T.b_qb2 .nil bF))
   (aJ (kE PassesOwn.leaving rfl (rR (K:=K) rfl rfl T.n_zip (aA (eM (tH (K:=K) rfl) (pv 1) gL (eQ aS)) (aA (pv 3) aE))) (Gb (K:=K) (n:=2) rfl rfl (bX (pM 5 fR) (bX (pM 6 fR) eZ)))
    (aM (bV (PW.pt (kL (aX kN (fS (pv 4) T.cl_Desk T.M_qc2 G_qc2 (hr.mono (by decide)) T.b_qc2 .nil bF (aA (aU bC (aU bC (aU bC aF (pv 5)) aF) (pv 6)) aE)) aF (bK _)) (iH (aX kN (fS (pv 4) T.cl_Desk T.M_qc2 G_qc2 (hr.mono (by decide)) T.b_qc2 .nil bF (aA (aU bC aF (pv 5)) aE)) (pv 6) (bK _))))) (aM (aY kM)) bA)))
   (aJ (kE PassesOwn.leaving rfl (Ga rfl T.n_range (aA aS (aA (bI (Hj rfl) rfl T.n_max aEs (aA aS (aA (bI (uX rfl) rfl T.n_min Qw (aA (bI (lQ (K:=K) rfl) rfl T.n_len boot_len (aA (pv 0) aE)) (aA aS aE))) aE))) aE))) (pM 7 fR)
    (aJ (eY 8 fR (dQ (aBz T) hr T.F_qr1 bF (aA (dQ (An T) hr T.F_qq1 bF (aA (pv 0) (aA (pv 7) aE))) (aA (pv 7) aE))))
   (aJ (eY 9 fR (aU cQ (aU dN (pv 8) aS) aS))
   (aJ (lJ (dQ (aBs T) hr T.F_qz1 bF (aA (pv 1) (aA (pv 8) (aA (dH (gH (K:=K) rfl) (pv 1) (bI (uX rfl) rfl T.n_min Qw (aA (pv 9) (aA aS aE))) (fun _ _=>rfl)) aE)))) (Al (K:=K) (n:=2) rfl rfl (bX (pM 10 fR) (bX (pM 11 fR) eZ))))
   (aJ (bV (PW.pt (kL (kD (gU (dQ G_qa2 hr T.F_qa2 bF (aA (pv 4) (aA (pv 10) (aA (pv 11) aE)))))) (iH (aX kN (fS (pv 4) T.cl_Desk T.M_qc2 G_qc2 (hr.mono (by decide)) T.b_qc2 .nil bF (aA aF aE)) (fZ F.plainAttrs_str F.slot_str_join F.type_str_join (fD (K:=K) rfl) aF (aA (eM (tH (K:=K) rfl) (pv 1) gL (eQ aS)) aE)) (bK _))))) (aM (aY kM)) bA)
   (aM (kE PassesOwn.leaving rfl (kS (K:=K) rfl (aZ (aA (aU cQ (pv 8) aS) (aA (aU cQ (pv 9) aS) aE)))) (pM 12 fR)
    (aM (bV (aX kN (fS (pv 4) T.cl_Desk T.M_qc2 G_qc2 (hr.mono (by decide)) T.b_qc2 .nil bF (aA (aU bC aF (dH (gH (K:=K) rfl) (pv 1) (pv 12) (fun _ _=>rfl))) aE)) (dH (gH (K:=K) rfl) (pv 3) (pv 12) (fun _ _=>rfl)) (bK _)) (aM (aY kM)) bA)))))))))
   (aJ (eY 13 fR (xE (K:=K) rfl (pv 1)))
   (aJ (bV (kD (gU (dQ G_qa2 hr T.F_qa2 bF (aA (pv 4) (aA (aU bC (aU bC aF (pv 13)) aF) (aA aF aE)))))) (aM (aY kM)) bA)
   (aJ (bV (aX kN (fS (pv 4) T.cl_Desk T.M_qc2 G_qc2 (hr.mono (by decide)) T.b_qc2 .nil bF (aA (aU bC (aU bC (aU bC (aU bC aF (pv 13)) aF) (cM cG rfl T.n_str Dl.boot_str (aA (aU cQ (pv 2) aS) aE))) aF) aE)) aF (bK _)) (aM (aY kM)) bA)
   (aJ (bV (aX kN (fS (pv 4) T.cl_Desk T.M_qc2 G_qc2 (hr.mono (by decide)) T.b_qc2 .nil bF (aA (aU bC (aU bC aF (pv 13)) aF) aE)) (aU bC aF (cM cG rfl T.n_str Dl.boot_str (aA (aU cQ (pv 2) aS) aE))) (bK _)) (aM (aY kM)) bA)
   (aJ (bV (aX kN (fS (pv 4) T.cl_Desk T.M_qc2 G_qc2 (hr.mono (by decide)) T.b_qc2 .nil bF (aA (aU bC (aU bC (aU bC aF (pv 13)) aF) (fZ F.plainAttrs_str F.slot_str_join F.type_str_join (fD (K:=K) rfl) aF (aA (gQ (cap:=[none]) (NC:=["k"]) rfl (wH rfl) (jO rfl T.n_range (aA aS aE)) (fun _ _ _ _=>(pD 0 ["k"])) (fun _ _ _ _=>dE) (fun _ _ _ _=>(aU bC (cM cG rfl T.n_str Dl.boot_str (aA (aU lK aS (pv 0)) aE)) aF))) aE))) aE)) aF (bK _)) (aM (aY kM)) bA)
   (aJ (bV (PW.pt (kL (aX kN (fS (pv 4) T.cl_Desk T.M_qc2 G_qc2 (hr.mono (by decide)) T.b_qc2 .nil bF (aA (aU bC (aU bC (aU bC aF (pv 13)) aF) (aU yO aF aS)) aE)) aF (bK _)) (iH (aX kN (fS (pv 4) T.cl_Desk T.M_qc2 G_qc2 (hr.mono (by decide)) T.b_qc2 .nil bF (aA (aU bC aF (pv 13)) aE)) aF (bK _))))) (aM (aY kM)) bA)
   (aM (aY (dQ G_qa2 hr T.F_qa2 bF (aA (pv 4) (aA (aU bC aF (pv 13)) (aA aF aE)))))))))))))))))),_,(aR (Cd 1 (cA 1 (jQ (aH (aB (bE (aH (aG 0) (aH (aB aP) aN)))) aN)))) (aR (bO (iN (k:=49) (sU (by decide +kernel)) (aB (bE (aH (aG 0) (aH (aB aP) aN)))) aP) (aO 2)) (aR (Cd 3 (cA 3 (bH (aC (aQ bU (aB (aQ bU (aB aI) (aB (cI fJ (aH (aB (cV (k:=9) (by decide) (aG 2) aP)) aN))))) (aB aI)) (aC aI (aC (aQ bU (aB (aQ bU (aB aI) (aB (cI fJ (aH (aB (cV (k:=9) (by decide) (aB (iN (k:=9) (sU (by decide +kernel)) (aG 2) aP)) aP)) aN))))) (aB aI)) aW))) (by decide))))
  (Jj (dwA:=fun p_=>_) (fun as_ p_ Fx_ bg_ =>
   (gY (Ug bg_.good (fun H_=>(bY (mE (bN 1) mF (eR (aB aP))))) (fun H_=>(aV 3)) (fun H_=>(pV (cH (aO 5) (cH (aO 6) gI)))) (fun F_ hF_ hs_ =>
    (qG (Iv (nI [(4,p_)] (bg_.sub hF_ hs_) (by decide) (fun H_=>(aH (aB (aQ bU (aB (aQ bU (aB (aQ bU (aB aI) (aG 5))) (aB aI))) (aG 6))) aN)) (fun H_=>aI)) (nI [(4,p_)] (bg_.sub hF_ hs_) (by decide) (fun H_=>(aH (aB (aQ bU (aB aI) (aG 5))) aN)) (fun H_=>(aV 6)))) (fG hF_.mono (fun H_=>(bG (aB kP)))) iX)))
   (gY (Ui bg_.good (fun H_=>(aH (aB aP) (aH (aB (cI aBd (aH (aB aP) (aH (aB (cI Mm (aH (aB (cI eV (aH (aG 0) aN))) (aH (aB aP) aN)))) aN)))) aN))) (fun H_=>(aO 7))
    (gY (fG bg_.good.mono (fun H_=>(bO (bE (aH (aB (bE (aH (aG 0) (aH (aG 7) aN)))) (aH (aG 7) aN))) (aO 8))))
    (gY (fG bg_.good.mono (fun H_=>(bO (cV (k:=6) (by decide) (aB (iN (k:=16) (sU (by decide +kernel)) (aG 8) aP)) aP) (aO 9))))
    (gY (fG bg_.good.mono (fun H_=>(jI (aH (aG 1) (aH (aG 8) (aH (aB (cB (bN 1) (aB (cI Mm (aH (aG 9) (aH (aB aP) aN)))))) aN))) (mZ (cH (aO 10) (cH (aO 11) gI))))))
    (gY (qG (Iv (Iw (Bw [(4,p_)] bg_ (fun H_=>(aH (aG 10) (aH (aG 11) aN))))) (nI [(4,p_)] bg_ (by decide) (fun H_=>(aH (aB aI) aN)) (fun H_=>(gN (aB aI) (gA (mE (bN 1) mF (eR (aB aP)))))))) (fG bg_.good.mono (fun H_=>(bG (aB kP)))) iX)
    (Uh bg_.good (fun H_=>(bY (bH (aC (cV (k:=3) (by decide) (aG 8) aP) (aC (cV (k:=3) (by decide) (aG 9) aP) aW)) (by decide)))) (fun H_=>(aO 12)) (fun F_ hF_ hs_ =>
     (qG (nI [(4,p_)] (bg_.sub hF_ hs_) (by decide) (fun H_=>(aH (aB (aQ bU (aB aI) (aB (cB (bN 1) (aG 12))))) aN)) (fun H_=>(cB (bN 3) (aG 12)))) (fG hF_.mono (fun H_=>(bG (aB kP)))) iX))))))))
   (gY (fG bg_.good.mono (fun H_=>(bO (cB (bN 1) (aB aP)) (aO 13))))
   (gY (qG (Iw (Bw [(4,p_)] bg_ (fun H_=>(aH (aB (aQ bU (aB (aQ bU (aB aI) (aG 13))) (aB aI))) (aH (aB aI) aN))))) (fG bg_.good.mono (fun H_=>(bG (aB kP)))) iX)
   (gY (qG (nI [(4,p_)] bg_ (by decide) (fun H_=>(aH (aB (aQ bU (aB (aQ bU (aB (aQ bU (aB (aQ bU (aB aI) (aG 13))) (aB aI))) (aB (cI fJ (aH (aB (cV (k:=7) (by decide) (aG 2) aP)) aN))))) (aB aI))) aN)) (fun H_=>aI)) (fG bg_.good.mono (fun H_=>(bG (aB kP)))) iX)
   (gY (qG (nI [(4,p_)] bg_ (by decide) (fun H_=>(aH (aB (aQ bU (aB (aQ bU (aB aI) (aG 13))) (aB aI))) aN)) (fun H_=>(aQ bU (aB aI) (aB (cI fJ (aH (aB (cV (k:=7) (by decide) (aG 2) aP)) aN)))))) (fG bg_.good.mono (fun H_=>(bG (aB kP)))) iX)
   (gY (qG (nI [(4,p_)] bg_ (by decide) (fun H_=>(aH (aB (aQ bU (aB (aQ bU (aB (aQ bU (aB aI) (aG 13))) (aB aI))) (aB (gN (aB aI) (gA (fC (IvS.e (oM (aH (aB aP) aN))) (aO 0) dW (aQ bU (aB (cI fJ (aH (aB (aQ eU (aB aP) (aG 0))) aN))) (aB aI)) (by decide) (by decide))))))) aN)) (fun H_=>aI)) (fG bg_.good.mono (fun H_=>(bG (aB kP)))) iX)
   (gY (qG (Iv (nI [(4,p_)] bg_ (by decide) (fun H_=>(aH (aB (aQ bU (aB (aQ bU (aB (aQ bU (aB aI) (aG 13))) (aB aI))) (aB (aQ Ly (aB aI) (aB aP))))) aN)) (fun H_=>aI)) (nI [(4,p_)] bg_ (by decide) (fun H_=>(aH (aB (aQ bU (aB aI) (aG 13))) aN)) (fun H_=>aI))) (fG bg_.good.mono (fun H_=>(bG (aB kP)))) iX)
   (Uf bg_ (fun H_=>(aH (aB (aQ bU (aB aI) (aG 13))) (aH (aB aI) aN))))))))))))))))),?_⟩
 rintro ds Q X ⟨ns,rfl,hlen,hbits,k⟩;walk_at "s";refine ⟨ns,0,rfl,by decide,by decide,?_⟩;walk_at "d";refine ⟨_,rfl,fun p r hp=>?_⟩;walk_at "d";refine ⟨tV _,ns,0,rfl,by decide,by decide,?_⟩;walk_at "d";obtain ⟨C,hC⟩:∃ C,zR ns 0 / 49 = C:=⟨_,rfl⟩;rw [hC];obtain ⟨d,hd,d0,d1⟩:∃ d,C % 9 = d/\0<=d/\d < 9:=⟨_,rfl,by omega,by omega⟩;obtain ⟨e,he,e0,e1⟩:∃ e,C / 9 % 9 = e/\0<=e/\e < 9:=⟨_,rfl,by omega,by omega⟩;obtain ⟨s,hs,s0,s1⟩:∃ s,C % 7 = s/\0<=s/\s < 9:=⟨_,rfl,by omega,by omega⟩;walk_at "s";rw [hd,he];have b90:(10:Nat) ^ 2 < 10 ^ 90/\(10:Nat) ^ 2 < 10 ^ 50:=by decide +kernel
 have ld:=fP (n:=d) (by omega);have le:=fP (n:=e) (by omega);have ll:=aIr;have l2:=aMs;refine ⟨oE (by omega),by omega,by rw [Str.length_append]; omega,oE (by omega),by omega,by rw [Str.length_append]; omega,fun q=>?_⟩;obtain ⟨ts,hts⟩:∃ ts,(msT d e).map mS = ts:=⟨_,rfl⟩;rw [tx0 d0 d1,tx1,tx2 e0 e1,show PyData.list [.str (mS (Rm d)),.str (mS ms1),.str (mS (Rl e))] = .list (ts.map .str) by rw [<- hts]; rfl];have tsl:ts.length = 3:=by rw [<- hts]; rfl
 obtain ⟨nl,hnl⟩:∃ nl,mU p r 4 = nl:=⟨_,rfl⟩;have c3:lU (nl.map PyData.str) none (some 3) = (yR p r).map .str:=by
  rw [<- hnl,show (3:Int) = ((3:Nat):Int) from rfl,rA]; rfl
 rw [hnl];have nd1:=Uu ns;have nd2:=vL nl;have nd3:=vL ts;refine ⟨rfl,?_⟩;walk_at "d";rw [c3];have m4:∀ {δ:bW},slot δ 4 = some (Sl.mon (zU q))->∀ m:Nat × Addr,m∈[(4,q)]->slot δ m.1 = some (.mon (zU m.2)):=fun h m hm=>by rw [mem_singleton.mp hm]; exact h
 have fit3:((yR p r).map (·.length)).sum + (yR p r).length * (Str.ofString " ").length<=100000:=Gy (n:=8) (fun w hw=>by
  simp only [yR,mem_cons,not_mem_nil,or_false] at hw
  rcases hw with rfl | rfl | rfl <;> rw [lM] <;> omega) (by rw [dR]; show 3 * (8 + 1)<=100000; decide)
 have key:=Gq;simp only [sG] at key;refine ⟨_,rfl,_,rfl,vL _,nd3,by rw [length_map,length_map,tsl]; rfl,fun i δ ks=>∃ s5 s6:Option PyData,δ = [some (.dat (.list (ns.map .int))),some (.dat (.list (nl.map .str))),some (.dat (.int C)),some (.dat (.list (ts.map .str))),some (.mon (zU q)),s5.map Sl.dat,s6.map Sl.dat,none,none,none,none,none,none,none]/\ks = [(jF p r d e).take i],⟨none,none,rfl,rfl⟩,?_,?_⟩
 ·rintro i x y δ ks hx hy ⟨s5,s6,rfl,rfl⟩;have i3:i < 3:=by
   have:=(List.getElem?_eq_some_iff.mp hx).1
   rwa [length_map] at this
  obtain ⟨nm,ms,hnm,hms,nb,wn,l8,ok,hput,hlk,_⟩:=Ws hp d0 d1 e0 e1 i3;rw [getElem?_map,hnm] at hx;rw [hts] at hms;rw [getElem?_map,hms] at hy;cases hx; cases hy;have sl:=Jw ok.l ok.g;have kl:((jF p r d e).take i).length < 1000:=lt_of_le_of_lt (List.length_take_le _ _) (by omega);walk_at "d";simp only [foldl_cons,foldl_nil,nd1,nd2,nd3,nZ,key];walk_at "d";refine ⟨m4 rfl,by omega,by rw [Str.length_append]; omega,by rw [Str.length_append,Str.length_append]; omega,_,rfl,?_⟩;rw [show Str.ofString "marks " ++ nm ++ Str.ofString " " ++ mS ms = jn (Str.ofString "marks" :: nm :: ms.map jM) from yX nm (by simpa using ok.ne)];refine rL wn nb ok.ne ok.l ok.g (Perm.refl _) ok.up kl _ _ ?_
  first | refine ⟨_,rfl,rfl,_,rfl,?_⟩ | refine ⟨_,rfl,_,rfl,?_⟩
  refine bS (fun c=>absurd rfl c) (fun _=>?_);simp only [foldl_cons,foldl_nil,nd1,nd2,nd3,nZ,key];walk_at "d";refine ⟨m4 rfl,by omega,_,rfl,?_⟩;rw [show Str.ofString "show " ++ nm = jn [Str.ofString "show",nm] from Uj Ad];refine Cj (ms:=ms) wn (by rw [hput]; exact hlk) ok.l ok.g _ _ ?_
  first | refine ⟨_,rfl,rfl,_,rfl,?_⟩ | refine ⟨_,rfl,_,rfl,?_⟩
  refine bS (fun c=>absurd rfl c) (fun _=>?_);exact ⟨some _,some _,rfl,by rw [hput]; rfl⟩
 ·rintro δ ks ⟨s5,s6,rfl,rfl⟩;obtain ⟨hi,hhi,hi1,hi2⟩:∃ hi:Int,(if (if 59 < (ns.length:Int) then 59 else (ns.length:Int)) > 4 then (if 59 < (ns.length:Int) then 59 else (ns.length:Int)) else 4) = hi/\4<=hi/\hi<=59:=⟨_,rfl,by (repeat' split) <;> omega,by (repeat' split) <;> omega⟩;refine ⟨by walk_at "d",?_⟩;walk_at "d";rw [hhi];refine ⟨1,hi,rfl,⟨by omega,by omega,by omega,by omega⟩,?_⟩;refine ⟨fun i δ ks=>∃ s5 s6 s7 s8 s9 s10 s11 s12:Option PyData,δ = [some (.dat (.list (ns.map .int))),some (.dat (.list (nl.map .str))),some (.dat (.int C)),some (.dat (.list (ts.map .str))),some (.mon (zU q)),s5.map Sl.dat,s6.map Sl.dat,s7.map Sl.dat,s8.map Sl.dat,s9.map Sl.dat,s10.map Sl.dat,s11.map Sl.dat,s12.map Sl.dat,none]/\ks = [jF p r d e],⟨s5,s6,none,none,none,none,none,none,rfl,rfl⟩,?_,?_⟩
  ·rintro i δ ks hin ⟨s5,s6,s7,s8,s9,s10,s11,s12,rfl,rfl⟩;obtain ⟨kk,hkk,kk0,kk1⟩:∃ kk:Int,1 + (i:Int) = kk/\1<=kk/\kk<=59:=⟨_,rfl,by omega,by omega⟩;rw [hkk];walk_at "d";refine ⟨ns,kk,rfl,by omega,by omega,?_⟩;walk_at "d";refine ⟨_,_,rfl,Qt hbits (by omega) (by omega),by omega,by omega,fun v v0 v1=>?_⟩;walk_at "d";obtain ⟨c,hc,c1,c2⟩:∃ c:Nat,lA (nl.map PyData.str) (if 3 < v / 16 % 6 then 3 else v / 16 % 6) = some (.str (cJ p r c))/\97<=c/\c<=100:=by
    obtain ⟨j,hj,j4⟩:∃ j:Nat,(if 3 < v / 16 % 6 then 3 else v / 16 % 6) = (j:Int)/\j < 4:=⟨(if 3 < v / 16 % 6 then 3 else v / 16 % 6).toNat,by split <;> omega,by split <;> omega⟩;refine ⟨97 + j,?_,by omega,by omega⟩;rw [hj];exact eL (by rw [<- hnl]; unfold mU; rw [getElem?_map,List.getElem?_range j4]; rfl)
   refine ⟨_,hc,p,r,jF p r d e,_,v,by rw [hnl],v0,by omega,Um hp c1 c2,fun x y j hrf hj=>⟨rfl,?_⟩⟩;simp only [foldl_cons,foldl_nil,nd1,nd2,nd3,nZ,key,aMv x];walk_at "d";refine ⟨m4 rfl,_,rfl,x,y,j,rfl,hj,hrf,true,rfl,?_⟩;refine bS (fun c=>nomatch c) (fun _=>?_);simp only [foldl_cons,foldl_nil,nd1,nd2,nd3,nZ,key];walk_at "d";refine ⟨m4 rfl,_,rfl,?_⟩;refine Jz hp _ _ ?_;rw [c3]
   first | refine ⟨_,rfl,rfl,_,rfl,fit3,_,rfl,?_⟩ | refine ⟨_,rfl,_,rfl,fit3,_,rfl,?_⟩
   refine bS (fun c=>absurd rfl c) (fun _=>?_);refine ⟨by walk_at "d",?_⟩;walk_at "d";refine ⟨_,rfl,rfl,fun i δ ks=>∃ s5 s6 s7 s8 s9 s10 s11 s12:Option PyData,δ = [some (.dat (.list (ns.map .int))),some (.dat (.list (nl.map .str))),some (.dat (.int C)),some (.dat (.list (ts.map .str))),some (.mon (zU q)),s5.map Sl.dat,s6.map Sl.dat,s7.map Sl.dat,s8.map Sl.dat,s9.map Sl.dat,s10.map Sl.dat,s11.map Sl.dat,s12.map Sl.dat,none]/\ks = [jF p r d e],⟨_,_,some _,some _,some _,_,some _,_,rfl,rfl⟩,?_,?_⟩
   ·rintro j xd δ ks hj ⟨s5,s6,s7,s8,s9,s10,s11,s12,rfl,rfl⟩;obtain ⟨pl,rfl,p3⟩:∃ pl:Nat,xd = .int (pl:Int)/\pl < 3:=by
     match j,hj with
     | 0,hj=>cases hj; exact ⟨(v % 3).toNat,by congr 1; omega,by omega⟩
     | 1,hj=>cases hj; exact ⟨(v / 16 % 6 % 3).toNat,by congr 1; omega,by omega⟩
     | j + 2,hj=>simp at hj
    obtain ⟨nm,ms,hnm,hms,nb,wn,l8,ok,_,_,hlk⟩:=Ws hp d0 d1 e0 e1 p3;rw [hts] at hms
    have a1:lA (nl.map PyData.str) (pl:Int) = some (.str nm):=eL (by
     rw [<- hnl]
     match pl,p3,hnm with
     | 0,_,h=>exact h
     | 1,_,h=>exact h
     | 2,_,h=>exact h)
    have a2:=eL hms;walk_at "d";simp only [foldl_cons,foldl_nil,nd1,nd2,nd3,nZ,key];walk_at "d";refine ⟨m4 rfl,_,a1,?_⟩;walk_at "d";refine ⟨by omega,_,rfl,?_⟩;rw [show Str.ofString "show " ++ nm = jn [Str.ofString "show",nm] from Uj Ad];refine Cj (ms:=ms) wn hlk ok.l ok.g _ _ ?_
    first | refine ⟨_,rfl,rfl,_,a2,_,rfl,?_⟩ | refine ⟨_,rfl,_,a2,_,rfl,?_⟩
    refine bS (fun c=>absurd rfl c) (fun _=>?_);exact ⟨_,_,_,_,_,_,_,some _,rfl,rfl⟩
   ·rintro δ ks ⟨s5,s6,s7,s8,s9,s10,s11,s12,rfl,rfl⟩;exact ⟨s5,s6,s7,s8,s9,s10,s11,s12,rfl,rfl⟩
  ·rintro δ ks ⟨s5,s6,s7,s8,s9,s10,s11,s12,rfl,rfl⟩;have a4:lA (nl.map PyData.str) 3 = some (.str (rY p r)):=eL (j:=3) (by rw [<- hnl]; rfl);have w4:Hw (rY p r):=(jR hp (by decide) (by decide)).1.m;have b4:fA (rY p r) = true:=yS hp (by decide) (by decide);have l4:(rY p r).length<=8:=by unfold rY; rw [lM]; omega
   walk_at "d";refine ⟨_,a4,?_⟩;simp only [foldl_cons,foldl_nil,nd1,nd2,nd3,nZ,key];walk_at "d";refine ⟨m4 rfl,by omega,by rw [Str.length_append]; omega,_,rfl,_,_,1,rfl,rfl,Mg hp,true,rfl,?_⟩;refine bS (fun c=>nomatch c) (fun _=>?_);simp only [foldl_cons,foldl_nil,nd1,nd2,nd3,nZ,key,hs];walk_at "d";have ls:=fP (n:=s) (by omega);refine ⟨m4 rfl,by omega,by rw [Str.length_append]; omega,oE (by omega),by rw [Str.length_append,Str.length_append]; omega,by rw [Str.length_append,Str.length_append,Str.length_append]; omega,_,rfl,?_⟩;rw [txT _ s0 s1];have okT:=aMa s0 s1;have kvl:(jF p r d e).length < 1000:=by simp [jF]
   refine rL (ms:=[mT s]) w4 b4 okT.ne okT.l okT.g (Perm.refl _) okT.up kvl _ _ ?_
   first | refine ⟨_,rfl,rfl,_,rfl,?_⟩ | refine ⟨_,rfl,_,rfl,?_⟩
   refine bS (fun c=>absurd rfl c) (fun _=>?_);simp only [foldl_cons,foldl_nil,nd1,nd2,nd3,nZ,key,hs];walk_at "d";refine ⟨m4 rfl,by omega,by rw [Str.length_append]; omega,_,rfl,?_⟩;rw [Jm];refine Jy (m:=mT s) w4 (by rw [Mz]; exact lk4) ⟨aIy s0 s1,rfl⟩ _ _ ?_;simp only [hs]
   first | refine ⟨_,rfl,rfl,oE (by omega),by omega,_,rfl,?_⟩ | refine ⟨_,rfl,oE (by omega),by omega,_,rfl,?_⟩
   refine bS (fun c=>absurd (aGu s0 s1).symm c) (fun _=>?_);simp only [foldl_cons,foldl_nil,nd1,nd2,nd3,nZ,key,hs];walk_at "d";refine ⟨m4 rfl,by omega,by rw [Str.length_append]; omega,?_⟩
   refine dY (fun j:Nat=>PyData.int (0 + (j:Int) * 1)) PyData.str (fun j=>[Str.ofString (toString (59 - (0 + (j:Int) * 1))) ++ Str.ofString ":2*1"]) (range 60) (by rw [length_range]; decide) (fun Q h=>by
     walk_at "d"
     exact ⟨⟨by decide,by decide⟩,h⟩) (fun j hj N acc hN=>?_) ?_
   ·have:=mem_range.mp hj;have lj:=fP (n:=59 - (0 + (j:Int) * 1)) (by omega);walk_at "d";exact ⟨oE (by omega),by omega,hN⟩
   rw [cE,aLv];have l60:ms60.length = 60:=by unfold ms60; rw [length_map,length_range]
   have g60:∀ w∈ms60.map jM,w.length<=259:=fun w hw=>by
    obtain ⟨m,hm,rfl⟩:=mem_map.mp hw;exact nM (Dz m hm)
   have n60:ms60.map jM ≠ []:=fun z=>by have:=congrArg length z; rw [length_map,l60] at this; simp at this
   have j60:=oJ (Str.ofString " ") g60;rw [length_map,l60,dR] at j60;refine ⟨_,rfl,Gy g60 (by rw [length_map,l60,dR]; decide),by rw [Str.length_append,Str.length_append]; omega,_,rfl,?_⟩;rw [yX _ n60];refine rL (ms:=ms60) (res:=up60) w4 b4 (fun z=>n60 (by rw [z]; rfl)) (by omega) Dz (by rw [Ip]; exact List.reverse_perm _) Sb (by rw [Mz]; simp [jF]) _ _ ?_
   first | refine ⟨_,rfl,rfl,_,rfl,?_⟩ | refine ⟨_,rfl,_,rfl,?_⟩
   refine bS (fun c=>absurd rfl c) (fun _=>?_);simp only [foldl_cons,foldl_nil,nd1,nd2,nd3,nZ,key,hs];walk_at "d";refine ⟨m4 rfl,by omega,by rw [Str.length_append]; omega,by decide,by decide,by omega,by rw [Str.length_append,Str.length_append,aHn]; omega,_,rfl,?_⟩;rw [Ou];refine Ka w4 (by rw [Mz,Mx]; exact lk4) _ _ ?_
   first | refine ⟨_,rfl,rfl,_,rfl,?_⟩ | refine ⟨_,rfl,_,rfl,?_⟩
   refine bS (fun c=>absurd rfl c) (fun _=>?_);simp only [foldl_cons,foldl_nil,nd1,nd2,nd3,nZ,key,hs];walk_at "d";refine ⟨m4 rfl,by omega,_,rfl,?_⟩;rw [Uj aEg];refine Tb w4 (by rw [Mz,Mx,lk4]; rfl) _ _ ?_
   first | refine ⟨_,rfl,rfl,_,rfl,?_⟩ | refine ⟨_,rfl,_,rfl,?_⟩
   refine bS (fun c=>absurd rfl c) (fun _=>?_);walk_at "d";refine ⟨by omega,_,rfl,_,_,1,rfl,rfl,?_,k⟩;rw [Mz,Mx,aJo];exact Mf hp
@[elab_as_elim] theorem el1 {P:List Value->Prop}:∀ us:List Value,us.length = 1->(∀ a0:Value,P [a0])->P us
 | [],h,_=>by cases h
 | [a0],_,h=>h a0
 | _ :: _ :: _,h,_=>by simp at h
@[elab_as_elim] theorem el2 {P:List Value->Prop}:∀ us:List Value,us.length = 2->(∀ a0 a1:Value,P [a0,a1])->P us
 | [],h,_=>by cases h
 | [_],h,_=>by cases h
 | [a0,a1],_,h=>h a0 a1
 | _ :: _ :: _ :: _,h,_=>by simp at h
@[elab_as_elim] theorem el3 {P:List Value->Prop}:∀ us:List Value,us.length = 3->(∀ a0 a1 a2:Value,P [a0,a1,a2])->P us
 | [],h,_=>by cases h
 | [_],h,_=>by cases h
 | [_,_],h,_=>by cases h
 | [a0,a1,a2],_,h=>h a0 a1 a2
 | _ :: _ :: _ :: _ :: _,h,_=>by simp at h
@[elab_as_elim] theorem el4 {P:List Value->Prop}:∀ us:List Value,us.length = 4->(∀ a0 a1 a2 a3:Value,P [a0,a1,a2,a3])->P us
 | [],h,_=>by cases h
 | [_],h,_=>by cases h
 | [_,_],h,_=>by cases h
 | [_,_,_],h,_=>by cases h
 | [a0,a1,a2,a3],_,h=>h a0 a1 a2 a3
 | _ :: _ :: _ :: _ :: _ :: _,h,_=>by simp at h
local macro_rules | `(tactic| walk_at "b") => `(tactic| (intro _ _ _ _ _ _ us hl; first | exact el1 us hl fun _ => rfl | exact el2 us hl fun _ _ => rfl | exact el3 us hl fun _ _ _ => rfl | exact el4 us hl fun _ _ _ _ => rfl))
theorem all_mk {l:W.OpenLaw} {w:World} {K:W.Frag} {h:Heap} {mg:Str->Option Value} {fa f_qa f_qb f_qc f_qd f_qe f_qf f_qg f_qh f_qi f_qj f_qk f_ql f_qm f_qn f_qo f_qp f_qq f_qr f_qs f_qt f_qu f_qv f_qw f_qx f_qy f_qz f_qa1 f_qb1 f_qc1 f_qd1 f_qe1 f_qf1 f_qg1 f_qh1 f_qi1 f_qj1 f_qk1 f_ql1 f_qm1 f_qn1 f_qo1 f_qp1 f_qq1 f_qr1 f_qs1 f_qt1 f_qu1 f_qv1 f_qw1 f_qx1 f_qy1 f_qz1 f_qa2 f_qb2 f_qc2 f_qd2 f_qe2 f_qf2 x_MissError x_NoNumber x_NoMarks x_NoKind x_NoBend x_NoAnswer x_NoText x_NoName x_NoRow g_KINDS g_NOUGHT c_Desk g_COUNTS g_COUNTS_0 g_COUNTS_1 g_COUNTS_2 g_COUNTS_3 g_COUNTS_4 g_COUNTS_5 g_COUNTS_6 g_COUNTS_7:Addr} (X:K.In h) (G:h.Ns mainGlobals mg) (hfa:mg "law" = some (.ref fa))
  {d0 d1 d2 d3 d4 d5 d6 d7 d8 d9 d10 d11 d12 d13 d14 d15 d16 d17 d18 d19 d20 d21 d22 d23 d24 d25 d26 d27 d28 d29 d30 d31 d32 d33 d34 d35 d36 d37 d38 d39 d40 d41 d42 d43 d44 d45 d46 d47 d48 d49 d50 d51 d52 d53 d54 d55 d56 d57:FuncData}
  (oa_Desk:W.nsIn K mainGlobals "Desk" = some (some (.ref c_Desk))) (pg_Desk:W.plainGet K c_Desk Str.empty = true) (hd_Desk:W.hasDictIn K c_Desk = true) (po_Desk:W.plainOver K c_Desk = true) (sa_Desk:W.findIn K (.ref c_Desk) "__setattr__" = some (some (.builtin "object.__setattr__"))) (mk_Desk:W.makesIn K c_Desk = true) (kc_Desk:W.keepIn K (.ref c_Desk) = true) (na_Desk:W.findIn K (.ref c_Desk) "kept" = some none)
  (Fs:Fg K "common_divisor" aAz f_qa d0/\Fg K "fraction" aAy f_qb d1/\Fg K "plus" aAx f_qc d2/\Fg K "minus" aAw f_qd d3/\Fg K "product" aAv f_qe d4/\Fg K "quotient" aAu f_qf d5/\Fg K "is_less" aAt f_qg d6/\Fg K "size_of" aAs f_qh d7/\Fg K "total_of" aAr f_qi d8/\Fg K "greatest_of" aAq f_qj d9/\Fg K "count_ahead" aAp f_qk d10/\Fg K "marks_of" aAo f_ql d11/\Fg K "misses_of" aAn f_qm d12/\Fg K "check_kind" aAm f_qn d13/\Fg K "weighed_misses" aAl f_qo d14/\Fg K "measured" aAk f_qp d15/\Fg K "least_level" aAj f_qq d16/\Fg K "bend_least" aAi f_qr d17/\Fg K "is_bend" aAh f_qs d18/\Fg K "stretch_cost" aAg f_qt d19/\Fg K "costs_to" aAf f_qu d20/\Fg K "all_costs" aAe f_qv d21/\Fg K "step_least" aAd f_qw d22/\Fg K "best_entry" aAc f_qx d23/\Fg K "laid_row" aAb f_qy d24/\Fg K "check_text" aAa f_qz d25/\Fg K "is_figures" Lr f_qa1 d26/\Fg K "read_whole" Lp f_qb1 d27/\Fg K "read_fraction" Ln f_qc1 d28/\Fg K "read_mark" Ll f_qd1 d29/\Fg K "show_fraction" Li f_qe1 d30/\Fg K "show_fractions" Lg f_qf1 d31/\Fg K "show_mark" Le f_qg1 d32/\Fg K "show_marks" Ld f_qh1 d33/\Fg K "words_of" Lc f_qi1 d34/\Fg K "check_name" Lb f_qj1 d35/\Fg K "bent_fit" La f_qk1 d36/\Fg K "parted" Kz f_ql1 d37/\Fg K "bend_answer" Ky f_qm1 d38/\Fg K "steps_answer" Kx f_qn1 d39/\Fg K "judge_answer" Kw f_qo1 d40/\Fg K "asked" Ku f_qp1 d41/\Fg K "_law_cell" Kt f_qq1 d42/\Fg K "_law_mixed" Ks f_qr1 d43/\Fg K "_law_names" Kr f_qs1 d44/\Fg K "_law_form" Kq f_qt1 d45/\Fg K "_law_kinds" Ko f_qu1 d46/\Fg K "_law_bad" Kn f_qv1 d47/\Fg K "_law_spoilt" Km f_qw1 d48/\Fg K "_law_counted" Kl f_qx1 d49/\Fg K "_law_deed" Kk f_qy1 d50/\Fg K "_law_drawn" Kj f_qz1 d51/\Fg K "_law_refused" Lq f_qa2 d52/\Fg K "law" Lf f_qf2 d57)
  (a53:W.findIn K (.ref c_Desk) "__init__" = some (some (.ref f_qb2))) (i53:W.isFn K (.ref f_qb2) = true)
  (F53:Fun K "__init__" "Desk.__init__" Lo f_qb2 d53)
  (a54:W.findIn K (.ref c_Desk) "say" = some (some (.ref f_qc2))) (i54:W.isFn K (.ref f_qc2) = true)
  (F54:Fun K "say" "Desk.say" Lm f_qc2 d54)
  (a55:W.findIn K (.ref c_Desk) "lay" = some (some (.ref f_qd2))) (i55:W.isFn K (.ref f_qd2) = true)
  (F55:Fun K "lay" "Desk.lay" Lj f_qd2 d55)
  (a56:W.findIn K (.ref c_Desk) "marks_by" = some (some (.ref f_qe2))) (i56:W.isFn K (.ref f_qe2) = true)
  (F56:Fun K "marks_by" "Desk.marks_by" Lh f_qe2 d56)
  (ax_MissError:W.nsIn K mainGlobals "MissError" = some (some (.ref x_MissError))) (xx_MissError:W.excIn K x_MissError [.type "ValueError",.type "Exception",.type "BaseException",.type "object"] "ValueError.__new__" = true)
  (ax_NoNumber:W.nsIn K mainGlobals "NoNumber" = some (some (.ref x_NoNumber))) (xx_NoNumber:W.excIn K x_NoNumber [.type "ValueError",.type "Exception",.type "BaseException",.type "object"] "ValueError.__new__" = true)
  (ax_NoMarks:W.nsIn K mainGlobals "NoMarks" = some (some (.ref x_NoMarks))) (xx_NoMarks:W.excIn K x_NoMarks [.type "ValueError",.type "Exception",.type "BaseException",.type "object"] "ValueError.__new__" = true)
  (ax_NoKind:W.nsIn K mainGlobals "NoKind" = some (some (.ref x_NoKind))) (xx_NoKind:W.excIn K x_NoKind [.type "ValueError",.type "Exception",.type "BaseException",.type "object"] "ValueError.__new__" = true)
  (ax_NoBend:W.nsIn K mainGlobals "NoBend" = some (some (.ref x_NoBend))) (xx_NoBend:W.excIn K x_NoBend [.type "ValueError",.type "Exception",.type "BaseException",.type "object"] "ValueError.__new__" = true)
  (ax_NoAnswer:W.nsIn K mainGlobals "NoAnswer" = some (some (.ref x_NoAnswer))) (xx_NoAnswer:W.excIn K x_NoAnswer [.type "ValueError",.type "Exception",.type "BaseException",.type "object"] "ValueError.__new__" = true)
  (ax_NoText:W.nsIn K mainGlobals "NoText" = some (some (.ref x_NoText))) (xx_NoText:W.excIn K x_NoText [.type "ValueError",.type "Exception",.type "BaseException",.type "object"] "ValueError.__new__" = true)
  (ax_NoName:W.nsIn K mainGlobals "NoName" = some (some (.ref x_NoName))) (xx_NoName:W.excIn K x_NoName [.type "ValueError",.type "Exception",.type "BaseException",.type "object"] "ValueError.__new__" = true)
  (ax_NoRow:W.nsIn K mainGlobals "NoRow" = some (some (.ref x_NoRow))) (xx_NoRow:W.excIn K x_NoRow [.type "ValueError",.type "Exception",.type "BaseException",.type "object"] "ValueError.__new__" = true)
  (xkg_NoRow:W.findIn K (.ref x_NoRow) "__getattribute__" = some (some (.builtin "BaseException.__getattribute__")))
  (xka_NoRow:W.findIn K (.ref x_NoRow) "__getattr__" = some none)
  (xkc_NoRow:W.findIn K (.ref x_NoRow) "__class__" = some (some (.builtin "object.__class__")))
  (xko_NoRow:W.subIn K (.ref x_NoRow) (.type "object") = some true)
  (xkb_NoRow:W.subIn K (.ref x_NoRow) (.type "BaseException") = some true)
  (xkg_NoName:W.findIn K (.ref x_NoName) "__getattribute__" = some (some (.builtin "BaseException.__getattribute__")))
  (xka_NoName:W.findIn K (.ref x_NoName) "__getattr__" = some none)
  (xkc_NoName:W.findIn K (.ref x_NoName) "__class__" = some (some (.builtin "object.__class__")))
  (xko_NoName:W.subIn K (.ref x_NoName) (.type "object") = some true)
  (xkb_NoName:W.subIn K (.ref x_NoName) (.type "BaseException") = some true)
  (xkg_NoText:W.findIn K (.ref x_NoText) "__getattribute__" = some (some (.builtin "BaseException.__getattribute__")))
  (xka_NoText:W.findIn K (.ref x_NoText) "__getattr__" = some none)
  (xkc_NoText:W.findIn K (.ref x_NoText) "__class__" = some (some (.builtin "object.__class__")))
  (xko_NoText:W.subIn K (.ref x_NoText) (.type "object") = some true)
  (xkb_NoText:W.subIn K (.ref x_NoText) (.type "BaseException") = some true)
  (xkg_NoMarks:W.findIn K (.ref x_NoMarks) "__getattribute__" = some (some (.builtin "BaseException.__getattribute__")))
  (xka_NoMarks:W.findIn K (.ref x_NoMarks) "__getattr__" = some none)
  (xkc_NoMarks:W.findIn K (.ref x_NoMarks) "__class__" = some (some (.builtin "object.__class__")))
  (xko_NoMarks:W.subIn K (.ref x_NoMarks) (.type "object") = some true)
  (xkb_NoMarks:W.subIn K (.ref x_NoMarks) (.type "BaseException") = some true)
  (xkg_NoNumber:W.findIn K (.ref x_NoNumber) "__getattribute__" = some (some (.builtin "BaseException.__getattribute__")))
  (xka_NoNumber:W.findIn K (.ref x_NoNumber) "__getattr__" = some none)
  (xkc_NoNumber:W.findIn K (.ref x_NoNumber) "__class__" = some (some (.builtin "object.__class__")))
  (xko_NoNumber:W.subIn K (.ref x_NoNumber) (.type "object") = some true)
  (xkb_NoNumber:W.subIn K (.ref x_NoNumber) (.type "BaseException") = some true)
  (xkg_NoKind:W.findIn K (.ref x_NoKind) "__getattribute__" = some (some (.builtin "BaseException.__getattribute__")))
  (xka_NoKind:W.findIn K (.ref x_NoKind) "__getattr__" = some none)
  (xkc_NoKind:W.findIn K (.ref x_NoKind) "__class__" = some (some (.builtin "object.__class__")))
  (xko_NoKind:W.subIn K (.ref x_NoKind) (.type "object") = some true)
  (xkb_NoKind:W.subIn K (.ref x_NoKind) (.type "BaseException") = some true)
  (xkg_NoBend:W.findIn K (.ref x_NoBend) "__getattribute__" = some (some (.builtin "BaseException.__getattribute__")))
  (xka_NoBend:W.findIn K (.ref x_NoBend) "__getattr__" = some none)
  (xkc_NoBend:W.findIn K (.ref x_NoBend) "__class__" = some (some (.builtin "object.__class__")))
  (xko_NoBend:W.subIn K (.ref x_NoBend) (.type "object") = some true)
  (xkb_NoBend:W.subIn K (.ref x_NoBend) (.type "BaseException") = some true)
  (em_NoRow_MissError:W.exmOne K (.ref x_NoRow) (.ref x_MissError) = some true)
  (em_NoName_MissError:W.exmOne K (.ref x_NoName) (.ref x_MissError) = some true)
  (em_NoText_MissError:W.exmOne K (.ref x_NoText) (.ref x_MissError) = some true)
  (em_NoMarks_MissError:W.exmOne K (.ref x_NoMarks) (.ref x_MissError) = some true)
  (em_NoNumber_MissError:W.exmOne K (.ref x_NoNumber) (.ref x_MissError) = some true)
  (em_NoKind_MissError:W.exmOne K (.ref x_NoKind) (.ref x_MissError) = some true)
  (em_NoBend_MissError:W.exmOne K (.ref x_NoBend) (.ref x_MissError) = some true)
  (kt_NoRow_NoRow:W.kitOne K (.ref x_NoRow) (.ref x_NoRow) = some true)
  (kt_NoRow_NoName:W.kitOne K (.ref x_NoRow) (.ref x_NoName) = some false)
  (kt_NoRow_NoText:W.kitOne K (.ref x_NoRow) (.ref x_NoText) = some false)
  (kt_NoRow_NoMarks:W.kitOne K (.ref x_NoRow) (.ref x_NoMarks) = some false)
  (kt_NoRow_NoNumber:W.kitOne K (.ref x_NoRow) (.ref x_NoNumber) = some false)
  (kt_NoRow_NoKind:W.kitOne K (.ref x_NoRow) (.ref x_NoKind) = some false)
  (kt_NoRow_NoBend:W.kitOne K (.ref x_NoRow) (.ref x_NoBend) = some false)
  (kt_NoRow_NoAnswer:W.kitOne K (.ref x_NoRow) (.ref x_NoAnswer) = some false)
  (kt_NoName_NoRow:W.kitOne K (.ref x_NoName) (.ref x_NoRow) = some false)
  (kt_NoName_NoName:W.kitOne K (.ref x_NoName) (.ref x_NoName) = some true)
  (kt_NoName_NoText:W.kitOne K (.ref x_NoName) (.ref x_NoText) = some false)
  (kt_NoName_NoMarks:W.kitOne K (.ref x_NoName) (.ref x_NoMarks) = some false)
  (kt_NoName_NoNumber:W.kitOne K (.ref x_NoName) (.ref x_NoNumber) = some false)
  (kt_NoName_NoKind:W.kitOne K (.ref x_NoName) (.ref x_NoKind) = some false)
  (kt_NoName_NoBend:W.kitOne K (.ref x_NoName) (.ref x_NoBend) = some false)
  (kt_NoName_NoAnswer:W.kitOne K (.ref x_NoName) (.ref x_NoAnswer) = some false)
  (kt_NoText_NoRow:W.kitOne K (.ref x_NoText) (.ref x_NoRow) = some false)
  (kt_NoText_NoName:W.kitOne K (.ref x_NoText) (.ref x_NoName) = some false)
  (kt_NoText_NoText:W.kitOne K (.ref x_NoText) (.ref x_NoText) = some true)
  (kt_NoText_NoMarks:W.kitOne K (.ref x_NoText) (.ref x_NoMarks) = some false)
  (kt_NoText_NoNumber:W.kitOne K (.ref x_NoText) (.ref x_NoNumber) = some false)
  (kt_NoText_NoKind:W.kitOne K (.ref x_NoText) (.ref x_NoKind) = some false)
  (kt_NoText_NoBend:W.kitOne K (.ref x_NoText) (.ref x_NoBend) = some false)
  (kt_NoText_NoAnswer:W.kitOne K (.ref x_NoText) (.ref x_NoAnswer) = some false)
  (kt_NoMarks_NoRow:W.kitOne K (.ref x_NoMarks) (.ref x_NoRow) = some false)
  (kt_NoMarks_NoName:W.kitOne K (.ref x_NoMarks) (.ref x_NoName) = some false)
  (kt_NoMarks_NoText:W.kitOne K (.ref x_NoMarks) (.ref x_NoText) = some false)
  (kt_NoMarks_NoMarks:W.kitOne K (.ref x_NoMarks) (.ref x_NoMarks) = some true)
  (kt_NoMarks_NoNumber:W.kitOne K (.ref x_NoMarks) (.ref x_NoNumber) = some false)
  (kt_NoMarks_NoKind:W.kitOne K (.ref x_NoMarks) (.ref x_NoKind) = some false)
  (kt_NoMarks_NoBend:W.kitOne K (.ref x_NoMarks) (.ref x_NoBend) = some false)
  (kt_NoMarks_NoAnswer:W.kitOne K (.ref x_NoMarks) (.ref x_NoAnswer) = some false)
  (kt_NoNumber_NoRow:W.kitOne K (.ref x_NoNumber) (.ref x_NoRow) = some false)
  (kt_NoNumber_NoName:W.kitOne K (.ref x_NoNumber) (.ref x_NoName) = some false)
  (kt_NoNumber_NoText:W.kitOne K (.ref x_NoNumber) (.ref x_NoText) = some false)
  (kt_NoNumber_NoMarks:W.kitOne K (.ref x_NoNumber) (.ref x_NoMarks) = some false)
  (kt_NoNumber_NoNumber:W.kitOne K (.ref x_NoNumber) (.ref x_NoNumber) = some true)
  (kt_NoNumber_NoKind:W.kitOne K (.ref x_NoNumber) (.ref x_NoKind) = some false)
  (kt_NoNumber_NoBend:W.kitOne K (.ref x_NoNumber) (.ref x_NoBend) = some false)
  (kt_NoNumber_NoAnswer:W.kitOne K (.ref x_NoNumber) (.ref x_NoAnswer) = some false)
  (kt_NoKind_NoRow:W.kitOne K (.ref x_NoKind) (.ref x_NoRow) = some false)
  (kt_NoKind_NoName:W.kitOne K (.ref x_NoKind) (.ref x_NoName) = some false)
  (kt_NoKind_NoText:W.kitOne K (.ref x_NoKind) (.ref x_NoText) = some false)
  (kt_NoKind_NoMarks:W.kitOne K (.ref x_NoKind) (.ref x_NoMarks) = some false)
  (kt_NoKind_NoNumber:W.kitOne K (.ref x_NoKind) (.ref x_NoNumber) = some false)
  (kt_NoKind_NoKind:W.kitOne K (.ref x_NoKind) (.ref x_NoKind) = some true)
  (kt_NoKind_NoBend:W.kitOne K (.ref x_NoKind) (.ref x_NoBend) = some false)
  (kt_NoKind_NoAnswer:W.kitOne K (.ref x_NoKind) (.ref x_NoAnswer) = some false)
  (kt_NoBend_NoRow:W.kitOne K (.ref x_NoBend) (.ref x_NoRow) = some false)
  (kt_NoBend_NoName:W.kitOne K (.ref x_NoBend) (.ref x_NoName) = some false)
  (kt_NoBend_NoText:W.kitOne K (.ref x_NoBend) (.ref x_NoText) = some false)
  (kt_NoBend_NoMarks:W.kitOne K (.ref x_NoBend) (.ref x_NoMarks) = some false)
  (kt_NoBend_NoNumber:W.kitOne K (.ref x_NoBend) (.ref x_NoNumber) = some false)
  (kt_NoBend_NoKind:W.kitOne K (.ref x_NoBend) (.ref x_NoKind) = some false)
  (kt_NoBend_NoBend:W.kitOne K (.ref x_NoBend) (.ref x_NoBend) = some true)
  (kt_NoBend_NoAnswer:W.kitOne K (.ref x_NoBend) (.ref x_NoAnswer) = some false)
  (kt_NoRow_ValueError:W.kitOne K (.ref x_NoRow) (.type "ValueError") = some true)
  (kt_NoName_ValueError:W.kitOne K (.ref x_NoName) (.type "ValueError") = some true)
  (kt_NoText_ValueError:W.kitOne K (.ref x_NoText) (.type "ValueError") = some true)
  (kt_NoMarks_ValueError:W.kitOne K (.ref x_NoMarks) (.type "ValueError") = some true)
  (kt_NoNumber_ValueError:W.kitOne K (.ref x_NoNumber) (.type "ValueError") = some true)
  (kt_NoKind_ValueError:W.kitOne K (.ref x_NoKind) (.type "ValueError") = some true)
  (kt_NoBend_ValueError:W.kitOne K (.ref x_NoBend) (.type "ValueError") = some true)
  (z_ValueError:W.nsIn K mainGlobals "ValueError" = some none)
  (z_abs:W.nsIn K mainGlobals "abs" = some none)
  (z_all:W.nsIn K mainGlobals "all" = some none)
  (z_bool:W.nsIn K mainGlobals "bool" = some none)
  (z_enumerate:W.nsIn K mainGlobals "enumerate" = some none)
  (z_int:W.nsIn K mainGlobals "int" = some none)
  (z_isinstance:W.nsIn K mainGlobals "isinstance" = some none)
  (z_len:W.nsIn K mainGlobals "len" = some none)
  (z_list:W.nsIn K mainGlobals "list" = some none)
  (z_max:W.nsIn K mainGlobals "max" = some none)
  (z_min:W.nsIn K mainGlobals "min" = some none)
  (z_range:W.nsIn K mainGlobals "range" = some none)
  (z_sorted:W.nsIn K mainGlobals "sorted" = some none)
  (z_str:W.nsIn K mainGlobals "str" = some none)
  (z_zip:W.nsIn K mainGlobals "zip" = some none)
  {tk0_COUNTS tk1_COUNTS tk2_COUNTS tk3_COUNTS tk4_COUNTS tk5_COUNTS tk6_COUNTS tk7_COUNTS:Tok} {h0_COUNTS h1_COUNTS h2_COUNTS h3_COUNTS h4_COUNTS h5_COUNTS h6_COUNTS h7_COUNTS:Int} {n_COUNTS:Nat} (zc_COUNTS:W.nsIn K mainGlobals "COUNTS" = some (some (.ref g_COUNTS))) (lk_COUNTS:K.lookup g_COUNTS = some ⟨.type "dict",none,.dict #[⟨h0_COUNTS,.str "marks" tk0_COUNTS,.ref g_COUNTS_0⟩,⟨h1_COUNTS,.str "drop" tk1_COUNTS,.ref g_COUNTS_1⟩,⟨h2_COUNTS,.str "names" tk2_COUNTS,.ref g_COUNTS_2⟩,⟨h3_COUNTS,.str "show" tk3_COUNTS,.ref g_COUNTS_3⟩,⟨h4_COUNTS,.str "bend" tk4_COUNTS,.ref g_COUNTS_4⟩,⟨h5_COUNTS,.str "rise" tk5_COUNTS,.ref g_COUNTS_5⟩,⟨h6_COUNTS,.str "steps" tk6_COUNTS,.ref g_COUNTS_6⟩,⟨h7_COUNTS,.str "judge" tk7_COUNTS,.ref g_COUNTS_7⟩] n_COUNTS,#[]⟩)
  {tq0_0_COUNTS tq0_1_COUNTS:Tok} {od0_COUNTS:Option Addr} {nn0_COUNTS:Nat} {sl0_COUNTS:Array (Option Value)} (lt0_COUNTS:K.lookup g_COUNTS_0 = some ⟨.type "tuple",od0_COUNTS,.seq #[(.int 3 tq0_0_COUNTS),(.int 62 tq0_1_COUNTS)] nn0_COUNTS,sl0_COUNTS⟩)
  {tq1_0_COUNTS tq1_1_COUNTS:Tok} {od1_COUNTS:Option Addr} {nn1_COUNTS:Nat} {sl1_COUNTS:Array (Option Value)} (lt1_COUNTS:K.lookup g_COUNTS_1 = some ⟨.type "tuple",od1_COUNTS,.seq #[(.int 2 tq1_0_COUNTS),(.int 2 tq1_1_COUNTS)] nn1_COUNTS,sl1_COUNTS⟩)
  {tq2_0_COUNTS tq2_1_COUNTS:Tok} {od2_COUNTS:Option Addr} {nn2_COUNTS:Nat} {sl2_COUNTS:Array (Option Value)} (lt2_COUNTS:K.lookup g_COUNTS_2 = some ⟨.type "tuple",od2_COUNTS,.seq #[(.int 1 tq2_0_COUNTS),(.int 1 tq2_1_COUNTS)] nn2_COUNTS,sl2_COUNTS⟩)
  {tq3_0_COUNTS tq3_1_COUNTS:Tok} {od3_COUNTS:Option Addr} {nn3_COUNTS:Nat} {sl3_COUNTS:Array (Option Value)} (lt3_COUNTS:K.lookup g_COUNTS_3 = some ⟨.type "tuple",od3_COUNTS,.seq #[(.int 2 tq3_0_COUNTS),(.int 2 tq3_1_COUNTS)] nn3_COUNTS,sl3_COUNTS⟩)
  {tq4_0_COUNTS tq4_1_COUNTS:Tok} {od4_COUNTS:Option Addr} {nn4_COUNTS:Nat} {sl4_COUNTS:Array (Option Value)} (lt4_COUNTS:K.lookup g_COUNTS_4 = some ⟨.type "tuple",od4_COUNTS,.seq #[(.int 4 tq4_0_COUNTS),(.int 4 tq4_1_COUNTS)] nn4_COUNTS,sl4_COUNTS⟩)
  {tq5_0_COUNTS tq5_1_COUNTS:Tok} {od5_COUNTS:Option Addr} {nn5_COUNTS:Nat} {sl5_COUNTS:Array (Option Value)} (lt5_COUNTS:K.lookup g_COUNTS_5 = some ⟨.type "tuple",od5_COUNTS,.seq #[(.int 3 tq5_0_COUNTS),(.int 3 tq5_1_COUNTS)] nn5_COUNTS,sl5_COUNTS⟩)
  {tq6_0_COUNTS tq6_1_COUNTS:Tok} {od6_COUNTS:Option Addr} {nn6_COUNTS:Nat} {sl6_COUNTS:Array (Option Value)} (lt6_COUNTS:K.lookup g_COUNTS_6 = some ⟨.type "tuple",od6_COUNTS,.seq #[(.int 4 tq6_0_COUNTS),(.int 4 tq6_1_COUNTS)] nn6_COUNTS,sl6_COUNTS⟩)
  {tq7_0_COUNTS tq7_1_COUNTS:Tok} {od7_COUNTS:Option Addr} {nn7_COUNTS:Nat} {sl7_COUNTS:Array (Option Value)} (lt7_COUNTS:K.lookup g_COUNTS_7 = some ⟨.type "tuple",od7_COUNTS,.seq #[(.int 4 tq7_0_COUNTS),(.int 63 tq7_1_COUNTS)] nn7_COUNTS,sl7_COUNTS⟩)
  (kl_COUNTS:W.KeysLit w.params [⟨h0_COUNTS,.str "marks" tk0_COUNTS,.ref g_COUNTS_0⟩,⟨h1_COUNTS,.str "drop" tk1_COUNTS,.ref g_COUNTS_1⟩,⟨h2_COUNTS,.str "names" tk2_COUNTS,.ref g_COUNTS_2⟩,⟨h3_COUNTS,.str "show" tk3_COUNTS,.ref g_COUNTS_3⟩,⟨h4_COUNTS,.str "bend" tk4_COUNTS,.ref g_COUNTS_4⟩,⟨h5_COUNTS,.str "rise" tk5_COUNTS,.ref g_COUNTS_5⟩,⟨h6_COUNTS,.str "steps" tk6_COUNTS,.ref g_COUNTS_6⟩,⟨h7_COUNTS,.str "judge" tk7_COUNTS,.ref g_COUNTS_7⟩]) (nz_COUNTS:(g_COUNTS == sysModules) = false)
  {tk_FIGURES:Tok} (zc_FIGURES:W.nsIn K mainGlobals "FIGURES" = some (some (.str "0123456789" tk_FIGURES)))
  {tk0_KINDS tk1_KINDS tk2_KINDS:Tok} {od_KINDS:Option Addr} {n_KINDS:Nat} {sl_KINDS:Array (Option Value)} (zc_KINDS:W.nsIn K mainGlobals "KINDS" = some (some (.ref g_KINDS)))
  (lk_KINDS:K.lookup g_KINDS = some ⟨.type "tuple",od_KINDS,.seq #[(.str "far" tk0_KINDS),(.str "sum" tk1_KINDS),(.str "square" tk2_KINDS)] n_KINDS,sl_KINDS⟩)
  {tk_LETTERS:Tok} (zc_LETTERS:W.nsIn K mainGlobals "LETTERS" = some (some (.str "abcdefghijklmnopqrstuvwxyz" tk_LETTERS)))
  {tk_MOST_BEND:Tok} (zc_MOST_BEND:W.nsIn K mainGlobals "MOST_BEND" = some (some (.int 3 tk_MOST_BEND)))
  {tk_MOST_FIGURES:Tok} (zc_MOST_FIGURES:W.nsIn K mainGlobals "MOST_FIGURES" = some (some (.int 40 tk_MOST_FIGURES)))
  {tk_MOST_LETTERS:Tok} (zc_MOST_LETTERS:W.nsIn K mainGlobals "MOST_LETTERS" = some (some (.int 8 tk_MOST_LETTERS)))
  {tk_MOST_MARKS:Tok} (zc_MOST_MARKS:W.nsIn K mainGlobals "MOST_MARKS" = some (some (.int 60 tk_MOST_MARKS)))
  {tk_MOST_NUMBERS:Tok} (zc_MOST_NUMBERS:W.nsIn K mainGlobals "MOST_NUMBERS" = some (some (.int 4 tk_MOST_NUMBERS)))
  {tk_MOST_STEPS:Tok} (zc_MOST_STEPS:W.nsIn K mainGlobals "MOST_STEPS" = some (some (.int 59 tk_MOST_STEPS)))
  {tk0_NOUGHT tk1_NOUGHT:Tok} {od_NOUGHT:Option Addr} {n_NOUGHT:Nat} {sl_NOUGHT:Array (Option Value)} (zc_NOUGHT:W.nsIn K mainGlobals "NOUGHT" = some (some (.ref g_NOUGHT)))
  (lk_NOUGHT:K.lookup g_NOUGHT = some ⟨.type "tuple",od_NOUGHT,.seq #[(.int 0 tk0_NOUGHT),(.int 1 tk1_NOUGHT)] n_NOUGHT,sl_NOUGHT⟩)
  : ∃ fd:FuncData,(∀ (s:Shared) (v:Value),BindsTo s fd ⟨[v],[]⟩ [("script",v)])/\∀ base:Heap,K.In base->base.Ns mainGlobals mg->FnOk l.prog w K mg base (eA l.prog w) 15 fa fd ["script"] (Ch K):=by
 obtain ⟨F0,F1,F2,F3,F4,F5,F6,F7,F8,F9,F10,F11,F12,F13,F14,F15,F16,F17,F18,F19,F20,F21,F22,F23,F24,F25,F26,F27,F28,F29,F30,F31,F32,F33,F34,F35,F36,F37,F38,F39,F40,F41,F42,F43,F44,F45,F46,F47,F48,F49,F50,F51,F52,F57⟩:=Fs;have e:=hfa.symm.trans (W.mg_of X G F57.a);cases e;obtain ⟨_,_,_,_,_,_,_,_,_,rfl,_,_⟩:=F57.F.ex;have T:Txt K mg ⟨f_qa,_,f_qb,_,f_qc,_,f_qd,_,f_qe,_,f_qf,_,f_qg,_,f_qh,_,f_qi,_,f_qj,_,f_qk,_,f_ql,_,f_qm,_,f_qn,_,f_qo,_,f_qp,_,f_qq,_,f_qr,_,f_qs,_,f_qt,_,f_qu,_,f_qv,_,f_qw,_,f_qx,_,f_qy,_,f_qz,_,f_qa1,_,f_qb1,_,f_qc1,_,f_qd1,_,f_qe1,_,f_qf1,_,f_qg1,_,f_qh1,_,f_qi1,_,f_qj1,_,f_qk1,_,f_ql1,_,f_qm1,_,f_qn1,_,f_qo1,_,f_qp1,_,f_qq1,_,f_qr1,_,f_qs1,_,f_qt1,_,f_qu1,_,f_qv1,_,f_qw1,_,f_qx1,_,f_qy1,_,f_qz1,_,f_qa2,_,f_qb2,_,f_qc2,_,f_qd2,_,f_qe2,_,fa,_,x_MissError,x_NoNumber,x_NoMarks,x_NoKind,x_NoBend,x_NoAnswer,x_NoText,x_NoName,x_NoRow,g_KINDS,g_NOUGHT,c_Desk,g_COUNTS,g_COUNTS_0,g_COUNTS_1,g_COUNTS_2,g_COUNTS_3,g_COUNTS_4,g_COUNTS_5,g_COUNTS_6,g_COUNTS_7⟩:=⟨F0.fd X G (by walk_at "b"),F1.fd X G (by walk_at "b"),F2.fd X G (by walk_at "b"),F3.fd X G (by walk_at "b"),F4.fd X G (by walk_at "b"),F5.fd X G (by walk_at "b"),F6.fd X G (by walk_at "b"),F7.fd X G (by walk_at "b"),F8.fd X G (by walk_at "b"),F9.fd X G (by walk_at "b"),F10.fd X G (by walk_at "b"),F11.fd X G (by walk_at "b"),F12.fd X G (by walk_at "b"),F13.fd X G (by walk_at "b"),F14.fd X G (by walk_at "b"),F15.fd X G (by walk_at "b"),F16.fd X G (by walk_at "b"),F17.fd X G (by walk_at "b"),F18.fd X G (by walk_at "b"),F19.fd X G (by walk_at "b"),F20.fd X G (by walk_at "b"),F21.fd X G (by walk_at "b"),F22.fd X G (by walk_at "b"),F23.fd X G (by walk_at "b"),F24.fd X G (by walk_at "b"),F25.fd X G (by walk_at "b"),F26.fd X G (by walk_at "b"),F27.fd X G (by walk_at "b"),F28.fd X G (by walk_at "b"),F29.fd X G (by walk_at "b"),F30.fd X G (by walk_at "b"),F31.fd X G (by walk_at "b"),F32.fd X G (by walk_at "b"),F33.fd X G (by walk_at "b"),F34.fd X G (by walk_at "b"),F35.fd X G (by walk_at "b"),F36.fd X G (by walk_at "b"),F37.fd X G (by walk_at "b"),F38.fd X G (by walk_at "b"),F39.fd X G (by walk_at "b"),F40.fd X G (by walk_at "b"),F41.fd X G (by walk_at "b"),F42.fd X G (by walk_at "b"),F43.fd X G (by walk_at "b"),F44.fd X G (by walk_at "b"),F45.fd X G (by walk_at "b"),F46.fd X G (by walk_at "b"),F47.fd X G (by walk_at "b"),F48.fd X G (by walk_at "b"),F49.fd X G (by walk_at "b"),F50.fd X G (by walk_at "b"),F51.fd X G (by walk_at "b"),F52.fd X G (by walk_at "b"),F53,⟨a53,i53,F53.kp⟩,F53.binds (by walk_at "b"),F54,⟨a54,i54,F54.kp⟩,F54.binds (by walk_at "b"),F55,⟨a55,i55,F55.kp⟩,F55.binds (by walk_at "b"),F56,⟨a56,i56,F56.kp⟩,F56.binds (by walk_at "b"),F57.fd X G (by walk_at "b"),⟨xx_MissError,W.mg_of X G ax_MissError⟩,⟨xx_NoNumber,W.mg_of X G ax_NoNumber⟩,⟨xx_NoMarks,W.mg_of X G ax_NoMarks⟩,⟨xx_NoKind,W.mg_of X G ax_NoKind⟩,⟨xx_NoBend,W.mg_of X G ax_NoBend⟩,⟨xx_NoAnswer,W.mg_of X G ax_NoAnswer⟩,⟨xx_NoText,W.mg_of X G ax_NoText⟩,⟨xx_NoName,W.mg_of X G ax_NoName⟩,⟨xx_NoRow,W.mg_of X G ax_NoRow⟩,⟨xkg_NoRow,xka_NoRow,xkc_NoRow,xko_NoRow,xkb_NoRow⟩,⟨xkg_NoName,xka_NoName,xkc_NoName,xko_NoName,xkb_NoName⟩,⟨xkg_NoText,xka_NoText,xkc_NoText,xko_NoText,xkb_NoText⟩,⟨xkg_NoMarks,xka_NoMarks,xkc_NoMarks,xko_NoMarks,xkb_NoMarks⟩,⟨xkg_NoNumber,xka_NoNumber,xkc_NoNumber,xko_NoNumber,xkb_NoNumber⟩,⟨xkg_NoKind,xka_NoKind,xkc_NoKind,xko_NoKind,xkb_NoKind⟩,⟨xkg_NoBend,xka_NoBend,xkc_NoBend,xko_NoBend,xkb_NoBend⟩,em_NoRow_MissError,em_NoName_MissError,em_NoText_MissError,em_NoMarks_MissError,em_NoNumber_MissError,em_NoKind_MissError,em_NoBend_MissError,kt_NoRow_NoRow,kt_NoRow_NoName,kt_NoRow_NoText,kt_NoRow_NoMarks,kt_NoRow_NoNumber,kt_NoRow_NoKind,kt_NoRow_NoBend,kt_NoRow_NoAnswer,kt_NoName_NoRow,kt_NoName_NoName,kt_NoName_NoText,kt_NoName_NoMarks,kt_NoName_NoNumber,kt_NoName_NoKind,kt_NoName_NoBend,kt_NoName_NoAnswer,kt_NoText_NoRow,kt_NoText_NoName,kt_NoText_NoText,kt_NoText_NoMarks,kt_NoText_NoNumber,kt_NoText_NoKind,kt_NoText_NoBend,kt_NoText_NoAnswer,kt_NoMarks_NoRow,kt_NoMarks_NoName,kt_NoMarks_NoText,kt_NoMarks_NoMarks,kt_NoMarks_NoNumber,kt_NoMarks_NoKind,kt_NoMarks_NoBend,kt_NoMarks_NoAnswer,kt_NoNumber_NoRow,kt_NoNumber_NoName,kt_NoNumber_NoText,kt_NoNumber_NoMarks,kt_NoNumber_NoNumber,kt_NoNumber_NoKind,kt_NoNumber_NoBend,kt_NoNumber_NoAnswer,kt_NoKind_NoRow,kt_NoKind_NoName,kt_NoKind_NoText,kt_NoKind_NoMarks,kt_NoKind_NoNumber,kt_NoKind_NoKind,kt_NoKind_NoBend,kt_NoKind_NoAnswer,kt_NoBend_NoRow,kt_NoBend_NoName,kt_NoBend_NoText,kt_NoBend_NoMarks,kt_NoBend_NoNumber,kt_NoBend_NoKind,kt_NoBend_NoBend,kt_NoBend_NoAnswer,kt_NoRow_ValueError,kt_NoName_ValueError,kt_NoText_ValueError,kt_NoMarks_ValueError,kt_NoNumber_ValueError,kt_NoKind_ValueError,kt_NoBend_ValueError,W.mg_none_of X G z_ValueError,W.mg_none_of X G z_abs,W.mg_none_of X G z_all,W.mg_none_of X G z_bool,W.mg_none_of X G z_enumerate,W.mg_none_of X G z_int,W.mg_none_of X G z_isinstance,W.mg_none_of X G z_len,W.mg_none_of X G z_list,W.mg_none_of X G z_max,W.mg_none_of X G z_min,W.mg_none_of X G z_range,W.mg_none_of X G z_sorted,W.mg_none_of X G z_str,W.mg_none_of X G z_zip,W.mg_of X G oa_Desk,⟨pg_Desk,hd_Desk,po_Desk,sa_Desk⟩,⟨mk_Desk,a53,i53,kc_Desk⟩,na_Desk,W.mg_of X G zc_COUNTS,⟨_,W.mg_of X G zc_FIGURES⟩,W.mg_of X G zc_KINDS,tK (xs:=[(.str "far"),(.str "sum"),(.str "square")]) lk_KINDS (le_of_lt (bT (show 3<=1000 by decide))) (.cons ⟨_,rfl⟩ (.cons ⟨_,rfl⟩ (.cons ⟨_,rfl⟩ .nil))) fun _=>.cons (.str "far") (.cons (.str "sum") (.cons (.str "square") .nil)),⟨_,W.mg_of X G zc_LETTERS⟩,⟨_,W.mg_of X G zc_MOST_BEND⟩,⟨_,W.mg_of X G zc_MOST_FIGURES⟩,⟨_,W.mg_of X G zc_MOST_LETTERS⟩,⟨_,W.mg_of X G zc_MOST_MARKS⟩,⟨_,W.mg_of X G zc_MOST_NUMBERS⟩,⟨_,W.mg_of X G zc_MOST_STEPS⟩,W.mg_of X G zc_NOUGHT,tK (xs:=[(.int 0),(.int 1)]) lk_NOUGHT (le_of_lt (bT (show 2<=1000 by decide))) (.cons ⟨_,rfl⟩ (.cons ⟨_,rfl⟩ .nil)) fun _=>.cons (.int 0) (.cons (.int 1) .nil)⟩;exact ⟨_,fun s v=>.of_eq rfl,fun base _ _=>aCk T ⟨nz_COUNTS,_,_,lk_COUNTS,kl_COUNTS,.cons ⟨⟨_,rfl⟩,rfl⟩ (.cons ⟨⟨_,rfl⟩,rfl⟩ (.cons ⟨⟨_,rfl⟩,rfl⟩ (.cons ⟨⟨_,rfl⟩,rfl⟩ (.cons ⟨⟨_,rfl⟩,rfl⟩ (.cons ⟨⟨_,rfl⟩,rfl⟩ (.cons ⟨⟨_,rfl⟩,rfl⟩ (.cons ⟨⟨_,rfl⟩,rfl⟩ (.nil)))))))),(forall_mem_cons.2 ⟨tK (xs:=[(.int 3),(.int 62)]) lt0_COUNTS (le_of_lt (bT (show 2<=1000 by decide))) (.cons ⟨_,rfl⟩ (.cons ⟨_,rfl⟩ (.nil))) fun _=>.cons (.int 3) (.cons (.int 62) (.nil)),(forall_mem_cons.2 ⟨tK (xs:=[(.int 2),(.int 2)]) lt1_COUNTS (le_of_lt (bT (show 2<=1000 by decide))) (.cons ⟨_,rfl⟩ (.cons ⟨_,rfl⟩ (.nil))) fun _=>.cons (.int 2) (.cons (.int 2) (.nil)),(forall_mem_cons.2 ⟨tK (xs:=[(.int 1),(.int 1)]) lt2_COUNTS (le_of_lt (bT (show 2<=1000 by decide))) (.cons ⟨_,rfl⟩ (.cons ⟨_,rfl⟩ (.nil))) fun _=>.cons (.int 1) (.cons (.int 1) (.nil)),(forall_mem_cons.2 ⟨tK (xs:=[(.int 2),(.int 2)]) lt3_COUNTS (le_of_lt (bT (show 2<=1000 by decide))) (.cons ⟨_,rfl⟩ (.cons ⟨_,rfl⟩ (.nil))) fun _=>.cons (.int 2) (.cons (.int 2) (.nil)),(forall_mem_cons.2 ⟨tK (xs:=[(.int 4),(.int 4)]) lt4_COUNTS (le_of_lt (bT (show 2<=1000 by decide))) (.cons ⟨_,rfl⟩ (.cons ⟨_,rfl⟩ (.nil))) fun _=>.cons (.int 4) (.cons (.int 4) (.nil)),(forall_mem_cons.2 ⟨tK (xs:=[(.int 3),(.int 3)]) lt5_COUNTS (le_of_lt (bT (show 2<=1000 by decide))) (.cons ⟨_,rfl⟩ (.cons ⟨_,rfl⟩ (.nil))) fun _=>.cons (.int 3) (.cons (.int 3) (.nil)),(forall_mem_cons.2 ⟨tK (xs:=[(.int 4),(.int 4)]) lt6_COUNTS (le_of_lt (bT (show 2<=1000 by decide))) (.cons ⟨_,rfl⟩ (.cons ⟨_,rfl⟩ (.nil))) fun _=>.cons (.int 4) (.cons (.int 4) (.nil)),(forall_mem_cons.2 ⟨tK (xs:=[(.int 4),(.int 63)]) lt7_COUNTS (le_of_lt (bT (show 2<=1000 by decide))) (.cons ⟨_,rfl⟩ (.cons ⟨_,rfl⟩ (.nil))) fun _=>.cons (.int 4) (.cons (.int 63) (.nil)),(fun _ h=>nomatch h)⟩)⟩)⟩)⟩)⟩)⟩)⟩)⟩)⟩⟩
end My
namespace PySem.W.Fast
def tw14077751503049014558:=()
def tw2923376712744539121:=()
def tw15900701372184550629:=()
def tw9393857709532191244:=()
def tw7483230589063719492:=()
def tw11160947008967777813:=()
def tw7123024554209830383:=()
def tw17555596952119176504:=()
def tw3669481891223256503:=()
def tw16999994484061581037:=()
def tw6876427895538671508:=()
def tw6311358493727295797:=()
def tw10429346915717230425:=()
def tw4431571290376336932:=()
def tw2346642070391399987:=()
def tw15261488439135021395:=()
def tw5110943442109471448:=()
def tw4549206043656679457:=()
def tw12070953087181811484:=()
def tw5640197626705190697:=()
def tw9152154374476532811:=()
def tw16101653737740165955:=()
def tw2545134150778848500:=()
def tw9097128095448830867:=()
def tw6320793253640142671:=()
def tw15657883241131566918:=()
def tw12791958593173851358:=()
def tw3768410608484763311:=()
def tw16904606196609012620:=()
def tw8375204725663632876:=()
def tw2569269745086603041:=()
def tw12772476316411455899:=()
def tw18426605018855237149:=()
def tw14811867232283193063:=()
def tw13578753052078911930:=()
def tw11653923850599475926:=()
def tw13628146553449514035:=()
def tw9900139626008659534:=()
def tw3033873655668655321:=()
def tw18000201422272562287:=()
def tw14712802136755022647:=()
def tw11634294222386068083:=()
def tw9167590293905366928:=()
def tw11794444261245097137:=()
def tw18011866054920676334:=()
def tw6439350425885878821:=()
def tw10116475703543380844:=()
def tw1068862699372072985:=()
def tw8819091942041975682:=()
def tw1462018067002001541:=()
def tw14772085067349860564:=()
def tw1993984710864033936:=()
def tw18295717519651463043:=()
def tw1658589796312315434:=()
def tw7299452659924056416:=()
def tw2299256303219966016:=()
def tw11042351704809776908:=()
def tw10860779725916512564:=()
def tw2110771990839588034:=()
def tw8102585101663714089:=()
def tw14425509352361588702:=()
def tw14435158049849163023:=()
def tw6349580666632204077:=()
def tw4761905280442417228:=()
def tw776925873054729983:=()
def tw11827256731813747016:=()
def tw1374096810104999961:=()
def tw14704356508756260188:=()
def tw12713380815745878867:=()
def tw13934161935643796614:=()
def tw18411239557000963296:=()
def tw17307041593719269553:=()
def tw6885939127099713948:=()
def tw14562857457354491599:=()
def tw810073684978480908:=()
def tw9323949180724797457:=()
def tw1582972063989211343:=()
def tw14152639781902179758:=()
def tw280475154694053525:=()
def tw6214115690606828993:=()
def tw14939655843387596942:=()
def tw17895602014403760141:=()
def tw14094014076825506458:=()
def tw12974696669024149201:=()
def tw4444565269638561642:=()
def tw15886508203088386501:=()
def tw12773362787347072079:=()
def tw2639787154992325756:=()
def tw13541392633287033202:=()
def tw14095192751637465185:=()
def tw17700454173784158210:=()
def tw18315777473058470706:=()
def tw2974792570705677523:=()
def tw7775764625491332962:=()
def tw8603512755171254251:=()
def tw18098590991023111824:=()
def tw12512485763448623542:=()
def tw3064673860871829658:=()
def tw3898729690848139608:=()
def tw5870496837960941709:=()
def tw4111590077027677619:=()
def tw16363850553273535713:=()
def tw17530410894066852209:=()
def tw4175697526926948329:=()
def tw9508300426222723613:=()
def tw12091667233107283869:=()
def tw17356592621427466719:=()
def tw17624860625877717852:=()
def tw5491785743122770534:=()
def tw4361130807046107302:=()
def tw16755361716011299113:=()
def tw11203450674530557089:=()
def tw9481190833890838571:=()
def tw14197439761639767768:=()
def tw15176834844946729071:=()
def tw6128031259706720037:=()
def tw3770112495340381459:=()
def tw13432001328044185598:=()
def tw9955088991930995206:=()
def tw17990763190196075111:=()
def tw8269306953728026730:=()
def tw8438690902188478003:=()
def tw13625870581326462673:=()
def tw15275307903133450727:=()
def tw17108494059515950466:=()
def tw6421456138023324975:=()
def tw13809256299661210551:=()
def tw11084670616821144008:=()
def tw9561218612730527349:=()
def tw2490070891290776984:=()
def tw11498371983869934867:=()
def tw14022524620110070419:=()
def tw6316587991945068565:=()
def tw13644512615289979730:=()
def tw10123976761324268931:=()
def tw11405061025391641625:=()
def tw2078924717072171906:=()
def tw17863121865179846337:=()
def tw11392659536998554790:=()
def tw5369158793502281121:=()
def tw16956566863466387460:=()
def tw199420064292729892:=()
def tw12358950726848149378:=()
def tw10590831899334479882:=()
def tw3827401495478008160:=()
def tw5289775377691152346:=()
def tw13117971267398374022:=()
def tw5664735102602950307:=()
def tw11193242039258730735:=()
def tw4946248563916746580:=()
def tw10068867079722079022:=()
def tw16023682463577984107:=()
def tw3432149915638982350:=()
def tw10431853443615618365:=()
def tw10388474934068606740:=()
def tw16383456030648517696:=()
def tw8317554789259072255:=()
def tw8097261817162190327:=()
def tw625248974623134920:=()
def tw15172562134515788104:=()
def tw1546084463970156942:=()
def tw7436308259802863560:=()
def tw2495233304105727010:=()
def tw17027945975364155561:=()
def tw17414216912752966907:=()
def tw18407884300903053876:=()
def tw15189510665202924049:=()
def tw1095242412674452779:=()
def tw8223564118209624722:=()
def tw430605127260152368:=()
def tw12935547786159428725:=()
def tw15252905447603481405:=()
def tw3159683092017458388:=()
def tw11672859542565773719:=()
def tw14314669906929712805:=()
def tw16424597061669952834:=()
def tw1330977396540375516:=()
def tw13363262927689283055:=()
def tw14939419311472679393:=()
def tw5229952671872668061:=()
def tw5599779659373482990:=()
def tw3853674436658563624:=()
def tw2448829652440844851:=()
def tw11619796749839739314:=()
def tw13162151818184945321:=()
def tw4309153429117023548:=()
def tw10446064863468087072:=()
def tw2606514819888341954:=()
def tw14825754437705524273:=()
def tw8646710756162463062:=()
def tw14693453312774659441:=()
def tw11346593636627242116:=()
def tw4351365081504409879:=()
def tw15289905840987762013:=()
def tw12058187233847946615:=()
def tw12055399936349500934:=()
def tw4589510941589375853:=()
def tw1691694036304445923:=()
def tw2119438401523423226:=()
def tw865672067590246344:=()
end PySem.W.Fast
end
open PySem PySem.W PyProof.Rows
set_option maxRecDepth 100000 in
set_option maxHeartbeats 0 in
theorem PySem.Challenge.cw_leastmiss_k75_desk_refused_holds : PySem.Challenge.rw_leastmiss_k75_desk_refused.Holds := by
  w_on; o_law; k_head; (case hw => w_witness2)
  k_fill
  refine Lx.walkB (l := PySem.Challenge.rw_leastmiss_k75_desk_refused) (k := 15) rfl rfl ⟨rfl, by decide, by decide⟩ (fun w h Y => PySem.W.kIn_of Y) ?F
  case F =>
    intro w mg fa h KX G hmg
    refine' My.all_mk KX G hmg ?oa_Desk ?pg_Desk ?hd_Desk ?po_Desk ?sa_Desk ?mk_Desk ?kc_Desk ?na_Desk ?Fs ?a53 ?i53 ?F53 ?a54 ?i54 ?F54 ?a55 ?i55 ?F55 ?a56 ?i56 ?F56 ?ax_MissError ?xx_MissError ?ax_NoNumber ?xx_NoNumber ?ax_NoMarks ?xx_NoMarks ?ax_NoKind ?xx_NoKind ?ax_NoBend ?xx_NoBend ?ax_NoAnswer ?xx_NoAnswer ?ax_NoText ?xx_NoText ?ax_NoName ?xx_NoName ?ax_NoRow ?xx_NoRow ?xkg_NoRow ?xka_NoRow ?xkc_NoRow ?xko_NoRow ?xkb_NoRow ?xkg_NoName ?xka_NoName ?xkc_NoName ?xko_NoName ?xkb_NoName ?xkg_NoText ?xka_NoText ?xkc_NoText ?xko_NoText ?xkb_NoText ?xkg_NoMarks ?xka_NoMarks ?xkc_NoMarks ?xko_NoMarks ?xkb_NoMarks ?xkg_NoNumber ?xka_NoNumber ?xkc_NoNumber ?xko_NoNumber ?xkb_NoNumber ?xkg_NoKind ?xka_NoKind ?xkc_NoKind ?xko_NoKind ?xkb_NoKind ?xkg_NoBend ?xka_NoBend ?xkc_NoBend ?xko_NoBend ?xkb_NoBend ?em_NoRow_MissError ?em_NoName_MissError ?em_NoText_MissError ?em_NoMarks_MissError ?em_NoNumber_MissError ?em_NoKind_MissError ?em_NoBend_MissError ?kt_NoRow_NoRow ?kt_NoRow_NoName ?kt_NoRow_NoText ?kt_NoRow_NoMarks ?kt_NoRow_NoNumber ?kt_NoRow_NoKind ?kt_NoRow_NoBend ?kt_NoRow_NoAnswer ?kt_NoName_NoRow ?kt_NoName_NoName ?kt_NoName_NoText ?kt_NoName_NoMarks ?kt_NoName_NoNumber ?kt_NoName_NoKind ?kt_NoName_NoBend ?kt_NoName_NoAnswer ?kt_NoText_NoRow ?kt_NoText_NoName ?kt_NoText_NoText ?kt_NoText_NoMarks ?kt_NoText_NoNumber ?kt_NoText_NoKind ?kt_NoText_NoBend ?kt_NoText_NoAnswer ?kt_NoMarks_NoRow ?kt_NoMarks_NoName ?kt_NoMarks_NoText ?kt_NoMarks_NoMarks ?kt_NoMarks_NoNumber ?kt_NoMarks_NoKind ?kt_NoMarks_NoBend ?kt_NoMarks_NoAnswer ?kt_NoNumber_NoRow ?kt_NoNumber_NoName ?kt_NoNumber_NoText ?kt_NoNumber_NoMarks ?kt_NoNumber_NoNumber ?kt_NoNumber_NoKind ?kt_NoNumber_NoBend ?kt_NoNumber_NoAnswer ?kt_NoKind_NoRow ?kt_NoKind_NoName ?kt_NoKind_NoText ?kt_NoKind_NoMarks ?kt_NoKind_NoNumber ?kt_NoKind_NoKind ?kt_NoKind_NoBend ?kt_NoKind_NoAnswer ?kt_NoBend_NoRow ?kt_NoBend_NoName ?kt_NoBend_NoText ?kt_NoBend_NoMarks ?kt_NoBend_NoNumber ?kt_NoBend_NoKind ?kt_NoBend_NoBend ?kt_NoBend_NoAnswer ?kt_NoRow_ValueError ?kt_NoName_ValueError ?kt_NoText_ValueError ?kt_NoMarks_ValueError ?kt_NoNumber_ValueError ?kt_NoKind_ValueError ?kt_NoBend_ValueError ?z_ValueError ?z_abs ?z_all ?z_bool ?z_enumerate ?z_int ?z_isinstance ?z_len ?z_list ?z_max ?z_min ?z_range ?z_sorted ?z_str ?z_zip ?zc_COUNTS ?lk_COUNTS ?lt0_COUNTS ?lt1_COUNTS ?lt2_COUNTS ?lt3_COUNTS ?lt4_COUNTS ?lt5_COUNTS ?lt6_COUNTS ?lt7_COUNTS ?kl_COUNTS ?nz_COUNTS ?zc_FIGURES ?zc_KINDS ?lk_KINDS ?zc_LETTERS ?zc_MOST_BEND ?zc_MOST_FIGURES ?zc_MOST_LETTERS ?zc_MOST_MARKS ?zc_MOST_NUMBERS ?zc_MOST_STEPS ?zc_NOUGHT ?lk_NOUGHT
    (case oa_Desk => k_is)
    (case pg_Desk => k_is)
    (case hd_Desk => k_is)
    (case po_Desk => k_is)
    (case sa_Desk => k_is)
    (case mk_Desk => k_is)
    (case kc_Desk => k_is)
    (case na_Desk => k_is)
    (case Fs => (repeat' (apply And.intro)) <;> (refine' My.fg_mk ?xa ?xl ?xc ?xk; (case xa => k_is); (case xl => k_is); (case xc => k_is); (case xk => k_is)))
    (case a53 => k_is)
    (case i53 => k_is)
    (case F53 => refine' L2.fun_mk ?l ?c ?k; (case l => k_is); (case c => k_is); (case k => k_is))
    (case a54 => k_is)
    (case i54 => k_is)
    (case F54 => refine' L2.fun_mk ?l ?c ?k; (case l => k_is); (case c => k_is); (case k => k_is))
    (case a55 => k_is)
    (case i55 => k_is)
    (case F55 => refine' L2.fun_mk ?l ?c ?k; (case l => k_is); (case c => k_is); (case k => k_is))
    (case a56 => k_is)
    (case i56 => k_is)
    (case F56 => refine' L2.fun_mk ?l ?c ?k; (case l => k_is); (case c => k_is); (case k => k_is))
    (case ax_MissError => k_is)
    (case xx_MissError => k_exc)
    (case ax_NoNumber => k_is)
    (case xx_NoNumber => k_exc)
    (case ax_NoMarks => k_is)
    (case xx_NoMarks => k_exc)
    (case ax_NoKind => k_is)
    (case xx_NoKind => k_exc)
    (case ax_NoBend => k_is)
    (case xx_NoBend => k_exc)
    (case ax_NoAnswer => k_is)
    (case xx_NoAnswer => k_exc)
    (case ax_NoText => k_is)
    (case xx_NoText => k_exc)
    (case ax_NoName => k_is)
    (case xx_NoName => k_exc)
    (case ax_NoRow => k_is)
    (case xx_NoRow => k_exc)
    (case xkg_NoRow => k_is)
    (case xka_NoRow => k_is)
    (case xkc_NoRow => k_is)
    (case xko_NoRow => k_is)
    (case xkb_NoRow => k_is)
    (case xkg_NoName => k_is)
    (case xka_NoName => k_is)
    (case xkc_NoName => k_is)
    (case xko_NoName => k_is)
    (case xkb_NoName => k_is)
    (case xkg_NoText => k_is)
    (case xka_NoText => k_is)
    (case xkc_NoText => k_is)
    (case xko_NoText => k_is)
    (case xkb_NoText => k_is)
    (case xkg_NoMarks => k_is)
    (case xka_NoMarks => k_is)
    (case xkc_NoMarks => k_is)
    (case xko_NoMarks => k_is)
    (case xkb_NoMarks => k_is)
    (case xkg_NoNumber => k_is)
    (case xka_NoNumber => k_is)
    (case xkc_NoNumber => k_is)
    (case xko_NoNumber => k_is)
    (case xkb_NoNumber => k_is)
    (case xkg_NoKind => k_is)
    (case xka_NoKind => k_is)
    (case xkc_NoKind => k_is)
    (case xko_NoKind => k_is)
    (case xkb_NoKind => k_is)
    (case xkg_NoBend => k_is)
    (case xka_NoBend => k_is)
    (case xkc_NoBend => k_is)
    (case xko_NoBend => k_is)
    (case xkb_NoBend => k_is)
    (case em_NoRow_MissError => kts_exm)
    (case em_NoName_MissError => kts_exm)
    (case em_NoText_MissError => kts_exm)
    (case em_NoMarks_MissError => kts_exm)
    (case em_NoNumber_MissError => kts_exm)
    (case em_NoKind_MissError => kts_exm)
    (case em_NoBend_MissError => kts_exm)
    (case kt_NoRow_NoRow => kit_is)
    (case kt_NoRow_NoName => kit_is)
    (case kt_NoRow_NoText => kit_is)
    (case kt_NoRow_NoMarks => kit_is)
    (case kt_NoRow_NoNumber => kit_is)
    (case kt_NoRow_NoKind => kit_is)
    (case kt_NoRow_NoBend => kit_is)
    (case kt_NoRow_NoAnswer => kit_is)
    (case kt_NoName_NoRow => kit_is)
    (case kt_NoName_NoName => kit_is)
    (case kt_NoName_NoText => kit_is)
    (case kt_NoName_NoMarks => kit_is)
    (case kt_NoName_NoNumber => kit_is)
    (case kt_NoName_NoKind => kit_is)
    (case kt_NoName_NoBend => kit_is)
    (case kt_NoName_NoAnswer => kit_is)
    (case kt_NoText_NoRow => kit_is)
    (case kt_NoText_NoName => kit_is)
    (case kt_NoText_NoText => kit_is)
    (case kt_NoText_NoMarks => kit_is)
    (case kt_NoText_NoNumber => kit_is)
    (case kt_NoText_NoKind => kit_is)
    (case kt_NoText_NoBend => kit_is)
    (case kt_NoText_NoAnswer => kit_is)
    (case kt_NoMarks_NoRow => kit_is)
    (case kt_NoMarks_NoName => kit_is)
    (case kt_NoMarks_NoText => kit_is)
    (case kt_NoMarks_NoMarks => kit_is)
    (case kt_NoMarks_NoNumber => kit_is)
    (case kt_NoMarks_NoKind => kit_is)
    (case kt_NoMarks_NoBend => kit_is)
    (case kt_NoMarks_NoAnswer => kit_is)
    (case kt_NoNumber_NoRow => kit_is)
    (case kt_NoNumber_NoName => kit_is)
    (case kt_NoNumber_NoText => kit_is)
    (case kt_NoNumber_NoMarks => kit_is)
    (case kt_NoNumber_NoNumber => kit_is)
    (case kt_NoNumber_NoKind => kit_is)
    (case kt_NoNumber_NoBend => kit_is)
    (case kt_NoNumber_NoAnswer => kit_is)
    (case kt_NoKind_NoRow => kit_is)
    (case kt_NoKind_NoName => kit_is)
    (case kt_NoKind_NoText => kit_is)
    (case kt_NoKind_NoMarks => kit_is)
    (case kt_NoKind_NoNumber => kit_is)
    (case kt_NoKind_NoKind => kit_is)
    (case kt_NoKind_NoBend => kit_is)
    (case kt_NoKind_NoAnswer => kit_is)
    (case kt_NoBend_NoRow => kit_is)
    (case kt_NoBend_NoName => kit_is)
    (case kt_NoBend_NoText => kit_is)
    (case kt_NoBend_NoMarks => kit_is)
    (case kt_NoBend_NoNumber => kit_is)
    (case kt_NoBend_NoKind => kit_is)
    (case kt_NoBend_NoBend => kit_is)
    (case kt_NoBend_NoAnswer => kit_is)
    (case kt_NoRow_ValueError => kit_is)
    (case kt_NoName_ValueError => kit_is)
    (case kt_NoText_ValueError => kit_is)
    (case kt_NoMarks_ValueError => kit_is)
    (case kt_NoNumber_ValueError => kit_is)
    (case kt_NoKind_ValueError => kit_is)
    (case kt_NoBend_ValueError => kit_is)
    (case z_ValueError => k_is)
    (case z_abs => k_is)
    (case z_all => k_is)
    (case z_bool => k_is)
    (case z_enumerate => k_is)
    (case z_int => k_is)
    (case z_isinstance => k_is)
    (case z_len => k_is)
    (case z_list => k_is)
    (case z_max => k_is)
    (case z_min => k_is)
    (case z_range => k_is)
    (case z_sorted => k_is)
    (case z_str => k_is)
    (case z_zip => k_is)
    (case zc_COUNTS => k_is)
    (case lk_COUNTS => k_is)
    (case lt0_COUNTS => k_is)
    (case lt1_COUNTS => k_is)
    (case lt2_COUNTS => k_is)
    (case lt3_COUNTS => k_is)
    (case lt4_COUNTS => k_is)
    (case lt5_COUNTS => k_is)
    (case lt6_COUNTS => k_is)
    (case lt7_COUNTS => k_is)
    (case kl_COUNTS => exact ⟨⟨_, _, rfl, rfl⟩, ⟨⟨_, _, rfl, rfl⟩, ⟨⟨_, _, rfl, rfl⟩, ⟨⟨_, _, rfl, rfl⟩, ⟨⟨_, _, rfl, rfl⟩, ⟨⟨_, _, rfl, rfl⟩, ⟨⟨_, _, rfl, rfl⟩, ⟨⟨_, _, rfl, rfl⟩, trivial⟩⟩⟩⟩⟩⟩⟩⟩)
    (case nz_COUNTS => rfl)
    (case zc_FIGURES => k_is)
    (case zc_KINDS => k_is)
    (case lk_KINDS => k_is)
    (case zc_LETTERS => k_is)
    (case zc_MOST_BEND => k_is)
    (case zc_MOST_FIGURES => k_is)
    (case zc_MOST_LETTERS => k_is)
    (case zc_MOST_MARKS => k_is)
    (case zc_MOST_NUMBERS => k_is)
    (case zc_MOST_STEPS => k_is)
    (case zc_NOUGHT => k_is)
    (case lk_NOUGHT => k_is)
